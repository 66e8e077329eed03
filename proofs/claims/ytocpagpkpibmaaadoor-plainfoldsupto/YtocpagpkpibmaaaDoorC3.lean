import Derived.Test.YtocpagpkpibmaaaDoorC2
/-
  OWN WORK (by mkpnx.py). The law's taken (layer 18).
-/
namespace Go.Proofs.YtocpagpkpibmaaaDoor
open Go.RowKit
set_option linter.unusedVariables false
set_option linter.unusedSimpArgs false

set_option maxRecDepth 20000 in
set_option maxHeartbeats 12800000 in
theorem taken_any (v : Value) (L : List (List Chg)) (g : Nat) (w : World) (hL : Li w v L) (hN : L.flatten.length + L.length ≤ 1048576) (hg : g < w.heap.size) : Calls Tryd.prog 5 #[v] w fun e w' => ∃ vo vr D E, e = .returned (.tuple #[vo, vr]) ∧ Tk1 w w' g L L.length vo vr D E := by
  obtain ⟨p0, q0, hv, -⟩ := hL.shape
  subst hv
  obtain ⟨n, hn⟩ : ∃ n, n = L.length := ⟨_, rfl⟩
  have HL := @hideH _ hL
  have HN := @hideH _ (show n = L.length ∧ L.flatten.length + n ≤ 1048576 ∧ g < w.heap.size from ⟨hn, by omega, hg⟩)
  rw [← hn]
  clear hL hN hg hn
  obtain ⟨infC, hin1, hin2, hin3, hin4⟩ := info_parts3 (show (Tryd.prog.info? 56).map (fun i => (i.zero, i.size, i.bytes)) = some (some (.agg #[.int .i64 0, .int .u64 0, .bool false]), 3, 24) by kernel_rfl)
  have HIC := @hideH _ (And.intro hin1 (And.intro hin2 (And.intro hin3 hin4)))
  clear hin1 hin2 hin3 hin4
  obtain ⟨infR, hin1, hin2, hin3, hin4⟩ := info_parts3 (show (Tryd.prog.info? 57).map (fun i => (i.zero, i.size, i.bytes)) = some (some (.agg #[.int .i64 0, .int .u64 0, .bool false]), 3, 24) by kernel_rfl)
  have HIR := @hideH _ (And.intro hin1 (And.intro hin2 (And.intro hin3 hin4)))
  clear hin1 hin2 hin3 hin4
  obtain ⟨infD, hin1, hin2, hin3, hin4⟩ := info_parts3 (show (Tryd.prog.info? 33).map (fun i => (i.zero, i.size, i.bytes)) = some (some (.slice none 0 0), 1, 24) by kernel_rfl)
  have HID := @hideH _ (And.intro hin1 (And.intro hin2 (And.intro hin3 hin4)))
  clear hin1 hin2 hin3 hin4
  obtain ⟨infE, hin1, hin2, hin3, hin4⟩ := info_parts3 (show (Tryd.prog.info? 34).map (fun i => (i.zero, i.size, i.bytes)) = some (some (.slice none 0 0), 1, 24) by kernel_rfl)
  have HIE := @hideH _ (And.intro hin1 (And.intro hin2 (And.intro hin3 hin4)))
  clear hin1 hin2 hin3 hin4
  go_enter Tryd.func5, Tryd.ntmps5
  go_wp2
  go_loopw [4, 5, 6] (fun vo vr vi wr => ∃ (i : Nat) (po : Option Addr) (co : Nat) (pr : Option Addr) (cr : Nat), i ≤ n ∧ vi = .int .i64 i ∧ vo = .slice po i co ∧ vr = .slice pr i cr ∧ Hid (∃ D E, D.length = i ∧ E.length = i ∧ Tk1 w wr g L i (.slice po i co) (.slice pr i cr) D E)) (fun _ _ vi _ => n - (intOf vi).toNat)
  case atStart => exact ⟨0, none, 0, none, 0, Nat.zero_le _, rfl, rfl, rfl, [], [], rfl, rfl, Tk1.start HN.out.2.2⟩
  case round =>
    obtain ⟨i, po, co, pr, cr, hi, rfl, rfl, rfl, hh⟩ := hrel
    obtain ⟨D, E, hD, hE, A⟩ := hh.out
    clear hh
    have HA := @hideH _ A
    have HD := @hideH _ (And.intro hD hE)
    clear A hD hE
    by_cases hil : i < n
    rotate_left
    · have hil' : ¬ (i : Int) < (n : Int) := by omega
      have HI := @hideH _ (show i = n by omega)
      clear hil hi
      go_wp2
      go_ret2
      refine ⟨_, _, rfl, D, E, ?_⟩
      have q := HA.out
      rw [← HI.out]
      exact q
    have hil' : (i : Int) < (n : Int) := by omega
    have hi0 : (0 : Int) ≤ (i : Int) := by omega
    have wi : IntKind.i64.wrap ((i : Int) + 1) = (i : Int) + 1 := wrap_i64_of (by omega) (by have := HN.out.2.1; omega)
    obtain ⟨wo, rfl⟩ : ∃ wo, wo = wr := ⟨_, rfl⟩
    obtain ⟨l, hl⟩ : ∃ l, L[i]? = some l := ⟨_, List.getElem?_eq_getElem (by have := HN.out.1; omega)⟩
    obtain ⟨b, o, c, u, hv, hu, hc⟩ := HL.out.at hl
    have hv' := (Value.slice.inj hv).1
    subst hv'
    clear hv
    obtain ⟨pl, cl, hul, -⟩ := hc.shape
    subst hul
    obtain ⟨m, hm⟩ : ∃ m, m = l.length := ⟨_, rfl⟩
    rw [← hm] at hu hc
    have HC := @hideH _ hc
    have HU := @hideH _ hu
    have HM := @hideH _ (show m = l.length ∧ m ≤ 1048576 ∧ L[i]? = some l from ⟨hm, by have e1 := len_flat (List.mem_of_getElem? hl); have e2 := HN.out.2.1; omega, hl⟩)
    clear hl hu hc hm
    have HA2 := @hideH _ HA.out.inner
    have huo := HA.out.kp.cell HU.out (by simp)
    go_wp2
    go_loopw [7, 8, 9] (fun vt vu vj wr => ∃ (j : Nat) (pt : Option Addr) (ct : Nat) (pu : Option Addr) (cu : Nat), j ≤ m ∧ vj = .int .i64 j ∧ vt = .slice pt j ct ∧ vu = .slice pu j cu ∧ Hid (Tk2 w wr g L i (.slice po i co) (.slice pr i cr) D E (.slice pt j ct) (.slice pu j cu) (l.take j) (l.take j))) (fun _ _ vj _ => m - (intOf vj).toNat)
    case atStart => exact ⟨0, none, 0, none, 0, Nat.zero_le _, rfl, rfl, rfl, HA2.out⟩
    case round =>
      obtain ⟨j, pt, ct, pu, cu, hj, rfl, rfl, rfl, hh⟩ := hrel
      have HB := @hideH _ hh.out
      clear hh HA2 HA huo
      have hu := HB.out.kp.cell HU.out (by simp)
      by_cases hjl : j < m
      rotate_left
      · have hjl' : ¬ (j : Int) < (m : Int) := by omega
        have hjm : j = m := by omega
        subst hjm
        clear hjl hj
        have hB := HB.out
        rw [show l.take j = l from List.take_of_length_le (by have := HM.out.1; omega)] at hB
        have HB2 := @hideH _ hB
        clear hB HB
        have hsrc := src_one18 (P := Tryd.prog) wr 23 33 Tryd.underlying23 (.slice pt j ct) rfl
        have hrow : Row (wr.alloc (.cells #[.slice pt j ct] 33)) w.heap.size 1 (.slice po i co) i (D.map Prod.snd) := by have q := HB2.out.rowO.kept ((Kept.refl [] wr).alloc (.cells #[.slice pt j ct] 33)) (by simp); rw [HD.out.1] at q; exact q
        have hba : w.heap.size ≤ (wr.alloc (.cells #[.slice pt j ct] 33)).heap.size := (HB2.out.kp.alloc _).size
        go_upto_region 14 with (at_builtin; refine wpList_append_row2 rfl (.tmp 81) (.tmp 83) 23 rfl w.heap.size 33 infD (.slice none 0 0) 1 24 Tryd.underlying23 HID.out.1 HID.out.2.1 HID.out.2.2.1 HID.out.2.2.2 rfl _ _ _ (by rfl) hrow _ 1 _ (by rfl) hsrc (by have e1 := HN.out.2.1; omega) (by have e1 := HN.out.2.1; unfold maxLen; omega) (by have e1 := HN.out.2.1; omega) hba ?_; intro v' w8 r8 k8 o8; obtain ⟨p8, c8, hv', -⟩ := Row.shape r8; subst hv'; have HB8 := @hideH _ (HB2.out.appO HM.out.2.2 ((Kept.refl [] wr).alloc _) (by rw [HD.out.1]; exact r8) k8 o8); clear r8 k8 o8 hrow hsrc hba HB2)
        have hsrc := src_one18 (P := Tryd.prog) w8 24 34 Tryd.underlying24 (.slice pu j cu) rfl
        have hrow : Row (w8.alloc (.cells #[.slice pu j cu] 34)) w.heap.size 1 (.slice pr i cr) i (E.map Prod.snd) := by have q := HB8.out.rowR.kept ((Kept.refl [] w8).alloc (.cells #[.slice pu j cu] 34)) (by simp); rw [HD.out.2] at q; exact q
        have hba : w.heap.size ≤ (w8.alloc (.cells #[.slice pu j cu] 34)).heap.size := (HB8.out.kp.alloc _).size
        go_wp2_with (at_builtin; refine wpList_append_row2 rfl (.tmp 85) (.tmp 87) 24 rfl w.heap.size 34 infE (.slice none 0 0) 1 24 Tryd.underlying24 HIE.out.1 HIE.out.2.1 HIE.out.2.2.1 HIE.out.2.2.2 rfl _ _ _ (by rfl) hrow _ 1 _ (by rfl) hsrc (by have e1 := HN.out.2.1; omega) (by have e1 := HN.out.2.1; unfold maxLen; omega) (by have e1 := HN.out.2.1; omega) hba ?_; intro v' w9 r9 k9 o9; obtain ⟨p9, c9, hv', -⟩ := Row.shape r9; subst hv'; have HB9 := @hideH _ (HB8.out.appR HM.out.2.2 ((Kept.refl [] w8).alloc _) (by rw [HD.out.2]; exact r9) k9 o9); clear r9 k9 o9 hrow hsrc hba HB8)
        go_roundw
        case rel => exact ⟨i + 1, p8, c8, p9, c9, by omega, by go_num, rfl, rfl, _, _, by simp [HD.out.1], by simp [HD.out.2], HB9.out⟩
        case measure => simp [intOf]; omega
      have hjl' : (j : Int) < (m : Int) := by omega
      have hj0 : (0 : Int) ≤ (j : Int) := by omega
      have wj : IntKind.i64.wrap ((j : Int) + 1) = (j : Int) + 1 := wrap_i64_of (by omega) (by have := HM.out.2.1; omega)
      obtain ⟨x, hx⟩ : ∃ x, l[j]? = some x := ⟨_, List.getElem?_eq_getElem (by have := HM.out.1; omega)⟩
      obtain ⟨bl, ol, cl', e, x012, -⟩ := HC.out.at hx
      have e' := (Value.slice.inj e).1
      subst e'
      clear e cl'
      have HX := @hideH _ x012
      have HTX := @hideH _ (show l.take (j + 1) = l.take j ++ [x] by rw [List.take_add_one, hx]; rfl)
      have HLJ := @hideH _ (show (l.take j).length = j by rw [List.length_take]; have := HM.out.1; omega)
      clear x012 hx
      go_upto_region 11 with fail
      clear hu
      have KS := fun (wx : World) (kk : Kept [] w wx) => (⟨kk.cell HU.out (by simp), kk.cell HX.out.1 (by simp), kk.cell HX.out.2.1 (by simp), kk.cell HX.out.2.2 (by simp)⟩ : (fun w' => w'.cell? ⟨b, o + i, none⟩ = some (.slice (some ⟨bl, ol, none⟩) m cl) ∧ w'.cell? ⟨bl, ol + j * 3, none⟩ = some (.int .i64 x.key) ∧ w'.cell? ⟨bl, ol + j * 3 + 1, none⟩ = some (.int .u64 x.val) ∧ w'.cell? ⟨bl, ol + j * 3 + 2, none⟩ = some (.bool x.gone)) wx)
      obtain ⟨w6, hw6⟩ : ∃ wx, wx = wr.drew := ⟨_, rfl⟩
      have k6 : Kept [] wr w6 := by rw [hw6]; exact (Kept.refl [] wr).drew
      have hS := KS w6 (HB.out.kp.then k6)
      try dsimp only at hS
      obtain ⟨w7, hw7⟩ : ∃ wx, wx = w6.alloc (.cells #[.int .i64 x.key, .int .u64 x.val, .bool x.gone] 56) := ⟨_, rfl⟩
      have k67 : Kept [] w6 w7 := by rw [hw7]; exact (Kept.refl [] w6).alloc _
      have k7 := k6.then k67
      have hS7 := KS w7 (HB.out.kp.then k7)
      try dsimp only at hS7
      have hsrc := src_chg18 (P := Tryd.prog) w6 33 56 Tryd.underlying33 x
      rw [← hw7] at hsrc
      have R7 : Row w7 w.heap.size 3 (.slice pt j ct) j (ccells (l.take j)) := by have q := HB.out.rowT.kept k7 (by simp); unfold Cs at q; rw [HLJ.out] at q; exact q
      have hba : w.heap.size ≤ w7.heap.size := (HB.out.kp.then k7).size
      have HKS := @hideH _ KS
      have HK7 := @hideH _ k7
      clear KS k7 k6 k67
      refine wp_region_late (fun w' => w'.cell? ⟨b, o + i, none⟩ = some (.slice (some ⟨bl, ol, none⟩) m cl) ∧ w'.cell? ⟨bl, ol + j * 3, none⟩ = some (.int .i64 x.key) ∧ w'.cell? ⟨bl, ol + j * 3 + 1, none⟩ = some (.int .u64 x.val) ∧ w'.cell? ⟨bl, ol + j * 3 + 2, none⟩ = some (.bool x.gone)) 29 (by kernel_rfl) ?_
      rw [← hw6]
      clear hw6
      refine wpAnyZ_takeD 0 (v := ?va0_1) rfl (by kernel_rfl) (by rfl) (by kernel_rfl) (by kernel_rfl) (fun _ _ _ h => h) (by rfl) ?hya0_1 hS ?resta0_1
      case hya0_1 => (intro wx hSx; obtain ⟨s1, s2, s3, s4⟩ := hSx; go_simp; (try with_reducible rfl))
      (try simp only [Act.put, List.getElem_toArray, List.getElem_cons_zero, List.getElem_cons_succ, List.setIfInBounds_toArray, List.set_cons_zero, List.set_cons_succ])
      refine wpAnyZ_takeD 1 (v := ?va1_2) rfl (by kernel_rfl) (by rfl) (by kernel_rfl) (by kernel_rfl) (fun _ _ _ h => h) (by rfl) ?hya1_2 hS ?resta1_2
      case hya1_2 => (intro wx hSx; obtain ⟨s1, s2, s3, s4⟩ := hSx; go_simp; (try with_reducible rfl))
      (try simp only [Act.put, List.getElem_toArray, List.getElem_cons_zero, List.getElem_cons_succ, List.setIfInBounds_toArray, List.set_cons_zero, List.set_cons_succ])
      refine wpAnyZ_takeD 2 (v := ?va2_3) rfl (by kernel_rfl) (by rfl) (by kernel_rfl) (by kernel_rfl) (fun _ _ _ h => h) (by rfl) ?hya2_3 hS ?resta2_3
      case hya2_3 => (intro wx hSx; obtain ⟨s1, s2, s3, s4⟩ := hSx; go_simp; (try with_reducible rfl))
      (try simp only [Act.put, List.getElem_toArray, List.getElem_cons_zero, List.getElem_cons_succ, List.setIfInBounds_toArray, List.set_cons_zero, List.set_cons_succ])
      refine wpAnyZ_takeD 3 (v := ?va3_4) rfl (by kernel_rfl) (by rfl) (by kernel_rfl) (by kernel_rfl) (fun _ _ _ h => h) (by rfl) ?hya3_4 hS ?resta3_4
      case hya3_4 => (intro wx hSx; obtain ⟨s1, s2, s3, s4⟩ := hSx; go_simp; (try with_reducible rfl))
      (try simp only [Act.put, List.getElem_toArray, List.getElem_cons_zero, List.getElem_cons_succ, List.setIfInBounds_toArray, List.set_cons_zero, List.set_cons_succ])
      refine wpAnyZ_takeD 4 (v := ?va4_5) rfl (by kernel_rfl) (by rfl) (by kernel_rfl) (by kernel_rfl) (fun _ _ _ h => h) (by rfl) ?hya4_5 hS ?resta4_5
      case hya4_5 => (intro wx hSx; obtain ⟨s1, s2, s3, s4⟩ := hSx; go_simp; (try with_reducible rfl))
      (try simp only [Act.put, List.getElem_toArray, List.getElem_cons_zero, List.getElem_cons_succ, List.setIfInBounds_toArray, List.set_cons_zero, List.set_cons_succ])
      refine wpAnyZ_takeD 5 (v := ?va5_6) rfl (by kernel_rfl) (by rfl) (by kernel_rfl) (by kernel_rfl) (fun _ _ _ h => h) (by rfl) ?hya5_6 hS ?resta5_6
      case hya5_6 => (intro wx hSx; obtain ⟨s1, s2, s3, s4⟩ := hSx; go_simp; (try with_reducible rfl))
      (try simp only [Act.put, List.getElem_toArray, List.getElem_cons_zero, List.getElem_cons_succ, List.setIfInBounds_toArray, List.set_cons_zero, List.set_cons_succ])
      refine wpAnyZ_takeD 6 (v := ?va6_7) rfl (by kernel_rfl) (by rfl) (by kernel_rfl) (by kernel_rfl) (fun _ _ _ h => h) (by rfl) ?hya6_7 hS ?resta6_7
      case hya6_7 => (intro wx hSx; obtain ⟨s1, s2, s3, s4⟩ := hSx; go_simp; (try with_reducible rfl))
      (try simp only [Act.put, List.getElem_toArray, List.getElem_cons_zero, List.getElem_cons_succ, List.setIfInBounds_toArray, List.set_cons_zero, List.set_cons_succ])
      refine wpAnyZ_takeD 7 (v := ?va7_8) rfl (by kernel_rfl) (by rfl) (by kernel_rfl) (by kernel_rfl) (fun _ _ _ h => h) (by rfl) ?hya7_8 hS ?resta7_8
      case hya7_8 => (intro wx hSx; obtain ⟨s1, s2, s3, s4⟩ := hSx; go_simp; (try with_reducible rfl))
      (try simp only [Act.put, List.getElem_toArray, List.getElem_cons_zero, List.getElem_cons_succ, List.setIfInBounds_toArray, List.set_cons_zero, List.set_cons_succ])
      refine wpAnyZ_takeD 8 (v := ?va8_9) rfl (by kernel_rfl) (by rfl) (by kernel_rfl) (by kernel_rfl) (fun _ _ _ h => h) (by rfl) ?hya8_9 hS ?resta8_9
      case hya8_9 => (intro wx hSx; obtain ⟨s1, s2, s3, s4⟩ := hSx; go_simp; (try with_reducible rfl))
      (try simp only [Act.put, List.getElem_toArray, List.getElem_cons_zero, List.getElem_cons_succ, List.setIfInBounds_toArray, List.set_cons_zero, List.set_cons_succ])
      refine wpAnyZ_takeD 9 (v := ?va9_10) rfl (by kernel_rfl) (by rfl) (by kernel_rfl) (by kernel_rfl) (fun _ _ _ h => h) (by rfl) ?hya9_10 hS ?resta9_10
      case hya9_10 => (intro wx hSx; obtain ⟨s1, s2, s3, s4⟩ := hSx; go_simp; (try with_reducible rfl))
      (try simp only [Act.put, List.getElem_toArray, List.getElem_cons_zero, List.getElem_cons_succ, List.setIfInBounds_toArray, List.set_cons_zero, List.set_cons_succ])
      refine wpAnyZ_takeD 10 (v := ?va10_11) rfl (by kernel_rfl) (by rfl) (by kernel_rfl) (by kernel_rfl) (fun _ _ _ h => h) (by rfl) ?hya10_11 hS ?resta10_11
      case hya10_11 => (intro wx hSx; obtain ⟨s1, s2, s3, s4⟩ := hSx; go_simp; (try with_reducible rfl))
      (try simp only [Act.put, List.getElem_toArray, List.getElem_cons_zero, List.getElem_cons_succ, List.setIfInBounds_toArray, List.set_cons_zero, List.set_cons_succ])
      refine wpAnyZ_takeD 11 (v := ?va11_12) rfl (by kernel_rfl) (by rfl) (by kernel_rfl) (by kernel_rfl) (fun _ _ _ h => h) (by rfl) ?hya11_12 hS ?resta11_12
      case hya11_12 => (intro wx hSx; obtain ⟨s1, s2, s3, s4⟩ := hSx; go_simp; (try with_reducible rfl))
      (try simp only [Act.put, List.getElem_toArray, List.getElem_cons_zero, List.getElem_cons_succ, List.setIfInBounds_toArray, List.set_cons_zero, List.set_cons_succ])
      refine wpAnyZ_takeD 12 (v := ?va12_13) rfl (by kernel_rfl) (by rfl) (by kernel_rfl) (by kernel_rfl) (fun _ _ _ h => h) (by rfl) ?hya12_13 hS ?resta12_13
      case hya12_13 => (intro wx hSx; obtain ⟨s1, s2, s3, s4⟩ := hSx; go_simp; (try with_reducible rfl))
      (try simp only [Act.put, List.getElem_toArray, List.getElem_cons_zero, List.getElem_cons_succ, List.setIfInBounds_toArray, List.set_cons_zero, List.set_cons_succ])
      refine wpAnyZ_takeD 13 (v := ?va13_14) rfl (by kernel_rfl) (by rfl) (by kernel_rfl) (by kernel_rfl) (fun _ _ _ h => h) (by rfl) ?hya13_14 hS ?resta13_14
      case hya13_14 => (intro wx hSx; obtain ⟨s1, s2, s3, s4⟩ := hSx; go_simp; (try with_reducible rfl))
      (try simp only [Act.put, List.getElem_toArray, List.getElem_cons_zero, List.getElem_cons_succ, List.setIfInBounds_toArray, List.set_cons_zero, List.set_cons_succ])
      refine wpAnyZ_takeD 14 (v := ?va14_15) rfl (by kernel_rfl) (by rfl) (by kernel_rfl) (by kernel_rfl) (fun _ _ _ h => h) (by rfl) ?hya14_15 hS ?resta14_15
      case hya14_15 => (intro wx hSx; obtain ⟨s1, s2, s3, s4⟩ := hSx; go_simp; (try with_reducible rfl))
      (try simp only [Act.put, List.getElem_toArray, List.getElem_cons_zero, List.getElem_cons_succ, List.setIfInBounds_toArray, List.set_cons_zero, List.set_cons_succ])
      refine wpAnyZ_takeD 15 (v := ?va15_16) rfl (by kernel_rfl) (by rfl) (by kernel_rfl) (by kernel_rfl) (fun _ _ _ h => h) (by rfl) ?hya15_16 hS ?resta15_16
      case hya15_16 => (intro wx hSx; obtain ⟨s1, s2, s3, s4⟩ := hSx; go_simp; (try with_reducible rfl))
      (try simp only [Act.put, List.getElem_toArray, List.getElem_cons_zero, List.getElem_cons_succ, List.setIfInBounds_toArray, List.set_cons_zero, List.set_cons_succ])
      refine wpAnyZ_takeD 16 (v := ?va16_17) rfl (by kernel_rfl) (by rfl) (by kernel_rfl) (by kernel_rfl) (fun _ _ _ h => h) (by rfl) ?hya16_17 hS ?resta16_17
      case hya16_17 => (intro wx hSx; obtain ⟨s1, s2, s3, s4⟩ := hSx; go_simp; (try with_reducible rfl))
      (try simp only [Act.put, List.getElem_toArray, List.getElem_cons_zero, List.getElem_cons_succ, List.setIfInBounds_toArray, List.set_cons_zero, List.set_cons_succ])
      refine wpAnyZ_takeD 17 (v := ?va17_18) rfl (by kernel_rfl) (by rfl) (by kernel_rfl) (by kernel_rfl) (fun _ _ _ h => h) (by rfl) ?hya17_18 hS ?resta17_18
      case hya17_18 => (intro wx hSx; obtain ⟨s1, s2, s3, s4⟩ := hSx; go_simp; (try with_reducible rfl))
      (try simp only [Act.put, List.getElem_toArray, List.getElem_cons_zero, List.getElem_cons_succ, List.setIfInBounds_toArray, List.set_cons_zero, List.set_cons_succ])
      refine wpAnyZ_takeD 18 (v := ?va18_19) rfl (by kernel_rfl) (by rfl) (by kernel_rfl) (by kernel_rfl) (fun _ _ _ h => h) (by rfl) ?hya18_19 hS ?resta18_19
      case hya18_19 => (intro wx hSx; obtain ⟨s1, s2, s3, s4⟩ := hSx; go_simp; (try with_reducible rfl))
      (try simp only [Act.put, List.getElem_toArray, List.getElem_cons_zero, List.getElem_cons_succ, List.setIfInBounds_toArray, List.set_cons_zero, List.set_cons_succ])
      refine wpAnyZ_takeD 19 (v := ?va19_20) rfl (by kernel_rfl) (by rfl) (by kernel_rfl) (by kernel_rfl) (fun _ _ _ h => h) (by rfl) ?hya19_20 hS ?resta19_20
      case hya19_20 => (intro wx hSx; obtain ⟨s1, s2, s3, s4⟩ := hSx; go_simp; (try with_reducible rfl))
      (try simp only [Act.put, List.getElem_toArray, List.getElem_cons_zero, List.getElem_cons_succ, List.setIfInBounds_toArray, List.set_cons_zero, List.set_cons_succ])
      refine wpAnyZ_takeD 20 (v := ?va20_21) rfl (by kernel_rfl) (by rfl) (by kernel_rfl) (by kernel_rfl) (fun _ _ _ h => h) (by rfl) ?hya20_21 hS ?resta20_21
      case hya20_21 => (intro wx hSx; obtain ⟨s1, s2, s3, s4⟩ := hSx; go_simp; (try with_reducible rfl))
      (try simp only [Act.put, List.getElem_toArray, List.getElem_cons_zero, List.getElem_cons_succ, List.setIfInBounds_toArray, List.set_cons_zero, List.set_cons_succ])
      refine wpAnyZ_takeD 21 (v := ?va21_22) rfl (by kernel_rfl) (by rfl) (by kernel_rfl) (by kernel_rfl) (fun _ _ _ h => h) (by rfl) ?hya21_22 hS ?resta21_22
      case hya21_22 => (intro wx hSx; obtain ⟨s1, s2, s3, s4⟩ := hSx; go_simp; (try with_reducible rfl))
      (try simp only [Act.put, List.getElem_toArray, List.getElem_cons_zero, List.getElem_cons_succ, List.setIfInBounds_toArray, List.set_cons_zero, List.set_cons_succ])
      refine wpAnyZ_takeD 22 (v := ?va22_23) rfl (by kernel_rfl) (by rfl) (by kernel_rfl) (by kernel_rfl) (fun _ _ _ h => h) (by rfl) ?hya22_23 hS ?resta22_23
      case hya22_23 => (intro wx hSx; obtain ⟨s1, s2, s3, s4⟩ := hSx; go_simp; (try with_reducible rfl))
      (try simp only [Act.put, List.getElem_toArray, List.getElem_cons_zero, List.getElem_cons_succ, List.setIfInBounds_toArray, List.set_cons_zero, List.set_cons_succ])
      refine wpAnyZ_takeD 23 (v := ?va23_24) rfl (by kernel_rfl) (by rfl) (by kernel_rfl) (by kernel_rfl) (fun _ _ _ h => h) (by rfl) ?hya23_24 hS ?resta23_24
      case hya23_24 => (intro wx hSx; obtain ⟨s1, s2, s3, s4⟩ := hSx; go_simp; (try with_reducible rfl))
      (try simp only [Act.put, List.getElem_toArray, List.getElem_cons_zero, List.getElem_cons_succ, List.setIfInBounds_toArray, List.set_cons_zero, List.set_cons_succ])
      refine wpAnyZ_takeD 24 (v := ?va24_25) rfl (by kernel_rfl) (by rfl) (by kernel_rfl) (by kernel_rfl) (fun _ _ _ h => h) (by rfl) ?hya24_25 hS ?resta24_25
      case hya24_25 => (intro wx hSx; obtain ⟨s1, s2, s3, s4⟩ := hSx; go_simp; (try with_reducible rfl))
      (try simp only [Act.put, List.getElem_toArray, List.getElem_cons_zero, List.getElem_cons_succ, List.setIfInBounds_toArray, List.set_cons_zero, List.set_cons_succ])
      refine wpAnyZ_takeD 25 (v := ?va25_26) rfl (by kernel_rfl) (by rfl) (by kernel_rfl) (by kernel_rfl) (fun _ _ _ h => h) (by rfl) ?hya25_26 hS ?resta25_26
      case hya25_26 => (intro wx hSx; obtain ⟨s1, s2, s3, s4⟩ := hSx; go_simp; (try with_reducible rfl))
      (try simp only [Act.put, List.getElem_toArray, List.getElem_cons_zero, List.getElem_cons_succ, List.setIfInBounds_toArray, List.set_cons_zero, List.set_cons_succ])
      refine wpAnyZ_one 26 rfl (by kernel_rfl) (fun K hK => ?_)
      go_simp
      rw [← hw7]
      refine hK _ _ (fun _ => hS7) ?_
      clear hK K hS hw7
      (try simp only [Act.put, List.getElem_toArray, List.getElem_cons_zero, List.getElem_cons_succ, List.setIfInBounds_toArray, List.set_cons_zero, List.set_cons_succ])
      refine wpAnyZ_one 27 rfl (by kernel_rfl) (fun K hK => ?_)
      refine step_append_row2 rfl (.tmp 25) (.tmp 51) 33 rfl w.heap.size 56 infC (.agg #[.int .i64 0, .int .u64 0, .bool false]) 3 24 Tryd.underlying33 HIC.out.1 HIC.out.2.1 HIC.out.2.2.1 HIC.out.2.2.2 rfl _ _ _ (by rfl) R7 _ 1 _ (by rfl) hsrc (by have e1 := HM.out.2.1; omega) (by have e1 := HM.out.2.1; unfold maxLen; omega) (by have e1 := HM.out.2.1; omega) hba ?_
      intro v' w8 r8 k8 o8
      obtain ⟨pw8, cw8, hv', -⟩ := Row.shape r8
      subst hv'
      have HB8 := @hideH _ (HB.out.appT HK7.out (by rw [HLJ.out]; exact r8) k8 o8)
      have hS8 := HKS.out w8 HB8.out.kp
      try dsimp only at hS8
      clear r8 k8 o8 hsrc R7 hba hS7 HK7 HKS HB
      refine hK _ _ (fun _ => hS8) ?_
      clear hK K
      (try simp only [Act.put, List.getElem_toArray, List.getElem_cons_zero, List.getElem_cons_succ, List.setIfInBounds_toArray, List.set_cons_zero, List.set_cons_succ])
      refine wpAnyZ_takeD 28 (v := ?va28_27) rfl (by kernel_rfl) (by rfl) (by kernel_rfl) (by kernel_rfl) (fun _ _ _ h => h) (by rfl) ?hya28_27 hS8 ?resta28_27
      case hya28_27 => (intro wx hSx; obtain ⟨s1, s2, s3, s4⟩ := hSx; go_simp; (try with_reducible rfl))
      (try simp only [Act.put, List.getElem_toArray, List.getElem_cons_zero, List.getElem_cons_succ, List.setIfInBounds_toArray, List.set_cons_zero, List.set_cons_succ])
      refine wpAnyZ_done (by kernel_rfl) ?_ _
      clear hS8
      go_upto_region 12 with fail
      have KS := fun (wx : World) (kk : Kept [] w wx) => (⟨kk.cell HU.out (by simp), kk.cell HX.out.1 (by simp), kk.cell HX.out.2.1 (by simp), kk.cell HX.out.2.2 (by simp)⟩ : (fun w' => w'.cell? ⟨b, o + i, none⟩ = some (.slice (some ⟨bl, ol, none⟩) m cl) ∧ w'.cell? ⟨bl, ol + j * 3, none⟩ = some (.int .i64 x.key) ∧ w'.cell? ⟨bl, ol + j * 3 + 1, none⟩ = some (.int .u64 x.val) ∧ w'.cell? ⟨bl, ol + j * 3 + 2, none⟩ = some (.bool x.gone)) wx)
      obtain ⟨w6, hw6⟩ : ∃ wx, wx = w8.drew := ⟨_, rfl⟩
      have k6 : Kept [] w8 w6 := by rw [hw6]; exact (Kept.refl [] w8).drew
      have hS := KS w6 (HB8.out.kp.then k6)
      try dsimp only at hS
      obtain ⟨w7, hw7⟩ : ∃ wx, wx = w6.alloc (.cells #[.int .i64 x.key, .int .u64 x.val, .bool x.gone] 57) := ⟨_, rfl⟩
      have k67 : Kept [] w6 w7 := by rw [hw7]; exact (Kept.refl [] w6).alloc _
      have k7 := k6.then k67
      have hS7 := KS w7 (HB8.out.kp.then k7)
      try dsimp only at hS7
      have hsrc := src_chg18 (P := Tryd.prog) w6 34 57 Tryd.underlying34 x
      rw [← hw7] at hsrc
      have R7 : Row w7 w.heap.size 3 (.slice pu j cu) j (ccells (l.take j)) := by have q := HB8.out.rowU.kept k7 (by simp); unfold Cs at q; rw [HLJ.out] at q; exact q
      have hba : w.heap.size ≤ w7.heap.size := (HB8.out.kp.then k7).size
      have HKS := @hideH _ KS
      have HK7 := @hideH _ k7
      clear KS k7 k6 k67
      refine wp_region_late (fun w' => w'.cell? ⟨b, o + i, none⟩ = some (.slice (some ⟨bl, ol, none⟩) m cl) ∧ w'.cell? ⟨bl, ol + j * 3, none⟩ = some (.int .i64 x.key) ∧ w'.cell? ⟨bl, ol + j * 3 + 1, none⟩ = some (.int .u64 x.val) ∧ w'.cell? ⟨bl, ol + j * 3 + 2, none⟩ = some (.bool x.gone)) 29 (by kernel_rfl) ?_
      rw [← hw6]
      clear hw6
      refine wpAnyZ_takeD 0 (v := ?va0_28) rfl (by kernel_rfl) (by rfl) (by kernel_rfl) (by kernel_rfl) (fun _ _ _ h => h) (by rfl) ?hya0_28 hS ?resta0_28
      case hya0_28 => (intro wx hSx; obtain ⟨s1, s2, s3, s4⟩ := hSx; go_simp; (try with_reducible rfl))
      (try simp only [Act.put, List.getElem_toArray, List.getElem_cons_zero, List.getElem_cons_succ, List.setIfInBounds_toArray, List.set_cons_zero, List.set_cons_succ])
      refine wpAnyZ_takeD 1 (v := ?va1_29) rfl (by kernel_rfl) (by rfl) (by kernel_rfl) (by kernel_rfl) (fun _ _ _ h => h) (by rfl) ?hya1_29 hS ?resta1_29
      case hya1_29 => (intro wx hSx; obtain ⟨s1, s2, s3, s4⟩ := hSx; go_simp; (try with_reducible rfl))
      (try simp only [Act.put, List.getElem_toArray, List.getElem_cons_zero, List.getElem_cons_succ, List.setIfInBounds_toArray, List.set_cons_zero, List.set_cons_succ])
      refine wpAnyZ_takeD 2 (v := ?va2_30) rfl (by kernel_rfl) (by rfl) (by kernel_rfl) (by kernel_rfl) (fun _ _ _ h => h) (by rfl) ?hya2_30 hS ?resta2_30
      case hya2_30 => (intro wx hSx; obtain ⟨s1, s2, s3, s4⟩ := hSx; go_simp; (try with_reducible rfl))
      (try simp only [Act.put, List.getElem_toArray, List.getElem_cons_zero, List.getElem_cons_succ, List.setIfInBounds_toArray, List.set_cons_zero, List.set_cons_succ])
      refine wpAnyZ_takeD 3 (v := ?va3_31) rfl (by kernel_rfl) (by rfl) (by kernel_rfl) (by kernel_rfl) (fun _ _ _ h => h) (by rfl) ?hya3_31 hS ?resta3_31
      case hya3_31 => (intro wx hSx; obtain ⟨s1, s2, s3, s4⟩ := hSx; go_simp; (try with_reducible rfl))
      (try simp only [Act.put, List.getElem_toArray, List.getElem_cons_zero, List.getElem_cons_succ, List.setIfInBounds_toArray, List.set_cons_zero, List.set_cons_succ])
      refine wpAnyZ_takeD 4 (v := ?va4_32) rfl (by kernel_rfl) (by rfl) (by kernel_rfl) (by kernel_rfl) (fun _ _ _ h => h) (by rfl) ?hya4_32 hS ?resta4_32
      case hya4_32 => (intro wx hSx; obtain ⟨s1, s2, s3, s4⟩ := hSx; go_simp; (try with_reducible rfl))
      (try simp only [Act.put, List.getElem_toArray, List.getElem_cons_zero, List.getElem_cons_succ, List.setIfInBounds_toArray, List.set_cons_zero, List.set_cons_succ])
      refine wpAnyZ_takeD 5 (v := ?va5_33) rfl (by kernel_rfl) (by rfl) (by kernel_rfl) (by kernel_rfl) (fun _ _ _ h => h) (by rfl) ?hya5_33 hS ?resta5_33
      case hya5_33 => (intro wx hSx; obtain ⟨s1, s2, s3, s4⟩ := hSx; go_simp; (try with_reducible rfl))
      (try simp only [Act.put, List.getElem_toArray, List.getElem_cons_zero, List.getElem_cons_succ, List.setIfInBounds_toArray, List.set_cons_zero, List.set_cons_succ])
      refine wpAnyZ_takeD 6 (v := ?va6_34) rfl (by kernel_rfl) (by rfl) (by kernel_rfl) (by kernel_rfl) (fun _ _ _ h => h) (by rfl) ?hya6_34 hS ?resta6_34
      case hya6_34 => (intro wx hSx; obtain ⟨s1, s2, s3, s4⟩ := hSx; go_simp; (try with_reducible rfl))
      (try simp only [Act.put, List.getElem_toArray, List.getElem_cons_zero, List.getElem_cons_succ, List.setIfInBounds_toArray, List.set_cons_zero, List.set_cons_succ])
      refine wpAnyZ_takeD 7 (v := ?va7_35) rfl (by kernel_rfl) (by rfl) (by kernel_rfl) (by kernel_rfl) (fun _ _ _ h => h) (by rfl) ?hya7_35 hS ?resta7_35
      case hya7_35 => (intro wx hSx; obtain ⟨s1, s2, s3, s4⟩ := hSx; go_simp; (try with_reducible rfl))
      (try simp only [Act.put, List.getElem_toArray, List.getElem_cons_zero, List.getElem_cons_succ, List.setIfInBounds_toArray, List.set_cons_zero, List.set_cons_succ])
      refine wpAnyZ_takeD 8 (v := ?va8_36) rfl (by kernel_rfl) (by rfl) (by kernel_rfl) (by kernel_rfl) (fun _ _ _ h => h) (by rfl) ?hya8_36 hS ?resta8_36
      case hya8_36 => (intro wx hSx; obtain ⟨s1, s2, s3, s4⟩ := hSx; go_simp; (try with_reducible rfl))
      (try simp only [Act.put, List.getElem_toArray, List.getElem_cons_zero, List.getElem_cons_succ, List.setIfInBounds_toArray, List.set_cons_zero, List.set_cons_succ])
      refine wpAnyZ_takeD 9 (v := ?va9_37) rfl (by kernel_rfl) (by rfl) (by kernel_rfl) (by kernel_rfl) (fun _ _ _ h => h) (by rfl) ?hya9_37 hS ?resta9_37
      case hya9_37 => (intro wx hSx; obtain ⟨s1, s2, s3, s4⟩ := hSx; go_simp; (try with_reducible rfl))
      (try simp only [Act.put, List.getElem_toArray, List.getElem_cons_zero, List.getElem_cons_succ, List.setIfInBounds_toArray, List.set_cons_zero, List.set_cons_succ])
      refine wpAnyZ_takeD 10 (v := ?va10_38) rfl (by kernel_rfl) (by rfl) (by kernel_rfl) (by kernel_rfl) (fun _ _ _ h => h) (by rfl) ?hya10_38 hS ?resta10_38
      case hya10_38 => (intro wx hSx; obtain ⟨s1, s2, s3, s4⟩ := hSx; go_simp; (try with_reducible rfl))
      (try simp only [Act.put, List.getElem_toArray, List.getElem_cons_zero, List.getElem_cons_succ, List.setIfInBounds_toArray, List.set_cons_zero, List.set_cons_succ])
      refine wpAnyZ_takeD 11 (v := ?va11_39) rfl (by kernel_rfl) (by rfl) (by kernel_rfl) (by kernel_rfl) (fun _ _ _ h => h) (by rfl) ?hya11_39 hS ?resta11_39
      case hya11_39 => (intro wx hSx; obtain ⟨s1, s2, s3, s4⟩ := hSx; go_simp; (try with_reducible rfl))
      (try simp only [Act.put, List.getElem_toArray, List.getElem_cons_zero, List.getElem_cons_succ, List.setIfInBounds_toArray, List.set_cons_zero, List.set_cons_succ])
      refine wpAnyZ_takeD 12 (v := ?va12_40) rfl (by kernel_rfl) (by rfl) (by kernel_rfl) (by kernel_rfl) (fun _ _ _ h => h) (by rfl) ?hya12_40 hS ?resta12_40
      case hya12_40 => (intro wx hSx; obtain ⟨s1, s2, s3, s4⟩ := hSx; go_simp; (try with_reducible rfl))
      (try simp only [Act.put, List.getElem_toArray, List.getElem_cons_zero, List.getElem_cons_succ, List.setIfInBounds_toArray, List.set_cons_zero, List.set_cons_succ])
      refine wpAnyZ_takeD 13 (v := ?va13_41) rfl (by kernel_rfl) (by rfl) (by kernel_rfl) (by kernel_rfl) (fun _ _ _ h => h) (by rfl) ?hya13_41 hS ?resta13_41
      case hya13_41 => (intro wx hSx; obtain ⟨s1, s2, s3, s4⟩ := hSx; go_simp; (try with_reducible rfl))
      (try simp only [Act.put, List.getElem_toArray, List.getElem_cons_zero, List.getElem_cons_succ, List.setIfInBounds_toArray, List.set_cons_zero, List.set_cons_succ])
      refine wpAnyZ_takeD 14 (v := ?va14_42) rfl (by kernel_rfl) (by rfl) (by kernel_rfl) (by kernel_rfl) (fun _ _ _ h => h) (by rfl) ?hya14_42 hS ?resta14_42
      case hya14_42 => (intro wx hSx; obtain ⟨s1, s2, s3, s4⟩ := hSx; go_simp; (try with_reducible rfl))
      (try simp only [Act.put, List.getElem_toArray, List.getElem_cons_zero, List.getElem_cons_succ, List.setIfInBounds_toArray, List.set_cons_zero, List.set_cons_succ])
      refine wpAnyZ_takeD 15 (v := ?va15_43) rfl (by kernel_rfl) (by rfl) (by kernel_rfl) (by kernel_rfl) (fun _ _ _ h => h) (by rfl) ?hya15_43 hS ?resta15_43
      case hya15_43 => (intro wx hSx; obtain ⟨s1, s2, s3, s4⟩ := hSx; go_simp; (try with_reducible rfl))
      (try simp only [Act.put, List.getElem_toArray, List.getElem_cons_zero, List.getElem_cons_succ, List.setIfInBounds_toArray, List.set_cons_zero, List.set_cons_succ])
      refine wpAnyZ_takeD 16 (v := ?va16_44) rfl (by kernel_rfl) (by rfl) (by kernel_rfl) (by kernel_rfl) (fun _ _ _ h => h) (by rfl) ?hya16_44 hS ?resta16_44
      case hya16_44 => (intro wx hSx; obtain ⟨s1, s2, s3, s4⟩ := hSx; go_simp; (try with_reducible rfl))
      (try simp only [Act.put, List.getElem_toArray, List.getElem_cons_zero, List.getElem_cons_succ, List.setIfInBounds_toArray, List.set_cons_zero, List.set_cons_succ])
      refine wpAnyZ_takeD 17 (v := ?va17_45) rfl (by kernel_rfl) (by rfl) (by kernel_rfl) (by kernel_rfl) (fun _ _ _ h => h) (by rfl) ?hya17_45 hS ?resta17_45
      case hya17_45 => (intro wx hSx; obtain ⟨s1, s2, s3, s4⟩ := hSx; go_simp; (try with_reducible rfl))
      (try simp only [Act.put, List.getElem_toArray, List.getElem_cons_zero, List.getElem_cons_succ, List.setIfInBounds_toArray, List.set_cons_zero, List.set_cons_succ])
      refine wpAnyZ_takeD 18 (v := ?va18_46) rfl (by kernel_rfl) (by rfl) (by kernel_rfl) (by kernel_rfl) (fun _ _ _ h => h) (by rfl) ?hya18_46 hS ?resta18_46
      case hya18_46 => (intro wx hSx; obtain ⟨s1, s2, s3, s4⟩ := hSx; go_simp; (try with_reducible rfl))
      (try simp only [Act.put, List.getElem_toArray, List.getElem_cons_zero, List.getElem_cons_succ, List.setIfInBounds_toArray, List.set_cons_zero, List.set_cons_succ])
      refine wpAnyZ_takeD 19 (v := ?va19_47) rfl (by kernel_rfl) (by rfl) (by kernel_rfl) (by kernel_rfl) (fun _ _ _ h => h) (by rfl) ?hya19_47 hS ?resta19_47
      case hya19_47 => (intro wx hSx; obtain ⟨s1, s2, s3, s4⟩ := hSx; go_simp; (try with_reducible rfl))
      (try simp only [Act.put, List.getElem_toArray, List.getElem_cons_zero, List.getElem_cons_succ, List.setIfInBounds_toArray, List.set_cons_zero, List.set_cons_succ])
      refine wpAnyZ_takeD 20 (v := ?va20_48) rfl (by kernel_rfl) (by rfl) (by kernel_rfl) (by kernel_rfl) (fun _ _ _ h => h) (by rfl) ?hya20_48 hS ?resta20_48
      case hya20_48 => (intro wx hSx; obtain ⟨s1, s2, s3, s4⟩ := hSx; go_simp; (try with_reducible rfl))
      (try simp only [Act.put, List.getElem_toArray, List.getElem_cons_zero, List.getElem_cons_succ, List.setIfInBounds_toArray, List.set_cons_zero, List.set_cons_succ])
      refine wpAnyZ_takeD 21 (v := ?va21_49) rfl (by kernel_rfl) (by rfl) (by kernel_rfl) (by kernel_rfl) (fun _ _ _ h => h) (by rfl) ?hya21_49 hS ?resta21_49
      case hya21_49 => (intro wx hSx; obtain ⟨s1, s2, s3, s4⟩ := hSx; go_simp; (try with_reducible rfl))
      (try simp only [Act.put, List.getElem_toArray, List.getElem_cons_zero, List.getElem_cons_succ, List.setIfInBounds_toArray, List.set_cons_zero, List.set_cons_succ])
      refine wpAnyZ_takeD 22 (v := ?va22_50) rfl (by kernel_rfl) (by rfl) (by kernel_rfl) (by kernel_rfl) (fun _ _ _ h => h) (by rfl) ?hya22_50 hS ?resta22_50
      case hya22_50 => (intro wx hSx; obtain ⟨s1, s2, s3, s4⟩ := hSx; go_simp; (try with_reducible rfl))
      (try simp only [Act.put, List.getElem_toArray, List.getElem_cons_zero, List.getElem_cons_succ, List.setIfInBounds_toArray, List.set_cons_zero, List.set_cons_succ])
      refine wpAnyZ_takeD 23 (v := ?va23_51) rfl (by kernel_rfl) (by rfl) (by kernel_rfl) (by kernel_rfl) (fun _ _ _ h => h) (by rfl) ?hya23_51 hS ?resta23_51
      case hya23_51 => (intro wx hSx; obtain ⟨s1, s2, s3, s4⟩ := hSx; go_simp; (try with_reducible rfl))
      (try simp only [Act.put, List.getElem_toArray, List.getElem_cons_zero, List.getElem_cons_succ, List.setIfInBounds_toArray, List.set_cons_zero, List.set_cons_succ])
      refine wpAnyZ_takeD 24 (v := ?va24_52) rfl (by kernel_rfl) (by rfl) (by kernel_rfl) (by kernel_rfl) (fun _ _ _ h => h) (by rfl) ?hya24_52 hS ?resta24_52
      case hya24_52 => (intro wx hSx; obtain ⟨s1, s2, s3, s4⟩ := hSx; go_simp; (try with_reducible rfl))
      (try simp only [Act.put, List.getElem_toArray, List.getElem_cons_zero, List.getElem_cons_succ, List.setIfInBounds_toArray, List.set_cons_zero, List.set_cons_succ])
      refine wpAnyZ_takeD 25 (v := ?va25_53) rfl (by kernel_rfl) (by rfl) (by kernel_rfl) (by kernel_rfl) (fun _ _ _ h => h) (by rfl) ?hya25_53 hS ?resta25_53
      case hya25_53 => (intro wx hSx; obtain ⟨s1, s2, s3, s4⟩ := hSx; go_simp; (try with_reducible rfl))
      (try simp only [Act.put, List.getElem_toArray, List.getElem_cons_zero, List.getElem_cons_succ, List.setIfInBounds_toArray, List.set_cons_zero, List.set_cons_succ])
      refine wpAnyZ_one 26 rfl (by kernel_rfl) (fun K hK => ?_)
      go_simp
      rw [← hw7]
      refine hK _ _ (fun _ => hS7) ?_
      clear hK K hS hw7
      (try simp only [Act.put, List.getElem_toArray, List.getElem_cons_zero, List.getElem_cons_succ, List.setIfInBounds_toArray, List.set_cons_zero, List.set_cons_succ])
      refine wpAnyZ_one 27 rfl (by kernel_rfl) (fun K hK => ?_)
      refine step_append_row2 rfl (.tmp 53) (.tmp 79) 34 rfl w.heap.size 57 infR (.agg #[.int .i64 0, .int .u64 0, .bool false]) 3 24 Tryd.underlying34 HIR.out.1 HIR.out.2.1 HIR.out.2.2.1 HIR.out.2.2.2 rfl _ _ _ (by rfl) R7 _ 1 _ (by rfl) hsrc (by have e1 := HM.out.2.1; omega) (by have e1 := HM.out.2.1; unfold maxLen; omega) (by have e1 := HM.out.2.1; omega) hba ?_
      intro v' w9 r8 k8 o8
      obtain ⟨pw9, cw9, hv', -⟩ := Row.shape r8
      subst hv'
      have HB9 := @hideH _ (HB8.out.appU HK7.out (by rw [HLJ.out]; exact r8) k8 o8)
      have hS8 := HKS.out w9 HB9.out.kp
      try dsimp only at hS8
      clear r8 k8 o8 hsrc R7 hba hS7 HK7 HKS HB8
      refine hK _ _ (fun _ => hS8) ?_
      clear hK K
      (try simp only [Act.put, List.getElem_toArray, List.getElem_cons_zero, List.getElem_cons_succ, List.setIfInBounds_toArray, List.set_cons_zero, List.set_cons_succ])
      refine wpAnyZ_takeD 28 (v := ?va28_54) rfl (by kernel_rfl) (by rfl) (by kernel_rfl) (by kernel_rfl) (fun _ _ _ h => h) (by rfl) ?hya28_54 hS8 ?resta28_54
      case hya28_54 => (intro wx hSx; obtain ⟨s1, s2, s3, s4⟩ := hSx; go_simp; (try with_reducible rfl))
      (try simp only [Act.put, List.getElem_toArray, List.getElem_cons_zero, List.getElem_cons_succ, List.setIfInBounds_toArray, List.set_cons_zero, List.set_cons_succ])
      refine wpAnyZ_done (by kernel_rfl) ?_ _
      clear hS8
      go_wp2
      go_roundw
      case rel => exact ⟨j + 1, pw8, cw8, pw9, cw9, by omega, by go_num, rfl, rfl, by rw [HTX.out]; exact HB9.out⟩
      case measure => simp [intOf]; omega
end Go.Proofs.YtocpagpkpibmaaaDoor

