import Derived.Laws.IdiomStrings
import Derived.Test.YtebcmcmboomgfaaC5
/-
  OWN WORK. The laws of record: lent, whole, num.
-/
namespace Go.Proofs.Ytebcmcmboomgfaa
open Go.RowKit
set_option linter.unusedVariables false
set_option linter.unusedSimpArgs false

def lent9 : List UInt8 := (List.range 120).map fun k => UInt8.ofNat (129 + k)
theorem lent9_length : lent9.length = 120 := by simp [lent9]
theorem lent9_at {k : Nat} (h : k < 120) : lent9[k]? = some (UInt8.ofNat (129 + k)) := by
  unfold lent9
  rw [List.getElem?_map, List.getElem?_range h]
  rfl
/-- the first k of F are laid -/
def fillF (F : List UInt8) (k : Nat) : List UInt8 := F.take k ++ List.replicate (F.length - k) 0
theorem fillF_length {F : List UInt8} {k : Nat} (h : k ≤ F.length) : (fillF F k).length = F.length := by
  unfold fillF
  simp
  omega
theorem fillF_set {F : List UInt8} {k : Nat} {y : UInt8} (h : F[k]? = some y) : (fillF F k).set k y = fillF F (k + 1) := by
  obtain ⟨hk, rfl⟩ := List.getElem?_eq_some_iff.1 h
  unfold fillF
  have hl : (F.take k).length = k := by rw [List.length_take]; omega
  rw [List.set_append_right _ _ (by rw [hl]; exact Nat.le_refl _), hl, Nat.sub_self, show F.length - k = F.length - (k + 1) + 1 by omega, List.replicate_succ, List.set_cons_zero, List.take_add_one, List.getElem?_eq_getElem hk, Option.toList_some, List.append_assoc]
  rfl
theorem fillF_end (F : List UInt8) : fillF F F.length = F := by simp [fillF]
theorem mark_byte (k : Nat) (h : k < 120) : IntKind.u8.wrap (129 + (k : Int)) = ((UInt8.ofNat (129 + k)).toNat : Int) := by
  rw [UInt8.toNat_ofNat']
  unfold IntKind.wrap
  simp [IntKind.signed, IntKind.bits]
theorem rNum (e : Int) (w : World) : Calls Try.prog 11 #[.int .i64 e] w fun r w' => r = .returned (.int .i64 e) ∧ w' = w := by
  go_enter Try.func11, Try.ntmps11
  go_wp2
  go_ret
  exact ⟨rfl, rfl⟩
set_option maxRecDepth 20000 in
set_option maxHeartbeats 6400000 in
theorem lent_any (u : Value) (b : List UInt8) (w : World) (hu : Bs w u b) (hcap : b.length + 120 ≤ 140737488355328) :
    Calls Try.prog 22 #[u] w fun e w' => ∃ v, e = .returned v ∧ w'.ownsRow w.heap.size 5 1 v (b.length + 120) (u8s (b ++ lent9)) ∧ Kept [] w w' := by
  obtain ⟨pb, cb, rfl, -⟩ := id hu
  have HU := @hideH _ hu
  obtain ⟨n, hn⟩ : ∃ n, n = b.length := ⟨_, rfl⟩
  obtain ⟨N, hN⟩ : ∃ N, N = n + 120 := ⟨_, rfl⟩
  obtain ⟨F, hF⟩ : ∃ F, F = b ++ lent9 := ⟨_, rfl⟩
  have HF := @hideH _ (show F = b ++ lent9 ∧ F.length = N by refine ⟨hF, ?_⟩; rw [hF, List.length_append, lent9_length, hN, hn])
  have hmk := fun u => run_make_bs (P := Try.prog) u 22 5 Try.underlying22 (by kernel_rfl) N N (Nat.le_refl _) (by omega)
  have wN : IntKind.i64.wrap ((n : Int) + 120) = (N : Int) := by rw [show (n : Int) + 120 = (N : Int) by omega]; exact wrap_i64_of (by omega) (by omega)
  have HC := @hideH _ (show N ≤ 140737488355328 by omega)
  rw [← hF, ← hn, show n + 120 = N from hN.symm]
  have HN := @hideH _ (And.intro hn hN)
  have o1 := own_made w 5 w.heap.size N N (Nat.le_refl _) (Nat.le_refl _) (by unfold maxLen; omega)
  obtain ⟨w1, hw1⟩ : ∃ w1, w1 = w.alloc (.cells (madeCells #[.int .u8 0] N) 5) := ⟨_, rfl⟩
  have k1 : Kept [] w w1 := by rw [hw1]; exact (Kept.refl [] w).alloc _
  rw [← hw1] at o1
  have O1 := @hideH _ (show w1.ownsRow w.heap.size 5 1 (.slice (some ⟨w.heap.size, 0, none⟩) N N) N (u8s (fillF F 0)) ∧ Kept [] w w1 from ⟨by unfold fillF; rw [HF.out.2]; simpa using o1, k1⟩)
  have HW1 := @hideH _ hw1
  clear hu hcap hn hN hF o1 k1
  go_enter Try.func22, Try.ntmps22
  go_upto_region 2 with fail
  rw [← HW1.out]
  clear hw1 hmk wN
  obtain ⟨G, hG⟩ : ∃ G, G = w.heap.size := ⟨_, rfl⟩
  have HG := @hideH _ hG
  rw [← hG] at O1 ⊢
  clear hG
  go_wp2
  go_loopw [4] (fun vi wr => ∃ k : Nat, k ≤ n ∧ vi = .int .i64 k ∧ Hid (wr.ownsRow G 5 1 (.slice (some ⟨G, 0, none⟩) N N) N (u8s (fillF F k)) ∧ Kept [] w wr)) (fun vi _ => n - (intOf vi).toNat)
  case atStart => exact ⟨0, Nat.zero_le _, rfl, O1.out⟩
  case round =>
    obtain ⟨k, hk, rfl, hh⟩ := hrel
    by_cases hkl : k < n
    · have hkl' : (k : Int) < (n : Int) := by omega
      have hk0 : (0 : Int) ≤ (k : Int) := by omega
      have hkN : (k : Int) < (N : Int) := by have := HN.out; omega
      have wk : IntKind.i64.wrap ((k : Int) + 1) = (k : Int) + 1 := wrap_i64_of (by omega) (by have e1 := HC.out; have e2 := HN.out; omega)
      obtain ⟨x, hx⟩ : ∃ x, b[k]? = some x := ⟨_, List.getElem?_eq_getElem (by have := HN.out; omega)⟩
      obtain ⟨bb, ob, qb, ev, -, -, -, hc⟩ := HU.out.pos (by have := HN.out; omega)
      obtain rfl : pb = some ⟨bb, ob, none⟩ := by simp at ev; exact ev.1
      have cx := hh.out.2.cell (hc k x hx) (by simp)
      have hFk : F[k]? = some x := by rw [HF.out.1, List.getElem?_append_left (by have := HN.out; omega)]; exact hx
      have fz := hh.out.1.frozenAt k
      have cz := hh.out.1.cellAt k (by have := HN.out; omega)
      obtain ⟨o2, k2⟩ := set_own hh.out.1 k x (x.toNat : Int) rfl
      rw [fillF_set hFk] at o2
      have REL := @hideH _ (And.intro o2 (hh.out.2.trans k2 (fun y hy => .inr (by simp at hy; rw [hy, HG.out]; exact Nat.le_refl _))))
      obtain ⟨z, hz⟩ : ∃ z, (u8s (fillF F k))[k]? = some z := ⟨_, List.getElem?_eq_getElem (by rw [u8s_length, fillF_length (by have e1 := HF.out.2; have e2 := HN.out; omega), HF.out.2]; have := HN.out; omega)⟩
      rw [hz] at cz
      clear hh o2 k2 hx hFk hc ev hz
      go_wp2
      go_roundw
      case rel => exact ⟨k + 1, by omega, by go_num, REL⟩
      case measure => simp [intOf]; omega
    · have hkl' : ¬ (k : Int) < (n : Int) := by omega
      have hke : k = n := by omega
      have O2 := @hideH _ (show wr.ownsRow G 5 1 (.slice (some ⟨G, 0, none⟩) N N) N (u8s (fillF F n)) ∧ Kept [] w wr by rw [← hke]; exact ⟨by rw [hke] at hh ⊢; exact hh.out.1, hh.out.2⟩)
      obtain ⟨wo, rfl⟩ : ∃ wo, wo = wr := ⟨_, rfl⟩
      clear hh hke O1
      go_wp2
      go_loopw [5] (fun vi wr => ∃ q : Nat, n ≤ q ∧ q ≤ N ∧ vi = .int .i64 q ∧ Hid (wr.ownsRow G 5 1 (.slice (some ⟨G, 0, none⟩) N N) N (u8s (fillF F q)) ∧ Kept [] w wr)) (fun vi _ => N - (intOf vi).toNat)
      case atStart => exact ⟨n, Nat.le_refl _, by have := HN.out; omega, rfl, O2.out⟩
      case round =>
        clear O2
        obtain ⟨q, hq1, hq2, rfl, hh⟩ := hrel
        by_cases hql : q < N
        · have hql' : (q : Int) < (N : Int) := by omega
          have hq0 : (0 : Int) ≤ (q : Int) := by omega
          have wq : IntKind.i64.wrap ((q : Int) + 1) = (q : Int) + 1 := wrap_i64_of (by omega) (by have e1 := HC.out; omega)
          have wm1 : IntKind.i64.wrap (129 + (q : Int)) = 129 + (q : Int) := wrap_i64_of (by omega) (by have e1 := HC.out; omega)
          have wm2 : IntKind.i64.wrap (129 + (q : Int) - (n : Int)) = 129 + ((q - n : Nat) : Int) := by rw [show 129 + (q : Int) - (n : Int) = 129 + ((q - n : Nat) : Int) by omega]; exact wrap_i64_of (by omega) (by have e1 := HC.out; omega)
          have wm3 := mark_byte (q - n) (by have := HN.out; omega)
          have hFk : F[q]? = some (UInt8.ofNat (129 + (q - n))) := by rw [HF.out.1, List.getElem?_append_right (by have := HN.out; omega), ← HN.out.1]; exact lent9_at (by have := HN.out; omega)
          have fz := hh.out.1.frozenAt q
          have cz := hh.out.1.cellAt q (by omega)
          obtain ⟨o2, k2⟩ := set_own hh.out.1 q (UInt8.ofNat (129 + (q - n))) ((UInt8.ofNat (129 + (q - n))).toNat : Int) rfl
          rw [fillF_set hFk] at o2
          have REL := @hideH _ (And.intro o2 (hh.out.2.trans k2 (fun y hy => .inr (by simp at hy; rw [hy, HG.out]; exact Nat.le_refl _))))
          obtain ⟨z, hz⟩ : ∃ z, (u8s (fillF F q))[q]? = some z := ⟨_, List.getElem?_eq_getElem (by rw [u8s_length, fillF_length (by rw [HF.out.2]; exact hq2), HF.out.2]; exact hql)⟩
          rw [hz] at cz
          clear hh o2 k2 hFk hz
          go_wp2
          go_roundw
          case rel => exact ⟨q + 1, by omega, by omega, by go_num, REL⟩
          case measure => simp [intOf]; omega
        · have hql' : ¬ (q : Int) < (N : Int) := by omega
          have FIN := @hideH _ (show wr.ownsRow w.heap.size 5 1 (.slice (some ⟨G, 0, none⟩) N N) N (u8s F) ∧ Kept [] w wr by
            have hqN : q = F.length := by rw [HF.out.2]; omega
            refine ⟨?_, hh.out.2⟩
            have e1 := hh.out.1
            rw [hqN, fillF_end] at e1
            rw [← HG.out]
            exact e1)
          clear hh
          go_wp2
          go_ret
          exact ⟨_, rfl, FIN.out⟩
end Go.Proofs.Ytebcmcmboomgfaa

/-
  OWN WORK. The law's alive.
-/
namespace Go.Proofs.Ytebcmcmboomgfaa
open Go.RowKit
set_option linter.unusedVariables false
set_option linter.unusedSimpArgs false

def W17 : List UInt8 := [4, 1, 0, 0, 0, 0, 0, 0, 0, 2, 1, 0, 0, 0, 0, 0, 0]
def R4 : Rcd := ⟨4, 1, 258, 0, 0, 0, [], [], 0, [], []⟩
theorem R4_right : R4.Right := by
  unfold R4 Rcd.Right lsnOk
  simp
theorem R4_bytes : bytesR R4 = W17 := by decide
theorem Bs.ofText (w : World) (e : TypeId) (l : List UInt8) (hl : l.length ≤ maxLen) : Bs (w.drew.alloc (.cells (bytesRow ⟨l.toArray⟩ (grownCap w (ByteArray.mk l.toArray).size 0 e)) e ((bytesRow ⟨l.toArray⟩ (grownCap w (ByteArray.mk l.toArray).size 0 e)).size, (bytesRow ⟨l.toArray⟩ (grownCap w (ByteArray.mk l.toArray).size 0 e)).size + 1))) (.slice (some ⟨w.heap.size, 0, none⟩) l.length (grownCap w (ByteArray.mk l.toArray).size 0 e)) l := by
  have hs : (ByteArray.mk l.toArray).size = l.length := by simp [ByteArray.size]
  rw [hs]
  refine Bs.mk (grownCap_ge w l.length 0 e) (grownCap_le_maxLen w l.length 0 e hl) fun i x hx => ?_
  have hi := (List.getElem?_eq_some_iff.1 hx).1
  have h1 := World.cell?_alloc_mark w.drew (bytesRow ⟨l.toArray⟩ (grownCap w l.length 0 e)) e ((bytesRow ⟨l.toArray⟩ (grownCap w l.length 0 e)).size, (bytesRow ⟨l.toArray⟩ (grownCap w l.length 0 e)).size + 1) i
  have h2 := bytesRow_at ⟨l.toArray⟩ (grownCap w l.length 0 e) i (by simpa using hi)
  rw [h2] at h1
  have hx' : l[i] = x := by simpa [List.getElem?_eq_getElem hi] using hx
  simp [hx'] at h1
  simpa using h1
set_option maxRecDepth 20000 in
set_option maxHeartbeats 3200000 in
theorem alive_any (w : World) : Calls Try.prog 9 #[] w fun e w' => e = .returned (.bool true) ∧ Kept [] w w' := by
  have hl1 := Bs.litF w 5 W17 #[.int .u8 4, .int .u8 1, .int .u8 0, .int .u8 0, .int .u8 0, .int .u8 0, .int .u8 0, .int .u8 0, .int .u8 0, .int .u8 2, .int .u8 1, .int .u8 0, .int .u8 0, .int .u8 0, .int .u8 0, .int .u8 0, .int .u8 0] (0, 0) (by rfl) (by simp [W17, maxLen]) _ rfl
  have t1 := hl1.textR
  obtain ⟨TT, hTT⟩ : ∃ TT : ByteArray, TT = ⟨W17.toArray⟩ := ⟨_, rfl⟩
  rw [← hTT] at t1
  have h17 : W17.length = 17 := rfl
  rw [h17] at t1
  have t2 := fun w => run_bytes_of_string (P := Try.prog) w 9 22 5 TT Try.underlying9 Try.underlying22 Try.underlying5
  have hB := fun w => qBytes nilV R4 w (OwnR.bare 0 w 4 1 258 0 0 0 0).see
  rw [errF_t R4_right, bytesF_t R4_right, R4_bytes] at hB
  have hP := fun w => qParse _ W17 _ (Bs.ofText w 5 W17 (by simp [W17, maxLen])) (by simp [W17])
  rw [← hTT] at hP
  have hSz : TT.size = 17 := by rw [hTT]; rfl
  rw [hSz] at hP
  simp only [hSz] at t2
  rw [h17] at hP
  have HTT := @hideH _ hTT
  have pR : parseR W17 = some R4 := by rw [← R4_bytes]; exact parseR_of R4_right
  clear hTT hl1 hSz
  unfold Rcd.agg R4 nilV at hB
  dsimp only at hB
  go_enter Try.func9, Try.ntmps9
  go_wp2_with fail
  refine (hB _).mono ?_
  clear hB t1
  rintro e w2 ⟨u, rfl, a2⟩
  have K2 : Kept [] w w2 := ((Kept.refl [] w).alloc _).then a2.2
  have hbu := a2.bs
  obtain ⟨pu, cu, rfl⟩ := own_shape2 a2.1
  rw [h17] at hbu ⊢
  clear a2
  go_wp2_with fail
  refine (hP _).mono ?_
  clear hP t2
  rintro e w3 (⟨x, V, hp, rfl, OW, k3⟩ | ⟨hno, -, -⟩)
  rotate_left
  · rw [pR] at hno; cases hno
  obtain rfl : x = R4 := by rw [pR] at hp; cases hp; rfl
  have k23 : Kept [] w2 w3 := (((Kept.refl [] w2).drew).alloc _).then k3
  have hS := OW.see
  obtain ⟨pb, cb, pa, ca, pr, cr, pd, cd, rfl⟩ := hS.shapes
  obtain ⟨w4, hw4⟩ : ∃ w4, w4 = w3.alloc (.cells #[.int .i64 4, .int .i64 1, .int .i64 258, .int .i64 0, .int .i64 0, .int .i64 0, .slice pb 0 cb, .slice pa 0 ca, .int .i64 0, .slice pr 0 cr, .slice pd 0 cd] 26) := ⟨_, rfl⟩
  have k34 : Kept [] w3 w4 := by rw [hw4]; exact (Kept.refl [] w3).alloc _
  have B4 : Blk w4 w3.heap.size 26 [.int .i64 4, .int .i64 1, .int .i64 258, .int .i64 0, .int .i64 0, .int .i64 0, .slice pb 0 cb, .slice pa 0 ca, .int .i64 0, .slice pr 0 cr, .slice pd 0 cd] := by rw [hw4]; exact Blk.new w3 _ _
  have t4 := ((hbu.kept k23).kept k34).textR
  rw [← HTT.out] at t4
  have hZ := qSize _ R4 w4 (hS.kept k34)
  rw [bytesF_t R4_right, R4_bytes, h17] at hZ
  unfold Rcd.agg R4 at hZ
  dsimp only [List.length_nil] at hZ
  have K4 := @hideH _ ((K2.then k23).then k34)
  have c0 := B4.cell (j := 0) rfl
  have c1 := B4.cell (j := 1) rfl
  have c2 := B4.cell (j := 2) rfl
  have c3 := B4.cell (j := 3) rfl
  have c4 := B4.cell (j := 4) rfl
  have c5 := B4.cell (j := 5) rfl
  have c6 := B4.cell (j := 6) rfl
  have c7 := B4.cell (j := 7) rfl
  have c8 := B4.cell (j := 8) rfl
  have c9 := B4.cell (j := 9) rfl
  have c10 := B4.cell (j := 10) rfl
  clear hbu OW k3 k23 hS k34 B4 K2 hp
  unfold Rcd.agg R4
  dsimp only [List.length_nil]
  go_upto_region 4 with fail
  rw [← hw4]
  clear hw4
  go_wp2_with fail
  refine (rNum 0 _).mono ?_
  rintro e w5 ⟨rfl, rfl⟩
  go_wp2_with fail
  refine (rNum 0 _).mono ?_
  rintro e w5 ⟨rfl, rfl⟩
  go_wp2_with fail
  refine hZ.mono ?_
  rintro e w6 ⟨rfl, k6⟩
  have KE := @hideH _ (K4.out.then k6)
  clear hZ k6 c0 c1 c2 c3 c4 c5 c6 c7 c8 c9 c10 t4
  go_wp2
  go_ret
  exact ⟨rfl, KE.out⟩
end Go.Proofs.Ytebcmcmboomgfaa

