/-
  OWN WORK. What a reader's calls answer, as functions of what is left; octet's reader answers so.
-/
import Derived.Test.YtppdidimhchlgabRows
import Derived.Test.YtppdidimhchlgabReader
import Derived.Test.YtppdidimhchlgabRefReader
import Derived.Deep.RegionHeld3
namespace Go.Proofs.Ytppdidimhchlgab
open Go.RowKit
set_option linter.unusedVariables false

def errN (n : Int) (R : List UInt8) : Int := if n = 1 ∨ n = 2 ∨ n = 4 ∨ n = 8 then (if n ≤ (R.length : Int) then 0 else 10) else 30
def valN (n : Int) (R : List UInt8) : Nat := if (n = 1 ∨ n = 2 ∨ n = 4 ∨ n = 8) ∧ n ≤ (R.length : Int) then low (R.take n.toNat) else 0
def restN (n : Int) (R : List UInt8) : List UInt8 := if (n = 1 ∨ n = 2 ∨ n = 4 ∨ n = 8) ∧ n ≤ (R.length : Int) then R.drop n.toNat else R
def errI (R : List UInt8) : Int := if 8 ≤ R.length then (if low (R.take 8) ≤ 1152921504606846976 then 0 else 30) else 10
def valI (R : List UInt8) : Nat := if 8 ≤ R.length ∧ low (R.take 8) ≤ 1152921504606846976 then low (R.take 8) else 0
def restI (R : List UInt8) : List UInt8 := if 8 ≤ R.length ∧ low (R.take 8) ≤ 1152921504606846976 then R.drop 8 else R
def errR (n : Int) (R : List UInt8) : Int := if n < 0 then 30 else (if n ≤ (R.length : Int) then 0 else 10)
def valR (n : Int) (R : List UInt8) : List UInt8 := if 0 ≤ n ∧ n ≤ (R.length : Int) then R.take n.toNat else []
def restR (n : Int) (R : List UInt8) : List UInt8 := if 0 ≤ n ∧ n ≤ (R.length : Int) then R.drop n.toNat else R

def errE (R : List UInt8) : Int := if R.length = 0 then 0 else 11
theorem end_tot (g : Nat) (R : List UInt8) (w : World) (hr : Rd 38 w g R) :
    Calls Try.prog 21 #[.pointer (some ⟨g, 0, none⟩)] w fun e w' => e = .returned (.int .i64 (errE R)) ∧ w' = w := end_any g R w hr
theorem refEnd_tot (g : Nat) (R : List UInt8) (w : World) (hr : RR 40 w g R) :
    Calls Try.prog 22 #[.pointer (some ⟨g, 0, none⟩)] w fun e w' => e = .returned (.int .i64 (errE R)) ∧ ∃ n, w' = w.drewN n := refEnd_any g R w hr
theorem restN_le (n : Int) (R : List UInt8) : (restN n R).length ≤ R.length := by unfold restN; split <;> simp
theorem restI_le (R : List UInt8) : (restI R).length ≤ R.length := by unfold restI; split <;> simp
theorem restR_le (n : Int) (R : List UInt8) : (restR n R).length ≤ R.length := by unfold restR; split <;> simp

theorem number_tot (g : Nat) (R : List UInt8) (n : Int) (w : World) (hr : Rd 38 w g R) :
    Calls Try.prog 13 #[.pointer (some ⟨g, 0, none⟩), .int .i64 n] w fun e w' => e = .returned (.tuple #[.int .u64 (valN n R : Int), .int .i64 (errN n R)]) ∧ Rd 38 w' g (restN n R) ∧ Kept [g] w w' := by
  by_cases hn : n = 1 ∨ n = 2 ∨ n = 4 ∨ n = 8
  · obtain ⟨m, rfl⟩ : ∃ m : Nat, n = (m : Int) := ⟨n.toNat, by omega⟩
    by_cases hl : (m : Int) ≤ (R.length : Int)
    · unfold errN valN restN
      rw [if_pos hn, if_pos hl, if_pos ⟨hn, hl⟩, if_pos ⟨hn, hl⟩, Int.toNat_natCast]
      exact number_any g R m w hr (by omega) (by omega)
    · unfold errN valN restN
      rw [if_pos hn, if_neg hl, if_neg (fun h => hl h.2), if_neg (fun h => hl h.2)]
      refine (number_short g R m w hr (by omega) (by omega)).mono ?_
      rintro e w' ⟨rfl, rfl⟩
      exact ⟨rfl, hr, Kept.refl _ _⟩
  · unfold errN valN restN
    rw [if_neg hn, if_neg (fun h => hn h.1), if_neg (fun h => hn h.1)]
    refine (number_bad g n w (by omega) (by omega) (by omega) (by omega)).mono ?_
    rintro e w' ⟨rfl, rfl⟩
    exact ⟨rfl, hr, Kept.refl _ _⟩
theorem int_tot (g : Nat) (R : List UInt8) (w : World) (hr : Rd 38 w g R) :
    Calls Try.prog 17 #[.pointer (some ⟨g, 0, none⟩)] w fun e w' => e = .returned (.tuple #[.int .i64 (valI R : Int), .int .i64 (errI R)]) ∧ Rd 38 w' g (restI R) ∧ Kept [g] w w' := by
  by_cases h8 : 8 ≤ R.length
  · by_cases hb : low (R.take 8) ≤ 1152921504606846976
    · unfold errI valI restI
      rw [if_pos h8, if_pos hb, if_pos ⟨h8, hb⟩, if_pos ⟨h8, hb⟩]
      exact int_any g R w hr h8 hb
    · unfold errI valI restI
      rw [if_pos h8, if_neg hb, if_neg (fun h => hb h.2), if_neg (fun h => hb h.2)]
      refine (int_big g R w hr h8 (by omega)).mono ?_
      rintro e w' ⟨rfl, rfl⟩
      exact ⟨rfl, hr, Kept.refl _ _⟩
  · unfold errI valI restI
    rw [if_neg h8, if_neg (fun h => h8 h.1), if_neg (fun h => h8 h.1)]
    refine (int_short g R w hr (by omega)).mono ?_
    rintro e w' ⟨rfl, rfl⟩
    exact ⟨rfl, hr, Kept.refl _ _⟩
theorem row_tot (g : Nat) (R : List UInt8) (n : Int) (w : World) (hr : Rd 38 w g R) (hl : R.length ≤ 140737488355328) :
    Calls Try.prog 19 #[.pointer (some ⟨g, 0, none⟩), .int .i64 n] w fun e w' => ∃ v, e = .returned (.tuple #[v, .int .i64 (errR n R)]) ∧ Bs w' v (valR n R) ∧ Rd 38 w' g (restR n R) ∧ Kept [g] w w' := by
  by_cases hn : n < 0
  · unfold errR valR restR
    rw [if_pos hn, if_neg (fun h => by omega), if_neg (fun h => by omega)]
    refine (row_neg g n w hn).mono ?_
    rintro e w' ⟨rfl, rfl⟩
    exact ⟨_, rfl, Bs.nil _, hr, Kept.refl _ _⟩
  · obtain ⟨m, rfl⟩ : ∃ m : Nat, n = (m : Int) := ⟨n.toNat, by omega⟩
    by_cases hm : (m : Int) ≤ (R.length : Int)
    · unfold errR valR restR
      rw [if_neg hn, if_pos hm, if_pos ⟨by omega, hm⟩, if_pos ⟨by omega, hm⟩, Int.toNat_natCast]
      refine (row_any g R m w hr (by omega) hl).mono ?_
      rintro e w' ⟨v, rfl, ho, hr', hk⟩
      exact ⟨v, rfl, Bs.ofOwn ho, hr', hk⟩
    · unfold errR valR restR
      rw [if_neg hn, if_neg hm, if_neg (fun h => hm h.2), if_neg (fun h => hm h.2)]
      refine (row_short g R m w hr (by omega)).mono ?_
      rintro e w' ⟨rfl, rfl⟩
      exact ⟨_, rfl, Bs.nil _, hr, Kept.refl _ _⟩

theorem refNumber_bad (g : Nat) (n : Int) (w : World) (h1 : n ≠ 1) (h2 : n ≠ 2) (h4 : n ≠ 4) (h8 : n ≠ 8) :
    Calls Try.prog 16 #[.pointer (some ⟨g, 0, none⟩), .int .i64 n] w fun e w' => e = .returned (.tuple #[.int .u64 0, .int .i64 30]) ∧ w' = w := by
  have e1 : (n != 1) = true := by simpa using h1
  have e2 : (n != 2) = true := by simpa using h2
  have e4 : (n != 4) = true := by simpa using h4
  have e8 : (n != 8) = true := by simpa using h8
  clear h1 h2 h4 h8
  go_enter Try.func16, Try.ntmps16
  go_wp2
  go_ret2
  exact ⟨rfl, rfl⟩
set_option maxHeartbeats 1600000 in
theorem refNumber_short (g : Nat) (R : List UInt8) (n : Nat) (w : World) (hr : RR 40 w g R) (hn : n = 1 ∨ n = 2 ∨ n = 4 ∨ n = 8) (hl : R.length < n) :
    Calls Try.prog 16 #[.pointer (some ⟨g, 0, none⟩), .int .i64 (n : Int)] w fun e w' => e = .returned (.tuple #[.int .u64 0, .int .i64 10]) ∧ ∃ n, w' = w.drewN n := by
  obtain ⟨p, m, c, a, B, hg, hb, ha, rfl⟩ := hr
  obtain ⟨p', c', e', h1, h2, -⟩ := id hb
  cases e'
  obtain ⟨hc0, hc1, hf1⟩ := two_cells hg
  obtain ⟨p2, -, hr2, -, hb2⟩ := hb.cuts (P := Try.prog) 22 5 Try.underlying22 sz8 a ha
  have ha' : (a : Int) ≤ (B.length : Int) := by omega
  rcases hn with rfl | rfl | rfl | rfl
  all_goals
    go_enter Try.func16, Try.ntmps16
    go_wp2
    go_quiet ((go_at_call 26; exact Calls.quiet_of_same (refGet_short _ _ _ _ (hb2.kept ((Kept.refl [] w).drewN _)) hl)))
    go_wp2
    go_ret2
    exact ⟨rfl, nq, rfl⟩
theorem RR.setN {t : TypeId} {w : World} {g : Nat} {p : Option Addr} {n c a : Nat} {B : List UInt8} (h : w.heap[g]? = some (.cells #[.slice p n c, .int .i64 (a : Nat)] t (0, 0))) (hb : Bs w (.slice p n c) B) (k : Nat) (hk : a + k ≤ B.length) (q : Nat) (z : Int) (hz : z = (a : Int) + (k : Int)) :
    RR t ((w.drewN q).setCell ⟨g, 1, none⟩ (.int .i64 z)) g ((B.drop a).drop k) ∧ Kept [g] w ((w.drewN q).setCell ⟨g, 1, none⟩ (.int .i64 z)) := by
  have hz' : z = ((a + k : Nat) : Int) := by omega
  subst hz'
  rw [List.drop_drop]
  have hs := RR.set (w := w.drewN q) (t := t) (a' := a + k) h (hb.kept ((Kept.refl [] w).drewN q)) hk
  exact ⟨hs.1, ((Kept.refl [g] w).drewN q).trans hs.2 (by simp)⟩
set_option maxHeartbeats 1600000 in
theorem refNumber_any (g : Nat) (R : List UInt8) (n : Nat) (w : World) (hr : RR 40 w g R) (hn : n = 1 ∨ n = 2 ∨ n = 4 ∨ n = 8) (hl : n ≤ R.length) :
    Calls Try.prog 16 #[.pointer (some ⟨g, 0, none⟩), .int .i64 (n : Int)] w fun e w' => e = .returned (.tuple #[.int .u64 (low (R.take n) : Int), .int .i64 0]) ∧ RR 40 w' g (R.drop n) ∧ Kept [g] w w' := by
  obtain ⟨p, m, c, a, B, hg, hb, ha, rfl⟩ := hr
  obtain ⟨p', c', e', h1, h2, -⟩ := id hb
  cases e'
  obtain ⟨hc0, hc1, hf1⟩ := two_cells hg
  obtain ⟨p2, -, hr2, -, hb2⟩ := hb.cuts (P := Try.prog) 22 5 Try.underlying22 sz8 a ha
  have ha' : (a : Int) ≤ (B.length : Int) := by omega
  have hB : (B.length : Int) ≤ 9223372036854775807 := by unfold maxLen at h2; omega
  have hl' : a + n ≤ B.length := by rw [List.length_drop] at hl; omega
  rcases hn with rfl | rfl | rfl | rfl
  all_goals
    go_enter Try.func16, Try.ntmps16
    go_wp2
    go_quiet ((go_at_call 26; exact Calls.quiet_of_same (refGet_any _ _ _ _ (hb2.kept ((Kept.refl [] w).drewN _)) hl (by decide) (by decide))))
    go_wp2
    go_ret2
    exact ⟨rfl, RR.setN hg hb _ hl' nq _ (by simp)⟩

theorem refInt_short (g : Nat) (R : List UInt8) (w : World) (hr : RR 40 w g R) (hl : R.length < 8) :
    Calls Try.prog 18 #[.pointer (some ⟨g, 0, none⟩)] w fun e w' => e = .returned (.tuple #[.int .i64 0, .int .i64 10]) ∧ ∃ n, w' = w.drewN n := by
  obtain ⟨p, m, c, a, B, hg, hb, ha, rfl⟩ := hr
  obtain ⟨p', c', e', h1, h2, -⟩ := id hb
  cases e'
  obtain ⟨hc0, hc1, hf1⟩ := two_cells hg
  obtain ⟨p2, -, hr2, -, hb2⟩ := hb.cuts (P := Try.prog) 22 5 Try.underlying22 sz8 a ha
  have ha' : (a : Int) ≤ (B.length : Int) := by omega
  go_enter Try.func18, Try.ntmps18
  go_wp2
  go_quiet ((go_at_call 26; exact Calls.quiet_of_same (refGet_short _ _ 8 _ (hb2.kept ((Kept.refl [] w).drewN _)) hl)))
  go_wp2
  go_ret2
  exact ⟨rfl, nq, rfl⟩
theorem refInt_big (g : Nat) (R : List UInt8) (w : World) (hr : RR 40 w g R) (hl : 8 ≤ R.length) (hv : 1152921504606846976 < low (R.take 8)) :
    Calls Try.prog 18 #[.pointer (some ⟨g, 0, none⟩)] w fun e w' => e = .returned (.tuple #[.int .i64 0, .int .i64 30]) ∧ ∃ n, w' = w.drewN n := by
  obtain ⟨p, m, c, a, B, hg, hb, ha, rfl⟩ := hr
  obtain ⟨p', c', e', h1, h2, -⟩ := id hb
  cases e'
  obtain ⟨hc0, hc1, hf1⟩ := two_cells hg
  obtain ⟨p2, -, hr2, -, hb2⟩ := hb.cuts (P := Try.prog) 22 5 Try.underlying22 sz8 a ha
  have ha' : (a : Int) ≤ (B.length : Int) := by omega
  have hv' : (1152921504606846976 : Int) < (low ((B.drop a).take 8) : Int) := by omega
  clear hv
  go_enter Try.func18, Try.ntmps18
  go_wp2
  go_quiet ((go_at_call 26; exact Calls.quiet_of_same (refGet_any _ _ 8 _ (hb2.kept ((Kept.refl [] w).drewN _)) hl (by decide) (by decide))))
  go_wp2
  go_ret2
  exact ⟨rfl, nq, rfl⟩
set_option maxHeartbeats 800000 in
theorem refInt_any (g : Nat) (R : List UInt8) (w : World) (hr : RR 40 w g R) (hl : 8 ≤ R.length) (hv : low (R.take 8) ≤ 1152921504606846976) :
    Calls Try.prog 18 #[.pointer (some ⟨g, 0, none⟩)] w fun e w' => e = .returned (.tuple #[.int .i64 (low (R.take 8) : Int), .int .i64 0]) ∧ RR 40 w' g (R.drop 8) ∧ Kept [g] w w' := by
  obtain ⟨p, m, c, a, B, hg, hb, ha, rfl⟩ := hr
  obtain ⟨p', c', e', h1, h2, -⟩ := id hb
  cases e'
  obtain ⟨hc0, hc1, hf1⟩ := two_cells hg
  obtain ⟨p2, -, hr2, -, hb2⟩ := hb.cuts (P := Try.prog) 22 5 Try.underlying22 sz8 a ha
  have ha' : (a : Int) ≤ (B.length : Int) := by omega
  have hB : (B.length : Int) ≤ 9223372036854775807 := by unfold maxLen at h2; omega
  have hl' : a + 8 ≤ B.length := by rw [List.length_drop] at hl; omega
  have hv' : (low ((B.drop a).take 8) : Int) ≤ 1152921504606846976 := by omega
  have hwr : IntKind.i64.wrap (low ((B.drop a).take 8) : Int) = (low ((B.drop a).take 8) : Int) := by rw [IntKind.wrap_i64]; omega
  clear hv
  go_enter Try.func18, Try.ntmps18
  go_wp2
  go_quiet ((go_at_call 26; exact Calls.quiet_of_same (refGet_any _ _ 8 _ (hb2.kept ((Kept.refl [] w).drewN _)) hl (by decide) (by decide))))
  go_wp2
  go_ret2
  exact ⟨rfl, RR.setN hg hb 8 hl' nq _ (by simp)⟩

theorem refRow_neg (g : Nat) (n : Int) (w : World) (hn : n < 0) :
    Calls Try.prog 20 #[.pointer (some ⟨g, 0, none⟩), .int .i64 n] w fun e w' => e = .returned (.tuple #[.slice none 0 0, .int .i64 30]) ∧ w' = w := by
  go_enter Try.func20, Try.ntmps20
  go_wp2
  go_ret2
  exact ⟨rfl, rfl⟩
theorem refRow_short (g : Nat) (R : List UInt8) (n : Int) (w : World) (hr : RR 40 w g R) (hn : (R.length : Int) < n) :
    Calls Try.prog 20 #[.pointer (some ⟨g, 0, none⟩), .int .i64 n] w fun e w' => e = .returned (.tuple #[.slice none 0 0, .int .i64 10]) ∧ ∃ n, w' = w.drewN n := by
  obtain ⟨p, m, c, a, B, hg, hb, ha, rfl⟩ := hr
  obtain ⟨p', c', e', h1, h2, -⟩ := id hb
  cases e'
  obtain ⟨hc0, hc1, hf1⟩ := two_cells hg
  have hB : (B.length : Int) ≤ 9223372036854775807 := by unfold maxLen at h2; omega
  have ha' : (a : Int) ≤ (B.length : Int) := by omega
  have h0 : ¬ n < 0 := by omega
  have hn' : (B.length : Int) - (a : Int) < n := by rw [List.length_drop] at hn; omega
  clear hn
  go_enter Try.func20, Try.ntmps20
  go_wp2
  go_quiet (fail)
  go_wp2
  go_ret2
  exact ⟨rfl, nq, rfl⟩
set_option maxHeartbeats 800000 in
theorem refRow_any (g : Nat) (R : List UInt8) (n : Nat) (w : World) (hr : RR 40 w g R) (hn : n ≤ R.length) (hl : R.length ≤ 140737488355328) :
    Calls Try.prog 20 #[.pointer (some ⟨g, 0, none⟩), .int .i64 (n : Int)] w fun e w' => ∃ v', e = .returned (.tuple #[v', .int .i64 0]) ∧ Bs w' v' (R.take n) ∧ RR 40 w' g (R.drop n) ∧ Kept [g] w w' := by
  obtain ⟨p, m, c, a, B, hg, hb, ha, rfl⟩ := hr
  obtain ⟨p', c', e', h1, h2, -⟩ := id hb
  cases e'
  obtain ⟨hc0, hc1, hf1⟩ := two_cells hg
  have hB : (B.length : Int) ≤ 9223372036854775807 := by unfold maxLen at h2; omega
  have ha' : (a : Int) ≤ (B.length : Int) := by omega
  have h0 : ¬ (n : Int) < 0 := by omega
  have hn' : ¬ ((B.length : Int) - (a : Int) < (n : Int)) := by rw [List.length_drop] at hn; omega
  obtain ⟨p3, hcut, hb3⟩ := hb.mid (P := Try.prog) 22 5 Try.underlying22 sz8 a n (by rw [List.length_drop] at hn; omega)
  have hb3l : ((B.drop a).take n).length = n := by rw [List.length_take]; omega
  have hac : (a : Int) + (n : Int) ≤ (c : Int) := by omega
  have ha0 : (0 : Int) ≤ (a : Int) := by omega
  have han : (a : Int) ≤ (a : Int) + (n : Int) := by omega
  have hwr : IntKind.i64.wrap ((a : Int) + (n : Int)) = (a : Int) + (n : Int) := by rw [IntKind.wrap_i64]; unfold maxLen at h2; omega
  go_enter Try.func20, Try.ntmps20
  go_wp2
  go_quiet (fail)
  go_wp2
  go_region_held3 (fun w' => w'.cell? ⟨g, 0, none⟩ = some (.slice p B.length c) ∧ w'.cell? ⟨g, 1, none⟩ = some (.int .i64 (a : Int))) (first | go_keep | exact ⟨hg1.cell hc0 (by simp [Value.ownBlock]), hg1.cell hc1 (by simp [Value.ownBlock])⟩)
    ((refine step_append_bs (by rfl) (.tmp 21) (.tmp 36) 22 (by rfl) w.heap.size 5 Try.underlying22 (by kernel_rfl) _ _ _ (by rfl) (World.ownsRow_nil _ _ _ _) _ ((B.drop a).take n) (by rfl) (Bs.heap (w := w) rfl hb3) (by omega) (Nat.le_refl _) ?_; intro v1 w1 hown1 hg1 hat1))
  have hk1 : Kept [] w w1 := (((Kept.refl [] w).drewN nq).drew).grown hg1 (fun k hk => by simp [Value.ownBlock] at hk)
  have hg' := (hk1.block g (Array.getElem?_eq_some_iff.1 hg).1 (by simp)).trans hg
  obtain ⟨hc0', hc1', hf1'⟩ := two_cells hg'
  have hb1 := hb.kept hk1
  have hs := RR.set (w := w1) (a' := a + n) hg' hb1 (by rw [List.length_drop] at hn; omega)
  rw [← List.drop_drop, show ((a + n : Nat) : Int) = (a : Int) + (n : Int) from by omega] at hs
  have hv1 : Bs w1 v1 ((B.drop a).take n) := by simp only [Nat.zero_add, List.nil_append] at hown1; exact Bs.ofOwn hown1
  have HS : Hid (RR 40 (w1.setCell ⟨g, 1, none⟩ (.int .i64 ((a : Int) + (n : Int)))) g ((B.drop a).drop n) ∧ Kept [g] w1 (w1.setCell ⟨g, 1, none⟩ (.int .i64 ((a : Int) + (n : Int))))) := hs
  have HNB : Hid (NoByte w1 g) := noByte_two hg'
  clear hs hg1 hat1 hown1 hcut hb3 hb1
  go_wp2
  go_ret2
  exact ⟨v1, rfl, hv1.keptNB HS.out.2 (by intro x hx; simp at hx; subst hx; exact .inl HNB.out), HS.out.1, (hk1.mono (by simp)).trans HS.out.2 (by simp)⟩

theorem refNumber_tot (g : Nat) (R : List UInt8) (n : Int) (w : World) (hr : RR 40 w g R) :
    Calls Try.prog 16 #[.pointer (some ⟨g, 0, none⟩), .int .i64 n] w fun e w' => e = .returned (.tuple #[.int .u64 (valN n R : Int), .int .i64 (errN n R)]) ∧ RR 40 w' g (restN n R) ∧ Kept [g] w w' := by
  by_cases hn : n = 1 ∨ n = 2 ∨ n = 4 ∨ n = 8
  · obtain ⟨m, rfl⟩ : ∃ m : Nat, n = (m : Int) := ⟨n.toNat, by omega⟩
    by_cases hl : (m : Int) ≤ (R.length : Int)
    · unfold errN valN restN
      rw [if_pos hn, if_pos hl, if_pos ⟨hn, hl⟩, if_pos ⟨hn, hl⟩, Int.toNat_natCast]
      exact refNumber_any g R m w hr (by omega) (by omega)
    · unfold errN valN restN
      rw [if_pos hn, if_neg hl, if_neg (fun h => hl h.2), if_neg (fun h => hl h.2)]
      refine (refNumber_short g R m w hr (by omega) (by omega)).mono ?_
      rintro e w' ⟨rfl, q, rfl⟩
      exact ⟨rfl, hr.keptNB ((Kept.refl [] w).drewN q) (by simp), (Kept.refl [g] w).drewN q⟩
  · unfold errN valN restN
    rw [if_neg hn, if_neg (fun h => hn h.1), if_neg (fun h => hn h.1)]
    refine (refNumber_bad g n w (by omega) (by omega) (by omega) (by omega)).mono ?_
    rintro e w' ⟨rfl, rfl⟩
    exact ⟨rfl, hr, Kept.refl _ _⟩
theorem refInt_tot (g : Nat) (R : List UInt8) (w : World) (hr : RR 40 w g R) :
    Calls Try.prog 18 #[.pointer (some ⟨g, 0, none⟩)] w fun e w' => e = .returned (.tuple #[.int .i64 (valI R : Int), .int .i64 (errI R)]) ∧ RR 40 w' g (restI R) ∧ Kept [g] w w' := by
  by_cases h8 : 8 ≤ R.length
  · by_cases hb : low (R.take 8) ≤ 1152921504606846976
    · unfold errI valI restI
      rw [if_pos h8, if_pos hb, if_pos ⟨h8, hb⟩, if_pos ⟨h8, hb⟩]
      exact refInt_any g R w hr h8 hb
    · unfold errI valI restI
      rw [if_pos h8, if_neg hb, if_neg (fun h => hb h.2), if_neg (fun h => hb h.2)]
      refine (refInt_big g R w hr h8 (by omega)).mono ?_
      rintro e w' ⟨rfl, q, rfl⟩
      exact ⟨rfl, hr.keptNB ((Kept.refl [] w).drewN q) (by simp), (Kept.refl [g] w).drewN q⟩
  · unfold errI valI restI
    rw [if_neg h8, if_neg (fun h => h8 h.1), if_neg (fun h => h8 h.1)]
    refine (refInt_short g R w hr (by omega)).mono ?_
    rintro e w' ⟨rfl, q, rfl⟩
    exact ⟨rfl, hr.keptNB ((Kept.refl [] w).drewN q) (by simp), (Kept.refl [g] w).drewN q⟩
theorem refRow_tot (g : Nat) (R : List UInt8) (n : Int) (w : World) (hr : RR 40 w g R) (hl : R.length ≤ 140737488355328) :
    Calls Try.prog 20 #[.pointer (some ⟨g, 0, none⟩), .int .i64 n] w fun e w' => ∃ v, e = .returned (.tuple #[v, .int .i64 (errR n R)]) ∧ Bs w' v (valR n R) ∧ RR 40 w' g (restR n R) ∧ Kept [g] w w' := by
  by_cases hn : n < 0
  · unfold errR valR restR
    rw [if_pos hn, if_neg (fun h => by omega), if_neg (fun h => by omega)]
    refine (refRow_neg g n w hn).mono ?_
    rintro e w' ⟨rfl, rfl⟩
    exact ⟨_, rfl, Bs.nil _, hr, Kept.refl _ _⟩
  · obtain ⟨m, rfl⟩ : ∃ m : Nat, n = (m : Int) := ⟨n.toNat, by omega⟩
    by_cases hm : (m : Int) ≤ (R.length : Int)
    · unfold errR valR restR
      rw [if_neg hn, if_pos hm, if_pos ⟨by omega, hm⟩, if_pos ⟨by omega, hm⟩, Int.toNat_natCast]
      exact refRow_any g R m w hr (by omega) hl
    · unfold errR valR restR
      rw [if_neg hn, if_neg hm, if_neg (fun h => hm h.2), if_neg (fun h => hm h.2)]
      refine (refRow_short g R m w hr (by omega)).mono ?_
      rintro e w' ⟨rfl, q, rfl⟩
      exact ⟨_, rfl, Bs.nil _, hr.keptNB ((Kept.refl [] w).drewN q) (by simp), (Kept.refl [g] w).drewN q⟩
end Go.Proofs.Ytppdidimhchlgab
