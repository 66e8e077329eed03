/-
  OWN WORK. octet's reader: NewReader, take, Row, Number, Int, Left, End.
-/
import Derived.Test.YtppdidimhchlgaaRows
import Derived.Test.YtppdidimhchlgaaGet
namespace Go.Proofs.Ytppdidimhchlgaa
open Go.RowKit
set_option linter.unusedVariables false

theorem own_shape {w : World} {base e size : Nat} {v : Value} {n : Nat} {xs : List Value} (h : w.ownsRow base e size v n xs) : ∃ p n c, v = .slice p n c := by
  rcases h.2 with ⟨rfl, _⟩ | ⟨g, cap, cur, rfl, _⟩
  · exact ⟨_, _, _, rfl⟩
  · exact ⟨_, _, _, rfl⟩

set_option maxHeartbeats 400000 in
theorem newReader_lo (v : Value) (l : List UInt8) (w : World) (hv : Bs w v l) (hl : l.length ≤ 140737488355328) :
    Calls Try.prog 17 #[v] w fun e w' => ∃ g p n c, e = .returned (.pointer (some ⟨g, 0, none⟩)) ∧ w.heap.size ≤ g ∧ w'.heap[g]? = some (.cells #[.slice p n c] 62 (0, 0)) ∧ Bs w' (.slice p n c) l ∧ (∀ x, (Value.slice p n c).ownBlock = some x → w.heap.size ≤ x) ∧ Kept [] w w' := by
  go_enter Try.func17, Try.ntmps17
  go_wp2_with (go_at_call 35; refine (clone_any _ _ _ hv hl).mono ?_; rintro e w1 ⟨v', rfl, hown, hk⟩; obtain ⟨p, n, c, rfl⟩ := own_shape hown)
  go_ret
  exact ⟨w1.heap.size, p, n, c, rfl, hk.size, heap_alloc_new w1 _, (Bs.ofOwn hown).kept ((Kept.refl [] _).alloc _), fun x hx => own_ge hown x hx, hk.alloc _⟩
set_option maxHeartbeats 400000 in
theorem newReader_any (v : Value) (l : List UInt8) (w : World) (hv : Bs w v l) (hl : l.length ≤ 140737488355328) :
    Calls Try.prog 17 #[v] w fun e w' => ∃ g, e = .returned (.pointer (some ⟨g, 0, none⟩)) ∧ w.heap.size ≤ g ∧ Rd 62 w' g l ∧ Kept [] w w' := by
  go_enter Try.func17, Try.ntmps17
  go_wp2_with (go_at_call 35; refine (clone_any _ _ _ hv hl).mono ?_; rintro e w1 ⟨v', rfl, hown, hk⟩; obtain ⟨p, n, c, rfl⟩ := own_shape hown)
  go_ret
  exact ⟨w1.heap.size, rfl, hk.size, Rd.fresh (Bs.ofOwn hown), hk.alloc _⟩

set_option maxHeartbeats 400000 in
theorem take_any (g : Nat) (l : List UInt8) (n : Nat) (w : World) (hr : Rd 62 w g l) (hn : n ≤ l.length) :
    Calls Try.prog 36 #[.pointer (some ⟨g, 0, none⟩), .int .i64 (n : Int)] w fun e w' => ∃ v', e = .returned v' ∧ Bs w' v' (l.take n) ∧ Rd 62 w' g (l.drop n) ∧ Kept [g] w w' := by
  obtain ⟨p, m, c, hg, hb⟩ := hr
  obtain ⟨p', c', e', h1, h2, -⟩ := id hb
  cases e'
  obtain ⟨p2, hr1, hr2, hb1, hb2⟩ := hb.cuts (P := Try.prog) 25 5 Try.underlying25 sz8 n hn
  obtain ⟨hc, hf⟩ := Rd.cell hg
  obtain ⟨hrd, hkp⟩ := Rd.set hg hb2
  go_enter Try.func36, Try.ntmps36
  go_wp2
  go_ret
  exact ⟨_, rfl, hb1.keptBox hkp (fun x hx => by simp at hx; subst hx; exact .inl ⟨_, _, _, _, _, hg⟩), hrd, hkp⟩

theorem left_any (g : Nat) (l : List UInt8) (w : World) (hr : Rd 62 w g l) :
    Calls Try.prog 20 #[.pointer (some ⟨g, 0, none⟩)] w fun e w' => e = .returned (.int .i64 (l.length : Int)) ∧ w' = w := by
  obtain ⟨p, m, c, hg, hb⟩ := hr
  obtain ⟨p', c', e', h1, h2, -⟩ := id hb
  cases e'
  obtain ⟨hc, hf⟩ := Rd.cell hg
  go_enter Try.func20, Try.ntmps20
  go_wp2
  go_ret
  exact ⟨rfl, rfl⟩
theorem end_any (g : Nat) (l : List UInt8) (w : World) (hr : Rd 62 w g l) :
    Calls Try.prog 21 #[.pointer (some ⟨g, 0, none⟩)] w fun e w' => e = .returned (.int .i64 (if l.length = 0 then 0 else 11)) ∧ w' = w := by
  obtain ⟨p, m, c, hg, hb⟩ := hr
  obtain ⟨p', c', e', h1, h2, -⟩ := id hb
  cases e'
  obtain ⟨hc, hf⟩ := Rd.cell hg
  by_cases h0 : l.length = 0
  · have h0' : ¬ (0 : Int) < (l.length : Int) := by omega
    rw [if_pos h0]
    clear h0
    go_enter Try.func21, Try.ntmps21
    go_wp2
    go_ret
    exact ⟨rfl, rfl⟩
  · have h0' : (0 : Int) < (l.length : Int) := by omega
    rw [if_neg h0]
    clear h0
    go_enter Try.func21, Try.ntmps21
    go_wp2
    go_ret
    exact ⟨rfl, rfl⟩

theorem end_nil (g : Nat) (w : World) (hr : Rd 62 w g []) :
    Calls Try.prog 21 #[.pointer (some ⟨g, 0, none⟩)] w fun e w' => e = .returned (.int .i64 0) ∧ w' = w := end_any g [] w hr
theorem left_nil (g : Nat) (w : World) (hr : Rd 62 w g []) :
    Calls Try.prog 20 #[.pointer (some ⟨g, 0, none⟩)] w fun e w' => e = .returned (.int .i64 0) ∧ w' = w := left_any g [] w hr

theorem row_neg (g : Nat) (n : Int) (w : World) (hn : n < 0) :
    Calls Try.prog 18 #[.pointer (some ⟨g, 0, none⟩), .int .i64 n] w fun e w' => e = .returned (.tuple #[.slice none 0 0, .int .i64 30]) ∧ w' = w := by
  go_enter Try.func18, Try.ntmps18
  go_wp2
  go_ret2
  exact ⟨rfl, rfl⟩
theorem row_short (g : Nat) (l : List UInt8) (n : Int) (w : World) (hr : Rd 62 w g l) (hn : (l.length : Int) < n) :
    Calls Try.prog 18 #[.pointer (some ⟨g, 0, none⟩), .int .i64 n] w fun e w' => e = .returned (.tuple #[.slice none 0 0, .int .i64 10]) ∧ w' = w := by
  obtain ⟨p, m, c, hg, hb⟩ := hr
  obtain ⟨p', c', e', h1, h2, -⟩ := id hb
  cases e'
  obtain ⟨hc, hf⟩ := Rd.cell hg
  have h0 : ¬ n < 0 := by omega
  go_enter Try.func18, Try.ntmps18
  go_wp2
  go_ret2
  exact ⟨rfl, rfl⟩
set_option maxHeartbeats 400000 in
theorem row_any (g : Nat) (l : List UInt8) (n : Nat) (w : World) (hr : Rd 62 w g l) (hn : n ≤ l.length) (hl : l.length ≤ 140737488355328) :
    Calls Try.prog 18 #[.pointer (some ⟨g, 0, none⟩), .int .i64 (n : Int)] w fun e w' => ∃ v', e = .returned (.tuple #[v', .int .i64 0]) ∧ w'.ownsRow w.heap.size 5 1 v' n (u8s (l.take n)) ∧ Rd 62 w' g (l.drop n) ∧ Kept [g] w w' := by
  obtain ⟨p, m, c, hg, hb⟩ := id hr
  obtain ⟨p', c', e', h1, h2, -⟩ := id hb
  cases e'
  obtain ⟨hc, hf⟩ := Rd.cell hg
  have h0 : ¬ (n : Int) < 0 := by omega
  have h0' : ¬ (l.length : Int) < (n : Int) := by omega
  clear hb
  go_enter Try.func18, Try.ntmps18
  go_wp2_with (first | (go_at_call 36; refine (take_any g l n _ hr hn).mono ?_; rintro e w1 ⟨v1, rfl, hb1, hr1, hk1⟩) | (go_at_call 35; refine (clone_any _ _ _ hb1 (by simp; omega)).mono ?_; rintro e w2 ⟨v2, rfl, hown2, hk2⟩))
  go_ret2
  have hlen : (l.take n).length = n := by simp; omega
  rw [hlen] at hown2
  exact ⟨v2, rfl, own_mono hown2 hk1.size, hr1.kept hk2 (by simp), hk1.then hk2⟩

theorem number_bad (g : Nat) (n : Int) (w : World) (h1 : n ≠ 1) (h2 : n ≠ 2) (h4 : n ≠ 4) (h8 : n ≠ 8) :
    Calls Try.prog 19 #[.pointer (some ⟨g, 0, none⟩), .int .i64 n] w fun e w' => e = .returned (.tuple #[.int .u64 0, .int .i64 30]) ∧ w' = w := by
  have e1 : (n != 1) = true := by simpa using h1
  have e2 : (n != 2) = true := by simpa using h2
  have e4 : (n != 4) = true := by simpa using h4
  have e8 : (n != 8) = true := by simpa using h8
  clear h1 h2 h4 h8
  go_enter Try.func19, Try.ntmps19
  go_wp2
  go_ret2
  exact ⟨rfl, rfl⟩
theorem number_short (g : Nat) (l : List UInt8) (n : Nat) (w : World) (hr : Rd 62 w g l) (hn : n = 1 ∨ n = 2 ∨ n = 4 ∨ n = 8) (hl : l.length < n) :
    Calls Try.prog 19 #[.pointer (some ⟨g, 0, none⟩), .int .i64 (n : Int)] w fun e w' => e = .returned (.tuple #[.int .u64 0, .int .i64 10]) ∧ w' = w := by
  obtain ⟨p, m, c, hg, hb⟩ := hr
  obtain ⟨p', c', e', h1, h2, -⟩ := id hb
  cases e'
  obtain ⟨hc, hf⟩ := Rd.cell hg
  rcases hn with rfl | rfl | rfl | rfl
  all_goals
    go_enter Try.func19, Try.ntmps19
    go_wp2
    go_ret2
    exact ⟨rfl, rfl⟩
set_option maxHeartbeats 800000 in
theorem number_any (g : Nat) (l : List UInt8) (n : Nat) (w : World) (hr : Rd 62 w g l) (hn : n = 1 ∨ n = 2 ∨ n = 4 ∨ n = 8) (hl : n ≤ l.length) :
    Calls Try.prog 19 #[.pointer (some ⟨g, 0, none⟩), .int .i64 (n : Int)] w fun e w' => e = .returned (.tuple #[.int .u64 (low (l.take n) : Int), .int .i64 0]) ∧ Rd 62 w' g (l.drop n) ∧ Kept [g] w w' := by
  obtain ⟨p, m, c, hg, hb⟩ := id hr
  obtain ⟨p', c', e', h1, h2, -⟩ := id hb
  cases e'
  obtain ⟨hc, hf⟩ := Rd.cell hg
  clear hb
  have hT := fun n hn => take_any g l n w hr hn
  have HT : Hid (∀ n : Nat, n ≤ l.length → Calls Try.prog 36 #[.pointer (some ⟨g, 0, none⟩), .int .i64 (n : Int)] w fun e w' => ∃ v', e = .returned v' ∧ Bs w' v' (l.take n) ∧ Rd 62 w' g (l.drop n) ∧ Kept [g] w w') := hT
  clear hT
  rcases hn with rfl | rfl | rfl | rfl
  · go_enter Try.func19, Try.ntmps19
    go_wp2_with (first | (go_at_call 36; refine (HT.out 1 hl).mono ?_; rintro e w1 ⟨v1, rfl, hb1, hr1, hk1⟩) | (go_at_call 37; refine (low_any _ _ _ hb1 (by simp; omega)).mono ?_; rintro e w2 ⟨rfl, rfl⟩))
    go_ret2
    exact ⟨rfl, hr1, hk1⟩
  · go_enter Try.func19, Try.ntmps19
    go_wp2_with (first | (go_at_call 36; refine (HT.out 2 hl).mono ?_; rintro e w1 ⟨v1, rfl, hb1, hr1, hk1⟩) | (go_at_call 37; refine (low_any _ _ _ hb1 (by simp; omega)).mono ?_; rintro e w2 ⟨rfl, rfl⟩))
    go_ret2
    exact ⟨rfl, hr1, hk1⟩
  · go_enter Try.func19, Try.ntmps19
    go_wp2_with (first | (go_at_call 36; refine (HT.out 4 hl).mono ?_; rintro e w1 ⟨v1, rfl, hb1, hr1, hk1⟩) | (go_at_call 37; refine (low_any _ _ _ hb1 (by simp; omega)).mono ?_; rintro e w2 ⟨rfl, rfl⟩))
    go_ret2
    exact ⟨rfl, hr1, hk1⟩
  · go_enter Try.func19, Try.ntmps19
    go_wp2_with (first | (go_at_call 36; refine (HT.out 8 hl).mono ?_; rintro e w1 ⟨v1, rfl, hb1, hr1, hk1⟩) | (go_at_call 37; refine (low_any _ _ _ hb1 (by simp; omega)).mono ?_; rintro e w2 ⟨rfl, rfl⟩))
    go_ret2
    exact ⟨rfl, hr1, hk1⟩

theorem int_short (g : Nat) (l : List UInt8) (w : World) (hr : Rd 62 w g l) (hl : l.length < 8) :
    Calls Try.prog 26 #[.pointer (some ⟨g, 0, none⟩)] w fun e w' => e = .returned (.tuple #[.int .i64 0, .int .i64 10]) ∧ w' = w := by
  obtain ⟨p, m, c, hg, hb⟩ := id hr
  obtain ⟨hc, hf⟩ := Rd.cell hg
  go_enter Try.func26, Try.ntmps26
  go_wp2_with (go_at_call 25; refine (get64_short _ _ _ hb hl).mono ?_; rintro e w1 ⟨rfl, rfl⟩)
  go_ret2
  exact ⟨rfl, rfl⟩
theorem int_big (g : Nat) (l : List UInt8) (w : World) (hr : Rd 62 w g l) (hl : 8 ≤ l.length) (hv : 1152921504606846976 < low (l.take 8)) :
    Calls Try.prog 26 #[.pointer (some ⟨g, 0, none⟩)] w fun e w' => e = .returned (.tuple #[.int .i64 0, .int .i64 30]) ∧ w' = w := by
  obtain ⟨p, m, c, hg, hb⟩ := id hr
  obtain ⟨hc, hf⟩ := Rd.cell hg
  have hv' : (1152921504606846976 : Int) < (low (l.take 8) : Int) := by omega
  clear hv
  go_enter Try.func26, Try.ntmps26
  go_wp2_with (go_at_call 25; refine (get64_any _ _ _ hb hl).mono ?_; rintro e w1 ⟨rfl, rfl⟩)
  go_ret2
  exact ⟨rfl, rfl⟩
set_option maxHeartbeats 800000 in
theorem int_any (g : Nat) (l : List UInt8) (w : World) (hr : Rd 62 w g l) (hl : 8 ≤ l.length) (hv : low (l.take 8) ≤ 1152921504606846976) :
    Calls Try.prog 26 #[.pointer (some ⟨g, 0, none⟩)] w fun e w' => e = .returned (.tuple #[.int .i64 (low (l.take 8) : Int), .int .i64 0]) ∧ Rd 62 w' g (l.drop 8) ∧ Kept [g] w w' := by
  obtain ⟨p, m, c, hg, hb⟩ := id hr
  obtain ⟨hc, hf⟩ := Rd.cell hg
  have hv' : (low (l.take 8) : Int) ≤ (1152921504606846976 : Int) := by omega
  have hwr : IntKind.i64.wrap (low (l.take 8) : Int) = (low (l.take 8) : Int) := by rw [IntKind.wrap_i64]; omega
  clear hv
  go_enter Try.func26, Try.ntmps26
  go_wp2_with (first | (go_at_call 25; refine (get64_any _ _ _ hb hl).mono ?_; rintro e w1 ⟨rfl, rfl⟩) | (go_at_call 36; refine (take_any g l 8 _ hr hl).mono ?_; rintro e w1 ⟨v1, rfl, hb1, hr1, hk1⟩))
  go_ret2
  exact ⟨rfl, hr1, hk1⟩
end Go.Proofs.Ytppdidimhchlgaa
