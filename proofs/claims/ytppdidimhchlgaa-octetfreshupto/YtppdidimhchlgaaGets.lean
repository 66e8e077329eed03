/-
  OWN WORK. Get and the document's Get, whole; tidemarklaw01.gets and puts.
-/
import Derived.Test.YtppdidimhchlgaaRows
import Derived.Test.YtppdidimhchlgaaPut
import Derived.Test.YtppdidimhchlgaaRef
namespace Go.Proofs.Ytppdidimhchlgaa
open Go.RowKit
set_option linter.unusedVariables false

/-- the number at the beginning, and the error -/
def gvV (n : Nat) (l : List UInt8) : Nat := if n ≤ l.length then low (l.take n) else 0
def gvE (n : Nat) (l : List UInt8) : Int := if n ≤ l.length then 0 else 10
theorem gvV_lt (n : Nat) (l : List UInt8) : gvV n l < 256 ^ n := by
  unfold gvV
  split
  · exact low_take_lt l n (by assumption)
  · exact Nat.pow_pos (by decide)
theorem gvV_wrap (n : Nat) (l : List UInt8) (h : n ≤ 8) : IntKind.u64.wrap (gvV n l : Int) = (gvV n l : Int) := by
  have h1 := gvV_lt n l
  have h2 : 256 ^ n ≤ 256 ^ 8 := Nat.pow_le_pow_right (by omega) h
  have h3 : 256 ^ 8 = 18446744073709551616 := by decide
  rw [IntKind.wrap_u64]
  omega
theorem get8_tot (v : Value) (l : List UInt8) (w : World) (hv : Bs w v l) :
    Calls Try.prog 22 #[v] w fun e w' => e = .returned (.tuple #[.int .u8 (gvV 1 l : Int), .int .i64 (gvE 1 l)]) ∧ w' = w := by
  unfold gvV gvE
  by_cases h : 1 ≤ l.length
  · rw [if_pos h, if_pos h]
    exact get8_any v l w hv h
  · rw [if_neg h, if_neg h]
    exact get8_short v l w hv (by omega)
theorem get16_tot (v : Value) (l : List UInt8) (w : World) (hv : Bs w v l) :
    Calls Try.prog 23 #[v] w fun e w' => e = .returned (.tuple #[.int .u16 (gvV 2 l : Int), .int .i64 (gvE 2 l)]) ∧ w' = w := by
  unfold gvV gvE
  by_cases h : 2 ≤ l.length
  · rw [if_pos h, if_pos h]
    exact get16_any v l w hv h
  · rw [if_neg h, if_neg h]
    exact get16_short v l w hv (by omega)
theorem get32_tot (v : Value) (l : List UInt8) (w : World) (hv : Bs w v l) :
    Calls Try.prog 24 #[v] w fun e w' => e = .returned (.tuple #[.int .u32 (gvV 4 l : Int), .int .i64 (gvE 4 l)]) ∧ w' = w := by
  unfold gvV gvE
  by_cases h : 4 ≤ l.length
  · rw [if_pos h, if_pos h]
    exact get32_any v l w hv h
  · rw [if_neg h, if_neg h]
    exact get32_short v l w hv (by omega)
theorem get64_tot (v : Value) (l : List UInt8) (w : World) (hv : Bs w v l) :
    Calls Try.prog 25 #[v] w fun e w' => e = .returned (.tuple #[.int .u64 (gvV 8 l : Int), .int .i64 (gvE 8 l)]) ∧ w' = w := by
  unfold gvV gvE
  by_cases h : 8 ≤ l.length
  · rw [if_pos h, if_pos h]
    exact get64_any v l w hv h
  · rw [if_neg h, if_neg h]
    exact get64_short v l w hv (by omega)
theorem refGet_tot (v : Value) (l : List UInt8) (n : Nat) (w : World) (hv : Bs w v l) (h1 : 1 ≤ n) (h8 : n ≤ 8) :
    Calls Try.prog 39 #[v, .int .i64 (n : Int)] w fun e w' => e = .returned (.tuple #[.int .u64 (gvV n l : Int), .int .i64 (gvE n l)]) ∧ w' = w := by
  unfold gvV gvE
  by_cases h : n ≤ l.length
  · rw [if_pos h, if_pos h]
    exact refGet_any v l n w hv h h1 h8
  · rw [if_neg h, if_neg h]
    exact refGet_short v l n w hv (by omega)

set_option maxHeartbeats 800000 in
theorem gets_any (v : Value) (l : List UInt8) (w : World) (hv : Bs w v l) :
    Calls Try.prog 30 #[v] w fun e w' => e = .returned (.bool true) ∧ w' = w := by
  have e1 := gvV_wrap 1 l (by decide)
  have e2 := gvV_wrap 2 l (by decide)
  have e4 := gvV_wrap 4 l (by decide)
  go_enter Try.func30, Try.ntmps30
  go_wp2_with fail
  refine (get8_tot _ l _ hv).mono ?_
  rintro e w' ⟨rfl, rfl⟩
  go_wp2_with fail
  refine (refGet_tot _ l 1 _ hv (by decide) (by decide)).mono ?_
  rintro e w' ⟨rfl, rfl⟩
  go_wp2_with fail
  refine (get16_tot _ l _ hv).mono ?_
  rintro e w' ⟨rfl, rfl⟩
  go_wp2_with fail
  refine (refGet_tot _ l 2 _ hv (by decide) (by decide)).mono ?_
  rintro e w' ⟨rfl, rfl⟩
  go_wp2_with fail
  refine (get32_tot _ l _ hv).mono ?_
  rintro e w' ⟨rfl, rfl⟩
  go_wp2_with fail
  refine (refGet_tot _ l 4 _ hv (by decide) (by decide)).mono ?_
  rintro e w' ⟨rfl, rfl⟩
  go_wp2_with fail
  refine (get64_tot _ l _ hv).mono ?_
  rintro e w' ⟨rfl, rfl⟩
  go_wp2_with fail
  refine (refGet_tot _ l 8 _ hv (by decide) (by decide)).mono ?_
  rintro e w' ⟨rfl, rfl⟩
  go_wp2
  go_ret
  exact ⟨rfl, rfl⟩

theorem c8 (x : Nat) : (x : Int) % 256 = ((x % 256 : Nat) : Int) := by omega
theorem c16 (x : Nat) : (x : Int) % 65536 = ((x % 65536 : Nat) : Int) := by omega
theorem c32 (x : Nat) : (x : Int) % 4294967296 = ((x % 4294967296 : Nat) : Int) := by omega
theorem w16 (x : Nat) : IntKind.u16.wrap (x : Int) = ((x % 65536 : Nat) : Int) := by
  simp only [IntKind.wrap, IntKind.bits, IntKind.signed]
  simp
theorem w32 (x : Nat) : IntKind.u32.wrap (x : Int) = ((x % 4294967296 : Nat) : Int) := by
  simp only [IntKind.wrap, IntKind.bits, IntKind.signed]
  simp
set_option maxHeartbeats 1600000 in
theorem puts_any (v : Value) (l : List UInt8) (x : Nat) (w : World) (hv : Bs w v l) (hl : l.length ≤ 140737488355000) (hx : x < 18446744073709551616) :
    Calls Try.prog 29 #[v, .int .u64 (x : Int)] w fun e w' => e = .returned (.bool true) ∧ Kept [] w w' := by
  have HX : Hid (x < 18446744073709551616) := hx
  clear hx
  go_enter Try.func29, Try.ntmps29
  go_wp2_with fail
  rw [c8 x]
  refine (put8_any _ l (x % 256) _ hv hl (by omega)).mono ?_
  rintro e wa0 ⟨va0, rfl, oa0, ka0⟩
  have ba0 := Bs.ofOwn oa0
  have hva0 := Bs.kept hv ka0
  clear oa0
  go_wp2_with fail
  rw [c8 x]
  refine (refPut_any _ l (x % 256) 1 _ hva0 hl (by decide) (by have := HX.out; omega)).mono ?_
  rintro e wb0 ⟨vb0, rfl, ob0, kb0⟩
  have bb0 := Bs.ofOwn ob0
  have ba0' := ba0.kept kb0
  have hvb0 := hva0.kept kb0
  clear ob0 ba0
  go_wp2_with fail
  refine (same_any _ _ _ _ _ ba0' bb0).mono ?_
  rintro e wc0 ⟨rfl, hw0⟩
  have kc0 : Kept [] w wc0 := by rw [hw0]; exact ((Kept.refl [] w).then ka0).then kb0
  have hvc0 : Bs wc0 v l := by rw [hw0]; exact hvb0
  clear hw0 ba0' bb0 hva0 hvb0 ka0 kb0
  rw [show (l ++ lay 1 (x % 256) == l ++ lay 1 (x % 256)) = true from by simp]
  go_wp2_with fail
  first | rw [c16 x] | rw [w16 x]
  refine (put16_any _ l (x % 65536) _ hvc0 hl (by omega)).mono ?_
  rintro e wa1 ⟨va1, rfl, oa1, ka1⟩
  have ba1 := Bs.ofOwn oa1
  have hva1 := Bs.kept hvc0 ka1
  clear oa1
  go_wp2_with fail
  first | rw [c16 x] | rw [w16 x]
  refine (refPut_any _ l (x % 65536) 2 _ hva1 hl (by decide) (by have := HX.out; omega)).mono ?_
  rintro e wb1 ⟨vb1, rfl, ob1, kb1⟩
  have bb1 := Bs.ofOwn ob1
  have ba1' := ba1.kept kb1
  have hvb1 := hva1.kept kb1
  clear ob1 ba1
  go_wp2_with fail
  refine (same_any _ _ _ _ _ ba1' bb1).mono ?_
  rintro e wc1 ⟨rfl, hw1⟩
  have kc1 : Kept [] w wc1 := by rw [hw1]; exact (kc0.then ka1).then kb1
  have hvc1 : Bs wc1 v l := by rw [hw1]; exact hvb1
  clear hw1 ba1' bb1 hva1 hvb1 ka1 kb1
  rw [show (l ++ lay 2 (x % 65536) == l ++ lay 2 (x % 65536)) = true from by simp]
  go_wp2_with fail
  first | rw [c32 x] | rw [w32 x]
  refine (put32_any _ l (x % 4294967296) _ hvc1 hl (by omega)).mono ?_
  rintro e wa2 ⟨va2, rfl, oa2, ka2⟩
  have ba2 := Bs.ofOwn oa2
  have hva2 := Bs.kept hvc1 ka2
  clear oa2
  go_wp2_with fail
  first | rw [c32 x] | rw [w32 x]
  refine (refPut_any _ l (x % 4294967296) 4 _ hva2 hl (by decide) (by have := HX.out; omega)).mono ?_
  rintro e wb2 ⟨vb2, rfl, ob2, kb2⟩
  have bb2 := Bs.ofOwn ob2
  have ba2' := ba2.kept kb2
  have hvb2 := hva2.kept kb2
  clear ob2 ba2
  go_wp2_with fail
  refine (same_any _ _ _ _ _ ba2' bb2).mono ?_
  rintro e wc2 ⟨rfl, hw2⟩
  have kc2 : Kept [] w wc2 := by rw [hw2]; exact (kc1.then ka2).then kb2
  have hvc2 : Bs wc2 v l := by rw [hw2]; exact hvb2
  clear hw2 ba2' bb2 hva2 hvb2 ka2 kb2
  rw [show (l ++ lay 4 (x % 4294967296) == l ++ lay 4 (x % 4294967296)) = true from by simp]
  go_wp2_with fail

  refine (put64_any _ l x _ hvc2 hl (by have := HX.out; omega)).mono ?_
  rintro e wa3 ⟨va3, rfl, oa3, ka3⟩
  have ba3 := Bs.ofOwn oa3
  have hva3 := Bs.kept hvc2 ka3
  clear oa3
  go_wp2_with fail

  refine (refPut_any _ l x 8 _ hva3 hl (by decide) (by have := HX.out; omega)).mono ?_
  rintro e wb3 ⟨vb3, rfl, ob3, kb3⟩
  have bb3 := Bs.ofOwn ob3
  have ba3' := ba3.kept kb3
  have hvb3 := hva3.kept kb3
  clear ob3 ba3
  go_wp2_with fail
  refine (same_any _ _ _ _ _ ba3' bb3).mono ?_
  rintro e wc3 ⟨rfl, hw3⟩
  have kc3 : Kept [] w wc3 := by rw [hw3]; exact (kc2.then ka3).then kb3
  have hvc3 : Bs wc3 v l := by rw [hw3]; exact hvb3
  clear hw3 ba3' bb3 hva3 hvb3 ka3 kb3
  rw [show (l ++ lay 8 x == l ++ lay 8 x) = true from by simp]
  go_wp2
  go_ret
  exact ⟨rfl, kc3⟩
end Go.Proofs.Ytppdidimhchlgaa
