/-
  OWN WORK. tidemarklaw01.answers: eight new rows, each in a block of its own.
-/
import Derived.Test.YtppdidimhchlgaaRows
import Derived.Test.YtppdidimhchlgaaFam
import Derived.Test.YtppdidimhchlgaaGets
namespace Go.Proofs.Ytppdidimhchlgaa
open Go.RowKit
set_option linter.unusedVariables false

/-- what the eight rows hold -/
def ans (lb lc : List UInt8) (x : Nat) : List (List UInt8) :=
  [lb ++ lay 8 x, lb ++ lay 1 (x % 256), flat [lb, lc], flat [lb], flat [lc, lb, lc], lb.take (lb.length / 2), (lb.drop (lb.length / 2)).take (lb.length - lb.length / 2), lb.take lb.length]
theorem ans_length (lb lc : List UInt8) (x : Nat) : (ans lb lc x).length = 8 := rfl

theorem own_shape2 {w : World} {base e size : Nat} {v : Value} {n : Nat} {xs : List Value} (h : w.ownsRow base e size v n xs) : ∃ p c, v = .slice p n c := by
  rcases h.2 with ⟨rfl, rfl⟩ | ⟨g, cap, cur, rfl, _⟩
  · exact ⟨_, _, rfl⟩
  · exact ⟨_, _, rfl⟩
theorem Bss.lit1 (w : World) (e : TypeId) (a : Value) (la : List UInt8) (ha : Bs w a la) (H : Nat) (hH : w.heap.size = H) : Bss (w.alloc (.cells #[a] e)) (.slice (some ⟨H, 0, none⟩) 1 1) [la] :=
  Bss.lit w e [a] [la] rfl (by simp [maxLen]) (by
    intro i v l h1 h2
    match i, h1, h2 with
    | 0, h1, h2 => simp at h1 h2; subst h1; subst h2; exact ha
    | i + 1, h1, h2 => simp at h1) H hH
theorem Bss.lit2 (w : World) (e : TypeId) (a b : Value) (la lb : List UInt8) (ha : Bs w a la) (hb : Bs w b lb) (H : Nat) (hH : w.heap.size = H) : Bss (w.alloc (.cells #[a, b] e)) (.slice (some ⟨H, 0, none⟩) 2 2) [la, lb] :=
  Bss.lit w e [a, b] [la, lb] rfl (by simp [maxLen]) (by
    intro i v l h1 h2
    match i, h1, h2 with
    | 0, h1, h2 => simp at h1 h2; subst h1; subst h2; exact ha
    | 1, h1, h2 => simp at h1 h2; subst h1; subst h2; exact hb
    | i + 2, h1, h2 => simp at h1) H hH
theorem Bss.lit3 (w : World) (e : TypeId) (a b c : Value) (la lb lc : List UInt8) (ha : Bs w a la) (hb : Bs w b lb) (hc : Bs w c lc) (H : Nat) (hH : w.heap.size = H) : Bss (w.alloc (.cells #[a, b, c] e)) (.slice (some ⟨H, 0, none⟩) 3 3) [la, lb, lc] :=
  Bss.lit w e [a, b, c] [la, lb, lc] rfl (by simp [maxLen]) (by
    intro i v l h1 h2
    match i, h1, h2 with
    | 0, h1, h2 => simp at h1 h2; subst h1; subst h2; exact ha
    | 1, h1, h2 => simp at h1 h2; subst h1; subst h2; exact hb
    | 2, h1, h2 => simp at h1 h2; subst h1; subst h2; exact hc
    | i + 3, h1, h2 => simp at h1) H hH
/-- rows made behind a literal's block -/
theorem own_late {w w' : World} {o : Obj} {e n : Nat} {v : Value} {xs : List Value} (h : w'.ownsRow (w.alloc o).heap.size e 1 v n xs) : w'.ownsRow w.heap.size e 1 v n xs := by
  refine ⟨h.1, ?_⟩
  rcases h.2 with h1 | ⟨g, cap, cur, h1, h2, h3⟩
  · exact .inl h1
  · exact .inr ⟨g, cap, cur, h1, Nat.le_trans (by simp) h2, h3⟩

theorem half_cast (n : Nat) : (n : Int) / 2 = ((n / 2 : Nat) : Int) := by omega
theorem half_sub (n : Nat) : (n : Int) - (n : Int) / 2 = ((n - n / 2 : Nat) : Int) := by omega

set_option maxRecDepth 100000 in
set_option maxHeartbeats 4000000 in
theorem answers_any (u v : Value) (lb lc : List UInt8) (x : Nat) (w : World) (hu : Bs w u lb) (hv : Bs w v lc) (hlb : lb.length ≤ 2000000) (hlc : lc.length ≤ 2000000) (hx : x < 18446744073709551616) :
    Calls Try.prog 27 #[u, v, .int .u64 (x : Int)] w fun e w' => ∃ V vs, e = .returned V ∧ w'.ownsRow w.heap.size 25 1 V 8 vs ∧ Fam w' w.heap.size vs (ans lb lc x) ∧ Kept [] w w' := by
  have HX : Hid (x < 18446744073709551616) := hx
  clear hx
  obtain ⟨pu, cu, rfl, -⟩ := id hu
  obtain ⟨pv, cv, rfl, -⟩ := id hv
  go_enter Try.func27, Try.ntmps27
  go_wp2_with fail
  refine (put64_any _ lb x _ hu (by omega) (by have := HX.out; omega)).mono ?_
  rintro e w0 ⟨v0, rfl, o0, k0⟩
  obtain ⟨p0, d0, rfl⟩ := own_shape2 o0
  have F0 := (Fam.nil w w.heap.size).snoc (Nat.le_refl _) k0 (by simp) o0
  have hu0 := hu.kept k0
  have hv0 := hv.kept k0
  have s0 := k0.size
  clear o0
  go_wp2_with fail
  rw [c8 x]
  refine (put8_any _ lb (x % 256) _ hu0 (by omega) (by omega)).mono ?_
  rintro e w1 ⟨v1, rfl, o1, k1⟩
  obtain ⟨p1, d1, rfl⟩ := own_shape2 o1
  have F1 := F0.snoc s0 k1 (by simp) o1
  have hu1 := hu0.kept k1
  have hv1 := hv0.kept k1
  have kk1 := k0.then k1
  clear o1 F0 hu0 hv0 k0 k1
  go_wp2_with fail
  refine (join_any _ [lb, lc] _ (Bss.lit2 w1 25 _ _ lb lc hu1 hv1 _ (by simp)) (by simp [flat]; omega)).mono ?_
  rintro e w2 ⟨v2, rfl, o2, k2⟩
  obtain ⟨p2, d2, rfl⟩ := own_shape2 o2
  have k2' := ((Kept.refl [] w1).alloc _).then k2
  have F2 := F1.snoc kk1.size k2' (by simp) (own_late o2)
  have hu2 := hu1.kept k2'
  have hv2 := hv1.kept k2'
  have kk2 := kk1.then k2'
  clear o2 F1 hu1 hv1 kk1 k2 k2'
  go_wp2_with fail
  refine (join_any _ [lb] _ (Bss.lit1 w2 25 _ lb hu2 _ (by simp)) (by simp [flat]; omega)).mono ?_
  rintro e w3 ⟨v3, rfl, o3, k3⟩
  obtain ⟨p3, d3, rfl⟩ := own_shape2 o3
  have k3' := ((Kept.refl [] w2).alloc _).then k3
  have F3 := F2.snoc kk2.size k3' (by simp) (own_late o3)
  have hu3 := hu2.kept k3'
  have hv3 := hv2.kept k3'
  have kk3 := kk2.then k3'
  clear o3 F2 hu2 hv2 kk2 k3 k3'
  go_wp2_with fail
  refine (join_any _ [lc, lb, lc] _ (Bss.lit3 w3 25 _ _ _ lc lb lc hv3 hu3 hv3 _ (by simp)) (by simp [flat]; omega)).mono ?_
  rintro e w4 ⟨v4, rfl, o4, k4⟩
  obtain ⟨p4, d4, rfl⟩ := own_shape2 o4
  have k4' := ((Kept.refl [] w3).alloc _).then k4
  have F4 := F3.snoc kk3.size k4' (by simp) (own_late o4)
  have hu4 := hu3.kept k4'
  have kk4 := kk3.then k4'
  clear o4 F3 hu3 hv3 kk3 k4 k4'
  go_wp2_with fail
  have O4 := World.ownsRow_lit (base := w.heap.size) (e := 25) (size := 1) w4 #[.slice p0 (lb.length + 8) d0, .slice p1 (lb.length + 1) d1, .slice p2 (flat [lb, lc]).length d2, .slice p3 (flat [lb]).length d3, .slice p4 (flat [lc, lb, lc]).length d4] 5 kk4.size (by decide) rfl
  have ka := (Kept.refl [] w4).alloc (.cells #[.slice p0 (lb.length + 8) d0, .slice p1 (lb.length + 1) d1, .slice p2 (flat [lb, lc]).length d2, .slice p3 (flat [lb]).length d3, .slice p4 (flat [lc, lb, lc]).length d4] 25)
  have F4 := F4.kept ka (by simp)
  have hu4 := hu4.kept ka
  have kk4 := kk4.then ka
  refine (newReader_any _ lb _ hu4 (by omega)).mono ?_
  rintro e w5 ⟨g, rfl, hg, hr5, k5⟩
  have F5 := F4.kept k5 (by simp)
  have O5 := own_of_kept O4 k5 (by simp)
  have hu5 := hu4.kept k5
  have kk5 := kk4.then k5
  have hgw : w4.heap.size < g := by simp at hg; omega
  have hgw0 : w.heap.size ≤ g := Nat.le_trans kk4.size hg
  clear F4 O4 hu4 k5 hg
  go_wp2_with fail
  refine (newReader_any _ lb _ hu5 (by omega)).mono ?_
  rintro e w6 ⟨g', rfl, hg', ht6, k6⟩
  have F6 := F5.kept k6 (by simp)
  have O6 := own_of_kept O5 k6 (by simp)
  have hr6 := hr5.kept k6 (by simp)
  have kk6 := kk5.then k6
  have hne : g ≠ g' := by have := hr5.lt; omega
  have hgw' : w4.heap.size < g' := by have := hr5.lt; omega
  have hgw0' : w.heap.size ≤ g' := by have := hr5.lt; omega
  have HNE : Hid (g ≠ g') := hne
  have HG : Hid (w4.heap.size < g ∧ w4.heap.size < g' ∧ w.heap.size ≤ g ∧ w.heap.size ≤ g') := ⟨hgw, hgw', hgw0, hgw0'⟩
  clear F5 O5 hu5 k6 hg' hr5 hne hgw hgw' hgw0 hgw0' kk4
  go_wp2_with fail
  rw [half_cast lb.length]
  refine (row_any g lb (lb.length / 2) _ hr6 (by omega) (by omega)).mono ?_
  rintro e w7 ⟨v5, rfl, o7, hr7, k7⟩
  obtain ⟨p5, d5, rfl⟩ := own_shape2 o7
  have F7 := F6.snoc kk6.size k7 (by intro y hy; simp at hy; subst hy; exact .inl hr6.not8) o7
  have O7 := own_of_kept O6 k7 (by intro y hy; simp [Value.ownBlock] at hy; have := HG.out; simp; omega)
  have ht7 := ht6.kept k7 (by intro y hy; simp at hy; subst hy; exact ⟨HNE.out, .inl hr6.box⟩)
  have kk7 := kk6.trans k7 (by have := HG.out; simp; omega)
  clear F6 O6 ht6 k7 o7 hr6 kk6 kk5
  go_wp2_with fail
  rw [half_sub lb.length]
  refine (row_any g (lb.drop (lb.length / 2)) (lb.length - lb.length / 2) _ hr7 (by rw [List.length_drop]; omega) (by rw [List.length_drop]; omega)).mono ?_
  rintro e w8 ⟨v6, rfl, o8, hr8, k8⟩
  obtain ⟨p6, d6, rfl⟩ := own_shape2 o8
  have F8 := F7.snoc kk7.size k8 (by intro y hy; simp at hy; subst hy; exact .inl hr7.not8) o8
  have O8 := own_of_kept O7 k8 (by intro y hy; simp [Value.ownBlock] at hy; have := HG.out; simp; omega)
  have ht8 := ht7.kept k8 (by intro y hy; simp at hy; subst hy; exact ⟨HNE.out, .inl hr7.box⟩)
  have kk8 := kk7.trans k8 (by have := HG.out; simp; omega)
  clear F7 O7 ht7 k8 o8 hr7 kk7
  go_wp2_with fail
  refine (row_any g' lb lb.length _ ht8 (Nat.le_refl _) (by omega)).mono ?_
  rintro e w9 ⟨v7, rfl, o9, ht9, k9⟩
  obtain ⟨p7, d7, rfl⟩ := own_shape2 o9
  have F9 := F8.snoc kk8.size k9 (by intro y hy; simp at hy; subst hy; exact .inl ht8.not8) o9
  have O9 := own_of_kept O8 k9 (by intro y hy; simp [Value.ownBlock] at hy; have := HG.out; simp; omega)
  have kk9 := kk8.trans k9 (by have := HG.out; simp; omega)
  clear F8 O8 k9 o9 ht8 kk8 hr8 ht9
  have kb := (Kept.refl [] w9).alloc (.cells #[.slice p5 (lb.length / 2) d5, .slice p6 (lb.length - lb.length / 2) d6, .slice p7 lb.length d7] 25)
  have O10 := own_of_kept O9 kb (by simp)
  have F10 := F9.kept kb (by simp)
  have kk10 := kk9.then kb
  have hn := World.news_of_block (heap_alloc_new w9 (.cells #[.slice p5 (lb.length / 2) d5, .slice p6 (lb.length - lb.length / 2) d6, .slice p7 lb.length d7] 25))
  clear O9 F9 kk9 kb
  go_wp2_with (at_builtin; refine wpList_append_own2 rfl (.tmp 72) (.tmp 76) 22 rfl w.heap.size 25 Try.underlying22 (.slice none 0 0) 24 (by kernel_rfl) rfl _ _ _ (by rfl) O10 ⟨w9.heap.size, 0, none⟩ 3 3 _ (by rfl) rfl hn (by simp [Value.oneCell']) (by decide) (by decide) kk10.size ?_; intro V w10 ho hgr hat)
  go_ret
  have kg : Kept [w4.heap.size] _ w10 := Kept.ofGrown hgr (by intro y hy _; simp [Value.ownBlock] at hy; simp [hy])
  have F11 := F10.kept kg (by intro y hy; simp at hy; subst hy; exact .inl (own_not8 O10 (by decide) _ rfl))
  have k11 := kk10.trans kg (by simp; exact own_ge O10 _ rfl)
  exact ⟨V, _, rfl, ho, F11, k11⟩
end Go.Proofs.Ytppdidimhchlgaa
