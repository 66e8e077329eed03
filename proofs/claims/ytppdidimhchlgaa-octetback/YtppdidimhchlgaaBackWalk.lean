/-
  OWN WORK. The walk of OctetBack.
-/
import Derived.Test.YtppdidimhchlgaaRows
import Derived.Test.YtppdidimhchlgaaKnown
import Derived.Test.YtppdidimhchlgaaGets
namespace Go.Proofs.Ytppdidimhchlgaa
open Go.RowKit
set_option linter.unusedVariables false

theorem own_shape' {w : World} {base e size : Nat} {v : Value} {n : Nat} {xs : List Value} (h : w.ownsRow base e size v n xs) : ∃ p c, v = .slice p n c := by
  rcases h.2 with ⟨rfl, rfl⟩ | ⟨g, cap, cur, rfl, _⟩
  · exact ⟨_, _, rfl⟩
  · exact ⟨_, _, rfl⟩

set_option maxRecDepth 100000 in
set_option maxHeartbeats 4000000 in
theorem octetBack_walk (v : Value) (l : List UInt8) (x : Nat) (w : World) (hv : Bs w v l) (hl : l.length ≤ 140737488354000) (hx : x < 18446744073709551616) :
    Calls Try.prog 4 #[v, .int .u64 (x : Int)] w fun e w' => e = .returned (.bool true) ∧ Kept [] w w' := by
  have HX : Hid (x < 18446744073709551616) := hx
  clear hx
  obtain ⟨p, c, rfl, -⟩ := id hv
  go_enter Try.func4, Try.ntmps4
  go_wp2_with fail
  rw [c8 x]
  refine (put8_any _ l (x % 256) _ hv (by omega) (by omega)).mono ?_
  rintro e w0 ⟨v0, rfl, o0, k0⟩
  have b0 := Bs.ofOwn o0
  have hv0 := hv.kept k0
  obtain ⟨p0, c0, rfl⟩ := own_shape' o0
  clear o0
  go_wp2_with fail
  first | rw [c16 x] | rw [w16 x]
  refine (put16_any _ l (x % 65536) _ hv0 (by omega) (by omega)).mono ?_
  rintro e w1 ⟨v1, rfl, o1, k1⟩
  have b1 := Bs.ofOwn o1
  have hv1 := hv0.kept k1
  have b0' := b0.kept k1
  obtain ⟨p1, c1, rfl⟩ := own_shape' o1
  clear o1 b0 hv0
  go_wp2_with fail
  first | rw [c32 x] | rw [w32 x]
  refine (put32_any _ l (x % 4294967296) _ hv1 (by omega) (by omega)).mono ?_
  rintro e w2 ⟨v2, rfl, o2, k2⟩
  have b2 := Bs.ofOwn o2
  have hv2 := hv1.kept k2
  have b0 := b0'.kept k2
  have b1' := b1.kept k2
  obtain ⟨p2, c2, rfl⟩ := own_shape' o2
  clear o2 b1 hv1 b0'
  go_wp2_with fail
  refine (put64_any _ l x _ hv2 (by omega) (by have := HX.out; omega)).mono ?_
  rintro e w3 ⟨v3, rfl, o3, k3⟩
  have b3 := Bs.ofOwn o3
  have hv3 := hv2.kept k3
  have b0' := b0.kept k3
  have b1 := b1'.kept k3
  have b2' := b2.kept k3
  obtain ⟨p3, c3, rfl⟩ := own_shape' o3
  have kk : Kept [] w w3 := ((k0.then k1).then k2).then k3
  clear o3 b0 b1' b2 hv2 k0 k1 k2 k3
  go_wp2
  have hkr : Kept [] w3 (w3.alloc (.cells #[.slice p0 (l.length + 1) c0, .slice p1 (l.length + 2) c1, .slice p2 (l.length + 4) c2, .slice p3 (l.length + 8) c3] 25)) := (Kept.refl [] w3).alloc _
  have hcr := fun (u : World) (hu : Kept [] (w3.alloc (.cells #[.slice p0 (l.length + 1) c0, .slice p1 (l.length + 2) c1, .slice p2 (l.length + 4) c2, .slice p3 (l.length + 8) c3] 25)) u) (j : Nat) (z : Value) (hz : [Value.slice p0 (l.length + 1) c0, .slice p1 (l.length + 2) c1, .slice p2 (l.length + 4) c2, .slice p3 (l.length + 8) c3][j]? = some z) =>
    hu.cell (by have := World.news_of_block (heap_alloc_new w3 (.cells #[.slice p0 (l.length + 1) c0, .slice p1 (l.length + 2) c1, .slice p2 (l.length + 4) c2, .slice p3 (l.length + 8) c3] 25)) j z hz; rwa [add_none rfl] at this) (by simp)
  have bw := hv3.kept hkr
  have bb0 := b0'.kept hkr
  have bb1 := b1.kept hkr
  have bb2 := b2'.kept hkr
  have bb3 := b3.kept hkr
  clear b0' b1 b2' b3 hv3 hv
  generalize w3.alloc (.cells #[.slice p0 (l.length + 1) c0, .slice p1 (l.length + 2) c1, .slice p2 (l.length + 4) c2, .slice p3 (l.length + 8) c3] 25) = wl at *
  go_loopw [6] (fun i wr => ∃ k : Nat, k ≤ 4 ∧ i = .int .i64 k ∧ Kept [] wl wr) (fun i _ => 4 - (intOf i).toNat)
  case atStart => exact ⟨0, by decide, rfl, Kept.refl _ _⟩
  case round =>
    obtain ⟨k, hk, rfl, hkw⟩ := hrel
    have hcr' := hcr wr hkw
    have bw' := bw.kept hkw
    rcases (show k = 0 ∨ k = 1 ∨ k = 2 ∨ k = 3 ∨ k = 4 by omega) with rfl | rfl | rfl | rfl | rfl
    · have hc := hcr' 0 _ rfl
      have hB := bb0.kept hkw
      clear hcr' bb0 bb1 bb2 bb3 bw hcr
      obtain ⟨m, hm⟩ : ∃ m : Nat, m = x % 256 := ⟨_, rfl⟩
      have hlt : m < 256 ^ 1 := by rw [hm]; exact Nat.mod_lt _ (by decide)
      have hand : bits .and .u64 (x : Int) 255 = (m : Int) := by rw [hm]; exact and_mask x 1 HX.out (by decide)
      rw [← hm] at hB
      have HLT : Hid (m < 256 ^ 1) := hlt
      clear hlt hm
      have hlen : (l ++ lay 1 m).length = l.length + 1 := by rw [List.length_append, lay_length]
      obtain ⟨rb, ro, rc, er, -, -, -, hcell⟩ := hB.pos (by rw [hlen]; omega)
      obtain ⟨rfl, rfl⟩ : p0 = some ⟨rb, ro, none⟩ ∧ c0 = rc := by simp at er; exact ⟨er.1, er.2.2⟩
      clear er
      obtain ⟨pz, hr1, -, hb1, -⟩ := hB.cuts (P := Try.prog) 25 5 Try.underlying25 sz8 l.length (by omega)
      rw [take_left] at hb1
      have HLEN : Hid ((l ++ lay 1 m).length = l.length + 1) := hlen
      clear hlen
      go_wp2_with fail
      refine (same_any _ _ l l _ hb1 bw').mono ?_
      rintro e wa ⟨rfl, hwa⟩
      have ka : Kept [] wr wa := by rw [hwa]; exact Kept.refl _ _
      clear hwa hb1 hr1
      rw [show (l == l) = true from by simp]
      go_wp2_with fail
      refine (known_any _).mono ?_
      rintro e wb ⟨rfl, kb⟩
      have kab := ka.then kb
      have hcell' : ∀ (j : Nat) (y : UInt8), (lay 1 m)[j]? = some y → wb.cell? ⟨rb, ro + (l.length + j), none⟩ = some (.int .u8 (y.toNat : Int)) := fun j y hy => kab.cell (hcell (l.length + j) y (by rw [List.getElem?_append_right (by omega)]; simpa using hy)) (by simp)
      have hBb := hB.kept kab
      have bwb := bw'.kept kab
      clear hcell hc ka kb hand
      go_wp2
      go_loop [10, 11] (fun s i => ∃ j : Nat, j ≤ 1 ∧ i = .int .i64 j ∧ s = .int .u64 (low ((lay 1 m).take j) : Int)) (fun _ i => 1 - (intOf i).toNat)
      case atStart => exact ⟨0, by decide, rfl, rfl⟩
      case round =>
        obtain ⟨j, hj, rfl, rfl⟩ := hrel
        by_cases hjt : j < 1
        · have hjl : j < (lay 1 m).length := by rw [lay_length]; exact hjt
          have hck := hcell' j ((lay 1 m)[j]) (List.getElem?_eq_getElem hjl)
          go_wp2
          go_round
          case rel => exact ⟨j + 1, by omega, by go_num, by rw [low_or (lay 1 m) j hjl (by rw [lay_length]; decide)]⟩
          case measure => simp [intOf]; omega
        · have ej : j = 1 := by omega
          subst ej
          rw [low_lay_take 1 m HLT.out]
          clear hcell'
          go_wp2_with fail
          refine (newReader_any _ (l ++ lay 1 m) _ hBb (by rw [HLEN.out]; omega)).mono ?_
          rintro e wc ⟨g, rfl, hg, hr, kc⟩
          have bwc := bwb.kept kc
          have kC : Kept [] wl wc := (hkw.then kab).then kc
          have hgl : wl.heap.size ≤ g := by have := (hkw.then kab).size; omega
          clear hBb bwb kc hg
          go_wp2_with fail
          refine (row_any g (l ++ lay 1 m) l.length _ hr (by rw [HLEN.out]; omega) (by rw [HLEN.out]; omega)).mono ?_
          rintro e wd ⟨vh, rfl, oh, hr2, kd⟩
          rw [take_left] at oh
          rw [drop_left] at hr2
          have bh := Bs.ofOwn oh
          have bwd := bwc.keptBox kd (by intro y hy; simp at hy; subst hy; exact .inl hr.box)
          have kD : Kept [] wl wd := kC.trans kd (by simp; exact hgl)
          clear oh bwc hr kC kd
          go_wp2_with fail
          refine (number_any g (lay 1 m) 1 _ hr2 (by decide) (by rw [lay_length]; exact Nat.le_refl _)).mono ?_
          rintro e we ⟨rfl, hr3, ke⟩
          rw [low_lay_take 1 m HLT.out]
          rw [List.drop_eq_nil_of_le (by rw [lay_length]; exact Nat.le_refl _)] at hr3
          have bhe := bh.keptBox ke (by intro y hy; simp at hy; subst hy; exact .inl hr2.box)
          have bwe := bwd.keptBox ke (by intro y hy; simp at hy; subst hy; exact .inl hr2.box)
          have kE : Kept [] wl we := kD.trans ke (by simp; exact hgl)
          clear bh bwd hr2 kD ke
          go_wp2_with fail
          refine (same_any _ _ l l _ bhe bwe).mono ?_
          rintro e wf ⟨rfl, hwf⟩
          have kF : Kept [] wl wf := by rw [hwf]; exact kE
          rw [← hwf] at hr3
          clear hwf bhe bwe kE
          rw [show (l == l) = true from by simp]
          go_wp2_with fail
          refine (left_nil g _ hr3).mono ?_
          rintro e wg ⟨rfl, hwg⟩
          rw [← hwg] at hr3 kF
          clear hwg
          go_wp2_with fail
          refine (end_nil g _ hr3).mono ?_
          rintro e wh ⟨rfl, hwh⟩
          rw [← hwh] at kF
          clear hwh hr3
          go_wp2
          go_roundw
          case rel => exact ⟨1, by decide, rfl, kF⟩
          case measure => simp [intOf]
    · have hc := hcr' 1 _ rfl
      have hB := bb1.kept hkw
      clear hcr' bb0 bb1 bb2 bb3 bw hcr
      obtain ⟨m, hm⟩ : ∃ m : Nat, m = x % 65536 := ⟨_, rfl⟩
      have hlt : m < 256 ^ 2 := by rw [hm]; exact Nat.mod_lt _ (by decide)
      have hand : bits .and .u64 (x : Int) 65535 = (m : Int) := by rw [hm]; exact and_mask x 2 HX.out (by decide)
      rw [← hm] at hB
      have HLT : Hid (m < 256 ^ 2) := hlt
      clear hlt hm
      have hlen : (l ++ lay 2 m).length = l.length + 2 := by rw [List.length_append, lay_length]
      obtain ⟨rb, ro, rc, er, -, -, -, hcell⟩ := hB.pos (by rw [hlen]; omega)
      obtain ⟨rfl, rfl⟩ : p1 = some ⟨rb, ro, none⟩ ∧ c1 = rc := by simp at er; exact ⟨er.1, er.2.2⟩
      clear er
      obtain ⟨pz, hr1, -, hb1, -⟩ := hB.cuts (P := Try.prog) 25 5 Try.underlying25 sz8 l.length (by omega)
      rw [take_left] at hb1
      have HLEN : Hid ((l ++ lay 2 m).length = l.length + 2) := hlen
      clear hlen
      go_wp2_with fail
      refine (same_any _ _ l l _ hb1 bw').mono ?_
      rintro e wa ⟨rfl, hwa⟩
      have ka : Kept [] wr wa := by rw [hwa]; exact Kept.refl _ _
      clear hwa hb1 hr1
      rw [show (l == l) = true from by simp]
      go_wp2_with fail
      refine (known_any _).mono ?_
      rintro e wb ⟨rfl, kb⟩
      have kab := ka.then kb
      have hcell' : ∀ (j : Nat) (y : UInt8), (lay 2 m)[j]? = some y → wb.cell? ⟨rb, ro + (l.length + j), none⟩ = some (.int .u8 (y.toNat : Int)) := fun j y hy => kab.cell (hcell (l.length + j) y (by rw [List.getElem?_append_right (by omega)]; simpa using hy)) (by simp)
      have hBb := hB.kept kab
      have bwb := bw'.kept kab
      clear hcell hc ka kb hand
      go_wp2
      go_loop [10, 11] (fun s i => ∃ j : Nat, j ≤ 2 ∧ i = .int .i64 j ∧ s = .int .u64 (low ((lay 2 m).take j) : Int)) (fun _ i => 2 - (intOf i).toNat)
      case atStart => exact ⟨0, by decide, rfl, rfl⟩
      case round =>
        obtain ⟨j, hj, rfl, rfl⟩ := hrel
        by_cases hjt : j < 2
        · have hjl : j < (lay 2 m).length := by rw [lay_length]; exact hjt
          have hck := hcell' j ((lay 2 m)[j]) (List.getElem?_eq_getElem hjl)
          go_wp2
          go_round
          case rel => exact ⟨j + 1, by omega, by go_num, by rw [low_or (lay 2 m) j hjl (by rw [lay_length]; decide)]⟩
          case measure => simp [intOf]; omega
        · have ej : j = 2 := by omega
          subst ej
          rw [low_lay_take 2 m HLT.out]
          clear hcell'
          go_wp2_with fail
          refine (newReader_any _ (l ++ lay 2 m) _ hBb (by rw [HLEN.out]; omega)).mono ?_
          rintro e wc ⟨g, rfl, hg, hr, kc⟩
          have bwc := bwb.kept kc
          have kC : Kept [] wl wc := (hkw.then kab).then kc
          have hgl : wl.heap.size ≤ g := by have := (hkw.then kab).size; omega
          clear hBb bwb kc hg
          go_wp2_with fail
          refine (row_any g (l ++ lay 2 m) l.length _ hr (by rw [HLEN.out]; omega) (by rw [HLEN.out]; omega)).mono ?_
          rintro e wd ⟨vh, rfl, oh, hr2, kd⟩
          rw [take_left] at oh
          rw [drop_left] at hr2
          have bh := Bs.ofOwn oh
          have bwd := bwc.keptBox kd (by intro y hy; simp at hy; subst hy; exact .inl hr.box)
          have kD : Kept [] wl wd := kC.trans kd (by simp; exact hgl)
          clear oh bwc hr kC kd
          go_wp2_with fail
          refine (number_any g (lay 2 m) 2 _ hr2 (by decide) (by rw [lay_length]; exact Nat.le_refl _)).mono ?_
          rintro e we ⟨rfl, hr3, ke⟩
          rw [low_lay_take 2 m HLT.out]
          rw [List.drop_eq_nil_of_le (by rw [lay_length]; exact Nat.le_refl _)] at hr3
          have bhe := bh.keptBox ke (by intro y hy; simp at hy; subst hy; exact .inl hr2.box)
          have bwe := bwd.keptBox ke (by intro y hy; simp at hy; subst hy; exact .inl hr2.box)
          have kE : Kept [] wl we := kD.trans ke (by simp; exact hgl)
          clear bh bwd hr2 kD ke
          go_wp2_with fail
          refine (same_any _ _ l l _ bhe bwe).mono ?_
          rintro e wf ⟨rfl, hwf⟩
          have kF : Kept [] wl wf := by rw [hwf]; exact kE
          rw [← hwf] at hr3
          clear hwf bhe bwe kE
          rw [show (l == l) = true from by simp]
          go_wp2_with fail
          refine (left_nil g _ hr3).mono ?_
          rintro e wg ⟨rfl, hwg⟩
          rw [← hwg] at hr3 kF
          clear hwg
          go_wp2_with fail
          refine (end_nil g _ hr3).mono ?_
          rintro e wh ⟨rfl, hwh⟩
          rw [← hwh] at kF
          clear hwh hr3
          go_wp2
          go_roundw
          case rel => exact ⟨2, by decide, rfl, kF⟩
          case measure => simp [intOf]
    · have hc := hcr' 2 _ rfl
      have hB := bb2.kept hkw
      clear hcr' bb0 bb1 bb2 bb3 bw hcr
      obtain ⟨m, hm⟩ : ∃ m : Nat, m = x % 4294967296 := ⟨_, rfl⟩
      have hlt : m < 256 ^ 4 := by rw [hm]; exact Nat.mod_lt _ (by decide)
      have hand : bits .and .u64 (x : Int) 4294967295 = (m : Int) := by rw [hm]; exact and_mask x 4 HX.out (by decide)
      rw [← hm] at hB
      have HLT : Hid (m < 256 ^ 4) := hlt
      clear hlt hm
      have hlen : (l ++ lay 4 m).length = l.length + 4 := by rw [List.length_append, lay_length]
      obtain ⟨rb, ro, rc, er, -, -, -, hcell⟩ := hB.pos (by rw [hlen]; omega)
      obtain ⟨rfl, rfl⟩ : p2 = some ⟨rb, ro, none⟩ ∧ c2 = rc := by simp at er; exact ⟨er.1, er.2.2⟩
      clear er
      obtain ⟨pz, hr1, -, hb1, -⟩ := hB.cuts (P := Try.prog) 25 5 Try.underlying25 sz8 l.length (by omega)
      rw [take_left] at hb1
      have HLEN : Hid ((l ++ lay 4 m).length = l.length + 4) := hlen
      clear hlen
      go_wp2_with fail
      refine (same_any _ _ l l _ hb1 bw').mono ?_
      rintro e wa ⟨rfl, hwa⟩
      have ka : Kept [] wr wa := by rw [hwa]; exact Kept.refl _ _
      clear hwa hb1 hr1
      rw [show (l == l) = true from by simp]
      go_wp2_with fail
      refine (known_any _).mono ?_
      rintro e wb ⟨rfl, kb⟩
      have kab := ka.then kb
      have hcell' : ∀ (j : Nat) (y : UInt8), (lay 4 m)[j]? = some y → wb.cell? ⟨rb, ro + (l.length + j), none⟩ = some (.int .u8 (y.toNat : Int)) := fun j y hy => kab.cell (hcell (l.length + j) y (by rw [List.getElem?_append_right (by omega)]; simpa using hy)) (by simp)
      have hBb := hB.kept kab
      have bwb := bw'.kept kab
      clear hcell hc ka kb hand
      go_wp2
      go_loop [10, 11] (fun s i => ∃ j : Nat, j ≤ 4 ∧ i = .int .i64 j ∧ s = .int .u64 (low ((lay 4 m).take j) : Int)) (fun _ i => 4 - (intOf i).toNat)
      case atStart => exact ⟨0, by decide, rfl, rfl⟩
      case round =>
        obtain ⟨j, hj, rfl, rfl⟩ := hrel
        by_cases hjt : j < 4
        · have hjl : j < (lay 4 m).length := by rw [lay_length]; exact hjt
          have hck := hcell' j ((lay 4 m)[j]) (List.getElem?_eq_getElem hjl)
          go_wp2
          go_round
          case rel => exact ⟨j + 1, by omega, by go_num, by rw [low_or (lay 4 m) j hjl (by rw [lay_length]; decide)]⟩
          case measure => simp [intOf]; omega
        · have ej : j = 4 := by omega
          subst ej
          rw [low_lay_take 4 m HLT.out]
          clear hcell'
          go_wp2_with fail
          refine (newReader_any _ (l ++ lay 4 m) _ hBb (by rw [HLEN.out]; omega)).mono ?_
          rintro e wc ⟨g, rfl, hg, hr, kc⟩
          have bwc := bwb.kept kc
          have kC : Kept [] wl wc := (hkw.then kab).then kc
          have hgl : wl.heap.size ≤ g := by have := (hkw.then kab).size; omega
          clear hBb bwb kc hg
          go_wp2_with fail
          refine (row_any g (l ++ lay 4 m) l.length _ hr (by rw [HLEN.out]; omega) (by rw [HLEN.out]; omega)).mono ?_
          rintro e wd ⟨vh, rfl, oh, hr2, kd⟩
          rw [take_left] at oh
          rw [drop_left] at hr2
          have bh := Bs.ofOwn oh
          have bwd := bwc.keptBox kd (by intro y hy; simp at hy; subst hy; exact .inl hr.box)
          have kD : Kept [] wl wd := kC.trans kd (by simp; exact hgl)
          clear oh bwc hr kC kd
          go_wp2_with fail
          refine (number_any g (lay 4 m) 4 _ hr2 (by decide) (by rw [lay_length]; exact Nat.le_refl _)).mono ?_
          rintro e we ⟨rfl, hr3, ke⟩
          rw [low_lay_take 4 m HLT.out]
          rw [List.drop_eq_nil_of_le (by rw [lay_length]; exact Nat.le_refl _)] at hr3
          have bhe := bh.keptBox ke (by intro y hy; simp at hy; subst hy; exact .inl hr2.box)
          have bwe := bwd.keptBox ke (by intro y hy; simp at hy; subst hy; exact .inl hr2.box)
          have kE : Kept [] wl we := kD.trans ke (by simp; exact hgl)
          clear bh bwd hr2 kD ke
          go_wp2_with fail
          refine (same_any _ _ l l _ bhe bwe).mono ?_
          rintro e wf ⟨rfl, hwf⟩
          have kF : Kept [] wl wf := by rw [hwf]; exact kE
          rw [← hwf] at hr3
          clear hwf bhe bwe kE
          rw [show (l == l) = true from by simp]
          go_wp2_with fail
          refine (left_nil g _ hr3).mono ?_
          rintro e wg ⟨rfl, hwg⟩
          rw [← hwg] at hr3 kF
          clear hwg
          go_wp2_with fail
          refine (end_nil g _ hr3).mono ?_
          rintro e wh ⟨rfl, hwh⟩
          rw [← hwh] at kF
          clear hwh hr3
          go_wp2
          go_roundw
          case rel => exact ⟨3, by decide, rfl, kF⟩
          case measure => simp [intOf]
    · have hc := hcr' 3 _ rfl
      have hB := bb3.kept hkw
      clear hcr' bb0 bb1 bb2 bb3 bw hcr
      have HLT : Hid (x < 256 ^ 8) := HX.out
      have hlen : (l ++ lay 8 x).length = l.length + 8 := by rw [List.length_append, lay_length]
      obtain ⟨rb, ro, rc, er, -, -, -, hcell⟩ := hB.pos (by rw [hlen]; omega)
      obtain ⟨rfl, rfl⟩ : p3 = some ⟨rb, ro, none⟩ ∧ c3 = rc := by simp at er; exact ⟨er.1, er.2.2⟩
      clear er
      obtain ⟨pz, hr1, -, hb1, -⟩ := hB.cuts (P := Try.prog) 25 5 Try.underlying25 sz8 l.length (by omega)
      rw [take_left] at hb1
      have HLEN : Hid ((l ++ lay 8 x).length = l.length + 8) := hlen
      clear hlen
      go_wp2_with fail
      refine (same_any _ _ l l _ hb1 bw').mono ?_
      rintro e wa ⟨rfl, hwa⟩
      have ka : Kept [] wr wa := by rw [hwa]; exact Kept.refl _ _
      clear hwa hb1 hr1
      rw [show (l == l) = true from by simp]
      go_wp2_with fail
      refine (known_any _).mono ?_
      rintro e wb ⟨rfl, kb⟩
      have kab := ka.then kb
      have hcell' : ∀ (j : Nat) (y : UInt8), (lay 8 x)[j]? = some y → wb.cell? ⟨rb, ro + (l.length + j), none⟩ = some (.int .u8 (y.toNat : Int)) := fun j y hy => kab.cell (hcell (l.length + j) y (by rw [List.getElem?_append_right (by omega)]; simpa using hy)) (by simp)
      have hBb := hB.kept kab
      have bwb := bw'.kept kab
      clear hcell hc ka kb
      go_wp2
      go_loop [10, 11] (fun s i => ∃ j : Nat, j ≤ 8 ∧ i = .int .i64 j ∧ s = .int .u64 (low ((lay 8 x).take j) : Int)) (fun _ i => 8 - (intOf i).toNat)
      case atStart => exact ⟨0, by decide, rfl, rfl⟩
      case round =>
        obtain ⟨j, hj, rfl, rfl⟩ := hrel
        by_cases hjt : j < 8
        · have hjl : j < (lay 8 x).length := by rw [lay_length]; exact hjt
          have hck := hcell' j ((lay 8 x)[j]) (List.getElem?_eq_getElem hjl)
          go_wp2
          go_round
          case rel => exact ⟨j + 1, by omega, by go_num, by rw [low_or (lay 8 x) j hjl (by rw [lay_length]; decide)]⟩
          case measure => simp [intOf]; omega
        · have ej : j = 8 := by omega
          subst ej
          rw [low_lay_take 8 x HLT.out]
          clear hcell'
          go_wp2_with fail
          refine (newReader_any _ (l ++ lay 8 x) _ hBb (by rw [HLEN.out]; omega)).mono ?_
          rintro e wc ⟨g, rfl, hg, hr, kc⟩
          have bwc := bwb.kept kc
          have kC : Kept [] wl wc := (hkw.then kab).then kc
          have hgl : wl.heap.size ≤ g := by have := (hkw.then kab).size; omega
          clear hBb bwb kc hg
          go_wp2_with fail
          refine (row_any g (l ++ lay 8 x) l.length _ hr (by rw [HLEN.out]; omega) (by rw [HLEN.out]; omega)).mono ?_
          rintro e wd ⟨vh, rfl, oh, hr2, kd⟩
          rw [take_left] at oh
          rw [drop_left] at hr2
          have bh := Bs.ofOwn oh
          have bwd := bwc.keptBox kd (by intro y hy; simp at hy; subst hy; exact .inl hr.box)
          have kD : Kept [] wl wd := kC.trans kd (by simp; exact hgl)
          clear oh bwc hr kC kd
          go_wp2_with fail
          refine (number_any g (lay 8 x) 8 _ hr2 (by decide) (by rw [lay_length]; exact Nat.le_refl _)).mono ?_
          rintro e we ⟨rfl, hr3, ke⟩
          rw [low_lay_take 8 x HLT.out]
          rw [List.drop_eq_nil_of_le (by rw [lay_length]; exact Nat.le_refl _)] at hr3
          have bhe := bh.keptBox ke (by intro y hy; simp at hy; subst hy; exact .inl hr2.box)
          have bwe := bwd.keptBox ke (by intro y hy; simp at hy; subst hy; exact .inl hr2.box)
          have kE : Kept [] wl we := kD.trans ke (by simp; exact hgl)
          clear bh bwd hr2 kD ke
          go_wp2_with fail
          refine (same_any _ _ l l _ bhe bwe).mono ?_
          rintro e wf ⟨rfl, hwf⟩
          have kF : Kept [] wl wf := by rw [hwf]; exact kE
          rw [← hwf] at hr3
          clear hwf bhe bwe kE
          rw [show (l == l) = true from by simp]
          go_wp2_with fail
          refine (left_nil g _ hr3).mono ?_
          rintro e wg ⟨rfl, hwg⟩
          rw [← hwg] at hr3 kF
          clear hwg
          go_wp2_with fail
          refine (end_nil g _ hr3).mono ?_
          rintro e wh ⟨rfl, hwh⟩
          rw [← hwh] at kF
          clear hwh hr3
          go_wp2
          go_roundw
          case rel => exact ⟨4, by decide, rfl, kF⟩
          case measure => simp [intOf]
    · have hc0 := hcr' 0 _ rfl
      have hc1 := hcr' 1 _ rfl
      have hc2 := hcr' 2 _ rfl
      have hc3 := hcr' 3 _ rfl
      have hB0 := bb0.kept hkw
      have hB1 := bb1.kept hkw
      have hB2 := bb2.kept hkw
      have hB3 := bb3.kept hkw
      obtain ⟨q0, -, hr0, -, hd0⟩ := hB0.cuts (P := Try.prog) 25 5 Try.underlying25 sz8 l.length (by omega)
      obtain ⟨q1, -, hr1, -, hd1⟩ := hB1.cuts (P := Try.prog) 25 5 Try.underlying25 sz8 l.length (by omega)
      obtain ⟨q2, -, hr2, -, hd2⟩ := hB2.cuts (P := Try.prog) 25 5 Try.underlying25 sz8 l.length (by omega)
      obtain ⟨q3, -, hr3, -, hd3⟩ := hB3.cuts (P := Try.prog) 25 5 Try.underlying25 sz8 l.length (by omega)
      simp only [Nat.add_sub_cancel_left] at hr0 hr1 hr2 hr3 hd0 hd1 hd2 hd3
      rw [drop_left] at hd0 hd1 hd2 hd3
      have kF := (kk.then hkr).then hkw
      clear hcr' bb0 bb1 bb2 bb3 bw hcr hB0 hB1 hB2 hB3 bw'
      go_wp2_with fail
      refine (get8_any _ (lay 1 (x % 256)) _ hd0 (by rw [lay_length]; exact Nat.le_refl _)).mono ?_
      rintro e wa ⟨rfl, rfl⟩
      rw [low_lay_take 1 (x % 256) (Nat.mod_lt _ (by decide))]
      go_wp2_with fail
      refine (get16_any _ (lay 2 (x % 65536)) _ hd1 (by rw [lay_length]; exact Nat.le_refl _)).mono ?_
      rintro e wa ⟨rfl, rfl⟩
      rw [low_lay_take 2 (x % 65536) (Nat.mod_lt _ (by decide))]
      go_wp2_with fail
      refine (get32_any _ (lay 4 (x % 4294967296)) _ hd2 (by rw [lay_length]; exact Nat.le_refl _)).mono ?_
      rintro e wa ⟨rfl, rfl⟩
      rw [low_lay_take 4 (x % 4294967296) (Nat.mod_lt _ (by decide))]
      go_wp2_with fail
      refine (get64_any _ (lay 8 x) _ hd3 (by rw [lay_length]; exact Nat.le_refl _)).mono ?_
      rintro e wa ⟨rfl, rfl⟩
      rw [low_lay_take 8 x HX.out]
      go_wp2
      go_ret
      exact ⟨rfl, kF⟩
end Go.Proofs.Ytppdidimhchlgaa
