/-
  OWN WORK. HomePlays.
-/
import Derived.Test.YtoildbbfnhjfoaaRows
import Derived.Deep.RegionHeld3
import Derived.Test.YtoildbbfnhjfoaaTells
import Derived.Test.YtoildbbfnhjfoaaActs
import Derived.Test.YtoildbbfnhjfoaaMark
namespace Go.Proofs.Ytoildbbfnhjfoaa
open Go.RowKit
set_option linter.unusedVariables false

theorem into32 (z : Int) (w : World) : Calls Try.prog 12 #[.int .i64 z, .int .i64 4294967296] w fun e w' => e = .returned (.int .i64 (z % 4294967296)) ∧ w' = w := into_any z 4294967296 w (by omega) (by omega)
/-- the page as it begins: the bytes ahead of and behind the slots -/
def hd (N k : Nat) (h : UInt8) : List UInt8 := List.replicate k h ++ zeros (N - k)
theorem hd_zero (N : Nat) (h : UInt8) : hd N 0 h = zeros N := by simp [hd]
theorem hd_length (N k : Nat) (h : UInt8) (hk : k ≤ N) : (hd N k h).length = N := by simp [hd, zeros]; omega
theorem hd_succ (N k : Nat) (h : UInt8) (hk : k < N) : (hd N k h).set k h = hd N (k + 1) h := by
  unfold hd zeros
  rw [List.set_append_right _ _ (by simp), List.length_replicate, Nat.sub_self, show N - k = (N - (k + 1)) + 1 by omega, List.replicate_succ, List.set_cons_zero, List.replicate_succ', List.append_assoc]
  rfl
theorem hd_rep (n : Nat) (h : UInt8) (h1 : 1 ≤ n) (h8 : n ≤ 8) : Rep ((hd (24 + 16 * n) 16 h).set (24 + 16 * n - 1) h) [] n := by
  have hl : ((hd (24 + 16 * n) 16 h).set (24 + 16 * n - 1) h).length = 24 + 16 * n := by rw [List.length_set, hd_length _ _ _ (by omega)]
  refine Rep.start (slots_eq _ n h1 h8 hl) h1 fun i hi => ?_
  unfold usedAt
  rw [List.getElem?_set, if_neg (by omega)]
  unfold hd zeros
  rw [List.getElem?_append_right (by simp), List.length_replicate, List.getElem?_replicate, if_pos (by omega)]
  rfl
/-- THE PAGE bv TELLS JUST THE LIST lv, and they lie apart. -/
structure Pl (base : Nat) (w : World) (bv lv : Value) (L : List UInt8) (hs : List (Nat × Nat × Nat)) (n : Nat) : Prop where
  own : w.ownsRow base 5 1 bv L.length (u8s L)
  lst : Hs w base lv hs
  rep : Rep L hs n
  ap : ∀ x, bv.ownBlock = some x → lv.ownBlock ≠ some x
theorem Pl.kept {base : Nat} {w w' : World} {bv lv : Value} {L : List UInt8} {hs : List (Nat × Nat × Nat)} {n : Nat} (h : Pl base w bv lv L hs n) (k : Kept [] w w') : Pl base w' bv lv L hs n := ⟨own_of_kept h.own k (by simp), h.lst.kept k (by simp), h.rep, h.ap⟩
set_option maxRecDepth 100000 in
set_option maxHeartbeats 12800000 in
theorem homePlays_walk (slots : Int) (hb : Nat) (sv : Value) (ss : List (Bool × Int × Nat)) (w : World) (hs : Acs w sv ss) (hbb : hb < 256) : Calls Try.prog 7 #[.int .i64 slots, .int .u8 (hb : Int), sv] w fun e w' => e = .returned (.bool true) ∧ Kept [] w w' := by
  obtain ⟨hy, rfl⟩ : ∃ hy : UInt8, hb = hy.toNat := ⟨UInt8.ofNat hb, by rw [UInt8.toNat_ofNat']; omega⟩
  clear hbb
  obtain ⟨m, hm⟩ : ∃ m : Nat, (m : Int) = slots % 8 := ⟨(slots % 8).toNat, by have := into_range slots (top := 8) (by omega); omega⟩
  have hm8 : m < 8 := by have := into_range slots (top := 8) (by omega); omega
  have i1 := into_any slots 8 w (by omega) (by omega)
  rw [← hm] at i1
  clear hm
  obtain ⟨n, hn⟩ : ∃ n, n = m + 1 := ⟨_, rfl⟩
  have hmk := fun u => run_make_bs (P := Try.prog) u 33 5 Try.underlying33 (by kernel_rfl) (24 + 16 * n) (24 + 16 * n) (by omega) (by omega)
  have hown0 := own_made w 5 w.heap.size (24 + 16 * n) (24 + 16 * n) (Nat.le_refl _) (by omega) (by unfold maxLen; omega)
  have wr1 : IntKind.i64.wrap (1 + (m : Int)) = (n : Int) := by rw [IntKind.wrap_i64]; omega
  have wr2 : IntKind.i64.wrap (16 * (n : Int)) = 16 * (n : Int) := by rw [IntKind.wrap_i64]; omega
  rw [show ((24 + 16 * n : Nat) : Int) = 24 + 16 * (n : Int) by omega] at hmk
  have HR := hd_rep n hy (by omega) (by omega)
  obtain ⟨N, hN⟩ : ∃ N, N = 24 + 16 * n := ⟨_, rfl⟩
  rw [← hN] at hown0 HR hmk
  have hNi : (24 : Int) + 16 * (n : Int) = (N : Int) := by omega
  rw [hNi] at hmk
  have wr3 : IntKind.i64.wrap (24 + 16 * (n : Int)) = (N : Int) := by rw [IntKind.wrap_i64]; omega
  have HNN : Hid (N = 24 + 16 * n ∧ 1 ≤ n ∧ n ≤ 8) := (show N = 24 + 16 * n ∧ 1 ≤ n ∧ n ≤ 8 by omega)
  have HREP : Hid (Rep ((hd N 16 hy).set (N - 1) hy) [] n) := HR
  have c16 : (16 : Int) < (N : Int) := by omega
  clear hm8 hn HR hN hNi
  obtain ⟨sp, sc, rfl, hs1, hs2, -⟩ := id hs
  have hsl : ss.length ≤ 9223372036854775807 := by unfold maxLen at hs2; omega
  go_enter Try.func7, Try.ntmps7
  go_wp2_with fail
  refine i1.mono ?_
  rintro e w' ⟨rfl, rfl⟩
  go_wp2
  go_loopw [9] (fun i wr => ∃ k : Nat, k ≤ 16 ∧ i = .int .i64 (k : Int) ∧ wr.ownsRow w'.heap.size 5 1 (.slice (some ⟨w'.heap.size, 0, none⟩) N N) N (u8s (hd N k hy)) ∧ Kept [] w' wr) (fun i _ => 16 - (intOf i).toNat)
  case atStart => exact ⟨0, Nat.zero_le _, rfl, by rw [hd_zero]; exact hown0, (Kept.refl [] w').alloc _⟩
  case round =>
    clear hown0 hmk i1
    obtain ⟨k, hk, rfl, hown, kw⟩ := hrel
    by_cases hlt : k < 16
    · have hkN : k < N := by omega
      have hpl : k < (hd N k hy).length := by rw [hd_length _ _ _ (by omega)]; exact hkN
      have hcc := hown.cellAt k (by omega)
      rw [show (u8s (hd N k hy))[k]? = some (.int .u8 (((hd N k hy)[k]).toNat : Int)) from by simp [u8s, List.getElem?_eq_getElem hpl]] at hcc
      have hf := hown.frozenAt k
      obtain ⟨ow2, kw2⟩ := set_own hown k hy _ rfl
      rw [hd_succ N k hy hkN] at ow2
      have ck : (k : Int) < (N : Int) := by omega
      have kw3 := kw.trans kw2 (by simp)
      clear kw2 hown
      go_wp2
      go_roundw
      case rel => exact ⟨k + 1, by omega, by go_num, ow2, kw3⟩
      case measure => simp [intOf]; omega
    · obtain rfl : k = 16 := by omega
      have hpl : N - 1 < (hd N 16 hy).length := by rw [hd_length _ _ _ (by omega)]; omega
      have hcc := hown.cellAt (N - 1) (by omega)
      rw [show (u8s (hd N 16 hy))[N - 1]? = some (.int .u8 (((hd N 16 hy)[N - 1]).toNat : Int)) from by simp [u8s, List.getElem?_eq_getElem hpl]] at hcc
      have hf := hown.frozenAt (N - 1)
      obtain ⟨ow2, kw2⟩ := set_own hown (N - 1) hy _ rfl
      have ew : IntKind.i64.wrap ((N : Int) - 1) = ((N - 1 : Nat) : Int) := by rw [IntKind.wrap_i64]; have := HNN.out; omega
      have cN : ((N - 1 : Nat) : Int) < (N : Int) := by omega
      have kw3 := kw.trans kw2 (by simp)
      clear kw2 hown
      go_wp2_with fail
      refine (known_any _).mono ?_
      rintro e w1 ⟨rfl, k1⟩
      have kk1 := kw3.then k1
      have hPl : Pl w'.heap.size w1 (.slice (some ⟨w'.heap.size, 0, none⟩) N N) (.slice none 0 0) ((hd N 16 hy).set (N - 1) hy) [] n := ⟨by rw [List.length_set, hd_length _ _ _ (by omega)]; exact own_of_kept ow2 k1 (by simp), Hs.nil _ _, HREP.out, by simp [Value.ownBlock]⟩
      clear ow2 kw3 kw k1 hcc hf ew cN hpl HREP
      go_wp2
      go_loopw [8, 10, 11] (fun bv lv i wr => ∃ (k : Nat) (L : List UInt8) (hs : List (Nat × Nat × Nat)), k ≤ ss.length ∧ i = .int .i64 (k : Int) ∧ Hid (Pl w'.heap.size wr bv lv L hs n) ∧ Kept [] w' wr) (fun _ _ i _ => ss.length - (intOf i).toNat)
      case atStart => exact ⟨0, _, _, Nat.zero_le _, rfl, hPl, kk1⟩
      case round =>
        clear hPl kk1
        obtain ⟨k, L, HS, hk, rfl, hpl, kw⟩ := hrel
        by_cases hlt : k < ss.length
        · obtain ⟨b, o, c, e', -, -, hb, hcell⟩ := (hs.kept kw).pos (by omega)
          simp only [Value.slice.injEq] at e'
          obtain ⟨rfl, -, rfl⟩ := e'
          obtain ⟨s, hsk⟩ : ∃ s, ss[k]? = some s := ⟨_, List.getElem?_eq_getElem hlt⟩
          obtain ⟨hc0, hc1, hc2, hsv⟩ := hcell k s hsk
          have HSV : Hid (s.2.2 < 18446744073709551616) := hsv
          clear hcell hsk hsv
          obtain ⟨s0, s1, s2⟩ := s
          simp only at hc0 hc1 hc2 HSV
          obtain ⟨q, hq⟩ : ∃ q : Nat, (q : Int) = s1 % 4294967296 := ⟨(s1 % 4294967296).toNat, by have := into_range s1 (top := 4294967296) (by omega); omega⟩
          have HQ : Hid (q < 4294967296) := (show q < 4294967296 by have := into_range s1 (top := 4294967296) (by omega); omega)
          have i2 := into32 s1
          rw [← hq] at i2
          clear hq
          have hH8 : HS.length ≤ 8 := by have := hpl.out.rep.len; have := HNN.out; omega
          have HH8 : Hid (HS.length ≤ 8) := hH8
          generalize wr = w2 at *
          go_wp2_with fail
          refine (i2 _).mono ?_
          rintro e w3 ⟨rfl, rfl⟩
          go_wp2_with fail
          have k3 : Kept [] w2 (w2.alloc (.cells #[.bool s0, .int .i64 (q : Int), .int .u64 (s2 : Int)] 37)) := (Kept.refl [] w2).alloc _
          have a0 : (w2.alloc (.cells #[.bool s0, .int .i64 (q : Int), .int .u64 (s2 : Int)] 37)).cell? ⟨w2.heap.size, 0, none⟩ = some (.bool s0) := by simp [go_sem]
          have a1 : (w2.alloc (.cells #[.bool s0, .int .i64 (q : Int), .int .u64 (s2 : Int)] 37)).cell? ⟨w2.heap.size, 1, none⟩ = some (.int .i64 (q : Int)) := by simp [go_sem]
          have a2 : (w2.alloc (.cells #[.bool s0, .int .i64 (q : Int), .int .u64 (s2 : Int)] 37)).cell? ⟨w2.heap.size, 2, none⟩ = some (.int .u64 (s2 : Int)) := by simp [go_sem]
          generalize w2.alloc (.cells #[.bool s0, .int .i64 (q : Int), .int .u64 (s2 : Int)] 37) = w3 at *
          have pl3 := hpl.out.kept k3
          have kk3 := kw.then k3
          have gl : ∀ x, u10.ownBlock = some x → x < w2.heap.size := fun x hx => (Row.lt hpl.out.lst x hx).2
          have HGL : Hid (∀ x, u10.ownBlock = some x → x < w2.heap.size) := gl
          have PL3 : Hid (Pl w'.heap.size w3 u8 u10 L HS n) := pl3
          clear gl hc0 hc1 hc2 hb k3 i2 kw hpl
          refine (spot_any u10 HS q _ _ pl3.lst hH8).mono ?_
          clear pl3 hH8
          have A1 : Hid (w3.cell? ⟨w2.heap.size, 1, none⟩ = some (.int .i64 (q : Int))) := a1
          rintro e w4 ⟨z, rfl, hz, rfl⟩
          cases s0 with
          | true =>
            go_wp2_with fail
            refine (hdel_any u8 L (q : Int) _ (Bs.ofOwn PL3.out.own)).mono ?_
            rintro e w5 ⟨c5, rfl, o5, k5⟩
            have pl5 := PL3.out.kept k5
            have kk5 := kk3.then k5
            have a1' := k5.cell a1 (by simp)
            rcases hz with ⟨rfl, hno⟩ | ⟨i, x, rfl, hx, rfl⟩
            · obtain ⟨e1, e2⟩ := pl5.rep.nodel hno
              rw [e1]
              rw [e2] at o5
              obtain ⟨p5, c6, rfl⟩ := own_shape2 o5
              have PL5 : Hid (Pl w'.heap.size w5 u8 u10 L HS n) := pl5
              clear e1 e2 o5 pl5 hno a0 a1 a2
              go_wp2_with fail
              refine (tells_any _ _ L HS n q _ _ PL5.out.rep (Bs.ofOwn PL5.out.own) PL5.out.lst HH8.out).mono ?_
              rintro e w6 ⟨rfl, k6⟩
              go_wp2
              go_roundw
              case rel => exact ⟨k + 1, L, HS, by omega, by go_num, PL5.out.kept k6, kk5.then k6⟩
              case measure => simp [intOf]; omega
            · obtain ⟨e1, e2, rep2⟩ := pl5.rep.del hx
              have hi : i < HS.length := (List.getElem?_eq_some_iff.1 hx).1
              obtain ⟨h1, h2, h3, h4⟩ := pl5.rep.held i x hx
              obtain ⟨lp, lc, el, hlc, hlm⟩ := Row.shape pl5.lst
              subst el
              obtain ⟨g, rfl, h6, h7, h8, h9⟩ := Row.pos pl5.lst (by omega)
              have hcs := h8 _ _ (hcells_at hx).2.2
              have hts : x.2.2 < slotsOf L := by rw [pl5.rep.s]; exact h1
              have hL2 : (withSlot L x.2.2 (zeros 16)).length = L.length := withSlot_length (zeros_length _) hts
              rw [e1]
              rw [e2] at o5
              rw [hL2] at o5
              obtain ⟨p5, c6, rfl⟩ := own_shape2 o5
              have hout := outside_any u8 (.slice p5 L.length c6) L (zeros 16) x.2.2 w5 (zeros_length _) hts (Bs.ofOwn pl5.own) (Bs.ofOwn o5)
              have O5 : Hid (w5.ownsRow w4.heap.size 5 1 (.slice p5 L.length c6) L.length (u8s (withSlot L x.2.2 (zeros 16)))) := o5
              have HL2 : Hid ((withSlot L x.2.2 (zeros 16)).length = L.length) := hL2
              have REP2 : Hid (Rep (withSlot L x.2.2 (zeros 16)) (HS.take i ++ HS.drop (i + 1)) n) := rep2
              have PL5 : Hid (Pl w'.heap.size w5 u8 (.slice (some ⟨g, 0, none⟩) HS.length lc) L HS n) := pl5
              have HX : Hid (HS[i]? = some x) := hx
              have H8 : Hid (∀ (j : Nat) u, (hcells HS)[j]? = some u → w5.cell? ⟨g, j, none⟩ = some u) := h8
              have cil : (i : Int) < (HS.length : Int) := by omega
              clear e1 e2 o5 pl5 rep2 hx h8 h9 h1 h2 h3 h4 hts a0 a1 a2 hL2
              generalize withSlot L x.2.2 (zeros 16) = L2 at *
              go_wp2_with fail
              refine hout.mono ?_
              rintro e w6 ⟨rfl, k6⟩
              have hcF := fun u => run_cut_from_sz (P := Try.prog) u 49 53 3 Try.underlying49 (by kernel_rfl) (some ⟨g, 0, none⟩) HS.length lc (i + 1) (by omega)
              have hcT := fun u => run_cut_tight (P := Try.prog) u 49 53 3 Try.underlying49 (by kernel_rfl) (some ⟨g, 0, none⟩) HS.length lc i (by omega)
              rw [show (((i + 1 : Nat)) : Int) = (i : Int) + 1 by omega] at hcF
              obtain ⟨sa, hsa⟩ : ∃ sa : Option Addr, sa = if lc = i + 1 then some ⟨g, 0, none⟩ else Option.map (fun x : Addr => x.add ((i + 1) * 3)) (some ⟨g, 0, none⟩) := ⟨_, rfl⟩
              rw [← hsa] at hcF
              obtain ⟨inf, hin1, hin2, hin3, hin4⟩ := info_parts3 (show (Try.prog.info? 53).map (fun i => (i.zero, i.size, i.bytes)) = some (some (.agg #[.int .i64 0, .int .u64 0, .int .i64 0]), 3, 24) by kernel_rfl)
              have wi : IntKind.i64.wrap ((i : Int) + 1) = (i : Int) + 1 := by rw [IntKind.wrap_i64]; have := HH8.out; omega
              have PL6 := PL5.out.kept k6
              have hfront : Hid (Row w6 w'.heap.size 3 (.slice (some ⟨g, 0, none⟩) i i) i ((hcells HS).take (i * 3))) := Row.front PL6.lst i (by omega) (by omega)
              have hrest : Hid (∀ wq : World, wq.heap = w6.heap → Src Try.prog 3 49 (.slice sa (HS.length - (i + 1)) (lc - (i + 1))) (HS.length - (i + 1)) ((hcells HS).drop ((i + 1) * 3)) wq) := (fun wq hwq => Row.rest Try.underlying49 PL6.lst (fun j u hj => by rw [World.cell?_of_block (w := w6) (by rw [hwq])]; exact k6.cell (H8.out j u hj) (by simp)) (i + 1) (by omega) sa hsa)
              have hb6 : w'.heap.size ≤ w6.heap.size := (kk5.then k6).size
              clear hsa PL6
              go_wp2
              go_region_held3 (fun _ => True) (trivial)
                ((refine step_append_row (by rfl) (.tmp 96) (.tmp 100) 49 (by rfl) w'.heap.size 53 inf (.agg #[.int .i64 0, .int .u64 0, .int .i64 0]) 3 24 Try.underlying49 hin1 hin2 hin3 hin4 rfl _ _ _ (by rfl) (by exact hfront.out.kept ((Kept.refl [] w6).drew) (by simp)) _ _ _ (by rfl) (by exact hrest.out _ rfl) (by have := HH8.out; omega) (by have := HH8.out; unfold maxLen; omega) (by have := HH8.out; omega) (by exact hb6) ?_; intro v7 w7 r7 k7 b7))
              have k7 : Kept [g] w6 w7 := ⟨k7.os, k7.tape, k7.output, k7.size, k7.block⟩
              have b7 : v7.ownBlock = some g ∨ v7.ownBlock = some w6.heap.size := b7
              have hg2 : g < w2.heap.size := HGL.out g rfl
              have hw24 : w2.heap.size < w4.heap.size := lt_of_cell A1.out
              have o6 := own_of_kept O5.out k6 (by simp)
              have hge : ∀ x, (Value.slice p5 L.length c6).ownBlock = some x → w4.heap.size ≤ x ∧ x < w6.heap.size := fun x hx => ⟨own_ge o6 x hx, own_lt o6 x hx⟩
              have hnl : (HS.take i ++ HS.drop (i + 1)).length = i + (HS.length - (i + 1)) := by simp; omega
              have PL7 : Hid (Pl w'.heap.size w7 (.slice p5 L.length c6) v7 L2 (HS.take i ++ HS.drop (i + 1)) n) := (show Pl w'.heap.size w7 (.slice p5 L.length c6) v7 L2 (HS.take i ++ HS.drop (i + 1)) n from
                ⟨by rw [HL2.out]; exact own_mono (own_of_kept o6 k7 (fun x hx hm => by have := hge x hx; simp at hm; omega)) kk3.size,
                 by unfold Hs; rw [hnl, hcells_append, hcells_take, hcells_drop]; exact r7,
                 REP2.out,
                 fun x hx hv => by
                  have := hge x hx
                  rcases b7 with b | b
                  · rw [b] at hv; cases hv; omega
                  · rw [b] at hv; cases hv; omega⟩)
              have kk7 := (kk5.then k6).trans k7 (by intro x hx; simp at hx; subst hx; exact .inr h6)
              have a17 := k7.cell (k6.cell a1' (by simp)) (by simp; omega)
              have hH9 : Hid ((HS.take i ++ HS.drop (i + 1)).length ≤ 8) := (show (HS.take i ++ HS.drop (i + 1)).length ≤ 8 by have := PL7.out.rep.len; have := HNN.out; omega)
              clear k7 b7 o6 hge r7 a1' hcs hout hcF hcT hnl
              generalize HS.take i ++ HS.drop (i + 1) = HS2 at *
              go_wp2_with fail
              refine (tells_any _ _ L2 HS2 n x.1 _ _ PL7.out.rep (Bs.ofOwn PL7.out.own) PL7.out.lst hH9.out).mono ?_
              rintro e w8 ⟨rfl, k8⟩
              go_wp2
              go_roundw
              case rel => exact ⟨k + 1, L2, HS2, by omega, by go_num, PL7.out.kept k8, kk7.then k8⟩
              case measure => simp [intOf]; omega
          | false =>
            go_wp2_with fail
            refine (hput_any u8 L (q : Int) s2 _ (Bs.ofOwn PL3.out.own) HSV.out).mono ?_
            rintro e w5 ⟨c5, rfl, o5, k5⟩
            have pl5 := PL3.out.kept k5
            have kk5 := kk3.then k5
            have a1' := k5.cell a1 (by simp)
            have a2' := k5.cell a2 (by simp)
            rcases hz with ⟨rfl, hno⟩ | ⟨i, x, rfl, hx, rfl⟩
            · have HNO : Hid (∀ (i : Nat) x, HS[i]? = some x → x.1 ≠ q) := hno
              have PL5 : Hid (Pl w'.heap.size w5 u8 u10 L HS n) := pl5
              have O5 : Hid (w5.ownsRow w4.heap.size 5 1 c5 (putL L (q : Int) s2).length (u8s (putL L (q : Int) s2))) := o5
              obtain ⟨E, hE⟩ : ∃ E, E = putE L (q : Int) := ⟨_, rfl⟩
              rw [← hE]
              have HE : Hid (E = putE L (q : Int)) := hE
              clear hno pl5 o5 a0 a1 a2 hE
              obtain ⟨p5, n5, c6, rfl⟩ : ∃ p5 n5 c6, c5 = .slice p5 n5 c6 := by
                obtain ⟨p5, c6, h⟩ := own_shape2 O5.out
                exact ⟨p5, _, c6, h⟩
              have hn8 : n ≤ 8 := HNN.out.2.2
              go_wp2
              go_loop [18] (fun i => ∃ t : Nat, t ≤ n ∧ i = .int .i64 (t : Int) ∧ Hid (∀ j, j < t → usedAt L j = true)) (fun i => n - (intOf i).toNat)
              case atStart => exact ⟨0, Nat.zero_le _, rfl, (show ∀ j, j < 0 → usedAt L j = true by intro j hj; omega)⟩
              case round =>
                obtain ⟨t, ht, rfl, hlow⟩ := hrel
                by_cases htn : t < n
                · have ct : (t : Int) < (n : Int) := by omega
                  go_wp2_with fail
                  refine (taken_any _ HS t _ _ PL5.out.lst HH8.out).mono ?_
                  rintro e w6 ⟨tb, rfl, htk, rfl⟩
                  cases tb with
                  | true =>
                    have hused : usedAt L t = true := by
                      obtain ⟨j, y, hy', ey⟩ := htk.1 rfl
                      rw [← ey]; exact (PL5.out.rep.held j y hy').2.1
                    go_wp2
                    go_round
                    case rel => exact ⟨t + 1, by omega, by go_num, (show ∀ j, j < t + 1 → usedAt L j = true by intro j hj; rcases Nat.lt_or_ge j t with c | c; exact hlow.out j c; rw [show j = t by omega]; exact hused)⟩
                    case measure => simp [intOf]; omega
                  | false =>
                    have hfree : usedAt L t = false := by
                      cases hu : usedAt L t with
                      | false => rfl
                      | true => exact absurd (htk.2 (PL5.out.rep.used t htn hu)) (by simp)
                    obtain ⟨e1, e2, rep2⟩ := PL5.out.rep.put_new HQ.out HNO.out htn hlow.out hfree HSV.out
                    have e3 := HE.out
                    rw [e1] at e3
                    subst e3
                    have hts : t < slotsOf L := by rw [PL5.out.rep.s]; exact htn
                    have hL2 : (withSlot L t (rowOf q s2)).length = L.length := withSlot_length (rowOf_length _ _) hts
                    have o5 := O5.out
                    rw [e2, hL2] at o5
                    obtain ⟨p6, c7, e6⟩ := own_shape2 o5
                    cases e6
                    have hout := outside_any u8 _ L (rowOf q s2) t w6 (rowOf_length _ _) hts (Bs.ofOwn PL5.out.own) (Bs.ofOwn o5)
                    have O5' : Hid (w6.ownsRow w4.heap.size 5 1 (.slice p5 L.length c6) L.length (u8s (withSlot L t (rowOf q s2)))) := o5
                    have HL2 : Hid ((withSlot L t (rowOf q s2)).length = L.length) := hL2
                    have REP2 : Hid (Rep (withSlot L t (rowOf q s2)) (HS ++ [(q, s2, t)]) n) := rep2
                    obtain ⟨inf, hin1, hin2, hin3, hin4⟩ := info_parts3 (show (Try.prog.info? 53).map (fun i => (i.zero, i.size, i.bytes)) = some (some (.agg #[.int .i64 0, .int .u64 0, .int .i64 0]), 3, 24) by kernel_rfl)
                    clear hts e1 e2 hL2 o5 rep2 O5 htk
                    generalize withSlot L t (rowOf q s2) = L2 at *
                    go_wp2_with fail
                    refine hout.mono ?_
                    rintro e w7 ⟨rfl, k7⟩
                    clear hout
                    have hg2 : ∀ x ∈ u10.ownBlock.toList, x < w2.heap.size := fun x hx => HGL.out x (by simpa using hx)
                    have hw24 : w2.heap.size < w4.heap.size := lt_of_cell A1.out
                    have a17 := k7.cell a1' (by simp)
                    have a27 := k7.cell a2' (by simp)
                    have lst7 := PL5.out.lst.kept k7 (by simp)
                    have o6 := own_of_kept O5'.out k7 (by simp)
                    have kk7 := kk5.then k7
                    have LST7 : Hid (Hs w7 w'.heap.size u10 HS) := lst7
                    have O6 : Hid (w7.ownsRow w4.heap.size 5 1 (.slice p5 L.length c6) L.length (u8s L2)) := o6
                    have hap : Hid (∀ x, (Value.slice p5 L.length c6).ownBlock = some x → w4.heap.size ≤ x ∧ x < w7.heap.size) := (fun x hx => ⟨own_ge o6 x hx, own_lt o6 x hx⟩ : ∀ x, (Value.slice p5 L.length c6).ownBlock = some x → w4.heap.size ≤ x ∧ x < w7.heap.size)
                    obtain ⟨lp, lc, el, hlc, hlm⟩ := Row.shape lst7
                    subst el
                    clear lst7 o6
                    go_wp2_with (at_builtin; refine wpList_append_row rfl (.tmp 169) (.tmp 176) 49 rfl w'.heap.size 53 inf (.agg #[.int .i64 0, .int .u64 0, .int .i64 0]) 3 24 Try.underlying49 hin1 hin2 hin3 hin4 rfl _ _ _ (by rfl) (LST7.out.kept ((Kept.refl [] w7).alloc _) (by simp)) _ 1 (hcells [(q, s2, t)]) (by rfl) (src_new w7 _ _ Try.underlying49 (q, s2, t)) (by have := HH8.out; omega) (by have := HH8.out; unfold maxLen; omega) (by have := HH8.out; omega) (by have := kk7.size; simp; omega) ?_; intro v8 w8 r8 k8 b8; have a18 := k8.cell (((Kept.refl [] w7).alloc _).cell a17 (by simp)) (fun hm => by have := hg2 _ hm; simp at this))
                    have k8 : Kept (Value.slice lp HS.length lc).ownBlock.toList (w7.alloc (.cells #[.int .i64 (q : Int), .int .u64 (s2 : Int), .int .i64 (t : Int)] 53)) w8 := ⟨k8.os, k8.tape, k8.output, k8.size, k8.block⟩
                    have b8 : v8.ownBlock = (Value.slice lp HS.length lc).ownBlock ∨ v8.ownBlock = some (w7.heap.size + 1) := by
                      rcases b8 with b | b
                      · exact .inl b
                      · exact .inr (b.trans (by simp))
                    have k78 : Kept (Value.slice lp HS.length lc).ownBlock.toList w7 w8 := ((Kept.refl _ w7).alloc _).trans k8 (fun x hx => .inl hx)
                    have PL8 : Hid (Pl w'.heap.size w8 (.slice p5 L.length c6) v8 L2 (HS ++ [(q, s2, t)]) n) := (show Pl w'.heap.size w8 (.slice p5 L.length c6) v8 L2 (HS ++ [(q, s2, t)]) n from
                      ⟨by rw [HL2.out]; exact own_mono (own_of_kept O6.out k78 (fun y hy hm => by have := hap.out y hy; have := hg2 y hm; omega)) kk3.size,
                       by unfold Hs; rw [List.length_append, hcells_append]; exact r8,
                       REP2.out,
                       fun y hy hv => by
                        have h1 := hap.out y hy
                        rcases b8 with b | b
                        · have := hg2 y (by rw [← b, hv]; simp)
                          omega
                        · rw [b] at hv
                          have : w7.heap.size + 1 = y := (by simpa using hv)
                          omega⟩)
                    have kk8 := kk7.trans k78 (fun y hy => .inr (Row.lt LST7.out y (by simpa using hy)).1)
                    have hH9 : Hid ((HS ++ [(q, s2, t)]).length ≤ 8) := (show (HS ++ [(q, s2, t)]).length ≤ 8 by have := PL8.out.rep.len; omega)
                    clear r8 k8 k78 b8
                    generalize HS ++ [(q, s2, t)] = HS2 at *
                    refine (tells_any _ _ L2 HS2 n q _ _ PL8.out.rep (Bs.ofOwn PL8.out.own) PL8.out.lst hH9.out).mono ?_
                    rintro e w9 ⟨rfl, k9⟩
                    go_wp2
                    go_roundw
                    case rel => exact ⟨k + 1, L2, HS2, by omega, by go_num, PL8.out.kept k9, kk8.then k9⟩
                    case measure => simp [intOf]; omega

                · obtain rfl : n = t := by omega
                  obtain ⟨e1, e2⟩ := PL5.out.rep.put_full HQ.out HNO.out hlow.out s2
                  have e3 := HE.out
                  rw [e1] at e3
                  subst e3
                  have o5 := O5.out
                  rw [e2] at o5
                  obtain ⟨p6, c7, e6⟩ := own_shape2 o5
                  cases e6
                  clear o5 O5 HE e1 e2
                  go_wp2_with fail
                  refine (tells_any _ _ L HS n q _ _ PL5.out.rep (Bs.ofOwn PL5.out.own) PL5.out.lst HH8.out).mono ?_
                  rintro e w6 ⟨rfl, k6⟩
                  go_wp2
                  go_roundw
                  case rel => exact ⟨k + 1, L, HS, by omega, by go_num, PL5.out.kept k6, kk5.then k6⟩
                  case measure => simp [intOf]; omega

            · obtain ⟨e1, e2, rep2⟩ := pl5.rep.put_old hx HSV.out
              have hi : i < HS.length := (List.getElem?_eq_some_iff.1 hx).1
              obtain ⟨h1, h2, h3, h4⟩ := pl5.rep.held i x hx
              obtain ⟨lp, lc, el, hlc, hlm⟩ := Row.shape pl5.lst
              subst el
              obtain ⟨g, rfl, h6, h7, h8, h9⟩ := Row.pos pl5.lst (by omega)
              have hcs := h8 _ _ (hcells_at hx).2.2
              have hcv := h8 _ _ (hcells_at hx).2.1
              have hfz : w5.frozen? ⟨g, i * 3 + 1, none⟩ = false := (h9 (i * 3 + 1) (by omega)).2
              have hts : x.2.2 < slotsOf L := by rw [pl5.rep.s]; exact h1
              have hL2 : (withSlot L x.2.2 (rowOf x.1 s2)).length = L.length := withSlot_length (rowOf_length _ _) hts
              rw [e1]
              rw [e2, hL2] at o5
              obtain ⟨p5, c6, rfl⟩ := own_shape2 o5
              have hout := outside_any u8 (.slice p5 L.length c6) L (rowOf x.1 s2) x.2.2 w5 (rowOf_length _ _) hts (Bs.ofOwn pl5.own) (Bs.ofOwn o5)
              have O5 : Hid (w5.ownsRow w4.heap.size 5 1 (.slice p5 L.length c6) L.length (u8s (withSlot L x.2.2 (rowOf x.1 s2)))) := o5
              have HL2 : Hid ((withSlot L x.2.2 (rowOf x.1 s2)).length = L.length) := hL2
              have REP2 : Hid (Rep (withSlot L x.2.2 (rowOf x.1 s2)) (HS.set i (x.1, s2, x.2.2)) n) := rep2
              have PL5 : Hid (Pl w'.heap.size w5 u8 (.slice (some ⟨g, 0, none⟩) HS.length lc) L HS n) := pl5
              have HX : Hid (HS[i]? = some x) := hx
              have cil : (i : Int) < (HS.length : Int) := by omega
              have cxn : (x.2.2 : Int) < (n : Int) := by omega
              have cxn' : ¬ (x.2.2 : Int) = (n : Int) := by omega
              clear e1 e2 o5 pl5 rep2 hx h8 h9 h1 h2 h3 h4 hts a0 a1 a2 hL2
              generalize withSlot L x.2.2 (rowOf x.1 s2) = L2 at *
              have hn8 : n ≤ 8 := HNN.out.2.2
              go_wp2
              go_loop [18] (fun i => ∃ t : Nat, t ≤ n ∧ i = .int .i64 (t : Int) ∧ Hid (∀ j, j < t → usedAt L j = true)) (fun i => n - (intOf i).toNat)
              case atStart => exact ⟨0, Nat.zero_le _, rfl, (show ∀ j, j < 0 → usedAt L j = true by intro j hj; omega)⟩
              case round =>
                obtain ⟨t, ht, rfl, hlow⟩ := hrel
                by_cases htn : t < n
                · have ct : (t : Int) < (n : Int) := by omega
                  go_wp2_with fail
                  refine (taken_any _ HS t _ _ PL5.out.lst HH8.out).mono ?_
                  rintro e w6 ⟨tb, rfl, htk, rfl⟩
                  cases tb with
                  | true =>
                    have hused : usedAt L t = true := by
                      obtain ⟨j, y, hy', ey⟩ := htk.1 rfl
                      rw [← ey]; exact (PL5.out.rep.held j y hy').2.1
                    go_wp2
                    go_round
                    case rel => exact ⟨t + 1, by omega, by go_num, (show ∀ j, j < t + 1 → usedAt L j = true by intro j hj; rcases Nat.lt_or_ge j t with c | c; exact hlow.out j c; rw [show j = t by omega]; exact hused)⟩
                    case measure => simp [intOf]; omega
                  | false =>
                    have hfree : usedAt L t = false := by
                      cases hu : usedAt L t with
                      | false => rfl
                      | true => exact absurd (htk.2 (PL5.out.rep.used t htn hu)) (by simp)
                    go_wp2_with fail
                    refine hout.mono ?_
                    rintro e w7 ⟨rfl, k7⟩
                    have lst7 := PL5.out.lst.kept k7 (by simp)
                    obtain ⟨r8, k8⟩ := Row.set lst7 (i * 3 + 1) (by omega) (.int .u64 (s2 : Int)) rfl
                    rw [hcells_set HX.out] at r8
                    have hcv7 := k7.cell hcv (by simp)
                    have hfz7 := (frozen_of_block (a := ⟨g, i * 3 + 1, none⟩) (k7.block g h7 (by simp))).trans hfz
                    have a27 := k7.cell a2' (by simp)
                    have hg2 : g < w2.heap.size := HGL.out g rfl
                    have hw24 : w2.heap.size < w4.heap.size := lt_of_cell A1.out
                    have a18 := k8.cell (k7.cell a1' (by simp)) (by simp; omega)
                    have o6 := own_of_kept O5.out k7 (by simp)
                    have PL8 : Hid (Pl w'.heap.size (w7.setCell ⟨g, i * 3 + 1, none⟩ (.int .u64 (s2 : Int))) (.slice p5 L.length c6) (.slice (some ⟨g, 0, none⟩) HS.length lc) L2 (HS.set i (x.1, s2, x.2.2)) n) := (show Pl w'.heap.size (w7.setCell ⟨g, i * 3 + 1, none⟩ (.int .u64 (s2 : Int))) (.slice p5 L.length c6) (.slice (some ⟨g, 0, none⟩) HS.length lc) L2 (HS.set i (x.1, s2, x.2.2)) n from
                      ⟨by rw [HL2.out]; exact own_mono (own_of_kept o6 k8 (fun y hy hm => by have := own_ge o6 y hy; simp at hm; omega)) kk3.size,
                       by unfold Hs; rw [List.length_set]; exact r8,
                       REP2.out,
                       fun y hy hv => by have := own_ge o6 y hy; have e : g = y := (by simpa [Value.ownBlock] using hv); omega⟩)
                    have kk8 := (kk5.then k7).trans k8 (by intro y hy; simp at hy; subst hy; exact .inr h6)
                    have hH9 : Hid ((HS.set i (x.1, s2, x.2.2)).length ≤ 8) := (show (HS.set i (x.1, s2, x.2.2)).length ≤ 8 by rw [List.length_set]; exact HH8.out)
                    clear r8 o6 lst7 k8 hout
                    generalize HS.set i (x.1, s2, x.2.2) = HS2 at *
                    go_wp2_with fail
                    refine (tells_any _ _ L2 HS2 n x.1 _ _ PL8.out.rep (Bs.ofOwn PL8.out.own) PL8.out.lst hH9.out).mono ?_
                    rintro e w8 ⟨rfl, k9⟩
                    go_wp2
                    go_roundw
                    case rel => exact ⟨k + 1, L2, HS2, by omega, by go_num, PL8.out.kept k9, kk8.then k9⟩
                    case measure => simp [intOf]; omega

                · obtain rfl : n = t := by omega
                  go_wp2_with fail
                  refine hout.mono ?_
                  rintro e w7 ⟨rfl, k7⟩
                  have lst7 := PL5.out.lst.kept k7 (by simp)
                  obtain ⟨r8, k8⟩ := Row.set lst7 (i * 3 + 1) (by omega) (.int .u64 (s2 : Int)) rfl
                  rw [hcells_set HX.out] at r8
                  have hcv7 := k7.cell hcv (by simp)
                  have hfz7 := (frozen_of_block (a := ⟨g, i * 3 + 1, none⟩) (k7.block g h7 (by simp))).trans hfz
                  have a27 := k7.cell a2' (by simp)
                  have hg2 : g < w2.heap.size := HGL.out g rfl
                  have hw24 : w2.heap.size < w4.heap.size := lt_of_cell A1.out
                  have a18 := k8.cell (k7.cell a1' (by simp)) (by simp; omega)
                  have o6 := own_of_kept O5.out k7 (by simp)
                  have PL8 : Hid (Pl w'.heap.size (w7.setCell ⟨g, i * 3 + 1, none⟩ (.int .u64 (s2 : Int))) (.slice p5 L.length c6) (.slice (some ⟨g, 0, none⟩) HS.length lc) L2 (HS.set i (x.1, s2, x.2.2)) n) := (show Pl w'.heap.size (w7.setCell ⟨g, i * 3 + 1, none⟩ (.int .u64 (s2 : Int))) (.slice p5 L.length c6) (.slice (some ⟨g, 0, none⟩) HS.length lc) L2 (HS.set i (x.1, s2, x.2.2)) n from
                    ⟨by rw [HL2.out]; exact own_mono (own_of_kept o6 k8 (fun y hy hm => by have := own_ge o6 y hy; simp at hm; omega)) kk3.size,
                     by unfold Hs; rw [List.length_set]; exact r8,
                     REP2.out,
                     fun y hy hv => by have := own_ge o6 y hy; have e : g = y := (by simpa [Value.ownBlock] using hv); omega⟩)
                  have kk8 := (kk5.then k7).trans k8 (by intro y hy; simp at hy; subst hy; exact .inr h6)
                  have hH9 : Hid ((HS.set i (x.1, s2, x.2.2)).length ≤ 8) := (show (HS.set i (x.1, s2, x.2.2)).length ≤ 8 by rw [List.length_set]; exact HH8.out)
                  clear r8 o6 lst7 k8 hout
                  generalize HS.set i (x.1, s2, x.2.2) = HS2 at *
                  go_wp2_with fail
                  refine (tells_any _ _ L2 HS2 n x.1 _ _ PL8.out.rep (Bs.ofOwn PL8.out.own) PL8.out.lst hH9.out).mono ?_
                  rintro e w8 ⟨rfl, k9⟩
                  go_wp2
                  go_roundw
                  case rel => exact ⟨k + 1, L2, HS2, by omega, by go_num, PL8.out.kept k9, kk8.then k9⟩
                  case measure => simp [intOf]; omega

        · obtain rfl : k = ss.length := by omega
          go_wp2
          go_ret
          exact ⟨rfl, kw⟩
end Go.Proofs.Ytoildbbfnhjfoaa
