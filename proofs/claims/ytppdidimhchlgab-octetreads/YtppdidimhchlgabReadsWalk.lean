/-
  OWN WORK. The walk of OctetReads.
-/
import Derived.Test.YtppdidimhchlgabRows
import Derived.Test.YtppdidimhchlgabKnown
import Derived.Test.YtppdidimhchlgabScript
namespace Go.Proofs.Ytppdidimhchlgab
open Go.RowKit
set_option linter.unusedVariables false

theorem own_shape' {w : World} {base e size : Nat} {v : Value} {n : Nat} {xs : List Value} (h : w.ownsRow base e size v n xs) : ∃ p c, v = .slice p n c := by
  rcases h.2 with ⟨rfl, rfl⟩ | ⟨g, cap, cur, rfl, _⟩
  · exact ⟨_, _, rfl⟩
  · exact ⟨_, _, rfl⟩
theorem byte_up (y : UInt8) : ((y.toNat : Int) + 1) % 256 = ((y + 1).toNat : Int) := by
  rw [UInt8.toNat_add]
  simp

theorem own_kept {w w' : World} {base e size : Nat} {v : Value} {n : Nat} {xs : List Value} {S : List Nat} (h : w.ownsRow base e size v n xs) (k : Kept S w w') (hS : ∀ x, v.ownBlock = some x → x ∉ S) : w'.ownsRow base e size v n xs := by
  refine ⟨h.1, ?_⟩
  rcases h.2 with h | ⟨g, cap, cur, rfl, h2, h3, h4⟩
  · exact .inl h
  · exact .inr ⟨g, cap, cur, rfl, h2, (k.block g (Array.getElem?_eq_some_iff.1 h3).1 (hS g rfl)).trans h3, h4⟩
theorem own_lt {w : World} {base e size : Nat} {v : Value} {n : Nat} {xs : List Value} (h : w.ownsRow base e size v n xs) (x : Nat) (hx : v.ownBlock = some x) : x < w.heap.size := (h.lt x hx).2

/-- one byte of an owned row is raised by one -/
theorem raise_own {w : World} {base e b n cap : Nat} {l : List UInt8} (ow : w.ownsRow base e 1 (.slice (some ⟨b, 0, none⟩) n cap) n (u8s l)) (k : Nat) (hk : k < l.length) :
    (w.setCell ⟨b, k, none⟩ (.int .u8 ((((l[k]).toNat : Int) + 1) % 256))).ownsRow base e 1 (.slice (some ⟨b, 0, none⟩) n cap) n (u8s (l.set k (l[k] + 1))) ∧ Kept [b] w (w.setCell ⟨b, k, none⟩ (.int .u8 ((((l[k]).toNat : Int) + 1) % 256))) := by
  rw [byte_up]
  have h := ow.stored k (.int .u8 (((l[k] + 1).toNat : Nat) : Int))
  refine ⟨?_, Kept.ofGrown h.2 (by intro x hx _; simp at hx; simp [hx])⟩
  have e : (u8s l).set k (.int .u8 (((l[k] + 1).toNat : Nat) : Int)) = u8s (l.set k (l[k] + 1)) := by simp [u8s, List.map_set]
  rw [← e]
  exact h.1

set_option maxRecDepth 100000 in
set_option maxHeartbeats 8000000 in
theorem octetReads_walk (u v s : Value) (la lb : List UInt8) (ss : List (Bool × Int × Int)) (w : World) (hu : Bs w u la) (hv : Bs w v lb) (hs : Sc w s ss) (hla : la.length ≤ 140737488355328) (hlb : lb.length ≤ 140737488355328) :
    Calls Try.prog 3 #[u, v, s] w fun e w' => e = .returned (.bool true) ∧ Kept [] w w' := by
  obtain ⟨pu, cu, rfl, -⟩ := id hu
  obtain ⟨pv, cv, rfl, -⟩ := id hv
  obtain ⟨ps, cs, rfl, hsc, hsm, -⟩ := id hs
  have hsl : ss.length ≤ 9223372036854775807 := by unfold maxLen at hsm; omega
  go_enter Try.func3, Try.ntmps3
  go_wp2_with (first | (at_builtin; refine wpList_append_bs rfl (.tmp 15) (.tmp 16) 22 rfl w.heap.size 5 Try.underlying22 (by kernel_rfl) _ _ _ (by rfl) (World.ownsRow_nil w _ _ _) _ la (by rfl) hu (by omega) (Nat.le_refl _) ?_; intro v1 w1 o1 hg1 hat1; have k1 : Kept [] w w1 := (Kept.refl [] w).grown hg1 (fun k hk => by simp [Value.ownBlock] at hk); have hv1 := hv.kept k1) | (at_builtin; refine wpList_append_bs rfl (.tmp 18) (.tmp 19) 22 rfl w1.heap.size 5 Try.underlying22 (by kernel_rfl) _ _ _ (by rfl) (World.ownsRow_nil w1 _ _ _) _ lb (by rfl) hv1 (by omega) (Nat.le_refl _) ?_; intro v2 w2 o2 hg2 hat2))
  have k2 : Kept [] w1 w2 := (Kept.refl [] w1).grown hg2 (fun k hk => by simp [Value.ownBlock] at hk)
  simp only [Nat.zero_add, List.nil_append] at o1 o2
  have h12 : Hid (∀ x y, v1.ownBlock = some x → v2.ownBlock = some y → x ≠ y) := fun x y hx hy => by
    have := own_lt o1 x hx
    have := own_ge o2 y hy
    omega
  have o1 := own_kept o1 k2 (by simp)
  have o2 := own_mono o2 k1.size
  have b1lt := own_lt o1
  have b2lt := own_lt o2
  have hu2 := hu.kept (k1.then k2)
  have hv2 := hv1.kept k2
  have kk := k1.then k2
  clear hg1 hat1 hg2 hat2 k1 k2 hv1
  refine (newReader_lo _ la _ (Bs.ofOwn o1) hla).mono ?_
  rintro e w3 ⟨g1, p1, n1, c1, rfl, hg1, bx1, bs1, lo1, k3⟩
  have hu3 := hu2.kept k3
  go_wp2_with fail
  refine (refNew_any _ la _ hu3 hla).mono ?_
  rintro e w4 ⟨g1', p1', n1', c1', rfl, hg1', rr1, bx1', lo1', k4⟩
  have T1 : TwoLo w4 g1 g1' la w2.heap.size := ⟨⟨p1, n1, c1, (k4.block g1 (Array.getElem?_eq_some_iff.1 bx1).1 (by simp)).trans bx1, bs1.kept k4, lo1⟩, ⟨p1', n1', c1', bx1', by
      obtain ⟨p, n, c, a, B, h1, h2, h3, h4⟩ := rr1
      rw [bx1'] at h1
      simp at h1
      obtain ⟨⟨rfl, rfl, rfl⟩, h0⟩ := h1
      have : a = 0 := by omega
      subst this
      rw [h4]; simpa using h2, fun x hx => Nat.le_trans k3.size (lo1' x hx)⟩, hg1, Nat.le_trans k3.size hg1'⟩
  have HG1 : Hid (g1 < w4.heap.size ∧ g1' < w4.heap.size) := by
    have e1 := (Array.getElem?_eq_some_iff.1 bx1).1
    have e2 := (Array.getElem?_eq_some_iff.1 bx1').1
    have e3 := k4.size
    exact ⟨by omega, by omega⟩
  have HN1 : Hid (g1 ≠ g1') := by
    have e1 := (Array.getElem?_eq_some_iff.1 bx1).1
    show g1 ≠ g1'
    omega
  have k34 := k3.then k4
  clear bx1 bs1 lo1 rr1 bx1' lo1' hu3 hu2 hg1 hg1' k3 k4
  go_wp2_with fail
  have ka4 : Kept [] w4 (w4.alloc (.cells #[.pointer (some ⟨g1, 0, none⟩), .pointer (some ⟨g1', 0, none⟩)] 29)) := (Kept.refl [] w4).alloc _
  have x0 := World.news_of_block (heap_alloc_new w4 (.cells #[.pointer (some ⟨g1, 0, none⟩), .pointer (some ⟨g1', 0, none⟩)] 29)) 0 _ rfl
  have x1 := World.news_of_block (heap_alloc_new w4 (.cells #[.pointer (some ⟨g1, 0, none⟩), .pointer (some ⟨g1', 0, none⟩)] 29)) 1 _ rfl
  rw [add_none rfl] at x0 x1
  have kA := k34.then ka4
  have T1 := T1.kept ka4 (by simp)
  refine (newReader_lo _ lb _ ((Bs.ofOwn o2).kept kA) hlb).mono ?_
  rintro e w5 ⟨g2, p2, n2, c2, rfl, hg2, bx2, bs2, lo2, k5⟩
  have hv5 := hv2.kept (kA.then k5)
  go_wp2_with fail
  refine (refNew_any _ lb _ hv5 hlb).mono ?_
  rintro e w6 ⟨g2', p2', n2', c2', rfl, hg2', rr2, bx2', lo2', k6⟩
  have hsA := kA.size
  have T2 : TwoLo w6 g2 g2' lb w2.heap.size := ⟨⟨p2, n2, c2, (k6.block g2 (Array.getElem?_eq_some_iff.1 bx2).1 (by simp)).trans bx2, bs2.kept k6, fun x hx => Nat.le_trans hsA (lo2 x hx)⟩, ⟨p2', n2', c2', bx2', by
      obtain ⟨p, n, c, a, B, h1, h2, h3, h4⟩ := rr2
      rw [bx2'] at h1
      simp at h1
      obtain ⟨⟨rfl, rfl, rfl⟩, h0⟩ := h1
      have : a = 0 := by omega
      subst this
      rw [h4]; simpa using h2, fun x hx => Nat.le_trans (Nat.le_trans hsA k5.size) (lo2' x hx)⟩, Nat.le_trans hsA hg2, Nat.le_trans (Nat.le_trans hsA k5.size) hg2'⟩
  have k56 := k5.then k6
  have T1 := T1.kept k56 (by simp)
  have x0 := k56.cell x0 (by simp)
  have x1 := k56.cell x1 (by simp)
  have hg1lt : g1 < w4.heap.size ∧ g1' < w4.heap.size ∧ w4.heap.size < w5.heap.size + 1 ∧ w4.heap.size < g2 ∧ w4.heap.size < g2' ∧ g2 ≠ g2' ∧ g2 < w6.heap.size ∧ g2' < w6.heap.size ∧ w4.heap.size < w6.heap.size := by
    have e1 := (Array.getElem?_eq_some_iff.1 bx2).1
    have e2 := (Array.getElem?_eq_some_iff.1 bx2').1
    have e3 := k5.size
    have e4 := k6.size
    have e5 := hg2
    simp at e3 e5
    refine ⟨HG1.out.1, HG1.out.2, ?_, ?_, ?_, ?_, ?_, ?_, ?_⟩ <;> omega
  clear bx2 bs2 lo2 rr2 bx2' lo2' hv5 hv2 hg2 hg2' k5 k6
  have kb6 : Kept [] w6 (w6.alloc (.cells #[.pointer (some ⟨g2, 0, none⟩), .pointer (some ⟨g2', 0, none⟩)] 29)) := (Kept.refl [] w6).alloc _
  have y0 := World.news_of_block (heap_alloc_new w6 (.cells #[.pointer (some ⟨g2, 0, none⟩), .pointer (some ⟨g2', 0, none⟩)] 29)) 0 _ rfl
  have y1 := World.news_of_block (heap_alloc_new w6 (.cells #[.pointer (some ⟨g2, 0, none⟩), .pointer (some ⟨g2', 0, none⟩)] 29)) 1 _ rfl
  rw [add_none rfl] at y0 y1
  have x0 := kb6.cell x0 (by simp)
  have x1 := kb6.cell x1 (by simp)
  have T1 := T1.kept kb6 (by simp)
  have T2 := T2.kept kb6 (by simp)
  have kB := (kA.then k56).then kb6
  simp only [Nat.zero_add] at x0 x1 y0 y1
  go_wp2_with fail
  refine (known_any _).mono ?_
  rintro e w7 ⟨rfl, k7⟩
  have x0 := k7.cell x0 (by simp)
  have x1 := k7.cell x1 (by simp)
  have y0 := k7.cell y0 (by simp)
  have y1 := k7.cell y1 (by simp)
  have T1 := T1.kept k7 (by simp)
  have T2 := T2.kept k7 (by simp)
  have kB := kB.then k7
  have o1 := own_kept o1 kB (by simp)
  have o2 := own_kept o2 kB (by simp)
  have kk7 := kk.then kB
  have hs6 := kb6.size
  have hs7 := k7.size
  have hne1 := HN1.out
  have hlo : w2.heap.size ≤ w4.heap.size := k34.size
  simp at hs6
  have hw2 := kk.size
  have HGW : Hid (w.heap.size ≤ g1 ∧ w.heap.size ≤ g1' ∧ w.heap.size ≤ g2 ∧ w.heap.size ≤ g2') := ⟨Nat.le_trans hw2 T1.hg, Nat.le_trans hw2 T1.hg', Nat.le_trans hw2 T2.hg, Nat.le_trans hw2 T2.hg'⟩
  clear k7 kb6 k56 kA ka4 k34 kk hu hv HG1 HN1 hw2
  obtain ⟨q1, d1, rfl⟩ := own_shape' o1
  obtain ⟨q2, d2, rfl⟩ := own_shape' o2
  have HB1 : Hid (∀ x, (Value.slice q1 la.length d1).ownBlock = some x → x < w2.heap.size) := b1lt
  have HB2 : Hid (∀ x, (Value.slice q2 lb.length d2).ownBlock = some x → x < w2.heap.size) := b2lt
  have HL : Hid (g1 < w4.heap.size ∧ g1' < w4.heap.size ∧ w4.heap.size < w5.heap.size + 1 ∧ w4.heap.size < g2 ∧ w4.heap.size < g2' ∧ g2 ≠ g2' ∧ g2 < w6.heap.size ∧ g2' < w6.heap.size ∧ w4.heap.size < w6.heap.size) := hg1lt
  clear b1lt b2lt hg1lt hsA
  go_wp2
  go_loopw [11] (fun i wr => ∃ k : Nat, ∃ l' : List UInt8, k ≤ la.length ∧ i = .int .i64 k ∧ l'.length = la.length ∧ wr.ownsRow w.heap.size 5 1 (.slice q1 la.length d1) la.length (u8s l') ∧ Kept (Value.slice q1 la.length d1).ownBlock.toList w7 wr) (fun i _ => la.length - (intOf i).toNat)
  case atStart => exact ⟨0, la, Nat.zero_le _, rfl, rfl, o1, Kept.refl _ _⟩
  case round =>
    obtain ⟨k, l', hk, rfl, hl', ow, kw⟩ := hrel
    by_cases hkl : k < la.length
    · rcases id ow.2 with ⟨h0, hz⟩ | ⟨b1, cap, cur, e1, -⟩
      · omega
      · obtain ⟨rfl, rfl⟩ : q1 = some ⟨b1, 0, none⟩ ∧ d1 = cap := by simp at e1; exact e1
        have hkl' : k < l'.length := by omega
        have HL' : Hid (l'.length = la.length) := hl'
        have hl'0 := hl'
        clear hl'
        have hc := ow.cellAt k (by omega)
        rw [show (u8s l')[k]? = some (.int .u8 ((l'[k]).toNat : Int)) from by simp [u8s, List.getElem?_eq_getElem hkl']] at hc
        have hf := ow.frozenAt k
        clear e1 hl'0
        go_wp2
        obtain ⟨ow2, kw2⟩ := raise_own ow k hkl'
        go_roundw
        case rel => exact ⟨k + 1, _, by omega, by go_num, by rw [List.length_set]; exact HL'.out, ow2, kw.trans kw2 (by simp [Value.ownBlock])⟩
        case measure => simp [intOf]; omega
    · have T1 := T1.kept kw (fun x hx => HB1.out x (by simpa using hx))
      have T2 := T2.kept kw (fun x hx => HB1.out x (by simpa using hx))
      have x0 := kw.cell x0 (fun hx => by have := HB1.out _ (by simpa using hx); omega)
      have x1 := kw.cell x1 (fun hx => by have := HB1.out _ (by simpa using hx); omega)
      have y0 := kw.cell y0 (fun hx => by have := HB1.out _ (by simpa using hx); have := HL.out.2.2.2.2.2.2.2.2; omega)
      have y1 := kw.cell y1 (fun hx => by have := HB1.out _ (by simpa using hx); have := HL.out.2.2.2.2.2.2.2.2; omega)
      have o2 := own_kept o2 kw (fun y hy hm => h12.out y y (by simpa using hm) hy rfl)
      have kk8 : Kept [] w wr := kk7.trans kw (fun x hx => .inr (own_ge o1 x (by simpa using hx)))
      clear kw ow kk7 o1
      go_wp2
      generalize wr = w8 at *
      go_loopw [12] (fun i wr => ∃ k : Nat, ∃ l' : List UInt8, k ≤ lb.length ∧ i = .int .i64 k ∧ l'.length = lb.length ∧ wr.ownsRow w.heap.size 5 1 (.slice q2 lb.length d2) lb.length (u8s l') ∧ Kept (Value.slice q2 lb.length d2).ownBlock.toList w8 wr) (fun i _ => lb.length - (intOf i).toNat)
      case atStart => exact ⟨0, lb, Nat.zero_le _, rfl, rfl, o2, Kept.refl _ _⟩
      case round =>
        obtain ⟨j, m', hj, rfl, hm', ow, kw⟩ := hrel
        by_cases hjl : j < lb.length
        · rcases id ow.2 with ⟨h0, hz⟩ | ⟨b2, cap, cur, e1, -⟩
          · omega
          · obtain ⟨rfl, rfl⟩ : q2 = some ⟨b2, 0, none⟩ ∧ d2 = cap := by simp at e1; exact e1
            have hjl' : j < m'.length := by omega
            have HM' : Hid (m'.length = lb.length) := hm'
            clear hm' e1
            have hc := ow.cellAt j (by omega)
            rw [show (u8s m')[j]? = some (.int .u8 ((m'[j]).toNat : Int)) from by simp [u8s, List.getElem?_eq_getElem hjl']] at hc
            have hf := ow.frozenAt j
            go_wp2
            obtain ⟨ow2, kw2⟩ := raise_own ow j hjl'
            go_roundw
            case rel => exact ⟨j + 1, _, by omega, by go_num, by rw [List.length_set]; exact HM'.out, ow2, kw.trans kw2 (by simp [Value.ownBlock])⟩
            case measure => simp [intOf]; omega
        · have T1 := (T1.kept kw (fun x hx => HB2.out x (by simpa using hx))).two
          have T2 := (T2.kept kw (fun x hx => HB2.out x (by simpa using hx))).two
          have x0 := kw.cell x0 (fun hx => by have := HB2.out _ (by simpa using hx); omega)
          have x1 := kw.cell x1 (fun hx => by have := HB2.out _ (by simpa using hx); omega)
          have y0 := kw.cell y0 (fun hx => by have := HB2.out _ (by simpa using hx); have := HL.out.2.2.2.2.2.2.2.2; omega)
          have y1 := kw.cell y1 (fun hx => by have := HB2.out _ (by simpa using hx); have := HL.out.2.2.2.2.2.2.2.2; omega)
          have kk9 : Kept [] w wr := kk8.trans kw (fun x hx => .inr (own_ge o2 x (by simpa using hx)))
          clear kw ow kk8 o2
          go_wp2
          generalize wr = w9 at *
          have HT1 : Hid (g1 ≠ g1') := hne1
          have HT2 : Hid (g2 ≠ g2') := HL.out.2.2.2.2.2.1
          clear hne1
          go_loopw [13] (fun i wr => ∃ j : Nat, ∃ R1 R2 : List UInt8, j ≤ ss.length ∧ i = .int .i64 j ∧ Two wr g1 g1' R1 ∧ R1.length ≤ 140737488355328 ∧ Two wr g2 g2' R2 ∧ R2.length ≤ 140737488355328 ∧ Kept [g1, g1', g2, g2'] w9 wr) (fun i _ => ss.length - (intOf i).toNat)
          case atStart => exact ⟨0, la, lb, Nat.zero_le _, rfl, T1, hla, T2, hlb, Kept.refl _ _⟩
          case round =>
            clear T1 T2
            obtain ⟨j, R1, R2, hj, rfl, T1, hlR1, T2, hlR2, kw⟩ := hrel
            have kwr : Kept [] w wr := kk9.trans kw (fun x hx => .inr (by have := HGW.out; simp at hx; omega))
            have x0 := kw.cell x0 (by have := HL.out; simp; omega)
            have x1 := kw.cell x1 (by have := HL.out; simp; omega)
            have y0 := kw.cell y0 (by have := HL.out; simp; omega)
            have y1 := kw.cell y1 (by have := HL.out; simp; omega)
            by_cases hjl : j < ss.length
            · obtain ⟨⟨sec, kd, n⟩, hst⟩ : ∃ st, ss[j]? = some st := ⟨_, List.getElem?_eq_getElem hjl⟩
              obtain ⟨sb, so, sc, es, -, -, -, hcell⟩ := (hs.kept kwr).pos (by omega)
              obtain ⟨rfl, rfl⟩ : ps = some ⟨sb, so, none⟩ ∧ cs = sc := by simp at es; exact es
              have hsb : sb < w.heap.size := by
                obtain ⟨b', o', c', e', -, -, hb', -⟩ := hs.pos (by omega)
                simp at e'
                omega
              clear es
              cases sec
              · obtain ⟨s0, s1, s2⟩ : wr.cell? ⟨sb, so + j * 3, none⟩ = some (.bool false) ∧ wr.cell? ⟨sb, so + j * 3 + 1, none⟩ = some (.int .i64 kd) ∧ wr.cell? ⟨sb, so + j * 3 + 2, none⟩ = some (.int .i64 n) := hcell j _ hst
                clear hcell hst
                have hn1 : w4.heap.size ∉ [g1, g1'] := by have := HL.out; simp; omega
                have hn2 : sb ∉ [g1, g1'] := by have := HGW.out; simp; omega
                have HN1 : Hid (w4.heap.size ∉ [g1, g1']) := hn1
                have HN2 : Hid (sb ∉ [g1, g1']) := hn2
                clear hn1 hn2
                go_wp2
                go_region_held3 (fun w' => w'.cell? ⟨w4.heap.size, 0, none⟩ = some (.pointer (some ⟨g1, 0, none⟩)) ∧ w'.cell? ⟨w4.heap.size, 1, none⟩ = some (.pointer (some ⟨g1', 0, none⟩)) ∧ w'.cell? ⟨sb, so + j * 3, none⟩ = some (.bool false) ∧ w'.cell? ⟨sb, so + j * 3 + 1, none⟩ = some (.int .i64 kd) ∧ w'.cell? ⟨sb, so + j * 3 + 2, none⟩ = some (.int .i64 n))
                  (first | go_keep | exact ⟨hkz.cell x0 HN1.out, hkz.cell x1 HN1.out, hkz.cell s0 HN2.out, hkz.cell s1 HN2.out, hkz.cell s2 HN2.out⟩)
                  ((go_at_call 7; refine (step_any g1 g1' R1 false kd n _ (by exact T1.kept ⟨rfl, rfl, rfl, Nat.le_refl _, fun _ _ _ => rfl⟩) HT1.out hlR1).mono ?_; rintro e wz ⟨rfl, R', hT, hle, hkz⟩))
                have hkz2 : Kept [g1, g1'] wr wz := (Kept.refl [g1, g1'] wr).drew.trans hkz (by simp)
                have hO := T2.other hkz2 T1 (by have := HL.out; omega) (by have := HL.out; omega) (by have := HL.out; omega) (by have := HL.out; omega)
                have kz : Kept [g1, g1', g2, g2'] w9 wz := kw.trans hkz2 (by simp)
                have hlz : R'.length ≤ 140737488355328 := by omega
                clear hkz hkz2 s0 s1 s2 kw T1 T2 x0 x1 y0 y1 kwr
                go_wp2
                go_roundw
                case rel => exact ⟨j + 1, R', R2, by omega, by go_num, hT, hlz, hO, hlR2, kz⟩
                case measure => simp [intOf]; omega
              · obtain ⟨s0, s1, s2⟩ : wr.cell? ⟨sb, so + j * 3, none⟩ = some (.bool true) ∧ wr.cell? ⟨sb, so + j * 3 + 1, none⟩ = some (.int .i64 kd) ∧ wr.cell? ⟨sb, so + j * 3 + 2, none⟩ = some (.int .i64 n) := hcell j _ hst
                clear hcell hst
                have hn1 : w6.heap.size ∉ [g2, g2'] := by have := HL.out; simp; omega
                have hn2 : sb ∉ [g2, g2'] := by have := HGW.out; simp; omega
                have HN1 : Hid (w6.heap.size ∉ [g2, g2']) := hn1
                have HN2 : Hid (sb ∉ [g2, g2']) := hn2
                clear hn1 hn2
                go_wp2
                go_region_held3 (fun w' => w'.cell? ⟨w6.heap.size, 0, none⟩ = some (.pointer (some ⟨g2, 0, none⟩)) ∧ w'.cell? ⟨w6.heap.size, 1, none⟩ = some (.pointer (some ⟨g2', 0, none⟩)) ∧ w'.cell? ⟨sb, so + j * 3, none⟩ = some (.bool true) ∧ w'.cell? ⟨sb, so + j * 3 + 1, none⟩ = some (.int .i64 kd) ∧ w'.cell? ⟨sb, so + j * 3 + 2, none⟩ = some (.int .i64 n))
                  (first | go_keep | exact ⟨hkz.cell y0 HN1.out, hkz.cell y1 HN1.out, hkz.cell s0 HN2.out, hkz.cell s1 HN2.out, hkz.cell s2 HN2.out⟩)
                  ((go_at_call 7; refine (step_any g2 g2' R2 true kd n _ (by exact T2.kept ⟨rfl, rfl, rfl, Nat.le_refl _, fun _ _ _ => rfl⟩) HT2.out hlR2).mono ?_; rintro e wz ⟨rfl, R', hT, hle, hkz⟩))
                have hkz2 : Kept [g2, g2'] wr wz := (Kept.refl [g2, g2'] wr).drew.trans hkz (by simp)
                have hO := T1.other hkz2 T2 (by have := HL.out; omega) (by have := HL.out; omega) (by have := HL.out; omega) (by have := HL.out; omega)
                have kz : Kept [g1, g1', g2, g2'] w9 wz := kw.trans hkz2 (by simp)
                have hlz : R'.length ≤ 140737488355328 := by omega
                clear hkz hkz2 s0 s1 s2 kw T1 T2 x0 x1 y0 y1 kwr
                go_wp2
                go_roundw
                case rel => exact ⟨j + 1, R1, R', by omega, by go_num, hO, hlR1, hT, hlz, kz⟩
                case measure => simp [intOf]; omega
            · go_wp2
              go_quiet ((first | (go_at_call_of 8 (Value.pointer (some (⟨g1, 0, none⟩ : Addr))); exact Calls.quiet_of_same (left_any g1 R1 _ (T1.p.keptNB ((Kept.refl [] _).drewN _) (by simp)))) | (go_at_call_of 8 (Value.pointer (some (⟨g2, 0, none⟩ : Addr))); exact Calls.quiet_of_same (left_any g2 R2 _ (T2.p.keptNB ((Kept.refl [] _).drewN _) (by simp)))) | (go_at_call_of 9 (Value.pointer (some (⟨g1', 0, none⟩ : Addr))); exact Calls.quiet_of (refLeft_any g1' R1 _ (T1.r.keptNB ((Kept.refl [] _).drewN _) (by simp)))) | (go_at_call_of 9 (Value.pointer (some (⟨g2', 0, none⟩ : Addr))); exact Calls.quiet_of (refLeft_any g2' R2 _ (T2.r.keptNB ((Kept.refl [] _).drewN _) (by simp))))))
              go_wp2
              go_ret
              exact ⟨rfl, kwr.drewN nq⟩
end Go.Proofs.Ytppdidimhchlgab
