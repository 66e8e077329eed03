/-
  OWN WORK. marked: true, of every family of rows that lie apart.
-/
import Derived.Test.YtoildbbfnhjfoaaRows
import Derived.Test.YtoildbbfnhjfoaaMark2
namespace Go.Proofs.Ytoildbbfnhjfoaa
open Go.RowKit
set_option linter.unusedVariables false

set_option maxRecDepth 100000 in
set_option maxHeartbeats 8000000 in
theorem marked_any (G N cap : Nat) (vs : List Value) (ls : List (List UInt8)) (base : Nat) (w : World) (hO : w.ownsRow base 33 1 (.slice (some ⟨G, 0, none⟩) N cap) N vs) (F : Fam w base vs ls) (hNl : ls.length = N) (hN : N ≤ 200) (hb : base ≤ w.heap.size) (hnn : ∀ j, nn ls j ≤ 6000000) :
    Calls Try.prog 18 #[.slice (some ⟨G, 0, none⟩) N cap] w fun e w' => e = .returned (.bool true) ∧ Kept (blocks vs) w w' := by
  have hvl : vs.length = N := by rw [F.len, hNl]
  have hG8 : Not8 w G := own_not8 hO (by decide) G rfl
  have hGS : G ∉ blocks vs := fun h => (F.not8 h).1 hG8
  have hGlt : G < w.heap.size := own_lt hO G rfl
  have hcell : ∀ (u : World), Kept (blocks vs) w u → ∀ (j : Nat) v, vs[j]? = some v → u.cell? ⟨G, j, none⟩ = some v := fun u hu j v hv => hu.cell (by
    have hj : j < N := by rw [← hvl]; exact (List.getElem?_eq_some_iff.1 hv).1
    rw [hO.cellAt j (by omega)]; exact hv) hGS
  have HC : Hid (∀ (u : World), Kept (blocks vs) w u → ∀ (j : Nat) v, vs[j]? = some v → u.cell? ⟨G, j, none⟩ = some v) := hcell
  have HNL : Hid (ls.length = N) := hNl
  have HVL : Hid (vs.length = N) := hvl
  have HNN : Hid (∀ j, nn ls j ≤ 6000000) := hnn
  clear hcell hNl hvl hnn
  go_enter Try.func18, Try.ntmps18
  go_wp2
  go_loopw [3, 4] (fun i _ wr => ∃ k : Nat, k ≤ N ∧ i = .int .i64 k ∧ Fam wr base vs (midl ls k) ∧ Kept (blocks vs) w wr) (fun i _ _ => N - (intOf i).toNat)
  case atStart => exact ⟨0, Nat.zero_le _, rfl, by rw [midl_zero]; exact F, Kept.refl _ _⟩
  case round =>
    obtain ⟨k, hk, rfl, Fk, kw⟩ := hrel
    by_cases hkN : k < N
    · obtain ⟨v, hv⟩ : ∃ v, vs[k]? = some v := ⟨_, List.getElem?_eq_getElem (by rw [HVL.out]; exact hkN)⟩
      have hkl : k < ls.length := by rw [HNL.out]; exact hkN
      have hl := midl_get ls k k hkl
      rw [if_neg (by omega)] at hl
      have ow := Fk.own k v _ hv hl
      obtain ⟨p, d, rfl⟩ := own_shape2 ow
      obtain ⟨l, hle⟩ : ∃ l, l = ls.getD k [] := ⟨_, rfl⟩
      rw [← hle] at ow hv
      have hc := HC.out wr kw k _ hv
      have hbl : ∀ x, (Value.slice p l.length d).ownBlock = some x → x ∈ blocks vs := fun x hx => mem_blocks hv hx
      have hln : l.length ≤ 6000000 := by rw [hle]; exact HNN.out k
      have HLE : Hid (l = ls.getD k []) := hle
      have HV : Hid (vs[k]? = some (Value.slice p l.length d)) := hv
      have HBL : Hid (∀ x, (Value.slice p l.length d).ownBlock = some x → x ∈ blocks vs) := hbl
      clear hle hv hl hbl hkl
      go_wp2
      generalize wr = w1 at *
      go_loopw [4] (fun i wr => ∃ i' : Nat, i' ≤ l.length ∧ i = .int .i64 i' ∧ wr.ownsRow base 5 1 (.slice p l.length d) l.length (u8s (part l i' k)) ∧ Kept (Value.slice p l.length d).ownBlock.toList w1 wr) (fun i _ => l.length - (intOf i).toNat)
      case atStart => exact ⟨0, Nat.zero_le _, rfl, by rw [part_zero]; exact ow, Kept.refl _ _⟩
      case round =>
        clear ow hc
        obtain ⟨i, hi, rfl, ow, kw1⟩ := hrel
        have kww : Kept (blocks vs) w wr := kw.trans kw1 (fun x hx => .inl (HBL.out x (by simpa using hx)))
        have hc := HC.out wr kww k _ HV.out
        by_cases hil : i < l.length
        · rcases id ow.2 with ⟨h0, hz⟩ | ⟨b1, cap', cur, e1, -⟩
          · omega
          · obtain ⟨rfl, rfl⟩ : p = some ⟨b1, 0, none⟩ ∧ d = cap' := by simp at e1; exact e1
            clear e1
            have hpl : i < (part l i k).length := by rw [part_length _ _ _ hi]; exact hil
            have hcc := ow.cellAt i (by omega)
            rw [show (u8s (part l i k))[i]? = some (.int .u8 (((part l i k)[i]).toNat : Int)) from by simp [u8s, List.getElem?_eq_getElem hpl]] at hcc
            have hf := ow.frozenAt i
            go_wp2
            obtain ⟨ow2, kw2⟩ := set_own ow i (mk k) ((k : Int) + 1) (mk_small k (by omega))
            go_roundw
            case rel => exact ⟨i + 1, by omega, by go_num, by rw [← part_succ l i k hil]; exact ow2, kw1.trans kw2 (by simp [Value.ownBlock])⟩
            case measure => simp [intOf]; omega
        · have ei : i = l.length := by omega
          subst ei
          rw [part_all] at ow
          have Fs := Fk.set k _ (rep l.length k) HV.out kw1 (by rw [rep_length]; exact ow)
          rw [show l.length = nn ls k from by rw [HLE.out]; rfl, midl_succ ls k (by rw [HNL.out]; exact hkN)] at Fs
          clear ow kw1 Fk
          go_wp2
          go_roundw
          case rel => exact ⟨k + 1, by omega, by go_num, Fs, kww⟩
          case measure => simp [intOf]; omega
    · have ek : k = N := by omega
      subst ek
      have HVS : Hid (∀ (j : Nat) v x, vs[j]? = some v → v.ownBlock = some x → x < wr.heap.size) := fun j v x hv hx => (Fk.lt j v x hv hx).2
      have HAP := hideAp Fk.apart
      have L0 := Lng.start (M := 40) Fk HNL.out
      go_wp2
      generalize wr = w2 at *
      go_loopw [5, 6] (fun s i wr => ∃ j : Nat, ∃ us, j ≤ k ∧ i = .int .i64 j ∧ Lng 40 w2 wr base vs ls j us s) (fun _ i _ => k - (intOf i).toNat)
      case atStart => exact ⟨0, [], Nat.zero_le _, rfl, L0⟩
      case round =>
        clear L0 Fk F
        obtain ⟨j, us, hj, rfl, L⟩ := hrel
        have kwr := kw.trans L.kp (fun x hx => .inl hx)
        by_cases hjk : j < k
        · obtain ⟨v, hv⟩ : ∃ v, vs[j]? = some v := ⟨_, List.getElem?_eq_getElem (by rw [HVL.out]; exact hjk)⟩
          have ow := L.vo j v (Nat.le_refl _) hv
          have hc := HC.out wr kwr j _ hv
          obtain ⟨p, d, rfl⟩ := own_shape2 ow
          have hn := HNN.out j
          obtain ⟨n, hne⟩ : ∃ n, n = nn ls j := ⟨_, rfl⟩
          rw [← hne] at ow hn hv hc
          have HV : Hid (vs[j]? = some (Value.slice p n d)) := hv
          have HN : Hid (n = nn ls j) := hne
          have bv := L.vb j _ hv
          rw [← hne] at bv
          have hsz2 := L.kp.size
          have hb2 : base ≤ w2.heap.size := Nat.le_trans hb kw.size
          have hsh : ∃ p' d', Value.slice p n d = .slice p' n d' ∧ (p' = none ∧ n = 0 ∨ ∃ g, p' = some ⟨g, 0, none⟩ ∧ n ≤ d' ∧ d' ≤ maxLen) := by
            rcases ow.2 with ⟨h1, h2⟩ | ⟨g, cap', cur, h1, _, _, h3, h4, _⟩
            · exact ⟨_, _, rfl, .inl ⟨by simp at h1; exact h1.1, h2⟩⟩
            · exact ⟨_, _, rfl, .inr ⟨g, by simp at h1; exact h1.1, by simp at h1; omega, by simp at h1; omega⟩⟩
          have HSH : Hid (∃ p' d', Value.slice p n d = .slice p' n d' ∧ (p' = none ∧ n = 0 ∨ ∃ g, p' = some ⟨g, 0, none⟩ ∧ n ≤ d' ∧ d' ≤ maxLen)) := hsh
          have HL3 := hideLng L
          clear hv hne hsh L
          go_wp2
          generalize wr = w3 at *
          go_loopw [7, 8] (fun l i wr => ∃ i' : Nat, i' ≤ 40 ∧ i = .int .i64 i' ∧ wr.ownsRow base 5 1 l (n + i') (u8s (rep (n + i') j)) ∧ Bs wr (.slice p n d) (rep n j) ∧ (l.ownBlock = (Value.slice p n d).ownBlock ∨ ∃ y, l.ownBlock = some y ∧ w3.heap.size ≤ y) ∧ Kept (Value.slice p n d).ownBlock.toList w3 wr) (fun _ i _ => 40 - (intOf i).toNat)
          case atStart => exact ⟨0, by decide, rfl, ow, bv, .inl rfl, Kept.refl _ _⟩
          case round =>
            clear ow bv hc
            obtain ⟨i, hi, rfl, ol, bl, lv, kl⟩ := hrel
            have hsz3 := kl.size
            by_cases hi40 : i < 40
            · go_wp2_with (at_builtin; refine wpList_append_byte rfl (.tmp 49) (.tmp 53) 33 rfl base 5 Try.underlying33 (by kernel_rfl) _ _ _ (by rfl) (ol.alloc _) ⟨wr.heap.size, 0, none⟩ 1 (mk j) (by rfl) (byte_cell wr 5 _ _ (mk_small j (by omega))) (by omega) (by simp; omega) ?_; intro l2 w4 o4 g4 at4)
              obtain ⟨m1, m2, m3⟩ := mark_step (wr := wr) HSH.out (bl.kept ((Kept.refl [] wr).alloc _)) (Nat.le_add_right n i) (by simp; omega) lv (fun x hx => Nat.lt_of_lt_of_le (HVS.out j _ x HV.out hx) hsz2) o4 g4 at4
              have k4 : Kept (Value.slice p n d).ownBlock.toList w3 w4 := (kl.alloc _).grown g4 (fun x hx => by
                rcases lv with e | ⟨y, hy, hly⟩
                · left; rw [e] at hx; simp [hx]
                · right; rw [hy] at hx; simp at hx; omega)
              clear o4 g4 at4
              go_roundw
              case rel => exact ⟨i + 1, by omega, by go_num, m1, m2, m3, k4⟩
              case measure => simp [intOf]; omega
            · have ei : i = 40 := by omega
              subst ei
              obtain ⟨pl, dl, rfl⟩ := own_shape2 ol
              have L := HL3.out
              have kb : Kept [] wr (wr.alloc (.cells #[.slice pl (n + 40) dl] 33)) := (Kept.refl [] wr).alloc _
              have oW := own_of_kept (own_of_kept L.lo kl (fun x hx hm => by
                have h1 := L.lb x hx
                have h2 := HVS.out j _ x HV.out (by simpa using hm)
                omega)) kb (by simp)
              have hnw := World.news_of_block (heap_alloc_new wr (.cells #[.slice pl (n + 40) dl] 33))
              have hul := L.ul
              clear L
              go_wp2_with (at_builtin; refine wpList_append_own2 rfl (.tmp 55) (.tmp 57) 47 rfl base 33 Try.underlying47 (.slice none 0 0) 24 (by kernel_rfl) rfl _ _ _ (by rfl) oW ⟨wr.heap.size, 0, none⟩ 1 1 _ (by rfl) rfl hnw (by simp [Value.oneCell']) (by unfold maxLen; omega) (by omega) (by simp; omega) ?_; intro V w5 o5 g5 at5)
              have hnj := HN.out
              have L2 := HL3.out.snoc HAP.out (fun j v x hv hx => HVS.out j v x hv hx) HV.out kl (by rw [← hnj]; exact ol) (by rw [← hnj]; exact bl) (weak_or lv hsz2) hsz2 kb o5 oW g5 at5
              clear hnj
              clear o5 g5 at5 oW kb hnw ol bl lv kl
              go_wp2
              go_roundw
              case rel => exact ⟨j + 1, _, by omega, by go_num, L2⟩
              case measure => simp [intOf]; omega
        · have ej : j = k := by omega
          subst ej
          obtain ⟨pl, dl, rfl⟩ := own_shape2 L.lo
          have hLo := L.lo
          have HLL := hideLng L
          clear L
          go_wp2
          go_loop [9, 10] (fun i _ => ∃ m : Nat, m ≤ j ∧ i = .int .i64 m) (fun i _ => j - (intOf i).toNat)
          case atStart => exact ⟨0, Nat.zero_le _, rfl⟩
          case round =>
            obtain ⟨m, hm, rfl⟩ := hrel
            by_cases hmj : m < j
            · have L := HLL.out
              obtain ⟨u, hu⟩ : ∃ u, us[m]? = some u := ⟨_, List.getElem?_eq_getElem (by rw [L.ul]; exact hmj)⟩
              obtain ⟨v, hv⟩ : ∃ v, vs[m]? = some v := ⟨_, List.getElem?_eq_getElem (by rw [HVL.out]; exact hmj)⟩
              have hc := HC.out wr kwr m _ hv
              have ou := L.uo m u hu
              have bv := L.vb m v hv
              obtain ⟨n, hne⟩ : ∃ n, n = nn ls m := ⟨_, rfl⟩
              rw [← hne] at ou bv
              have hn := HNN.out m
              rw [← hne] at hn
              obtain ⟨p, d, rfl, -⟩ := id bv
              rw [rep_length] at hc bv
              rcases id ou.2 with ⟨_, h0⟩ | ⟨bu, du, cur, rfl, -⟩
              · omega
              · rcases id hLo.2 with ⟨_, h0⟩ | ⟨GL, dl', cur', el, -⟩
                · omega
                · obtain ⟨rfl, rfl⟩ : pl = some ⟨GL, 0, none⟩ ∧ dl = dl' := by simp at el; exact el
                  have hcl := hLo.cellAt m (by omega)
                  rw [hu] at hcl
                  have hou : ∀ i, i < n + 40 → wr.cell? ⟨bu, i, none⟩ = some (.int .u8 ((m : Int) + 1)) := fun i hi => by
                    rw [ou.cellAt i (by omega)]
                    simp only [u8s, List.getElem?_map, rep_get hi]
                    rw [mk_small m (by omega)]; rfl
                  have hbv : ∀ i, i < n → ∃ b o, p = some ⟨b, o, none⟩ ∧ wr.cell? ⟨b, o + i, none⟩ = some (.int .u8 ((m : Int) + 1)) := fun i hi => by
                    obtain ⟨b, o, c, e, -, -, -, h⟩ := bv.pos (by rw [rep_length]; omega)
                    have hx := h i (mk m) (rep_get hi)
                    rw [← mk_small m (by omega)] at hx
                    simp at e
                    exact ⟨b, o, e.1, hx⟩
                  have HOU : Hid (∀ i, i < n + 40 → wr.cell? ⟨bu, i, none⟩ = some (.int .u8 ((m : Int) + 1))) := hou
                  have HBV : Hid (∀ i, i < n → ∃ b o, p = some ⟨b, o, none⟩ ∧ wr.cell? ⟨b, o + i, none⟩ = some (.int .u8 ((m : Int) + 1))) := hbv
                  clear hou hbv ou bv el hv hu L hne
                  go_wp2
                  go_loop [10] (fun i => ∃ i' : Nat, i' ≤ n + 40 ∧ i = .int .i64 i') (fun i => n + 40 - (intOf i).toNat)
                  case atStart => exact ⟨0, Nat.zero_le _, rfl⟩
                  case round =>
                    obtain ⟨i, hi, rfl⟩ := hrel
                    by_cases hin : i < n + 40
                    · have hci := HOU.out i hin
                      by_cases hiv : i < n
                      · obtain ⟨b, o, rfl, hcv⟩ := HBV.out i hiv
                        go_wp2
                        go_round
                        case rel => exact ⟨i + 1, by omega, by go_num⟩
                        case measure => simp [intOf]; omega
                      · have hiv' : ¬ (i : Int) < (n : Int) := by omega
                        go_wp2
                        go_round
                        case rel => exact ⟨i + 1, by omega, by go_num⟩
                        case measure => simp [intOf]; omega
                    · go_wp2
                      go_round
                      case rel => exact ⟨m + 1, by omega, by go_num⟩
                      case measure => simp [intOf]; omega
            · go_wp2
              go_ret
              exact ⟨rfl, kwr⟩
end Go.Proofs.Ytoildbbfnhjfoaa
