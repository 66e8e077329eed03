/-
  OWN WORK. tidemarklaw03.apart: true, of every family of rows that lie apart and hold what is wanted.
-/
import Derived.Test.YtkghbmdicinnnaaRows
import Derived.Deep.QuietTactic
import Derived.BigQuiet
import Derived.Test.YtkghbmdicinnnaaImgMark
import Derived.Test.YtkghbmdicinnnaaPiecesWalk
namespace Go.Proofs.Ytkghbmdicinnnaa
open Go.RowKit
set_option linter.unusedVariables false

theorem grown_z (v : Value) (n k base : Nat) (z : Int) (hz : z = ((mk k).toNat : Int)) (w : World) (ow : w.ownsRow base 5 1 v n (u8s (rep n k))) (hb : base ≤ w.heap.size) (hn : n ≤ 140737488355000) :
    Calls Try.prog 20 #[v, .int .u8 z] w fun e w' => ∃ v', e = .returned v' ∧ w'.ownsRow base 5 1 v' (n + 80) (u8s (rep (n + 80) k)) ∧ Bs w' v (rep n k) ∧ (v'.ownBlock = v.ownBlock ∨ ∃ y, v'.ownBlock = some y ∧ w.heap.size ≤ y) ∧ Kept v.ownBlock.toList w w' := by
  subst hz; exact grown_any v n k base w ow hb hn
theorem full_z (v : Value) (n k : Nat) (z : Int) (hz : z = ((mk k).toNat : Int)) (w : World) (bv : Bs w v (rep n k)) (hn : n ≤ 9223372036854775807) :
    Calls Try.prog 21 #[v, .int .u8 z] w fun e w' => e = .returned (.bool true) ∧ w' = w := by
  subst hz; exact full_any v n k w bv hn

set_option maxRecDepth 100000 in
set_option maxHeartbeats 8000000 in
theorem apart_any (G N cap Gw capw : Nat) (vs : List Value) (ls : List (List UInt8)) (base : Nat) (w : World) (hO : w.ownsRow base 22 1 (.slice (some ⟨G, 0, none⟩) N cap) N vs) (F : Fam w base vs ls)
    (hW : ∀ (j : Nat) l, ls[j]? = some l → w.cell? ⟨Gw, j, none⟩ = some (.string ⟨l.toArray⟩)) (hNl : ls.length = N) (hN : N ≤ 200) (hb : base ≤ w.heap.size) (hnn : ∀ j, nn ls j ≤ 140737488351232) :
    Calls Try.prog 18 #[.slice (some ⟨G, 0, none⟩) N cap, .slice (some ⟨Gw, 0, none⟩) N capw] w fun e w' => e = .returned (.bool true) ∧ Kept (blocks vs) w w' := by
  have hvl : vs.length = N := by rw [F.len, hNl]
  have hG8 : Not8 w G := own_not8 hO (by decide) G rfl
  have hGS : G ∉ blocks vs := fun h => (F.not8 h).1 hG8
  have hcell : ∀ (u : World), Kept (blocks vs) w u → ∀ (j : Nat) v, vs[j]? = some v → u.cell? ⟨G, j, none⟩ = some v := fun u hu j v hv => hu.cell (by
    have hj : j < N := by rw [← hvl]; exact (List.getElem?_eq_some_iff.1 hv).1
    rw [hO.cellAt j (by omega)]; exact hv) hGS
  have HC : Hid (∀ (u : World), Kept (blocks vs) w u → ∀ (j : Nat) v, vs[j]? = some v → u.cell? ⟨G, j, none⟩ = some v) := hcell
  have HNL : Hid (ls.length = N) := hNl
  have HVL : Hid (vs.length = N) := hvl
  have HNN : Hid (∀ j, nn ls j ≤ 140737488351232) := hnn
  have HW : Hid (∀ (j : Nat) l, ls[j]? = some l → w.cell? ⟨Gw, j, none⟩ = some (.string ⟨l.toArray⟩)) := hW
  clear hcell hNl hvl hnn hW
  go_enter Try.func18, Try.ntmps18
  go_wp2
  go_loopw [6] (fun i wr => ∃ k : Nat, k ≤ N ∧ i = .int .i64 k ∧ Kept [] w wr) (fun i _ => N - (intOf i).toNat)
  case atStart => exact ⟨0, Nat.zero_le _, rfl, Kept.refl _ _⟩
  case round =>
    obtain ⟨k, hk, rfl, kw⟩ := hrel
    by_cases hkN : k < N
    · obtain ⟨v, hv⟩ : ∃ v, vs[k]? = some v := ⟨_, List.getElem?_eq_getElem (by rw [HVL.out]; exact hkN)⟩
      obtain ⟨l, hl⟩ : ∃ l, ls[k]? = some l := ⟨_, List.getElem?_eq_getElem (by rw [HNL.out]; exact hkN)⟩
      have hc := HC.out wr (kw.mono (by simp)) k _ hv
      have hcw := kw.cell (HW.out k l hl) (by simp)
      have tv := ((F.bs k v l hv hl).kept kw).textN
      have hkN' : (k : Int) < (N : Int) := by omega
      clear hv hl
      go_wp2
      go_quiet (fail)
      go_wp2
      go_roundw
      case rel => exact ⟨k + 1, by omega, by go_num, kw.drewN' _⟩
      case measure => simp [intOf]; omega
    · have F1 := F.kept kw (by simp)
      have kw0 : Kept (blocks vs) w wr := kw.mono (by simp)
      have hb1 : base ≤ wr.heap.size := Nat.le_trans hb kw.size
      clear kw F hk hO hG8 hGS
      go_wp2
      clear hkN
      generalize wr = w0 at *
      go_loopw [7, 8] (fun i _ wr => ∃ k : Nat, k ≤ N ∧ i = .int .i64 k ∧ Fam wr base vs (midl ls k) ∧ Kept (blocks vs) w wr) (fun i _ _ => N - (intOf i).toNat)
      case atStart => exact ⟨0, Nat.zero_le _, rfl, by rw [midl_zero]; exact F1, kw0⟩
      case round =>
        clear F1 kw0
        obtain ⟨k, hk, rfl, Fk, kw⟩ := hrel
        by_cases hkN : k < N
        · obtain ⟨v, hv⟩ : ∃ v, vs[k]? = some v := ⟨_, List.getElem?_eq_getElem (by rw [HVL.out]; exact hkN)⟩
          have hkl : k < ls.length := by rw [HNL.out]; exact hkN
          have hl := midl_get ls k k hkl
          rw [if_neg (by omega)] at hl
          have ow := Fk.own k v _ hv hl
          obtain ⟨p, d, rfl⟩ := own_shape2 ow
          obtain ⟨l, hle⟩ : ∃ l, l = ls.getD k [] := ⟨_, rfl⟩
          rw [← hle] at ow hv
          have hc := HC.out wr kw k _ hv
          have hbl : ∀ x, (Value.slice p l.length d).ownBlock = some x → x ∈ blocks vs := fun x hx => mem_blocks hv hx
          have hln : l.length ≤ 9223372036854775806 := by have := HNN.out k; rw [hle]; exact Nat.le_trans this (by omega)
          have HLE : Hid (l = ls.getD k []) := hle
          have HV : Hid (vs[k]? = some (Value.slice p l.length d)) := hv
          have HBL : Hid (∀ x, (Value.slice p l.length d).ownBlock = some x → x ∈ blocks vs) := hbl
          clear hle hv hl hbl hkl
          go_wp2
          generalize wr = w1 at *
          go_loopw [8] (fun i wr => ∃ i' : Nat, i' ≤ l.length ∧ i = .int .i64 i' ∧ wr.ownsRow base 5 1 (.slice p l.length d) l.length (u8s (part l i' k)) ∧ Kept (Value.slice p l.length d).ownBlock.toList w1 wr) (fun i _ => l.length - (intOf i).toNat)
          case atStart => exact ⟨0, Nat.zero_le _, rfl, by rw [part_zero]; exact ow, Kept.refl _ _⟩
          case round =>
            clear ow hc
            obtain ⟨i, hi, rfl, ow, kw1⟩ := hrel
            have kww : Kept (blocks vs) w wr := kw.trans kw1 (fun x hx => .inl (HBL.out x (by simpa using hx)))
            have hc := HC.out wr kww k _ HV.out
            by_cases hil : i < l.length
            · rcases id ow.2 with ⟨h0, hz⟩ | ⟨b1, cap', cur, e1, -⟩
              · omega
              · obtain ⟨rfl, rfl⟩ : p = some ⟨b1, 0, none⟩ ∧ d = cap' := by simp at e1; exact e1
                clear e1
                have hpl : i < (part l i k).length := by rw [part_length _ _ _ hi]; exact hil
                have hcc := ow.cellAt i (by omega)
                rw [show (u8s (part l i k))[i]? = some (.int .u8 (((part l i k)[i]).toNat : Int)) from by simp [u8s, List.getElem?_eq_getElem hpl]] at hcc
                have hf := ow.frozenAt i
                go_wp2
                obtain ⟨ow2, kw2⟩ := set_own ow i (mk k) ((k : Int) + 1) (mk_small k (by omega))
                go_roundw
                case rel => exact ⟨i + 1, by omega, by go_num, by rw [← part_succ l i k hil]; exact ow2, kw1.trans kw2 (by simp [Value.ownBlock])⟩
                case measure => simp [intOf]; omega
            · have ei : i = l.length := by omega
              subst ei
              rw [part_all] at ow
              have Fs := Fk.set k _ (rep l.length k) HV.out kw1 (by rw [rep_length]; exact ow)
              rw [show l.length = nn ls k from by rw [HLE.out]; rfl, midl_succ ls k (by rw [HNL.out]; exact hkN)] at Fs
              clear ow kw1 Fk
              go_wp2
              go_roundw
              case rel => exact ⟨k + 1, by omega, by go_num, Fs, kww⟩
              case measure => simp [intOf]; omega
        · have ek : k = N := by omega
          subst ek
          have HVS : Hid (∀ (j : Nat) v x, vs[j]? = some v → v.ownBlock = some x → x < wr.heap.size) := fun j v x hv hx => (Fk.lt j v x hv hx).2
          have HAP := hideAp Fk.apart
          have L0 := Lng.start (M := 80) Fk HNL.out
          go_wp2
          generalize wr = w2 at *
          go_loopw [5, 9] (fun s i wr => ∃ j : Nat, ∃ us, j ≤ k ∧ i = .int .i64 j ∧ Lng 80 w2 wr base vs ls j us s) (fun _ i _ => k - (intOf i).toNat)
          case atStart => exact ⟨0, [], Nat.zero_le _, rfl, L0⟩
          case round =>
            clear L0 Fk
            obtain ⟨j, us, hj, rfl, L⟩ := hrel
            have kwr := kw.trans L.kp (fun x hx => .inl hx)
            by_cases hjk : j < k
            · obtain ⟨v, hv⟩ : ∃ v, vs[j]? = some v := ⟨_, List.getElem?_eq_getElem (by rw [HVL.out]; exact hjk)⟩
              have ow := L.vo j v (Nat.le_refl _) hv
              have hc := HC.out wr kwr j _ hv
              have hn := HNN.out j
              obtain ⟨n, hne⟩ : ∃ n, n = nn ls j := ⟨_, rfl⟩
              rw [← hne] at ow hn
              have HN : Hid (n ≤ 140737488351232) := hn
              have HV : Hid (vs[j]? = some v) := hv
              have HNE : Hid (n = nn ls j) := hne
              have hsz2 := L.kp.size
              have hb2 : base ≤ w2.heap.size := Nat.le_trans hb kw.size
              have HL3 := hideLng L
              clear hv hne L hn
              go_wp2_with fail
              refine (grown_z v n j base ((j : Int) + 1) (mk_small j (by omega)) _ ow (by omega) (by have := HN.out; omega)).mono ?_
              rintro e w3 ⟨l, rfl, ol, bl, lv, kl⟩
              obtain ⟨pl, dl, rfl⟩ := own_shape2 ol
              have L := HL3.out
              have kb : Kept [] w3 (w3.alloc (.cells #[.slice pl (n + 80) dl] 22)) := (Kept.refl [] w3).alloc _
              have oW := own_of_kept (own_of_kept L.lo kl (fun x hx hm => by
                have h1 := L.lb x hx
                have h2 := HVS.out j _ x HV.out (by simpa using hm)
                omega)) kb (by simp)
              have hnw := World.news_of_block (heap_alloc_new w3 (.cells #[.slice pl (n + 80) dl] 22))
              have hul := L.ul
              have hsz3 := kl.size
              clear L
              go_wp2_with (at_builtin; refine wpList_append_own2 rfl (.tmp 57) (.tmp 66) 41 rfl base 22 Try.underlying41 (.slice none 0 0) 24 (by kernel_rfl) rfl _ _ _ (by rfl) oW ⟨w3.heap.size, 0, none⟩ 1 1 _ (by rfl) rfl hnw (by simp [Value.oneCell']) (by unfold maxLen; omega) (by omega) (by simp; omega) ?_; intro V w5 o5 g5 at5)
              have hnj := HNE.out
              have L2 := HL3.out.snoc HAP.out (fun j v x hv hx => HVS.out j v x hv hx) HV.out kl (by rw [← hnj]; exact ol) (by rw [← hnj]; exact bl) (weak_or lv hsz2) hsz2 kb o5 oW g5 at5
              clear hnj
              clear o5 g5 at5 oW kb hnw ol bl lv kl
              go_roundw
              case rel => exact ⟨j + 1, _, by omega, by go_num, L2⟩
              case measure => simp [intOf]; omega
            · have ej : j = k := by omega
              subst ej
              obtain ⟨pl, dl, rfl⟩ := own_shape2 L.lo
              have hLo := L.lo
              have HLL := hideLng L
              clear L
              go_wp2
              go_loop [10] (fun i => ∃ m : Nat, m ≤ j ∧ i = .int .i64 m) (fun i => j - (intOf i).toNat)
              case atStart => exact ⟨0, Nat.zero_le _, rfl⟩
              case round =>
                obtain ⟨m, hm, rfl⟩ := hrel
                by_cases hmj : m < j
                · have L := HLL.out
                  obtain ⟨u, hu⟩ : ∃ u, us[m]? = some u := ⟨_, List.getElem?_eq_getElem (by rw [L.ul]; exact hmj)⟩
                  obtain ⟨v, hv⟩ : ∃ v, vs[m]? = some v := ⟨_, List.getElem?_eq_getElem (by rw [HVL.out]; exact hmj)⟩
                  have hc := HC.out wr kwr m _ hv
                  have bu := Bs.ofOwn (L.uo m u hu)
                  have bv := L.vb m v hv
                  obtain ⟨n, hne⟩ : ∃ n, n = nn ls m := ⟨_, rfl⟩
                  rw [← hne] at bu bv
                  have hn := HNN.out m
                  rw [← hne] at hn
                  have HN : Hid (n ≤ 140737488351232) := hn
                  rcases id hLo.2 with ⟨_, h0⟩ | ⟨GL, dl', cur', el, -⟩
                  · omega
                  · obtain ⟨rfl, rfl⟩ : pl = some ⟨GL, 0, none⟩ ∧ dl = dl' := by simp at el; exact el
                    have hcl := hLo.cellAt m (by omega)
                    rw [hu] at hcl
                    clear el hv hu L hne hn
                    go_wp2_with fail
                    refine (full_z v n m ((m : Int) + 1) (mk_small m (by omega)) _ bv (by have := HN.out; omega)).mono ?_
                    rintro e w6 ⟨rfl, hw6⟩
                    subst hw6
                    go_wp2_with fail
                    refine (full_z u (n + 80) m ((m : Int) + 1) (mk_small m (by omega)) _ bu (by have := HN.out; omega)).mono ?_
                    rintro e w7 ⟨rfl, hw7⟩
                    subst hw7
                    go_wp2
                    go_round
                    case rel => exact ⟨m + 1, by omega, by go_num⟩
                    case measure => simp [intOf]; omega
                · go_wp2
                  go_ret
                  exact ⟨rfl, kwr⟩
end Go.Proofs.Ytkghbmdicinnnaa
