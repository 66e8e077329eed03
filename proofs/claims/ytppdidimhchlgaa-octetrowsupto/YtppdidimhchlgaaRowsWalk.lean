/-
  OWN WORK. The walk of OctetRows.
-/
import Derived.Test.YtppdidimhchlgaaRows
import Derived.Test.YtppdidimhchlgaaKnown
namespace Go.Proofs.Ytppdidimhchlgaa
open Go.RowKit
set_option linter.unusedVariables false

theorem flat_drop (ls : List (List UInt8)) (k : Nat) (l : List UInt8) (h : ls[k]? = some l) : flat (ls.drop k) = l ++ flat (ls.drop (k + 1)) := by
  obtain ⟨hk, rfl⟩ := List.getElem?_eq_some_iff.1 h
  unfold flat
  rw [List.drop_eq_getElem_cons hk, List.flatten_cons]
theorem flat_drop_le (ls : List (List UInt8)) (k : Nat) : (flat (ls.drop k)).length ≤ (flat ls).length := by
  unfold flat
  have : ls.flatten = (ls.take k).flatten ++ (ls.drop k).flatten := by rw [← List.flatten_append, List.take_append_drop]
  rw [this, List.length_append]; omega
theorem end_pos (g : Nat) (l : List UInt8) (w : World) (hr : Rd 62 w g l) (h : l.length ≠ 0) :
    Calls Try.prog 21 #[.pointer (some ⟨g, 0, none⟩)] w fun e w' => e = .returned (.int .i64 11) ∧ w' = w := by
  have := end_any g l w hr
  rwa [if_neg h] at this

set_option maxRecDepth 100000 in
set_option maxHeartbeats 4000000 in
theorem octetRows_walk (v : Value) (ls : List (List UInt8)) (w : World) (hv : Bss w v ls) (ht : (flat ls).length ≤ 140737488355328) :
    Calls Try.prog 5 #[v] w fun e w' => e = .returned (.bool true) ∧ Kept [] w w' := by
  obtain ⟨p, c, rfl, hc1, hc2, -⟩ := id hv
  have hlen : ls.length ≤ 9223372036854775807 := by unfold maxLen at hc2; omega
  go_enter Try.func5, Try.ntmps5
  go_wp2_with fail
  refine (join_any _ ls _ hv ht).mono ?_
  rintro e w1 ⟨v1, rfl, o1, k1⟩
  have b1 := Bs.ofOwn o1
  obtain ⟨p1, c1, rfl⟩ : ∃ p c, v1 = .slice p (flat ls).length c := by
    rcases o1.2 with ⟨rfl, h⟩ | ⟨g, cap, cur, rfl, _⟩
    · rw [h]; exact ⟨_, _, rfl⟩
    · exact ⟨_, _, rfl⟩
  clear o1
  go_wp2_with fail
  refine (newReader_any _ (flat ls) _ b1 ht).mono ?_
  rintro e w2 ⟨g, rfl, hg, hr2, k2⟩
  have hgw : w.heap.size ≤ g := by have := k1.size; omega
  have kk2 := k1.then k2
  clear b1 k1 k2 hg
  go_wp2_with fail
  refine (known_any _).mono ?_
  rintro e w3 ⟨rfl, k3⟩
  have hr3 := hr2.kept k3 (by simp)
  have kk3 := kk2.then k3
  clear hr2 kk2 k3
  go_wp2
  go_loopw [5, 6] (fun s i wr => ∃ k : Nat, ∃ R : List UInt8, k ≤ ls.length ∧ i = .int .i64 k ∧ s = .int .i64 (R.length : Int) ∧ Hid (R = flat (ls.drop k)) ∧ Rd 62 wr g R ∧ Kept [] w wr) (fun _ i _ => ls.length - (intOf i).toNat)
  case atStart => exact ⟨0, flat ls, Nat.zero_le _, rfl, rfl, (show flat ls = flat (ls.drop 0) by simp), hr3, kk3⟩
  case round =>
    clear hr3 kk3
    obtain ⟨k, R, hk, rfl, rfl, HR, hr, hkw⟩ := hrel
    by_cases hlt : k < ls.length
    · obtain ⟨l, hl⟩ : ∃ l, ls[k]? = some l := ⟨_, List.getElem?_eq_getElem hlt⟩
      obtain ⟨b, o, c', ev, -, -, -, hcell⟩ := hv.pos (by omega)
      obtain ⟨rfl, rfl⟩ : p = some ⟨b, o, none⟩ ∧ c = c' := by simp at ev; exact ev
      clear ev
      obtain ⟨q, d, hcw, hB⟩ := hcell k l hl
      have hc := hkw.cell hcw (by simp)
      have HR2 := flat_drop ls k l hl
      rw [← HR.out] at HR2
      have hRl : R.length ≤ 140737488355328 := by rw [HR.out]; exact Nat.le_trans (flat_drop_le ls k) ht
      have hRs : R.length = l.length + (flat (ls.drop (k + 1))).length := by rw [HR2, List.length_append]
      obtain ⟨R', hR'⟩ : ∃ R', R' = flat (ls.drop (k + 1)) := ⟨_, rfl⟩
      rw [← hR'] at HR2 hRs
      have HR' : Hid (R' = flat (ls.drop (k + 1))) := hR'
      have HR3 : Hid (R = l ++ R') := HR2
      have HRS : Hid (R.length = l.length + R'.length) := hRs
      have hle : l.length ≤ R.length := by omega
      clear hR' HR2 hRs hcell hl HR
      by_cases hz : R.length = 0
      · go_wp2_with fail
        have hE := end_any g R _ hr
        rw [if_pos hz] at hE
        refine hE.mono ?_
        clear hE
        rintro e wa ⟨rfl, hwa⟩
        rw [← hwa] at hr hkw hc
        clear hwa hz
        go_wp2_with fail
        refine (left_any g R _ hr).mono ?_
        rintro e wb ⟨rfl, hwb⟩
        rw [← hwb] at hr hkw hc
        clear hwb
        go_wp2_with fail
        refine (row_any g R l.length _ hr hle hRl).mono ?_
        rintro e wc ⟨vh, rfl, oh, hr2, kc⟩
        rw [HR3.out, take_left] at oh
        rw [HR3.out, drop_left] at hr2
        have bh := Bs.ofOwn oh
        have kC : Kept [] w wc := hkw.trans kc (by simp; exact hgw)
        have hcc := kC.cell hcw (by simp)
        have hBc := hB.kept kC
        clear oh hr hkw hc kc
        go_wp2_with fail
        refine (same_any _ _ l l _ bh hBc).mono ?_
        rintro e wd ⟨rfl, hwd⟩
        rw [← hwd] at hr2 kC hcc
        clear hwd bh hBc
        rw [show (l == l) = true from by simp]
        go_wp2
        go_roundw
        case rel => exact ⟨k + 1, R', by omega, by go_num, by have := HRS.out; go_num, HR', hr2, kC⟩
        case measure => simp [intOf]; omega
      · have hz' : ((R.length : Int) == 0) = false := by simp; intro h; exact hz (by rw [h]; rfl)
        go_wp2_with fail
        refine (end_pos g R _ hr hz).mono ?_
        rintro e wa ⟨rfl, hwa⟩
        rw [← hwa] at hr hkw hc
        clear hwa hz
        go_wp2_with fail
        refine (left_any g R _ hr).mono ?_
        rintro e wb ⟨rfl, hwb⟩
        rw [← hwb] at hr hkw hc
        clear hwb
        go_wp2_with fail
        refine (row_any g R l.length _ hr hle hRl).mono ?_
        rintro e wc ⟨vh, rfl, oh, hr2, kc⟩
        rw [HR3.out, take_left] at oh
        rw [HR3.out, drop_left] at hr2
        have bh := Bs.ofOwn oh
        have kC : Kept [] w wc := hkw.trans kc (by simp; exact hgw)
        have hcc := kC.cell hcw (by simp)
        have hBc := hB.kept kC
        clear oh hr hkw hc kc
        go_wp2_with fail
        refine (same_any _ _ l l _ bh hBc).mono ?_
        rintro e wd ⟨rfl, hwd⟩
        rw [← hwd] at hr2 kC hcc
        clear hwd bh hBc
        rw [show (l == l) = true from by simp]
        go_wp2
        go_roundw
        case rel => exact ⟨k + 1, R', by omega, by go_num, by have := HRS.out; go_num, HR', hr2, kC⟩
        case measure => simp [intOf]; omega
    · have hR0 : R = [] := by rw [HR.out, List.drop_eq_nil_of_le (by omega)]; rfl
      subst hR0
      clear HR
      go_wp2_with fail
      refine (left_nil g _ hr).mono ?_
      rintro e wa ⟨rfl, hwa⟩
      rw [← hwa] at hr hkw
      clear hwa
      go_wp2_with fail
      refine (end_nil g _ hr).mono ?_
      rintro e wb ⟨rfl, hwb⟩
      rw [← hwb] at hkw
      clear hwb hr
      go_wp2
      go_ret
      exact ⟨rfl, hkw⟩
end Go.Proofs.Ytppdidimhchlgaa
