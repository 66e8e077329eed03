/-
  OWN WORK. What lengthening a marked row by its mark does: the row stays as it was, its longer self holds the mark all through.
-/
import Derived.Test.YtoildbbfnhjfoaaRows
import Derived.Test.YtoildbbfnhjfoaaMark
namespace Go.Proofs.Ytoildbbfnhjfoaa
open Go.RowKit
set_option linter.unusedVariables false

theorem mk_small (k : Nat) (h : k < 200) : (k : Int) + 1 = ((mk k).toNat : Int) := by
  unfold mk
  rw [UInt8.toNat_ofNat']
  omega
/-- a beginning of an owned row -/
theorem Bs.prefix {w : World} {base g n d m k : Nat} {v' : Value} (ho : w.ownsRow base 5 1 v' m (u8s (rep m k))) (hg : v'.ownBlock = some g) (h1 : n ≤ d) (h2 : d ≤ maxLen) (hm : n ≤ m) : Bs w (.slice (some ⟨g, 0, none⟩) n d) (rep n k) := by
  have := Bs.mk (w := w) (b := g) (o := 0) (c := d) (l := rep n k) (by rw [rep_length]; exact h1) h2 (fun i x hx => by
    have hi : i < n := by have := (List.getElem?_eq_some_iff.1 hx).1; rwa [rep_length] at this
    rw [rep_get hi] at hx
    simp at hx
    subst hx
    have := ho.cells hg i (.int .u8 ((Go.Proofs.Ytoildbbfnhjfoaa.mk k).toNat : Int)) (by simp only [u8s, List.getElem?_map, rep_get (show i < m by omega)]; rfl)
    rwa [add_none rfl] at this)
  rwa [rep_length] at this
/-- one mark more behind l, a longer self of v -/
theorem mark_step {wr W w' : World} {base n m k lo : Nat} {v l v' : Value} (hv : ∃ p d, v = .slice p n d ∧ (p = none ∧ n = 0 ∨ ∃ g, p = some ⟨g, 0, none⟩ ∧ n ≤ d ∧ d ≤ maxLen))
    (hbs : Bs W v (rep n k)) (hnm : n ≤ m) (hlo : lo ≤ W.heap.size) (hl : l.ownBlock = v.ownBlock ∨ ∃ y, l.ownBlock = some y ∧ lo ≤ y)
    (hvlt : ∀ x, v.ownBlock = some x → x < lo)
    (ho : w'.ownsRow base 5 1 v' (m + 1) (u8s (rep m k ++ [mk k]))) (hg : W.grownBy w' l.ownBlock) (hat : v'.ownBlock = l.ownBlock ∨ (v'.ownBlock = some W.heap.size ∧ W.grownBy w' none)) :
    w'.ownsRow base 5 1 v' (m + 1) (u8s (rep (m + 1) k)) ∧ Bs w' v (rep n k) ∧ (v'.ownBlock = v.ownBlock ∨ ∃ y, v'.ownBlock = some y ∧ lo ≤ y) := by
  rw [rep_snoc] at ho
  refine ⟨ho, ?_, ?_⟩
  · rcases hat with hat | ⟨_, hgn⟩
    · rcases hl with hl | ⟨y, hy, hly⟩
      · obtain ⟨p, d, rfl, hp⟩ := hv
        rcases hp with ⟨rfl, rfl⟩ | ⟨g, rfl, h1, h2⟩
        · exact hbs.carry fun a x hx hb => by simp [Value.ownBlock] at hb
        · exact Bs.prefix ho (by rw [hat, hl]; rfl) h1 h2 (by omega)
      · refine hbs.keptOwn (S := [y]) (Kept.ofGrown hg (by intro x hx _; rw [hy] at hx; simp at hx; simp [hx])) fun x hx hm => ?_
        simp at hm
        subst hm
        have := hvlt x hx
        omega
    · exact hbs.kept (Kept.ofGrown hgn (by simp))
  · rcases hat with hat | ⟨hat, _⟩
    · rw [hat]; exact hl
    · exact .inr ⟨_, hat, hlo⟩

/-- 'long', as far as it has been made -/
structure Lng (M : Nat) (w2 wr : World) (base : Nat) (vs : List Value) (ls : List (List UInt8)) (k : Nat) (us : List Value) (long : Value) : Prop where
  ul : us.length = k
  lo : wr.ownsRow base 33 1 long k us
  lb : ∀ x, long.ownBlock = some x → w2.heap.size ≤ x
  uo : ∀ (j : Nat) u, us[j]? = some u → wr.ownsRow base 5 1 u (nn ls j + M) (u8s (rep (nn ls j + M) j))
  ub : ∀ (j : Nat) u v, us[j]? = some u → vs[j]? = some v → u.ownBlock = v.ownBlock ∨ ∃ y, u.ownBlock = some y ∧ w2.heap.size ≤ y
  vb : ∀ (j : Nat) v, vs[j]? = some v → Bs wr v (rep (nn ls j) j)
  vo : ∀ (j : Nat) v, k ≤ j → vs[j]? = some v → wr.ownsRow base 5 1 v (nn ls j) (u8s (rep (nn ls j) j))
  kp : Kept (blocks vs) w2 wr

theorem Lng.start {w2 : World} {M base N : Nat} {vs : List Value} {ls : List (List UInt8)} (F : Fam w2 base vs (midl ls N)) (hN : ls.length = N) : Lng M w2 w2 base vs ls 0 [] (.slice none 0 0) := by
  have hv : ∀ (j : Nat) v, vs[j]? = some v → w2.ownsRow base 5 1 v (nn ls j) (u8s (rep (nn ls j) j)) := fun j v hv => by
    have hj : j < ls.length := by
      have := (List.getElem?_eq_some_iff.1 hv).1
      rw [F.len, midl_length] at this
      exact this
    have hm := midl_get ls N j hj
    rw [if_pos (by omega)] at hm
    have := F.own j v _ hv hm
    rwa [rep_length] at this
  exact ⟨rfl, World.ownsRow_nil _ _ _ _, by simp [Value.ownBlock], by simp, by simp, fun j v h => Bs.ofOwn (hv j v h), fun j v _ h => hv j v h, Kept.refl _ _⟩

/-- row k has been lengthened (l, in wr), and stands behind 'long' (long', in w') -/
theorem Lng.snoc {w2 w3 wr W w' : World} {M base k : Nat} {vs : List Value} {ls : List (List UInt8)} {us : List Value} {long long' l v : Value} (h : Lng M w2 w3 base vs ls k us long)
    (hap : ∀ (i j : Nat) u v x, i < j → vs[i]? = some u → vs[j]? = some v → u.ownBlock = some x → v.ownBlock ≠ some x) (hvlt : ∀ (j : Nat) v x, vs[j]? = some v → v.ownBlock = some x → x < w2.heap.size)
    (hv : vs[k]? = some v) (kl : Kept v.ownBlock.toList w3 wr) (ol : wr.ownsRow base 5 1 l (nn ls k + M) (u8s (rep (nn ls k + M) k))) (bl : Bs wr v (rep (nn ls k) k)) (lv : l.ownBlock = v.ownBlock ∨ ∃ y, l.ownBlock = some y ∧ w2.heap.size ≤ y)
    (hsz : w2.heap.size ≤ w3.heap.size) (kW : Kept [] wr W) (ho : w'.ownsRow base 33 1 long' (k + 1) (us ++ [l])) (hoW : W.ownsRow base 33 1 long k us) (hg : W.grownBy w' long.ownBlock) (hat : long'.ownBlock = long.ownBlock ∨ (long'.ownBlock = some W.heap.size ∧ W.grownBy w' none)) :
    Lng M w2 w' base vs ls (k + 1) (us ++ [l]) long' := by
  have kL : Kept long.ownBlock.toList W w' := Kept.ofGrown hg (by intro x hx _; simp [hx])
  have hL8 : ∀ x ∈ long.ownBlock.toList, Not8 W x := fun x hx => own_not8 hoW (by decide) x (by simpa using hx)
  -- bytes rows are as they were behind the append to 'long'
  have own2 : ∀ {u : Value} {n : Nat} {xs : List Value}, wr.ownsRow base 5 1 u n xs → w'.ownsRow base 5 1 u n xs := fun ho => by
    have h1 := own_of_kept ho kW (by simp)
    exact own_of_kept h1 kL fun x hx hm => own_is8 h1 x hx (hL8 x hm)
  have bs2 : ∀ {u : Value} {m : List UInt8}, (∃ n xs, wr.ownsRow base 5 1 u n xs) ∨ u = v → Bs wr u m → Bs w' u m := fun hu hb => by
    refine (hb.kept kW).carry fun a x hx hb2 => kL.cell hx fun hm => ?_
    have hn := hL8 _ hm
    simp only [World.cell?] at hx
    have hbl : long.ownBlock = some a.block := by simpa using hm
    rcases hoW.2 with ⟨h0, _⟩ | ⟨gg, cap, cur, hh, _, hheap, _, _, hcs, htk⟩
    · rw [h0] at hbl; simp [Value.ownBlock] at hbl
    · rw [hh] at hbl
      have hga : gg = a.block := by simpa [Value.ownBlock] using hbl
      have hlt := own_lt hoW a.block (by rw [hh]; simpa [Value.ownBlock] using hga)
      rcases hu with ⟨n, xs, hou⟩ | rfl
      · exact own_is8 (own_of_kept hou kW (by simp)) a.block hb2 hn
      · have h1 := hvlt k _ a.block hv hb2
        have h2 := h.lb a.block (by rw [hh]; simpa [Value.ownBlock] using hga)
        omega
  have old : ∀ {u : Value} {n : Nat} {xs : List Value}, w3.ownsRow base 5 1 u n xs → (∀ x, u.ownBlock = some x → v.ownBlock ≠ some x) → wr.ownsRow base 5 1 u n xs := fun ho hne => own_of_kept ho kl fun x hx hm => hne x hx (by simpa using hm)
  refine ⟨by simp [h.ul], ho, ?_, ?_, ?_, ?_, ?_, ?_⟩
  · intro x hx
    rcases hat with hat | ⟨hat, _⟩
    · exact h.lb x (by rw [← hat]; exact hx)
    · rw [hat] at hx
      simp at hx
      have := kl.size
      have := kW.size
      omega
  · intro j u hu
    rw [List.getElem?_append] at hu
    by_cases hj : j < us.length
    · rw [if_pos hj] at hu
      refine own2 (old (h.uo j u hu) fun x hx hvx => ?_)
      have hjl : j < vs.length := by have := (List.getElem?_eq_some_iff.1 hv).1; have := h.ul; omega
      rcases h.ub j u vs[j] hu (List.getElem?_eq_getElem hjl) with e | ⟨y, hy, hly⟩
      · exact hap j k vs[j] v x (by have := h.ul; omega) (List.getElem?_eq_getElem hjl) hv (by rw [← e]; exact hx) hvx
      · rw [hx] at hy
        simp at hy
        have := hvlt k v x hv hvx
        omega
    · rw [if_neg hj] at hu
      rcases hd : j - us.length with _ | d'
      · rw [hd] at hu
        simp at hu
        subst hu
        have : j = k := by have := h.ul; omega
        subst this
        exact own2 ol
      · rw [hd] at hu
        simp at hu
  · intro j u v2 hu hv2
    rw [List.getElem?_append] at hu
    by_cases hj : j < us.length
    · rw [if_pos hj] at hu
      exact h.ub j u v2 hu hv2
    · rw [if_neg hj] at hu
      rcases hd : j - us.length with _ | d'
      · rw [hd] at hu
        simp at hu
        subst hu
        have : j = k := by have := h.ul; omega
        subst this
        rw [hv] at hv2
        simp at hv2
        subst hv2
        exact lv
      · rw [hd] at hu
        simp at hu
  · intro j v2 hv2
    by_cases hjk : j = k
    · subst hjk
      rw [hv] at hv2
      simp at hv2
      subst hv2
      exact bs2 (.inr rfl) bl
    · have hne : ∀ x, v2.ownBlock = some x → v.ownBlock ≠ some x := fun x hx hvx => by
        rcases Nat.lt_or_ge j k with hlt | hge
        · exact hap j k v2 v x hlt hv2 hv hx hvx
        · exact hap k j v v2 x (by omega) hv hv2 hvx hx
      have hb := (h.vb j v2 hv2).keptOwn kl fun x hx hm => hne x hx (by simpa using hm)
      refine (hb.kept kW).carry fun a x hx hb2 => kL.cell hx fun hm => ?_
      have hbl : long.ownBlock = some a.block := by simpa using hm
      have h1 := hvlt j v2 a.block hv2 hb2
      have h2 := h.lb a.block hbl
      omega
  · intro j v2 hkj hv2
    refine own2 (old (h.vo j v2 (by omega) hv2) fun x hx hvx => ?_)
    exact hap k j v v2 x (by omega) hv hv2 hvx hx
  · refine ((h.kp.trans kl ?_).then kW).trans kL ?_
    · intro x hx
      exact .inl (mem_blocks hv (by simpa using hx))
    · intro x hx
      exact .inr (h.lb x (by simpa using hx))
theorem weak_or {a b : Option Nat} {lo lo' : Nat} (h : a = b ∨ ∃ y, a = some y ∧ lo ≤ y) (hl : lo' ≤ lo) : a = b ∨ ∃ y, a = some y ∧ lo' ≤ y := by
  rcases h with e | ⟨y, hy, hly⟩
  · exact .inl e
  · exact .inr ⟨y, hy, Nat.le_trans hl hly⟩
theorem hideLng {M : Nat} {w2 wr : World} {base : Nat} {vs : List Value} {ls : List (List UInt8)} {k : Nat} {us : List Value} {long : Value} (h : Lng M w2 wr base vs ls k us long) : Hid (Lng M w2 wr base vs ls k us long) := h
theorem byte_cell (w : World) (e : TypeId) (z : Int) (y : UInt8) (hz : z = (y.toNat : Int)) : (w.alloc (.cells #[.int .u8 z] e)).cell? ⟨w.heap.size, 0, none⟩ = some (.int .u8 (y.toNat : Int)) := by
  subst hz
  have := World.news_of_block (heap_alloc_new w (.cells #[.int .u8 (y.toNat : Int)] e)) 0 _ rfl
  rwa [add_none rfl] at this
theorem hideAp {vs : List Value} (h : ∀ (i j : Nat) u v x, i < j → vs[i]? = some u → vs[j]? = some v → u.ownBlock = some x → v.ownBlock ≠ some x) : Hid (∀ (i j : Nat) u v x, i < j → vs[i]? = some u → vs[j]? = some v → u.ownBlock = some x → v.ownBlock ≠ some x) := h

end Go.Proofs.Ytoildbbfnhjfoaa
