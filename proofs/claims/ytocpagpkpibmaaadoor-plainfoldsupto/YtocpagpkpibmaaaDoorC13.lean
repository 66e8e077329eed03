import Derived.Shelf.SlSortCmp.NoneTotal
import Derived.Sort.OwnSortedInts
import Derived.JoinedCond
import Derived.Handed
import Derived.Test.YtocpagpkpibmaaaDoorRows
import Derived.Test.YtocpagpkpibmaaaDoorCards
import Derived.Test.YtocpagpkpibmaaaDoorTie
import Derived.SevenTiedAt
import Derived.Test.YtocpagpkpibmaaaDoorC12
/-
  OWN WORK. The landed plain (layer 18): Ids.
-/
namespace Go.Proofs.YtocpagpkpibmaaaDoor
open Go.RowKit Go.Maps Go.Sort Go.Shelf
set_option linter.unusedVariables false
set_option linter.unusedSimpArgs false
theorem sortsA (m : Nat) : AnyZI.SortsIn Tryd.prog sortedA_ren Fence.wide m :=
  ⟨fun blk off cap ss W hH hblk hsz => callsIn_wide.2 (AnyM.slices_Sort_int sortA blk off cap ss W hH hblk hsz),
   fun p cap W => callsIn_wide.2 (AnyM.slices_Sort_int_none sortA p cap W)⟩
/-- a row as the library tells it, as a list of numbers of one's own -/
theorem Ns.ofOwns {w : World} {base : Nat} {v : Value} {l : List Int} (h : w.ownsRow base 3 1 v l.length (l.map encZ)) : Ns w base v l := by
  obtain ⟨h1, h2⟩ := h
  unfold Ns
  have hc : i64s l = l.map encZ := rfl
  refine ⟨by rw [i64s_length]; omega, i64s_one l, ?_⟩
  rcases h2 with ⟨e, e2⟩ | ⟨g, cap, cur, e, hb, hbl, hc1, hc2, hc3, hc4⟩
  · exact ⟨none, 0, by rw [e, e2], by omega, by simp [maxLen], .inl ⟨rfl, rfl⟩⟩
  · refine ⟨some ⟨g, 0, none⟩, cap, e, hc1, hc2, .inr ⟨g, rfl, hb, ?_, fun j u hj => ?_, fun j hj => ?_⟩⟩
    · exact (Array.getElem?_eq_some_iff.1 hbl).1
    · have hjl := (List.getElem?_eq_some_iff.1 hj).1
      rw [i64s_length] at hjl
      have q : (cur.toList.take (l.length * 1))[j]? = some u := by rw [hc4]; exact hj
      rw [List.getElem?_take_of_lt (by omega), Array.getElem?_toList] at q
      simp [World.cell?, hbl, q]
    · refine ⟨?_, by simp [World.frozen?, hbl]⟩
      have : j < cur.size := by omega
      simp [World.cell?, hbl, this]
set_option maxHeartbeats 1600000 in
theorem qIds {V : Tag → Value} {g : Nat} {c : Cf} {S : St} (w : World) (h : PpP w V g c S) : Calls Tryd.prog 14 #[.pointer (some ⟨g, 0, none⟩)] w fun e w' => ∃ vi, e = .returned vi ∧ Ns w' w.heap.size vi (idsS S) ∧ Kept [] w w' := by
  obtain ⟨bo, e1, D, hO, hT, hK⟩ := h.opn
  have B := h.box
  rw [e1] at B
  have c7 := B.cell (j := 7) rfl
  have hsz := size_ks hO hT hK
  have hp := idsS_perm h.ok
  have hup := idsS_up S
  have h8 := h.ok.lenN
  have hmax : Maps.size D ≤ maxLen := by rw [hsz.2, List.length_map]; unfold maxLen; omega
  have hbytes : Maps.size D * 8 ≤ 140737488355328 := by rw [hsz.2, List.length_map]; omega
  have hbl := hO.lt
  have HR := @hideH _ (And.intro hsz.1 (And.intro hp hup))
  clear B h hT hK hp hup hsz
  refine (callsIn_wide (n := 6)).1 ?_
  have hseq : SeqGives Fence.wide 2 Tryd.prog 43 #[.pointer (some ⟨w.heap.size, 0, none⟩)] encZ (fun ss => ss.Perm (intKeys D)) (Maps.size D) (w.alloc (.cells #[.map (some bo)] 75)) :=
    AnyZI.keys_gives (ρ := keysA_ren) { keysA with } Fence.wide _ trivial rfl (by omega) w.heap.size bo _ D _ (by simp) (by simp) (by
      obtain ⟨es, clock, hb, Ft, hs, hD⟩ := hO
      exact ⟨es, clock, (Below.heap_alloc _ _ bo hbl).trans hb, Ft, hs, hD⟩)
  have cK : ∀ mb W, CallsIn Fence.wide 5 Tryd.prog 27 #[.map mb] W fun e w' => e = .returned (.func (.func 43) #[] #[.pointer (some ⟨W.heap.size, 0, none⟩)]) ∧ w' = W.alloc (.cells #[.map mb] 75) := fun mb W => AnyZI.keys_in keysA Fence.wide 5 trivial rfl mb W
  have cS := AnyZI.sorted_in sortedA Fence.wide 5 trivial trivial trivial trivial rfl (by omega) (sortsA _) (enters_of Tryd.func42 (by kernel_rfl) rfl) 43 #[.pointer (some ⟨w.heap.size, 0, none⟩)] trivial (enters_of Tryd.func43 (by kernel_rfl) rfl) _ _ hmax hbytes _ hseq
  change CallsIn _ _ Tryd.prog 26 _ _ _ at cS
  have hfK : Fence.wide.fn 27 := trivial
  have hfS : Fence.wide.fn 26 := trivial
  refine callsIn_of_wp Tryd.func14 rfl trivial ?_ rfl
  simp only [Tryd.ntmps14, List.size_toArray, List.length_cons, List.length_nil, Nat.reduceAdd, Nat.reduceSub, Array.replicate_succ, Array.replicate_zero, List.push_toArray, List.append_toArray, List.nil_append, List.cons_append]
  gi_wp2_with (first
    | (gi_at_call 27; refine (cK _ _).mono ?_; rintro e w' ⟨rfl, rfl⟩)
    | (gi_at_call 26; refine cS.mono ?_; rintro e w' ⟨v, ss, rfl, hS, hrow, hnil, hb⟩))
  go_ret
  have hlen : ss.length = (ss.mergeSort (fun x y => decide (x ≤ y))).length := by simp
  have hperm : (ss.mergeSort (fun x y => decide (x ≤ y))).Perm (idsS S) := ((List.mergeSort_perm ss _).trans (hS.trans HR.out.1.symm)).trans HR.out.2.1.symm
  have heq : ss.mergeSort (fun x y => decide (x ≤ y)) = idsS S := by
    refine hperm.eq_of_pairwise (le := fun x y : Int => x ≤ y) (fun a b _ _ h1 h2 => by omega) ?_ (HR.out.2.2.imp fun q => by omega)
    have q := List.pairwise_mergeSort (le := fun x y : Int => decide (x ≤ y)) (fun a b c h1 h2 => by simp at *; omega) (fun a b => by simp; omega) ss
    exact q.imp fun h => by simpa using h
  refine ⟨v, rfl, ?_, ?_⟩
  · rw [hlen, heq] at hrow
    exact (Ns.ofOwns hrow).mono (by simp)
  · exact ((Kept.refl [] w).alloc _).then (Kept.ofBelow hb)
end Go.Proofs.YtocpagpkpibmaaaDoor

/-
  OWN WORK. The landed plain (layer 18): its State is what the laws ask for.
-/
namespace Go.Proofs.YtocpagpkpibmaaaDoor
open Go.RowKit
theorem fIds {g : Nat} {F : List Nat} {c : Cf} {S : St} (w : World) (h : Pz w g F c S) : Calls Tryd.prog 14 #[.pointer (some ⟨g, 0, none⟩)] w fun e w' => ∃ vi, e = .returned vi ∧ Ns w' w.heap.size vi (idsS S) ∧ Kept [] w w' := by
  obtain ⟨V, hp, -⟩ := h
  exact qIds w hp
theorem pnOps : PnOps [0] Vr Pz where
  kept h k hX := h.kept k hX
  lt h x hx := by
    obtain ⟨V, -, -, h3, -⟩ := h
    exact h3 x hx
  ok h := by
    obtain ⟨V, hp, -⟩ := h
    exact hp.ok
  vkept hv k hX := hv.kept k (hX 0 (by simp))
  vlt hv x hx := by
    have e : x = 0 := by simpa using hx
    rw [e]; exact hv.lt
  knot h x hx := by
    have e : x = 0 := by simpa using hx
    obtain ⟨V, -, -, -, h4⟩ := h
    rw [e]; exact h4
  new c w hv := fNew c w hv
  begin_ id w hv h _ hi := fBegin id w hv h hi
  get id key w hv h hs hi hk := fGet id key w hv h hs hi hk
  put id key v w hv h hs hi hk hu := fPut id key v w hv h hs hi hk hu
  delete id key w hv h hs hi hk := fDelete id key w hv h hs hi hk
  commit id w hv h hs hi := fCommit id w hv h hs hi
  abort id w hv h _ hi := fAbort id w hv h hi
  check d w hv h _ _ := fCheck d w hv h
  renew w hv h _ := fRenew w hv h
  ids w _ h := fIds w h
  used w _ h := fUsed w h
end Go.Proofs.YtocpagpkpibmaaaDoor

/-
  OWN WORK. The landed plain (layer 18): a list of entries, sorted by the library.
-/
namespace Go.Proofs.YtocpagpkpibmaaaDoor
open Go.RowKit Go.Maps Go.Sort Go.Shelf Go.Lib
set_option linter.unusedVariables false
set_option linter.unusedSimpArgs false
theorem grownV {w : World} {g n : Nat} {os : Array Obj} (d : Array Value) : w.grownBy (grow (putRow id (Sort.ahead w n) g 0 d) os) (some g) := by
  refine ⟨rfl, rfl, rfl, by simp, fun k hk hne => ?_⟩
  rw [heap_grow_old _ _ (by simpa using hk)]
  have : g ≠ k := fun e => hne (by rw [e])
  simp [putRow, mapBlock, Sort.ahead, Array.getElem?_modify, this]
theorem Row.holdsV {w : World} {base sz g n c : Nat} {cs : List Value} (h : Row w base sz (.slice (some ⟨g, 0, none⟩) n c) n cs) : Holds id w g 0 cs.toArray := by
  intro j hj
  have hj' : j < cs.length := by simpa using hj
  obtain ⟨h1, h2, p, c', e, h3, h4, h5⟩ := h
  cases e
  rcases h5 with ⟨q, -⟩ | ⟨g', e, h6, h7, h8, h9⟩
  · cases q
  cases e
  have hjc : j < c * sz := Nat.lt_of_lt_of_le (by rw [← h1]; exact hj') (Nat.mul_le_mul_right sz h3)
  refine ⟨?_, by have := (h9 j hjc).2; simpa using this⟩
  rw [Nat.zero_add, h8 j cs[j] (List.getElem?_eq_getElem hj')]
  simp [hj']
theorem Row.sorted {w : World} {base sz g n c : Nat} {cs ts : List Value} (h : Row w base sz (.slice (some ⟨g, 0, none⟩) n c) n cs) (hl : ts.length = cs.length) (ho : ∀ u ∈ ts, u.oneCell' = true) (k : Nat) (os : Array Obj) : Row (grow (putRow id (Sort.ahead w k) g 0 ts.toArray) os) base sz (.slice (some ⟨g, 0, none⟩) n c) n ts ∧ Kept [g] w (grow (putRow id (Sort.ahead w k) g 0 ts.toArray) os) := by
  refine ⟨?_, (Kept.refl [g] w).grown (grownV ts.toArray) (fun j hj => .inl (by cases hj; simp))⟩
  have hH := h.holdsV
  obtain ⟨h1, h2, p, c', e, h3, h4, h5⟩ := h
  cases e
  rcases h5 with ⟨q, -⟩ | ⟨g', e, h6, h7, h8, h9⟩
  · cases q
  cases e
  have hz : g < (putRow id (Sort.ahead w k) g 0 ts.toArray).heap.size := by rw [size_putRow]; exact h7
  refine ⟨by rw [hl]; exact h1, ho, _, _, rfl, h3, h4, .inr ⟨g, rfl, h6, by rw [size_grow]; omega, fun j u hj => ?_, fun j hj => ⟨?_, ?_⟩⟩⟩
  · have hjl : j < ts.length := (List.getElem?_eq_some_iff.1 hj).1
    rw [cell?_grow _ _ _ hz]
    have q := cell?_putRow id (Sort.ahead w k) g 0 cs.toArray ts.toArray (holds_ahead _ _ _ _ _ _ hH) (by simpa using hl) j (by simpa using hjl)
    rw [Nat.zero_add] at q
    rw [q, ← hj, List.getElem?_eq_getElem hjl]
    simp [hjl]
  · rw [cell?_grow _ _ _ hz]
    by_cases hjl : j < ts.length
    · have q := cell?_putRow id (Sort.ahead w k) g 0 cs.toArray ts.toArray (holds_ahead _ _ _ _ _ _ hH) (by simpa using hl) j (by simpa using hjl)
      rw [Nat.zero_add] at q
      rw [q]; rfl
    · rw [cell?_putRow_other _ _ _ _ _ _ (.inr (.inr (by simp; omega)))]
      exact (h9 j hj).1
  · rw [frozen?_grow _ _ _ hz, frozen?_putRow]
    exact (h9 j hj).2
def encE (x : Int × Int) : List Value := [.int .i64 x.1, .int .u64 x.2]
theorem flat_ecs (l : List (Int × Int)) : flatK encE 2 l.toArray = (ecs l).toArray := by
  apply Array.ext
  · simp [flatK, ecs_length]
  · intro t h1 h2
    have ht : t < l.length * 2 := by simpa [flatK] using h1
    have hq : t / 2 < l.length := by omega
    obtain ⟨a0, a1⟩ := ecs_at (l := l) (i := t / 2) (x := l[t / 2]) (List.getElem?_eq_getElem hq)
    have e : (flatK encE 2 l.toArray)[t]'h1 = (encE l[t / 2])[t % 2]! := by
      simp [flatK, hq]
    rw [e]
    have h2' : t < (ecs l).length := by simpa using h2
    have q : (ecs l).toArray[t]'h2 = (ecs l)[t] := rfl
    rw [q]
    rcases Nat.mod_two_eq_zero_or_one t with r | r
    · have et : t / 2 * 2 = t := by omega
      rw [et, List.getElem?_eq_getElem h2'] at a0
      rw [r, Option.some.inj a0]; rfl
    · have et : t / 2 * 2 + 1 = t := by omega
      rw [et, List.getElem?_eq_getElem h2'] at a1
      rw [r, Option.some.inj a1]; rfl
theorem nan2 (a : Int) (w : World) : Calls Tryd.prog 49 #[.int .i64 a] w fun e w' => e = .returned (.bool false) ∧ w' = w := by
  go_enter Tryd.func49, Tryd.ntmps49
  go_wp2
  go_ret
  exact ⟨by simp, rfl⟩
set_option maxRecDepth 20000 in
theorem compare2 (a b : Int) (w : World) : Calls Tryd.prog 34 #[.int .i64 a, .int .i64 b] w fun e w' => e = .returned (.int .i64 (Lib.compareInt a b)) ∧ w' = w := by
  go_enter Tryd.func34, Tryd.ntmps34
  go_wp2_with fail
  refine (nan2 a w).mono ?_
  rintro e w1 ⟨rfl, hw1⟩
  subst hw1
  go_wp2_with fail
  refine (nan2 b w1).mono ?_
  rintro e w2 ⟨rfl, hw2⟩
  subst hw2
  by_cases h : a < b
  · have HC := @hideH _ (show Lib.compareInt a b = -1 by unfold Lib.compareInt; simp [h])
    go_wp2
    go_ret
    exact ⟨by rw [HC.out]; rfl, rfl⟩
  · by_cases h2 : b < a
    · have HC := @hideH _ (show Lib.compareInt a b = 1 by unfold Lib.compareInt; simp [h, h2])
      go_wp2
      go_ret
      exact ⟨by rw [HC.out]; rfl, rfl⟩
    · have HC := @hideH _ (show Lib.compareInt a b = 0 by unfold Lib.compareInt; simp [h, h2])
      go_wp2
      go_ret
      exact ⟨by rw [HC.out]; rfl, rfl⟩
set_option maxHeartbeats 1000000 in
theorem closureE (x y : Int × Int) (W : World) : Calls Tryd.prog 33 #[.agg #[.int .i64 x.1, .int .u64 x.2], .agg #[.int .i64 y.1, .int .u64 y.2]] W fun e w' => e = .returned (.int .i64 (Lib.compareInt x.1 y.1)) ∧ ∃ q os', w' = grow (W.drewN q) os' := by
  have hcon := fun W' => compare2 x.1 y.1 W'
  generalize Lib.compareInt x.1 y.1 = r at hcon ⊢
  go_enter Tryd.func33, Tryd.ntmps33
  go_wp2_with (go_at_call 34; refine (hcon _).mono ?_; rintro e w' ⟨rfl, rfl⟩)
  go_ret
  exact ⟨rfl, 0, _, by rw [alloc_eq_grow, alloc_eq_grow, grow_grow]; rfl⟩
theorem ltE (x y : Int × Int) : ltOf (fun x y : Int × Int => Lib.compareInt x.1 y.1) x y = decide (x.1 < y.1) := by
  unfold ltOf Lib.compareInt
  by_cases h1 : x.1 < y.1
  · simp [h1]
  · by_cases h2 : y.1 < x.1 <;> simp [h1, h2]
theorem swoE : SWO (ltOf fun x y : Int × Int => Lib.compareInt x.1 y.1) where
  irrefl x := by rw [ltE]; simp
  trans x y z h1 h2 := by rw [ltE] at *; simp at *; omega
  ntrans x y z h1 h2 := by rw [ltE] at *; simp at *; omega
theorem qSortE {base : Nat} {p : Option Addr} {n c : Nat} {l : List (Int × Int)} (w : World) (h : Es w base (.slice p n c) l) (hl : l.length ≤ 3600000000000) : Calls Tryd.prog 32 #[.slice p n c, .func (.func 33) #[] #[]] w fun e w' => e = .returned (.tuple #[]) ∧ ∃ l', l'.Perm l ∧ l'.Pairwise (fun a b => a.1 ≤ b.1) ∧ Es w' base (.slice p n c) l' ∧ Kept (Value.slice p n c).ownBlock.toList w w' := by
  obtain ⟨p', c', e, h3, h4⟩ := Row.shape h
  cases e
  by_cases h0 : l.length = 0
  · obtain rfl : l = [] := List.eq_nil_of_length_eq_zero h0
    refine (AnyF.slices_SortFunc_none sortE p c _ w).mono fun e w' ⟨he, hw⟩ => ?_
    subst hw
    exact ⟨he, [], .refl _, .nil, h, Kept.refl _ _⟩
  · obtain ⟨g, rfl, h6, h7, -⟩ := Row.pos h (by omega)
    have hH : HoldsK encE 2 w g 0 l.toArray := by
      unfold HoldsK
      rw [flat_ecs]
      exact Row.holdsV h
    have hcon := AnyQ.slices_SortFunc sortE 2 Tryd.isAgg72 Tryd.sizeOf72 encE (fun _ => rfl) (fun x v hv => by simp [encE] at hv; rcases hv with rfl | rfl <;> rfl) (fun x y => Lib.compareInt x.1 y.1) swoE 33 #[] g 0 c l.toArray w (enters_of Tryd.func33 (by kernel_rfl) rfl) (fun _ _ _ _ x y => closureE x y _) hH h7 (by simp; omega)
    refine hcon.mono fun e w' ⟨he, d', k, os, hp, hs, hw⟩ => ?_
    have hsz : d'.size = l.length := by simpa using hp.1
    have hln : d'.toList.length = l.length := by simpa using hsz
    have hperm : d'.toList.Perm l := by
      have q := hp.2.2
      have e1 : d'.extract 0 l.toArray.size = d' := by rw [← hp.1]; exact Array.extract_size
      have e2 : l.toArray.extract 0 l.toArray.size = l.toArray := Array.extract_size
      rw [e1, e2] at q
      simpa using q
    have hup : d'.toList.Pairwise (fun a b => a.1 ≤ b.1) := by
      refine List.pairwise_iff_getElem.2 fun i j hi hj hij => ?_
      have q := hs i j (Nat.zero_le _) hij (by simp at hj; rw [hp.1] at hj; exact hj)
      rw [ltE] at q
      have hi' : i < d'.size := by simpa using hi
      have hj' : j < d'.size := by simpa using hj
      rw [getElem!_pos d' i hi', getElem!_pos d' j hj'] at q
      have := of_decide_eq_false q
      simp only [Array.getElem_toList]
      omega
    have hfl : flatK encE 2 d' = (ecs d'.toList).toArray := by
      have q := flat_ecs d'.toList
      simpa using q
    have hrow : Row w base 2 (.slice (some ⟨g, 0, none⟩) l.length c) l.length (ecs l) := h
    obtain ⟨r1, r2⟩ := Row.sorted hrow (ts := ecs d'.toList) (by rw [ecs_length, ecs_length, hln]) (fun u hu => by
      have : ∀ (m : List (Int × Int)) (u : Value), u ∈ ecs m → u.oneCell' = true := by
        intro m
        induction m with
        | nil => intro u hu; simp [ecs] at hu
        | cons x r ih =>
          intro u hu
          simp [ecs] at hu
          rcases hu with rfl | rfl | hu
          · rfl
          · rfl
          · exact ih u hu
      exact this _ u hu) k os
    have hw' : w' = grow (putRow id (Sort.ahead w k) g 0 (ecs d'.toList).toArray) os := by
      rw [hw]
      unfold sortWorldK putRowK
      rw [hfl]
    rw [← hw'] at r1 r2
    refine ⟨he, d'.toList, hperm, hup, ?_, r2⟩
    unfold Es
    rw [hln]
    exact r1
end Go.Proofs.YtocpagpkpibmaaaDoor

/-
  OWN WORK (by mkppb.py). The landed plain (layer 18): entries, Fold.
-/
namespace Go.Proofs.YtocpagpkpibmaaaDoor
open Go.RowKit Go.Maps
set_option linter.unusedVariables false
set_option linter.unusedSimpArgs false
def iOf3 : Value → Int
  | .int _ q => q
  | _ => 0
/-- what a range over a map of values has met -/
structure Met (l : List (Int × Int)) (left : Lit → Bool) (vis : List (Int × Int)) : Prop where
  nd : vis.Nodup
  mem : ∀ e, e ∈ vis ↔ e ∈ l ∧ left (.int .i64 e.1) = false
theorem Met.start {D : DataW Unit} {l : List (Int × Int)} (hT : Tel D (.int .u64 0) (fV l)) (hi : ∀ e ∈ l, I64 e.1) (hr : Rise l) : Met l (Maps.has D) [] := by
  refine ⟨.nil, fun e => ⟨fun q => by simp at q, fun ⟨h1, h2⟩ => ?_⟩⟩
  rw [hT.has e.1 (hi e h1), fV_isSome, (lookE_some hr (k := e.1) (v := e.2)).2 h1] at h2
  cases h2
theorem Met.step {l : List (Int × Int)} {left : Lit → Bool} {vis : List (Int × Int)} (h : Met l left vis) (hr : Rise l) {x y : Int} (hm : (x, y) ∈ l) (hl : left (.int .i64 x) = true) : Met l (fun z => left z && !z.sameKey (.int .i64 x)) (vis ++ [(x, y)]) := by
  have hn : (x, y) ∉ vis := fun q => by have := ((h.mem _).1 q).2; rw [hl] at this; cases this
  refine ⟨List.nodup_append.2 ⟨h.nd, by simp, fun a ha b hb => by simp at hb; rw [hb]; exact fun e => hn (e ▸ ha)⟩, fun e => ?_⟩
  rw [List.mem_append, h.mem e]
  by_cases q : e.1 = x
  · constructor
    · rintro (⟨h1, h2⟩ | h1)
      · exact ⟨h1, by simp [h2]⟩
      · simp at h1; subst h1; exact ⟨hm, by simp [Lit.sameKey]⟩
    · rintro ⟨h1, -⟩
      exact .inr (by simp; exact hr.eq h1 hm q)
  · have es : (Lit.int .i64 e.1).sameKey (.int .i64 x) = false := Maps.sameKey_ne (fun r => q (by simpa using r))
    constructor
    · rintro (⟨h1, h2⟩ | h1)
      · exact ⟨h1, by simp [h2]⟩
      · simp at h1; rw [h1] at q; exact absurd rfl q
    · rintro ⟨h1, h2⟩
      simp [es] at h2
      exact .inl ⟨h1, h2⟩
theorem Met.done {l : List (Int × Int)} {left : Lit → Bool} {vis : List (Int × Int)} (h : Met l left vis) (hr : Rise l) (hl : ∀ k, left k = false) : vis.Perm l := by
  have nd : l.Nodup := hr.imp (fun {x y} q e => by rw [e] at q; omega)
  exact (List.perm_ext_iff_of_nodup h.nd nd).2 fun e => by rw [h.mem e, hl]; simp
theorem Met.few {l : List (Int × Int)} {left : Lit → Bool} {vis : List (Int × Int)} (h : Met l left vis) : vis.length ≤ l.length := List.Nodup.length_le_of_subset h.nd (fun e he => ((h.mem e).1 he).1)
set_option maxRecDepth 20000 in
set_option maxHeartbeats 6400000 in
theorem qEntries {v : Value} {M : List (Nat × List (Int × Int))} (w : World) (hM : Row w 0 1 v M.length (M.map fun x => .map (some x.1))) (hV : ∀ x ∈ M, Vm w x.1 x.2) (hl : (M.flatMap Prod.snd).length ≤ 3600000000000) : Calls Tryd.prog 17 #[v] w fun e w' => ∃ ve l', e = .returned ve ∧ l'.Perm (M.flatMap Prod.snd) ∧ l'.Pairwise (fun a b => a.1 ≤ b.1) ∧ Es w' w.heap.size ve l' ∧ Kept [] w w' := by
  obtain ⟨pm, cm, em, hncm, hcmm⟩ := hM.shape
  subst em
  obtain ⟨m, hm⟩ : ∃ m, m = M.length := ⟨_, rfl⟩
  rw [← hm] at hM ⊢
  have HM := @hideH _ (And.intro hM (And.intro hV (And.intro hl (And.intro hm (show m ≤ maxLen by rw [hm]; exact Nat.le_trans hncm hcmm)))))
  obtain ⟨infE, hin1, hin2, hin3, hin4⟩ := info_parts3 (show (Tryd.prog.info? 72).map (fun i => (i.zero, i.size, i.bytes)) = some (some (.agg #[.int .i64 0, .int .u64 0]), 2, 16) by kernel_rfl)
  have HIE := @hideH _ (And.intro hin1 (And.intro hin2 (And.intro hin3 hin4)))
  clear hin1 hin2 hin3 hin4
  clear hM hV hl hm hncm hcmm
  go_enter Tryd.func17, Tryd.ntmps17
  go_wp2
  go_loopw [3, 10] (fun vo vi wr => ∃ (i : Nat) (out : List (Int × Int)), i ≤ m ∧ vi = .int .i64 i ∧ (∃ p c, vo = .slice p out.length c) ∧ Hid (out.Perm ((M.take i).flatMap Prod.snd) ∧ Es wr w.heap.size vo out ∧ Kept [] w wr)) (fun _ vi _ => m - (iOf3 vi).toNat)
  case atStart => exact ⟨0, [], Nat.zero_le _, rfl, ⟨none, 0, rfl⟩, by simp, Es.nil _ _, Kept.refl _ _⟩
  case round =>
    obtain ⟨i, out, hi, rfl, ⟨po, co, rfl⟩, hh⟩ := hrel
    obtain ⟨wo, rfl⟩ : ∃ wo, wo = wr := ⟨_, rfl⟩
    by_cases him : i < m
    · have him' : (i : Int) < (m : Int) := by omega
      have hi0 : (0 : Int) ≤ (i : Int) := by omega
      have wi : IntKind.i64.wrap ((i : Int) + 1) = (i : Int) + 1 := wrap_i64_of (by omega) (by have := HM.out.2.2.2.2; unfold maxLen at this; omega)
      obtain ⟨x, hx⟩ : ∃ x, M[i]? = some x := ⟨_, List.getElem?_eq_getElem (by have := HM.out.2.2.2.1; omega)⟩
      obtain ⟨b, l⟩ := x
      have hV := HM.out.2.1 _ (List.mem_of_getElem? hx)
      dsimp only at hV
      have hi64 := hV.i64
      obtain ⟨⟨D, hO, hT, hK⟩, hr⟩ := hV
      have hrow := HM.out.1
      have hMn : M.length = m := HM.out.2.2.2.1.symm
      obtain ⟨gm, rfl, -, -, h8, -⟩ := Row.pos hrow (by omega)
      have cx := hh.out.2.2.cell (h8 i (.map (some b)) (by rw [List.getElem?_map, hx]; rfl)) (by simp)
      have hOo := ownsMap_kept hO hh.out.2.2 (by simp)
      have hbl := hO.lt
      obtain ⟨n, hn⟩ : ∃ n, n = (l.map Prod.fst).length := ⟨_, rfl⟩
      rw [← hn] at hOo
      have htk : (M.take (i + 1)).flatMap Prod.snd = (M.take i).flatMap Prod.snd ++ l := by rw [List.take_add_one, hx]; simp
      have hlen : ((M.take i).flatMap Prod.snd ++ l).length ≤ 3600000000000 := by
        have e : (M.flatMap Prod.snd) = (M.take (i + 1)).flatMap Prod.snd ++ (M.drop (i + 1)).flatMap Prod.snd := by rw [← List.flatMap_append, List.take_append_drop]
        have := HM.out.2.2.1
        rw [e, List.length_append, htk] at this
        omega
      have HL := @hideH _ (And.intro hT (And.intro hr (And.intro hi64 (And.intro htk hlen))))
      have hso := hh.out.2.2.size
      clear hx hO hT hK hr hi64 hrow h8 htk hlen hMn hn
      go_wp2_with (at_range; refine wpList_range_own _ rfl _ 59 rfl 3 49 keyL Tryd.underlying59 _ b n D rfl hOo ?_; intro w0 hrg0 hg0 hs0)
      go_frame
      have k0 : Kept [] wo w0 := (Kept.refl [] wo).grown hg0 (fun k hk => by cases hk)
      have hpo : ∀ z, (Value.slice po out.length co).ownBlock = some z → z < wo.heap.size := fun z hz => (Row.lt hh.out.2.1 z hz).2
      go_loopw [3] (fun vo wr => ∃ (left : Lit → Bool) (cnt : Nat) (vis : List (Int × Int)), (∃ p c, vo = .slice p (out.length + vis.length) c) ∧ Hid (wr.ranges Tryd.prog 3 (plainElem Tryd.prog 49) b wo.heap.size n D left cnt ∧ Met l left vis ∧ Es wr w.heap.size vo (out ++ vis) ∧ Kept [] w wr ∧ (∀ k, left k = true → Maps.has D k = true) ∧ (∀ z, vo.ownBlock = some z → z ≠ wo.heap.size) ∧ wo.heap.size < wr.heap.size)) (fun _ wr => wr.rangeLeft b wo.heap.size)
      case atStart =>
        refine ⟨_, _, [], ⟨po, co, rfl⟩, hrg0, Met.start HL.out.1 HL.out.2.2.1 HL.out.2.1, ?_, hh.out.2.2.then k0, fun k hk => hk, fun z hz => by have := hpo z hz; omega, by omega⟩
        rw [List.append_nil]
        exact hh.out.2.1.kept k0 (by simp)
      case round =>
        clear hrg0 hg0 hs0 k0 hpo
        obtain ⟨left, cnt, vis, ⟨p, c, rfl⟩, h2⟩ := hrel
        have hrg := h2.out.1
        go_wp2_with (at_next; refine wpList_next_ranges_ii _ rfl _ rfl 3 49 .i64 .u64 keyL Tryd.underlying3 Tryd.underlying49 b wo.heap.size n _ _ _ rfl hrg ?_ ?_)
        · intro hc0 hl0
          have HD := @hideH _ (show (out ++ vis).Perm ((M.take (i + 1)).flatMap Prod.snd) by rw [HL.out.2.2.2.1]; exact hh.out.1.append (h2.out.2.1.done HL.out.2.1 hl0))
          clear hc0 hl0 hrg
          go_wp2
          go_roundw
          case rel => exact ⟨i + 1, out ++ vis, by omega, by go_num, ⟨p, c, by rw [List.length_append]⟩, HD.out, h2.out.2.2.1, h2.out.2.2.2.1⟩
          case measure => first | (simp [iOf3]; done) | (simp [iOf3]; omega)
        · intro x y w1 cnt1 hwx hwy hlx hat hrg1 hlt1 hg1 hs1 hen
          have hix : I64 x := i64_wf15 hwx
          have hxm : (x, y) ∈ l := by
            have e1 := HL.out.1.atk x hix
            have e2 := h2.out.2.2.2.2.1 _ hlx
            rw [HL.out.1.has x hix] at e2
            obtain ⟨q, hq⟩ := Option.isSome_iff_exists.1 e2
            rw [hat, hq] at e1
            obtain ⟨v, rfl, hv⟩ := fV_some HL.out.2.1 hq
            simp at e1
            rw [e1]; exact hv
          have mt := h2.out.2.1.step HL.out.2.1 hxm hlx
          have k1 : Kept [] w w1 := h2.out.2.2.2.1.grown hg1 (fun k hk => .inr (by cases hk; omega))
          have k1b : Kept [wo.heap.size] wr w1 := (Kept.refl _ wr).grown hg1 (fun k hk => .inl (by cases hk; simp))
          have e1 := h2.out.2.2.1.kept k1b (fun z hz hz' => h2.out.2.2.2.2.2.1 z hz (by simpa using hz'))
          have hfew : out.length + vis.length < 3600000000000 := by
            have q1 := mt.few
            have q2 := hh.out.1.length_eq
            have q3 := HL.out.2.2.2.2
            rw [List.length_append] at q1 q3
            simp at q1
            omega
          obtain ⟨w7, hw7⟩ : ∃ wx, wx = w1.alloc (.cells #[.int .i64 x, .int .u64 y] 72) := ⟨_, rfl⟩
          have k7 : Kept [] w1 w7 := by rw [hw7]; exact (Kept.refl [] w1).alloc _
          have hsrc := src_ent (P := Tryd.prog) w1 27 72 Tryd.underlying27 x y
          rw [← hw7] at hsrc
          have R7 : Row w7 w.heap.size 2 (.slice p (out.length + vis.length) c) (out.length + vis.length) (ecs (out ++ vis)) := by
            have q := e1.kept k7 (by simp)
            unfold Es at q
            rw [List.length_append] at q
            exact q
          have z7 : w7.heap.size = w1.heap.size + 1 := by rw [hw7, World.size_alloc]
          have HB := @hideH _ (And.intro mt (And.intro k1 (And.intro k7 (And.intro hrg1 (And.intro hlt1 (And.intro z7 (And.intro hs1 hfew)))))))
          obtain ⟨ln, hln⟩ : ∃ ln, ln = out.length + vis.length := ⟨_, rfl⟩
          have HLN := @hideH _ hln
          have HLNb := @hideH _ (show ln ≤ 3600000000000 by omega)
          rw [← hln] at R7 ⊢
          have hba : w.heap.size ≤ w7.heap.size := by have := k1.size; omega
          clear hln mt k1 k1b e1 hfew k7 hrg1 hlt1 hg1 hs1 hxm hat hlx hwx hwy hix z7
          go_wp2_with (at_builtin; (try rw [← hw7]); (try clear hw7); refine wpList_append_row2 rfl (.tmp 21) (.tmp 25) 27 rfl w.heap.size 72 infE (.agg #[.int .i64 0, .int .u64 0]) 2 16 Tryd.underlying27 HIE.out.1 HIE.out.2.1 HIE.out.2.2.1 HIE.out.2.2.2 rfl _ _ _ (by rfl) R7 _ 1 _ (by rfl) hsrc (by have e1 := HLNb.out; omega) (by have e1 := HLNb.out; unfold maxLen; omega) (by have e1 := HLNb.out; omega) hba ?_; intro v' w8 r8 k8 o8; obtain ⟨p8, c8, hv8, -⟩ := Row.shape r8; subst hv8; have HX8 := @hideH _ (And.intro r8 (And.intro k8 o8)); clear r8 k8 o8 R7 hsrc)
          have hown : ∀ z ∈ (Value.slice p ln c).ownBlock.toList, z ≠ wo.heap.size ∧ w.heap.size ≤ z := fun z hz => by
            have q := own_mem.1 hz
            have q' : (Value.slice p (out.length + vis.length) c).ownBlock = some z := by rw [← HLN.out]; exact q
            exact ⟨h2.out.2.2.2.2.2.1 z q', (Row.lt h2.out.2.2.1 z q').1⟩
          have hbw : b < w.heap.size := hbl
          have hrg8 : w8.ranges Tryd.prog 3 (plainElem Tryd.prog 49) b wo.heap.size n D (fun z => left z && !z.sameKey (.int .i64 x)) cnt1 := ranges_kept (ranges_kept HB.out.2.2.2.1 HB.out.2.2.1 (by simp) (by simp)) HX8.out.2.1 (fun q => by have := (hown _ q).2; omega) (fun q => (hown _ q).1 rfl)
          have kw8 : Kept [] w w8 := (HB.out.2.1.then HB.out.2.2.1).trans HX8.out.2.1 (fun z hz => .inr (hown z hz).2)
          have HF := @hideH _ (And.intro hrg8 (And.intro kw8 (show ∀ z, (Value.slice p8 (ln + 1) c8).ownBlock = some z → z ≠ wo.heap.size from fun z hz => by
            rcases HX8.out.2.2 with o | ⟨o, -⟩
            · rw [o] at hz; exact (hown z (own_mem.2 hz)).1
            · rw [o] at hz
              have ez := (Option.some.inj hz).symm
              have s1 := HB.out.2.2.2.2.2.1
              have s2 := HB.out.2.2.2.2.2.2.1
              have s3 := h2.out.2.2.2.2.2.2
              omega)))
          clear hrg8 kw8 hown hbw
          try go_wp2
          go_roundw
          case rel =>
            refine ⟨_, cnt1, vis ++ [(x, y)], ⟨p8, c8, by rw [List.length_append, HLN.out]; first | rfl | (congr 1) ⟩, HF.out.1, HB.out.1, ?_, HF.out.2.1, fun k hk => h2.out.2.2.2.2.1 k (by revert hk; cases left k <;> simp), HF.out.2.2, ?_⟩
            · rw [← List.append_assoc]
              refine Es.snoc (w := w8) (l := out ++ vis) (x := (x, y)) ?_
              rw [List.length_append, ← HLN.out]
              exact HX8.out.1
            · have s0 := HX8.out.2.1.size
              have s1 := HB.out.2.2.2.2.2.1
              have s2 := HB.out.2.2.2.2.2.2.1
              have s3 := h2.out.2.2.2.2.2.2
              omega
          case measure => rw [HF.out.1.left_eq, hrg.left_eq]; exact HB.out.2.2.2.2.1
    · obtain rfl : i = m := by omega
      have hall : (M.take i).flatMap Prod.snd = M.flatMap Prod.snd := by rw [List.take_of_length_le (by have := HM.out.2.2.2.1; omega)]
      have hlen : out.length ≤ 3600000000000 := by have := hh.out.1.length_eq; rw [hall] at this; have := HM.out.2.2.1; omega
      have HQ := @hideH _ (qSortE wo hh.out.2.1 hlen)
      have HA := @hideH _ (show out.Perm (M.flatMap Prod.snd) ∧ Kept [] w wo ∧ ∀ z, (Value.slice po out.length co).ownBlock = some z → w.heap.size ≤ z from ⟨by rw [← hall]; exact hh.out.1, hh.out.2.2, fun z hz => (Row.lt hh.out.2.1 z hz).1⟩)
      clear hall hlen
      go_wp2_with fail
      refine HQ.out.mono ?_
      clear HQ
      rintro e w9 ⟨rfl, l', hp, hu, es, k9⟩
      have HF := @hideH _ (And.intro hp (And.intro hu (And.intro es k9)))
      clear hp hu es k9
      go_wp2
      go_ret
      exact ⟨_, l', by first | rfl | trivial, HF.out.1.trans HA.out.1, HF.out.2.1, HF.out.2.2.1, HA.out.2.1.trans HF.out.2.2.2 (fun z hz => .inr (HA.out.2.2 z (own_mem.1 hz)))⟩
end Go.Proofs.YtocpagpkpibmaaaDoor

/-
  OWN WORK. The landed plain (layer 18): Fold.
-/
namespace Go.Proofs.YtocpagpkpibmaaaDoor
open Go.RowKit Go.Maps
set_option linter.unusedVariables false
set_option linter.unusedSimpArgs false
/-- a rising list is what its members sort to -/
theorem sorted_is {l l' : List (Int × Int)} (hr : Rise l) (hp : l'.Perm l) (hu : l'.Pairwise (fun a b => a.1 ≤ b.1)) : l' = l :=
  hp.eq_of_pairwise (le := fun a b : Int × Int => a.1 ≤ b.1) (fun a b ha hb h1 h2 => hr.eq (hp.mem_iff.1 ha) hb (by omega)) hu (hr.imp fun q => by omega)
theorem row_one (w : World) (t : TypeId) (b : Nat) : Row (w.alloc (.cells #[.map (some b)] t)) 0 1 (.slice (some ⟨w.heap.size, 0, none⟩) 1 1) 1 [.map (some b)] := by
  have hB := Blk.new w t [.map (some b)]
  refine ⟨rfl, by simp [Value.oneCell'], some ⟨w.heap.size, 0, none⟩, 1, rfl, Nat.le_refl _, by simp [maxLen], .inr ⟨w.heap.size, rfl, Nat.zero_le _, by rw [World.size_alloc]; omega, fun j u hj => hB.cell hj, fun j hj => ?_⟩⟩
  have e : j = 0 := by omega
  subst e
  exact ⟨by rw [hB.cell (j := 0) rfl]; rfl, hB.free 0⟩
set_option maxRecDepth 20000 in
set_option maxHeartbeats 6400000 in
theorem fFold (v : Value) (D : List (List Chg × Value)) (w : World) (h : Ll w v D) (hlen : (D.map Prod.fst).flatten.length ≤ 3600000000000) (hok : ∀ d ∈ D, ∀ x ∈ d.1, I64 x.key ∧ u64 x.val) : Calls Tryd.prog 6 #[v] w fun e w' => ∃ ve, e = .returned ve ∧ Es w' w.heap.size ve (foldL (D.map Prod.fst)) ∧ Kept [] w w' := by
  obtain ⟨pv, cv, ev, hncv, hcmv⟩ := h.1.shape
  subst ev
  obtain ⟨m, hm⟩ : ∃ m, m = D.length := ⟨_, rfl⟩
  rw [← hm]
  obtain ⟨w1, hw1⟩ : ∃ wx, wx = w.alloc (.map #[] 0) := ⟨_, rfl⟩
  have k1 : Kept [] w w1 := by rw [hw1]; exact (Kept.refl [] w).alloc _
  have v1 : Vm w1 w.heap.size [] := by rw [hw1]; exact Vm.made w
  have hmk : (Instr.makeMap 59 none).run Tryd.prog w = .ok (.map (some w.heap.size)) w1 := by rw [hw1]; rfl
  have HD := @hideH _ (And.intro h (And.intro hlen (And.intro hok (And.intro hm (show m ≤ maxLen by rw [hm]; exact Nat.le_trans hncv hcmv)))))
  have H1 := @hideH _ (And.intro k1 v1)
  clear h hlen hok hncv hcmv k1 v1 hw1
  clear hm
  go_enter Tryd.func6, Tryd.ntmps6
  go_wp2
  go_loopw [11] (fun vi wr => ∃ i : Nat, i ≤ m ∧ vi = .int .i64 i ∧ Hid (Vm wr w.heap.size (foldL ((D.map Prod.fst).take i)) ∧ Kept [] w wr)) (fun vi _ => m - (iOf3 vi).toNat)
  case atStart => exact ⟨0, Nat.zero_le _, rfl, H1.out.2, H1.out.1⟩
  case round =>
    obtain ⟨i, hi, rfl, hh⟩ := hrel
    obtain ⟨wo, rfl⟩ : ∃ wo, wo = wr := ⟨_, rfl⟩
    by_cases him : i < m
    · have him' : (i : Int) < (m : Int) := by omega
      have hi0 : (0 : Int) ≤ (i : Int) := by omega
      have wi : IntKind.i64.wrap ((i : Int) + 1) = (i : Int) + 1 := wrap_i64_of (by omega) (by have := HD.out.2.2.2.2; unfold maxLen at this; omega)
      obtain ⟨d, hd⟩ : ∃ d, D[i]? = some d := ⟨_, List.getElem?_eq_getElem (by have := HD.out.2.2.2.1; omega)⟩
      obtain ⟨gl, hpv, cd0⟩ := HD.out.1.at hd
      subst hpv
      have hcs := HD.out.1.2 d (List.mem_of_getElem? hd)
      have hdi : (D.map Prod.fst)[i]? = some d.1 := by rw [List.getElem?_map, hd]; rfl
      obtain ⟨l, vl⟩ := d
      dsimp only at hcs cd0 hdi
      obtain ⟨pl, cl, evl, hncl, hcml⟩ := hcs.shape
      subst evl
      obtain ⟨n, hn⟩ : ∃ n, n = l.length := ⟨_, rfl⟩
      have cdo := hh.out.2.cell cd0 (by simp)
      rw [← hn] at cdo
      have HC := @hideH _ (And.intro hcs (And.intro hn (And.intro hdi (And.intro (List.mem_of_getElem? hd) (show n ≤ maxLen by rw [hn]; exact Nat.le_trans hncl hcml)))))
      clear hd hcs hdi hncl hcml cd0 hn
      go_wp2
      go_loopw [17] (fun vj wr => ∃ j : Nat, j ≤ n ∧ vj = .int .i64 j ∧ Hid (Vm wr w.heap.size (foldE (foldL ((D.map Prod.fst).take i)) (l.take j)) ∧ Kept [] w wr)) (fun vj _ => n - (iOf3 vj).toNat)
      case atStart => exact ⟨0, Nat.zero_le _, rfl, hh.out.1, hh.out.2⟩
      case round =>
        obtain ⟨j, hj, rfl, h2⟩ := hrel
        by_cases hjn : j < n
        · have hjn' : (j : Int) < (n : Int) := by omega
          have hj0 : (0 : Int) ≤ (j : Int) := by omega
          have wj : IntKind.i64.wrap ((j : Int) + 1) = (j : Int) + 1 := wrap_i64_of (by omega) (by have := HC.out.2.2.2.2; unfold maxLen at this; omega)
          obtain ⟨x, hx⟩ : ∃ x, l[j]? = some x := ⟨_, List.getElem?_eq_getElem (by have := HC.out.2.1; omega)⟩
          obtain ⟨g3, hpl, -, -, a0, a1, a2⟩ := HC.out.1.at hx
          subst hpl
          have b0 := h2.out.2.cell a0 (by simp)
          have b1 := h2.out.2.cell a1 (by simp)
          have b2 := h2.out.2.cell a2 (by simp)
          obtain ⟨wb, hwb⟩ : ∃ wx, wx = wr.alloc (.cells #[.int .i64 x.key, .int .u64 x.val, .bool x.gone] 56) := ⟨_, rfl⟩
          have kb : Kept [] wr wb := by rw [hwb]; exact (Kept.refl [] wr).alloc _
          have Bb : Blk wb wr.heap.size 56 [.int .i64 x.key, .int .u64 x.val, .bool x.gone] := by rw [hwb]; exact Blk.new wr _ _
          have hxok := HD.out.2.2.1 _ HC.out.2.2.2.1 x (List.mem_of_getElem? hx)
          have hbd := fold_bound (j := j) HC.out.2.2.1
          have vb := h2.out.1.kept kb (by simp)
          have HQ := @hideH _ (qLay x wb vb (by have := HD.out.2.1; omega) hxok.1 hxok.2)
          have HX := @hideH _ (And.intro (foldE_take (o := foldL ((D.map Prod.fst).take i)) hx) (And.intro kb h2.out.1.lt))
          have y0 := Bb.cell (j := 0) rfl
          have y1 := Bb.cell (j := 1) rfl
          have y2 := Bb.cell (j := 2) rfl
          clear hx a0 a1 a2 Bb kb hxok hbd vb
          go_upto_region 8 with fail
          rw [← hwb]
          clear hwb b0 b1 b2
          go_wp2_with fail
          refine HQ.out.mono ?_
          clear HQ
          rintro e wc ⟨rfl, vc, kc⟩
          have HV := @hideH _ (show Vm wc w.heap.size (foldE (foldL ((D.map Prod.fst).take i)) (l.take (j + 1))) ∧ Kept [] w wc from ⟨by rw [HX.out.1]; exact vc, (h2.out.2.then HX.out.2.1).trans kc (fun z hz => .inr (by simp at hz; omega))⟩)
          clear vc kc
          go_wp2
          go_roundw
          case rel => exact ⟨j + 1, by omega, by go_num, HV.out⟩
          case measure => first | (simp [iOf3]; done) | (simp [iOf3]; omega)
        · obtain rfl : j = n := by omega
          have HE := @hideH _ (show Vm wr w.heap.size (foldL ((D.map Prod.fst).take (i + 1))) by
            rw [foldL_take HC.out.2.2.1]
            have e : l.take j = l := List.take_of_length_le (by have := HC.out.2.1; omega)
            have q := h2.out.1
            rw [e] at q
            exact q)
          go_wp2
          go_roundw
          case rel => exact ⟨i + 1, by omega, by go_num, HE.out, h2.out.2⟩
          case measure => first | (simp [iOf3]; done) | (simp [iOf3]; omega)
    · obtain rfl : i = m := by omega
      have hall : (D.map Prod.fst).take i = D.map Prod.fst := List.take_of_length_le (by have := HD.out.2.2.2.1; rw [List.length_map]; omega)
      have hv := hh.out.1
      rw [hall] at hv
      obtain ⟨w7, hw7⟩ : ∃ wx, wx = wo.alloc (.cells #[.map (some w.heap.size)] 59) := ⟨_, rfl⟩
      have k7 : Kept [] wo w7 := by rw [hw7]; exact (Kept.refl [] wo).alloc _
      have r7 := row_one wo 59 w.heap.size
      rw [← hw7] at r7
      have hfl := foldL_len (D.map Prod.fst) []
      have HQ := @hideH _ (qEntries (v := .slice (some ⟨wo.heap.size, 0, none⟩) 1 1) (M := [(w.heap.size, foldL (D.map Prod.fst))]) w7 r7 (fun x hx => by simp at hx; subst hx; exact hv.kept k7 (by simp)) (by
        have e : ([(w.heap.size, foldL (D.map Prod.fst))] : List (Nat × List (Int × Int))).flatMap Prod.snd = foldL (D.map Prod.fst) := by simp
        rw [e]
        have q1 := HD.out.2.1
        have q2 : (foldL (D.map Prod.fst)).length ≤ (D.map Prod.fst).flatten.length := by unfold foldL; simpa using hfl
        omega))
      have HK := @hideH _ (hh.out.2.then k7)
      clear hall hv k7 r7 hfl
      go_wp2_with fail
      rw [← hw7]
      clear hw7
      refine HQ.out.mono ?_
      clear HQ
      rintro e w9 ⟨ve, l', rfl, hp, hu, es, k9⟩
      have HF := @hideH _ (And.intro hp (And.intro hu (And.intro es k9)))
      obtain ⟨pe, ce, eve, -, -⟩ := es.shape
      subst eve
      clear hp hu es k9
      go_wp2
      go_ret
      refine ⟨_, by first | rfl | trivial, ?_, HK.out.then HF.out.2.2.2⟩
      have hp2 : l'.Perm (foldL (D.map Prod.fst)) := by have q := HF.out.1; simpa using q
      rw [← sorted_is (foldL_rise _) hp2 HF.out.2.1]
      exact HF.out.2.2.1.mono HK.out.size
end Go.Proofs.YtocpagpkpibmaaaDoor

/-
  OWN WORK. The landed plain (layer 18): Entries, Done.
-/
namespace Go.Proofs.YtocpagpkpibmaaaDoor
open Go.RowKit Go.Maps
set_option linter.unusedVariables false
set_option linter.unusedSimpArgs false
theorem pnFold : PnFold := ⟨fFold⟩
/-- the pages' entries together are all entries -/
theorem pages_perm {c : Cf} (hc : mayC c) {L : List (Int × Int)} (hr : Rise L) : ((List.range c.pages.toNat).flatMap fun i : Nat => onP c (i : Int) L).Perm L := by
  have ndL : ∀ {l : List (Int × Int)}, Rise l → l.Nodup := fun {l} hl => hl.imp (fun {x y} q e => by rw [e] at q; omega)
  have nd : ∀ n : Nat, ((List.range n).flatMap fun i : Nat => onP c (i : Int) L).Nodup := by
    intro n
    induction n with
    | zero => simp
    | succ n ih =>
      rw [List.range_succ, List.flatMap_append]
      refine List.nodup_append.2 ⟨ih, by simpa using ndL (onP_rise (c := c) (p := (n : Int)) hr), fun a ha b hb e => ?_⟩
      obtain ⟨i, hi, ha⟩ := List.mem_flatMap.1 ha
      have hi' := List.mem_range.1 hi
      simp at hb
      have h1 := (mem_onP.1 ha).2
      have h2 := (mem_onP.1 hb).2
      rw [e, h2] at h1
      omega
  refine (List.perm_ext_iff_of_nodup (nd _) (ndL hr)).2 fun e => ?_
  rw [List.mem_flatMap]
  constructor
  · rintro ⟨i, -, h⟩
    exact (mem_onP.1 h).1
  · intro h
    have h0 := hc.1
    have h1 := Int.emod_nonneg e.1 (show c.pages ≠ 0 by omega)
    have h2 := Int.emod_lt_of_pos e.1 (show 0 < c.pages by omega)
    refine ⟨(e.1 % c.pages).toNat, List.mem_range.2 (by omega), mem_onP.2 ⟨h, by omega⟩⟩
end Go.Proofs.YtocpagpkpibmaaaDoor

/-
  OWN WORK. A row with a condition and a laid variable: out of the contract.
-/
namespace Go
open Go.ChangeShapes
section
variable {H : Type} {enc : TypeId × Value → H}
theorem ownReturns_of_cond_and {a : Assume} {C : Checked} {os : Os} {f : FuncId} {fn : Func} {s : OpenSpec} {k : (H : Type) → List (DataW H) → Bool} (hk : s.cond = some k) {F : Stop.Interp} {conds : List PathCond} {apart fresh handsOn again : Bool} {X : World → Array Value → Prop}
    (hX : ∀ (w w' : World) (args : Array Value), w.heap = w'.heap → X w args → X w' args)
    (own : ownKnob C.prog.godebug = none) (started : os.Started) (noInit : C.prog.inits.idxOf? f = none) (hfn : C.prog.funcs[f]? = some fn)
    (witness : ∃ (w : World) (tape : Tape) (i : Input), w.os = os ∧ (w.forCall tape i).Shaped C.prog ∧ i.vars = [] ∧ Input.okWide C.prog (w.forCall tape i) .any w.heap.size f i ∧
      ((s.pre enc C.prog fn conds apart (w.forCall tape i).memory i.args ∧ X (w.forCall tape i).memory i.args) ∧ sizedMet enc C.prog fn s apart (w.forCall tape i).memory i.args) ∧ a.holds C.prog (lone (Frame.enter C.prog f i.args .normal) [] (w.forCall tape i)))
    (contract : ∀ (W : World) (base : Nat) (args : Array Value) (ds gs : List (DataW H)) (before : List MemPlace),
      (∀ (j : Nat) t v, fn.params[j]? = some t → args[j]? = some v → Value.okWide C.prog W .any base t v) →
      DataW.Whole enc C.prog fn.params.toList s.vars apart W args.toList ds gs before → k H (ds ++ gs) = true → X W args →
      Calls C.prog f args W fun e W' => ∃ v, e = .returned v ∧ (s.at F).post enc C.prog fn apart fresh handsOn again W args v W') :
    ReturnsInHanded a C os f .any (fun w args => (s.pre enc C.prog fn conds apart w args ∧ X w args) ∧ sizedMet enc C.prog fn s apart w args) ((s.at F).post enc C.prog fn apart fresh handsOn again) := by
  refine returnsInHanded_of_calls own started noInit witness ?_
  intro w tape i _ _ _ hok hpre hholds
  obtain ⟨_, _, _, fn', hfn', _, _, _, _, hval⟩ := hok
  have e : fn' = fn := Option.some.inj (hfn'.symm.trans hfn)
  subst e
  obtain ⟨⟨hp, hx⟩, hz⟩ := hpre
  obtain ⟨ds, gs, before, hw, hc, hkk⟩ := (OpenSpec.pre_some hk conds apart _ _).1 hp
  have hw' := DataW.Whole.of_heap (w' := w.forCall tape i) (by rfl) hw
  refine (contract (w.forCall tape i) w.heap.size i.args ds gs before hval hw' hkk (hX _ _ _ (by rfl) hx)).mono fun e W' ⟨v, he, hp⟩ => ?_
  subst he
  exact ChangeSpec.post_blind hp
theorem ownWitness_at {C : Checked} {os : Os} {f : FuncId} {fn : Func} {s : OpenSpec} {k : (H : Type) → List (DataW H) → Bool} (hk : s.cond = some k) {conds : List PathCond} {apart : Bool} {X : World → Array Value → Prop} (modest : Bool) (w0 : World) (args : Array Value) (fuel : Nat) (hos : w0.os = os)
    (hv : (w0.forCall (fun _ _ => 0) ⟨#[], args, []⟩).variablesB C.prog = true)
    (hr : ((w0.forCall (fun _ _ => 0) ⟨#[], args, []⟩).heap.toList.drop C.prog.globals.size).take ((begin C.prog (fun _ _ => 0) default).world.heap.size - C.prog.globals.size) =
      (begin C.prog (fun _ _ => 0) default).world.heap.toList.drop C.prog.globals.size)
    (hok : Input.okWideB C.prog (w0.forCall (fun _ _ => 0) ⟨#[], args, []⟩) f ⟨#[], args, []⟩ = true)
    {x : List (DataW H) × List (DataW H) × List MemPlace} (hx : DataW.whole enc C.prog (w0.forCall (fun _ _ => 0) ⟨#[], args, []⟩).memory fn.params.toList s.vars apart args.toList fuel = some x)
    (hconds : conds.all (PathCond.test C.prog ⟨fn.params.toList, x.1, s.bare.plain.varTypes C.prog, x.2.1⟩) = true) (hkk : k H (x.1 ++ x.2.1) = true)
    (hsz : s.bare.sizedB enc C.prog fn apart (w0.forCall (fun _ _ => 0) ⟨#[], args, []⟩).memory args fuel = true)
    (hX : X (w0.forCall (fun _ _ => 0) ⟨#[], args, []⟩).memory args) :
    ∃ (w : World) (tape : Tape) (i : Input), w.os = os ∧ (w.forCall tape i).Shaped C.prog ∧ i.vars = [] ∧ Input.okWide C.prog (w.forCall tape i) .any w.heap.size f i ∧
      ((s.pre enc C.prog fn conds apart (w.forCall tape i).memory i.args ∧ X (w.forCall tape i).memory i.args) ∧ sizedMet enc C.prog fn s apart (w.forCall tape i).memory i.args) ∧ ({ modest := modest } : Assume).holds C.prog (lone (Frame.enter C.prog f i.args .normal) [] (w.forCall tape i)) :=
  ⟨w0, fun _ _ => 0, ⟨#[], args, []⟩, hos, World.shaped_of_B hv hr, (Input.okWide_of_okWideB (base := 0) hok).1, (Input.okWide_of_okWideB hok).2,
    ⟨⟨(OpenSpec.pre_some hk conds apart _ _).2 ⟨x.1, x.2.1, x.2.2, DataW.Whole_of_whole hx, hconds, hkk⟩, hX⟩, sizedMet_of_sizedB hsz⟩, by
    simp only [Assume.holds]
    exact ⟨by simp, by simp, fun _ => Modest.zero, by simp, by simp⟩⟩
end
end Go

/-
  OWN WORK. THE STATEMENT, out of the walk.
-/
namespace Go.Proofs.YtocpagpkpibmaaaDoor.plainFolds
open Go.ChangeShapes Go.WideShapes Go.ChangeAt Go.RowKit
set_option linter.unusedVariables false
set_option maxRecDepth 100000 in
theorem contract (H : Type) (enc : TypeId × Value → H) (W : World) (base : Nat) (args : Array Value) (ds gs : List (DataW H)) (before : List MemPlace)
    (hval : ∀ (j : Nat) t v, Tryd.f3.params[j]? = some t → args[j]? = some v → Value.okWide Tryd.prog W .any base t v)
    (hW : DataW.Whole enc Tryd.prog Tryd.f3.params.toList Rows.plainFoldsSpec.vars false W args.toList ds gs before) (hk : Rows.uptoSmall H (ds ++ gs) = true) (hv : Vr W) :
    Calls Tryd.prog 3 args W fun e W' => ∃ v, e = .returned v ∧ Rows.plainFoldsSpec.post enc Tryd.prog Tryd.f3 false true false false W args v W' := by
  have hW' := hW
  obtain ⟨p, q, hA0, hV, rfl, hfz, hnd⟩ := hW
  have hA : DataW.TrodAll enc Tryd.prog W 0 (fun _ => true) true Tryd.f3.params.toList args.toList ds p := hA0
  rw [Tryd.params3] at hA hval
  obtain ⟨v0, vs0, d0, ds0, p0, q0, hargs, rfl, rfl, h0, r0⟩ := trodAll_cons hA
  obtain ⟨rfl, rfl, rfl⟩ := trodAll_nil r0
  obtain rfl : args = #[v0] := by cases args; simp_all
  obtain ⟨rfl, rfl⟩ := trodVars_none hV
  obtain ⟨ao0, len0, cap0, rfl⟩ := okWide_slice Tryd.underlying22 (hval 0 22 v0 rfl rfl)
  have lt0 : ∀ x ∈ p0, x.block < W.heap.size := by obtain ⟨m, hm⟩ := h0; exact DataW.trod_lt m _ _ _ hm
  obtain ⟨l0, B0, b0⟩ := li_open Tryd.underlying22 (by kernel_rfl) Tryd.underlying53 Tryd.underlying55 (by kernel_rfl) ⟨rfl, rfl, rfl⟩ ⟨by kernel_rfl, by kernel_rfl, by kernel_rfl⟩ ⟨by kernel_rfl, by kernel_rfl, by kernel_rfl⟩ h0
  clear hA0
  have hbulk : Rows.uptoBulkAll _ ≤ 1048576 := of_decide_eq_true hk
  simp only [List.append_nil, Rows.uptoBulkAll] at hbulk
  have szl0 : l0.flatten.length + l0.length ≤ 1048576 := by omega
  refine (plainFolds_walk pnOps pnFold _ l0 W hv B0 szl0 (pnOps.vlt hv 0 (by simp))).mono fun e W' ⟨he, kp⟩ => ?_
  subst he
  have bel := kp.below
  exact ⟨_, rfl, _, _, _, [], _, [], hW', trodAll_mk1 (shut_bool Tryd.underlying4 _), (trodAll_cons_mk (Below.trod laidOut (by kernel_rfl) (of_decide_eq_true (by kernel_rfl)) h0 bel lt0) trodAll_mk0), rfl, bel.frame _, fun h => by cases h⟩

set_option maxRecDepth 100000 in
theorem lifted (os : Os) (started : os.Started) (H : Type) (enc : TypeId × Value → H) (F : Stop.Interp) :
    ReturnsInHanded {} Tryd.checked os 3 .any (fun w args => ((Rows.OpenSpec.upto Rows.plainFoldsSpec).pre enc Tryd.prog Tryd.f3 [] false w args ∧ laidMetH Tryd.prog laidL w) ∧ sizedMet enc Tryd.prog Tryd.f3 (Rows.OpenSpec.upto Rows.plainFoldsSpec) false w args)
      (((Rows.OpenSpec.upto Rows.plainFoldsSpec).at F).post enc Tryd.prog Tryd.f3 false true false false) := by
  refine ownReturns_of_cond_and (C := Tryd.checked) (s := (Rows.OpenSpec.upto Rows.plainFoldsSpec)) (k := Rows.uptoSmall) rfl (X := fun w _ => laidMetH Tryd.prog laidL w) (fun _ _ _ hh h => h.of_heap hh) own started (by kernel_rfl) Tryd.func3
    (ownWitness_at (enc := enc) (C := Tryd.checked) (os := os) (s := (Rows.OpenSpec.upto Rows.plainFoldsSpec)) (k := Rows.uptoSmall) rfl (X := fun w _ => laidMetH Tryd.prog laidL w) false (laidWorld os) #[.slice none 0 0] 8 rfl (by kernel_rfl) (by kernel_rfl) (by kernel_rfl) (x := ([.nil], [], [])) (by kernel_rfl) rfl (by kernel_rfl) (by kernel_rfl) (laidWorld_met os _)) ?_
  intro W base args ds gs before hval hW hk hL
  exact contract H enc W base args ds gs before hval hW hk (vr_of_laid hL)

theorem proved : Rows.PlainFoldsUptoSaid :=
  OpenClaim.holds_of_cond 3 Tryd.f3 rfl rfl rfl rfl rfl rfl rfl ⟨rfl, rfl, rfl, rfl, rfl⟩ rfl rfl rfl rfl rfl (by kernel_rfl) Tryd.func3 (by kernel_rfl)
    (of_decide_eq_true (by kernel_rfl)) (by unfold Func.isWrapper; first | (rw [if_pos (by decide +kernel)]; kernel_rfl) | (rw [if_neg (by decide +kernel)]; exact ⟨rfl, rfl⟩))
    (fun os started H enc _ F => lifted os started H enc F)

theorem card : Rows.PlainFoldsUptoCardSaid :=
  Claim7.holds_tied_plain_at .later [] [.handle] true Rows.plainFoldsUptoCard.stood.harness true
    proved (fun _ h => by cases h) (by kernel_rfl) (fun _ h => by cases h) plainFoldsUpto_row_tie rfl ⟨rfl, rfl⟩ (by kernel_rfl) rfl
    (fun f fn hf hfn => by
      obtain rfl : f = 3 := Option.some.inj ((show Tryd.prog.funcNamed "tidemark/tidemarklaw18.PlainFolds" = some 3 by kernel_rfl).symm.trans hf) |>.symm
      obtain rfl : fn = Tryd.f3 := (Option.some.inj (Tryd.func3.symm.trans hfn)).symm
      exact ⟨by kernel_rfl, fun j t ht => by
        rw [Tryd.params3] at ht
        rcases j with _ | j
        · obtain rfl : t = 22 := by simpa using ht.symm
          exact (show Tryd.prog.wantsStandIn 22 = false by kernel_rfl)
        · simp at ht⟩)
    (by kernel_rfl)
#print axioms card
end Go.Proofs.YtocpagpkpibmaaaDoor.plainFolds

