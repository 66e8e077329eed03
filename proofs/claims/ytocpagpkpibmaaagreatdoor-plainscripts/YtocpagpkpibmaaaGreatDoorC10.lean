import Derived.Shelf.SlSortCmp.NoneTotal
import Derived.Sort.OwnSortedInts
import Derived.Test.YtocpagpkpibmaaaGreatDoorRows
import Derived.LaidLaws
import Derived.LaidHandle
import Derived.Stop.Joined
import Derived.JoinedOf
import Derived.ChangeVars
import Derived.Test.YtocpagpkpibmaaaGreatDoorC9
/-
  OWN WORK. The landed plain (layer 18) in plain words: what lists of changes leave, as a rising list of keys and values; what a key has there; how many there are.
-/
namespace Go.Proofs.YtocpagpkpibmaaaGreatDoor
set_option linter.unusedVariables false

def Rise (l : List (Int × Int)) : Prop := l.Pairwise fun a b => a.1 < b.1
/-- what a change does to the entries, told by membership -/
def laid (x : Chg) (l : List (Int × Int)) : List (Int × Int) := l.filter (fun e => e.1 != x.key)
theorem layE_true (x : Chg) : ∀ l : List (Int × Int), layE x true l = laid x l
  | [] => by simp [layE, laid]
  | e :: r => by
    have ih := layE_true x r
    unfold layE
    simp only [Bool.true_eq_false, false_and, if_false, List.nil_append, Bool.true_or, ih]
    by_cases c : e.1 = x.key
    · simp [laid, c]
    · simp [laid, c]
theorem layE_mem (x : Chg) : ∀ (l : List (Int × Int)), Rise l → (∀ e, e ∈ layE x false l ↔ (e = (x.key, x.val) ∨ (e ∈ l ∧ e.1 ≠ x.key))) ∧ Rise (layE x false l)
  | [], _ => by simp [layE, Rise]
  | e :: r, h => by
    obtain ⟨h1, h2⟩ := List.pairwise_cons.1 h
    by_cases c : x.key ≤ e.1
    · have q : layE x false (e :: r) = (x.key, x.val) :: laid x (e :: r) := by
        rw [← layE_true]
        unfold layE
        simp [c]
      rw [q]
      refine ⟨fun y => by simp [laid], List.pairwise_cons.2 ⟨fun y hy => ?_, h.sublist List.filter_sublist⟩⟩
      obtain ⟨h3, h4⟩ := List.mem_filter.1 hy
      have hne : y.1 ≠ x.key := by simpa using h4
      rcases List.mem_cons.1 h3 with rfl | h3
      · show x.key < y.1; omega
      · have := h1 y h3; show x.key < y.1; omega
    · have q : layE x false (e :: r) = e :: layE x false r := by
        conv => lhs; unfold layE
        have c2 : ¬ e.1 = x.key := by omega
        simp [c, c2]
      obtain ⟨i1, i2⟩ := layE_mem x r h2
      rw [q]
      refine ⟨fun y => ?_, List.pairwise_cons.2 ⟨fun y hy => ?_, i2⟩⟩
      · rw [List.mem_cons, i1, List.mem_cons]
        constructor
        · rintro (rfl | rfl | ⟨h3, h4⟩)
          · exact .inr ⟨.inl rfl, by omega⟩
          · exact .inl rfl
          · exact .inr ⟨.inr h3, h4⟩
        · rintro (rfl | ⟨rfl | h3, h4⟩)
          · exact .inr (.inl rfl)
          · exact .inl rfl
          · exact .inr (.inr ⟨h3, h4⟩)
      · rcases (i1 y).1 hy with rfl | ⟨h3, -⟩
        · show e.1 < x.key; omega
        · exact h1 y h3
theorem lay_mem (x : Chg) {l : List (Int × Int)} (h : Rise l) : (∀ e, e ∈ layE x x.gone l ↔ ((x.gone = false ∧ e = (x.key, x.val)) ∨ (e ∈ l ∧ e.1 ≠ x.key))) ∧ Rise (layE x x.gone l) := by
  cases hg : x.gone with
  | true =>
    rw [layE_true]
    exact ⟨fun e => by simp [laid], h.sublist List.filter_sublist⟩
  | false =>
    obtain ⟨h1, h2⟩ := layE_mem x l h
    exact ⟨fun e => by rw [h1]; simp, h2⟩
theorem foldE_rise : ∀ (l : List Chg) {o : List (Int × Int)}, Rise o → Rise (foldE o l)
  | [], o, h => h
  | x :: l, o, h => foldE_rise l (lay_mem x h).2
theorem foldL_eq (ls : List (List Chg)) : foldL ls = foldE [] ls.flatten := by
  have : ∀ (ls : List (List Chg)) (o : List (Int × Int)), ls.foldl foldE o = foldE o ls.flatten := by
    intro ls
    induction ls with
    | nil => intro o; rfl
    | cons l r ih => intro o; rw [List.foldl_cons, ih, List.flatten_cons]; unfold foldE; rw [List.foldl_append]
  exact this ls []
theorem foldL_rise (ls : List (List Chg)) : Rise (foldL ls) := by rw [foldL_eq]; exact foldE_rise _ .nil
theorem foldE_snoc (o : List (Int × Int)) (l : List Chg) (x : Chg) : foldE o (l ++ [x]) = layE x x.gone (foldE o l) := by unfold foldE; rw [List.foldl_append]; rfl
theorem Rise.eq {l : List (Int × Int)} (h : Rise l) {a b : Int × Int} (ha : a ∈ l) (hb : b ∈ l) (e : a.1 = b.1) : a = b := by
  induction l with
  | nil => simp at ha
  | cons x r ih =>
    obtain ⟨h1, h2⟩ := List.pairwise_cons.1 h
    rcases List.mem_cons.1 ha with ea | ha'
    · rcases List.mem_cons.1 hb with eb | hb'
      · rw [ea, eb]
      · have := h1 b hb'; rw [ea] at e; omega
    · rcases List.mem_cons.1 hb with eb | hb'
      · have := h1 a ha'; rw [eb] at e; omega
      · exact ih h2 ha' hb'
/-- rising lists with the same members are one -/
theorem Rise.ext {a b : List (Int × Int)} (ha : Rise a) (hb : Rise b) (h : ∀ e, e ∈ a ↔ e ∈ b) : a = b := by
  have nd : ∀ {l : List (Int × Int)}, Rise l → l.Nodup := fun {l} hl => hl.imp (fun {x y} q e => by rw [e] at q; omega)
  exact ((List.perm_ext_iff_of_nodup (nd ha) (nd hb)).2 h).eq_of_pairwise (le := fun a b : Int × Int => a.1 ≤ b.1) (fun x y hx hy h1 h2 => ha.eq hx ((h y).2 hy) (by omega)) (ha.imp fun q => by omega) (hb.imp fun q => by omega)
theorem Rise.nodup {l : List (Int × Int)} (hl : Rise l) : (l.map Prod.fst).Nodup := List.pairwise_map.2 (hl.imp (fun {x y} q e => by omega))
theorem Rise.filter {l : List (Int × Int)} (hl : Rise l) (p : Int × Int → Bool) : Rise (l.filter p) := hl.sublist List.filter_sublist
/-- what a key has -/
def lookE (l : List (Int × Int)) (k : Int) : Option Int := (l.find? fun e => e.1 == k).map Prod.snd
theorem lookE_some {l : List (Int × Int)} (hl : Rise l) {k v : Int} : lookE l k = some v ↔ (k, v) ∈ l := by
  unfold lookE
  constructor
  · intro h
    obtain ⟨e, h1, rfl⟩ := Option.map_eq_some_iff.1 h
    have h2 := List.mem_of_find?_eq_some h1
    have h3 : e.1 = k := by simpa using List.find?_some h1
    rw [← h3]; exact h2
  · intro h
    cases hf : l.find? fun e => e.1 == k with
    | none => have := List.find?_eq_none.1 hf _ h; simp at this
    | some e =>
      have h2 := List.mem_of_find?_eq_some hf
      have h3 : e.1 = k := by simpa using List.find?_some hf
      have := hl.eq h2 h h3
      rw [this]; rfl
theorem lookE_none {l : List (Int × Int)} {k : Int} : lookE l k = none ↔ ∀ e ∈ l, e.1 ≠ k := by
  unfold lookE
  rw [Option.map_eq_none_iff, List.find?_eq_none]
  simp
theorem lookE_lay {x : Chg} {l : List (Int × Int)} (hl : Rise l) (k : Int) : lookE (layE x x.gone l) k = if k = x.key then (if x.gone = true then none else some x.val) else lookE l k := by
  obtain ⟨h1, h2⟩ := lay_mem x hl
  by_cases c : k = x.key
  · rw [if_pos c]
    cases hg : x.gone with
    | true =>
      rw [hg] at h1
      rw [if_pos rfl, lookE_none]
      intro e he q
      rcases (h1 e).1 he with ⟨h, -⟩ | ⟨-, h⟩
      · cases h
      · exact h (by rw [q, c])
    | false =>
      rw [hg] at h1 h2
      rw [if_neg (by decide), lookE_some h2, h1]
      exact .inl ⟨rfl, by rw [c]⟩
  · rw [if_neg c]
    cases hb : lookE l k with
    | none =>
      rw [lookE_none] at hb ⊢
      intro e he
      rcases (h1 e).1 he with ⟨-, h⟩ | ⟨h, -⟩
      · rw [h]; exact fun q => c q.symm
      · exact hb e h
    | some v =>
      rw [lookE_some hl] at hb
      rw [lookE_some h2, h1]
      exact .inr ⟨hb, c⟩
/-- a value and whether it is there, of what a key has -/
def pairO (o : Option Int) : Int × Bool := match o with
  | none => (0, false)
  | some v => (v, true)
theorem shut_pairO (o : Option Int) : shutV (pairO o) = pairO o := by cases o <;> rfl
theorem stepV_pair (key : Int) (o : Option Int) (x : Chg) : shutV (stepV key (pairO o) x) = pairO (if key = x.key then (if x.gone = true then none else some x.val) else o) := by
  unfold stepV
  by_cases c : x.key = key
  · rw [if_pos c, if_pos c.symm]
    cases x.gone <;> rfl
  · rw [if_neg c, if_neg (fun q => c q.symm)]
    cases o <;> rfl
theorem shut_step (key : Int) (p : Int × Bool) (x : Chg) : shutV (stepV key (shutV p) x) = shutV (stepV key p x) := by
  unfold stepV
  split
  · rfl
  · unfold shutV; obtain ⟨a, b⟩ := p; cases b <;> simp
theorem value_fold (key : Int) : ∀ (l : List Chg) {o : List (Int × Int)} (p : Int × Bool), Rise o → shutV p = pairO (lookE o key) → shutV (l.foldl (stepV key) p) = pairO (lookE (foldE o l) key)
  | [], o, p, ho, hp => hp
  | x :: l, o, p, ho, hp => by
    refine value_fold key l (o := layE x x.gone o) (stepV key p x) (lay_mem x ho).2 ?_
    rw [← shut_step, hp, stepV_pair, lookE_lay ho]
theorem seesD_look (ls : List (List Chg)) (key : Int) : seesD ls key = pairO (lookE (foldL ls) key) := by
  have : ∀ (ls : List (List Chg)) (o : List (Int × Int)) (p : Int × Bool), Rise o → p = pairO (lookE o key) → ls.foldl (fun p l => valueL l key p) p = pairO (lookE (ls.foldl foldE o) key) := by
    intro ls
    induction ls with
    | nil => intro o p _ h; exact h
    | cons l r ih =>
      intro o p ho hp
      rw [List.foldl_cons, List.foldl_cons]
      refine ih _ _ (foldE_rise l ho) ?_
      exact value_fold key l p ho (by rw [hp, shut_pairO])
  exact this ls [] (0, false) .nil rfl
theorem seesT_look (s : St) (t : Tn) (key : Int) : seesT s t key = pairO (lookE (foldE (foldL s.done) t.chs) key) := by
  unfold seesT
  exact value_fold key t.chs _ (foldL_rise _) (by rw [seesD_look, shut_pairO])
/-- the entries of a page -/
def onP (c : Cf) (p : Int) (l : List (Int × Int)) : List (Int × Int) := l.filter fun e => e.1 % c.pages == p
def pgD (c : Cf) (s : St) (p : Int) : List (Int × Int) := onP c p (foldL s.done)
def pgT (c : Cf) (s : St) (t : Tn) (p : Int) : List (Int × Int) := onP c p (foldE (foldL s.done) t.chs)
theorem onP_rise {c : Cf} {p : Int} {l : List (Int × Int)} (h : Rise l) : Rise (onP c p l) := h.filter _
theorem pgD_rise (c : Cf) (s : St) (p : Int) : Rise (pgD c s p) := onP_rise (foldL_rise _)
theorem pgT_rise (c : Cf) (s : St) (t : Tn) (p : Int) : Rise (pgT c s t p) := onP_rise (foldE_rise _ (foldL_rise _))
theorem mem_onP {c : Cf} {p : Int} {l : List (Int × Int)} {e : Int × Int} : e ∈ onP c p l ↔ e ∈ l ∧ e.1 % c.pages = p := by simp [onP]
theorem look_onP {c : Cf} {p k : Int} {l : List (Int × Int)} (hl : Rise l) (h : k % c.pages = p) : lookE (onP c p l) k = lookE l k := by
  cases hb : lookE l k with
  | none =>
    rw [lookE_none] at hb ⊢
    exact fun e he => hb e (mem_onP.1 he).1
  | some v =>
    rw [lookE_some hl] at hb
    rw [lookE_some (onP_rise hl)]
    exact mem_onP.2 ⟨hb, h⟩
/-- the page that a change is of -/
theorem onP_lay {c : Cf} {p : Int} {x : Chg} {l : List (Int × Int)} (hl : Rise l) : onP c p (layE x x.gone l) = if x.key % c.pages = p then layE x x.gone (onP c p l) else onP c p l := by
  split
  · rename_i h
    refine Rise.ext (onP_rise (lay_mem x hl).2) (lay_mem x (onP_rise hl)).2 fun e => ?_
    rw [mem_onP, (lay_mem x hl).1, (lay_mem x (onP_rise hl)).1, mem_onP]
    constructor
    · rintro ⟨⟨h1, rfl⟩ | ⟨h1, h2⟩, h3⟩
      · exact .inl ⟨h1, rfl⟩
      · exact .inr ⟨⟨h1, h3⟩, h2⟩
    · rintro (⟨h1, rfl⟩ | ⟨⟨h1, h3⟩, h2⟩)
      · exact ⟨.inl ⟨h1, rfl⟩, h⟩
      · exact ⟨.inr ⟨h1, h2⟩, h3⟩
  · rename_i h
    refine Rise.ext (onP_rise (lay_mem x hl).2) (onP_rise hl) fun e => ?_
    rw [mem_onP, (lay_mem x hl).1, mem_onP]
    constructor
    · rintro ⟨⟨h1, rfl⟩ | ⟨h1, h2⟩, h3⟩
      · exact absurd h3 h
      · exact ⟨h1, h3⟩
    · rintro ⟨h1, h3⟩
      exact ⟨.inr ⟨h1, fun q => h (by rw [← q]; exact h3)⟩, h3⟩
/-- changes of other pages leave a page alone -/
theorem onP_fold {c : Cf} {p : Int} : ∀ {l : List Chg} {o : List (Int × Int)}, Rise o → (∀ x ∈ l, x.key % c.pages ≠ p) → onP c p (foldE o l) = onP c p o
  | [], o, _, _ => rfl
  | x :: l, o, ho, h => by
    rw [show foldE o (x :: l) = foldE (layE x x.gone o) l from rfl, onP_fold (lay_mem x ho).2 (fun y hy => h y (by simp [hy])), onP_lay ho, if_neg (h x (by simp))]
/-- .. and a page's changes hang on that page's entries alone -/
theorem onP_alike {c : Cf} {p : Int} : ∀ {l : List Chg} {o o' : List (Int × Int)}, Rise o → Rise o' → onP c p o = onP c p o' → onP c p (foldE o l) = onP c p (foldE o' l)
  | [], o, o', _, _, h => h
  | x :: l, o, o', ho, ho', h => by
    rw [show foldE o (x :: l) = foldE (layE x x.gone o) l from rfl, show foldE o' (x :: l) = foldE (layE x x.gone o') l from rfl]
    refine onP_alike (lay_mem x ho).2 (lay_mem x ho').2 ?_
    rw [onP_lay ho, onP_lay ho', h]
/-! how many there are -/
def lastQ (l : List Chg) (i : Nat) (q : Int → Bool) : Bool := match l[i]? with
  | none => false
  | some c => q c.key && !c.gone && (l.drop (i + 1)).all fun d => d.key != c.key
def cntQ (q : Int → Bool) (l : List Chg) : Nat → Int
  | 0 => 0
  | i + 1 => cntQ q l i + (if lastQ l i q = true then 1 else 0)
theorem countTo_cntQ (pages page : Int) (l : List Chg) : ∀ n, countTo pages page l n = cntQ (fun k => k % pages == page) l n
  | 0 => rfl
  | n + 1 => by
    unfold countTo cntQ
    rw [countTo_cntQ pages page l n]
    rfl
theorem lastQ_snoc {l : List Chg} {x : Chg} {i : Nat} {q : Int → Bool} (hi : i < l.length) : lastQ (l ++ [x]) i q = lastQ l i (fun k => q k && k != x.key) := by
  unfold lastQ
  rw [List.getElem?_append_left hi, List.getElem?_eq_getElem hi]
  dsimp only
  rw [List.drop_append_of_le_length (by omega), List.all_append]
  simp only [List.all_cons, List.all_nil, Bool.and_true]
  rw [show (x.key != l[i].key) = (l[i].key != x.key) by rw [Bool.eq_iff_iff]; simp only [bne_iff_ne]; exact ⟨Ne.symm, Ne.symm⟩]
  cases q l[i].key <;> cases l[i].gone <;> cases (l[i].key != x.key) <;> simp
theorem cntQ_snoc {l : List Chg} {x : Chg} {q : Int → Bool} : ∀ n, n ≤ l.length → cntQ q (l ++ [x]) n = cntQ (fun k => q k && k != x.key) l n
  | 0, _ => rfl
  | n + 1, h => by
    unfold cntQ
    rw [cntQ_snoc n (by omega), lastQ_snoc (by omega)]
theorem cntQ_len : ∀ (n : Nat) (l : List Chg) (q : Int → Bool), l.length = n → cntQ q l n = (((foldE [] l).filter fun e => q e.1).length : Int)
  | 0, l, q, h => by
    obtain rfl := List.eq_nil_of_length_eq_zero h
    rfl
  | n + 1, l, q, h => by
    obtain ⟨l', x, rfl⟩ : ∃ l' x, l = l' ++ [x] := ⟨l.dropLast, l.getLast (by intro e; simp [e] at h), (List.dropLast_concat_getLast _).symm⟩
    have hl : l'.length = n := by simpa using h
    unfold cntQ
    rw [cntQ_snoc n (by omega), cntQ_len n l' _ hl, foldE_snoc]
    have hr : Rise (foldE [] l') := foldE_rise _ .nil
    have hlast : lastQ (l' ++ [x]) n q = (q x.key && !x.gone) := by
      unfold lastQ
      rw [← hl, List.getElem?_append_right (Nat.le_refl _)]
      simp
    rw [hlast]
    cases hg : x.gone with
    | true =>
      rw [layE_true]
      unfold laid
      rw [List.filter_filter]
      simp
    | false =>
      obtain ⟨m1, m2⟩ := layE_mem x _ hr
      by_cases hq : q x.key = true
      · rw [hq]
        have p : ((layE x false (foldE [] l')).filter fun e => q e.1).Perm ((x.key, x.val) :: (foldE [] l').filter fun e => q e.1 && e.1 != x.key) := by
          have nd : ∀ {l : List (Int × Int)}, Rise l → l.Nodup := fun {l} hl => hl.imp (fun {x y} q e => by rw [e] at q; omega)
          refine (List.perm_ext_iff_of_nodup (nd (m2.filter _)) (List.nodup_cons.2 ⟨by simp, nd (hr.filter _)⟩)).2 fun e => ?_
          rw [List.mem_filter, m1, List.mem_cons, List.mem_filter]
          constructor
          · rintro ⟨rfl | ⟨h1, h2⟩, h3⟩
            · exact .inl rfl
            · exact .inr ⟨h1, by simp [h2]; simpa using h3⟩
          · rintro (rfl | ⟨h1, h2⟩)
            · exact ⟨.inl rfl, hq⟩
            · simp at h2; exact ⟨.inr ⟨h1, h2.2⟩, h2.1⟩
        rw [p.length_eq]
        simp
      · have hq' : q x.key = false := by simpa using hq
        rw [hq']
        have : ((layE x false (foldE [] l')).filter fun e => q e.1) = (foldE [] l').filter fun e => q e.1 && e.1 != x.key := by
          refine Rise.ext (m2.filter _) (hr.filter _) fun e => ?_
          rw [List.mem_filter, m1, List.mem_filter]
          constructor
          · rintro ⟨rfl | ⟨h1, h2⟩, h3⟩
            · rw [hq'] at h3; cases h3
            · exact ⟨h1, by simp [h2]; simpa using h3⟩
          · rintro ⟨h1, h2⟩
            simp at h2; exact ⟨.inr ⟨h1, h2.2⟩, h2.1⟩
        rw [this]
        simp
theorem count_len (c : Cf) (s : St) (t : Tn) (p : Int) : countS c s t p = ((pgT c s t p).length : Int) := by
  unfold countS
  rw [countTo_cntQ, cntQ_len _ _ _ rfl]
  unfold pgT onP allC
  rw [foldL_eq]
  unfold foldE
  rw [List.foldl_append]
end Go.Proofs.YtocpagpkpibmaaaGreatDoor

/-
  OWN WORK. The landed plain (layer 18): a list of entries, sorted by the library.
-/
namespace Go.Proofs.YtocpagpkpibmaaaGreatDoor
open Go.RowKit Go.Maps Go.Sort Go.Shelf Go.Lib
set_option linter.unusedVariables false
set_option linter.unusedSimpArgs false
theorem grownV {w : World} {g n : Nat} {os : Array Obj} (d : Array Value) : w.grownBy (grow (putRow id (Sort.ahead w n) g 0 d) os) (some g) := by
  refine ⟨rfl, rfl, rfl, by simp, fun k hk hne => ?_⟩
  rw [heap_grow_old _ _ (by simpa using hk)]
  have : g ≠ k := fun e => hne (by rw [e])
  simp [putRow, mapBlock, Sort.ahead, Array.getElem?_modify, this]
theorem Row.holdsV {w : World} {base sz g n c : Nat} {cs : List Value} (h : Row w base sz (.slice (some ⟨g, 0, none⟩) n c) n cs) : Holds id w g 0 cs.toArray := by
  intro j hj
  have hj' : j < cs.length := by simpa using hj
  obtain ⟨h1, h2, p, c', e, h3, h4, h5⟩ := h
  cases e
  rcases h5 with ⟨q, -⟩ | ⟨g', e, h6, h7, h8, h9⟩
  · cases q
  cases e
  have hjc : j < c * sz := Nat.lt_of_lt_of_le (by rw [← h1]; exact hj') (Nat.mul_le_mul_right sz h3)
  refine ⟨?_, by have := (h9 j hjc).2; simpa using this⟩
  rw [Nat.zero_add, h8 j cs[j] (List.getElem?_eq_getElem hj')]
  simp [hj']
theorem Row.sorted {w : World} {base sz g n c : Nat} {cs ts : List Value} (h : Row w base sz (.slice (some ⟨g, 0, none⟩) n c) n cs) (hl : ts.length = cs.length) (ho : ∀ u ∈ ts, u.oneCell' = true) (k : Nat) (os : Array Obj) : Row (grow (putRow id (Sort.ahead w k) g 0 ts.toArray) os) base sz (.slice (some ⟨g, 0, none⟩) n c) n ts ∧ Kept [g] w (grow (putRow id (Sort.ahead w k) g 0 ts.toArray) os) := by
  refine ⟨?_, (Kept.refl [g] w).grown (grownV ts.toArray) (fun j hj => .inl (by cases hj; simp))⟩
  have hH := h.holdsV
  obtain ⟨h1, h2, p, c', e, h3, h4, h5⟩ := h
  cases e
  rcases h5 with ⟨q, -⟩ | ⟨g', e, h6, h7, h8, h9⟩
  · cases q
  cases e
  have hz : g < (putRow id (Sort.ahead w k) g 0 ts.toArray).heap.size := by rw [size_putRow]; exact h7
  refine ⟨by rw [hl]; exact h1, ho, _, _, rfl, h3, h4, .inr ⟨g, rfl, h6, by rw [size_grow]; omega, fun j u hj => ?_, fun j hj => ⟨?_, ?_⟩⟩⟩
  · have hjl : j < ts.length := (List.getElem?_eq_some_iff.1 hj).1
    rw [cell?_grow _ _ _ hz]
    have q := cell?_putRow id (Sort.ahead w k) g 0 cs.toArray ts.toArray (holds_ahead _ _ _ _ _ _ hH) (by simpa using hl) j (by simpa using hjl)
    rw [Nat.zero_add] at q
    rw [q, ← hj, List.getElem?_eq_getElem hjl]
    simp [hjl]
  · rw [cell?_grow _ _ _ hz]
    by_cases hjl : j < ts.length
    · have q := cell?_putRow id (Sort.ahead w k) g 0 cs.toArray ts.toArray (holds_ahead _ _ _ _ _ _ hH) (by simpa using hl) j (by simpa using hjl)
      rw [Nat.zero_add] at q
      rw [q]; rfl
    · rw [cell?_putRow_other _ _ _ _ _ _ (.inr (.inr (by simp; omega)))]
      exact (h9 j hj).1
  · rw [frozen?_grow _ _ _ hz, frozen?_putRow]
    exact (h9 j hj).2
def encE (x : Int × Int) : List Value := [.int .i64 x.1, .int .u64 x.2]
theorem flat_ecs (l : List (Int × Int)) : flatK encE 2 l.toArray = (ecs l).toArray := by
  apply Array.ext
  · simp [flatK, ecs_length]
  · intro t h1 h2
    have ht : t < l.length * 2 := by simpa [flatK] using h1
    have hq : t / 2 < l.length := by omega
    obtain ⟨a0, a1⟩ := ecs_at (l := l) (i := t / 2) (x := l[t / 2]) (List.getElem?_eq_getElem hq)
    have e : (flatK encE 2 l.toArray)[t]'h1 = (encE l[t / 2])[t % 2]! := by
      simp [flatK, hq]
    rw [e]
    have h2' : t < (ecs l).length := by simpa using h2
    have q : (ecs l).toArray[t]'h2 = (ecs l)[t] := rfl
    rw [q]
    rcases Nat.mod_two_eq_zero_or_one t with r | r
    · have et : t / 2 * 2 = t := by omega
      rw [et, List.getElem?_eq_getElem h2'] at a0
      rw [r, Option.some.inj a0]; rfl
    · have et : t / 2 * 2 + 1 = t := by omega
      rw [et, List.getElem?_eq_getElem h2'] at a1
      rw [r, Option.some.inj a1]; rfl
theorem nan2 (a : Int) (w : World) : Calls Tryz.prog 98 #[.int .i64 a] w fun e w' => e = .returned (.bool false) ∧ w' = w := by
  go_enter Tryz.func98, Tryz.ntmps98
  go_wp2
  go_ret
  exact ⟨by simp, rfl⟩
set_option maxRecDepth 20000 in
theorem compare2 (a b : Int) (w : World) : Calls Tryz.prog 70 #[.int .i64 a, .int .i64 b] w fun e w' => e = .returned (.int .i64 (Lib.compareInt a b)) ∧ w' = w := by
  go_enter Tryz.func70, Tryz.ntmps70
  go_wp2_with fail
  refine (nan2 a w).mono ?_
  rintro e w1 ⟨rfl, hw1⟩
  subst hw1
  go_wp2_with fail
  refine (nan2 b w1).mono ?_
  rintro e w2 ⟨rfl, hw2⟩
  subst hw2
  by_cases h : a < b
  · have HC := @hideH _ (show Lib.compareInt a b = -1 by unfold Lib.compareInt; simp [h])
    go_wp2
    go_ret
    exact ⟨by rw [HC.out]; rfl, rfl⟩
  · by_cases h2 : b < a
    · have HC := @hideH _ (show Lib.compareInt a b = 1 by unfold Lib.compareInt; simp [h, h2])
      go_wp2
      go_ret
      exact ⟨by rw [HC.out]; rfl, rfl⟩
    · have HC := @hideH _ (show Lib.compareInt a b = 0 by unfold Lib.compareInt; simp [h, h2])
      go_wp2
      go_ret
      exact ⟨by rw [HC.out]; rfl, rfl⟩
set_option maxHeartbeats 1000000 in
theorem closureE (x y : Int × Int) (W : World) : Calls Tryz.prog 69 #[.agg #[.int .i64 x.1, .int .u64 x.2], .agg #[.int .i64 y.1, .int .u64 y.2]] W fun e w' => e = .returned (.int .i64 (Lib.compareInt x.1 y.1)) ∧ ∃ q os', w' = grow (W.drewN q) os' := by
  have hcon := fun W' => compare2 x.1 y.1 W'
  generalize Lib.compareInt x.1 y.1 = r at hcon ⊢
  go_enter Tryz.func69, Tryz.ntmps69
  go_wp2_with (go_at_call 70; refine (hcon _).mono ?_; rintro e w' ⟨rfl, rfl⟩)
  go_ret
  exact ⟨rfl, 0, _, by rw [alloc_eq_grow, alloc_eq_grow, grow_grow]; rfl⟩
theorem ltE (x y : Int × Int) : ltOf (fun x y : Int × Int => Lib.compareInt x.1 y.1) x y = decide (x.1 < y.1) := by
  unfold ltOf Lib.compareInt
  by_cases h1 : x.1 < y.1
  · simp [h1]
  · by_cases h2 : y.1 < x.1 <;> simp [h1, h2]
theorem swoE : SWO (ltOf fun x y : Int × Int => Lib.compareInt x.1 y.1) where
  irrefl x := by rw [ltE]; simp
  trans x y z h1 h2 := by rw [ltE] at *; simp at *; omega
  ntrans x y z h1 h2 := by rw [ltE] at *; simp at *; omega
theorem qSortE {base : Nat} {p : Option Addr} {n c : Nat} {l : List (Int × Int)} (w : World) (h : Es w base (.slice p n c) l) (hl : l.length ≤ 3600000000000) : Calls Tryz.prog 68 #[.slice p n c, .func (.func 69) #[] #[]] w fun e w' => e = .returned (.tuple #[]) ∧ ∃ l', l'.Perm l ∧ l'.Pairwise (fun a b => a.1 ≤ b.1) ∧ Es w' base (.slice p n c) l' ∧ Kept (Value.slice p n c).ownBlock.toList w w' := by
  obtain ⟨p', c', e, h3, h4⟩ := Row.shape h
  cases e
  by_cases h0 : l.length = 0
  · obtain rfl : l = [] := List.eq_nil_of_length_eq_zero h0
    refine (AnyF.slices_SortFunc_none sortE p c _ w).mono fun e w' ⟨he, hw⟩ => ?_
    subst hw
    exact ⟨he, [], .refl _, .nil, h, Kept.refl _ _⟩
  · obtain ⟨g, rfl, h6, h7, -⟩ := Row.pos h (by omega)
    have hH : HoldsK encE 2 w g 0 l.toArray := by
      unfold HoldsK
      rw [flat_ecs]
      exact Row.holdsV h
    have hcon := AnyQ.slices_SortFunc sortE 2 Tryz.isAgg47 Tryz.sizeOf47 encE (fun _ => rfl) (fun x v hv => by simp [encE] at hv; rcases hv with rfl | rfl <;> rfl) (fun x y => Lib.compareInt x.1 y.1) swoE 69 #[] g 0 c l.toArray w (enters_of Tryz.func69 (by kernel_rfl) rfl) (fun _ _ _ _ x y => closureE x y _) hH h7 (by simp; omega)
    refine hcon.mono fun e w' ⟨he, d', k, os, hp, hs, hw⟩ => ?_
    have hsz : d'.size = l.length := by simpa using hp.1
    have hln : d'.toList.length = l.length := by simpa using hsz
    have hperm : d'.toList.Perm l := by
      have q := hp.2.2
      have e1 : d'.extract 0 l.toArray.size = d' := by rw [← hp.1]; exact Array.extract_size
      have e2 : l.toArray.extract 0 l.toArray.size = l.toArray := Array.extract_size
      rw [e1, e2] at q
      simpa using q
    have hup : d'.toList.Pairwise (fun a b => a.1 ≤ b.1) := by
      refine List.pairwise_iff_getElem.2 fun i j hi hj hij => ?_
      have q := hs i j (Nat.zero_le _) hij (by simp at hj; rw [hp.1] at hj; exact hj)
      rw [ltE] at q
      have hi' : i < d'.size := by simpa using hi
      have hj' : j < d'.size := by simpa using hj
      rw [getElem!_pos d' i hi', getElem!_pos d' j hj'] at q
      have := of_decide_eq_false q
      simp only [Array.getElem_toList]
      omega
    have hfl : flatK encE 2 d' = (ecs d'.toList).toArray := by
      have q := flat_ecs d'.toList
      simpa using q
    have hrow : Row w base 2 (.slice (some ⟨g, 0, none⟩) l.length c) l.length (ecs l) := h
    obtain ⟨r1, r2⟩ := Row.sorted hrow (ts := ecs d'.toList) (by rw [ecs_length, ecs_length, hln]) (fun u hu => by
      have : ∀ (m : List (Int × Int)) (u : Value), u ∈ ecs m → u.oneCell' = true := by
        intro m
        induction m with
        | nil => intro u hu; simp [ecs] at hu
        | cons x r ih =>
          intro u hu
          simp [ecs] at hu
          rcases hu with rfl | rfl | hu
          · rfl
          · rfl
          · exact ih u hu
      exact this _ u hu) k os
    have hw' : w' = grow (putRow id (Sort.ahead w k) g 0 (ecs d'.toList).toArray) os := by
      rw [hw]
      unfold sortWorldK putRowK
      rw [hfl]
    rw [← hw'] at r1 r2
    refine ⟨he, d'.toList, hperm, hup, ?_, r2⟩
    unfold Es
    rw [hln]
    exact r1
end Go.Proofs.YtocpagpkpibmaaaGreatDoor

/-
  OWN WORK. What the program's text lays in the package variable that errors.As reads (layer 18): one cell; a world where it lies.
-/
namespace Go.Proofs.YtocpagpkpibmaaaGreatDoor
open Go.ChangeShapes Go.WideShapes Go.RowKit
set_option linter.unusedVariables false
def laidL : List (String × DataW Unit) := [("errors.errorType", Rows.laid_errors_errorType)]
theorem et_at : Tryz.prog.globalNamed "errors.errorType" = some 0 := by kernel_rfl
theorem rt_at : (Tryz.prog.cutTypes.find? (·.1 == "internal/reflectlite.rtype")).map (·.2) = some 188 := by kernel_rfl
theorem oneRow : ((List.range Tryz.prog.types.size).filter fun t => Tryz.prog.rowNamed t [101, 114, 114, 111, 114]) = [83] := by kernel_rfl
/-- the variable's one cell -/
def Vr (w : World) : Prop := w.cell? ⟨0, 0, none⟩ = some (.iface 188 (.agg #[.pointer (some ⟨1, 83, none⟩)]))
theorem vr_of_laid {W : World} (h : laidMetH Tryz.prog laidL W) : Vr W := by
  have h' : laidMet Tryz.prog [] W ∧ handlesMet Tryz.prog laidL W := h
  obtain ⟨name, u, ty, e1, e2, e3, e4, e5⟩ := h'.2 _ (List.mem_singleton.2 rfl)
  have en : name = [101, 114, 114, 111, 114] := (Option.some.inj e1).symm
  subst en
  obtain rfl := Option.some.inj (rt_at.symm.trans e2)
  have hm : ty ∈ (List.range Tryz.prog.types.size).filter fun t => Tryz.prog.rowNamed t [101, 114, 114, 111, 114] := List.mem_filter.2 ⟨List.mem_range.2 e3, e4⟩
  rw [oneRow] at hm
  obtain rfl := List.mem_singleton.1 hm
  have hh : typeHandle Tryz.prog 83 = .pointer (some ⟨1, 83, none⟩) := by kernel_rfl
  rw [hh] at e5
  unfold Vr
  simpa using World.var?_cell et_at e5 0
/-- a world in which it lies -/
noncomputable def laidWorld (os : Os) : World :=
  let w0 := World.holding Tryz.prog os ⟨#[], #[], []⟩
  { w0 with heap := w0.heap.modify 0 fun
      | .cells _ t frozen => .cells #[.iface 188 (.agg #[.pointer (some ⟨1, 83, none⟩)])] t frozen
      | o => o }
theorem laidWorld_met (os : Os) (args : Array Value) : laidMetH Tryz.prog laidL ((laidWorld os).forCall (fun _ _ => 0) ⟨#[], args, []⟩).memory :=
  laidMetH_of_parts (laidMet_nil _ _) (by kernel_rfl)
end Go.Proofs.YtocpagpkpibmaaaGreatDoor

