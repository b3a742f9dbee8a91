import PyProof.Rows.All
import Wide.All
import OpenK.AllK
import Wide.FinOn
import HandS.Base
import HandS.Call
import HandS.List
import HandS.Comp
import HandS.Ends
import HandS.Dict
import HandS.Iter
import HandS.Words
import HandS.IsInst
import HandS.Codes
import HandS.Text
import HandS.TupSets
import KE.SortCalls
import HandS.Deep
import HandS.More
import HandS.Walk
import KE.GoesEnumKw
import PyProof.Draws
import HandS.SortKw
import KE.KSortKeyAny
import PyProof.TupleOfSeq
import HandS.DictComp
import HandS.TupAny
import KE.KeyNested
import HandS.SetIn
import KE.KDictKeyed
import HandS.Small
import PyProof.Rows.BitMore
import KE.BitLaws
import HandS.SortOrd
import KE.KSortTupAny
import KE.KDictWalk
import KE.KDictSum
import PyProof.DictMoreH
import KE.GoesEnum
import KE.KDictPairs
import PySem.Challenge.RW_inputways_k60_how_few_sets
set_option Elab.async false
set_option maxRecDepth 100000
set_option maxHeartbeats 4000000
set_option linter.all false
namespace My
open PySem L2
open C8 (pss_cut)
/-! ### a def of the text, as the top has written it; a def that keeps a promise -/
structure Def (K : PySem.W.Frag) (mg : Str → Option Value) (x : Str) (ps : List Str) (st : Stmt) (f : Addr) (fd : FuncData) : Prop where
  fn : Fun K x x st f fd
  mg : mg x = some (.ref f)
  bd : Binds K fd ps []
def Own (P : Program) (w : World) (K : PySem.W.Frag) (mg : Str → Option Value) (base : Heap) (x : Str) (ps : List Str) (k : Nat) (sp : Sp) : Prop :=
  ∃ (f : Addr) (fd : FuncData), mg x = some (.ref f) ∧ PySem.W.keepIn K (.ref f) = true ∧ Binds K fd ps [] ∧ FnOk P w K mg base CX0 k f fd ps sp
/-- a def whose promise nobody can ask for -/
theorem fn_never {P : Program} {w : World} {K : PySem.W.Frag} {mg : Str → Option Value} {base : Heap} {k : Nat} {f : Addr} {fd : FuncData} {ps : List Str} {sp : Sp} (no : ∀ vs H Q E, ¬ sp vs H Q E) : FnOk P w K mg base CX0 k f fd ps sp :=
  ⟨fun vs H Q E h => absurd h (no vs H Q E), fun A outer s H args us vs Q E _ _ _ _ h => absurd h (no vs H Q E)⟩
/-- a constant of the top: a tuple of these -/
def Con (K : PySem.W.Frag) (mg : Str → Option Value) (x : Str) (xs : List V) : Prop :=
  ∃ (a : Addr) (od : Option Addr) (its : Array Value) (n : Nat) (sl : Array (Option Value)), mg x = some (.ref a) ∧ K.lookup a = some ⟨.type "tuple", od, .seq its n, sl⟩ ∧ its.size ≤ sizeLine ∧ Vals xs its.toList
theorem con_seq {K : PySem.W.Frag} {H : Hp} {a : Addr} {od : Option Addr} {its : Array Value} {n : Nat} {sl : Array (Option Value)} {xs : List V} (l : K.lookup a = some ⟨.type "tuple", od, .seq its n, sl⟩) (s : its.size ≤ sizeLine) (v : Vals xs its.toList) : SqT K H a xs :=
  .inr ⟨_, its, n, l, rfl, rfl, s, v⟩

/-! ### small words -/
theorem same_new {H : Hp} {p : Addr} (h : H p = none) (o : HO) : Same H (upd H p o) := fun b u q => by rw [upd_ne (ne_of_none q h)]; exact q
theorem streq {a b : Str} (c : decide (V.str a = V.str b) = true) : a = b := V.str.inj (of_decide_eq_true c)
theorem strne {a b : Str} (c : ¬ decide (V.str a = V.str b) = true) : a ≠ b := fun e => c (by rw [e]; exact decide_eq_true rfl)
theorem inteq {a b : Int} (c : decide (V.int a = V.int b) = true) : a = b := V.int.inj (of_decide_eq_true c)
theorem intne {a b : Int} (c : ¬ decide (V.int a = V.int b) = true) : a ≠ b := fun e => c (by rw [e]; exact decide_eq_true rfl)
theorem toI {Q : V → Hp → Prop} {H : Hp} {a b : Int} (e : a = b) (q : Q (.int b) H) : Q (.int a) H := by rw [e]; exact q
theorem toB {Q : V → Hp → Prop} {H : Hp} {a b : Bool} (e : a = b) (q : Q (.bl b) H) : Q (.bl a) H := by rw [e]; exact q
theorem inS {x : Str} : ∀ {xs : List Str}, inV (.str x) (xs.map V.str) = decide (x ∈ xs)
  | [] => by simp [inV]
  | y :: ys => by
    have ih := inS (x := x) (xs := ys)
    unfold inV at ih ⊢
    rw [List.map_cons, List.any_cons, ih]
    show (y == x || decide (x ∈ ys)) = decide (x ∈ y :: ys)
    by_cases h : y = x
    · subst h
      simp
    · have h' : ¬ x = y := fun e => h e.symm
      simp [h, h']
theorem atI_get {ns : List Int} {k : Int} (h0 : 0 ≤ k) (h : k < (ns.length : Int)) : ∃ z : Int, z ∈ ns ∧ atI (ns.map V.int) k = some (.int z) := by
  have hk : k.toNat < ns.length := by omega
  have ek : k = ((k.toNat : Nat) : Int) := by omega
  have q : atI (ns.map V.int) ((k.toNat : Nat) : Int) = some (.int ns[k.toNat]) := atI_nat (by rw [List.getElem?_map, List.getElem?_eq_getElem hk] <;> rfl)
  rw [← ek] at q
  exact ⟨_, List.getElem_mem hk, q⟩
/-- an item in bounds -/
theorem atI_in {xs : List V} {k : Int} (h0 : 0 ≤ k) (h : k < (xs.length : Int)) : ∃ v : V, atI xs k = some v ∧ xs[k.toNat]? = some v ∧ v ∈ xs := by
  have hk : k.toNat < xs.length := by omega
  have ek : k = ((k.toNat : Nat) : Int) := by omega
  have q : atI xs ((k.toNat : Nat) : Int) = some xs[k.toNat] := atI_nat (List.getElem?_eq_getElem hk)
  rw [← ek] at q
  exact ⟨_, q, List.getElem?_eq_getElem hk, List.getElem_mem hk⟩
theorem map_at {ns : List Int} {i : Nat} {y : V} (hi : (ns.map V.int)[i]? = some y) : ∃ z, y = V.int z ∧ ns[i]? = some z := by
  rw [List.getElem?_map] at hi
  cases e : ns[i]? with
  | none =>
    rw [e] at hi
    cases hi
  | some z =>
    rw [e] at hi
    exact ⟨z, (Option.some.inj hi).symm, rfl⟩
theorem yes2 {σ : L2.St} {H : Hp} {A B : Hp → Prop} (h : A H) : tYes σ H (fun b H3 => if b = true then A H3 else B H3) := iteT (A := A H) (B := B H) h
theorem small {n : Nat} (h : n ≤ 1000) : n ≤ sizeLine := Nat.le_of_lt (small1000 h)

/-! ### a heap without one object -/
def hide (d : Addr) (H : Hp) : Hp := fun b => if b = d then none else H b
theorem hide_at {d : Addr} {H : Hp} : hide d H d = none := if_pos rfl
theorem hide_ne {d b : Addr} {H : Hp} (h : b ≠ d) : hide d H b = H b := if_neg h
theorem hide_some {d b : Addr} {H : Hp} {o : HO} (h : hide d H b = some o) : b ≠ d ∧ H b = some o := by
  unfold hide at h
  by_cases e : b = d
  · rw [if_pos e] at h
    cases h
  · rw [if_neg e] at h
    exact ⟨e, h⟩
theorem hide_le {d : Addr} {H : Hp} : Same (hide d H) H := fun b o h => (hide_some h).2
theorem hide_new {d p : Addr} {H : Hp} (hp : H p = none) (o : HO) : Same (hide d H) (hide d (upd H p o)) := fun b u h => by
  obtain ⟨h1, h2⟩ := hide_some h
  rw [hide_ne h1, upd_ne (ne_of_none h2 hp)]
  exact h2
theorem hide_put {d : Addr} {H : Hp} (o : HO) : Same (hide d H) (hide d (upd H d o)) := fun b u h => by
  obtain ⟨h1, h2⟩ := hide_some h
  rw [hide_ne h1, upd_ne h1]
  exact h2
theorem hide_same {d : Addr} {H H' : Hp} (e : Same H H') : Same (hide d H) (hide d H') := fun b u h => by
  obtain ⟨h1, h2⟩ := hide_some h
  rw [hide_ne h1]
  exact e b u h2
/-- what stands apart from d and is tracked, is tracked without d -/
theorem hide_in {d b : Addr} {H : Hp} {o : HO} (h : H b = some o) (hb : b ≠ d) : hide d H b = some o := by rw [hide_ne hb]; exact h
/-- a new object behind the draw -/
theorem hide_upd {d p : Addr} {H : Hp} {o u : HO} (hd : H d = some u) (hp : H p = none) : hide d (upd H p o) p = some o := by
  rw [hide_ne (fun e => by rw [e, hd] at hp; cases hp), upd_same]

/-! ### sequences and data in a heap that has grown -/
theorem rd_mono {H H' : Hp} {a : Addr} {u : HO} (e : Same H H') (h : Rd H a u) : Rd H' a u := by
  rcases h with h | ⟨o, h⟩
  · exact .inl (e _ _ h)
  · exact .inr ⟨o, e _ _ h⟩
theorem sqt_mono {K : PySem.W.Frag} {H H' : Hp} {a : Addr} {xs : List V} (e : Same H H') (h : SqT K H a xs) : SqT K H' a xs := by
  rcases h with h | h
  · exact .inl (rd_mono e h)
  · exact .inr h
theorem sql_mono {K : PySem.W.Frag} {H H' : Hp} {a : Addr} {xs : List V} (e : Same H H') (h : SqL K H a xs) : SqL K H' a xs := e.seq h
mutual
theorem dp_mono {K : PySem.W.Frag} {H H' : Hp} (e : Same H H') : ∀ (d : PyData) {v : V}, Dp K H v d → Dp K H' v d
  | .none, _, .non => .non
  | .bool _, _, .bl b => .bl b
  | .int _, _, .int i => .int i
  | .str _, _, .str x => .str x
  | .list ds, _, .lst h hs => .lst (sql_mono e h) (dpa_mono e ds hs)
  | .tuple ds, _, .tup h hs => .tup (sqt_mono e h) (dpa_mono e ds hs)
  | .dict _, _, h => by cases h
theorem dpa_mono {K : PySem.W.Frag} {H H' : Hp} (e : Same H H') : ∀ (ds : List PyData) {vs : List V}, DpAll K H vs ds → DpAll K H' vs ds
  | [], _, .nil => .nil
  | d :: ds, _, .cons h hs => .cons (dp_mono e d h) (dpa_mono e ds hs)
end
section
variable {K : PySem.W.Frag} {H : Hp}
theorem dpa_len : ∀ {vs : List V} {ds : List PyData}, DpAll K H vs ds → vs.length = ds.length
  | _, _, .nil => rfl
  | _, _, .cons _ t => by rw [List.length_cons, List.length_cons, dpa_len t]
theorem dpa_get : ∀ {vs : List V} {ds : List PyData} {i : Nat} {v : V}, DpAll K H vs ds → vs[i]? = some v → ∃ d, ds[i]? = some d ∧ Dp K H v d
  | _, _, _, _, .nil, e => by cases e
  | _, _, 0, _, .cons h _, e => by
    cases e
    exact ⟨_, rfl, h⟩
  | _, _, i + 1, _, .cons _ t, e => dpa_get (i := i) t e
theorem dpa_app : ∀ {vs us : List V} {ds es : List PyData}, DpAll K H vs ds → DpAll K H us es → DpAll K H (vs ++ us) (ds ++ es)
  | _, _, _, _, .nil, h => h
  | _, _, _, _, .cons a t, h => .cons a (dpa_app t h)
theorem dpa_one {v : V} {d : PyData} (h : Dp K H v d) : DpAll K H [v] [d] := .cons h .nil
theorem dpa_take : ∀ {vs : List V} {ds : List PyData} (n : Nat), DpAll K H vs ds → DpAll K H (vs.take n) (ds.take n)
  | _, _, 0, _ => .nil
  | _, _, _ + 1, .nil => .nil
  | _, _, n + 1, .cons h t => .cons h (dpa_take n t)
theorem dpa_drop : ∀ {vs : List V} {ds : List PyData} (n : Nat), DpAll K H vs ds → DpAll K H (vs.drop n) (ds.drop n)
  | _, _, 0, h => h
  | _, _, _ + 1, .nil => .nil
  | _, _, n + 1, .cons _ t => dpa_drop n t
theorem dpa_map {α : Type} (f : α → V) (g : α → PyData) (h : ∀ x, Dp K H (f x) (g x)) : ∀ l : List α, DpAll K H (l.map f) (l.map g)
  | [] => .nil
  | x :: xs => .cons (h x) (dpa_map f g h xs)
/-- a tuple that is data: its items -/
theorem dp_tup {v : V} {ds : List PyData} (h : Dp K H v (.tuple ds)) : ∃ a xs, v = .ref a ∧ SqT K H a xs ∧ DpAll K H xs ds := by
  cases h with
  | tup hs ha => exact ⟨_, _, rfl, hs, ha⟩
theorem dp_lst {v : V} {ds : List PyData} (h : Dp K H v (.list ds)) : ∃ a xs, v = .ref a ∧ SqL K H a xs ∧ DpAll K H xs ds := by
  cases h with
  | lst hs ha => exact ⟨_, _, rfl, hs, ha⟩
theorem dp_int {v : V} {i : Int} (h : Dp K H v (.int i)) : v = .int i := by cases h; rfl
theorem dp_str {v : V} {x : Str} (h : Dp K H v (.str x)) : v = .str x := by cases h; rfl
theorem dp_bool {v : V} {b : Bool} (h : Dp K H v (.bool b)) : v = .bl b := by cases h; rfl
theorem dp_none {v : V} (h : Dp K H v .none) : v = .non := by cases h; rfl
end

/-! ### a draw: the cells, the place, what is left of the cell, the seed -/
def DrawAt (H : Hp) (d L : Addr) : Prop := ∃ (ns : List Int) (at_ left seed : Int), H d = some (.lst [.ref L, .int at_, .int left, .int seed]) ∧ H L = some (.lst (ns.map V.int)) ∧ d ≠ L ∧ (∀ z, z ∈ ns → 0 ≤ z) ∧ -1 ≤ at_ ∧ 0 ≤ left ∧ 0 ≤ seed ∧ seed < 2147483647
theorem DrawAt.mono {H H' : Hp} {d L : Addr} (h : DrawAt H d L) (e : Same H H') : DrawAt H' d L := by
  obtain ⟨ns, a, l, s, h1, h2, r⟩ := h
  exact ⟨ns, a, l, s, e _ _ h1, e _ _ h2, r⟩
theorem DrawAt.at {H : Hp} {d L : Addr} (h : DrawAt H d L) : ∃ u, H d = some u := by
  obtain ⟨ns, a, l, s, h1, _⟩ := h
  exact ⟨_, h1⟩
theorem DrawAt.cells {H : Hp} {d L : Addr} (h : DrawAt H d L) : ∃ u, H L = some u := by
  obtain ⟨ns, a, l, s, _, h1, _⟩ := h
  exact ⟨_, h1⟩
/-- a new object is no draw -/
theorem DrawAt.new {H : Hp} {d L p : Addr} {o : HO} (h : DrawAt H d L) (hp : H p = none) : DrawAt (upd H p o) d L := h.mono (same_new hp o)
theorem DrawAt.ne {H : Hp} {d L p : Addr} (h : DrawAt H d L) (hp : H p = none) : d ≠ p := by
  obtain ⟨u, hu⟩ := h.at
  exact ne_of_none hu hp
theorem DrawAt.neL {H : Hp} {d L p : Addr} (h : DrawAt H d L) (hp : H p = none) : L ≠ p := by
  obtain ⟨u, hu⟩ := h.cells
  exact ne_of_none hu hp
/-- an object apart from the draw may change -/
theorem DrawAt.put {H : Hp} {d L p : Addr} (o : HO) (h : DrawAt H d L) (h1 : d ≠ p) (h2 : L ≠ p) : DrawAt (upd H p o) d L := by
  obtain ⟨ns, a, l, s, g1, g2, r⟩ := h
  exact ⟨ns, a, l, s, by rw [upd_ne h1]; exact g1, by rw [upd_ne h2]; exact g2, r⟩
theorem DrawAt.in {H : Hp} {d L p : Addr} {o : HO} (h : DrawAt H d L) (hp : H p = none) : hide d (upd H p o) p = some o := by
  obtain ⟨u, hu⟩ := h.at
  exact hide_upd hu hp

/-! ### a word between a test, an expression, and what follows -/
def tCutT (t : TT) : TT := fun σ H Q => ∃ Mid : Bool → Hp → Prop, t σ H Mid ∧ ∀ b H', Mid b H' → Q b H'
theorem pt_cut {X : Cx} {e : Expr} {t : TT} (h : PT X e t) : PT X e (tCutT t) := ⟨fun pins s σ H Q I ⟨Mid, h1, h2⟩ => thn (h.run pins s σ H Mid I h1) fun b s' ⟨H', I', q⟩ => ⟨H', I', h2 b H' q⟩⟩
def tCutE (t : TE) : TE := fun σ H Q => ∃ Mid : V → Hp → Prop, t σ H Mid ∧ ∀ v H', Mid v H' → Q v H'
theorem pe_cut {X : Cx} {e : Expr} {t : TE} (h : PE X e t) : PE X e (tCutE t) := ⟨fun pins s σ H Q I ⟨Mid, h1, h2⟩ => thn (h.run pins s σ H Mid I h1) fun u s' ⟨v, H', I', r, q⟩ => ⟨v, H', I', r, h2 v H' q⟩⟩
/-- a test that leaves the heap as it is and says b -/
theorem cut_same {t : TT} {σ : L2.St} {H : Hp} {Q : Bool → Hp → Prop} (b : Bool) (h : t σ H fun c H' => c = b ∧ H' = H) (q : Q b H) : tCutT t σ H Q :=
  ⟨_, h, fun c H' ⟨e1, e2⟩ => by rw [e1, e2]; exact q⟩
theorem cutE_same {t : TE} {σ : L2.St} {H : Hp} {Q : V → Hp → Prop} (v : V) (h : t σ H fun c H' => c = v ∧ H' = H) (q : Q v H) : tCutE t σ H Q :=
  ⟨_, h, fun c H' ⟨e1, e2⟩ => by rw [e1, e2]; exact q⟩
/-- a dict's key, written: the first, the second, the third .. -/
theorem get_k {H : Hp} {a : Addr} {kvs : List (Key × V)} {x : Str} {v : V} (e : H a = some (.dK kvs)) (g : valV kvs (Sum.inr x : Key) = some v) : DGet H a (.str x) (some v) := by
  have q := DGet.k (k := (Sum.inr x : Key)) e
  rw [g] at q
  exact q
/-- a new tuple of data behind the draw -/
theorem dp_new {K : PySem.W.Frag} {H : Hp} {d L p : Addr} {xs : List V} {ds : List PyData} (D : DrawAt H d L) (hp : H p = none) (h : DpAll K (hide d H) xs ds) : Dp K (hide d (upd H p (.tup xs))) (.ref p) (.tuple ds) :=
  .tup (SqT.of (D.in hp)) (dpa_mono (hide_new hp _) _ h)

/-! ### a list that grows apart from the data -/
mutual
def noLst : PyData → Bool
  | .none => true
  | .bool _ => true
  | .int _ => true
  | .str _ => true
  | .list _ => false
  | .tuple ds => noLsts ds
  | .dict _ => false
def noLsts : List PyData → Bool
  | [] => true
  | d :: ds => noLst d && noLsts ds
end
theorem sqt_hide {K : PySem.W.Frag} {H : Hp} {D a : Addr} {ys xs : List V} (hD : H D = some (.lst ys)) (h : SqT K H a xs) : SqT K (hide D H) a xs := by
  rcases h with (h | ⟨o, h⟩) | h
  · exact .inl (.inl (hide_in h (ne_of h hD (by intro z; cases z))))
  · exact .inl (.inr ⟨o, hide_in h (ne_of h hD (by intro z; cases z))⟩)
  · exact .inr h
mutual
theorem dp_hide {K : PySem.W.Frag} {H : Hp} {D : Addr} {ys : List V} (hD : H D = some (.lst ys)) : ∀ (d : PyData) {v : V}, noLst d = true → Dp K H v d → Dp K (hide D H) v d
  | .none, _, _, .non => .non
  | .bool _, _, _, .bl b => .bl b
  | .int _, _, _, .int i => .int i
  | .str _, _, _, .str x => .str x
  | .list ds, _, n, _ => by cases (show false = true from n)
  | .tuple ds, _, n, .tup h hs => .tup (sqt_hide hD h) (dpa_hide hD ds n hs)
  | .dict _, _, _, h => by cases h
theorem dpa_hide {K : PySem.W.Frag} {H : Hp} {D : Addr} {ys : List V} (hD : H D = some (.lst ys)) : ∀ (ds : List PyData) {vs : List V}, noLsts ds = true → DpAll K H vs ds → DpAll K (hide D H) vs ds
  | [], _, _, .nil => .nil
  | d :: ds, _, n, .cons h hs => by
    have n' := Bool.and_eq_true_iff.mp (show (noLst d && noLsts ds) = true from n)
    exact .cons (dp_hide hD d n'.1 h) (dpa_hide hD ds n'.2 hs)
end
theorem noLsts_map {α : Type} {g : α → PyData} (h : ∀ x, noLst (g x) = true) : ∀ l : List α, noLsts (l.map g) = true
  | [] => rfl
  | x :: xs => by
    show (noLst (g x) && noLsts (xs.map g)) = true
    rw [h x, noLsts_map h xs]
    rfl
/-- the new list of a comprehension, D, behind the draw at d: what stands in it so far, as data -/
structure Grows (K : PySem.W.Frag) (H0 H : Hp) (d L D : Addr) (vs : List V) (ds : List PyData) : Prop where
  at_ : H D = some (.lst vs)
  all : DpAll K (hide D (hide d H)) vs ds
  dr : DrawAt H d L
  old : Same (hide d H0) (hide d H)
  nd : d ≠ D
  nL : L ≠ D
  fr : hide d H0 D = none
theorem Grows.start {K : PySem.W.Frag} {H : Hp} {d L D : Addr} (h : DrawAt H d L) (hD : H D = none) : Grows K H (upd H D (.lst [])) d L D [] [] :=
  ⟨upd_same, .nil, h.new hD, hide_new hD _, h.ne hD, h.neL hD, by rw [hide_ne (h.ne hD).symm]; exact hD⟩
/-- what a call leaves -/
theorem Grows.step {K : PySem.W.Frag} {H0 H H' : Hp} {d L D : Addr} {vs : List V} {ds : List PyData} (g : Grows K H0 H d L D vs ds) (h : DrawAt H' d L) (e : Same (hide d H) (hide d H')) : Grows K H0 H' d L D vs ds :=
  ⟨hide_le _ _ (e _ _ (hide_in g.at_ g.nd.symm)), dpa_mono (hide_same e) _ g.all, h, g.old.trans e, g.nd, g.nL, g.fr⟩
theorem Grows.push {K : PySem.W.Frag} {H0 H : Hp} {d L D : Addr} {vs : List V} {ds : List PyData} {v : V} {x : PyData} (g : Grows K H0 H d L D vs ds) (n : noLst x = true) (h : Dp K (hide d H) v x) : Grows K H0 (upd H D (.lst (vs ++ [v]))) d L D (vs ++ [v]) (ds ++ [x]) := by
  have h' := dp_hide (hide_in g.at_ g.nd.symm) x n h
  have e : Same (hide D (hide d H)) (hide D (hide d (upd H D (.lst (vs ++ [v]))))) := fun b o hb => by
    obtain ⟨h1, h2⟩ := hide_some hb
    obtain ⟨h3, h4⟩ := hide_some h2
    rw [hide_ne h1, hide_ne h3, upd_ne h1]
    exact h4
  refine ⟨upd_same, dpa_mono e _ (dpa_app g.all (dpa_one h')), g.dr.put _ g.nd g.nL, fun b o hb => ?_, g.nd, g.nL, g.fr⟩
  have hbD : b ≠ D := ne_of_none hb g.fr
  obtain ⟨h3, h4⟩ := hide_some (g.old _ _ hb)
  rw [hide_ne h3, upd_ne hbD]
  exact h4
theorem Grows.data {K : PySem.W.Frag} {H0 H : Hp} {d L D : Addr} {vs : List V} {ds : List PyData} (g : Grows K H0 H d L D vs ds) : DpAll K (hide d H) vs ds := dpa_mono hide_le _ g.all

/-! ### promises of the drawing -/
def spTop : Sp := fun vs H Q _ => ∃ n : Nat, vs = [.int n] ∧ n ≤ 1000 ∧ Q (.int (2 ^ n - 1)) H
def spDraw (K : PySem.W.Frag) : Sp := fun vs H Q _ => ∃ (a : Addr) (ns : List Int), vs = [.ref a] ∧ SqL K H a (ns.map V.int) ∧ ns.length ≤ 63 ∧ ∀ d L H', H d = none → H L = none → Same H H' → DrawAt H' d L → Q (.ref d) H'
def spTake : Sp := fun vs H Q _ => ∃ (d L : Addr) (m : Int), vs = [.ref d, .int m] ∧ 0 < m ∧ m < 1073741824 ∧ DrawAt H d L ∧ ∀ v H', 0 ≤ v → v < m → DrawAt H' d L → Same (hide d H) (hide d H') → Q (.int v) H'
def spWord : Sp := fun vs H Q _ => ∃ (d L : Addr) (n : Nat), vs = [.ref d, .int n] ∧ n ≤ 16 ∧ DrawAt H d L ∧ ∀ v H', 0 ≤ v → v < 2 ^ n → DrawAt H' d L → Same (hide d H) (hide d H') → Q (.int v) H'
def opsL : List V := [.str "add", .str "sub", .str "mul", .str "and", .str "or", .str "xor", .str "shl", .str "shr", .str "less", .str "equal"]
def opsS : List Str := ["add", "sub", "mul", "and", "or", "xor", "shl", "shr", "less", "equal"]
def spOps : Sp := fun vs H Q _ => vs = [] ∧ ∀ p H', H p = none → Same H H' → H' p = some (.lst opsL) → Q (.ref p) H'
end My

set_option autoImplicit false
/-! Clauses, pure: what units give, fillings. -/
namespace MC
open Classical
abbrev Cl := List Int
/-- the bit of an item -/
def lit (A : Int → Bool) (x : Int) : Bool := if 0 < x then A x else !A (-x)
def Keeps (A : Int → Bool) (cs : List Cl) : Prop := ∀ c ∈ cs, ∃ x ∈ c, lit A x = true
def Sat (cs : List Cl) : Prop := ∃ A, Keeps A cs
def Nz (cs : List Cl) : Prop := ∀ c ∈ cs, ∀ x ∈ c, x ≠ 0
theorem lit_neg {A : Int → Bool} {x : Int} (h : x ≠ 0) : lit A (-x) = !lit A x := by
  unfold lit
  by_cases c : 0 < x
  · have c2 : ¬ 0 < -x := by omega
    rw [if_pos c, if_neg c2, Int.neg_neg]
  · have c2 : 0 < -x := by omega
    rw [if_neg c, if_pos c2, Bool.not_not]
def rest (l : Int) (c : Cl) : Cl := c.filter fun x => decide (x ≠ -l)
def less (cs : List Cl) (l : Int) : List Cl := (cs.filter fun c => decide (l ∉ c)).map (rest l)
theorem mem_less {cs : List Cl} {l : Int} {d : Cl} : d ∈ less cs l ↔ ∃ c ∈ cs, l ∉ c ∧ rest l c = d := by
  unfold less
  rw [List.mem_map]
  constructor
  · rintro ⟨c, h, e⟩
    obtain ⟨h1, h2⟩ := List.mem_filter.mp h
    exact ⟨c, h1, of_decide_eq_true h2, e⟩
  · rintro ⟨c, h1, h2, e⟩
    exact ⟨c, List.mem_filter.mpr ⟨h1, decide_eq_true h2⟩, e⟩
theorem mem_rest {l x : Int} {c : Cl} : x ∈ rest l c ↔ x ∈ c ∧ x ≠ -l := by
  unfold rest
  rw [List.mem_filter]
  exact ⟨fun ⟨a, b⟩ => ⟨a, of_decide_eq_true b⟩, fun ⟨a, b⟩ => ⟨a, decide_eq_true b⟩⟩
theorem nz_less {cs : List Cl} {l : Int} (h : Nz cs) : Nz (less cs l) := fun d hd x hx => by
  obtain ⟨c, hc, _, rfl⟩ := mem_less.1 hd
  exact h c hc x (mem_rest.1 hx).1
theorem keeps_less {A : Int → Bool} {cs : List Cl} {l : Int} (hl : l ≠ 0) (h : Keeps A cs) (t : lit A l = true) : Keeps A (less cs l) := fun d hd => by
  obtain ⟨c, hc, _, rfl⟩ := mem_less.1 hd
  obtain ⟨x, hx, tx⟩ := h c hc
  refine ⟨x, mem_rest.2 ⟨hx, fun e => ?_⟩, tx⟩
  rw [e, lit_neg hl, t] at tx
  cases tx
def put (A : Int → Bool) (l : Int) : Int → Bool := fun v => if v = l then true else if v = -l then false else A v
theorem lit_put {A : Int → Bool} {l : Int} (hl : l ≠ 0) : lit (put A l) l = true := by
  unfold lit put
  by_cases c : 0 < l
  · rw [if_pos c, if_pos rfl]
  · rw [if_neg c, if_neg (by omega), if_pos rfl] <;> rfl
theorem lit_put_ne {A : Int → Bool} {l x : Int} (h1 : x ≠ l) (h2 : x ≠ -l) : lit (put A l) x = lit A x := by
  unfold lit put
  by_cases c : 0 < x
  · rw [if_pos c, if_pos c, if_neg h1, if_neg h2]
  · rw [if_neg c, if_neg c, if_neg (by omega), if_neg (by omega)]
theorem keeps_put {A : Int → Bool} {cs : List Cl} {l : Int} (hl : l ≠ 0) (h : Keeps A (less cs l)) : Keeps (put A l) cs := fun c hc => by
  by_cases m : l ∈ c
  · exact ⟨l, m, lit_put hl⟩
  · obtain ⟨x, hx, tx⟩ := h _ (mem_less.2 ⟨c, hc, m, rfl⟩)
    obtain ⟨x1, x2⟩ := mem_rest.1 hx
    have x3 : x ≠ l := fun e => m (by rw [← e]; exact x1)
    exact ⟨x, x1, by rw [lit_put_ne x3 x2]; exact tx⟩
theorem sat_less_of {cs : List Cl} {l : Int} (hl : l ≠ 0) (h : Sat (less cs l)) : Sat cs := by
  obtain ⟨A, h⟩ := h
  exact ⟨_, keeps_put hl h⟩
theorem sat_unit {cs : List Cl} {l : Int} (hl : l ≠ 0) (m : [l] ∈ cs) : Sat cs ↔ Sat (less cs l) := by
  refine ⟨fun ⟨A, h⟩ => ⟨A, keeps_less hl h ?_⟩, sat_less_of hl⟩
  obtain ⟨x, hx, t⟩ := h _ m
  rw [List.mem_singleton] at hx
  rw [← hx]
  exact t
theorem sat_split {cs : List Cl} {l : Int} (hl : l ≠ 0) : Sat cs ↔ Sat (less cs l) ∨ Sat (less cs (-l)) := by
  refine ⟨fun ⟨A, h⟩ => ?_, fun h => h.elim (sat_less_of hl) (sat_less_of (by omega))⟩
  cases t : lit A l with
  | true => exact .inl ⟨A, keeps_less hl h t⟩
  | false => exact .inr ⟨A, keeps_less (by omega) h (by rw [lit_neg hl, t] <;> rfl)⟩
theorem not_sat_empty {cs : List Cl} (h : [] ∈ cs) : ¬ Sat cs := fun ⟨A, k⟩ => by
  obtain ⟨x, hx, _⟩ := k _ h
  cases hx
theorem sat_nil : Sat [] := ⟨fun _ => true, fun c h => by cases h⟩
/-- some row is left empty -/
def Bare (cs : List Cl) (l : Int) : Prop := ∃ c ∈ cs, l ∉ c ∧ rest l c = []
theorem bare_iff {cs : List Cl} {l : Int} : Bare cs l ↔ [] ∈ less cs l := by
  rw [mem_less]
  exact Iff.rfl
/-! the variables: the law takes one at a time -/
def vars (cs : List Cl) : List Int := ((cs.flatten).map fun x => if 0 < x then x else -x).eraseDups
def Vin (n : Nat) (cs : List Cl) : Prop := ∃ vs : List Int, vs.length ≤ n ∧ ∀ c ∈ cs, ∀ x ∈ c, (x ∈ vs ∨ -x ∈ vs)
theorem vin_less {n : Nat} {cs : List Cl} {l : Int} {c0 : Cl} (h : Vin n cs) (hc : c0 ∈ cs) (m : l ∈ c0 ∨ -l ∈ c0) : ∃ k, n = k + 1 ∧ Vin k (less cs l) := by
  obtain ⟨vs, hl, hv⟩ := h
  have hm : l ∈ vs ∨ -l ∈ vs := by
    rcases m with m | m
    · exact hv c0 hc l m
    · rcases hv c0 hc _ m with z | z
      · exact .inr z
      · rw [Int.neg_neg] at z; exact .inl z
  have key : ∀ w : Int, w ∈ vs → (w = l ∨ w = -l) → ∃ k, n = k + 1 ∧ Vin k (less cs l) := fun w hw ew => by
    have hlen := List.length_erase_of_mem hw
    have hp : 0 < vs.length := List.length_pos_of_mem hw
    refine ⟨n - 1, by omega, vs.erase w, by omega, fun d hd x hx => ?_⟩
    obtain ⟨c, hc, hn, rfl⟩ := mem_less.1 hd
    obtain ⟨x1, x2⟩ := mem_rest.1 hx
    have x3 : x ≠ l := fun e => hn (by rw [← e]; exact x1)
    rcases hv c hc x x1 with z | z
    · exact .inl ((List.mem_erase_of_ne (by omega)).2 z)
    · exact .inr ((List.mem_erase_of_ne (by omega)).2 z)
  rcases hm with h | h
  · exact key l h (.inl rfl)
  · exact key _ h (.inr rfl)
/-! units -/
inductive Forced (cs : List Cl) (row : Cl) : Int → Prop
  | start {x : Int} : x ∈ row → Forced cs row (-x)
  | unit {c : Cl} {l : Int} : c ∈ cs → l ∈ c → (∀ x ∈ c, x ≠ l → Forced cs row (-x)) → Forced cs row l
def Conf (cs : List Cl) (row : Cl) : Prop := ∃ c ∈ cs, ∀ x ∈ c, Forced cs row (-x)
theorem forced_mono {cs ds : List Cl} {row : Cl} (h : ∀ c, c ∈ cs → c ∈ ds) {x : Int} (f : Forced cs row x) : Forced ds row x := by
  induction f with
  | start m => exact .start m
  | unit hc hl _ ih => exact .unit (h _ hc) hl ih
theorem conf_mono {cs ds : List Cl} {row : Cl} (h : ∀ c, c ∈ cs → c ∈ ds) (f : Conf cs row) : Conf ds row := by
  obtain ⟨c, hc, k⟩ := f
  exact ⟨c, h c hc, fun x hx => forced_mono h (k x hx)⟩
theorem forced_true {cs : List Cl} {row : Cl} {A : Int → Bool} (nz : Nz cs) (_nr : ∀ x ∈ row, x ≠ 0) (k : Keeps A cs) (r : ∀ x ∈ row, lit A (-x) = true) {x : Int} (f : Forced cs row x) : lit A x = true := by
  induction f with
  | start m => exact r _ m
  | @unit c l hc hl _ ih =>
    obtain ⟨x, hx, t⟩ := k c hc
    by_cases e : x = l
    · rw [← e]; exact t
    · have := ih x hx e
      rw [lit_neg (nz c hc x hx), t] at this
      cases this
theorem conf_unsat {cs : List Cl} {row : Cl} (nz : Nz cs) (nr : ∀ x ∈ row, x ≠ 0) (f : Conf cs row) : ¬ Sat (cs ++ row.map fun x => [-x]) := fun ⟨A, k⟩ => by
  obtain ⟨c, hc, h⟩ := f
  have k1 : Keeps A cs := fun c hc => k c (List.mem_append_left _ hc)
  have r : ∀ x ∈ row, lit A (-x) = true := fun x hx => by
    obtain ⟨y, hy, t⟩ := k [-x] (List.mem_append_right _ (List.mem_map.mpr ⟨x, hx, rfl⟩))
    rw [List.mem_singleton] at hy
    rw [← hy]; exact t
  obtain ⟨x, hx, t⟩ := k1 c hc
  have := forced_true nz nr k1 r (h x hx)
  rw [lit_neg (nz c hc x hx), t] at this
  cases this
/-! a set of given items that is closed -/
theorem conf_of {cs : List Cl} {row : Cl} {g : Int → Prop} (sound : ∀ x, g x → Forced cs row x) {c : Cl} (hc : c ∈ cs) (all : ∀ x ∈ c, g (-x)) : Conf cs row := ⟨c, hc, fun x hx => sound _ (all x hx)⟩
theorem not_conf {cs : List Cl} {row : Cl} {g : Int → Prop} (st : ∀ x ∈ row, g (-x)) (two : ∀ x, g x → ¬ g (-x)) (cl : ∀ c ∈ cs, (∃ x ∈ c, g x) ∨ ∃ x ∈ c, ∃ y ∈ c, x ≠ y ∧ ¬ g (-x) ∧ ¬ g (-y)) : ¬ Conf cs row := by
  have all : ∀ x, Forced cs row x → g x := by
    intro x f
    induction f with
    | start m => exact st _ m
    | @unit c l hc hl _ ih =>
      rcases cl c hc with ⟨x, hx, gx⟩ | ⟨x, hx, y, hy, ne, nx, ny⟩
      · by_cases e : x = l
        · rw [← e]; exact gx
        · exact absurd (ih x hx e) (two x gx)
      · by_cases e : x = l
        · exact absurd (ih y hy (fun z => ne (e.trans z.symm))) ny
        · exact absurd (ih x hx e) nx
  rintro ⟨c, hc, h⟩
  rcases cl c hc with ⟨x, hx, gx⟩ | ⟨x, hx, _, _, _, nx, _⟩
  · exact two x gx (all _ (h x hx))
  · exact nx (all _ (h x hx))
end MC

set_option Elab.async false
set_option maxRecDepth 100000
set_option maxHeartbeats 4000000
set_option linter.all false
/-! sorted(xs), of a list or of a set, the items alike data of any depth. -/
namespace My
open PySem PySem.Spec PyProof.Rows L2
open PySem.W (EachIs alike dataLt dataKind keyToks SortsAt AllAlike Sortable sortVals)
abbrev leD (p q : V × PyData) : Bool := PySem.W.sortLe (PyProof.Rows.listOrd PyProof.Rows.itemOrd) false (fun p : V × PyData => keyToks p.2) p q
theorem leD_lt {p q : V × PyData} : leD p q = !dataLt q.2 p.2 := rfl
/-- values and what they read as -/
def Twos (K : PySem.W.Frag) (H : Hp) (ps : List (V × PyData)) : Prop := ∀ p ∈ ps, Dp K H p.1 p.2
theorem twos_of {K : PySem.W.Frag} {H : Hp} : ∀ {xs : List V} {ds : List PyData}, DpAll K H xs ds → ∃ ps : List (V × PyData), ps.map (·.1) = xs ∧ ps.map (·.2) = ds ∧ Twos K H ps
  | _, _, .nil => ⟨[], rfl, rfl, fun p h => by cases h⟩
  | _, _, .cons (v := v) (d := d) h t => by
    obtain ⟨ps, h1, h2, h3⟩ := twos_of t
    refine ⟨(v, d) :: ps, by rw [List.map_cons, h1], by rw [List.map_cons, h2], fun p hp => ?_⟩
    rcases List.mem_cons.mp hp with e | hp
    · rw [e]; exact h
    · exact h3 p hp
theorem Twos.all {K : PySem.W.Frag} {H : Hp} : ∀ {ps : List (V × PyData)}, Twos K H ps → DpAll K H (ps.map (·.1)) (ps.map (·.2))
  | [], _ => .nil
  | p :: ps, h => .cons (h p List.mem_cons_self) (Twos.all fun q hq => h q (List.mem_cons_of_mem _ hq))
theorem each_vals : ∀ {ps : List (V × PyData)} {us : List Value}, Vals (ps.map (·.1)) us → EachIs (fun u (p : V × PyData) => RelV p.1 u) us ps
  | [], _, .nil => .nil
  | p :: ps, _, .cons r t => .cons r (each_vals t)
theorem vals_each : ∀ {ps : List (V × PyData)} {us : List Value}, EachIs (fun u (p : V × PyData) => RelV p.1 u) us ps → Vals (ps.map (·.1)) us
  | _, _, .nil => .nil
  | _, _, .cons r t => .cons r (vals_each t)
theorem each_snd {R : Value → PyData → Prop} : ∀ {us : List Value} {ps : List (V × PyData)}, EachIs (fun u (p : V × PyData) => R u p.2) us ps → EachIs R us (ps.map (·.2))
  | _, _, .nil => .nil
  | _, _, .cons r t => .cons r (each_snd t)
/-- what sorting gives -/
structure SortedD (ps qs : List (V × PyData)) : Prop where
  perm : qs.Perm ps
  asc : qs.Pairwise fun p q => dataLt q.2 p.2 = false
theorem sortedD_of (ps : List (V × PyData)) : SortedD ps (ps.mergeSort leD) where
  perm := List.mergeSort_perm _ _
  asc := by
    have := PySem.W.sort_pairwise (PySem.W.sortLe_total (PyProof.Rows.listOrd PyProof.Rows.itemOrd) false fun p : V × PyData => keyToks p.2) ps
    refine List.Pairwise.imp (fun {p q} h => ?_) this
    have h' : (!dataLt q.2 p.2) = true := h
    cases e : dataLt q.2 p.2 with
    | false => rfl
    | true => rw [e] at h'; cases h'
section
variable {X : Cx} {pins : List (Addr × Obj)} {σ : L2.St} {H : Hp} {s : Shared}
theorem reads_each (I : Inv X pins σ H s) : ∀ {ps : List (V × PyData)} {us : List Value}, Twos X.K H ps → Vals (ps.map (·.1)) us → EachIs (fun u (p : V × PyData) => ∃ as, Reads s.heap u p.2 as) us ps
  | [], _, _, .nil => .nil
  | p :: ps, _, h, .cons r t => .cons (Dp.reads I p.2 p.1 _ (h p List.mem_cons_self) r) (reads_each I (fun q hq => h q (List.mem_cons_of_mem _ hq)) t)
/-- the sorted values, told -/
theorem sorted_each {h : Heap} {ps : List (V × PyData)} {us : List Value} (hal : AllAlike (ps.map (·.2))) (r : Vals (ps.map (·.1)) us) (e : EachIs (fun u (p : V × PyData) => ∃ as, Reads h u p.2 as) us ps) : EachIs (fun u (p : V × PyData) => RelV p.1 u) (sortVals (dataKind h (ps.map (·.2))) false us us) (ps.mergeSort leD) := by
  refine PySem.W.sortVals_each (κ := dataKind h (ps.map (·.2))) (fun p : V × PyData => keyToks p.2) (each_vals r) ?_
  have key : ∀ {qs : List (V × PyData)} {us : List Value}, (∀ q ∈ qs, q ∈ ps) → EachIs (fun u (p : V × PyData) => ∃ as, Reads h u p.2 as) us qs → EachIs (fun v (b : V × PyData) => (dataKind h (ps.map (·.2))).keyOf v = some (keyToks b.2)) us qs := by
    intro qs us hq e
    induction e with
    | nil => exact .nil
    | @cons u p us qs h1 _ ih =>
      obtain ⟨as, h1⟩ := h1
      exact .cons (PySem.W.dataKind_some hal (List.mem_map.mpr ⟨p, hq p List.mem_cons_self, rfl⟩) h1) (ih fun q m => hq q (List.mem_cons_of_mem _ m))
  exact key (fun q m => m) e
theorem sorts_at {P : Program} {w : World} {A : Around} {s0 s1 : Shared} {ps : List (V × PyData)} {us : List Value} (e : EachIs (fun u (p : V × PyData) => ∃ as, Reads s0.heap u p.2 as) us ps) (kp : ∀ b o, s0.heap.get? b = some o → s1.heap.get? b = some o) (hal : AllAlike (ps.map (·.2))) (hk : Sortable (ps.map (·.2))) (hu : ∀ d, d ∈ ps.map (·.2) → A.units + d.depth < cLine) :
    SortsAt P w A s1 (dataKind s1.heap (ps.map (·.2))) us := by
  refine SortsAt.data (each_snd (R := fun u d => ∃ as, Reads s1.heap u d as) ?_) hal hk hu
  exact EachIs.mono (fun u p ⟨as, r⟩ => ⟨as, PyProof.Rows.Reads.keeps kp r⟩) e
/-- sorted(xs), xs a list -/
def rSortedD (K : PySem.W.Frag) : List V → Hp → VK → Prop := fun vs H Q => ∃ (a : Addr) (ps : List (V × PyData)), vs = [V.ref a] ∧ SqL K H a (ps.map (·.1)) ∧ Twos K H ps ∧ AllAlike (ps.map (·.2)) ∧ Sortable (ps.map (·.2)) ∧ (∀ p ∈ ps, p.2.depth ≤ 60) ∧
  ∀ qs p, SortedD ps qs → H p = none → Q (.ref p) (upd H p (.lst (qs.map (·.1))))
theorem cr_sortedD (hu : X.A.units + 64 < cLine) : CallR X (.builtin "sorted") (rSortedD X.K) := by
  intro pins s σ H vs us Q I r h
  obtain ⟨a, ps, rfl, hs, hd, hal, hk, hdp, q⟩ := h
  obtain ⟨its, rv, hl, hz⟩ := I.list hs
  obtain ⟨u, rfl, ru⟩ := vals1 r
  obtain rfl : u = Value.ref a := ru
  have e0 := reads_each I hd rv
  have kp1 : ∀ b o, s.heap.get? b = some o → (PySem.W.sortingHeap (PySem.W.copyHeap s.heap its) (s.heap.objs.size + 1) its).get? b = some o := fun b o e => PySem.W.sorting_copy_old e
  have S := sorts_at (P := X.prog) (w := X.w) (A := X.A.in1.in1) (s0 := s) (s1 := { s with heap := PySem.W.sortingHeap (PySem.W.copyHeap s.heap its) (s.heap.objs.size + 1) its }) e0 kp1 hal hk fun d m => by
    obtain ⟨p, hp, rfl⟩ := List.mem_map.mp m
    have := hdp p hp
    show X.A.units + 1 + 1 + p.2.depth < cLine
    omega
  refine PySem.W.sorted_vals hl.isList S (by rw [← rv.length]; exact hz) ?_
  have e1 : EachIs (fun u (p : V × PyData) => ∃ as, Reads (PySem.W.sortingHeap (PySem.W.copyHeap s.heap its) (s.heap.objs.size + 1) its) u p.2 as) its ps := EachIs.mono (fun u p ⟨as, r⟩ => ⟨as, PyProof.Rows.Reads.keeps kp1 r⟩) e0
  have out := vals_each (sorted_each hal rv e1)
  have hperm := (sortedD_of ps).perm
  obtain ⟨ep, he'⟩ := sortedAll_at s.heap its (sortVals (dataKind (PySem.W.sortingHeap (PySem.W.copyHeap s.heap its) (s.heap.objs.size + 1) its) (ps.map (·.2))) false its its).toArray
  refine ⟨.ref _, upd H (s.heap.objs.size + 1) (.lst ((ps.mergeSort leD).map (·.1))), I.laid (t' := s.toks) (fun _ _ => sortedAll_old) (Nat.le_succ _) ⟨?_, _, ep, out, he'⟩, rfl, q _ _ (sortedD_of ps) (I.hok.fresh (Nat.le_succ _))⟩
  rw [List.length_map, hperm.length_eq, ← List.length_map (f := (·.1))]
  exact hz
/-! ### a set, its values -/
structure SetV0 (w : World) (h : Heap) (a : Addr) (vs : List V) : Prop where
  ex : ∃ (es : Array (Int × Value)) (ep : Nat) (t : SetTable), (∃ o, h.get? a = some o ∧ o.ExactSet ∧ o.data = .set es ep t) ∧ t.fits es.size = true ∧ Ris t.place.toList ∧ (w.params.followText "set-order" = true ∨ t.led = true) ∧ es.size < 2000 ∧ Vals vs (es.toList.map (·.2))
def SetV (w : World) (a : Addr) (vs : List V) : HO := .ext fun h => SetV0 w h a vs
theorem setV_new {P : Program} {w : World} {H : Hp} {h : Heap} {a : Addr} {vs : List V} (R : SetV0 w h a vs) : ObjOk P w H h a (SetV w a vs) := by
  have ⟨es, ep, t, ⟨o, ho, r⟩, q⟩ := R.ex
  refine ⟨R, ⟨o, ho⟩, fun h1 h2 p k => ?_⟩
  have ⟨es', ep', t', ⟨o', ho', r'⟩, q'⟩ := SetV0.ex p
  exact ⟨es', ep', t', ⟨o', k o' ho', r'⟩, q'⟩
end
theorem each_perm {α β : Type} {R : α → β → Prop} : ∀ {us us' : List α}, us'.Perm us → ∀ {bs : List β}, EachIs R us bs → ∃ bs', EachIs R us' bs' ∧ bs'.Perm bs := by
  intro us us' p
  induction p with
  | nil => intro bs h; exact ⟨bs, h, .refl _⟩
  | cons x _ ih =>
    intro bs h
    cases h with
    | cons r t =>
      obtain ⟨bs', e, pm⟩ := ih t
      exact ⟨_ :: bs', .cons r e, pm.cons _⟩
  | swap x y l =>
    intro bs h
    cases h with
    | cons r t =>
      cases t with
      | cons r2 t2 => exact ⟨_, .cons r2 (.cons r t2), .swap _ _ _⟩
  | trans _ _ ih1 ih2 =>
    intro bs h
    obtain ⟨b2, e2, p2⟩ := ih2 h
    obtain ⟨b1, e1, p1⟩ := ih1 e2
    exact ⟨b1, e1, p1.trans p2⟩
section
variable {X : Cx}
/-- sorted(xs), xs a set -/
def rSortedS (K : PySem.W.Frag) (w : World) : List V → Hp → VK → Prop := fun vs H Q => ∃ (a : Addr) (ps : List (V × PyData)), vs = [V.ref a] ∧ H a = some (SetV w a (ps.map (·.1))) ∧ Twos K H ps ∧ AllAlike (ps.map (·.2)) ∧ Sortable (ps.map (·.2)) ∧ (∀ p ∈ ps, p.2.depth ≤ 60) ∧
  ∀ qs p, SortedD ps qs → H p = none → Q (.ref p) (upd H p (.lst (qs.map (·.1))))
theorem cr_sortedS (hc : X.calm = true) (hu : X.A.units + 64 < cLine) : CallR X (.builtin "sorted") (rSortedS X.K X.w) := by
  intro pins s σ H vs us Q I r h
  obtain ⟨a, ps, rfl, ha, hd, hal, hk, hdp, q⟩ := h
  have R : SetV0 X.w s.heap a (ps.map (·.1)) := (I.hok a _ ha).1
  obtain ⟨es, ep, t, ⟨o, ho, hex, hdt⟩, hf, hr, hl, hsz, rv⟩ := R.ex
  obtain ⟨u, rfl, ru⟩ := vals1 r
  obtain rfl : u = Value.ref a := ru
  have e0 := reads_each I hd rv
  refine Calls.call_function_entry kind_sorted plain_sorted entry_sorted (args_sorted1 _) ?_
  unfold Builtin.«sorted»
  refine wpAny_bind (m := checkCount "sorted" 1 1 _) (wpAny_pure ?_)
  refine wpAny_bind (collect_set (A := X.A.in1) (I.ok.hd hc) ⟨o, ho, hex.1, hdt⟩ hf (by unfold scanBound; omega) hr hl fun s1 vs k1 hz g1 o1 pm => ?_)
  obtain ⟨ps1, e1, pm1⟩ := each_perm pm (R := fun u (p : V × PyData) => RelV p.1 u ∧ ∃ as, Reads s.heap u p.2 as) (bs := ps) (by
    have := each_vals rv
    have key : ∀ {us : List Value} {ps : List (V × PyData)}, EachIs (fun u (p : V × PyData) => RelV p.1 u) us ps → EachIs (fun u (p : V × PyData) => ∃ as, Reads s.heap u p.2 as) us ps → EachIs (fun u (p : V × PyData) => RelV p.1 u ∧ ∃ as, Reads s.heap u p.2 as) us ps := by
      intro us ps h1 h2
      induction h1 with
      | nil => exact .nil
      | cons a _ ih =>
        cases h2 with
        | cons b t => exact .cons ⟨a, b⟩ (ih t)
    exact key this e0)
  have hvl : vs.length < 2000 := by
    rw [pm.length_eq, List.length_map, Array.length_toList]
    exact hsz
  have hvz : vs.length ≤ sizeLine := by rw [sizeLine_eq]; omega
  refine wpAny_bind (wpAny_newList ?_ hvz)
  have hoL : (s1.heap.push (seqObj "list" vs.toArray 0)).get? s1.heap.objs.size = some (seqObj "list" vs.toArray 0) := Heap.get?_push_size _ rfl
  have kp1 : ∀ b o, s.heap.get? b = some o → (PySem.W.sortingHeap (s1.heap.push (seqObj "list" vs.toArray 0)) s1.heap.objs.size vs).get? b = some o := fun b o e => by
    have e2 := k1 b o e
    exact PySem.W.sortingHeap_old (Nat.ne_of_lt (Heap.lt_size e2)) (Heap.get?_push_of_some _ e2)
  have hal1 : AllAlike (ps1.map (·.2)) := fun d hd d' hd' => hal d ((pm1.map (·.2)).mem_iff.mp hd) d' ((pm1.map (·.2)).mem_iff.mp hd')
  have hk1 : Sortable (ps1.map (·.2)) := by
    rcases hk with k | k
    · exact .inl fun d m => k d ((pm1.map (·.2)).mem_iff.mp m)
    · exact .inr fun d m => k d ((pm1.map (·.2)).mem_iff.mp m)
  have er : EachIs (fun u (p : V × PyData) => ∃ as, Reads s.heap u p.2 as) vs ps1 := EachIs.mono (fun u p h => h.2) e1
  have S := sorts_at (P := X.prog) (w := X.w) (A := X.A.in1.in1) (s0 := s) (s1 := { s1 with heap := PySem.W.sortingHeap (s1.heap.push (seqObj "list" vs.toArray 0)) s1.heap.objs.size vs }) er kp1 hal1 hk1 fun d m => by
    obtain ⟨p, hp, rfl⟩ := List.mem_map.mp m
    have := hdp p (pm1.mem_iff.mp hp)
    show X.A.units + 1 + 1 + p.2.depth < cLine
    omega
  refine wpAny_bind (wpAny_holding (wpAny_call_entry slot_list_sort ⟨_, hoL, rfl⟩ entry_list_sort (PySem.W.list_sort_vals (s := { s1 with heap := s1.heap.push (seqObj "list" vs.toArray 0) }) hoL S hvz ⟨_, rfl, ?_⟩) (args_list_sort _)))
  have rv1 : Vals (ps1.map (·.1)) vs := vals_each (EachIs.mono (fun u p h => h.1) e1)
  have out := vals_each (sorted_each hal1 rv1 (EachIs.mono (fun u p ⟨as, r⟩ => ⟨as, PyProof.Rows.Reads.keeps kp1 r⟩) er))
  have sd := sortedD_of ps1
  obtain ⟨c, hc'⟩ := sortedHeap_at (vs := vs) (out := (sortVals (dataKind (PySem.W.sortingHeap (s1.heap.push (seqObj "list" vs.toArray 0)) s1.heap.objs.size vs) (ps1.map (·.2))) false vs vs).toArray) hoL
  have hn : H s1.heap.objs.size = none := I.hok.fresh hz
  have keep : ∀ b u, s.heap.get? b = some u → (sortedHeap (s1.heap.push (seqObj "list" vs.toArray 0)) s1.heap.objs.size vs (sortVals (dataKind (PySem.W.sortingHeap (s1.heap.push (seqObj "list" vs.toArray 0)) s1.heap.objs.size vs) (ps1.map (·.2))) false vs vs).toArray).get? b = some u := fun b u e => by
    have q := k1 b u e
    have hlt := Heap.lt_size q
    rw [sortedHeap_old (Nat.ne_of_lt hlt) (by rw [size_push']; exact Nat.lt_succ_of_lt hlt)]
    exact Heap.get?_push_of_some _ q
  have hlen : ((ps1.mergeSort leD).map (·.1)).length ≤ sizeLine := by
    rw [List.length_map, sd.perm.length_eq, ← List.length_map (f := (·.1)), rv1.length]
    exact hvz
  have J : Inv X pins σ (upd H s1.heap.objs.size (.lst ((ps1.mergeSort leD).map (·.1)))) { s with heap := _, gens := s1.gens, drawn := s1.drawn, toks := s1.toks } :=
    I.call (ch := []) (Un.laid keep hz hn) (I.hok.laid keep hz ⟨hlen, _, c, out, hc'⟩) (by rw [g1]; exact I.bare) (fun _ z => nomatch z)
  have e2 : ∀ hh : Heap, ({ heap := hh, gens := s1.gens, drawn := s1.drawn, toks := s1.toks, os := s1.os } : Shared) = { s with heap := hh, gens := s1.gens, drawn := s1.drawn, toks := s1.toks } := fun hh => by rw [o1]
  refine wpAny_pure ⟨_, rfl, ?_⟩
  show EP X pins σ Q _ ({ heap := _, gens := s1.gens, drawn := s1.drawn, toks := s1.toks, os := s1.os } : Shared)
  rw [e2]
  exact ⟨.ref s1.heap.objs.size, _, J, rfl, q _ _ ⟨sd.perm.trans pm1, sd.asc⟩ hn⟩
end
end My

set_option Elab.async false
set_option maxRecDepth 100000
set_option maxHeartbeats 4000000
set_option linter.all false
/-! Rules that the clauses' laws share. -/
namespace My
open PySem L2
theorem ints_all {K : PySem.W.Frag} {H : Hp} : ∀ c : List Int, DpAll K H (c.map V.int) (c.map PyData.int)
  | [] => .nil
  | x :: c => .cons (.int x) (ints_all c)
theorem inV_ints {x : Int} : ∀ {ms : List Int}, inV (.int x) (ms.map V.int) = decide (x ∈ ms)
  | [] => by simp [inV]
  | y :: ys => by
    have ih := inV_ints (x := x) (ms := ys)
    unfold inV at ih ⊢
    rw [List.map_cons, List.any_cons, ih]
    show (y == x || decide (x ∈ ys)) = decide (x ∈ y :: ys)
    by_cases h : y = x
    · subst h
      simp
    · have h' : ¬ x = y := fun e => h e.symm
      simp [h, h']
theorem flat_ints : ∀ ms : List Int, (ms.map V.int).all flatV = true
  | [] => rfl
  | x :: ms => by rw [List.map_cons, List.all_cons, flat_ints ms] <;> rfl
/-! rules within a comprehension: the fragment named from outside -/
section
variable {X : Cx} {K : PySem.W.Frag}
theorem ix_seqK (h : X.K = K) : IxR X (rIx K) := h ▸ ix_seq
theorem ix_listK (h : X.K = K) : IxR X (rIxL K) := h ▸ ix_list
theorem ix_tupK (h : X.K = K) : IxR X (rIxT K) := h ▸ ix_tup
theorem call_len_seqK (h : X.K = K) : CallR X (.builtin "len") (fun xs H Q => ∃ p ys, xs = [.ref p] ∧ (SqL K H p ys ∨ SqT K H p ys) ∧ Q (.int ys.length) H) := h ▸ call_len_seq
theorem op_in_seqK (h : X.K = K) : OpR X (compareOp .In) (rIn K false) := h ▸ op_in_seq
theorem op_notIn_seqK (h : X.K = K) : OpR X (compareOp .NotIn) (rIn K true) := h ▸ op_notIn_seq
theorem op_neDK (h : X.K = K) (hu : X.A.units + 64 < cLine) : OpR X (compareOp .NotEq) (rNeD K) := h ▸ op_neD hu
theorem op_eqDK (h : X.K = K) (hu : X.A.units + 64 < cLine) : OpR X (compareOp .Eq) (rEqD K) := h ▸ op_eqD hu
end
section
variable {X : Cx} {tg : Expr}
/-- over a list or a tuple -/
def iSeq (K : PySem.W.Frag) (tl : TE) : TI := fun σ H R => tl σ H fun x H1 => ∃ a, x = .ref a ∧ (((∃ xs, SqL K H1 a xs) ∧ R (Itl K a) H1) ∨ ((∃ xs, SqT K H1 a xs) ∧ R (Itt K a) H1))
theorem pi_seq {l : Expr} {tl : TE} (hl : PE X l tl) : PI X tg l (iSeq X.K tl) := by
  refine ⟨fun pins s σ H R I h => ?_⟩
  refine thn (hl.run pins s σ H _ I h) fun v s1 ⟨x, H1, I1, r1, q1⟩ => ?_
  have none' : ∀ b ∈ [s1.heap.objs.size], FpOk X pins H1 b := fun b hb => by
    have e : b = s1.heap.objs.size := by simpa using hb
    rw [e]
    exact I1.fpOk (Nat.le_refl _) (I1.hok.fresh (Nat.le_refl _))
  obtain ⟨a, rfl, ⟨⟨xs, hq⟩, q⟩ | ⟨⟨xs, hq⟩, q⟩⟩ := q1
  · obtain ⟨its, _, p, _⟩ := I1.list hq
    obtain rfl : v = Value.ref a := r1
    exact wpAny_pyIter_list p.isList ⟨_, _, _, _, H1, rfl, I1.kept (t' := s1.toks) fun b o e => Heap.get?_push_of_some _ e, turn_list a _, ⟨_, Heap.get?_push_size _ rfl, rfl, rfl⟩, none', q⟩
  · obtain ⟨its, _, p, _⟩ := I1.tuple hq
    obtain rfl : v = Value.ref a := r1
    exact wpAny_pyIter_tuple (show s1.heap.IsTuple a its.toArray from p) ⟨_, _, _, _, H1, rfl, I1.kept (t' := s1.toks) fun b o e => Heap.get?_push_of_some _ e, turn_tuple a _, ⟨_, Heap.get?_push_size _ rfl, rfl, rfl⟩, none', q⟩
end
end My

set_option Elab.async false
set_option maxRecDepth 100000
set_option maxHeartbeats 4000000
set_option linter.all false
namespace My
open PySem PySem.Spec L2
theorem yesV {σ : L2.St} {H : Hp} {Q : Bool → Hp → Prop} (h : Q true H) : tYes σ H Q := h
theorem take_nextV {α : Type} {l : List α} {i : Nat} {x : α} (h : l[i]? = some x) : l.take (i + 1) = l.take i ++ [x] := by
  rw [List.take_add_one, h]
  rfl
theorem lenV {n : Nat} (h : n ≤ 1000) : n < sizeLine := Nat.lt_of_le_of_lt h (by decide)
/-- [f(x) for x in t], t a tuple -/
theorem lc_mapT {K : PySem.W.Frag} {a : Addr} {xs : List V} {k : Nat} {te : TE} {vs : List Nat} {σ : L2.St} {H1 : Hp} {D : Addr} {Qd : Hp → Prop} (f : V → V) (ha : SqT K H1 a xs) (hl : xs.length ≤ 1000) (hD : H1 D = none) (hw : ∀ x, wipe ((wipe σ vs).set k (some x)) vs = wipe σ vs)
    (he : ∀ y H2 (R : VK), y ∈ xs → Same H1 H2 → R (f y) H2 → te ((wipe σ vs).set k (some y)) H2 R)
    (hq : ∀ H2, H2 D = some (.lst (xs.map f)) → Same H1 H2 → Qd H2) :
    ∃ W : Nat → Nat → Hp → Prop, (∃ m, W 0 m (upd H1 D (.lst []))) ∧ ∀ i m H, W i m H →
      ((Itt K a).stop i H ∧ Qd H) ∨ ((Itt K a).go i H ∧ ∃ Nx : Hp → Prop, (∀ H', Nx H' → ∃ m', m' < m ∧ W (i + 1) m' H') ∧ ∀ x H', (Itt K a).yld i H x H' → gName k x (wipe σ vs) H' fun σ2 H2 => wipe σ2 vs = wipe σ vs ∧ tYes σ2 H2 fun b H3 =>
        if b = true then te σ2 H3 fun y H4 => ∃ acc, H4 D = some (.lst acc) ∧ acc.length < sizeLine ∧ Nx (upd H4 D (.lst (acc ++ [y]))) else Nx H3) := by
  refine lc_tup (K := K) (a := a) (xs := xs) (fun i H2 => H2 D = some (.lst ((xs.take i).map f)) ∧ Same H1 H2 ∧ i ≤ xs.length) ⟨upd_same, same_new hD _, Nat.zero_le _⟩ (fun i H2 _ ⟨_, s, _⟩ => sqt_mono s ha) ?_ ?_
  · rintro i y H2 hi ⟨h1, s, _⟩
    have hi' : i < xs.length := (List.getElem?_eq_some_iff.mp hi).1
    refine ⟨hw y, ?_⟩
    refine yesV ?_
    rw [if_pos rfl]
    refine he y H2 _ (List.mem_of_getElem? hi) s ⟨_, h1, ?_, ?_, fun b o hb => ?_, hi'⟩
    · rw [List.length_map, List.length_take]
      exact lenV (by omega)
    · rw [upd_same, take_nextV hi, List.map_append] <;> rfl
    · rw [upd_ne (ne_of_none hb hD)]
      exact s b o hb
  · rintro H2 ⟨h1, s, _⟩
    rw [List.take_length] at h1
    exact hq H2 h1 s
/-- [f(x) for x in xs], xs a list -/
theorem lc_mapL {K : PySem.W.Frag} {a : Addr} {xs : List V} {k : Nat} {te : TE} {vs : List Nat} {σ : L2.St} {H1 : Hp} {D : Addr} {Qd : Hp → Prop} (f : V → V) (ha : SqL K H1 a xs) (hl : xs.length ≤ 1000) (hD : H1 D = none) (hw : ∀ x, wipe ((wipe σ vs).set k (some x)) vs = wipe σ vs)
    (he : ∀ y H2 (R : VK), y ∈ xs → Same H1 H2 → R (f y) H2 → te ((wipe σ vs).set k (some y)) H2 R)
    (hq : ∀ H2, H2 D = some (.lst (xs.map f)) → Same H1 H2 → Qd H2) :
    ∃ W : Nat → Nat → Hp → Prop, (∃ m, W 0 m (upd H1 D (.lst []))) ∧ ∀ i m H, W i m H →
      ((Itl K a).stop i H ∧ Qd H) ∨ ((Itl K a).go i H ∧ ∃ Nx : Hp → Prop, (∀ H', Nx H' → ∃ m', m' < m ∧ W (i + 1) m' H') ∧ ∀ x H', (Itl K a).yld i H x H' → gName k x (wipe σ vs) H' fun σ2 H2 => wipe σ2 vs = wipe σ vs ∧ tYes σ2 H2 fun b H3 =>
        if b = true then te σ2 H3 fun y H4 => ∃ acc, H4 D = some (.lst acc) ∧ acc.length < sizeLine ∧ Nx (upd H4 D (.lst (acc ++ [y]))) else Nx H3) := by
  refine lc_list (K := K) (a := a) (xs := xs) (fun i H2 => H2 D = some (.lst ((xs.take i).map f)) ∧ Same H1 H2 ∧ i ≤ xs.length) ⟨upd_same, same_new hD _, Nat.zero_le _⟩ (fun i H2 _ ⟨_, s, _⟩ => sql_mono s ha) ?_ ?_
  · rintro i y H2 hi ⟨h1, s, _⟩
    have hi' : i < xs.length := (List.getElem?_eq_some_iff.mp hi).1
    refine ⟨hw y, ?_⟩
    refine yesV ?_
    rw [if_pos rfl]
    refine he y H2 _ (List.mem_of_getElem? hi) s ⟨_, h1, ?_, ?_, fun b o hb => ?_, hi'⟩
    · rw [List.length_map, List.length_take]
      exact lenV (by omega)
    · rw [upd_same, take_nextV hi, List.map_append] <;> rfl
    · rw [upd_ne (ne_of_none hb hD)]
      exact s b o hb
  · rintro H2 ⟨h1, s, _⟩
    rw [List.take_length] at h1
    exact hq H2 h1 s
/-- [f(x) for x in xs], where the heap may grow -/
theorem lc_mapLS {K : PySem.W.Frag} {a : Addr} {xs : List V} {k : Nat} {te : TE} {vs : List Nat} {σ : L2.St} {H1 : Hp} {D : Addr} {Qd : Hp → Prop} (f : V → V) (ha : SqL K H1 a xs) (hl : xs.length ≤ 1000) (hD : H1 D = none) (hw : ∀ x, wipe ((wipe σ vs).set k (some x)) vs = wipe σ vs)
    (he : ∀ y H2 (R : VK), y ∈ xs → Same H1 H2 → (∀ H3, Same H2 H3 → R (f y) H3) → te ((wipe σ vs).set k (some y)) H2 R)
    (hq : ∀ H2, H2 D = some (.lst (xs.map f)) → Same H1 H2 → Qd H2) :
    ∃ W : Nat → Nat → Hp → Prop, (∃ m, W 0 m (upd H1 D (.lst []))) ∧ ∀ i m H, W i m H →
      ((Itl K a).stop i H ∧ Qd H) ∨ ((Itl K a).go i H ∧ ∃ Nx : Hp → Prop, (∀ H', Nx H' → ∃ m', m' < m ∧ W (i + 1) m' H') ∧ ∀ x H', (Itl K a).yld i H x H' → gName k x (wipe σ vs) H' fun σ2 H2 => wipe σ2 vs = wipe σ vs ∧ tYes σ2 H2 fun b H3 =>
        if b = true then te σ2 H3 fun y H4 => ∃ acc, H4 D = some (.lst acc) ∧ acc.length < sizeLine ∧ Nx (upd H4 D (.lst (acc ++ [y]))) else Nx H3) := by
  refine lc_list (K := K) (a := a) (xs := xs) (fun i H2 => H2 D = some (.lst ((xs.take i).map f)) ∧ Same H1 H2 ∧ i ≤ xs.length) ⟨upd_same, same_new hD _, Nat.zero_le _⟩ (fun i H2 _ ⟨_, s, _⟩ => sql_mono s ha) ?_ ?_
  · rintro i y H2 hi ⟨h1, s, _⟩
    have hi' : i < xs.length := (List.getElem?_eq_some_iff.mp hi).1
    refine ⟨hw y, ?_⟩
    refine yesV ?_
    rw [if_pos rfl]
    refine he y H2 _ (List.mem_of_getElem? hi) s fun H3 s3 => ⟨_, s3 _ _ h1, ?_, ?_, fun b o hb => ?_, hi'⟩
    · rw [List.length_map, List.length_take]
      exact lenV (by omega)
    · rw [upd_same, take_nextV hi, List.map_append] <;> rfl
    · rw [upd_ne (ne_of_none hb hD)]
      exact s3 _ _ (s b o hb)
  · rintro H2 ⟨h1, s, _⟩
    rw [List.take_length] at h1
    exact hq H2 h1 s
end My

set_option Elab.async false
set_option maxRecDepth 100000
set_option maxHeartbeats 400000
set_option linter.all false
/-! enumerate(xs, start=1) as a loop or in a comprehension. -/
namespace My
open PySem PySem.Spec PyProof.Rows L2
theorem draws_shift {prog : Program} {w : World} {A : Around} {it : Addr} {fp : List Addr} {n : Nat} {P : Nat → Value → Prop} {St : Nat → Heap → Prop} (D : Draws prog w A it fp n P St) : Draws prog w A it fp (n + 1) (fun i x => P (i - 1) x) (fun i h => 1 ≤ i ∧ St (i - 1) h) where
  live := fun i h st => D.live _ h st.2
  frame := fun i h h' st k => ⟨st.1, D.frame _ h h' st.2 k⟩
  item := fun i s Q E hi st hQ => D.item (i - 1) s Q E (by have := st.1; omega) st.2 fun x h' tk p q r => hQ x h' tk p ⟨Nat.succ_le_succ (Nat.zero_le _), by
    have e : i + 1 - 1 = i - 1 + 1 := by have := st.1; omega
    rw [e]; exact q⟩ r
  done := fun s Q E st hE => D.done s Q E st.2 hE
/-- the list at a, each item in a new pair with its number from 1 on -/
def Ite1 (K : PySem.W.Frag) (a : Addr) : It :=
  ⟨fun i H => ∃ (xs : List V) (x : V), SqL K H a xs ∧ xs[i]? = some x, fun i H v H' => ∃ T x, v = .ref T ∧ H T = none ∧ H' = upd H T (.tup [.int ((i + 1 : Nat) : Int), x]) ∧ ∀ xs, SqL K H a xs → xs[i]? = some x, fun i H => ∃ xs : List V, SqL K H a xs ∧ xs.length = i⟩
theorem turn_enum1 {P : Program} {w : World} {K : PySem.W.Frag} {elts : List Expr} {kk : Nat} {tpos : Pos} (a e it : Addr) (hat : a ≠ it) (hae : a ≠ e) :
    Turn P w K (.Tuple elts kk tpos) (Ite1 K a) [e, it] e (fun i h => (∃ old, IsEnum h e it ((i + 1 : Nat) : Int) old) ∧ h.IsListIter it a i ∧ e ≠ it) where
  mem := by simp
  obj := fun i h st b hb => by
    obtain ⟨⟨old, he⟩, ⟨o, ho, hc, hd⟩, _⟩ := st
    have e' : b = e ∨ b = it := by simpa using hb
    rcases e' with z | z
    · rw [z]; exact ⟨_, he, fun v q => nomatch q⟩
    · rw [z]; exact ⟨o, ho, fun v q => by rw [hd] at q; cases q⟩
  keep := fun i h h' st k => let ⟨⟨old, he⟩, hi, hne⟩ := st; ⟨⟨old, k e (by simp) _ he⟩, hi.at fun o q => k it (by simp) o q, hne⟩
  item := by
    intro X hP hw hK hc i pins s σ H E I hf st hg
    subst hP hw hK
    obtain ⟨⟨old, he⟩, hit, hne⟩ := st
    obtain ⟨xs, x, hq, hx⟩ := hg
    obtain ⟨its, rv, p, hz⟩ := I.list hq
    obtain ⟨u, hu, ru⟩ := rv.get hx
    have hel : e < s.heap.objs.size := Heap.lt_size he
    have hil : it < s.heap.objs.size := by obtain ⟨_, q, _⟩ := hit; exact Heap.lt_size q
    have hiu : i < its.length := (List.getElem?_eq_some_iff.mp hu).1
    have DD := draws_shift (Draws.list (prog := X.prog) (w := X.w) (A := X.A.in1) (I.ok.hd hc) it a hat its.toArray)
    refine wpAny_pyNext_enum_itemD DD (i := i + 1) he ⟨Nat.succ_le_succ (Nat.zero_le _), hit, p.isList⟩ (by rw [List.size_toArray]; omega) hne (by simp [hne, Ne.symm hae]) fun x' h' tk px ho st' hT hsz hk => ?_
    have ex : x' = u := by
      have px' : its.toArray[i]? = some x' := px
      have : its.toArray[i]? = some u := by simpa using hu
      rw [this] at px'
      exact (Option.some.inj px').symm
    subst ex
    refine ⟨_, rfl, wpAny_letOwnedTupleGo_enum (s := { s with heap := h', toks := tk + 1 }) ho fun h'' he' sb => ?_⟩
    have hT2 : h''.get? s.heap.objs.size = some { cls := .type "tuple", data := .seq #[.int ((i + 1 : Nat) : Int) tk, x'] } := (sb.2 _ (Nat.ne_of_gt hel)).trans hT
    have new : ObjOk X.prog X.w (upd H s.heap.objs.size (.tup [.int ((i + 1 : Nat) : Int), x])) h'' s.heap.objs.size (.tup [.int ((i + 1 : Nat) : Int), x]) :=
      ⟨by show 2 ≤ sizeLine; decide, [.int ((i + 1 : Nat) : Int) tk, x'], .cons ⟨_, rfl⟩ (.cons ru .nil), ⟨_, hT2, rfl, _, rfl⟩⟩
    have I1 : Inv X pins σ (upd H s.heap.objs.size (.tup [.int ((i + 1 : Nat) : Int), x])) { s with heap := h'', toks := tk + 1 } :=
      I.turnedNew (ch := [e, it]) (fun b ob hb q => (sb.2 b (fun z => hb (by simp [z]))).trans (hk b ob (fun z => hb (by simp [z])) (fun z => hb (by simp [z])) q)) hf (Nat.le_refl _) new
    refine ⟨.ref s.heap.objs.size, _, I1, rfl, ⟨_, x, rfl, I.hok.fresh (Nat.le_refl _), rfl, fun ys hy => by rw [I.list_inj hy hq]; exact hx⟩, ⟨⟨x', ?_⟩, st'.2.1.at fun o q => (sb.2 it (Ne.symm hne)).trans q, hne⟩, fun b hb => ?_⟩
    · have e1 : ((i + 1 + 1 : Nat) : Int) = ((i + 1 : Nat) : Int) + 1 := by omega
      rw [e1]; exact he'
    · have hb' : b < s.heap.objs.size := by
        have e' : b = e ∨ b = it := by simpa using hb
        rcases e' with z | z
        · rw [z]; exact hel
        · rw [z]; exact hil
      rw [upd_ne (Nat.ne_of_lt hb')]
      exact (hf b hb).1
  done := by
    intro X hP hw hK hc i pins s σ H E I hf st hg
    subst hP hw hK
    obtain ⟨⟨old, he⟩, hit, hne⟩ := st
    obtain ⟨xs, hq, hx⟩ := hg
    obtain ⟨its, rv, p, hz⟩ := I.list hq
    obtain ⟨f0, f1, f2, f3, f4, f5⟩ := hf it (by simp)
    have hl := rv.length
    have DD := draws_shift (Draws.list (prog := X.prog) (w := X.w) (A := X.A.in1) (I.ok.hd hc) it a hat its.toArray)
    refine wpAny_pyNext_enum_endD DD he ⟨Nat.succ_le_succ (Nat.zero_le _), ?_, p.isList⟩ fun h' eb => ⟨rfl, I.turned (t' := s.toks) (fun b o hb q => eb b o hb q) f0 f1 f3 f4 f5⟩
    have ei : its.toArray.size = i := by rw [List.size_toArray]; omega
    show s.heap.IsListIter it a (its.toArray.size + 1 - 1)
    rw [ei]
    exact hit
  self := fun A i s Q E st h => let ⟨⟨_, he⟩, _⟩ := st; wpAny_pyIter_enum he h
section
variable {M : Model} {A : Around} {E : Value → Shared → Prop} {s : Shared} {env : Env}
theorem callWith_typeKwB {pos : Pos} {id : String} {first : List Value} {args : List (Bool × Sem Value)} {keywords : List (Option Str × Sem Value)} {Q : Value → Shared → Prop}
    (hplain : args.any (·.1) = false) (hkw : keywords.any (·.1.isNone) = false)
    (h : wpAny M A (evalArgs (.type id) true args keywords) (fun a s₁ => wpAny M A (call (.type id) (first ++ a.pos) a.kw) Q E s₁) E s) :
    wpAny M A (callWith pos (.type id) first args keywords) Q E s := by
  unfold callWith
  refine wpAny_bind (wpAny_holding (wpAny_mono h (fun a s₁ h₁ => wpAny_bind (wpAny_standAt ?_)) fun _ _ x => x))
  simp only [hplain, hkw, Bool.or_false]
  refine wpAny_bind (wpAny_pure ?_)
  exact wpAny_bind (wpAny_mono h₁ (fun r s₂ hr => wpAny_bind (wpAny_holding (wpAny_point (wpAny_pure hr)))) fun _ _ x => x)
theorem callWith_typeKw {pos : Pos} {id : String} {e : Expr} {rest : List Expr} {kws : List Keyword} {Q : Value → Shared → Prop}
    (h : wpAny M A (spliced (backTo pos (starEach (e :: rest) env))) (fun vs s₁ => wpAny M A (evalAll ((backToKw pos (keywordEach kws env)).map (·.2)))
      (fun kvs s₂ => wpAny M A (call (.type id) vs (((backToKw pos (keywordEach kws env)).filterMap (·.1)).zip kvs)) Q E s₂) E s₁) E s)
    (he : backTo pos (starEach (e :: rest) env) = (false, eval e env) :: backTo pos (starEach rest env))
    (hplain : (backTo pos (starEach (e :: rest) env)).any (·.1) = false)
    (hall : (backToKw pos (keywordEach kws env)).all (·.1.isSome) = true)
    (hkw : (backToKw pos (keywordEach kws env)).any (·.1.isNone) = false) :
    wpAny M A (callWith pos (.type id) [] (backTo pos (starEach (e :: rest) env)) (backToKw pos (keywordEach kws env))) Q E s := by
  refine callWith_typeKwB hplain hkw ?_
  rw [he] at h ⊢
  exact PyProof.Rows.evalArgs_kwB hall h
end
def iEnum1 (K : PySem.W.Frag) (ta : TE) : TI := fun σ H R => ta σ H fun x H1 => ∃ a xs, x = .ref a ∧ SqL K H1 a xs ∧ R (Ite1 K a) H1
theorem pi_enum1 {X : Cx} {K : PySem.W.Frag} (hK : X.K = K) {e : Expr} {ta : TE} {p pos tpos kpos : Pos} {elts : List Expr} {kk : Nat} {j : Nat} {jp : Pos} (hg : Gl X "enumerate") (hm : X.mg "enumerate" = none) (ha : PE X e ta)
    (hs : starEach [e] X.env = (false, eval e X.env) :: starEach [] X.env := by rfl) (hb : backTo pos (starEach [e] X.env) = (false, eval e X.env) :: backTo pos (starEach [] X.env) := by rfl) (hpl : (backTo pos (starEach [e] X.env)).any (·.1) = false := by rfl) :
    PI X (.Tuple elts kk tpos) (.Call (.Name "enumerate" p) [e] [⟨some "start", .Constant (.int 1) j jp, kpos⟩] pos) (iEnum1 K ta) := by
  subst hK
  refine ⟨fun pins s σ H R I h => ?_⟩
  have h' : tCons ta tNil σ H (fun vs H1 => match vs with
    | [x] => ∃ a xs, x = .ref a ∧ SqL X.K H1 a xs ∧ R (Ite1 X.K a) H1
    | _ => False) := h
  refine wpAny_Call_Name_kw (ld_blt I hg hm boot_enumerate ?_)
  refine callWith_typeKw (thn ((pa_cons ha pa_nil hs).run pos pins s σ H _ I h') fun us s1 ⟨vs, H1, I1, r1, q1⟩ => ?_) hb hpl rfl rfl
  obtain ⟨x, rfl⟩ : ∃ x, vs = [x] := by
    match vs, q1 with
    | [x], _ => exact ⟨x, rfl⟩
  obtain ⟨a, xs, rfl, hq, q⟩ := q1
  obtain rfl := Vals.ref1 r1
  refine wpAny_evalAll_cons (wpAny_bind (wpAny_Constant_int (wpAny_bind (wpAny_standAt (wpAny_pure (wpAny_evalAll_nil ?_))))))
  have I1' := I1.tok (s1.toks + 1)
  obtain ⟨its, rv, p', hz⟩ := I1'.list hq
  have hal : a < s1.heap.objs.size := by
    obtain ⟨o, ho, _⟩ := p'.isList
    exact Heap.lt_size ho
  refine enum_begins_start (begins_list a its.toArray) p'.isList (by decide) (by decide) fun h' he hit hsz hk => wpAny_pyIter_enum he ?_
  have I2 : Inv X pins σ H1 { s1 with heap := h', toks := s1.toks + 1 } := I1'.kept (t' := s1.toks + 1) hk
  refine ⟨s1.heap.objs.size + 1, [s1.heap.objs.size + 1, s1.heap.objs.size], _, _, H1, rfl, I2, turn_enum1 a (s1.heap.objs.size + 1) s1.heap.objs.size (Nat.ne_of_lt hal) (Nat.ne_of_lt (Nat.lt_succ_of_lt hal)), ⟨⟨.none, he⟩, ⟨_, hit, rfl, rfl⟩, Nat.succ_ne_self _⟩, fun b hb => ?_, q⟩
  have e' : b = s1.heap.objs.size + 1 ∨ b = s1.heap.objs.size := by simpa using hb
  have hle : s1.heap.objs.size ≤ b := by
    rcases e' with z | z
    · rw [z]; exact Nat.le_add_right _ _
    · rw [z]; exact Nat.le_refl _
  exact I1.fpOk hle (I1.hok.fresh hle)
theorem walk_enum1 {K : PySem.W.Frag} {a : Addr} {xs : List V} : Walk (Ite1 K a) xs.length (fun H => SqL K H a xs) (YPair (fun i => some (.int ((i + 1 : Nat) : Int))) (fun i => xs[i]?)) := by
  refine ⟨fun i _ hi q => ⟨xs, xs[i], q, by simp [hi]⟩, fun _ q => ⟨xs, q, rfl⟩, fun i H v H' _ q y => ?_⟩
  obtain ⟨T, x, h1, h2, h3, h4⟩ := y
  exact ⟨T, .int ((i + 1 : Nat) : Int), x, h1, h2, h3, rfl, h4 xs q⟩
end My

set_option Elab.async false
set_option maxRecDepth 100000
set_option maxHeartbeats 4000000
set_option linter.all false
/-! sorted(t, key=abs), t a tuple of whole numbers. -/
namespace PyProof.Rows
open PySem
section
variable {prog : Program} {w : World} {A : Around} {E : Value → Shared → Prop} {s : Shared} {h₀ : Heap} {L l : Addr} {m : Str → Option Value} {news : List (Addr × Obj)} {b : Bool} {vs : List Value} {Q : Value → Shared → Prop}
theorem my_sortedTup {kz : List Int} {f : Value} {kw : List (Str × Value)} (F : Fr h₀ L s.heap m) (N : News h₀ L s.heap news) (hl : IsTup s.heap l vs.toArray) (hlen : kz.length = vs.length) (hZ : vs.length ≤ sizeLine)
    (ha1 : argsOk "sorted" ⟨[.ref l], kw⟩) (ha2 : ∀ x, argsOk "list.sort" ⟨[.ref x], kw⟩) (ht : ∀ x, Builtin.«list.sort» ⟨[.ref x], kw⟩ = ksk_tree x f b)
    (turn : ∀ (i : Nat) (v : Value) (k : Int), vs[i]? = some v → kz[i]? = some k → ∀ (h : Heap) (tk : Nat) (own : List (Addr × Obj)), Fr h₀ L h m → News h₀ L h (news ++ own) →
      wpAny (model prog w) A.in1.in1 (call f [v]) (KskEnd h₀ L m (news ++ own) k { s with heap := h, toks := tk }) (fun _ _ => False) { s with heap := h, toks := tk })
    (h : ∀ D h' tk out c, Fr h₀ L h' m → News h₀ L h' ((D, seqObj "list" out c) :: news) → (∀ q ∈ news, q.1 < D) → KskOut b kz vs out.toList → Q (.ref D) { s with heap := h', toks := tk }) :
    wpAny (model prog w) A (call (.builtin "sorted") [.ref l] kw) Q E s := by
  have hZ2 := hZ
  rw [sizeLine_eq] at hZ2
  obtain ⟨o, ho, hc, n, hd⟩ := hl
  refine call_function_entry_kw kind_sorted plain_sorted entry_sorted ha1 ?_
  unfold Builtin.«sorted»
  refine wpAny_bind (m := checkCount "sorted" 1 1 _) (wpAny_pure ?_)
  refine wpAny_bind (wpAny_collect_seq l (.inr rfl) ho hc hd (fun h1 k1 => ?_) (by show vs.toArray.size ≤ _; rw [List.size_toArray]; exact hZ))
  have el : vs.toArray.toList = vs := by simp
  rw [el]
  refine wpAny_bind (wpAny_newList ?_ (by rw [sizeLine_eq]; omega))
  have hoL : (h1.push (seqObj "list" vs.toArray 0)).get? h1.objs.size = some (seqObj "list" vs.toArray 0) := Heap.get?_push_size _ rfl
  have keep : ∀ b o, s.heap.get? b = some o → (h1.push (seqObj "list" vs.toArray 0)).get? b = some o := fun b o q => Heap.get?_push_of_some _ (k1 b o q)
  have up : ∀ b o, s.heap.get? b = some o → b < h1.objs.size := fun b o q => Heap.lt_size (k1 b o q)
  obtain ⟨oL, hoL0⟩ : ∃ o, s.heap.get? L = some o := by
    obtain ⟨o, _, _, e, _⟩ := F.ns
    exact ⟨o, e⟩
  have hL : L < h1.objs.size := up L oL hoL0
  show wpAny _ _ _ _ _ { s with heap := h1.push (seqObj "list" vs.toArray 0) }
  refine wpAny_bind (wpAny_holding (wpAny_call_entry_kw slot_list_sort ⟨_, hoL, rfl⟩ entry_list_sort ?body (ha2 _)))
  case body =>
    show wpAny (model prog w) A.in1.in1 (Builtin.«list.sort» ⟨[.ref h1.objs.size], kw⟩) _ _ _
    rw [ht h1.objs.size]
    refine ksk_sortAny (s := { s with heap := h1.push (seqObj "list" vs.toArray 0) })
      (F.kept keep) (N.grown keep) hoL (Nat.ne_of_gt hL) (Heap.get?_none_of_le (Nat.le_trans F.above (Nat.le_of_lt hL)))
      (fun p hp => Nat.ne_of_lt (up _ _ (N p hp).1)) hlen hZ turn fun h' tk out c F' N' k' => ⟨_, rfl, ?_⟩
    exact wpAny_pure ⟨_, rfl, h _ h' tk out c F' N' (fun q hq => up _ _ (N q hq).1) k'⟩
end
end PyProof.Rows
namespace My
open PySem PySem.Spec PyProof.Rows L2
/-- all that stands apart from the frame and what stood at the beginning -/
def othersOf (base h : Heap) (L : Addr) : List (Addr × Obj) := (List.range h.objs.size).filterMap fun b => if b = L then none else match base.get? b with
  | some _ => none
  | none => (h.get? b).map fun o => (b, o)
theorem others_news (base h : Heap) (L : Addr) : News base L h (othersOf base h L) := fun p hp => by
  obtain ⟨b, _, e⟩ := List.mem_filterMap.mp hp
  by_cases hb : b = L
  · rw [if_pos hb] at e; cases e
  · rw [if_neg hb] at e
    cases hq : base.get? b with
    | some o => rw [hq] at e; cases e
    | none =>
      rw [hq] at e
      obtain ⟨o, ho, rfl⟩ := Option.map_eq_some_iff.mp e
      exact ⟨ho, hb, hq⟩
theorem others_mem {base h : Heap} {L b : Addr} {o : Obj} (hb : b ≠ L) (hq : base.get? b = none) (ho : h.get? b = some o) : (b, o) ∈ othersOf base h L := by
  refine List.mem_filterMap.mpr ⟨b, List.mem_range.mpr (Heap.lt_size ho), ?_⟩
  rw [if_neg hb, hq, ho]
  rfl
theorem objok_some {P : Program} {w : World} {H : Hp} {h : Heap} {a : Addr} {o : HO} (x : ObjOk P w H h a o) : ∃ ob, h.get? a = some ob := by
  cases o with
  | lst xs => obtain ⟨_, _, _, _, e⟩ := x; exact ⟨_, e⟩
  | tup xs => obtain ⟨_, _, _, ob, e, _⟩ := x; exact ⟨ob, e⟩
  | dK kvs => obtain ⟨_, _, _, _, o, _, _, e, _⟩ := x; exact ⟨_, e⟩
  | dT kvs => obtain ⟨_, _, _, _, o, _, _, e, _⟩ := x; exact ⟨_, e⟩
  | set S n => obtain ⟨o, _, _, _, e, _⟩ := x; exact ⟨_, e⟩
  | ins C dx fs => obtain ⟨_, _, _, e, _⟩ := x; exact ⟨_, e⟩
  | own y => obtain ⟨_, e⟩ := x; exact ⟨_, e⟩
  | xd fs => obtain ⟨_, ⟨_, _, _, e, _⟩, _⟩ := x; exact ⟨_, e⟩
  | rng lo hi => obtain ⟨_, _, _, e⟩ := x; exact ⟨_, e⟩
  | frz ob u => obtain ⟨e, _⟩ := x; exact ⟨_, e⟩
  | tbl ps => exact ⟨_, (show h.get? a = some _ from x)⟩
  | met f y => exact ⟨_, (show h.get? a = some (PySem.W.methodObj (.ref f) (.ref y)) from x)⟩
  | ext φ => obtain ⟨p, ⟨o, e⟩, st⟩ := x; exact ⟨o, e⟩
def rSortAbsT (K : PySem.W.Frag) : List V → Hp → VK → Prop := fun vs H Q => ∃ (a : Addr) (ns : List Int), vs = [V.ref a] ∧ SqT K H a (ns.map V.int) ∧ ∀ (ns' : List Int) (p : Addr), ns'.Perm ns → ns'.Pairwise (fun x y => (if x < 0 then -x else x) ≤ (if y < 0 then -y else y)) → H p = none → Q (.ref p) (upd H p (.lst (ns'.map V.int)))
theorem absSort_run {X : Cx} {pins : List (Addr × Obj)} {s : Shared} {σ : L2.St} {H : Hp} {a : Addr} {ns : List Int} {Q : VK} (I : Inv X pins σ H s) (hs : SqT X.K H a (ns.map V.int))
    (q : ∀ (ns' : List Int) (p : Addr), ns'.Perm ns → ns'.Pairwise (fun x y => (if x < 0 then -x else x) ≤ (if y < 0 then -y else y)) → H p = none → Q (.ref p) (upd H p (.lst (ns'.map V.int)))) :
    wpAny (model X.prog X.w) X.A (call (.builtin "sorted") [.ref a] [(Str.ofString "key", .builtin "abs")]) (EP X pins σ Q) X.xe s := by
  obtain ⟨its, rv, hl, hz⟩ := I.tuple hs
  have hi := ints_of_vals rv
  obtain ⟨m, F⟩ := I.fr
  have hlen := hi.length
  rw [List.length_map] at hz
  refine my_sortedTup (b := false) (kz := ns.map fun x => if x < 0 then -x else x) F (others_news X.base s.heap X.env.locals) hl (by rw [List.length_map, hlen]) (by omega) (ksk_s1 _ _) (fun _ => ksk_l1 _ _) (fun x => ksk_t4 "abs" x) (fun i v k hv hk h tk own F' N' => ?_) fun D h' tk out c F' N' l1 ko => ?_
  · rw [List.getElem?_map] at hk
    cases e : ns[i]? with
    | none => rw [e] at hk; simp at hk
    | some n =>
      rw [e] at hk
      cases hk
      obtain ⟨t, ht'⟩ := hi.get i n e
      rw [ht'] at hv
      cases hv
      exact call_abs_int fun u tk' => KskEnd.intro F' N' fun p hp => hp
  · obtain ⟨ps, hp, ho, hs'⟩ := ko
    have hrel : ∀ p, p ∈ (ns.map fun x => if x < 0 then -x else x).zip its → p.1 = (fun x : Int => if x < 0 then -x else x) (numOf p.2) ∧ p.2 ∈ its := by
      rw [← hi.nums, List.map_map, List.zip_map_left]
      intro p hp
      obtain ⟨⟨u, v⟩, hq, rfl⟩ := List.mem_map.mp hp
      have h1 : u = v ∧ u ∈ its := mem_zip_self hq
      refine ⟨?_, ?_⟩
      · show (fun x : Int => if x < 0 then -x else x) (numOf u) = (fun x : Int => if x < 0 then -x else x) (numOf v)
        rw [h1.1]
      · show v ∈ its
        rw [← h1.1]
        exact h1.2
    have hI : IntsAre (ps.map Prod.snd) ((ps.map Prod.snd).map numOf) := intsAre_map _ fun v hv => by
      obtain ⟨p, hp', rfl⟩ := List.mem_map.mp hv
      exact hi.all _ (hrel p (hp.mem_iff.mp hp')).2
    have hP : ((ps.map Prod.snd).map numOf).Perm ns := by
      have h1 := (hp.map Prod.snd).map numOf
      rw [List.map_snd_zip (by rw [List.length_map]; omega), hi.nums] at h1
      exact h1
    have hO : ((ps.map Prod.snd).map numOf).Pairwise (fun x y => (if x < 0 then -x else x) ≤ (if y < 0 then -y else y)) := by
      rw [List.pairwise_map, List.pairwise_map]
      refine hs'.imp_of_mem fun {p q} hp' hq' hr => ?_
      have hr' : p.1 ≤ q.1 := hr
      rw [(hrel p (hp.mem_iff.mp hp')).1, (hrel q (hp.mem_iff.mp hq')).1] at hr'
      exact hr'
    rw [← ho] at hI hP hO
    have ND := N' _ (.head _)
    have old : ∀ b o, b ≠ X.env.locals → s.heap.get? b = some o → h'.get? b = some o := fun b o hb e => by
      cases hq : X.base.get? b with
      | some o' =>
        have := F.keep b o' hq
        rw [e] at this
        cases this
        exact F'.keep b o hq
      | none => exact (N' _ (.tail _ (others_mem hb hq e))).1
    have newD : s.heap.get? D = none := by
      cases e : s.heap.get? D with
      | none => rfl
      | some o => exact absurd (l1 _ (others_mem ND.2.1 ND.2.2 e)) (Nat.lt_irrefl _)
    have hD : H D = none := by
      cases e : H D with
      | none => rfl
      | some u =>
        obtain ⟨ob, h1⟩ := objok_some (I.hok D u e)
        rw [newD] at h1
        cases h1
    have nL : ∀ b u, H b = some u → b ≠ X.env.locals := fun b u e z => by rw [z, I.free] at e; cases e
    have nD : ∀ b o, s.heap.get? b = some o → b ≠ D := fun b o e z => by rw [z, newD] at e; cases e
    have hlen2 : (((out.toList).map numOf).map V.int).length ≤ sizeLine := by rw [List.length_map, hP.length_eq]; omega
    refine ⟨.ref D, upd H D (.lst (((out.toList).map numOf).map V.int)), ?_, rfl, q _ _ hP hO hD⟩
    refine I.step (g' := s.gens) (d' := s.drawn) (ch := []) (fun b hb => nomatch hb) (fun b o hL _ _ e _ => old b o hL e) (fun b o hL _ _ e _ => ⟨o.slots, old b o hL e⟩) (fun b o _ e n => by rw [upd_ne (nD b o e)]; exact n)
      (fun b o _ e => ?_) (fun b xs e => ?_) (fun b o u e => ?_) (fun b ps e => ?_) (fun m' hm => ?_) (fun b u e => ?_) I.bare
    · by_cases hb : b = X.env.locals
      · obtain ⟨o', _, _, h1, _⟩ := F'.ns
        exact ⟨o', by rw [hb]; exact h1⟩
      · exact ⟨o, old b o hb e⟩
    · rw [upd_ne (fun z => by rw [z, hD] at e; cases e)]; exact e
    · rw [upd_ne (fun z => by rw [z, hD] at e; cases e)]; exact e
    · rw [upd_ne (fun z => by rw [z, hD] at e; cases e)]
      exact ⟨#[], by rw [e]; simp⟩
    · obtain ⟨o1, es1, ep1, a1, a2, a3, a4⟩ := hm
      obtain ⟨o2, es2, ep2, b1, b2, b3, b4⟩ := F.ns
      rw [a1] at b1
      cases b1
      rw [a2] at b2
      cases b2
      have em : m' = m := funext fun x => (a4 x).symm.trans (b4 x)
      rw [em]
      exact F'.ns
    · by_cases hb : b = D
      · rw [hb, upd_same] at e
        cases e
        rw [hb]
        refine ⟨hlen2, out.toList, c, vals_of_ints hI, ?_⟩
        have := ND.1
        simpa using this
      · rw [upd_ne hb] at e
        have nb := nL b u e
        refine (I.hok b u e).stay (fun c' v hc q' => old c' v ?_ q') (fun c' q' => ?_) fun c' xs q' => ?_
        · rcases hc with z | z
          · rw [z]; exact nb
          · exact nL c' _ z
        · rw [upd_ne (fun z => by rw [z, hD] at q'; cases q')]; exact q'
        · rw [upd_ne (fun z => by rw [z, hD] at q'; cases q')]; exact q'
def tSortAbs (K : PySem.W.Frag) (te : TE) : TE := fun σ H Q => te σ H fun x H1 => ∃ (a : Addr) (ns : List Int), x = V.ref a ∧ SqT K H1 a (ns.map V.int) ∧ ∀ (ns' : List Int) (p : Addr), ns'.Perm ns → ns'.Pairwise (fun x y => (if x < 0 then -x else x) ≤ (if y < 0 then -y else y)) → H1 p = none → Q (.ref p) (upd H1 p (.lst (ns'.map V.int)))
theorem pe_sortedAbs {X : Cx} {K : PySem.W.Frag} (hK : X.K = K) {e : Expr} {te : TE} {p p2 pos kpos : Pos} (he : PE X e te) (hg : Gl X "sorted") (hm : X.mg "sorted" = none) (hg2 : Gl X "abs") (hm2 : X.mg "abs" = none)
    (hs : starEach [e] X.env = (false, eval e X.env) :: starEach [] X.env := by rfl) (hb : backTo pos (starEach [e] X.env) = (false, eval e X.env) :: backTo pos (starEach [] X.env) := by rfl) (hpl : (backTo pos (starEach [e] X.env)).any (·.1) = false := by rfl) :
    PE X (.Call (.Name "sorted" p) [e] [⟨some "key", .Name "abs" p2, kpos⟩] pos) (tSortAbs K te) := by
  subst hK
  refine ⟨fun pins s σ H Q I h => ?_⟩
  refine wpAny_Call_Name_kw (ld_blt I hg hm boot_sorted ?_)
  have h' : tCons te tNil σ H (fun vs H1 => match vs with
    | [x] => ∃ (a : Addr) (ns : List Int), x = V.ref a ∧ SqT X.K H1 a (ns.map V.int) ∧ ∀ (ns' : List Int) (p : Addr), ns'.Perm ns → ns'.Pairwise (fun x y => (if x < 0 then -x else x) ≤ (if y < 0 then -y else y)) → H1 p = none → Q (.ref p) (upd H1 p (.lst (ns'.map V.int)))
    | _ => False) := h
  refine PyProof.Rows.callWith_kw (thn ((pa_cons he pa_nil hs).run pos pins s σ H _ I h') fun us s1 ⟨vs, H1, I1, r1, q1⟩ => ?_) hb hpl rfl rfl
  obtain ⟨x, rfl⟩ : ∃ x, vs = [x] := by
    match vs, q1 with
    | [x], _ => exact ⟨x, rfl⟩
  obtain ⟨a, ns, rfl, hs, q⟩ := q1
  obtain rfl := Vals.ref1 r1
  refine wpAny_evalAll_cons (wpAny_bind (ld_blt I1 hg2 hm2 boot_abs (wpAny_bind (wpAny_standAt (wpAny_pure (wpAny_evalAll_nil ?_))))))
  exact absSort_run I1 hs q
end My

set_option Elab.async false
set_option maxRecDepth 100000
set_option maxHeartbeats 4000000
set_option linter.all false
/-! A comprehension of new data, over whatever is walked. -/
namespace My
open PySem PySem.Spec L2
section
variable {X : Cx} {K : PySem.W.Frag}
theorem call_tuple_ofK (h : X.K = K) : CallR X (.type "tuple") (fun xs H Q => ∃ p ys, xs = [.ref p] ∧ ((SqL K H p ys ∧ ∀ l, H l = none → Q (.ref l) (upd H l (.tup ys))) ∨ (SqT K H p ys ∧ Q (.ref p) H))) := h ▸ call_tuple_of
theorem op_catTK (h : X.K = K) : OpR X (binaryOp .Add) (rCatT K) := h ▸ op_catT
theorem op_catAK (h : X.K = K) : OpR X (binaryOp .Add) (rCatA K) := h ▸ op_catA
theorem op_catK (h : X.K = K) : OpR X (binaryOp .Add) rCat := op_cat
theorem pe_fldK {e : Expr} {f : Str} {pos : Pos} {ta : TE} (h : X.K = K) (he : PE X e ta) (hb : attributeBase e f X.env (eval e X.env) = eval e X.env) : PE X (.Attribute e f pos) (tFld K ta f) := h ▸ pe_fld he hb
end
/-- W by the turn and what was made so far -/
theorem lc_gen {K : PySem.W.Frag} {J : It} {n : Nat} {G : Hp → Prop} {Y : Nat → Hp → V → Hp → Prop} (w : Walk J n G Y) {g : TG} {tt : TT} {te : TE} {vs : List Nat} {σ : L2.St} {H1 : Hp} {D : Addr} {Qd : Hp → Prop}
    (W : Nat → List PyData → Prop) (h0 : W 0 []) (hn : n ≤ 100000) (hD : H1 D = none) (hG : ∀ H, Same H1 H → G H)
    (he : ∀ i x H2 H3 ds (Nx : Hp → Prop) (Add : VK), i < n → W i ds → Same H1 H2 → H2 D ≠ none → Y i H2 x H3 → (∀ H4, Same H2 H4 → W (i + 1) ds → Nx H4) →
      (∀ v d H4, Same H2 H4 → Dp K (hide D H4) v d → W (i + 1) (ds ++ [d]) → Add v H4) → g x (wipe σ vs) H3 fun σ2 H4 => wipe σ2 vs = wipe σ vs ∧ tt σ2 H4 fun b H5 => if b = true then te σ2 H5 Add else Nx H5)
    (hq : ∀ H2 zs ds, H2 D = some (.lst zs) → DpAll K (hide D H2) zs ds → W n ds → Same H1 H2 → Qd H2) :
    ∃ W : Nat → Nat → Hp → Prop, (∃ m, W 0 m (upd H1 D (.lst []))) ∧ ∀ i m H, W i m H →
      (J.stop i H ∧ Qd H) ∨ (J.go i H ∧ ∃ Nx : Hp → Prop, (∀ H', Nx H' → ∃ m', m' < m ∧ W (i + 1) m' H') ∧ ∀ x H', J.yld i H x H' → g x (wipe σ vs) H' fun σ2 H2 => wipe σ2 vs = wipe σ vs ∧ tt σ2 H2 fun b H3 =>
        if b = true then te σ2 H3 fun y H4 => ∃ acc, H4 D = some (.lst acc) ∧ acc.length < sizeLine ∧ Nx (upd H4 D (.lst (acc ++ [y]))) else Nx H3) := by
  refine lc_it w (fun i H => ∃ zs ds, H D = some (.lst zs) ∧ DpAll K (hide D H) zs ds ∧ W i ds ∧ zs.length ≤ i ∧ Same H1 H) ⟨[], [], upd_same, .nil, h0, Nat.le_refl _, same_new hD _⟩ (fun i H _ ⟨_, _, _, _, _, _, s⟩ => hG H s) ?_ ?_
  · rintro i x H2 H3 hi ⟨zs, ds, hz, hd, hw, hl, s⟩ hy
    refine he i x H2 H3 ds _ _ hi hw s (by rw [hz]; intro z; cases z) hy (fun H4 s4 w4 => ⟨zs, ds, s4 _ _ hz, dpa_mono (hide_same s4) _ hd, w4, by omega, s.trans s4⟩) fun v d H4 s4 hv w4 => ?_
    refine ⟨zs, s4 _ _ hz, Nat.lt_of_le_of_lt (by omega : zs.length ≤ 100000) (by decide), zs ++ [v], ds ++ [d], upd_same, ?_, w4, by rw [List.length_append, List.length_singleton]; omega, ?_⟩
    · exact dpa_mono (hide_put _) _ (dpa_app (dpa_mono (hide_same s4) _ hd) (dpa_one hv))
    · intro b o hb
      rw [upd_ne (ne_of_none hb hD)]
      exact s4 _ _ (s b o hb)
  · rintro H ⟨zs, ds, hz, hd, hw, _, s⟩
    exact hq H zs ds hz hd hw s
/-- a dict comprehension over whatever is walked -/
theorem dc_it {J : It} {n : Nat} {G : Hp → Prop} {Y : Nat → Hp → V → Hp → Prop} (w : Walk J n G Y) {g : TG} {tt : TT} {tk tv : TE} {vs : List Nat} {σ : L2.St} {H1 : Hp} {D : Addr} {Qd : Hp → Prop} (Pv : Nat → Hp → Prop) (h0 : Pv 0 (upd H1 D (.dK []))) (hG : ∀ i H, i ≤ n → Pv i H → G H)
    (hs : ∀ i x H H', i < n → Pv i H → Y i H x H' → g x (wipe σ vs) H' fun σ2 H2 => wipe σ2 vs = wipe σ vs ∧ tt σ2 H2 fun b H3 =>
      if b = true then tk σ2 H3 fun y H4 => tv σ2 H4 fun z H5 => ∃ kvs k, y = kV k ∧ H5 D = some (.dK kvs) ∧ kvs.length < sizeLine ∧ Pv (i + 1) (upd H5 D (.dK (putK kvs k z))) else Pv (i + 1) H3) (hd : ∀ H, Pv n H → Qd H) :
    ∃ W : Nat → Nat → Hp → Prop, (∃ m, W 0 m (upd H1 D (.dK []))) ∧ ∀ i m H, W i m H →
      (J.stop i H ∧ Qd H) ∨ (J.go i H ∧ ∃ Nx : Hp → Prop, (∀ H', Nx H' → ∃ m', m' < m ∧ W (i + 1) m' H') ∧ ∀ x H', J.yld i H x H' → g x (wipe σ vs) H' fun σ2 H2 => wipe σ2 vs = wipe σ vs ∧ tt σ2 H2 fun b H3 =>
        if b = true then tk σ2 H3 fun y H4 => tv σ2 H4 fun z H5 => ∃ kvs k, y = kV k ∧ H5 D = some (.dK kvs) ∧ kvs.length < sizeLine ∧ Nx (upd H5 D (.dK (putK kvs k z))) else Nx H3) := by
  refine ⟨fun i m H => m = n - i ∧ i ≤ n ∧ Pv i H, ⟨n, by simp, Nat.zero_le _, h0⟩, ?_⟩
  rintro i m H ⟨rfl, hi, p⟩
  have q := hG i H hi p
  by_cases hlt : i < n
  · exact .inr ⟨w.goes i H hlt q, Pv (i + 1), fun H' p' => ⟨n - (i + 1), by omega, rfl, hlt, p'⟩, fun x H' y => hs i x H H' hlt p (w.yields i H x H' hlt q y)⟩
  · have e : i = n := by omega
    subst e
    exact .inl ⟨w.stops H q, hd H p⟩
end My

set_option Elab.async false
set_option maxRecDepth 100000
set_option maxHeartbeats 4000000
set_option linter.all false
/-! Sets of nested tuples (whole numbers, texts, None, tuples of such), fewer than 64: set(xs), sorted(set(xs)). -/
namespace My
open PySem PySem.Spec PyProof.Rows L2
abbrev NK := NestedKey
abbrev hN (w : World) (k : NK) : Int := NestedKey.hash w k
/-- the tuple at a is the key k -/
abbrev IsN (h : Heap) (k : NK) (a : Addr) : Prop := NestedIs h k (.ref a) ∧ k.depth ≤ 8
theorem IsN.keep {h h' : Heap} {k : NK} {a : Addr} (x : IsN h k a) (kp : ∀ b o, h.get? b = some o → h'.get? b = some o) : IsN h' k a := ⟨NestedIs.at (fun b o _ _ e _ => kp b o e) k _ x.1, x.2⟩
theorem IsN.but {h h' : Heap} {k : NK} {a d : Addr} {o : Obj} {es : Array (Int × Value)} {ep : Nat} {t : SetTable} (x : IsN h k a) (ho : h.get? d = some o) (hd : o.data = .set es ep t) (sb : Heap.SameBut d h h') : IsN h' k a :=
  ⟨NestedIs.at (fun b u vs n e c => (sb.2 b fun z => by
    subst z
    rw [ho] at e
    cases e
    rw [hd] at c
    cases c).trans e) k _ x.1, x.2⟩
section
variable {P : Program} {w : World}
/-- a walk that asks each item and goes on -/
theorem ask_each {A : Around} {E : Value → Shared → Prop} {s : Shared} {β : Type} {b0 : β} {body : Value → β → Sem (ForInStep β)} {Q : β → Shared → Prop} :
    ∀ (vs : List Value), (∀ v ∈ vs, ∀ (Q' : ForInStep β → Shared → Prop), Q' (.yield b0) s → (∀ b, Q b s → Q' (.done b) s) → wpAny (model P w) A (body v b0) Q' E s) → Q b0 s → wpAny (model P w) A (forIn vs b0 body) Q E s
  | [], _, h => wpAny_pure h
  | v :: vs, hb, h => by
    rw [List.forIn_cons]
    exact wpAny_bind (hb v List.mem_cons_self _ (ask_each vs (fun u hu => hb u (List.mem_cons_of_mem _ hu)) h) fun b q => wpAny_pure q)
mutual
/-- no class statement made it -/
theorem cls_key : ∀ (k : NK) (v : Value) (n : Nat) (s : Shared), NestedIs s.heap k v → k.depth ≤ n → ∀ (A : Around) (E : Value → Shared → Prop) (Q : Bool → Shared → Prop), Q false s → wpAny (model P w) A (ofAClassStatement n v) Q E s
  | .none, _, n, s, x, _, A, E, Q, h => by cases x; cases n <;> exact wpAny_pure h
  | .num i, _, n, s, x, _, A, E, Q, h => by cases x <;> cases n <;> exact wpAny_pure h
  | .text y, _, n, s, x, _, A, E, Q, h => by cases x; cases n <;> exact wpAny_pure h
  | .tup ks, _, n, s, x, hn, A, E, Q, h => by
    cases x with
    | @tup a o vs m _ ho hc hd hk =>
      simp only [NestedKey.depth] at hn
      cases n with
      | zero => omega
      | succ n =>
        have hT : s.TypeIs (.ref a) "tuple" := ⟨o, ho, hc⟩
        unfold ofAClassStatement
        refine wpAny_bind (wpAny_typeOf hT ?_)
        dsimp only
        have e : (("tuple" : String) == "tuple") = true := by decide
        simp only [e, if_true, Bool.not_true, Bool.false_eq_true, if_false]
        try refine wpAny_bind (wpAny_pure ?_)
        try simp only [Bool.not_true, Bool.false_eq_true, if_false]
        show wpAny _ _ (seqItems? (.ref a) >>= _) _ _ s
        refine wpAny_bind (wpAny_seqItems ho hd ?_)
        dsimp only
        refine wpAny_bind ?_
        show wpAny _ _ (forIn vs _ _) _ _ s
        rw [← Array.forIn_toList]
        have ih := cls_keys ks vs.toList n s hk (by omega)
        refine ask_each vs.toList (fun v hv Q' hQ _ => ?_) ?_
        case refine_2 => exact wpAny_pure h
        refine wpAny_bind (ih v hv _ _ _ ?_)
        simp only [Bool.false_eq_true, if_false]
        exact wpAny_pure hQ
theorem cls_keys : ∀ (ks : List NK) (vs : List Value) (n : Nat) (s : Shared), NestedAll s.heap ks vs → NestedKey.depthAll ks ≤ n → ∀ v ∈ vs, ∀ (A : Around) (E : Value → Shared → Prop) (Q : Bool → Shared → Prop), Q false s → wpAny (model P w) A (ofAClassStatement n v) Q E s
  | [], _, n, s, x, _, v, hv, _, _, _, _ => by cases x; cases hv
  | k :: ks, _, n, s, x, hn, v, hv, A, E, Q, h => by
    cases x with
    | cons x1 x2 =>
      simp only [NestedKey.depthAll] at hn
      rcases List.mem_cons.mp hv with e | hv
      · rw [e]; exact cls_key k _ n s x1 (by omega) A E Q h
      · exact cls_keys ks _ n s x2 (by omega) v hv A E Q h
end
mutual
/-- whether its hash is its value's: one of both answers -/
theorem val_key : ∀ (k : NK) (v : Value) (n : Nat) (s : Shared), NestedIs s.heap k v → ∀ (A : Around) (E : Value → Shared → Prop) (Q : Bool → Shared → Prop), (∀ b, Q b s) → wpAny (model P w) A (hashByValue n v) Q E s
  | .none, _, n, s, x, A, E, Q, h => by cases x; cases n <;> exact wpAny_pure (h _)
  | .num i, _, n, s, x, A, E, Q, h => by cases x <;> cases n <;> exact wpAny_pure (h _)
  | .text y, _, n, s, x, A, E, Q, h => by cases x; cases n <;> exact wpAny_pure (h _)
  | .tup ks, _, n, s, x, A, E, Q, h => by
    cases x with
    | @tup a o vs m _ ho hc hd hk =>
      cases n with
      | zero => exact wpAny_pure (h _)
      | succ n =>
        have hT : s.TypeIs (.ref a) "tuple" := ⟨o, ho, hc⟩
        unfold hashByValue
        refine wpAny_bind (wpAny_specialOf hT F.slot_tuple_hash.lookup ?_)
        show wpAny _ _ (seqItems? (.ref a) >>= _) _ _ s
        refine wpAny_bind (wpAny_seqItems ho hd ?_)
        refine wpAny_bind ?_
        show wpAny _ _ (forIn vs _ _) _ _ s
        rw [← Array.forIn_toList]
        have ih := val_keys ks vs.toList n s hk
        refine ask_each vs.toList (fun v hv Q' hQ hD => ?_) ?_
        case refine_2 => exact wpAny_pure (h _)
        refine wpAny_bind (ih v hv _ _ _ fun b => ?_)
        cases b with
        | true =>
          simp only [Bool.not_true, Bool.false_eq_true, if_false]
          exact wpAny_pure hQ
        | false =>
          simp only [Bool.not_false, if_true]
          exact wpAny_pure (hD _ (wpAny_pure (h _)))
theorem val_keys : ∀ (ks : List NK) (vs : List Value) (n : Nat) (s : Shared), NestedAll s.heap ks vs → ∀ v ∈ vs, ∀ (A : Around) (E : Value → Shared → Prop) (Q : Bool → Shared → Prop), (∀ b, Q b s) → wpAny (model P w) A (hashByValue n v) Q E s
  | [], _, n, s, x, v, hv, _, _, _, _ => by cases x; cases hv
  | k :: ks, _, n, s, x, v, hv, A, E, Q, h => by
    cases x with
    | cons x1 x2 =>
      rcases List.mem_cons.mp hv with e | hv
      · rw [e]; exact val_key k _ n s x1 A E Q h
      · exact val_keys ks _ n s x2 v hv A E Q h
end
variable {A : Around} {E : Value → Shared → Prop} {s : Shared}
/-- a search among such tuples shows nothing -/
theorem seenN {k : NK} {b : Addr} {Q : Bool → Shared → Prop} (hk : IsN s.heap k b) {ys : List Value} (hy : ∀ y ∈ ys, ∃ k' c, y = Value.ref c ∧ IsN s.heap k' c) (h : Q false s) : wpAny (model P w) A (searchCouldBeSeen (.ref b) ys) Q E s := by
  unfold searchCouldBeSeen
  refine wpAny_bind (ask_each ys (fun v hv Q' hQ _ => ?_) ?_)
  case refine_2 => exact wpAny_pure h
  obtain ⟨k', c, rfl, hc⟩ := hy v hv
  dsimp only
  by_cases hv : (b == c || (carriedByValue (.ref b) && carriedByValue (.ref c))) = true
  · exact wp_if_pos hv (wpAny_pure hQ)
  · refine wp_if_neg hv ?_
    refine wpAny_bind (quiet_key k _ 8 s hk.1 hk.2 A E _ ?_)
    simp only [Bool.not_true, Bool.false_eq_true, if_false]
    refine wpAny_bind (quiet_key k' _ 8 s hc.1 hc.2 A E _ ?_)
    simp only [Bool.not_true, Bool.false_eq_true, if_false]
    refine wpAny_bind (cls_key k _ 8 s hk.1 hk.2 A E _ ?_)
    simp only [Bool.false_eq_true, if_false]
    refine wpAny_bind (cls_key k' _ 8 s hc.1 hc.2 A E _ ?_)
    simp only [Bool.false_eq_true, if_false]
    exact wpAny_pure hQ
end
end My

set_option Elab.async false
set_option maxRecDepth 100000
set_option maxHeartbeats 4000000
set_option linter.all false
namespace My
open PySem PySem.Spec PyProof.Rows L2
abbrev rowN (w : World) (p : Addr × NK) : Int × Value := (hN w p.2, Value.ref p.1)
structure SetN (w : World) (h : Heap) (a : Addr) (L : List (Addr × NK)) (es : Array (Int × Value)) (ep : Nat) (t : SetTable) : Prop where
  ob : ∃ o, h.get? a = some o ∧ o.ExactSet ∧ o.data = .set es ep t
  rows : es.toList = L.map (rowN w)
  tab : TabOk t (L.map fun p => hN w p.2)
  nd : (L.map (·.2)).Nodup
  is_ : ∀ p ∈ L, IsN h p.2 p.1
  led : w.params.followText "set-order" = true ∨ t.led = true
  room : L.length * 5 < t.mask * 3
  few : L.length < 64
section
variable {P : Program} {w : World} {A : Around} {E : Value → Shared → Prop} {s : Shared} {a : Addr} {L : List (Addr × NK)} {es : Array (Int × Value)} {ep : Nat} {t : SetTable}
theorem rows_size (h : es.toList = L.map (rowN w)) : es.size = L.length := by
  have := congrArg List.length h
  rwa [Array.length_toList, List.length_map] at this
theorem rows_at (h : es.toList = L.map (rowN w)) {i : Nat} {p : Addr × NK} (e : L[i]? = some p) : es[i]? = some (rowN w p) := by
  rw [← Array.getElem?_toList, h, List.getElem?_map, e] <;> rfl
theorem fits_of (h1 : t.place.size = es.size) (h2 : t.dummies = #[]) (h3 : es.size ≤ t.mask) : t.fits es.size = true := by
  unfold SetTable.fits SetTable.fill
  rw [h2, Bool.and_eq_true, beq_iff_eq, decide_eq_true_eq]
  exact ⟨h1, by show t.place.size + 0 ≤ t.mask; omega⟩
theorem SetN.psz (R : SetN w s.heap a L es ep t) : t.place.size = L.length := by
  have := R.tab.sz
  rwa [List.length_map] at this
theorem SetN.fits (R : SetN w s.heap a L es ep t) : t.fits es.size = true := by
  have h1 := R.psz
  have h2 := rows_size R.rows
  have h3 := R.room
  exact fits_of (by omega) R.tab.dm (by omega)
theorem gave_not {t : SetTable} {hs : List Int} (T : TabOk t hs) : ¬ t.gaveWay = true := by
  unfold SetTable.gaveWay
  rw [mask_odd T.mok]
  decide
theorem nth_dummy (m : Nat) : ∀ (n : Nat) (p : SetTable.Probe), p.dummy = none → (nth m p n).dummy = none
  | 0, _, h => h
  | n + 1, p, h => nth_dummy m n (adv m p) (by unfold adv; split <;> exact h)
abbrev wayS (m : Nat) (g : Int) : SetTable.Probe := runAt m (SetTable.bits g % (m + 1)) (SetTable.bits g)
/-- the search, from the c-th step of its way on -/
theorem searchN (R : SetN w s.heap a L es ep t) {x : Addr} {k : NK} (hx : IsN s.heap k x) (hu : A.units + 8 < cLine) {g : Int} (hg : g = hN w k) {K : Nat} (hKf : K < 10 * SetTable.turns t.mask)
    (hK : way t.mask g K ∉ t.place.toList) (hKb : ∀ c, c < K → way t.mask g c ∈ t.place.toList) {Q : SetFound → Shared → Prop} (hin : k ∈ L.map (·.2) → Q (.there none) s) (hout : k ∉ L.map (·.2) → Q (.free (way t.mask g K) false) s) :
    ∀ (f c : Nat) (stand : Option SetTable.Probe), stand.getD (t.probeStart g) = nth t.mask (wayS t.mask g) c → c ≤ K → K - c < f → (∀ (i : Nat) p, L[i]? = some p → p.2 = k → ∃ c', c ≤ c' ∧ c' < K ∧ t.place.toList[i]? = some (way t.mask g c')) →
      wpAny (model P w) A (setSearchFrom a (.ref x) g true f stand) Q E s
  | 0, _, _, _, _, hf, _ => absurd hf (Nat.not_lt_zero _)
  | f + 1, c, stand, hst, hc, hf, hre => by
    obtain ⟨o, ho, hex, hd⟩ := R.ob
    rw [setSearchFrom_succ]
    refine wpAny_bind (wpAny_setState_of ho hd R.fits ?_)
    dsimp only
    refine wp_if_neg (gave_not R.tab) ?_
    try refine wpAny_bind (wpAny_pure ?_)
    have step : ∀ q, (nth t.mask (nth t.mask (wayS t.mask g) c) q).j = way t.mask g (c + q) := fun q => congrArg SetTable.Probe.j (nth_add t.mask c _ q).symm
    have hs : ∀ (i : Nat) p, L[i]? = some p → (es[i]?.map (fun e : Int × Value => e.1)).getD 0 = hN w p.2 := fun i p e => by rw [rows_at R.rows e] <;> rfl
    -- where a row with the key stands, it is not passed
    have late : ∀ (q : Nat), (∀ k' i', k' < q → t.place.toList[i']? = some (nth t.mask (nth t.mask (wayS t.mask g) c) k').j → (es[i']?.map (fun e : Int × Value => e.1)).getD 0 ≠ g) → ∀ (i : Nat) p, L[i]? = some p → p.2 = k → ∃ c', c + q ≤ c' ∧ c' < K ∧ t.place.toList[i]? = some (way t.mask g c') := fun q no i p e1 e2 => by
      obtain ⟨c', a1, a2, a3⟩ := hre i p e1 e2
      refine ⟨c', ?_, a2, a3⟩
      rcases Nat.lt_or_ge c' (c + q) with z | z
      · refine absurd (show (es[i]?.map (fun e : Int × Value => e.1)).getD 0 = g by rw [hs i p e1, e2, hg]) (no (c' - c) i (by omega) ?_)
        rw [step, show c + (c' - c) = c' by omega]
        exact a3
      · exact z
    rcases go_spec t R.tab.ris R.tab.dm (fun i => (es[i]?.map (fun e : Int × Value => e.1)).getD 0) g (10 * SetTable.turns t.mask) (K - c) (nth t.mask (wayS t.mask g) c) (nth_dummy _ _ _ rfl) (by omega) (fun q hq => by rw [step]; exact hKb _ (by omega)) (by rw [step, show c + (K - c) = K by omega]; exact hK) with ⟨q, i, hq, hi, hh, hno, hpr⟩ | ⟨hno, hpr⟩
    · rw [← nth_add t.mask c (wayS t.mask g) (q + 1)] at hpr
      rw [step] at hi hpr
      have hpr' : t.probe (fun i => (es[i]?.map (fun e : Int × Value => e.1)).getD 0) g (stand.getD (t.probeStart g)) = some (.candidate (way t.mask g (c + q)) i (nth t.mask (wayS t.mask g) (c + (q + 1)))) := by rw [hst]; exact hpr
      rw [hpr']
      dsimp only
      have hil : i < L.length := by
        have := (List.getElem?_eq_some_iff.mp hi).1
        rw [Array.length_toList, R.psz] at this
        exact this
      obtain ⟨p, hp⟩ : ∃ p, L[i]? = some p := ⟨_, List.getElem?_eq_getElem hil⟩
      have hm := List.mem_of_getElem? hp
      have rest : wpAny (model P w) A (searchRest a (.ref x) g true f es t (way t.mask g (c + q)) i (nth t.mask (wayS t.mask g) (c + (q + 1)))) Q E s := by
        unfold searchRest
        rw [rows_at R.rows hp]
        dsimp only
        refine wpAny_bind (wpAny_holding ((nestedKind P w).eqBool hu (R.is_ p hm) hx ?_))
        refine wpAny_bind (wpAny_setState_of ho hd R.fits ?_)
        dsimp only
        by_cases hkk : p.2 = k
        · exact wp_if_pos (by simp [hkk]) (wpAny_pure (hin (List.mem_map.mpr ⟨p, hm, hkk⟩)))
        · refine wp_if_neg (by simp [hkk]) ?_
          try refine wpAny_bind (wpAny_pure ?_)
          rw [sameMem]
          dsimp only
          have hsl : t.slot (way t.mask g (c + q)) = .live i := slot_live R.tab.ris hi
          simp only [if_true, hsl, rows_at R.rows hp]
          refine wpAny_bind (wpAny_isSame_ref_self (wpAny_bind (wpAny_pure ?_)))
          simp only [if_true]
          refine wp_if_neg (by simp [hkk]) ?_
          refine searchN R hx hu hg hKf hK hKb hin hout f (c + (q + 1)) _ rfl (by omega) (by omega) fun i0 p0 h0 hk0 => ?_
          obtain ⟨c', a1, a2, a3⟩ := late q (fun k' i' lt e => hno k' i' lt e) i0 p0 h0 hk0
          refine ⟨c', ?_, a2, a3⟩
          rcases Nat.lt_or_ge (c + q) c' with z | z
          · omega
          · have ec : c' = c + q := Nat.le_antisymm z a1
            rw [ec] at a3
            have s0 := slot_live R.tab.ris a3
            rw [hsl] at s0
            injection s0 with s0
            rw [← s0, hp] at h0
            exact absurd (by rw [Option.some.inj h0]; exact hk0) hkk
      by_cases hl : t.led = true
      · refine wp_if_neg (by simp [hl]) ?_
        try refine wpAny_bind (wpAny_pure ?_)
        exact rest
      · refine wp_if_pos (by simp [hl]) ?_
        refine wpAny_bind (seenN hx (fun y hy => ?_) ?_)
        · obtain ⟨e, he, ee⟩ := List.mem_map.mp hy
          have he1 : e ∈ es ∧ e.1 = g := by simpa using he
          have he2 : e ∈ es.toList := by simpa using he1.1
          rw [R.rows] at he2
          obtain ⟨p2, hp2, e2⟩ := List.mem_map.mp he2
          exact ⟨p2.2, p2.1, by rw [← ee, ← e2], R.is_ p2 hp2⟩
        · refine wp_if_neg (by decide) ?_
          try refine wpAny_bind (wpAny_pure ?_)
          exact rest
    · rw [step, show c + (K - c) = K by omega] at hpr
      have hpr' : t.probe (fun i => (es[i]?.map (fun e : Int × Value => e.1)).getD 0) g (stand.getD (t.probeStart g)) = some (.empty (way t.mask g K) none) := by rw [hst]; exact hpr
      rw [hpr']
      dsimp only
      refine wpAny_pure (hout fun hm => ?_)
      obtain ⟨p0, h0, hk0⟩ := List.mem_map.mp hm
      obtain ⟨i0, e0⟩ := List.getElem?_of_mem h0
      obtain ⟨c', a1, a2, a3⟩ := late (K - c) hno i0 p0 e0 hk0
      omega
theorem searchN_all (R : SetN w s.heap a L es ep t) {x : Addr} {k : NK} (hx : IsN s.heap k x) (hu : A.units + 8 < cLine) {Q : SetFound → Shared → Prop} (hin : k ∈ L.map (·.2) → Q (.there none) s)
    (hout : ∀ K, k ∉ L.map (·.2) → way t.mask (hN w k) K ∉ t.place.toList → (∀ c, c < K → way t.mask (hN w k) c ∈ t.place.toList) → Q (.free (way t.mask (hN w k) K) false) s) : wpAny (model P w) A (setSearch a (.ref x) (hN w k) true) Q E s := by
  have hroom := R.room
  obtain ⟨K, hKf, hK, hKb⟩ := R.tab.first (by rw [List.length_map]; omega) (hN w k)
  have hbig : K < 100000 := by
    have : 10 * SetTable.turns t.mask ≤ 1420 := by
      unfold SetTable.turns
      rcases R.tab.mok with e | e | e <;> omega
    omega
  unfold setSearch
  refine searchN R hx hu rfl hKf hK hKb hin (fun hn => hout K hn hK hKb) 100000 0 none rfl (Nat.zero_le _) (by omega) fun i p hp hk => ?_
  have hil : i < t.place.toList.length := by
    have := (List.getElem?_eq_some_iff.mp hp).1
    rw [Array.length_toList, R.psz]
    exact this
  have hj := List.getElem?_eq_getElem hil
  obtain ⟨c, hc, e⟩ := R.tab.before hK (show (L.map fun p => hN w p.2)[i]? = some (hN w k) by rw [List.getElem?_map, hp, ← hk] <;> rfl) hj
  exact ⟨c, Nat.zero_le _, hc, by rw [hj, e]⟩
end
end My

set_option Elab.async false
set_option maxRecDepth 100000
set_option maxHeartbeats 4000000
set_option linter.all false
namespace My
open PySem PySem.Spec PyProof.Rows L2
/-! picking rows by their numbers -/
theorem pick_map {α β : Type} (f : α → β) (L : List α) : ∀ l : List Nat, l.filterMap (fun i => (L.map f)[i]?) = (l.filterMap fun i => L[i]?).map f
  | [] => rfl
  | i :: l => by
    rw [List.filterMap_cons, List.filterMap_cons, List.getElem?_map, pick_map f L l]
    cases L[i]? <;> rfl
theorem pick_getD {α : Type} (d : α) (L : List α) : ∀ l : List Nat, (∀ i ∈ l, i < L.length) → l.filterMap (fun i => L[i]?) = l.map fun i => L.getD i d
  | [], _ => rfl
  | i :: l, h => by
    have hi := h i List.mem_cons_self
    rw [List.filterMap_cons_some (List.getElem?_eq_getElem hi), List.map_cons, pick_getD d L l fun j hj => h j (List.mem_cons_of_mem _ hj), List.getD_eq_getElem?_getD, List.getElem?_eq_getElem hi] <;> rfl
theorem pick_all {α : Type} (L : List α) : (List.range L.length).filterMap (fun i => L[i]?) = L := by
  refine List.ext_getElem? fun i => ?_
  induction L generalizing i with
  | nil => rfl
  | cons x L ih =>
    rw [List.length_cons, List.range_succ_eq_map, List.filterMap_cons_some (by rfl : (x :: L)[0]? = some x), List.filterMap_map]
    cases i with
    | zero => rfl
    | succ i => exact ih i
section
variable {P : Program} {w : World} {A : Around} {E : Value → Shared → Prop} {s : Shared} {a : Addr} {L : List (Addr × NK)} {es : Array (Int × Value)} {ep : Nat} {t : SetTable}
theorem order_rowsN {order : Array Nat} (hr : es.toList = L.map (rowN w)) (hp : order.toList.Perm (List.range L.length)) :
    ∃ L2 : List (Addr × NK), (order.filterMap (es[·]?)).toList = L2.map (rowN w) ∧ L2.Perm L ∧ (L2.map fun p => hN w p.2) = order.toList.map fun i => (es.map (·.1)).getD i 0 := by
  refine ⟨order.toList.filterMap fun i => L[i]?, ?_, ?_, ?_⟩
  · rw [Array.toList_filterMap, ← pick_map, ← hr]
    refine congrFun (congrArg _ (funext fun i => ?_)) _
    rw [Array.getElem?_toList]
  · have := hp.filterMap fun i => L[i]?
    rwa [pick_all] at this
  · rw [← pick_map (fun p : Addr × NK => hN w p.2), pick_getD 0 _ _ fun i hi => by rw [List.length_map]; exact List.mem_range.mp (hp.mem_iff.mp hi)]
    refine List.map_congr_left fun i _ => ?_
    have e : (L.map fun p => hN w p.2) = (es.map (·.1)).toList := by
      rw [Array.toList_map, hr, List.map_map] <;> rfl
    rw [e, List.getD_eq_getElem?_getD, Array.getElem?_toList, ← Array.getD_eq_getD_getElem?]
/-- the table laid anew -/
theorem relayN {o : Obj} (ho : s.heap.get? a = some o) (hex : o.ExactSet) (hd : o.data = .set es ep t) (hrows : es.toList = L.map (rowN w)) (hsz : t.place.size = es.size) (hdm : t.dummies = #[]) (hfl : es.size ≤ t.mask)
    (nd : (L.map (·.2)).Nodup) (is_ : ∀ p ∈ L, IsN s.heap p.2 p.1) (ld : w.params.followText "set-order" = true ∨ t.led = true) (few : L.length < 64) {wanted M : Nat}
    (hw : SetTable.sizeAbove wanted - 1 = M) (hM : MaskOk M) (hw2 : SetTable.sizeAbove wanted ≤ 128) (hn : L.length * 5 < M * 3) {Q : Unit → Shared → Prop}
    (hQ : ∀ h' L' es' ep' t', Heap.SameBut a s.heap h' → SetN w h' a L' es' ep' t' → L'.Perm L → Q () { s with heap := h' }) : wpAny (model P w) A (setRelay a wanted) Q E s := by
  have hsl := rows_size hrows
  obtain ⟨t', order, e, hp, T, em, el, epl, ed⟩ := relaid_ok t (hs := es.map (·.1)) (wanted := wanted) hw hM (by rw [Array.size_map, hsl]; omega)
  rw [Array.size_map, hsl] at hp
  obtain ⟨L2, r1, r2, r3⟩ := order_rowsN hrows hp
  rw [← r3] at T
  have hs2 : (order.filterMap (es[·]?)).size = es.size := by rw [rows_size r1, r2.length_eq, hsl]
  rw [setRelay_eq]
  refine wpAny_bind (wpAny_setState_of ho hd (fits_of hsz hdm hfl) ?_)
  dsimp only
  refine wp_if_neg (by rw [sizeLine_eq]; omega) ?_
  try refine wpAny_bind (wpAny_pure ?_)
  rw [e]
  dsimp only
  refine wpAny_bind ?_
  refine wp_if_neg (by rw [hs2]; simp) ?_
  try refine wpAny_bind (wpAny_pure ?_)
  refine wpAny_pure ?_
  dsimp only
  refine wpAny_storeSet_of ho hd ?_ (by rw [hs2, hsl, sizeLine_eq]; omega)
  have sb : Heap.SameBut a s.heap (s.heap.update a (Obj.putSet (order.filterMap (es[·]?)) t')) := Heap.SameBut.update ..
  refine hQ _ L2 _ (ep + 1) t' sb ⟨⟨_, store_at ho hd, ⟨hex.1, hex.2.1, hex.2.2⟩, rfl⟩, r1, T, (r2.map (·.2)).nodup_iff.mpr nd, fun p hpm => (is_ p (r2.mem_iff.mp hpm)).but ho hd sb, by rw [el]; exact ld, by rw [r2.length_eq, em]; exact hn, by rw [r2.length_eq]; exact few⟩ r2
theorem TabOk.unplain {t : SetTable} {hs : List Int} (T : TabOk t hs) : TabOk { t with plain := false } hs := ⟨T.ris, T.dm, T.sz, T.mok, T.bd, T.reach⟩
/-- one more -/
theorem addN (R : SetN w s.heap a L es ep t) {x : Addr} {k : NK} (hx : IsN s.heap k x) (hu : A.units + 8 < cLine) (hfew : L.length + 1 < 64) {Q : Bool → Shared → Prop}
    (hQ : ∀ b h' L' es' ep' t', Heap.SameBut a s.heap h' → SetN w h' a L' es' ep' t' → (k ∈ L.map (·.2) → L' = L) → (k ∉ L.map (·.2) → L'.Perm ((x, k) :: L)) → Q b { s with heap := h' }) :
    wpAny (model P w) A (setAddHashed a (.ref x) (hN w k)) Q E s := by
  obtain ⟨o, ho, hex, hd⟩ := R.ob
  have hsl := rows_size R.rows
  have hroom := R.room
  unfold setAddHashed
  refine wpAny_holding ?_
  rw [show (100000 : Nat) = 99999 + 1 from rfl, setAddHashedIn_succ]
  refine wpAny_bind (wpAny_setState_of ho hd R.fits ?_)
  dsimp only
  refine wp_if_neg (by simp [byScan, Value.scannable]) ?_
  try refine wpAny_bind (wpAny_pure ?_)
  refine wpAny_bind (searchN_all R hx hu (fun hm => ?_) fun K hm hK hb => ?_)
  · dsimp only
    exact wpAny_pure (hQ false s.heap L es ep t (Heap.SameBut.refl a s.heap) R (fun _ => rfl) fun z => absurd hm z)
  · dsimp only
    refine wpAny_bind (wpAny_setState_of ho hd R.fits ?_)
    dsimp only
    obtain ⟨q1, q2, q3, q4, q5, q6, q7, q8, q9⟩ := R.tab.put hK hb
    generalize hpt : t.put (way t.mask (hN w k) K) = pt at q1 q3 q4 q5 q6 q7 q8 q9 ⊢
    obtain ⟨t1, p⟩ := pt
    dsimp only at q1 q3 q4 q5 q6 q7 q8 q9 ⊢
    subst q1
    -- whatever becomes of the mark plain
    have main : ∀ t2 : SetTable, (t2 = t1 ∨ t2 = { t1 with plain := false }) → wpAny (model P w) A (do
        storeSet a (SetTable.insertAt es (SetTable.below t.place (way t.mask (hN w k) K)) (hN w k, Value.ref x)) t2
        if (!false && t2.tooFull) = true then setRelay a (SetTable.grown (es.size + 1))
        return true) Q E s := by
      intro t2 ht2
      have hin : (SetTable.insertAt es (SetTable.below t.place (way t.mask (hN w k) K)) (hN w k, Value.ref x)).toList = (L.take (SetTable.below t.place (way t.mask (hN w k) K)) ++ (x, k) :: L.drop (SetTable.below t.place (way t.mask (hN w k) K))).map (rowN w) := by
        rw [SetTable.toList_insertAt, R.rows, List.map_append, List.map_cons, List.map_take, List.map_drop]
      have hh : (L.take (SetTable.below t.place (way t.mask (hN w k) K)) ++ (x, k) :: L.drop (SetTable.below t.place (way t.mask (hN w k) K))).map (fun p => hN w p.2) = (L.map fun p => hN w p.2).take (SetTable.below t.place (way t.mask (hN w k) K)) ++ hN w k :: (L.map fun p => hN w p.2).drop (SetTable.below t.place (way t.mask (hN w k) K)) := by
        rw [List.map_append, List.map_cons, List.map_take, List.map_drop]
      rw [← hh] at q3
      have pm := put_perm L (SetTable.below t.place (way t.mask (hN w k) K)) (x, k)
      generalize SetTable.below t.place (way t.mask (hN w k) K) = p at q2 q3 hin pm ⊢
      have hlen : (L.take p ++ (x, k) :: L.drop p).length = L.length + 1 := pm.length_eq
      have hes := rows_size hin
      generalize SetTable.insertAt es p (hN w k, Value.ref x) = es1 at hin hes ⊢
      generalize L.take p ++ (x, k) :: L.drop p = L1 at pm hlen q3 hin hes
      have nd1 : (L1.map (·.2)).Nodup := (pm.map (·.2)).nodup_iff.mpr (by rw [List.map_cons]; exact List.nodup_cons.mpr ⟨hm, R.nd⟩)
      have T2 : TabOk t2 (L1.map fun p => hN w p.2) := by
        rcases ht2 with e | e
        · rw [e]; exact q3
        · rw [e]; exact TabOk.unplain q3
      have m2 : t2.mask = t.mask := by rcases ht2 with e | e <;> (rw [e]; exact q4)
      have l2 : t2.led = t.led := by rcases ht2 with e | e <;> (rw [e]; exact q5)
      have ld2 : w.params.followText "set-order" = true ∨ t2.led = true := by rw [l2]; exact R.led
      have f2 : t2.fill = L.length + 1 := by
        have e9 : t1.fill = L.length + 1 := by rw [q9, List.length_map]
        rcases ht2 with e | e
        · rw [e]; exact e9
        · rw [e]; exact e9
      refine wpAny_bind (wpAny_storeSet_of ho hd ?_ (by rw [hes, hlen, sizeLine_eq]; omega))
      have sb : Heap.SameBut a s.heap (s.heap.update a (Obj.putSet es1 t2)) := Heap.SameBut.update ..
      have ho1 := store_at (es' := es1) (t' := t2) ho hd
      generalize s.heap.update a (Obj.putSet es1 t2) = h1 at sb ho1 ⊢
      have is1 : ∀ p ∈ L1, IsN h1 p.2 p.1 := fun p hp => by
        rcases List.mem_cons.mp (pm.mem_iff.mp hp) with e | hp
        · rw [e]; exact hx.but ho hd sb
        · exact (R.is_ p hp).but ho hd sb
      have tf : t2.tooFull = decide ((L.length + 1) * 5 ≥ t.mask * 3) := by
        unfold SetTable.tooFull
        rw [f2, m2]
      by_cases hf : (L.length + 1) * 5 ≥ t.mask * 3
      · have hc : (!false && t2.tooFull) = true := by rw [tf, decide_eq_true hf] <;> rfl
        first
          | (refine wpAny_bind ?_; refine wp_if_pos hc ?_)
          | (refine wp_if_pos hc ?_; refine wpAny_bind ?_)
        have cases2 : (t.mask = 7 ∧ L.length = 4) ∨ (t.mask = 31 ∧ L.length = 18) := by
          rcases R.tab.mok with e | e | e
          · left; rw [e] at hf hroom; exact ⟨e, by omega⟩
          · right; rw [e] at hf hroom; exact ⟨e, by omega⟩
          · exfalso; rw [e] at hf; omega
        rw [hsl]
        have psz : t2.place.size = es1.size := by rw [T2.sz, List.length_map, hes]
        have go : ∀ M, SetTable.sizeAbove (SetTable.grown (L.length + 1)) - 1 = M → MaskOk M → SetTable.sizeAbove (SetTable.grown (L.length + 1)) ≤ 128 → (L.length + 1) * 5 < M * 3 →
            wpAny (model P w) A (setRelay a (SetTable.grown (L.length + 1))) (fun _ s' => wpAny (model P w) A (pure true) Q E s') E { s with heap := h1 } := fun M a1 a2 a3 a4 => by
          refine relayN (s := { s with heap := h1 }) ho1 ⟨hex.1, hex.2.1, hex.2.2⟩ rfl hin psz T2.dm (by rw [hes, hlen, m2]; omega) nd1 is1 ld2 (by rw [hlen]; exact hfew) a1 a2 a3 (by rw [hlen]; exact a4) ?_
          intro h2 L2 es2 ep2 t3 sb2 R2 pm2
          exact wpAny_pure (hQ true h2 L2 es2 ep2 t3 (sb.trans sb2) R2 (fun z => absurd z hm) fun _ => pm2.trans pm)
        rcases cases2 with ⟨_, e2⟩ | ⟨_, e2⟩
        · exact go 31 (by rw [e2, size_20]) (.inr (.inl rfl)) (by rw [e2, size_20]; decide) (by omega)
        · exact go 127 (by rw [e2, size_76]) (.inr (.inr rfl)) (by rw [e2, size_76]; decide) (by omega)
      · have hc : ¬ (!false && t2.tooFull) = true := by rw [tf, decide_eq_false hf]; decide
        first
          | refine wp_if_neg hc ?_
          | (refine wpAny_bind ?_; refine wp_if_neg hc ?_; refine wpAny_pure ?_)
        refine wpAny_pure (hQ true h1 L1 es1 (ep + 1) t2 sb ⟨⟨_, ho1, ⟨hex.1, hex.2.1, hex.2.2⟩, rfl⟩, hin, T2, nd1, is1, ld2, by rw [hlen, m2]; omega, by rw [hlen]; exact hfew⟩ (fun z => absurd z hm) fun _ => pm)
    by_cases hpl : t1.plain = true
    · first
        | (refine wpAny_bind ?_; refine wp_if_pos hpl ?_; refine val_key k _ 8 s hx.1 _ _ _ fun b => ?_)
        | refine wp_if_pos hpl (wpAny_bind (val_key k _ 8 s hx.1 _ _ _ fun b => ?_))
      cases b with
      | true =>
        simp only [if_true]
        exact main _ (.inl rfl)
      | false =>
        simp only [Bool.false_eq_true, if_false]
        exact main _ (.inr rfl)
    · first
        | (refine wpAny_bind ?_; refine wp_if_neg hpl ?_; refine wpAny_pure ?_)
        | refine wp_if_neg hpl (wpAny_bind (wpAny_pure ?_))
      simp only [if_true]
      exact main _ (.inl rfl)
end
end My

set_option Elab.async false
set_option maxRecDepth 100000
set_option maxHeartbeats 4000000
set_option linter.all false
namespace My
open PySem PySem.Spec PyProof.Rows L2
abbrev set0 (w : World) : Obj := { cls := .type "set", dict := none, data := .set #[] 0 (.fresh 0 0 (!w.params.followText "set-order")) }
/-- what one item more does to the set at S: T i says what the set is behind i items -/
def Adds (P : Program) (w : World) (A : Around) (h0 : Heap) (S : Addr) (n : Nat) (Pv : Nat → Value → Prop) (T : Nat → Obj → Prop) : Prop :=
  ∀ (i : Nat) (v : Value) (o : Obj) (s : Shared) (E : Value → Shared → Prop) (Q : Bool → Shared → Prop), i < n → Pv i v → s.heap.get? S = some o → T i o → (∀ b u, h0.get? b = some u → s.heap.get? b = some u) →
    (∀ b h' tk o', s.toks ≤ tk → Heap.SameBut S s.heap h' → h'.get? S = some o' → T (i + 1) o' → Q b { s with heap := h', toks := tk }) → wpAny (model P w) A (setAdd S v) Q E s
section
variable {P : Program} {w : World} {A : Around} {E : Value → Shared → Prop} {s : Shared}
theorem update_any {I : Addr} {fp wr : List Addr} {G : Array GenState → Array GenState → Prop} {n : Nat} {Pv : Nat → Value → Prop} {St : Nat → Shared → Prop} {R : Result → Shared → Prop}
    (W : WalksS P w A.in1 I fp wr G n Pv St) {S : Addr} (hSf : S ∉ fp) {T : Nat → Obj → Prop} {h0 : Heap} (hS0 : h0.get? S = none) (hw0 : ∀ b ∈ wr, h0.get? b = none) (add : Adds P w A.in1 h0 S n Pv T) :
    ∀ (k i : Nat) (s : Shared), n - i = k → i ≤ n → St i s → (∀ b o, h0.get? b = some o → s.heap.get? b = some o) → (∃ o, s.heap.get? S = some o ∧ T i o) →
      (∀ s' o, Moved (S :: wr) G s s' → s'.heap.get? S = some o → T n o → (∀ b o, h0.get? b = some o → s'.heap.get? b = some o) → R (.ok (.ret .none)) s') →
      codeAny (model P w) A (.builtin "set.update.loop" ⟨[.ref S, .ref I], []⟩) R s := by
  have hSw : S ∉ wr := fun h => hSf (W.sub _ h)
  have hsub : ∀ b ∈ wr, b ∈ S :: wr := fun b hb => List.mem_cons_of_mem _ hb
  have keepM : ∀ {s s' : Shared}, Moved wr G s s' → (∀ b o, h0.get? b = some o → s.heap.get? b = some o) → ∀ b o, h0.get? b = some o → s'.heap.get? b = some o := fun hm hkp b o e =>
    hm.heap b o (fun hb => by rw [hw0 b hb] at e; cases e) (hkp b o e)
  intro k
  induction k with
  | zero =>
    intro i s hk' hi hst hkp ⟨o, hS, hT⟩ hR
    obtain rfl : i = n := by omega
    refine codeAny_builtin F.entry_set_update_loop ?_
    rw [Around.under_plainId F.plain_set_update_loop _]
    show wpAny _ A.in1 (pyNext (.ref I) >>= _) _ _ s
    refine wpAny_bind (W.done s _ _ hst fun s' hm => ?_)
    show wpAny _ A.in1 (ret Value.none) _ _ s'
    exact wpAny_pure (hR s' o (hm.mono hsub) (hm.heap S o hSw hS) hT (keepM hm hkp))
  | succ k ih =>
    intro i s hk' hi hst hkp ⟨o, hS, hT⟩ hR
    have hlt : i < n := by omega
    refine codeAny_builtin F.entry_set_update_loop ?_
    rw [Around.under_plainId F.plain_set_update_loop _]
    show wpAny _ A.in1 (pyNext (.ref I) >>= _) _ _ s
    refine wpAny_bind (W.item i s _ _ hlt hst fun v s' hP hst' hm => ?_)
    have hkp' := keepM hm hkp
    show wpAny _ A.in1 (holding [v] (setAdd S v) >>= _) _ _ s'
    refine wpAny_bind (wpAny_holding (add i v o s' _ _ hlt hP (hm.heap S o hSw hS) hT hkp' fun b h' tk o' htk hsb hS2 hT2 => ?_))
    have hkp2 : ∀ b o, h0.get? b = some o → h'.get? b = some o := fun b o e => (hsb.2 b (fun z => by rw [z, hS0] at e; cases e)).trans (hkp' b o e)
    refine wpAny_pure ⟨plainId_quiet F.plain_set_update_loop _, ih (i + 1) _ (by omega) hlt (W.frame _ s' _ _ hst' htk fun b hb o e => ?_) hkp2 ⟨o', hS2, hT2⟩ fun s'' o2 hm'' hS'' hT'' hkp'' => ?_⟩
    · rw [hsb.2 b (fun h : b = S => hSf (by rw [← h]; exact hb))]; exact e
    · refine hR s'' o2 (Moved.trans W.gtrans ((hm.mono hsub).then_heap htk fun b o hb e => ?_) hm'') hS'' hT'' hkp''
      rw [hsb.2 b (fun h : b = S => hb (by rw [h]; exact List.mem_cons_self))]; exact e
set_option maxHeartbeats 3200000 in
/-- set(xs), xs a list -/
theorem call_set_any {l : Addr} {items : Array Value} {Q : Value → Shared → Prop} (hh : A.handled = none) (hl : s.heap.IsList l items) {T : Nat → Obj → Prop} (t0 : T 0 (set0 w))
    (add : Adds P w A.in1.in1.in1 s.heap s.heap.objs.size items.size (fun i v => items[i]? = some v) T)
    (h : ∀ (h' : Heap) (tk : Nat) (o : Obj), h'.get? s.heap.objs.size = some o → T items.size o → (∀ b o, s.heap.get? b = some o → h'.get? b = some o) → Q (.ref s.heap.objs.size) { s with heap := h', toks := tk }) :
    wpAny (model P w) A (call (.type "set") [.ref l]) Q E s := by
  obtain ⟨c, tl, hmro⟩ := F.called_set.mro
  have hmade := F.called_set.made
  have hsub := F.called_set.sub
  refine wpAny_call (codeAny_of_tree ?_)
  show wpAny _ _ (callAny (.type "set") _) _ _ _
  refine wpAny_pure ⟨Code.quiet_builtin _ (by decide +kernel), codeAny_builtin F.entry_type_call ?_⟩
  rw [Around.under_plain (weight_type_call_type "set" [.ref l] []) rfl]
  have h1 := F.called_set.notType
  have h2 := F.called_set.canCreate
  have hct := F.typeCall_set_1 (.ref l)
  repeat (any_goals (first | assumption | wp_step))
  refine codeAny_mono (code_set_led1 (.ref l) (E := E) (Q₁ := fun obj s₁ => obj = .ref s.heap.objs.size ∧ s₁ = { s with heap := s.heap.push (set0 w) }) ⟨rfl, rfl⟩) fun r s₁ hr => ?_
  cases r with
  | error e => exact hr
  | ok fl =>
    cases fl with
    | ret obj =>
      obtain ⟨rfl, rfl⟩ := hr
      have hS : (s.heap.push (set0 w)).get? s.heap.objs.size = some (set0 w) := Heap.get?_push_size _ rfl
      have hT : Shared.TypeIs { s with heap := s.heap.push (set0 w) } (.ref s.heap.objs.size) "set" := ⟨_, hS, rfl⟩
      have hli := F.called_set.init.lookup
      have hbi := F.called_set.init.bind (.ref s.heap.objs.size)
      repeat (any_goals (first | assumption | wp_step))
      refine codeAny_mono (codeAny_call_builtin (R := wants (fun r s₂ => r = .none ∧ ∃ h' tk o, s₂ = { s with heap := h', toks := tk } ∧ h'.get? s.heap.objs.size = some o ∧ T items.size o ∧ (∀ b o, s.heap.get? b = some o → h'.get? b = some o)) E)
        F.called_set.init.plain F.entry_set_init (check_set_init_1 hT ?_)) fun r₂ s₂ hr₂ => ?_
      · obtain ⟨ol, hol, hcl, nl, hdl⟩ := hl
        obtain ⟨ocls, odict, odata, oslots⟩ := ol
        simp only at hcl hdl
        subst hcl; subst hdl
        have hol' : (s.heap.push (set0 w)).get? l = some { cls := .type "list", dict := odict, data := .seq items nl, slots := oslots } := Heap.get?_push_of_some _ hol
        have hsls := F.sub_list_set
        have hslf := F.sub_list_frozenset
        have hne : (Value.type "list" == Value.type "dict") = false := by decide
        have hl1 : (s.heap.push (set0 w)).IsList l items := ⟨_, hol', rfl, nl, rfl⟩
        unfold Builtin.«set.__init__» noKeywords Builtin.Frozenset.updateFrom
        generalize hPI : pyIter = PI
        wp_walk
        subst hPI
        refine wpAny_pyIter_list hl1 ?_
        refine wpAny_bind (wpAny_runValue ?_)
        have hlS : l < s.heap.objs.size := Heap.lt_size hol
        have hh3 : A.in1.in1.in1.handled = none := by simp [hh]
        have hneI : l ≠ (s.heap.push (set0 w)).objs.size := by
          rw [Heap.size_push]; exact Nat.ne_of_lt (Nat.lt_succ_of_lt hlS)
        have hSf : s.heap.objs.size ∉ [(s.heap.push (set0 w)).objs.size, l] := by
          rw [Heap.size_push]; simp only [List.mem_cons, List.mem_singleton, List.not_mem_nil, or_false, not_or]
          exact ⟨Nat.ne_of_lt (Nat.lt_succ_self _), Nat.ne_of_gt hlS⟩
        have none_of : ∀ b, s.heap.objs.size ≤ b → s.heap.get? b = none := fun b hb => by
          cases q : s.heap.get? b with
          | none => rfl
          | some o => exact absurd (Nat.lt_of_lt_of_le (Heap.lt_size q) hb) (Nat.lt_irrefl _)
        refine update_any ((Walks.list hh3 _ l hneI items).toS) hSf (T := T) (h0 := s.heap) (none_of _ (Nat.le_refl _)) (fun b hb => none_of b (by
            rw [List.mem_singleton.mp hb, Heap.size_push]
            exact Nat.le_succ _)) ?hadd (items.size - 0) 0 _ (by omega) (Nat.zero_le _)
          ⟨⟨_, Heap.get?_push_size _ rfl, rfl, rfl⟩, (hl1.push _)⟩ (fun b o e => Heap.get?_push_of_some _ (Heap.get?_push_of_some _ e)) ⟨_, Heap.get?_push_of_some _ hS, t0⟩ ?hR
        case hadd => exact add
        case hR =>
          intro s' o hm hS' hT' hkp
          obtain ⟨h', g2, d', tk', os'⟩ := s'
          have eg : g2 = s.gens := hm.gens
          have ed : d' = s.drawn := hm.drawn
          have eo : os' = s.os := hm.os
          subst eg; subst ed; subst eo
          show wpAny _ _ _ _ _ _
          refine wpAny_pure ?_
          show wpAny _ _ (ret Value.none) _ _ _
          exact wpAny_pure ⟨rfl, h', tk', o, rfl, hS', hT', hkp⟩
      · cases r₂ with
        | error e => exact hr₂
        | ok fl₂ =>
          cases fl₂ with
          | ret r =>
            obtain ⟨rfl, h', tk, o, rfl, hS', hT', hk'⟩ := hr₂
            repeat (any_goals (first | assumption | wp_step))
            exact h _ _ _ hS' hT' hk'
          | _ => exact hr₂.elim
    | _ => exact hr.elim
end
end My

set_option Elab.async false
set_option maxRecDepth 100000
set_option maxHeartbeats 4000000
set_option linter.all false
namespace My
open PySem PySem.Spec PyProof.Rows L2
/-! ### tuples -/
structure TupT (w : World) (h0 : Heap) (ks : List (Addr × NK)) (i : Nat) (o : Obj) : Prop where
  ex : ∃ (L : List (Addr × NK)) (es : Array (Int × Value)) (ep : Nat) (t : SetTable), o.ExactSet ∧ o.data = .set es ep t ∧ es.toList = L.map (rowN w) ∧ TabOk t (L.map fun p => hN w p.2) ∧ (L.map (·.2)).Nodup ∧ (w.params.followText "set-order" = true ∨ t.led = true) ∧ L.length * 5 < t.mask * 3 ∧
    L.length ≤ i ∧ (∀ p ∈ L, p ∈ ks.take i) ∧ ∀ p ∈ ks.take i, p.2 ∈ L.map (·.2)
theorem mem_take_next {α : Type} {l : List α} {i : Nat} {x : α} (h : l[i]? = some x) {y : α} : y ∈ l.take (i + 1) ↔ y ∈ l.take i ∨ y = x := by
  rw [take_next h, List.mem_append, List.mem_singleton]
theorem led_new (w : World) : w.params.followText "set-order" = true ∨ (SetTable.fresh 0 0 (!w.params.followText "set-order")).led = true := by
  show _ ∨ (!w.params.followText "set-order") = true
  cases w.params.followText "set-order"
  · exact .inr rfl
  · exact .inl rfl
theorem tupT_new {w : World} {h0 : Heap} {ks : List (Addr × NK)} : TupT w h0 ks 0 (set0 w) :=
  ⟨[], #[], 0, _, ⟨rfl, rfl, rfl⟩, rfl, rfl, ⟨List.Pairwise.nil, rfl, rfl, .inl rfl, fun x hx => (by cases hx), fun i h j hi => (by simp at hi)⟩, List.nodup_nil, led_new w, (by show 0 * 5 < 7 * 3; decide), Nat.le_refl _, fun p h => (by cases h), fun p h => (by simp at h)⟩
theorem tupT_adds {P : Program} {w : World} {A : Around} {h0 : Heap} {S : Addr} {n : Nat} {Pv : Nat → Value → Prop} {ks : List (Addr × NK)} (hS0 : h0.get? S = none) (hn : n = ks.length) (hfew : ks.length < 64) (hval : ∀ i v, Pv i v → ∃ p, ks[i]? = some p ∧ v = .ref p.1) (hk : ∀ p ∈ ks, IsN h0 p.2 p.1) (hu : A.units + 8 < cLine) : Adds P w A h0 S n Pv (TupT w h0 ks) := by
  intro i v o s E Q hi hP hS hT kp hQ
  obtain ⟨p, hp, rfl⟩ := hval i v hP
  obtain ⟨L, es, ep, t, hex, hd, hr, tab, nd, ld, room, len, sub, all⟩ := hT.ex
  have hpm := List.mem_of_getElem? hp
  have hx : IsN s.heap p.2 p.1 := (hk p hpm).keep kp
  have R : SetN w s.heap S L es ep t := ⟨⟨o, hS, hex, hd⟩, hr, tab, nd, fun q hq => (hk q (List.mem_of_mem_take (sub q hq))).keep kp, ld, room, by omega⟩
  unfold setAdd
  refine wpAny_holding ?_
  refine wpAny_bind (pyHash_key p.2 _ A s _ hx.1 (by have := hx.2; omega) ?_)
  refine addN (s := { s with toks := s.toks + p.2.draws }) R hx hu (by omega) fun b h' L' es' ep' t' sb R' c1 c2 => ?_
  obtain ⟨o', ho', hex', hd'⟩ := R'.ob
  refine hQ b h' _ o' (Nat.le_add_right _ _) sb ho' ⟨L', es', ep', t', hex', hd', R'.rows, R'.tab, R'.nd, R'.led, R'.room, ?_⟩
  rcases Classical.em (p.2 ∈ L.map (·.2)) with c | c
  · rw [c1 c]
    refine ⟨by omega, fun q hq => (mem_take_next hp).2 (.inl (sub q hq)), fun q hq => ?_⟩
    rcases (mem_take_next hp).1 hq with z | z
    · exact all q z
    · rw [z]; exact c
  · have pm := c2 c
    refine ⟨by rw [pm.length_eq, List.length_cons]; omega, fun q hq => ?_, fun q hq => ?_⟩
    · rcases List.mem_cons.mp (pm.mem_iff.mp hq) with e | z
      · exact (mem_take_next hp).2 (.inr e)
      · exact (mem_take_next hp).2 (.inl (sub q z))
    · rw [(pm.map (·.2)).mem_iff, List.map_cons]
      rcases (mem_take_next hp).1 hq with z | z
      · exact List.mem_cons_of_mem _ (all q z)
      · rw [z]; exact List.mem_cons_self
/-! data as keys -/
mutual
theorem dp_nested {X : Cx} {pins : List (Addr × Obj)} {σ : L2.St} {H : Hp} {s : Shared} (I : Inv X pins σ H s) : ∀ (k : NK) (v : V) (u : Value), Dp X.K H v k.data → RelV v u → NestedIs s.heap k u
  | .none, _, u, h, r => by
    cases h
    cases r
    exact .none
  | .num i, _, u, h, r => by
    cases h
    obtain ⟨t, rfl⟩ := r
    exact .int _ _
  | .text x, _, u, h, r => by
    cases h
    obtain ⟨t, rfl⟩ := r
    exact .text _ _
  | .tup ks, v, u, h, r => by
    have h' : Dp X.K H v (.tuple (NestedKey.datas ks)) := h
    cases h' with
    | tup hs ha =>
      obtain rfl : u = Value.ref _ := r
      obtain ⟨its, rv, ⟨o, ho, hc, n, hd⟩, _⟩ := I.tuple hs
      exact .tup ho hc hd (by simpa using dp_nesteds I ks _ its ha rv)
theorem dp_nesteds {X : Cx} {pins : List (Addr × Obj)} {σ : L2.St} {H : Hp} {s : Shared} (I : Inv X pins σ H s) : ∀ (ks : List NK) (vs : List V) (us : List Value), DpAll X.K H vs (NestedKey.datas ks) → Vals vs us → NestedAll s.heap ks us
  | [], _, us, h, r => by
    cases h
    cases r
    exact .nil
  | k :: ks, _, us, h, r => by
    cases h with
    | cons h t =>
      cases r with
      | cons r rt => exact .cons (dp_nested I k _ _ h r) (dp_nesteds I ks _ _ t rt)
end
theorem datas_map : ∀ ks : List NK, NestedKey.datas ks = ks.map NestedKey.data
  | [] => rfl
  | k :: ks => by rw [NestedKey.datas, datas_map ks, List.map_cons]
theorem data_inj {H : Hp} {K : PySem.W.Frag} : True := trivial
def isTup : NK → Bool
  | .tup _ => true
  | _ => false
/-- set(xs), xs a list of fewer than 64 tuples -/
def rSetT (K : PySem.W.Frag) (w : World) : List V → Hp → VK → Prop := fun xs H Q => ∃ (l : Addr) (ps : List (Addr × NK)), xs = [V.ref l] ∧ SqL K H l (ps.map fun p => V.ref p.1) ∧ (∀ p ∈ ps, Dp K H (.ref p.1) p.2.data ∧ p.2.depth ≤ 8) ∧ ps.length < 64 ∧
  ∀ a (L : List (Addr × NK)), H a = none → (∀ p ∈ L, p ∈ ps) → (L.map (·.2)).Nodup → (∀ p ∈ ps, p.2 ∈ L.map (·.2)) → Q (.ref a) (upd H a (SetV w a (L.map fun p => V.ref p.1)))
theorem refs_back2 : ∀ {ks : List (Addr × NK)} {us : List Value}, Vals (ks.map fun p => V.ref p.1) us → us = ks.map fun p => Value.ref p.1
  | [], _, .nil => rfl
  | p :: ks, _, .cons r t => by
    cases r
    rw [refs_back2 t] <;> rfl
theorem vals_refs2 : ∀ (ks : List (Addr × NK)), Vals (ks.map fun p => V.ref p.1) (ks.map fun p => Value.ref p.1)
  | [] => .nil
  | p :: ks => .cons rfl (vals_refs2 ks)
section
variable {X : Cx}
theorem cr_setT (hc : X.calm = true) (hu : X.A.units + 65 < cLine) : CallR X (.type "set") (rSetT X.K X.w) := by
  intro pins s σ H xs us Q I r h
  obtain ⟨l, ps, rfl, hl, hk, hf, q⟩ := h
  obtain ⟨u, rfl, ru⟩ := vals1 r
  obtain rfl : u = Value.ref l := ru
  obtain ⟨its, rv, pl, hz⟩ := I.list hl
  have hn : H s.heap.objs.size = none := I.hok.fresh (Nat.le_refl _)
  have hits : its = ps.map fun p => Value.ref p.1 := refs_back2 rv
  have hz2 : its.toArray.size = ps.length := by rw [List.size_toArray, hits, List.length_map]
  have hk' : ∀ p ∈ ps, IsN s.heap p.2 p.1 := fun p hp => ⟨dp_nested I p.2 _ _ (hk p hp).1 rfl, (hk p hp).2⟩
  have hfresh : s.heap.get? s.heap.objs.size = none := by
    cases z : s.heap.get? s.heap.objs.size with
    | none => rfl
    | some o => exact absurd (Heap.lt_size z) (Nat.lt_irrefl _)
  refine call_set_any (P := X.prog) (w := X.w) (I.ok.hd hc) pl.isList (T := TupT X.w s.heap ps) tupT_new ?_ fun h' tk o ho hT kp => ?_
  · refine tupT_adds hfresh hz2 hf (fun i v hv => ?_) hk' (by show X.A.units + 1 + 1 + 1 + 8 < cLine; omega)
    rw [← Array.getElem?_toList, hits] at hv
    have hv' : (ps.map fun p => Value.ref p.1)[i]? = some v := by simpa using hv
    rw [List.getElem?_map] at hv'
    cases e : ps[i]? with
    | none => rw [e] at hv'; cases hv'
    | some p =>
      rw [e] at hv'
      exact ⟨p, rfl, (Option.some.inj hv').symm⟩
  · obtain ⟨L, es, ep, t, hex, hd, hr, tab, nd, ld, room, len, sub, all⟩ := hT.ex
    rw [hz2] at len sub all
    rw [List.take_length] at sub all
    have hsl := rows_size hr
    have psz : t.place.size = es.size := by rw [tab.sz, List.length_map, hsl]
    have sv : SetV0 X.w h' s.heap.objs.size (L.map fun p => V.ref p.1) := ⟨es, ep, t, ⟨o, ho, hex, hd⟩, fits_of psz tab.dm (by omega), tab.ris, ld, by omega, by
      rw [hr, List.map_map]
      exact vals_refs2 L⟩
    exact ⟨.ref s.heap.objs.size, upd H s.heap.objs.size (SetV X.w s.heap.objs.size (L.map fun p => V.ref p.1)), I.laid (t' := tk) kp (Nat.le_refl _) (setV_new sv), rfl, q _ L hn sub nd all⟩
end
/-! ### texts -/
def keyS (e : Int × Value) : Str := match e.2 with | .str x _ => x | _ => ""
def IsS (w : World) (e : Int × Value) : Prop := ∃ x tk, e = (hashStr w x, Value.str x tk)
structure TxtT (w : World) (xs : List Str) (i : Nat) (o : Obj) : Prop where
  ex : ∃ (es : Array (Int × Value)) (ep : Nat) (t : SetTable), o.ExactSet ∧ o.data = .set es ep t ∧ t.fits es.size = true ∧ Ris t.place.toList ∧ (w.params.followText "set-order" = true ∨ t.led = true) ∧ (∀ e ∈ es.toList, IsS w e) ∧ (es.toList.map keyS).Nodup ∧ (∀ x, x ∈ xs.take i ↔ x ∈ es.toList.map keyS) ∧ es.size ≤ i
theorem txtT_new {w : World} {xs : List Str} : TxtT w xs 0 (set0 w) :=
  ⟨#[], 0, _, ⟨rfl, rfl, rfl⟩, rfl, rfl, List.Pairwise.nil, led_new w, fun e he => (by simp at he), List.nodup_nil, fun x => by simp, Nat.le_refl _⟩
section
variable {P : Program} {w : World} {A : Around} {E : Value → Shared → Prop} {s : Shared}
theorem isS_elems {l : List (Int × Value)} (g : ∀ e ∈ l, IsS w e) : ElemsOf (strKind P w) l := fun e he => by
  obtain ⟨x, tk, rfl⟩ := g e he
  exact ⟨⟨x, by show Value.isStr (.str x tk) x = true; simp [Value.isStr], rfl⟩, rfl⟩
theorem isS_is {e : Int × Value} (g : IsS w e) (x : Str) : (strKind P w).is x e.2 = true ↔ keyS e = x := by
  obtain ⟨y, tk, rfl⟩ := g
  show Value.isStr (.str y tk) x = true ↔ y = x
  simp [Value.isStr]
  try exact eq_comm
theorem add_txt {S : Addr} {o : Obj} {es : Array (Int × Value)} {ep : Nat} {t : SetTable} (ho : s.heap.get? S = some o) (hex : o.ExactSet) (hd : o.data = .set es ep t) (hf : t.fits es.size = true) (hr : Ris t.place.toList) (hl : w.params.followText "set-order" = true ∨ t.led = true)
    (g : ∀ e ∈ es.toList, IsS w e) (hb : es.size + 1 < scanBound) {x : Str} {tk : Tok} {Q : Bool → Shared → Prop}
    (hQ : ∀ b h' o' es' ep' t', Heap.SameBut S s.heap h' → h'.get? S = some o' → o'.ExactSet → o'.data = .set es' ep' t' → t'.fits es'.size = true → Ris t'.place.toList → (w.params.followText "set-order" = true ∨ t'.led = true) →
      (x ∈ es.toList.map keyS → es'.toList.Perm es.toList) → (x ∉ es.toList.map keyS → es'.toList.Perm ((hashStr w x, Value.str x tk) :: es.toList)) → Q b { s with heap := h' }) :
    wpAny (model P w) A (setAddHashed S (.str x tk) (hashStr w x)) Q E s := by
  have hkey : (strKind P w).is x (.str x tk) = true := by show Value.isStr (.str x tk) x = true; simp [Value.isStr]
  have hsc : (Value.str x tk).scannable = true := rfl
  have hel : ElemsOf (strKind P w) es.toList := isS_elems g
  have hx : hashStr w x = (strKind P w).hash x := rfl
  unfold setAddHashed setAddHashedIn
  refine wpAny_holding (wpAny_bind (wpAny_setState_of ho hd hf ?_))
  dsimp only
  rw [byScan_of hsc (by omega) hel]
  simp only [↓reduceIte]
  unfold setAddByScan
  refine wpAny_bind ?_
  refine wpAny_bind (wpAny_rule ?_)
  refine wpAny_bind (wpAny_setScan_of hkey ho hd hf hel ?_)
  cases hfi : List.findIdx? (fun e => (strKind P w).is x e.2) es.toList with
  | some j =>
    dsimp only
    obtain ⟨hj, pj, _⟩ := List.findIdx?_eq_some_iff_getElem.mp hfi
    have hin : x ∈ es.toList.map keyS := List.mem_map.mpr ⟨es.toList[j], List.getElem_mem hj, (isS_is (P := P) (g _ (List.getElem_mem hj)) x).1 pj⟩
    exact wpAny_pure (wpAny_pure (hQ _ s.heap o es ep t (Heap.SameBut.refl S s.heap) ho hex hd hf hr hl (fun _ => .refl _) fun z => absurd hin z))
  | none =>
    dsimp only
    have hnx : x ∉ es.toList.map keyS := fun z => by
      obtain ⟨e, he, q⟩ := List.mem_map.mp z
      have c := List.findIdx?_eq_none_iff.mp hfi e he
      rw [(isS_is (P := P) (g e he) x).2 q] at c
      cases c
    have hgw : ∀ (b : Bool) {s₁ : Shared} {Q' : Unit → Shared → Prop}, Q' () s₁ → wpAny (model P w) A (match b with | true => rule "set.scan.the-table-gave-way" | false => pure ()) Q' E s₁ :=
      fun b s₁ Q' q => by cases b <;> first | exact wpAny_pure q | exact wpAny_rule q
    have pm := layNew_perm t es ((strKind P w).hash x) (.str x tk)
    have hf1 := layNew_fits t es ((strKind P w).hash x) (.str x tk)
    have hr1 := layNew_ris t es ((strKind P w).hash x) (.str x tk) hr
    have hl1 := layNew_led t es ((strKind P w).hash x) (.str x tk)
    rw [hx] at hQ ⊢
    generalize layNew t es ((strKind P w).hash x) (.str x tk) = Z at pm hf1 hr1 hl1 ⊢
    obtain ⟨es1, t1, wasDummy, gave⟩ := Z
    dsimp only at pm hf1 hr1 hl1 ⊢
    rw [Array.toList_push] at pm
    have pc : es1.toList.Perm (((strKind P w).hash x, Value.str x tk) :: es.toList) := pm.trans (List.perm_append_singleton _ _)
    have hsz : es1.size = es.size + 1 := by rw [← Array.length_toList, pc.length_eq, List.length_cons, Array.length_toList]
    have hled : w.params.followText "set-order" = true ∨ t1.led = true := hl.imp id fun z => by rw [hl1]; exact z
    -- what comes behind the laying, whatever the mark
    have tail : ∀ (t2 : SetTable) (R : Option Bool → Shared → Prop) (gg : Bool → Sem Unit), (∀ (b : Bool) (s₁ : Shared) (Q' : Unit → Shared → Prop), Q' () s₁ → wpAny (model P w) A (gg b) Q' E s₁) → t2.fits es1.size = true → Ris t2.place.toList → (w.params.followText "set-order" = true ∨ t2.led = true) →
        (∀ s', (∀ b, Q b s') → R (some true) s') → wpAny (model P w) A (do
        storeSet S es1 t2
        if (!wasDummy && t2.tooFull) = true then do
            gg (relayAll t2 es1 (SetTable.grown es1.size)).2.2
            storeSet S (relayAll t2 es1 (SetTable.grown es1.size)).1 (relayAll t2 es1 (SetTable.grown es1.size)).2.1
            pure (some true)
          else pure (some true)) R E s := by
      intro t2 R gg hgg f2 r2 l2 hR
      refine wpAny_bind (wpAny_storeSet_of ho hd ?_ (fits_of_scanBound (by omega)))
      have ho1 := store_at (es' := es1) (t' := t2) ho hd
      have sb1 := Heap.SameBut.update s.heap S (Obj.putSet es1 t2)
      split
      · have pm3 := relayAll_perm t2 es1 (SetTable.grown es1.size)
        have hf3 := relayAll_fits t2 es1 (SetTable.grown es1.size)
        have hr3 := relayAll_ris t2 es1 (SetTable.grown es1.size)
        have hl3 := relayAll_led t2 es1 (SetTable.grown es1.size)
        generalize relayAll t2 es1 (SetTable.grown es1.size) = Z at pm3 hf3 hr3 hl3 ⊢
        obtain ⟨es2, t3, gave2⟩ := Z
        dsimp only at pm3 hf3 hr3 hl3 ⊢
        have hsz2 : es2.size = es1.size := by rw [← Array.length_toList, pm3.length_eq, Array.length_toList]
        refine wpAny_bind (hgg _ _ _ ?_)
        refine wpAny_bind (wpAny_storeSet_of ho1 rfl ?_ (fits_of_scanBound (by omega)))
        have ho2 := store_at (es' := es2) (t' := t3) ho1 rfl
        refine wpAny_pure (hR _ fun b => ?_)
        exact hQ b _ _ es2 _ t3 (sb1.trans (Heap.SameBut.update _ S _)) ho2 ⟨hex.1, hex.2.1, hex.2.2⟩ rfl (by rw [hsz2]; first | exact hf3 | (rw [← hsz2]; exact hf3)) hr3 (l2.imp id fun z => by rw [hl3]; exact z) (fun z => absurd z hnx) fun _ => pm3.trans pc
      · exact wpAny_pure (hR _ fun b => hQ b _ _ es1 _ t2 sb1 ho1 ⟨hex.1, hex.2.1, hex.2.2⟩ rfl f2 r2 l2 (fun z => absurd z hnx) fun _ => pc)
    refine wpAny_bind (hgw _ ?_)
    split
    · refine wpAny_bind ?_
      rw [hashByValue_scannable 8 hsc]
      refine wpAny_pure ?_
      refine tail _ _ _ ?_ ?_ ?_ ?_ ?_
      · intro b s₁ Q' q; cases b <;> first | exact wpAny_pure q | exact wpAny_rule q
      · first | (split <;> first | exact hf1 | exact SetTable.fits_plain_off hf1) | exact hf1
      · first | (split <;> exact hr1) | exact hr1
      · first | (split <;> exact hled) | exact hled
      · intro s' q; dsimp only; exact wpAny_pure (q _)
    · refine wpAny_bind (wpAny_pure ?_)
      simp only [↓reduceIte]
      refine tail _ _ _ ?_ hf1 hr1 hled ?_
      · intro b s₁ Q' q; cases b <;> first | exact wpAny_pure q | exact wpAny_rule q
      · intro s' q; dsimp only; exact wpAny_pure (q _)
theorem txtT_adds {h0 : Heap} {S : Addr} {n : Nat} {Pv : Nat → Value → Prop} {xs : List Str} (hn : n = xs.length) (hfew : xs.length < 1000) (hval : ∀ i v, Pv i v → ∃ x tk, xs[i]? = some x ∧ v = .str x tk) : Adds P w A h0 S n Pv (TxtT w xs) := by
  intro i v o s E Q hi hP hS hT kp hQ
  obtain ⟨x, tk, hx, rfl⟩ := hval i v hP
  obtain ⟨es, ep, t, hex, hd, hf, hr, hl, g, nd, mem, len⟩ := hT.ex
  unfold setAdd
  refine wpAny_holding ?_
  refine wpAny_bind (wpAny_pyHash_str ?_)
  refine add_txt (s := { s with toks := s.toks + 1 }) hS hex hd hf hr hl g (by unfold scanBound; omega) fun b h' o' es' ep' t' sb ho' hex' hd' hf' hr' hl' c1 c2 => ?_
  refine hQ b h' _ o' (Nat.le_succ _) sb ho' ⟨es', ep', t', hex', hd', hf', hr', hl', ?_⟩
  rcases Classical.em (x ∈ es.toList.map keyS) with c | c
  · have pm := c1 c
    refine ⟨fun e he => g e (pm.mem_iff.mp he), (pm.map keyS).nodup_iff.mpr nd, fun y => ?_, ?_⟩
    · rw [(pm.map keyS).mem_iff, ← mem y, mem_take_next hx]
      constructor
      · rintro (z | z)
        · exact z
        · rw [z]; exact (mem x).2 c
      · exact .inl
    · rw [← Array.length_toList, pm.length_eq, Array.length_toList]; omega
  · have pm := c2 c
    have pk : (es'.toList.map keyS).Perm (x :: es.toList.map keyS) := pm.map keyS
    refine ⟨fun e he => ?_, pk.nodup_iff.mpr (List.nodup_cons.mpr ⟨c, nd⟩), fun y => ?_, ?_⟩
    · rcases List.mem_cons.mp (pm.mem_iff.mp he) with z | z
      · exact ⟨x, tk, z⟩
      · exact g e z
    · rw [pk.mem_iff, List.mem_cons, ← mem y, mem_take_next hx]
      exact Or.comm
    · rw [← Array.length_toList, pm.length_eq, List.length_cons, Array.length_toList]; omega
end
/-- set(xs), xs a list of texts -/
def rSetS (K : PySem.W.Frag) (w : World) : List V → Hp → VK → Prop := fun vs H Q => ∃ (l : Addr) (xs : List Str), vs = [V.ref l] ∧ SqL K H l (xs.map V.str) ∧ xs.length < 1000 ∧
  ∀ a (ys : List Str), H a = none → ys.Nodup → (∀ x, x ∈ ys ↔ x ∈ xs) → Q (.ref a) (upd H a (SetV w a (ys.map V.str)))
theorem vals_strs : ∀ {l : List (Int × Value)} {w : World}, (∀ e ∈ l, IsS w e) → Vals ((l.map keyS).map V.str) (l.map (·.2))
  | [], _, _ => .nil
  | e :: l, w, g => by
    obtain ⟨x, tk, h⟩ := g e List.mem_cons_self
    subst h
    exact .cons ⟨tk, rfl⟩ (vals_strs fun e he => g e (List.mem_cons_of_mem _ he))
theorem strs_at : ∀ {xs : List Str} {us : List Value}, Vals (xs.map V.str) us → ∀ (i : Nat) (v : Value), us[i]? = some v → ∃ x tk, xs[i]? = some x ∧ v = .str x tk
  | [], _, .nil, i, v, h => by simp at h
  | x :: xs, _, .cons r t, 0, v, h => by
    obtain ⟨tk, e⟩ := r
    exact ⟨x, tk, rfl, by rw [← Option.some.inj h]; exact e⟩
  | x :: xs, _, .cons r t, i + 1, v, h => strs_at t i v h
section
variable {X : Cx}
theorem cr_setS (hc : X.calm = true) : CallR X (.type "set") (rSetS X.K X.w) := by
  intro pins s σ H vs us Q I r h
  obtain ⟨l, xs, rfl, hl, hf, q⟩ := h
  obtain ⟨u, rfl, ru⟩ := vals1 r
  obtain rfl : u = Value.ref l := ru
  obtain ⟨its, rv, pl, hz⟩ := I.list hl
  have hn : H s.heap.objs.size = none := I.hok.fresh (Nat.le_refl _)
  have hz2 : its.toArray.size = xs.length := by rw [List.size_toArray, ← rv.length, List.length_map]
  refine call_set_any (P := X.prog) (w := X.w) (I.ok.hd hc) pl.isList (T := TxtT X.w xs) txtT_new (txtT_adds hz2 hf fun i v hv => strs_at rv i v (by simpa using hv)) fun h' tk o ho hT kp => ?_
  obtain ⟨es, ep, t, hex, hd, hft, hr, hl, g, nd, mem, len⟩ := hT.ex
  rw [hz2, List.take_length] at mem
  rw [hz2] at len
  have sv : SetV0 X.w h' s.heap.objs.size ((es.toList.map keyS).map V.str) := ⟨es, ep, t, ⟨o, ho, hex, hd⟩, hft, hr, hl, by omega, vals_strs g⟩
  exact ⟨.ref s.heap.objs.size, upd H s.heap.objs.size (SetV X.w s.heap.objs.size ((es.toList.map keyS).map V.str)), I.laid (t' := tk) kp (Nat.le_refl _) (setV_new sv), rfl, q _ _ hn nd fun x => (mem x).symm⟩
end
end My

set_option Elab.async false
set_option maxRecDepth 100000
set_option maxHeartbeats 4000000
set_option linter.all false
/-! Dicts whose keys are tuples, also of tuples. -/
namespace My
open PySem PySem.Spec PyProof.Rows L2
abbrev NRow := NK × Addr × V
abbrev NRows := List NRow
def NRel (p : NRow) (q : NK × Addr × Value) : Prop := p.1 = q.1 ∧ p.2.1 = q.2.1 ∧ RelV p.2.2 q.2.2
def dnP (P : Program) (w : World) (d : Addr) (xs : NRows) (h : Heap) : Prop :=
  (d == sysModules) = false ∧ ∃ vs : List (NK × Addr × Value), Paired NRel xs vs ∧ ∃ o es ep, h.get? d = some o ∧ o.ExactDict ∧ o.data = .dict es ep ∧ es.toList = vs.map (entryOfKey (nestedKind P w)) ∧ (vs.map (·.1)).Nodup
def dnO (P : Program) (w : World) (d : Addr) (xs : NRows) : HO := .ext (dnP P w d xs)
theorem dnO_ok {P : Program} {w : World} {H : Hp} {h : Heap} {d : Addr} {xs : NRows} (x : dnP P w d xs h) : ObjOk P w H h d (dnO P w d xs) := by
  obtain ⟨hd, vs, r, o, es, ep, e, c⟩ := x
  refine ⟨⟨hd, vs, r, o, es, ep, e, c⟩, ⟨o, e⟩, fun h1 h2 x k => ?_⟩
  obtain ⟨hd, vs, r, o, es, ep, e, c⟩ := x
  exact ⟨hd, vs, r, o, es, ep, k o e, c⟩
def valN (xs : NRows) (k : NK) : Option V := (xs.find? fun x => decide (x.1 = k)).map (·.2.2)
structure DN (P : Program) (w : World) (K : PySem.W.Frag) (H : Hp) (d : Addr) (xs : NRows) : Prop where
  at_ : H d = some (dnO P w d xs) ∨ (xs = [] ∧ H d = some (.dK []))
  len : xs.length ≤ sizeLine
  keys : ∀ x ∈ xs, Dp K H (.ref x.2.1) x.1.data ∧ x.1.depth ≤ 8
theorem nrel_val {k : NK} : ∀ {xs : NRows} {vs : List (NK × Addr × Value)}, Paired NRel xs vs → RelO (valN xs k) ((atKey vs k).map (·.2))
  | _, _, .nil => True.intro
  | _, _, .cons (a := p) (b := q) h t => by
    have ih := nrel_val (k := k) t
    unfold valN atKey at *
    by_cases e : p.1 = k
    · have e2 : q.1 = k := h.1.symm.trans e
      rw [List.find?_cons_of_pos (by simp [e]), List.find?_cons_of_pos (by simp [e2])]
      exact h.2.2
    · have e2 : ¬ q.1 = k := fun z => e (h.1.trans z)
      rw [List.find?_cons_of_neg (by simp [e]), List.find?_cons_of_neg (by simp [e2])]
      exact ih
theorem nrel_mem {xs : NRows} {vs : List (NK × Addr × Value)} (r : Paired NRel xs vs) : ∀ q ∈ vs, ∃ p ∈ xs, NRel p q := by
  induction r with
  | nil => intro q hq; cases hq
  | @cons p q ps qs h t ih =>
    intro z hz
    rcases List.mem_cons.mp hz with e | hz
    · exact ⟨p, .head _, by rw [e]; exact h⟩
    · obtain ⟨y, h1, h2⟩ := ih z hz
      exact ⟨y, .tail _ h1, h2⟩
section
variable {X : Cx} {pins : List (Addr × Obj)} {σ : L2.St} {H : Hp} {s : Shared} {d : Addr} {xs : NRows}
theorem dn_of (I : Inv X pins σ H s) (D : DN X.prog X.w X.K H d xs) : (d == sysModules) = false ∧ ∃ vs, Paired NRel xs vs ∧ s.heap.DictOfH (nestedKind X.prog X.w) d vs := by
  rcases D.at_ with e | ⟨rfl, e⟩
  · obtain ⟨⟨hd, vs, r, o, es, ep, h1, h2, h3, h4, h5⟩, _⟩ := (show ObjOk X.prog X.w H s.heap d (dnO X.prog X.w d xs) from I.hok d _ e)
    refine ⟨hd, vs, r, o, es, ep, h1, h2, h3, h4, fun q hq => ?_, h5⟩
    obtain ⟨p, hp, e1, e2, _⟩ := nrel_mem r q hq
    obtain ⟨k1, k2⟩ := D.keys p hp
    rw [e1, e2] at k1
    rw [e1] at k2
    exact ⟨dp_nested I q.1 _ _ k1 rfl, k2⟩
  · obtain ⟨z, hd, vs, rel, o, es, ep, h1, h2, h3, h4, h5, h6⟩ := dk_of I.hok e
    cases rel
    have e0 : es.toList = [] := by
      cases hes : es.toList with
      | nil => rfl
      | cons y ys => rw [hes] at h5; cases h5
    exact ⟨hd, [], .nil, o, es, ep, h1, h2, h3, e0, (fun q hq => by cases hq), List.nodup_nil⟩
end
section
variable {X : Cx}
/-- k not in d -/
def rNotInN (P : Program) (w : World) (K : PySem.W.Frag) : R2 := fun x y H Q => ∃ (b : Addr) (k : NK) (d : Addr) (xs : NRows), x = .ref b ∧ y = .ref d ∧ Dp K H (.ref b) k.data ∧ k.depth ≤ 8 ∧ DN P w K H d xs ∧ Q (.bl (!(valN xs k).isSome)) H
theorem op_notinN (hu : X.A.units + 65 < cLine) : OpR X (compareOp .NotIn) (rNotInN X.prog X.w X.K) := by
  intro pins s σ H x y v u Q I rx ry h
  obtain ⟨b, k, d, xs, rfl, rfl, hk, h8, D, q⟩ := h
  cases rx
  cases ry
  obtain ⟨hd, vs, r, dd⟩ := dn_of I D
  refine wpAny_notIn_heap (knd := nestedKind X.prog X.w) (k := k) (by show X.A.units + 1 + 8 < cLine; omega) ⟨dp_nested I k _ _ hk rfl, h8⟩ hd dd ?_
  have e := (nrel_val (k := k) r).isSome_eq
  rw [Option.isSome_map] at e
  rw [← e]
  exact ⟨.bl _, H, I.tok _, rfl, q⟩
/-- d[k] -/
def rIxN (P : Program) (w : World) (K : PySem.W.Frag) : R2 := fun x y H Q => ∃ (b : Addr) (k : NK) (d : Addr) (xs : NRows) (v : V), x = .ref d ∧ y = .ref b ∧ Dp K H (.ref b) k.data ∧ k.depth ≤ 8 ∧ DN P w K H d xs ∧ valN xs k = some v ∧ Q v H
theorem ix_N (hu : X.A.units + 65 < cLine) : IxR X (rIxN X.prog X.w X.K) := by
  intro value slice pins s σ H x y v u Q I rx ry h hs
  obtain ⟨b, k, d, xs, z, rfl, rfl, hk, h8, D, hv, q⟩ := h
  cases rx
  cases ry
  obtain ⟨hd, vs, r, dd⟩ := dn_of I D
  obtain ⟨w', hw, rw'⟩ := RelO.some_of (v := z) (o := (atKey vs k).map (·.2)) (by rw [← hv]; exact nrel_val r)
  obtain ⟨p, hp, rfl⟩ := Option.map_eq_some_iff.mp hw
  exact subscriptTail_builtinR (x := p.2) dd.typeIs PySem.F.slot_dict_getitem.lookup
    (wpAny_getItem_heap (knd := nestedKind X.prog X.w) (k := k) (by show X.A.units + 1 + 8 < cLine; omega) ⟨dp_nested I k _ _ hk rfl, h8⟩ dd hp ⟨rfl, z, H, I.tok _, rw', q⟩) hs
/-- d[k] = v, k not yet in d -/
def rSetN (P : Program) (w : World) (K : PySem.W.Frag) : TSet := fun o i v H Q => ∃ (b : Addr) (k : NK) (d : Addr) (xs : NRows), o = .ref d ∧ i = .ref b ∧ Dp K H (.ref b) k.data ∧ k.depth ≤ 8 ∧ DN P w K H d xs ∧ xs.length < sizeLine ∧ valN xs k = none ∧ Q (upd H d (dnO P w d (xs ++ [(k, b, v)])))
theorem set_N (hu : X.A.units + 65 < cLine) : PSet X (rSetN X.prog X.w X.K) := by
  intro pins s σ H o i v ov iv u Q I ro ri rv h
  obtain ⟨b, k, d, xs, rfl, rfl, hk, h8, D, hl, hv, q⟩ := h
  cases ro
  cases ri
  obtain ⟨hd, vs, r, dd⟩ := dn_of I D
  have hz : vs.length ≤ sizeLine := by rw [← Paired.length r]; omega
  have ek : atKey vs k = none := by
    have e := (nrel_val (k := k) r).isSome_eq
    rw [hv, Option.isSome_map] at e
    exact Option.isNone_iff_eq_none.mp (by rw [Option.isNone_iff_eq_none, ← Option.not_isSome_iff_eq_none, ← e]; decide)
  refine wpAny_setItem_heap (knd := nestedKind X.prog X.w) (k := k) (hsz := hz) (by show X.A.units + 1 + 8 < cLine; omega) ⟨dp_nested I k _ _ hk rfl, h8⟩ dd fun h' dd' hs => ?_
  rw [storedH_new ek] at dd'
  obtain ⟨o, es, ep, h1, h2, h3, h4, _, h5⟩ := dd'
  refine ⟨_, d_write I ?_ hs ⟨o, h1⟩ (dnO_ok ⟨hd, _, Paired.snoc r ⟨rfl, rfl, rv⟩, o, es, ep, h1, h2, h3, h4, h5⟩), q⟩
  rcases D.at_ with e | ⟨_, e⟩ <;> rw [e] <;> exact True.intro
end
/-! what stays -/
/-- all but the thing at d stays -/
theorem hide_upd_self {d : Addr} {H : Hp} (o : HO) : hide d (upd H d o) = hide d H := funext fun b => by
  by_cases e : b = d
  · rw [e, hide_at, hide_at]
  · rw [hide_ne e, hide_ne e, upd_ne e]
end My

set_option Elab.async false
set_option maxRecDepth 100000
set_option maxHeartbeats 4000000
set_option linter.all false
/-! Pools as data: gates, what they say of named bits. -/
namespace My
open PySem PySem.Spec PyProof.Rows L2
inductive Gt where
  | no | bit (n : NK) | both (x y : Int) | unlike (x y : Int) | chosen (c x y : Int) | most (x y z : Int)
def Gt.nk : Gt → NK
  | .no => .tup [.text "no"]
  | .bit n => .tup [.text "bit", n]
  | .both x y => .tup [.text "both", .num x, .num y]
  | .unlike x y => .tup [.text "unlike", .num x, .num y]
  | .chosen c x y => .tup [.text "chosen", .num c, .num x, .num y]
  | .most x y z => .tup [.text "most", .num x, .num y, .num z]
def Gt.parts : Gt → List Int
  | .no => []
  | .bit _ => []
  | .both x y => [x, y]
  | .unlike x y => [x, y]
  | .chosen c x y => [c, x, y]
  | .most x y z => [x, y, z]
/-- the bit of a literal, the gates' bits being bs -/
def litv (bs : List Int) (x : Int) : Int := if x % 2 = 0 then bs.getD (x / 2).toNat 0 else 1 - bs.getD (x / 2).toNat 0
abbrev Bits := NK → Int
def Gt.val (env : Bits) (bs : List Int) : Gt → Int
  | .no => 0
  | .bit n => env n
  | .both x y => if litv bs x + litv bs y ≥ 2 then 1 else 0
  | .unlike x y => if litv bs x = litv bs y then 0 else 1
  | .chosen c x y => if litv bs c = 1 then litv bs x else litv bs y
  | .most x y z => if litv bs x + litv bs y + litv bs z ≥ 2 then 1 else 0
def bitsOf (env : Bits) (gs : List Gt) : List Int := gs.foldl (fun bs g => bs ++ [g.val env bs]) []
theorem bitsOf_snoc (env : Bits) (gs : List Gt) (g : Gt) : bitsOf env (gs ++ [g]) = bitsOf env gs ++ [g.val env (bitsOf env gs)] := by
  unfold bitsOf
  rw [List.foldl_append]
  rfl
theorem snoc_cases {α : Type} (xs : List α) : xs = [] ∨ ∃ ys y, xs = ys ++ [y] := by
  rcases xs.eq_nil_or_concat with h | ⟨ys, y, h⟩
  · exact .inl h
  · exact .inr ⟨ys, y, by rw [h, List.concat_eq_append]⟩
theorem snoc_rec {α : Type} {p : List α → Prop} (h0 : p []) (h1 : ∀ xs x, p xs → p (xs ++ [x])) : ∀ xs, p xs := by
  intro xs
  have : ∀ n (xs : List α), xs.length = n → p xs := by
    intro n
    induction n with
    | zero => intro xs h; rw [List.length_eq_zero_iff.mp h]; exact h0
    | succ n ih =>
      intro xs h
      rcases snoc_cases xs with e | ⟨ys, y, e⟩
      · rw [e]; exact h0
      · rw [e] at h ⊢
        exact h1 ys y (ih ys (by rw [List.length_append, List.length_singleton] at h; omega))
  exact this _ xs rfl
theorem bitsOf_len (env : Bits) (gs : List Gt) : (bitsOf env gs).length = gs.length := by
  induction gs using snoc_rec with
  | h0 => rfl
  | h1 xs x ih => rw [bitsOf_snoc, List.length_append, List.length_append, ih]; rfl
theorem bitsOf_pre (env : Bits) (gs more : List Gt) : ∃ t, bitsOf env (gs ++ more) = bitsOf env gs ++ t := by
  induction more using snoc_rec with
  | h0 => exact ⟨[], by rw [List.append_nil, List.append_nil]⟩
  | h1 xs x ih =>
    obtain ⟨t, ht⟩ := ih
    rw [← List.append_assoc, bitsOf_snoc, ht]
    exact ⟨t ++ [x.val env (bitsOf env gs ++ t)], by rw [List.append_assoc]⟩
def okL (gs : List Gt) (x : Int) : Prop := 0 ≤ x ∧ x < 2 * (gs.length : Int)
theorem okL.mono {gs gs' : List Gt} {x : Int} (h : okL gs x) (p : gs <+: gs') : okL gs' x := ⟨h.1, by have := p.length_le; have := h.2; omega⟩
theorem litv_pre {env : Bits} {gs gs' : List Gt} {x : Int} (h : okL gs x) (p : gs <+: gs') : litv (bitsOf env gs') x = litv (bitsOf env gs) x := by
  obtain ⟨more, rfl⟩ := p
  obtain ⟨t, e⟩ := bitsOf_pre env gs more
  have hl : (x / 2).toNat < (bitsOf env gs).length := by rw [bitsOf_len]; have := h.1; have := h.2; omega
  unfold litv
  rw [e, List.getD_eq_getElem?_getD, List.getElem?_append_left hl, ← List.getD_eq_getElem?_getD]
/-- made of no constant, of no gate twice -/
structure Gt.Neat (g : Gt) : Prop where
  big : ∀ x ∈ g.parts, 2 ≤ x
  dist : g.parts.Pairwise fun x y => x / 2 ≠ y / 2
/-- gates in order -/
structure okGs (gs : List Gt) : Prop where
  first : gs[0]? = some .no
  parts : ∀ (i : Nat) (g : Gt), gs[i]? = some g → ∀ x ∈ g.parts, 0 ≤ x ∧ x < 2 * (i : Int)
  neat : ∀ (i : Nat) (g : Gt), gs[i]? = some g → g.Neat
theorem okGs.pos {gs : List Gt} (h : okGs gs) : 0 < gs.length := by
  have := h.first
  cases gs with
  | nil => cases this
  | cons g r => exact Nat.succ_pos _
theorem okGs.snoc {gs : List Gt} (h : okGs gs) {g : Gt} (hg : ∀ x ∈ g.parts, okL gs x) (hn : g.Neat) : okGs (gs ++ [g]) := by
  refine ⟨?_, fun i g' e x hx => ?_, fun i g' e => ?_⟩
  · rw [List.getElem?_append_left h.pos]
    exact h.first
  · by_cases hi : i < gs.length
    · rw [List.getElem?_append_left hi] at e
      exact h.parts i g' e x hx
    · rw [List.getElem?_append_right (by omega)] at e
      have hi2 : i = gs.length := by
        have := (List.getElem?_eq_some_iff.mp e).1
        rw [List.length_singleton] at this
        omega
      rw [hi2, Nat.sub_self] at e
      cases e
      rw [hi2]
      exact hg x hx
  · by_cases hi : i < gs.length
    · rw [List.getElem?_append_left hi] at e
      exact h.neat i g' e
    · rw [List.getElem?_append_right (by omega)] at e
      have hi2 : i = gs.length := by
        have := (List.getElem?_eq_some_iff.mp e).1
        rw [List.length_singleton] at this
        omega
      rw [hi2, Nat.sub_self] at e
      cases e
      exact hn
/-- no named bit is new -/
def NoBits (gs gs' : List Gt) : Prop := ∀ n, Gt.bit n ∈ gs' → Gt.bit n ∈ gs
theorem NoBits.refl (gs : List Gt) : NoBits gs gs := fun _ h => h
theorem NoBits.trans {a b c : List Gt} (h : NoBits a b) (k : NoBits b c) : NoBits a c := fun n m => h n (k n m)
theorem noBits_of {gs gs' : List Gt} {g : Gt} (h : gs' = gs ∨ gs' = gs ++ [g]) (hg : ∀ n, g ≠ .bit n) : NoBits gs gs' := fun n m => by
  rcases h with e | e
  · rw [e] at m; exact m
  · rw [e] at m
    rcases List.mem_append.mp m with m | m
    · exact m
    · exact absurd (List.mem_singleton.mp m).symm (hg n)
def bitEnv (env : Bits) : Prop := ∀ n, env n = 0 ∨ env n = 1
theorem getD_app {α : Type} {xs : List α} {y d : α} {i : Nat} : (xs ++ [y]).getD i d = if i < xs.length then xs.getD i d else if i = xs.length then y else d := by
  rw [List.getD_eq_getElem?_getD, List.getD_eq_getElem?_getD]
  by_cases h : i < xs.length
  · rw [if_pos h, List.getElem?_append_left h]
  · rw [if_neg h, List.getElem?_append_right (by omega)]
    by_cases h2 : i = xs.length
    · rw [if_pos h2, h2, Nat.sub_self]; rfl
    · rw [if_neg h2, List.getElem?_eq_none (by rw [List.length_singleton]; omega)]; rfl
theorem litv_bit {bs : List Int} (h : ∀ b ∈ bs, b = 0 ∨ b = 1) (x : Int) : litv bs x = 0 ∨ litv bs x = 1 := by
  have k : bs.getD (x / 2).toNat 0 = 0 ∨ bs.getD (x / 2).toNat 0 = 1 := by
    rw [List.getD_eq_getElem?_getD]
    cases e : bs[(x / 2).toNat]? with
    | none => exact .inl rfl
    | some b => exact h b (List.mem_of_getElem? e)
  unfold litv
  split <;> omega
theorem bits_bit {env : Bits} (he : bitEnv env) (gs : List Gt) : ∀ b ∈ bitsOf env gs, b = 0 ∨ b = 1 := by
  induction gs using snoc_rec with
  | h0 => intro b hb; cases hb
  | h1 xs g ih =>
    intro b hb
    rw [bitsOf_snoc] at hb
    rcases List.mem_append.mp hb with hb | hb
    · exact ih b hb
    · rw [List.mem_singleton.mp hb]
      cases g with
      | no => exact .inl rfl
      | bit n => exact he n
      | both x y => show (if _ then (1 : Int) else 0) = 0 ∨ (if _ then (1 : Int) else 0) = 1; split <;> simp
      | unlike x y => show (if _ then (0 : Int) else 1) = 0 ∨ (if _ then (0 : Int) else 1) = 1; split <;> simp
      | chosen c x y =>
        show (if litv (bitsOf env xs) c = 1 then litv (bitsOf env xs) x else litv (bitsOf env xs) y) = 0 ∨ (if litv (bitsOf env xs) c = 1 then litv (bitsOf env xs) x else litv (bitsOf env xs) y) = 1
        split
        · exact litv_bit ih x
        · exact litv_bit ih y
      | most x y z => show (if _ then (1 : Int) else 0) = 0 ∨ (if _ then (1 : Int) else 0) = 1; split <;> simp
/-- the bit of gate i -/
theorem bits_at {env : Bits} : ∀ (gs : List Gt), okGs gs → ∀ (i : Nat) (g : Gt), gs[i]? = some g → (bitsOf env gs).getD i 0 = g.val env (bitsOf env gs) := by
  have vcongr : ∀ (g : Gt) (a b : List Int), (∀ x ∈ g.parts, litv a x = litv b x) → g.val env a = g.val env b := by
    intro g a b h
    cases g with
    | no => rfl
    | bit n => rfl
    | both x y => show (if litv a x + litv a y ≥ 2 then (1 : Int) else 0) = _; rw [h x (.head _), h y (.tail _ (.head _))]; rfl
    | unlike x y => show (if litv a x = litv a y then (0 : Int) else 1) = _; rw [h x (.head _), h y (.tail _ (.head _))]; rfl
    | chosen c x y => show (if litv a c = 1 then litv a x else litv a y) = _; rw [h c (.head _), h x (.tail _ (.head _)), h y (.tail _ (.tail _ (.head _)))]; rfl
    | most x y z => show (if litv a x + litv a y + litv a z ≥ 2 then (1 : Int) else 0) = _; rw [h x (.head _), h y (.tail _ (.head _)), h z (.tail _ (.tail _ (.head _)))]; rfl
  intro gs hk i g hg
  have hi := (List.getElem?_eq_some_iff.mp hg).1
  have e : gs = gs.take i ++ ([g] ++ gs.drop (i + 1)) := by
    have hgi : gs[i] = g := (List.getElem?_eq_some_iff.mp hg).2
    conv => lhs; rw [← List.take_append_drop i gs, List.drop_eq_getElem_cons hi, hgi]
    rfl
  have hpre : gs.take i <+: gs := List.take_prefix _ _
  have hlen : (gs.take i).length = i := by rw [List.length_take]; omega
  have hparts := hk.parts i g hg
  obtain ⟨t, ht⟩ := bitsOf_pre env (gs.take i ++ [g]) (gs.drop (i + 1))
  rw [List.append_assoc, ← e] at ht
  have h1 : (bitsOf env gs).getD i 0 = g.val env (bitsOf env (gs.take i)) := by
    rw [ht, bitsOf_snoc, List.getD_eq_getElem?_getD, List.getElem?_append_left (by rw [List.length_append, bitsOf_len, hlen, List.length_singleton]; omega), ← List.getD_eq_getElem?_getD, getD_app, bitsOf_len, hlen, if_neg (Nat.lt_irrefl i), if_pos rfl]
  rw [h1]
  refine vcongr g _ _ fun x hx => (litv_pre ⟨(hparts x hx).1, by rw [hlen]; exact (hparts x hx).2⟩ hpre).symm
/-! ### literals -/
theorem xor1 (x : Int) : Builtin.bitXor x 1 = if x % 2 = 0 then x + 1 else x - 1 := by
  rw [bitXor_and, bitAnd_m1]
  split <;> omega
theorem litv_xor1 {bs : List Int} {x : Int} (h0 : 0 ≤ x) : litv bs (Builtin.bitXor x 1) = 1 - litv bs x := by
  rw [xor1]
  unfold litv
  by_cases h : x % 2 = 0
  · rw [if_pos h, if_pos h, if_neg (by omega), show (x + 1) / 2 = x / 2 by omega]
  · rw [if_neg h, if_neg h, if_pos (by omega), show (x - 1) / 2 = x / 2 by omega]
    omega
theorem okL_xor1 {gs : List Gt} {x : Int} (h : okL gs x) : okL gs (Builtin.bitXor x 1) := by
  rw [xor1]
  have := h.1
  have := h.2
  unfold okL
  split <;> omega
theorem xor_t {x t : Int} (ht : t = 0 ∨ t = 1) : Builtin.bitXor x t = if t = 0 then x else Builtin.bitXor x 1 := by
  rcases ht with h | h <;> rw [h]
  · rw [bitXor_zero, if_pos rfl]
  · rw [if_neg (by decide)]
theorem litv_xort {bs : List Int} {x t : Int} (h0 : 0 ≤ x) (ht : t = 0 ∨ t = 1) : litv bs (Builtin.bitXor x t) = if t = 0 then litv bs x else 1 - litv bs x := by
  rw [xor_t ht]
  split
  · rfl
  · exact litv_xor1 h0
theorem okL_xort {gs : List Gt} {x t : Int} (h : okL gs x) (ht : t = 0 ∨ t = 1) : okL gs (Builtin.bitXor x t) := by
  rw [xor_t ht]
  split
  · exact h
  · exact okL_xor1 h
/-- the literal without its turn -/
theorem even_of (x : Int) : Builtin.bitXor x (Builtin.bitAnd x 1) = x - x % 2 := by
  rw [bitAnd_m1, bitXor_and]
  have h : x % 2 = 0 ∨ x % 2 = 1 := by omega
  rcases h with h | h <;> rw [h]
  · rw [bitAnd_zero]; omega
  · rw [bitAnd_m1]; omega
theorem turned_of (x y : Int) : Builtin.bitAnd (Builtin.bitXor x y) 1 = (x + y) % 2 := by
  rw [bitAnd_m1, bitXor_and]
  omega
theorem litv_even {bs : List Int} (x : Int) : litv bs (x - x % 2) = if x % 2 = 0 then litv bs x else 1 - litv bs x := by
  unfold litv
  by_cases h : x % 2 = 0
  · rw [if_pos h, if_pos h, if_pos (by omega), show x - x % 2 = x by omega]
  · rw [if_neg h, if_neg h, if_pos (by omega), show (x - x % 2) / 2 = x / 2 by omega]
    omega
theorem litv_no {env : Bits} {gs : List Gt} (h : okGs gs) : litv (bitsOf env gs) 0 = 0 := by
  show (if (0 : Int) % 2 = 0 then (bitsOf env gs).getD 0 0 else 1 - (bitsOf env gs).getD 0 0) = 0
  rw [if_pos (by decide), bits_at gs h 0 .no h.first]
  rfl
theorem litv_yes {env : Bits} {gs : List Gt} (h : okGs gs) : litv (bitsOf env gs) 1 = 1 := by
  show (if (1 : Int) % 2 = 0 then (bitsOf env gs).getD 0 0 else 1 - (bitsOf env gs).getD 0 0) = 1
  rw [if_neg (by decide), bits_at gs h 0 .no h.first]
  rfl
/-- a set of gates that holds the gates of the parts, too -/
structure Cone (gs : List Gt) (xs ys : List Int) : Prop where
  asc : ys.Pairwise (· < ·)
  rng : ∀ y ∈ ys, 0 ≤ y ∧ y < (gs.length : Int)
  has : ∀ x ∈ xs, x / 2 ∈ ys
  cl : ∀ y ∈ ys, ∀ g, gs[y.toNat]? = some g → ∀ z ∈ g.parts, z / 2 ∈ ys
  pos : (∀ x ∈ xs, 2 ≤ x) → ∀ y ∈ ys, 1 ≤ y
end My

set_option Elab.async false
set_option maxRecDepth 100000
set_option maxHeartbeats 4000000
set_option linter.all false
/-! A literal's clauses: what they say. -/
namespace My
open PySem PySem.Spec PyProof.Rows L2
def numY (ys : List Int) (y : Int) : Int := (ys.idxOf y : Int) + 1
def sgn (ys : List Int) (x : Int) : Int := if x % 2 = 0 then numY ys (x / 2) else -numY ys (x / 2)
theorem numY_pos (ys : List Int) (y : Int) : 1 ≤ numY ys y := by unfold numY; omega
theorem numY_le {ys : List Int} {y : Int} (h : y ∈ ys) : numY ys y ≤ ys.length := by
  have := List.idxOf_lt_length_of_mem h
  unfold numY
  omega
theorem numY_inj {ys : List Int} {y z : Int} (hy : y ∈ ys) (hz : z ∈ ys) (h : numY ys y = numY ys z) : y = z := by
  have e : ys.idxOf y = ys.idxOf z := by unfold numY at h; omega
  have h1 : ys[ys.idxOf y]'(List.idxOf_lt_length_of_mem hy) = y := List.getElem_idxOf _
  have h2 : ys[ys.idxOf z]'(List.idxOf_lt_length_of_mem hz) = z := List.getElem_idxOf _
  rw [← h1, ← h2]
  congr 1
theorem sgn_ne (ys : List Int) (x : Int) : sgn ys x ≠ 0 := by
  have := numY_pos ys (x / 2)
  unfold sgn
  split <;> omega
def rawG : Gt → Int → List Int → List (List Int)
  | .both _ _, v, [x, y] => [[x, -v], [y, -v], [-x, -y, v]]
  | .unlike _ _, v, [x, y] => [[x, y, -v], [-x, -y, -v], [-x, y, v], [x, -y, v]]
  | .chosen _ _ _, v, [c, x, y] => [[-c, -x, v], [-c, x, -v], [c, -y, v], [c, y, -v], [-x, -y, v], [x, y, -v]]
  | .most _ _ _, v, [x, y, z] => [[-x, -y, v], [-x, -z, v], [-y, -z, v], [x, y, -v], [x, z, -v], [y, z, -v]]
  | _, _, _ => []
theorem keeps_nil {A : Int → Bool} : MC.Keeps A [] := fun c h => nomatch h
theorem keeps_cons {A : Int → Bool} {c : List Int} {cs : List (List Int)} : MC.Keeps A (c :: cs) ↔ (∃ x ∈ c, MC.lit A x = true) ∧ MC.Keeps A cs :=
  ⟨fun h => ⟨h c (.head _), fun d hd => h d (.tail _ hd)⟩, fun ⟨h1, h2⟩ d hd => by
    rcases List.mem_cons.mp hd with e | e
    · rw [e]; exact h1
    · exact h2 d e⟩
theorem keeps_app {A : Int → Bool} {cs ds : List (List Int)} : MC.Keeps A (cs ++ ds) ↔ MC.Keeps A cs ∧ MC.Keeps A ds :=
  ⟨fun h => ⟨fun c hc => h c (List.mem_append_left _ hc), fun c hc => h c (List.mem_append_right _ hc)⟩, fun ⟨h1, h2⟩ c hc => (List.mem_append.mp hc).elim (h1 c) (h2 c)⟩
theorem ex1 {A : Int → Bool} {a : Int} : (∃ x ∈ [a], MC.lit A x = true) ↔ MC.lit A a = true := by simp
theorem ex2 {A : Int → Bool} {a b : Int} : (∃ x ∈ [a, b], MC.lit A x = true) ↔ (MC.lit A a || MC.lit A b) = true := by simp
theorem ex3 {A : Int → Bool} {a b c : Int} : (∃ x ∈ [a, b, c], MC.lit A x = true) ↔ (MC.lit A a || MC.lit A b || MC.lit A c) = true := by simp [or_assoc]
theorem keeps_both {A : Int → Bool} {x y v : Int} (hx : x ≠ 0) (hy : y ≠ 0) (hv : v ≠ 0) : MC.Keeps A [[x, -v], [y, -v], [-x, -y, v]] ↔ MC.lit A v = (MC.lit A x && MC.lit A y) := by
  simp only [keeps_cons, ex2, ex3, MC.lit_neg hx, MC.lit_neg hy, MC.lit_neg hv]
  generalize MC.lit A x = a
  generalize MC.lit A y = b
  generalize MC.lit A v = c
  have := @keeps_nil A
  cases a <;> cases b <;> cases c <;> simp [this]
theorem keeps_unlike {A : Int → Bool} {x y v : Int} (hx : x ≠ 0) (hy : y ≠ 0) (hv : v ≠ 0) : MC.Keeps A [[x, y, -v], [-x, -y, -v], [-x, y, v], [x, -y, v]] ↔ MC.lit A v = (MC.lit A x != MC.lit A y) := by
  simp only [keeps_cons, ex2, ex3, MC.lit_neg hx, MC.lit_neg hy, MC.lit_neg hv]
  generalize MC.lit A x = a
  generalize MC.lit A y = b
  generalize MC.lit A v = c
  have := @keeps_nil A
  cases a <;> cases b <;> cases c <;> simp [this]
theorem keeps_chosen {A : Int → Bool} {c x y v : Int} (hc : c ≠ 0) (hx : x ≠ 0) (hy : y ≠ 0) (hv : v ≠ 0) : MC.Keeps A [[-c, -x, v], [-c, x, -v], [c, -y, v], [c, y, -v], [-x, -y, v], [x, y, -v]] ↔ MC.lit A v = (if MC.lit A c = true then MC.lit A x else MC.lit A y) := by
  simp only [keeps_cons, ex2, ex3, MC.lit_neg hx, MC.lit_neg hy, MC.lit_neg hv, MC.lit_neg hc]
  generalize MC.lit A x = a
  generalize MC.lit A y = b
  generalize MC.lit A v = u
  generalize MC.lit A c = d
  have := @keeps_nil A
  cases a <;> cases b <;> cases u <;> cases d <;> simp [this]
theorem keeps_most {A : Int → Bool} {x y z v : Int} (hx : x ≠ 0) (hy : y ≠ 0) (hz : z ≠ 0) (hv : v ≠ 0) : MC.Keeps A [[-x, -y, v], [-x, -z, v], [-y, -z, v], [x, y, -v], [x, z, -v], [y, z, -v]] ↔ MC.lit A v = (MC.lit A x && MC.lit A y || MC.lit A x && MC.lit A z || MC.lit A y && MC.lit A z) := by
  simp only [keeps_cons, ex2, ex3, MC.lit_neg hx, MC.lit_neg hy, MC.lit_neg hv, MC.lit_neg hz]
  generalize MC.lit A x = a
  generalize MC.lit A y = b
  generalize MC.lit A v = u
  generalize MC.lit A z = d
  have := @keeps_nil A
  cases a <;> cases b <;> cases u <;> cases d <;> simp [this]
/-- a literal's item is true where the literal is 1 -/
def Agree (A : Int → Bool) (ys : List Int) (bs : List Int) (y : Int) : Prop := A (numY ys y) = decide (bs.getD y.toNat 0 = 1)
theorem lit_num {A : Int → Bool} {ys : List Int} {y : Int} : MC.lit A (numY ys y) = A (numY ys y) := by
  have := numY_pos ys y
  unfold MC.lit
  rw [if_pos (by omega)]
theorem lit_sgn {A : Int → Bool} {ys bs : List Int} (hb : ∀ b ∈ bs, b = 0 ∨ b = 1) {x : Int} (h : Agree A ys bs (x / 2)) : MC.lit A (sgn ys x) = decide (litv bs x = 1) := by
  unfold sgn litv
  have hp := numY_pos ys (x / 2)
  have g : bs.getD (x / 2).toNat 0 = 0 ∨ bs.getD (x / 2).toNat 0 = 1 := by
    rw [List.getD_eq_getElem?_getD]
    cases e : bs[(x / 2).toNat]? with
    | none => exact .inl rfl
    | some b => exact hb b (List.mem_of_getElem? e)
  by_cases e : x % 2 = 0
  · rw [if_pos e, if_pos e, lit_num]
    exact h
  · rw [if_neg e, if_neg e, MC.lit_neg (by omega), lit_num, h]
    rcases g with g | g <;> rw [g] <;> decide
def Gt.plain : Gt → Bool
  | .no => false
  | .bit _ => false
  | _ => true
theorem keeps_gate {A : Int → Bool} {ys bs : List Int} {env : Bits} (hb : ∀ b ∈ bs, b = 0 ∨ b = 1) {g : Gt} (hg : g.plain = true) {y : Int} (hp : ∀ z ∈ g.parts, Agree A ys bs (z / 2)) : MC.Keeps A (rawG g (numY ys y) (g.parts.map (sgn ys))) ↔ A (numY ys y) = decide (g.val env bs = 1) := by
  have hv : numY ys y ≠ 0 := by have := numY_pos ys y; omega
  have lb : ∀ x, litv bs x = 0 ∨ litv bs x = 1 := fun x => litv_bit hb x
  cases g with
  | no => cases hg
  | bit n => cases hg
  | both a b =>
    show MC.Keeps A [[sgn ys a, -numY ys y], [sgn ys b, -numY ys y], [-sgn ys a, -sgn ys b, numY ys y]] ↔ A (numY ys y) = decide ((if litv bs a + litv bs b ≥ 2 then (1 : Int) else 0) = 1)
    rw [keeps_both (sgn_ne _ _) (sgn_ne _ _) hv, lit_num, lit_sgn hb (hp a (.head _)), lit_sgn hb (hp b (.tail _ (.head _)))]
    rcases lb a with e | e <;> rcases lb b with e' | e' <;> rw [e, e'] <;> simp
  | unlike a b =>
    show MC.Keeps A [[sgn ys a, sgn ys b, -numY ys y], [-sgn ys a, -sgn ys b, -numY ys y], [-sgn ys a, sgn ys b, numY ys y], [sgn ys a, -sgn ys b, numY ys y]] ↔ A (numY ys y) = decide ((if litv bs a = litv bs b then (0 : Int) else 1) = 1)
    rw [keeps_unlike (sgn_ne _ _) (sgn_ne _ _) hv, lit_num, lit_sgn hb (hp a (.head _)), lit_sgn hb (hp b (.tail _ (.head _)))]
    rcases lb a with e | e <;> rcases lb b with e' | e' <;> rw [e, e'] <;> simp
  | chosen c a b =>
    show MC.Keeps A [[-sgn ys c, -sgn ys a, numY ys y], [-sgn ys c, sgn ys a, -numY ys y], [sgn ys c, -sgn ys b, numY ys y], [sgn ys c, sgn ys b, -numY ys y], [-sgn ys a, -sgn ys b, numY ys y], [sgn ys a, sgn ys b, -numY ys y]] ↔ A (numY ys y) = decide ((if litv bs c = 1 then litv bs a else litv bs b) = 1)
    rw [keeps_chosen (sgn_ne _ _) (sgn_ne _ _) (sgn_ne _ _) hv, lit_num, lit_sgn hb (hp c (.head _)), lit_sgn hb (hp a (.tail _ (.head _))), lit_sgn hb (hp b (.tail _ (.tail _ (.head _))))]
    rcases lb c with e0 | e0 <;> rcases lb a with e | e <;> rcases lb b with e' | e' <;> rw [e0, e, e'] <;> simp
  | most a b c =>
    show MC.Keeps A [[-sgn ys a, -sgn ys b, numY ys y], [-sgn ys a, -sgn ys c, numY ys y], [-sgn ys b, -sgn ys c, numY ys y], [sgn ys a, sgn ys b, -numY ys y], [sgn ys a, sgn ys c, -numY ys y], [sgn ys b, sgn ys c, -numY ys y]] ↔ A (numY ys y) = decide ((if litv bs a + litv bs b + litv bs c ≥ 2 then (1 : Int) else 0) = 1)
    rw [keeps_most (sgn_ne _ _) (sgn_ne _ _) (sgn_ne _ _) hv, lit_num, lit_sgn hb (hp a (.head _)), lit_sgn hb (hp b (.tail _ (.head _))), lit_sgn hb (hp c (.tail _ (.tail _ (.head _))))]
    rcases lb c with e0 | e0 <;> rcases lb a with e | e <;> rcases lb b with e' | e' <;> rw [e0, e, e'] <;> simp
/-- the clauses of a gate, before each is sorted -/
def rawY (gs : List Gt) (ys : List Int) (y : Int) : List (List Int) :=
  match gs[y.toNat]? with
  | some g => rawG g (numY ys y) (g.parts.map (sgn ys))
  | none => []
def rawOf (gs : List Gt) (ys zs : List Int) : List (List Int) := zs.flatMap (rawY gs ys)
def nmsOf (gs : List Gt) (ys zs : List Int) : List (NK × Int) := zs.filterMap fun (y : Int) => match (gs[y.toNat]? : Option Gt) with
  | some (Gt.bit n) => some (n, numY ys y)
  | _ => none
theorem mem_nms {gs : List Gt} {ys zs : List Int} {n : NK} {v : Int} : (n, v) ∈ nmsOf gs ys zs ↔ ∃ y ∈ zs, gs[y.toNat]? = some (.bit n) ∧ v = numY ys y := by
  unfold nmsOf
  rw [List.mem_filterMap]
  constructor
  · rintro ⟨y, hy, e⟩
    refine ⟨y, hy, ?_⟩
    split at e
    · rename_i m hm
      cases e
      exact ⟨hm, rfl⟩
    · cases e
  · rintro ⟨y, hy, e, rfl⟩
    exact ⟨y, hy, by rw [e]⟩
theorem agree_all {A : Int → Bool} {gs : List Gt} {ys : List Int} {env : Bits} {x : Int} (hk : okGs gs) (he : bitEnv env) (C : Cone gs [x] ys) (h1 : ∀ y ∈ ys, 1 ≤ y) (nd : (gs.map Gt.nk).Nodup)
    (hraw : MC.Keeps A (rawOf gs ys ys)) (hn : ∀ n v, (n, v) ∈ nmsOf gs ys ys → (A v = true ↔ env n = 1)) : ∀ (k : Nat) (y : Int), y.toNat = k → y ∈ ys → Agree A ys (bitsOf env gs) y := by
  intro k
  induction k using Nat.strongRecOn with
  | ind k ih =>
    intro y hyk hy
    have ry := C.rng y hy
    obtain ⟨g, hg⟩ : ∃ g, gs[y.toNat]? = some g := ⟨gs[y.toNat]'(by omega), List.getElem?_eq_getElem (by omega)⟩
    have hv := bits_at (env := env) gs hk y.toNat g hg
    have hb := bits_bit he gs
    unfold Agree
    rw [hv]
    cases hpl : g.plain with
    | true =>
      refine (keeps_gate hb hpl fun z hz => ?_).1 fun c hc => hraw c (List.mem_flatMap.mpr ⟨y, hy, ?_⟩)
      · have hp := hk.parts y.toNat g hg z hz
        exact ih (z / 2).toNat (by omega) (z / 2) rfl (C.cl y hy g hg z hz)
      · unfold rawY
        rw [hg]
        exact hc
    | false =>
      cases g with
      | bit n =>
        have := hn n (numY ys y) (mem_nms.2 ⟨y, hy, hg, rfl⟩)
        show A (numY ys y) = decide (env n = 1)
        by_cases e : env n = 1
        · rw [decide_eq_true e, this.2 e]
        · rw [decide_eq_false e]
          cases e2 : A (numY ys y) with
          | false => rfl
          | true => exact absurd (this.1 e2) e
      | no =>
        exfalso
        have h0 := hk.first
        have := h1 y hy
        have e1 : (gs.map Gt.nk)[y.toNat]? = some Gt.no.nk := by rw [List.getElem?_map, hg]; rfl
        have e2 : (gs.map Gt.nk)[0]? = some Gt.no.nk := by rw [List.getElem?_map, h0]; rfl
        have := (List.getElem?_inj (by have := (List.getElem?_eq_some_iff.mp e1).1; omega) nd).mp (e1.trans e2.symm)
        omega
      | both a b => cases hpl
      | unlike a b => cases hpl
      | chosen a b c => cases hpl
      | most a b c => cases hpl
theorem ts_iff {gs : List Gt} {ys : List Int} {env : Bits} {x : Int} (hk : okGs gs) (he : bitEnv env) (C : Cone gs [x] ys) (h1 : ∀ y ∈ ys, 1 ≤ y) (nd : (gs.map Gt.nk).Nodup) :
    (∃ A, MC.Keeps A (rawOf gs ys ys ++ [[sgn ys x]]) ∧ ∀ n v, (n, v) ∈ nmsOf gs ys ys → (A v = true ↔ env n = 1)) ↔ litv (bitsOf env gs) x = 1 := by
  have hb := bits_bit he gs
  have hx := C.has x (List.mem_singleton_self x)
  constructor
  · rintro ⟨A, hA, hn⟩
    obtain ⟨h2, h3⟩ := keeps_app.1 hA
    have ag := agree_all hk he C h1 nd h2 hn _ _ rfl hx
    have := ex1.1 (keeps_cons.1 h3).1
    rw [lit_sgn hb ag] at this
    exact of_decide_eq_true this
  · intro hl
    have ex : ∀ y ∈ ys, ys.getD (numY ys y - 1).toNat 0 = y := fun y hy => by
      have hi := List.idxOf_lt_length_of_mem hy
      rw [show (numY ys y - 1).toNat = ys.idxOf y by unfold numY; omega, List.getD_eq_getElem?_getD, List.getElem?_eq_getElem hi]
      exact List.getElem_idxOf hi
    obtain ⟨A, hA⟩ : ∃ A : Int → Bool, A = fun v => decide ((bitsOf env gs).getD (ys.getD (v - 1).toNat 0).toNat 0 = 1) := ⟨_, rfl⟩
    have ag : ∀ y ∈ ys, Agree A ys (bitsOf env gs) y := fun y hy => by
      unfold Agree
      rw [hA]
      dsimp only
      rw [ex y hy]
    refine ⟨A, keeps_app.2 ⟨fun c hc => ?_, keeps_cons.2 ⟨ex1.2 ?_, keeps_nil⟩⟩, fun n v hm => ?_⟩
    · obtain ⟨y, hy, hc⟩ := List.mem_flatMap.mp hc
      unfold rawY at hc
      cases hg : gs[y.toNat]? with
      | none => rw [hg] at hc; cases hc
      | some g =>
        rw [hg] at hc
        cases hpl : g.plain with
        | true =>
          refine (keeps_gate (env := env) hb hpl fun z hz => ag _ (C.cl y hy g hg z hz)).2 ?_ c hc
          rw [← bits_at gs hk y.toNat g hg]
          exact ag y hy
        | false =>
          cases g with
          | no => cases hc
          | bit n => cases hc
          | both a b => cases hpl
          | unlike a b => cases hpl
          | chosen a b c => cases hpl
          | most a b c => cases hpl
    · rw [lit_sgn hb (ag _ hx)]
      exact decide_eq_true hl
    · obtain ⟨y, hy, hg, rfl⟩ := mem_nms.1 hm
      have := ag y hy
      unfold Agree at this
      rw [bits_at gs hk y.toNat _ hg] at this
      rw [this]
      show decide (env n = 1) = true ↔ env n = 1
      simp
end My

set_option Elab.async false
set_option maxRecDepth 100000
set_option maxHeartbeats 4000000
set_option linter.all false
/-! Clauses as data. -/
namespace My
open PySem PySem.Spec PyProof.Rows L2
def ab (z : Int) : Int := if z < 0 then -z else z
theorem ab_neg (z : Int) : ab (-z) = ab z := by
  unfold ab
  split <;> split <;> omega
theorem ab_eq {x y : Int} (h : ab x = ab y) : x = y ∨ x = -y := by
  unfold ab at h
  split at h <;> split at h <;> omega
def clD (c : List Int) : PyData := .tuple (c.map PyData.int)
/-- a tuple more -/
theorem row_add {K : PySem.W.Frag} {H : Hp} {us : List V} {ds : List PyData} {t : Addr} {c : List Int} (A : DpAll K H us ds) (ht : H t = none) : DpAll K (upd H t (.tup (c.map V.int))) (us ++ [.ref t]) (ds ++ [clD c]) :=
  dpa_app (dpa_mono (same_new ht _) _ A) (dpa_one (.tup (SqT.of upd_same) (ints_all _)))
def SortedAs (raw c : List Int) : Prop := c.Perm raw ∧ c.Pairwise fun x y => ab x ≤ ab y
inductive All2 {α β : Type} (R : α → β → Prop) : List α → List β → Prop where
  | nil : All2 R [] []
  | cons {a b as bs} : R a b → All2 R as bs → All2 R (a :: as) (b :: bs)
theorem All2.app {α β : Type} {R : α → β → Prop} {as as' : List α} {bs bs' : List β} (h : All2 R as bs) (k : All2 R as' bs') : All2 R (as ++ as') (bs ++ bs') := by
  induction h with
  | nil => exact k
  | cons h _ ih => exact .cons h ih
theorem All2.len {α β : Type} {R : α → β → Prop} {as : List α} {bs : List β} (h : All2 R as bs) : as.length = bs.length := by
  induction h with
  | nil => rfl
  | cons _ _ ih => rw [List.length_cons, List.length_cons, ih]
theorem All2.mem {α β : Type} {R : α → β → Prop} {as : List α} {bs : List β} (h : All2 R as bs) {b : β} (hb : b ∈ bs) : ∃ a ∈ as, R a b := by
  induction h with
  | nil => cases hb
  | cons h _ ih =>
    rcases List.mem_cons.mp hb with e | e
    · exact ⟨_, List.mem_cons_self, by rw [e]; exact h⟩
    · obtain ⟨a, ha, r⟩ := ih e
      exact ⟨a, List.mem_cons_of_mem _ ha, r⟩
theorem All2.memL {α β : Type} {R : α → β → Prop} {as : List α} {bs : List β} (h : All2 R as bs) {a : α} (ha : a ∈ as) : ∃ b ∈ bs, R a b := by
  induction h with
  | nil => cases ha
  | cons h _ ih =>
    rcases List.mem_cons.mp ha with e | e
    · exact ⟨_, List.mem_cons_self, by rw [e]; exact h⟩
    · obtain ⟨b, hb, r⟩ := ih e
      exact ⟨b, List.mem_cons_of_mem _ hb, r⟩
theorem mapK_val {f : Int → V} {ys : List Int} {k : Int} (h : k ∈ ys) : valV (ys.map fun y => ((Sum.inl y : Key), f y)) (.inl k) = some (f k) := by
  induction ys with
  | nil => cases h
  | cons y ys ih =>
    unfold valV at *
    rw [List.map_cons]
    by_cases e : y = k
    · rw [List.find?_cons_of_pos (by simp [e]), e]
      rfl
    · rw [List.find?_cons_of_neg (by simp [e])]
      exact ih ((List.mem_cons.mp h).resolve_left fun z => e z.symm)
theorem mapK_no {f : Int → V} {ys : List Int} {k : Int} (h : k ∉ ys) : valV (ys.map fun y => ((Sum.inl y : Key), f y)) (.inl k) = none := by
  induction ys with
  | nil => rfl
  | cons y ys ih =>
    unfold valV at *
    rw [List.map_cons, List.find?_cons_of_neg (by simp; exact fun e => h (by rw [e]; exact List.mem_cons_self))]
    exact ih fun m => h (List.mem_cons_of_mem _ m)
theorem mapK_put {f : Int → V} {ys : List Int} {k : Int} (h : k ∉ ys) : putK (ys.map fun y => ((Sum.inl y : Key), f y)) (.inl k) (f k) = (ys ++ [k]).map fun y => ((Sum.inl y : Key), f y) := by
  have e := mapK_no (f := f) h
  unfold putK
  rw [valV_any, e, List.map_append]
  rfl
def numK (ys : List Int) : List (Key × V) := ys.map fun y => (Sum.inl y, V.int (numY ys y))
theorem num_val {ys : List Int} {k : Int} (h : k ∈ ys) : valV (numK ys) (.inl k) = some (.int (numY ys k)) := mapK_val h
theorem truth1 (x : Int) : (!decide (Builtin.bitAnd x 1 = 0)) = decide (x % 2 ≠ 0) := by
  rw [bitAnd_m1]
  by_cases h : x % 2 = 0 <;> simp [h]
theorem ints_of {K : PySem.W.Frag} {H : Hp} : ∀ {c : List Int} {us : List V}, DpAll K H us (c.map PyData.int) → us = c.map V.int
  | [], _, .nil => rfl
  | x :: c, _, .cons a b => by
    cases dp_int a
    rw [ints_of b] <;> rfl
theorem dpa_atC {K : PySem.W.Frag} {H : Hp} {xs : List V} {cs : List (List Int)} {i : Nat} {v : V} (h : DpAll K H xs (cs.map clD)) (e : xs[i]? = some v) : ∃ c t, cs[i]? = some c ∧ v = .ref t ∧ SqT K H t (c.map V.int) := by
  obtain ⟨d, hd, hv⟩ := dpa_get h e
  rw [List.getElem?_map] at hd
  cases hc : cs[i]? with
  | none => rw [hc] at hd; cases hd
  | some c =>
    rw [hc] at hd
    obtain rfl := Option.some.inj hd
    obtain ⟨t, us, rfl, ht, hts⟩ := dp_tup (show Dp K H v (.tuple (c.map PyData.int)) from hv)
    rw [ints_of hts] at ht
    exact ⟨c, t, rfl, rfl, ht⟩
end My

set_option Elab.async false
set_option maxRecDepth 100000
set_option maxHeartbeats 4000000
set_option linter.all false
/-! At most so many of the sets: what the counting clauses say. -/
namespace My
open PySem PySem.Spec PyProof.Rows L2
/-- how many of 1 .. i are taken -/
def cntT (t : Int → Bool) : Nat → Nat
  | 0 => 0
  | i + 1 => cntT t i + if t ((i + 1 : Nat) : Int) = true then 1 else 0
theorem cntT_le (t : Int → Bool) (i : Nat) : cntT t i ≤ i := by
  induction i with
  | zero => exact Nat.le_refl _
  | succ i ih => unfold cntT; split <;> omega
theorem cntT_mono (t : Int → Bool) {i k : Nat} (h : i ≤ k) : cntT t i ≤ cntT t k := by
  induction k with
  | zero => rw [Nat.le_zero.mp h]; exact Nat.le_refl _
  | succ k ih =>
    rcases Nat.lt_or_ge i (k + 1) with h2 | h2
    · exact Nat.le_trans (ih (by omega)) (by show cntT t k ≤ cntT t k + _; omega)
    · rw [show i = k + 1 by omega]; exact Nat.le_refl _
/-- the variable that says: j or more of 1 .. i + 1 -/
def sVar (m M i j : Nat) : Int := ((m + i * M + j : Nat) : Int)
/-- the clauses of the set i + 1 -/
def cntRow (m M i : Nat) : List (List Int) :=
  if M = 0 then [[-((i + 1 : Nat) : Int)]]
  else [-((i + 1 : Nat) : Int), sVar m M i 1] :: (if i = 0 then [] else
    ((List.range M).map fun j => [-sVar m M (i - 1) (j + 1), sVar m M i (j + 1)]) ++ ((List.range (M - 1)).map fun j => [-((i + 1 : Nat) : Int), -sVar m M (i - 1) (j + 1), sVar m M i (j + 2)]) ++ [[-((i + 1 : Nat) : Int), -sVar m M (i - 1) M]])
def cntRows (m M : Nat) : List (List Int) := (List.range m).flatMap (cntRow m M)
theorem litN {A : Int → Bool} {n : Nat} (h : 1 ≤ n) : MC.lit A (n : Int) = A (n : Int) := by
  unfold MC.lit
  rw [if_pos (by omega)]
theorem litM {A : Int → Bool} {n : Nat} (h : 1 ≤ n) : MC.lit A (-(n : Int)) = !A (n : Int) := by
  rw [MC.lit_neg (by omega), litN h]
theorem imp2 {A : Int → Bool} {a b : Nat} (ha : 1 ≤ a) (hb : 1 ≤ b) : (∃ x ∈ [-(a : Int), (b : Int)], MC.lit A x = true) ↔ (A a = true → A b = true) := by
  rw [ex2, litM ha, litN hb]
  cases A a <;> cases A b <;> simp
theorem imp3 {A : Int → Bool} {a b c : Nat} (ha : 1 ≤ a) (hb : 1 ≤ b) (hc : 1 ≤ c) : (∃ x ∈ [-(a : Int), -(b : Int), (c : Int)], MC.lit A x = true) ↔ (A a = true → A b = true → A c = true) := by
  rw [ex3, litM ha, litM hb, litN hc]
  cases A a <;> cases A b <;> cases A c <;> simp
theorem impN {A : Int → Bool} {a b : Nat} (ha : 1 ≤ a) (hb : 1 ≤ b) : (∃ x ∈ [-(a : Int), -(b : Int)], MC.lit A x = true) ↔ (A a = true → A b = true → False) := by
  rw [ex2, litM ha, litM hb]
  cases A a <;> cases A b <;> simp
/-- what the clauses of one set say -/
theorem row_says {A : Int → Bool} {m M i : Nat} (hM : 1 ≤ M) : MC.Keeps A (cntRow m M i) ↔ (A ((i + 1 : Nat) : Int) = true → A (sVar m M i 1) = true) ∧ (i ≠ 0 → (∀ j, 1 ≤ j → j ≤ M → A (sVar m M (i - 1) j) = true → A (sVar m M i j) = true) ∧ (∀ j, 1 ≤ j → j < M → A ((i + 1 : Nat) : Int) = true → A (sVar m M (i - 1) j) = true → A (sVar m M i (j + 1)) = true) ∧ (A ((i + 1 : Nat) : Int) = true → A (sVar m M (i - 1) M) = true → False)) := by
  unfold cntRow
  rw [if_neg (by omega), keeps_cons]
  unfold sVar
  rw [imp2 (by omega) (by omega)]
  refine and_congr Iff.rfl ?_
  by_cases hi : i = 0
  · rw [if_pos hi]
    exact ⟨fun _ h => absurd hi h, fun _ => keeps_nil⟩
  · rw [if_neg hi, keeps_app, keeps_app]
    constructor
    · rintro ⟨⟨k1, k2⟩, k3⟩ _
      refine ⟨fun j h1 h2 => ?_, fun j h1 h2 => ?_, ?_⟩
      · have := k1 _ (List.mem_map.mpr ⟨j - 1, List.mem_range.mpr (by omega), rfl⟩)
        rw [imp2 (by omega) (by omega), show j - 1 + 1 = j by omega] at this
        exact this
      · have := k2 _ (List.mem_map.mpr ⟨j - 1, List.mem_range.mpr (by omega), rfl⟩)
        rw [imp3 (by omega) (by omega) (by omega), show j - 1 + 1 = j by omega, show j - 1 + 2 = j + 1 by omega] at this
        exact this
      · have := k3 _ (List.mem_singleton_self _)
        rw [impN (by omega) (by omega)] at this
        exact this
    · intro h
      obtain ⟨h1, h2, h3⟩ := h hi
      refine ⟨⟨fun c hc => ?_, fun c hc => ?_⟩, fun c hc => ?_⟩
      · obtain ⟨j, hj, rfl⟩ := List.mem_map.mp hc
        have hj := List.mem_range.mp hj
        exact (imp2 (by omega) (by omega)).2 (h1 (j + 1) (by omega) (by omega))
      · obtain ⟨j, hj, rfl⟩ := List.mem_map.mp hc
        have hj := List.mem_range.mp hj
        exact (imp3 (by omega) (by omega) (by omega)).2 (h2 (j + 1) (by omega) (by omega))
      · rw [List.mem_singleton.mp hc]
        exact (impN (by omega) (by omega)).2 h3
theorem rows_keep {A : Int → Bool} {m M : Nat} : MC.Keeps A (cntRows m M) ↔ ∀ i, i < m → MC.Keeps A (cntRow m M i) := by
  unfold cntRows
  constructor
  · intro h i hi c hc
    exact h c (List.mem_flatMap.mpr ⟨i, List.mem_range.mpr hi, hc⟩)
  · intro h c hc
    obtain ⟨i, hi, hc⟩ := List.mem_flatMap.mp hc
    exact h i (List.mem_range.mp hi) c hc
/-- the clauses hold the number down -/
theorem cnt_down {A : Int → Bool} {m M : Nat} (h : MC.Keeps A (cntRows m M)) : cntT A m ≤ M := by
  rw [rows_keep] at h
  rcases Nat.eq_zero_or_pos M with hM | hM
  · have : ∀ i, i ≤ m → cntT A i = 0 := by
      intro i
      induction i with
      | zero => intro _; rfl
      | succ i ih =>
        intro hi
        have k := h i (by omega)
        unfold cntRow at k
        rw [if_pos hM] at k
        have := ex1.1 (k _ (List.mem_singleton_self _))
        rw [litM (by omega)] at this
        show cntT A i + _ = 0
        rw [ih (by omega), if_neg (by simpa using this)]
    rw [this m (Nat.le_refl _)]
    exact Nat.zero_le _
  · have key : ∀ i, i < m → cntT A (i + 1) ≤ M ∧ ∀ j, 1 ≤ j → j ≤ cntT A (i + 1) → A (sVar m M i j) = true := by
      intro i
      induction i with
      | zero =>
        intro hi
        have k := (row_says hM).1 (h 0 hi)
        show 0 + _ ≤ M ∧ ∀ j, 1 ≤ j → j ≤ 0 + _ → _
        split
        · rename_i e
          exact ⟨by omega, fun j h1 h2 => by rw [show j = 1 by omega]; exact k.1 e⟩
        · exact ⟨by omega, fun j h1 h2 => by omega⟩
      | succ i ih =>
        intro hi
        obtain ⟨h1, h2⟩ := ih (by omega)
        obtain ⟨k1, k2⟩ := (row_says hM).1 (h (i + 1) hi)
        obtain ⟨g1, g2, g3⟩ := k2 (by omega)
        rw [show i + 1 - 1 = i by omega] at g1 g2 g3
        rw [show cntT A (i + 1 + 1) = cntT A (i + 1) + if A ((i + 1 + 1 : Nat) : Int) = true then 1 else 0 from rfl]
        split
        · rename_i e
          have hlt : cntT A (i + 1) < M := by
            rcases Nat.lt_or_ge (cntT A (i + 1)) M with z | z
            · exact z
            · exact absurd (h2 M hM z) fun z => g3 e z
          refine ⟨by omega, fun j hj1 hj2 => ?_⟩
          rcases Nat.eq_or_lt_of_le hj2 with z | z
          · rw [z]
            rcases Nat.eq_zero_or_pos (cntT A (i + 1)) with y | y
            · rw [y]; exact k1 e
            · exact g2 _ y hlt e (h2 _ y (Nat.le_refl _))
          · exact g1 j hj1 (by omega) (h2 j hj1 (by omega))
        · exact ⟨by omega, fun j hj1 hj2 => g1 j hj1 (by omega) (h2 j hj1 (by omega))⟩
    cases m with
    | zero => exact Nat.zero_le _
    | succ m => exact (key m (Nat.lt_succ_self m)).1
/-- what the counters are, where t is taken -/
def upA (t : Int → Bool) (m M : Nat) : Int → Bool := fun v => if v ≤ (m : Int) then t v else decide ((v.toNat - m - 1) % M + 1 ≤ cntT t ((v.toNat - m - 1) / M + 1))
theorem upA_low {t : Int → Bool} {m M i : Nat} (h : i ≤ m) : upA t m M (i : Int) = t (i : Int) := by
  unfold upA
  rw [if_pos (by omega)]
theorem upA_var {t : Int → Bool} {m M i j : Nat} (h1 : 1 ≤ j) (h2 : j ≤ M) : upA t m M (sVar m M i j) = decide (j ≤ cntT t (i + 1)) := by
  unfold upA sVar
  have hpos : ¬ (((m + i * M + j : Nat) : Int) ≤ (m : Int)) := by
    have : 0 ≤ i * M := Nat.zero_le _
    omega
  rw [if_neg hpos]
  have e : ((m + i * M + j : Nat) : Int).toNat - m - 1 = j - 1 + i * M := by
    rw [Int.toNat_natCast]
    omega
  rw [e, Nat.add_mul_mod_self_right, Nat.mod_eq_of_lt (by omega), Nat.add_mul_div_right _ _ (by omega), Nat.div_eq_of_lt (by omega), show j - 1 + 1 = j by omega, Nat.zero_add]
theorem cnt_up {t : Int → Bool} {m M : Nat} (h : cntT t m ≤ M) : MC.Keeps (upA t m M) (cntRows m M) := by
  rw [rows_keep]
  intro i hi
  have hm := cntT_mono t (show i + 1 ≤ m by omega)
  have e1 : cntT t (i + 1) = cntT t i + if t ((i + 1 : Nat) : Int) = true then 1 else 0 := rfl
  rcases Nat.eq_zero_or_pos M with hM | hM
  · unfold cntRow
    rw [if_pos hM]
    refine keeps_cons.2 ⟨ex1.2 ?_, keeps_nil⟩
    rw [litM (by omega), upA_low (by omega)]
    cases q : t ((i + 1 : Nat) : Int) with
    | false => rfl
    | true =>
      rw [if_pos q] at e1
      omega
  · rw [row_says hM, upA_low (by omega), upA_var (by omega) hM]
    refine ⟨fun a => ?_, fun hi0 => ⟨fun j h1 h2 => ?_, fun j h1 h2 => ?_, ?_⟩⟩
    · rw [if_pos a] at e1
      exact decide_eq_true (by omega)
    · rw [upA_var h1 h2, upA_var h1 h2, show i - 1 + 1 = i by omega]
      intro a
      have a := of_decide_eq_true a
      exact decide_eq_true (by omega)
    · rw [upA_var h1 (by omega), upA_var (by omega) (by omega), show i - 1 + 1 = i by omega]
      intro a b
      rw [if_pos a] at e1
      have b := of_decide_eq_true b
      exact decide_eq_true (by omega)
    · rw [upA_var hM (Nat.le_refl _), show i - 1 + 1 = i by omega]
      intro a b
      rw [if_pos a] at e1
      have b := of_decide_eq_true b
      omega
/-- the items' rows and the counting clauses: some of the sets, at most M, meet every item -/
theorem cover_sat {rows : List (List Int)} {m M : Nat} (hr : ∀ r ∈ rows, ∀ x ∈ r, 1 ≤ x ∧ x ≤ (m : Int)) : MC.Sat (rows ++ cntRows m M) ↔ ∃ t : Int → Bool, cntT t m ≤ M ∧ ∀ r ∈ rows, ∃ x ∈ r, t x = true := by
  constructor
  · rintro ⟨A, hA⟩
    obtain ⟨h1, h2⟩ := keeps_app.1 hA
    refine ⟨A, cnt_down h2, fun r hr' => ?_⟩
    obtain ⟨x, hx, e⟩ := h1 r hr'
    refine ⟨x, hx, ?_⟩
    unfold MC.lit at e
    rw [if_pos (by have := hr r hr' x hx; omega)] at e
    exact e
  · rintro ⟨t, ht, hx⟩
    refine ⟨upA t m M, keeps_app.2 ⟨fun r hr' => ?_, cnt_up ht⟩⟩
    obtain ⟨x, hxr, e⟩ := hx r hr'
    obtain ⟨b1, b2⟩ := hr r hr' x hxr
    refine ⟨x, hxr, ?_⟩
    unfold MC.lit upA
    rw [if_pos (by omega), if_pos b2]
    exact e
end My

set_option Elab.async false
set_option maxRecDepth 100000
set_option maxHeartbeats 4000000
set_option linter.all false
namespace My
open PySem PySem.Spec PyProof.Rows L2
theorem RelO.getD' {o : Option V} {p : Option Value} {d : V} {r : Value} (h : RelO o p) (hd : RelV d r) : RelV (o.getD d) (p.getD r) := h.getD hd
/-- d.get(k, x) -/
def tGetN (P : Program) (w : World) (K : PySem.W.Frag) (td ty tx : TE) : TE := fun σ H Q => td σ H fun x H1 => ∃ (a : Addr) (xs : NRows), x = .ref a ∧ DN P w K H1 a xs ∧ ty σ H1 fun y H2 => tx σ H2 fun z H3 => ∃ (b : Addr) (k : NK) (xs : NRows), y = .ref b ∧ Dp K H3 (.ref b) k.data ∧ k.depth ≤ 8 ∧ DN P w K H3 a xs ∧ Q ((valN xs k).getD z) H3
section
variable {X : Cx} {o e f : Expr} {apos cpos : Pos} {td ty tx : TE}
theorem pe_getN (hu : X.A.units + 65 < cLine) (ho : PE X o td) (he : PE X e ty) (hf : PE X f tx) (m : M2 X o "get" apos e f cpos) : PE X (.Call (.Attribute o "get" apos) [e, f] [] cpos) (tGetN X.prog X.w X.K td ty tx) := by
  refine ⟨fun pins s σ H Q I h => ?_⟩
  refine wpAny_Call_method m.base m.few m.line PySem.F.plainAttrs_dict PySem.F.slot_dict_get PySem.F.type_dict_get (thn (ho.run pins s σ H _ I h) fun u s1 ⟨x, H1, I1, rx, a, xs, ex, D1, q1⟩ => ?_)
  subst ex
  obtain rfl : u = Value.ref a := rx
  obtain ⟨hd1, vs1, r1, dd1⟩ := dn_of I1 D1
  refine ⟨dd1.typeIs, fun b q => ?_, ?_⟩
  · cases q
    obtain ⟨ob, _, _, h1, h2, _⟩ := dd1
    exact ⟨ob, h1, h2.2.1⟩
  rw [m.trees]
  refine Calls.callWith_builtin rfl (Calls.evalArgs_plain (Calls.spliced_cons (thn (he.run pins s1 σ H1 _ I1 q1) fun iv s2 ⟨y, H2, I2, ry, q2⟩ =>
    Calls.spliced_cons (thn (hf.run pins s2 σ H2 _ I2 q2) fun fv s3 ⟨z, H3, I3, rz, b, k, ys, ey, hk, h8, D3, q3⟩ => Calls.spliced_nil ?_))))
  subst ey
  obtain rfl : iv = Value.ref b := ry
  obtain ⟨hd, vs, r, dd⟩ := dn_of I3 D3
  refine call_meetsIn PySem.F.slot_dict_get dd.typeIs PySem.F.entry_dict_get (PySem.F.args_dict_get_3 _ _ _) (meetsH_dict_get_default (nestedKind X.prog X.w) a b hd fv) ⟨(by show X.A.units + 1 + 8 < cLine; omega), k, vs, ⟨dp_nested I3 k _ _ hk rfl, h8⟩, dd, ?_⟩
  exact ⟨_, H3, I3.tok _, RelO.getD' (nrel_val r) rz, q3⟩
end
end My

set_option Elab.async false
set_option maxRecDepth 100000
set_option maxHeartbeats 4000000
set_option linter.all false
/-! d.setdefault(k, x), the keys tuples. -/
namespace My
open PySem PySem.Spec PyProof.Rows L2
def tSetdN (P : Program) (w : World) (K : PySem.W.Frag) (td ty tx : TE) : TE := fun σ H Q => td σ H fun x H1 => ∃ (a : Addr) (xs : NRows), x = .ref a ∧ DN P w K H1 a xs ∧ ty σ H1 fun y H2 => tx σ H2 fun z H3 => ∃ (b : Addr) (k : NK) (xs : NRows), y = .ref b ∧ Dp K H3 (.ref b) k.data ∧ k.depth ≤ 8 ∧ DN P w K H3 a xs ∧ xs.length < sizeLine ∧
  (∀ v, valN xs k = some v → Q v H3) ∧ (valN xs k = none → Q z (upd H3 a (dnO P w a (xs ++ [(k, b, z)]))))
section
variable {X : Cx} {o e f : Expr} {apos cpos : Pos} {td ty tx : TE}
theorem pe_setdN (hu : X.A.units + 65 < cLine) (ho : PE X o td) (he : PE X e ty) (hf : PE X f tx) (m : M2 X o "setdefault" apos e f cpos) : PE X (.Call (.Attribute o "setdefault" apos) [e, f] [] cpos) (tSetdN X.prog X.w X.K td ty tx) := by
  refine ⟨fun pins s σ H Q I h => ?_⟩
  refine wpAny_Call_method m.base m.few m.line PySem.F.plainAttrs_dict PySem.F.slot_dict_setdefault PySem.F.type_dict_setdefault (thn (ho.run pins s σ H _ I h) fun u s1 ⟨x, H1, I1, rx, a, xs, ex, D1, q1⟩ => ?_)
  subst ex
  obtain rfl : u = Value.ref a := rx
  obtain ⟨hd1, vs1, r1, dd1⟩ := dn_of I1 D1
  refine ⟨dd1.typeIs, fun b q => ?_, ?_⟩
  · cases q
    obtain ⟨ob, _, _, h1, h2, _⟩ := dd1
    exact ⟨ob, h1, h2.2.1⟩
  rw [m.trees]
  refine Calls.callWith_builtin rfl (Calls.evalArgs_plain (Calls.spliced_cons (thn (he.run pins s1 σ H1 _ I1 q1) fun iv s2 ⟨y, H2, I2, ry, q2⟩ =>
    Calls.spliced_cons (thn (hf.run pins s2 σ H2 _ I2 q2) fun fv s3 ⟨z, H3, I3, rz, b, k, ys, ey, hk, h8, D3, hl, q3, q4⟩ => Calls.spliced_nil ?_))))
  subst ey
  obtain rfl : iv = Value.ref b := ry
  obtain ⟨hd, vs, r, dd⟩ := dn_of I3 D3
  have hz : vs.length ≤ sizeLine := by rw [← Paired.length r]; omega
  refine call_setdefault_heap (knd := nestedKind X.prog X.w) (k := k) (hsz := hz) (by show X.A.units + 1 + 8 < cLine; omega) ⟨dp_nested I3 k _ _ hk rfl, h8⟩ hd dd (fun p hp => ?_) fun hn h' dd' hs => ?_
  · obtain ⟨v, hv, rv⟩ : ∃ v, valN ys k = some v ∧ RelV v p.2 := by
      have e := nrel_val (k := k) r
      rw [hp] at e
      cases q : valN ys k with
      | none => rw [q] at e; exact absurd e (by intro z; cases z)
      | some v => rw [q] at e; exact ⟨v, rfl, e⟩
    exact ⟨v, H3, I3.tok _, rv, q3 v hv⟩
  · have hv : valN ys k = none := by
      have e := (nrel_val (k := k) r).isSome_eq
      rw [hn] at e
      cases q : valN ys k with
      | none => rfl
      | some v => rw [q] at e; cases e
    rw [storedH_new hn] at dd'
    obtain ⟨o', es, ep, h1, h2, h3, h4, _, h5⟩ := dd'
    refine ⟨z, upd H3 a (dnO X.prog X.w a (ys ++ [(k, b, z)])), d_write I3 ?_ hs ⟨o', h1⟩ (dnO_ok ⟨hd, _, Paired.snoc r ⟨rfl, rfl, rz⟩, o', es, ep, h1, h2, h3, h4, h5⟩), rz, q4 hv⟩
    rcases D3.at_ with e | ⟨_, e⟩ <;> rw [e] <;> exact True.intro
end
end My

set_option Elab.async false
set_option maxRecDepth 100000
set_option maxHeartbeats 4000000
set_option linter.all false
/-! d[k] = v where k may be there, the keys tuples. -/
namespace My
open PySem PySem.Spec PyProof.Rows L2
def putN (xs : NRows) (k : NK) (b : Addr) (v : V) : NRows := if (valN xs k).isSome then xs.map fun x => if x.1 = k then (x.1, x.2.1, v) else x else xs ++ [(k, b, v)]
theorem nrel_put {k : NK} {v : V} {u : Value} (rv : RelV v u) {xs : NRows} {vs : List (NK × Addr × Value)} (r : Paired NRel xs vs) : Paired NRel (xs.map fun x => if x.1 = k then (x.1, x.2.1, v) else x) (vs.map (putAt k u)) := by
  induction r with
  | nil => exact .nil
  | @cons p q ps qs h _ ih =>
    refine .cons ?_ ih
    obtain ⟨h1, h2, h3⟩ := h
    unfold putAt
    by_cases e : p.1 = k
    · have e2 : q.1 = k := h1.symm.trans e
      simp only [e, e2, if_true, decide_true]
      exact ⟨rfl, h2, rv⟩
    · have e2 : ¬ q.1 = k := fun z => e (h1.trans z)
      simp only [e, e2, if_false, decide_false]
      exact ⟨h1, h2, h3⟩
section
variable {X : Cx}
def rSetNA (P : Program) (w : World) (K : PySem.W.Frag) : TSet := fun o i v H Q => ∃ (b : Addr) (k : NK) (d : Addr) (xs : NRows), o = .ref d ∧ i = .ref b ∧ Dp K H (.ref b) k.data ∧ k.depth ≤ 8 ∧ DN P w K H d xs ∧ xs.length < sizeLine ∧ Q (upd H d (dnO P w d (putN xs k b v)))
theorem set_NA (hu : X.A.units + 65 < cLine) : PSet X (rSetNA X.prog X.w X.K) := by
  intro pins s σ H o i v ov iv u Q I ro ri rv h
  obtain ⟨b, k, d, xs, rfl, rfl, hk, h8, D, hl, q⟩ := h
  cases ro
  cases ri
  obtain ⟨hd, vs, r, dd⟩ := dn_of I D
  have hz : vs.length ≤ sizeLine := by rw [← Paired.length r]; omega
  have mu : Mut (H d) := by rcases D.at_ with e | ⟨_, e⟩ <;> rw [e] <;> exact True.intro
  have e := (nrel_val (k := k) r).isSome_eq
  rw [Option.isSome_map] at e
  refine wpAny_setItem_heap (knd := nestedKind X.prog X.w) (k := k) (hsz := hz) (by show X.A.units + 1 + 8 < cLine; omega) ⟨dp_nested I k _ _ hk rfl, h8⟩ dd fun h' dd' hs => ?_
  cases hp : atKey vs k with
  | none =>
    rw [storedH_new hp] at dd'
    obtain ⟨o, es, ep, h1, h2, h3, h4, _, h5⟩ := dd'
    rw [hp] at e
    have ep' : putN xs k b v = xs ++ [(k, b, v)] := by unfold putN; rw [e]; rfl
    rw [ep'] at q
    exact ⟨_, d_write I mu hs ⟨o, h1⟩ (dnO_ok ⟨hd, _, Paired.snoc r ⟨rfl, rfl, rv⟩, o, es, ep, h1, h2, h3, h4, h5⟩), q⟩
  | some p =>
    rw [storedH_old hp] at dd'
    obtain ⟨o, es, ep, h1, h2, h3, h4, _, h5⟩ := dd'
    rw [hp] at e
    have ep' : putN xs k b v = xs.map fun x => if x.1 = k then (x.1, x.2.1, v) else x := by unfold putN; rw [e]; rfl
    rw [ep'] at q
    exact ⟨_, d_write I mu hs ⟨o, h1⟩ (dnO_ok ⟨hd, _, nrel_put rv r, o, es, ep, h1, h2, h3, h4, h5⟩), q⟩
end
end My

set_option Elab.async false
set_option maxRecDepth 100000
set_option maxHeartbeats 4000000
set_option linter.all false
/-! sorted of flat tuples of texts and whole numbers, of any lengths, each beginning with a text, where any two differ first in items of one kind. -/
namespace My
open PySem PySem.Spec PyProof.Rows L2
open PySem.W (KatTups KatLex EachIs kat_cons kat_go kat_yes kat_no kat_nil kat_lt kat_kind Looks KdlSrc)
/-! ### the order -/
def tokV : V → Int ⊕ List Nat
  | .int i => .inl i
  | .str x => .inr x.cps.toList
  | _ => .inl 0
def ltL (xs ys : List V) : Bool := lexLt itemOrd (xs.map tokV) (ys.map tokV)
/-- the first items that differ are of one kind -/
def compV : List V → List V → Bool
  | [], _ => true
  | _ :: _, [] => true
  | .int a :: xs, .int b :: ys => !decide (a = b) || compV xs ys
  | .str a :: xs, .str b :: ys => !decide (a = b) || compV xs ys
  | _ :: _, _ :: _ => false
def tokU : Value → Int ⊕ List Nat
  | .int i _ => .inl i
  | .str x _ => .inr x.cps.toList
  | _ => .inl 0
def seqU : Data → List (Int ⊕ List Nat)
  | .seq xs _ => xs.toList.map tokU
  | _ => []
def keyU (h : Heap) : Value → List (Int ⊕ List Nat)
  | .ref a => match h.get? a with
    | some o => seqU o.data
    | none => []
  | _ => []
def ltU (h : Heap) (v u : Value) : Bool := lexLt itemOrd (keyU h v) (keyU h u)
theorem swo_lexLt {α : Type} (k : α → List (Int ⊕ List Nat)) : SrtO.Swo fun v u => lexLt itemOrd (k v) (k u) := by
  refine ⟨fun x y h => ?_, fun x y z h1 h2 => ?_⟩
  · cases e : lexLt itemOrd (k y) (k x) with
    | false => rfl
    | true =>
      have := lex_trans _ _ _ h e
      rw [lex_irrefl] at this
      cases this
  · cases e : lexLt itemOrd (k z) (k x) with
    | false => rfl
    | true =>
      rcases lex_negTrans _ (k y) _ e with q | q
      · rw [h2] at q; cases q
      · rw [h1] at q; cases q
theorem swoU (h : Heap) : SrtO.Swo (ltU h) := swo_lexLt (keyU h)
theorem tok_rel : ∀ {v : V} {u : Value}, RelV v u → tokU u = tokV v
  | .int i, u, ⟨t, e⟩ => by rw [e]; rfl
  | .str x, u, ⟨t, e⟩ => by rw [e]; rfl
  | .non, u, e => by rw [show u = Value.none from e]; rfl
  | .bl b, u, e => by rw [show u = Value.bool b from e]; rfl
  | .byt b, u, ⟨t, e⟩ => by rw [e]; rfl
  | .flt b, u, ⟨t, e⟩ => by rw [e]; rfl
  | .ref a, u, e => by rw [show u = Value.ref a from e]; rfl
  | .ty n, u, e => by rw [show u = Value.type n from e]; rfl
theorem toks_rel : ∀ {xs : List V} {us : List Value}, Vals xs us → us.map tokU = xs.map tokV
  | _, _, .nil => rfl
  | _, _, .cons r t => by rw [List.map_cons, List.map_cons, tok_rel r, toks_rel t]
/-- a value that is such a tuple -/
def MixU (h : Heap) (v : Value) (xs : List V) : Prop := ∃ a o us n, v = .ref a ∧ h.get? a = some o ∧ o.cls = .type "tuple" ∧ o.data = .seq us n ∧ Vals xs us.toList
theorem MixU.key {h : Heap} {v : Value} {xs : List V} (m : MixU h v xs) : keyU h v = xs.map tokV := by
  obtain ⟨a, o, us, n, rfl, ho, hc, hd, r⟩ := m
  unfold keyU
  simp only [ho, hd]
  exact toks_rel r
theorem MixU.keeps {h h' : Heap} {v : Value} {xs : List V} (m : MixU h v xs) (k : ∀ b o, h.get? b = some o → o.cls = .type "tuple" → h'.get? b = some o) : MixU h' v xs := by
  obtain ⟨a, o, us, n, e, ho, hc, r⟩ := m
  exact ⟨a, o, us, n, e, k _ _ ho hc, hc, r⟩
section
variable {prog : Program} {w : World} {A : Around} {E : Value → Shared → Prop} {s : Shared}
theorem mix_lex {b fin : Bool} {Q : Bool → Shared → Prop} : ∀ (xs ys : List V) (ps qs : List Value) (i : Nat), Vals xs ps → Vals ys qs → compV xs ys = true → fin = decide (ps.length < qs.length) → Q (ltL xs ys) s → KatLex prog w A b fin Q (ps.zip qs) i s
  | [], [], _, _, i, .nil, .nil, _, hf, h => by
    have e : fin = false := by rw [hf]; rfl
    subst e
    exact kat_nil h
  | [], _ :: _, _, _, i, .nil, .cons _ _, _, hf, h => by
    have e : fin = true := by rw [hf]; exact decide_eq_true (Nat.succ_pos _)
    subst e
    exact kat_nil h
  | _ :: _, [], _, _, i, .cons _ _, .nil, _, hf, h => by
    have e : fin = false := by rw [hf]; exact decide_eq_false (Nat.not_lt_zero _)
    subst e
    exact kat_nil h
  | x :: xs, y :: ys, _ :: ps, _ :: qs, i, .cons rx rxs, .cons ry rys, hc, hf, h => by
    have hf' : fin = decide (ps.length < qs.length) := by
      rw [hf]; simp only [List.length_cons, Nat.add_lt_add_iff_right]
    cases x with
    | int a =>
      cases y with
      | int c =>
        obtain ⟨t, rfl⟩ := rx
        obtain ⟨u, rfl⟩ := ry
        have hc : (!decide (a = c) || compV xs ys) = true := hc
        have h : Q (lexLt itemOrd (Sum.inl a :: xs.map tokV) (Sum.inl c :: ys.map tokV)) s := h
        refine kat_cons (wpAny_eqBool_int ?_)
        refine kat_go (fun e => kat_yes ?_) (fun e => kat_no ?_)
        · have hnm : a = c := by simpa using e
          subst hnm
          rw [lex_self] at h
          exact mix_lex xs ys ps qs (i + 1) rxs rys (by simpa using hc) hf' h
        · have hnm : ¬ a = c := by simpa using e
          rw [lex_diff (fun x => hnm (Sum.inl.inj x))] at h
          exact oneLt_any_int h
      | _ => cases hc
    | str a =>
      cases y with
      | str c =>
        obtain ⟨t, rfl⟩ := rx
        obtain ⟨u, rfl⟩ := ry
        have hc : (!decide (a = c) || compV xs ys) = true := hc
        have h : Q (lexLt itemOrd (Sum.inr a.cps.toList :: xs.map tokV) (Sum.inr c.cps.toList :: ys.map tokV)) s := h
        refine kat_cons (wpAny_eqBool_str ?_)
        refine kat_go (fun e => kat_yes ?_) (fun e => kat_no ?_)
        · have hnm : a = c := of_decide_eq_true e
          subst hnm
          rw [lex_self] at h
          exact mix_lex xs ys ps qs (i + 1) rxs rys (by simpa using hc) hf' h
        · have hxy : ¬ a = c := of_decide_eq_false e
          have hne : a.cps.toList ≠ c.cps.toList := fun hl => hxy (PySem.W.str_of_cps hl)
          rw [lex_diff (fun z => hne (Sum.inr.inj z))] at h
          exact oneLt_any_str h
      | _ => cases hc
    | _ => cases y <;> cases hc
/-- what is asked of the items -/
structure Mixed (h : Heap) (us : List Value) (L : List (List V)) : Prop where
  each : EachIs (MixU h) us L
  fst : ∀ xs ∈ L, ∃ x r, xs = V.str x :: r
  comp : ∀ xs ∈ L, ∀ ys ∈ L, compV xs ys = true
theorem each_mem {α β : Type} {R : α → β → Prop} : ∀ {us : List α} {bs : List β}, EachIs R us bs → ∀ u ∈ us, ∃ b ∈ bs, R u b
  | _, _, .nil, u, h => by cases h
  | _, _, .cons r t, u, h => by
    rcases List.mem_cons.mp h with e | h
    · exact ⟨_, List.mem_cons_self, by rw [e]; exact r⟩
    · obtain ⟨b, hb, q⟩ := each_mem t u h
      exact ⟨b, List.mem_cons_of_mem _ hb, q⟩
theorem mix_firsts {h : Heap} : ∀ {us : List Value} {L : List (List V)}, EachIs (MixU h) us L → (∀ xs ∈ L, ∃ x r, xs = V.str x :: r) → ∃ fs, KatTups h us fs ∧ fs.length = us.length ∧ ∀ f ∈ fs, ∃ x t, f = Value.str x t
  | _, _, .nil, _ => ⟨[], KatTups.nil, rfl, fun f h => by cases h⟩
  | _, _, .cons r t, hf => by
    obtain ⟨fs, h1, h2, h3⟩ := mix_firsts t fun xs m => hf xs (List.mem_cons_of_mem _ m)
    obtain ⟨x, rest, rfl⟩ := hf _ List.mem_cons_self
    obtain ⟨a, o, us, n, rfl, ho, hc, hd, rv⟩ := r
    obtain ⟨u, hu, ⟨tk, ru⟩⟩ := rv.get (i := 0) rfl
    refine ⟨u :: fs, KatTups.cons ho hc hd (by rw [← Array.getElem?_toList]; exact hu) h1, by rw [List.length_cons, List.length_cons, h2], fun f m => ?_⟩
    rcases List.mem_cons.mp m with e | m
    · exact ⟨x, tk, by rw [e]; exact ru⟩
    · exact h3 f m
theorem mix_sortableO {a : Addr} {vs : List Value} {L : List (List V)} {h0 : Heap} (hn : 0 < vs.length) (M : Mixed h0 vs L) (hk : ∀ b o, h0.get? b = some o → s.heap.get? b = some o) (ha : ∀ o, s.heap.get? a = some o → o.cls ≠ .type "tuple") : SrtO.SortableO prog w A s a vs (ltU h0) := by
  intro h' keep
  have kk : ∀ b o, h0.get? b = some o → o.cls = .type "tuple" → h'.get? b = some o := fun b o e c => keep b o (fun z => by subst z; exact ha o (hk _ _ e) c) (hk _ _ e)
  have e' : EachIs (MixU h') vs L := EachIs.mono (fun u xs m => MixU.keeps m kk) M.each
  obtain ⟨fs, h1, h2, h3⟩ := mix_firsts e' M.fst
  refine ⟨tuples' true, fun Q E hq => ?_, ?_⟩
  · have e : (Value.type "str" != Value.type "tuple") = true := by first | rfl | decide
    refine kat_kind (T := Value.type "str") h1 (by omega) (fun f hm => ?_) rfl (by rw [e]; exact hq)
    obtain ⟨x, t, rfl⟩ := h3 f hm
    exact Looks.of_pure rfl
  · intro p q hm hm'
    obtain ⟨xs, mx, m0x⟩ := each_mem M.each p.1 hm
    obtain ⟨ys, my, m0y⟩ := each_mem M.each q.1 hm'
    show wpAny (model prog w) A (keyLt' (tuples' true) p.1 q.1) (fun r s' => s' = _ ∧ r = ltU h0 p.1 q.1) (fun _ _ => False) _
    have el : ltU h0 p.1 q.1 = ltL xs ys := by
      unfold ltU ltL
      rw [m0x.key, m0y.key]
    rw [el]
    obtain ⟨b1, o1, us1, n1, e1, ho1, hc1, hd1, r1⟩ := m0x.keeps kk
    obtain ⟨b2, o2, us2, n2, e2, ho2, hc2, hd2, r2⟩ := m0y.keeps kk
    rw [e1, e2]
    refine kat_lt ho1 hd1 ho2 hd2 ?_
    exact mix_lex xs ys us1.toList us2.toList 0 r1 r2 (M.comp xs mx ys my) (by rw [Array.length_toList, Array.length_toList]) ⟨rfl, rfl⟩
end
/-- sorted values, told -/
theorem each_pw {α β : Type} {R : α → β → Prop} {P : α → α → Prop} {T : β → β → Prop} : ∀ {us : List α} {bs : List β}, EachIs R us bs → us.Pairwise P → (∀ u v b c, R u b → R v c → P u v → T b c) → bs.Pairwise T
  | _, _, .nil, _, _ => List.Pairwise.nil
  | _, _, .cons r t, p, h => by
    obtain ⟨p1, p2⟩ := List.pairwise_cons.mp p
    refine List.pairwise_cons.mpr ⟨fun c hc => ?_, each_pw t p2 h⟩
    have key : ∀ {us : List α} {bs : List β}, EachIs R us bs → ∀ c ∈ bs, ∃ u ∈ us, R u c := by
      intro us bs e
      induction e with
      | nil => intro c hc; cases hc
      | cons r _ ih =>
        intro c hc
        rcases List.mem_cons.mp hc with e | hc
        · exact ⟨_, List.mem_cons_self, by rw [e]; exact r⟩
        · obtain ⟨u, hu, q⟩ := ih c hc
          exact ⟨u, List.mem_cons_of_mem _ hu, q⟩
    obtain ⟨u, hu, q⟩ := key t c hc
    exact h _ _ _ _ r q (p1 u hu)
/-- references and what stands there -/
def MixV (K : PySem.W.Frag) (H : Hp) (ps : List (V × List V)) : Prop := (∀ p ∈ ps, ∃ t, p.1 = .ref t ∧ SqT K H t p.2) ∧ (∀ p ∈ ps, ∃ x r, p.2 = V.str x :: r) ∧ ∀ p ∈ ps, ∀ q ∈ ps, compV p.2 q.2 = true
theorem mixU_of {X : Cx} {pins : List (Addr × Obj)} {σ : L2.St} {H : Hp} {s : Shared} (I : Inv X pins σ H s) : ∀ {ps : List (V × List V)} {us : List Value}, (∀ p ∈ ps, ∃ t, p.1 = .ref t ∧ SqT X.K H t p.2) → Vals (ps.map (·.1)) us → EachIs (fun u (p : V × List V) => RelV p.1 u ∧ MixU s.heap u p.2) us ps
  | [], _, _, .nil => .nil
  | p :: ps, _, h, .cons r t => by
    refine .cons ⟨r, ?_⟩ (mixU_of I (fun q m => h q (List.mem_cons_of_mem _ m)) t)
    obtain ⟨a, e, hq⟩ := h p List.mem_cons_self
    have r : RelV p.1 _ := r
    rw [e] at r
    obtain ⟨its, rv, ⟨o, ho, hc, n, hd⟩, _⟩ := I.tuple hq
    exact ⟨a, o, its.toArray, n, r, ho, hc, hd, by simpa using rv⟩
theorem each_fst {α β γ : Type} {R : α → β → Prop} {T : α → γ → Prop} {f : β → γ} (h : ∀ a b, R a b → T a (f b)) : ∀ {us : List α} {bs : List β}, EachIs R us bs → EachIs T us (bs.map f)
  | _, _, .nil => .nil
  | _, _, .cons r t => .cons (h _ _ r) (each_fst h t)
theorem each_valsM {h : Heap} : ∀ {us : List Value} {ps : List (V × List V)}, EachIs (fun u (p : V × List V) => RelV p.1 u ∧ MixU h u p.2) us ps → Vals (ps.map (·.1)) us
  | _, _, .nil => .nil
  | _, _, .cons r t => .cons r.1 (each_valsM t)
def AscM (qs : List (V × List V)) : Prop := qs.Pairwise fun p q => ltL q.2 p.2 = false
section
variable {X : Cx}
/-- sorted(xs), xs a list -/
def rSortedM (K : PySem.W.Frag) : List V → Hp → VK → Prop := fun vs H Q => ∃ (a : Addr) (ps : List (V × List V)), vs = [V.ref a] ∧ SqL K H a (ps.map (·.1)) ∧ MixV K H ps ∧
  ∀ qs p, qs.Perm ps → AscM qs → H p = none → Q (.ref p) (upd H p (.lst (qs.map (·.1))))
theorem cr_sortedM : CallR X (.builtin "sorted") (rSortedM X.K) := by
  intro pins s σ H vs us Q I r h
  obtain ⟨a, ps, rfl, hs, ⟨m1, m2, m3⟩, q⟩ := h
  obtain ⟨its, rv, hl, hz⟩ := I.list hs
  rw [Vals.ref1 r]
  have e0 := mixU_of I m1 rv
  have M : Mixed s.heap its (ps.map (·.2)) := ⟨each_fst (fun a b h => h.2) e0, fun xs m => by
    obtain ⟨p, hp, rfl⟩ := List.mem_map.mp m
    exact m2 p hp, fun xs m ys m' => by
    obtain ⟨p, hp, rfl⟩ := List.mem_map.mp m
    obtain ⟨q, hq, rfl⟩ := List.mem_map.mp m'
    exact m3 p hp q hq⟩
  refine SrtO.sorted_ord (swoU s.heap) hl.isList (by rw [← rv.length]; exact hz) (fun h2 h₁ a' ha' kk => ?_) fun out h1 h2 => ?_
  · refine mix_sortableO (s := { s with heap := h₁ }) (by omega) M (fun b o e => (kk b o e).2) fun o e c => ?_
    have e' : some o = some (seqObj "list" its.toArray 0) := e.symm.trans ha'
    cases e'
    exact absurd (Value.type.inj c) (by decide)
  · obtain ⟨qs, e1, pm⟩ := each_perm h2.perm e0
    have asc : AscM qs := each_pw e1 h1 fun u v b c ru rv' hp => by
      have hp : ltU s.heap v u = false := hp
      unfold ltU at hp
      rw [ru.2.key, rv'.2.key] at hp
      exact hp
    have ov := each_valsM e1
    obtain ⟨ep, he'⟩ := PyProof.Rows.sortedAll_at s.heap its out.toArray
    have hlen : (qs.map (·.1)).length ≤ sizeLine := by
      rw [List.length_map, pm.length_eq]
      rw [List.length_map] at hz
      exact hz
    exact ⟨.ref _, upd H (s.heap.objs.size + 1) (.lst (qs.map (·.1))), I.laid (t' := s.toks) (fun _ _ => PyProof.Rows.sortedAll_old) (Nat.le_succ _) ⟨hlen, out, ep, ov, he'⟩, rfl, q _ _ pm asc (I.hok.fresh (Nat.le_succ _))⟩
end
/-! ### a dict whose keys are tuples: list(d), sorted(d) -/
section
variable {prog : Program} {w : World} {d : Addr} {xs : List (NK × Addr × Value)} {es : Array DictEntry} {ep : Nat}
theorem kdl_raw (lo : (d == sysModules) = false) (hx : ∀ i (hi : i < es.size), ∃ y, xs[i]? = some y ∧ es[i].key = .ref y.2.1 ∧ es[i].val = y.2.2) : KdlSrc prog w "dict" d d es.size (fun i v => ∃ y, xs[i]? = some y ∧ v = .ref y.2.1) (fun h => h.DictRaw d es ep) where
  type := fun _ hm => hm.typeIs
  there := fun _ hm => let ⟨_, ho, _⟩ := hm; ⟨Heap.lt_size ho, Heap.lt_size ho⟩
  keep := fun _ _ hm hk => hm.at fun o e => hk d (.inl rfl) o e
  notList := by decide
  notTuple := by decide
  hint := fun _ _ _ _ hm hq => PySem.W.kdl_hint_dict hm.typeIs hq
  iter := fun _ s hh hm => by
    have hlt : d < s.heap.objs.size := let ⟨_, ho, _⟩ := hm; Heap.lt_size ho
    exact ⟨_, _, (fun _ _ hq => wpAny_pyIter_dict_raw lo hm hq), Walks.keysH hh _ d (Nat.ne_of_lt hlt) es ep hx, ⟨⟨_, Heap.get?_push_size _ rfl, rfl, rfl⟩, hm.at fun o e => Heap.get?_push_of_some _ e⟩⟩
end
section
variable {X : Cx}
/-- the items that were collected -/
theorem items_valsN {xs : NRows} {vs : List (NK × Addr × Value)} (r : Paired NRel xs vs) {acc : List Value} (hl : acc.length = vs.length) (h : ∀ (i : Nat) (v : Value), acc[i]? = some v → ∃ y : NK × Addr × Value, vs[i]? = some y ∧ v = Value.ref y.2.1) : Vals (xs.map fun x => V.ref x.2.1) acc := by
  induction r generalizing acc with
  | nil =>
    cases acc with
    | nil => exact .nil
    | cons a b => cases hl
  | @cons p q ps qs hp t ih =>
    cases acc with
    | nil => cases hl
    | cons a acc =>
      obtain ⟨y, hy, e⟩ := h 0 a rfl
      cases hy
      refine .cons ?_ (ih (by simpa using hl) fun i v hv => h (i + 1) v hv)
      show a = Value.ref p.2.1
      rw [e, hp.2.1]
/-- list(d) -/
def rListN (P : Program) (w : World) (K : PySem.W.Frag) : List V → Hp → VK → Prop := fun vs H Q => ∃ (d : Addr) (xs : NRows), vs = [.ref d] ∧ DN P w K H d xs ∧ ∀ p, H p = none → Q (.ref p) (upd H p (.lst (xs.map fun x => V.ref x.2.1)))
theorem cr_listN (calm : X.calm = true) : CallR X (.type "list") (rListN X.prog X.w X.K) := by
  rintro pins s σ H vs us Q I r ⟨d, xs, rfl, D, q⟩
  rw [Vals.ref1 r]
  obtain ⟨hd, ys, rel, dd⟩ := dn_of I D
  obtain ⟨es, ep, hr, hs, he⟩ := dd.raw
  have hl : xs.length = ys.length := Paired.length rel
  have hz := D.len
  refine PySem.W.kdl_call (A := X.A) (kdl_raw (xs := ys) hd fun i hi => let ⟨y, h1, h2, h3, _⟩ := he i hi; ⟨y, h1, h2, h3⟩) (I.ok.hd calm) hr (by rw [hs, ← hl]; exact hz) fun h' tk acc c' k hS hacc => ?_
  have hv : Vals (xs.map fun x => V.ref x.2.1) acc.toList := items_valsN rel (by rw [Array.length_toList, hacc.1, hs]) fun i v e => hacc.2 i v (by rw [← Array.getElem?_toList]; exact e)
  refine ⟨.ref s.heap.objs.size, upd H s.heap.objs.size (.lst (xs.map fun x => V.ref x.2.1)), I.laid (t' := tk) k (Nat.le_refl _) ⟨by rw [List.length_map]; exact hz, acc.toList, c', hv, hS⟩, rfl, q _ (I.hok.fresh (Nat.le_refl _))⟩
/-- sorted(d) -/
def rSortN (P : Program) (w : World) (K : PySem.W.Frag) : List V → Hp → VK → Prop := fun vs H Q => ∃ (d : Addr) (xs : NRows) (ps : List (V × List V)), vs = [.ref d] ∧ DN P w K H d xs ∧ (ps.map (·.1)) = (xs.map fun x => V.ref x.2.1) ∧ MixV K H ps ∧
  ∀ qs p, qs.Perm ps → AscM qs → H p = none → Q (.ref p) (upd H p (.lst (qs.map (·.1))))
theorem cr_sortN (calm : X.calm = true) : CallR X (.builtin "sorted") (rSortN X.prog X.w X.K) := by
  rintro pins s σ H vs us Q I r ⟨d, xs, ps, rfl, D, eps, ⟨m1, m2, m3⟩, q⟩
  rw [Vals.ref1 r]
  obtain ⟨hd, ys, rel, dd⟩ := dn_of I D
  obtain ⟨es, ep, hr, hs, he⟩ := dd.raw
  have hl : xs.length = ys.length := Paired.length rel
  have hz := D.len
  refine Calls.call_function_entry kind_sorted plain_sorted entry_sorted (args_sorted1 _) ?_
  show wpAny _ _ (checkCount "sorted" 1 1 _ >>= _) _ _ _
  refine wpAny_bind (wpAny_pure (wpAny_bind (PySem.W.kdu_collect (A := X.A.in1) (kdl_raw (xs := ys) hd fun i hi => let ⟨y, h1, h2, h3, _⟩ := he i hi; ⟨y, h1, h2, h3⟩) (I.ok.hd calm) hr (by rw [hs, ← hl]; exact hz) fun h1 tk got stay has => ?_)))
  have hv : Vals (xs.map fun x => V.ref x.2.1) got.toList := items_valsN rel (by rw [Array.length_toList, has.1, hs]) fun i v e => has.2 i v (by rw [← Array.getElem?_toList]; exact e)
  have I1 : Inv X pins σ H { s with heap := h1, toks := tk } := I.kept stay
  rw [← eps] at hv
  have e0 := mixU_of I1 m1 hv
  have gl : got.toList.length = ps.length := by rw [← hv.length, List.length_map]
  have pl : ps.length = xs.length := by have := congrArg List.length eps; simpa using this
  have gz : got.toList.length ≤ sizeLine := by rw [gl, pl]; exact hz
  have M : Mixed h1 got.toList (ps.map (·.2)) := ⟨each_fst (fun a b h => h.2) e0, fun xs m => by
    obtain ⟨p, hp, rfl⟩ := List.mem_map.mp m
    exact m2 p hp, fun xs m ys m' => by
    obtain ⟨p, hp, rfl⟩ := List.mem_map.mp m
    obtain ⟨q, hq, rfl⟩ := List.mem_map.mp m'
    exact m3 p hp q hq⟩
  refine wpAny_bind (wpAny_newList (show wpAny _ _ _ _ _ { s with heap := h1.push (seqObj "list" got.toList.toArray 0), toks := tk } from ?_) gz)
  have new : (h1.push (seqObj "list" got.toList.toArray 0)).get? h1.objs.size = some (seqObj "list" got.toList.toArray 0) := Heap.get?_push_size _ rfl
  refine wpAny_bind (wpAny_holding (wpAny_call_entry slot_list_sort ⟨_, new, rfl⟩ entry_list_sort (SrtO.list_sort_ord (s := { s with heap := h1.push (seqObj "list" got.toList.toArray 0), toks := tk }) (swoU h1) new gz (fun two => mix_sortableO (by omega) M (fun b o e => Heap.get?_push_of_some _ e) fun o e c => ?_) fun out b1 b2 => ⟨.none, rfl, wpAny_pure ⟨_, rfl, ?_⟩⟩) (args_list_sort _)))
  · have e' : some o = some (seqObj "list" got.toList.toArray 0) := e.symm.trans new
    cases e'
    exact absurd (Value.type.inj c) (by decide)
  obtain ⟨qs, e1, pm⟩ := each_perm b2.perm e0
  have asc : AscM qs := each_pw e1 b1 fun u v b c ru rv' hp => by
    have hp : ltU h1 v u = false := hp
    unfold ltU at hp
    rw [ru.2.key, rv'.2.key] at hp
    exact hp
  have ov := each_valsM e1
  obtain ⟨e', he'⟩ := sortedHeap_at (vs := got.toList) (out := out.toArray) new
  have ol : (qs.map (·.1)).length ≤ sizeLine := by rw [List.length_map, pm.length_eq, pl]; exact hz
  refine ⟨.ref h1.objs.size, upd H h1.objs.size (.lst (qs.map (·.1))), I1.laid (t' := tk) (fun b u e => ?_) (Nat.le_refl _) ⟨ol, out, e', ov, he'⟩, rfl, q _ _ pm asc (I1.hok.fresh (Nat.le_refl _))⟩
  have lt : b < h1.objs.size := Heap.lt_size e
  rw [sortedHeap_old (Nat.ne_of_lt lt) (by rw [size_push']; exact Nat.lt_succ_of_lt lt)]
  exact Heap.get?_push_of_some _ e
end
end My

set_option Elab.async false
set_option maxRecDepth 100000
set_option maxHeartbeats 4000000
set_option linter.all false
/-! law_k60, pure: the items, the sets, how few meet all. -/
namespace My
open PySem PySem.Spec PyProof.Rows L2
/-! ### items, by their rank -/
def itV : Nat → List V
  | 0 => [.str "block", .str "main", .int 3]
  | 1 => [.str "block", .str "main", .int 8]
  | 2 => [.str "broken", .int 2]
  | 3 => [.str "edge", .str "main", .int 3, .int 8]
  | _ => [.str "index", .str "main", .int 3, .int (-1)]
def nkV : V → NK
  | .int i => .num i
  | .str x => .text x
  | _ => .none
def itK (r : Nat) : NK := .tup ((itV r).map nkV)
def itD (r : Nat) : PyData := (itK r).data
def Atoms (xs : List V) : Prop := ∀ v ∈ xs, (∃ i, v = V.int i) ∨ ∃ x, v = V.str x
theorem itV_atoms (r : Nat) : Atoms (itV r) := by
  intro v hv
  match r with
  | 0 => simp only [itV, List.mem_cons, List.not_mem_nil, or_false] at hv; rcases hv with rfl | rfl | rfl <;> first | exact .inl ⟨_, rfl⟩ | exact .inr ⟨_, rfl⟩
  | 1 => simp only [itV, List.mem_cons, List.not_mem_nil, or_false] at hv; rcases hv with rfl | rfl | rfl <;> first | exact .inl ⟨_, rfl⟩ | exact .inr ⟨_, rfl⟩
  | 2 => simp only [itV, List.mem_cons, List.not_mem_nil, or_false] at hv; rcases hv with rfl | rfl <;> first | exact .inl ⟨_, rfl⟩ | exact .inr ⟨_, rfl⟩
  | 3 => simp only [itV, List.mem_cons, List.not_mem_nil, or_false] at hv; rcases hv with rfl | rfl | rfl | rfl <;> first | exact .inl ⟨_, rfl⟩ | exact .inr ⟨_, rfl⟩
  | n + 4 => simp only [itV, List.mem_cons, List.not_mem_nil, or_false] at hv; rcases hv with rfl | rfl | rfl | rfl <;> first | exact .inl ⟨_, rfl⟩ | exact .inr ⟨_, rfl⟩
theorem atoms_of {K : PySem.W.Frag} {H : Hp} : ∀ {L us : List V}, Atoms L → DpAll K H us (NestedKey.datas (L.map nkV)) → us = L
  | [], _, _, h => by
    cases h
    rfl
  | v :: L, us, ha, h => by
    have hr := fun {us'} => atoms_of (K := K) (H := H) (L := L) (us := us') fun u m => ha u (List.mem_cons_of_mem _ m)
    rcases ha v List.mem_cons_self with ⟨i, rfl⟩ | ⟨x, rfl⟩
    · cases h with
      | cons a b =>
        cases a
        rw [hr b]
    · cases h with
      | cons a b =>
        cases a
        rw [hr b]
theorem it_at {K : PySem.W.Frag} {H : Hp} {v : V} {r : Nat} (h : Dp K H v (itD r)) : ∃ t, v = .ref t ∧ SqT K H t (itV r) := by
  obtain ⟨t, us, rfl, ht, hu⟩ := dp_tup (show Dp K H v (.tuple (NestedKey.datas ((itV r).map nkV))) from h)
  rw [atoms_of (itV_atoms r) hu] at ht
  exact ⟨t, rfl, ht⟩
theorem it_comp : ∀ a, a < 5 → ∀ b, b < 5 → compV (itV a) (itV b) = true := by decide +kernel
theorem it_lt : ∀ a, a < 5 → ∀ b, b < 5 → ltL (itV a) (itV b) = decide (a < b) := by decide +kernel
theorem it_inj : ∀ a, a < 5 → ∀ b, b < 5 → (itK a = itK b ↔ a = b) := by decide +kernel
theorem it_eqv : ∀ a, a < 5 → ∀ b, b < 5 → PyData.eqv (itD a) (itD b) = decide (a = b) := by decide +kernel
theorem it_depth : ∀ a, a < 5 → (itK a).depth ≤ 8 := by decide +kernel
theorem it_fst (r : Nat) : ∃ x q, itV r = V.str x :: q := by
  match r with
  | 0 => exact ⟨_, _, rfl⟩
  | 1 => exact ⟨_, _, rfl⟩
  | 2 => exact ⟨_, _, rfl⟩
  | 3 => exact ⟨_, _, rfl⟩
  | n + 4 => exact ⟨_, _, rfl⟩
theorem it_noLst : ∀ r, noLst (itD r) = true
  | 0 => rfl
  | 1 => rfl
  | 2 => rfl
  | 3 => rfl
  | _ + 4 => rfl
/-! ### ascending rows -/
def Asc (l : List Nat) : Prop := l.Pairwise (· < ·)
theorem asc_eq : ∀ {a b : List Nat}, Asc a → Asc b → (∀ x, x ∈ a ↔ x ∈ b) → a = b
  | [], [], _, _, _ => rfl
  | [], y :: b, _, _, h => by cases (h y).2 List.mem_cons_self
  | x :: a, [], _, _, h => by cases (h x).1 List.mem_cons_self
  | x :: a, y :: b, ha, hb, h => by
    obtain ⟨ha1, ha2⟩ := List.pairwise_cons.mp ha
    obtain ⟨hb1, hb2⟩ := List.pairwise_cons.mp hb
    have e : x = y := by
      rcases List.mem_cons.mp ((h x).1 List.mem_cons_self) with e | m1
      · exact e
      · rcases List.mem_cons.mp ((h y).2 List.mem_cons_self) with e | m2
        · exact e.symm
        · have := hb1 x m1; have := ha1 y m2; omega
    subst e
    rw [asc_eq ha2 hb2 fun z => ?_]
    have hz := h z
    simp only [List.mem_cons] at hz
    constructor
    · intro m
      rcases hz.1 (.inr m) with e | e
      · have := ha1 z m; omega
      · exact e
    · intro m
      rcases hz.2 (.inr m) with e | e
      · have := hb1 z m; omega
      · exact e
theorem asc_range (n : Nat) : Asc (List.range n) := by
  unfold Asc
  induction n with
  | zero => exact List.Pairwise.nil
  | succ n ih =>
    rw [List.range_succ]
    exact List.pairwise_append.mpr ⟨ih, List.pairwise_singleton _ _, fun a ha b hb => by rw [List.mem_singleton.mp hb]; exact List.mem_range.mp ha⟩
theorem asc_filter {l : List Nat} {p : Nat → Bool} (h : Asc l) : Asc (l.filter p) := List.Pairwise.sublist List.filter_sublist h
/-! ### what rows hold -/
def hasR (rows : List (List Nat)) (r : Nat) : Bool := rows.any fun S => S.contains r
def everyR (rows : List (List Nat)) : List Nat := (List.range 5).filter (hasR rows)
theorem hasR_iff {rows : List (List Nat)} {r : Nat} : hasR rows r = true ↔ ∃ S ∈ rows, r ∈ S := by
  unfold hasR
  rw [List.any_eq_true]
  exact ⟨fun ⟨S, h1, h2⟩ => ⟨S, h1, by simpa using h2⟩, fun ⟨S, h1, h2⟩ => ⟨S, h1, by simpa using h2⟩⟩
theorem mem_every {rows : List (List Nat)} {r : Nat} : r ∈ everyR rows ↔ r < 5 ∧ ∃ S ∈ rows, r ∈ S := by
  unfold everyR
  rw [List.mem_filter, List.mem_range, hasR_iff]
theorem every_asc (rows : List (List Nat)) : Asc (everyR rows) := asc_filter (asc_range 5)
/-- the numbers of the sets that have an item -/
def hasI (sets : List (List Nat)) (r i : Nat) : Bool := (sets[i]?.getD []).contains r
def idxN (sets : List (List Nat)) (r i : Nat) : List Int := ((List.range i).filter (hasI sets r)).map fun k => ((k + 1 : Nat) : Int)
def idx (sets : List (List Nat)) (r : Nat) : List Int := idxN sets r sets.length
theorem idxN_len (sets : List (List Nat)) (r i : Nat) : (idxN sets r i).length ≤ i := by
  unfold idxN
  rw [List.length_map]
  exact Nat.le_trans (List.length_filter_le _ _) (by rw [List.length_range]; exact Nat.le_refl _)
theorem idxN_succ (sets : List (List Nat)) (r i : Nat) : idxN sets r (i + 1) = idxN sets r i ++ if hasI sets r i = true then [((i + 1 : Nat) : Int)] else [] := by
  unfold idxN
  rw [List.range_succ, List.filter_append, List.map_append]
  congr 1
  by_cases h : hasI sets r i = true
  · rw [if_pos h, List.filter_cons_of_pos h]; rfl
  · rw [if_neg h, List.filter_cons_of_neg h]; rfl
theorem mem_idx {sets : List (List Nat)} {r : Nat} {x : Int} : x ∈ idx sets r ↔ ∃ k, k < sets.length ∧ x = ((k + 1 : Nat) : Int) ∧ ∃ S, sets[k]? = some S ∧ r ∈ S := by
  unfold idx idxN
  rw [List.mem_map]
  constructor
  · rintro ⟨k, hk, rfl⟩
    obtain ⟨h1, h2⟩ := List.mem_filter.mp hk
    have h1 := List.mem_range.mp h1
    refine ⟨k, h1, rfl, sets[k], List.getElem?_eq_getElem h1, ?_⟩
    unfold hasI at h2
    rw [List.getElem?_eq_getElem h1] at h2
    simpa using h2
  · rintro ⟨k, hk, rfl, S, hS, hr⟩
    refine ⟨k, List.mem_filter.mpr ⟨List.mem_range.mpr hk, ?_⟩, rfl⟩
    unfold hasI
    rw [hS]
    simpa using hr
/-- all that 12.2 asks -/
def dueR (sets : List (List Nat)) (M : Nat) : List (List Int) := ((everyR sets).map (idx sets)) ++ cntRows sets.length M
/-! ### how few -/
def takenOf (m n : Nat) : List Nat := (List.range m).filter fun k => decide (n / 2 ^ k % 2 = 1)
def coverB (sets : List (List Nat)) (T : List Nat) : Bool := decide (everyR (T.map fun k => sets[k]?.getD []) = everyR sets)
def fewN (sets : List (List Nat)) : Nat → Nat
  | 0 => sets.length
  | n + 1 => if (takenOf sets.length n).length < fewN sets n ∧ coverB sets (takenOf sets.length n) = true then (takenOf sets.length n).length else fewN sets n
def few (sets : List (List Nat)) : Nat := fewN sets (2 ^ sets.length)
theorem fewN_le (sets : List (List Nat)) (n : Nat) : fewN sets (n + 1) ≤ fewN sets n := by
  show (if _ then _ else _) ≤ _
  split
  · rename_i h; omega
  · exact Nat.le_refl _
theorem fewN_mono (sets : List (List Nat)) {i k : Nat} (h : i ≤ k) : fewN sets k ≤ fewN sets i := by
  induction k with
  | zero => rw [Nat.le_zero.mp h]; exact Nat.le_refl _
  | succ k ih =>
    rcases Nat.lt_or_ge i (k + 1) with h2 | h2
    · exact Nat.le_trans (fewN_le sets k) (ih (by omega))
    · rw [show i = k + 1 by omega]; exact Nat.le_refl _
theorem few_len (sets : List (List Nat)) : few sets ≤ sets.length := fewN_mono sets (Nat.zero_le _)
theorem fewN_hit (sets : List (List Nat)) : ∀ n, fewN sets n = sets.length ∨ ∃ k, k < n ∧ coverB sets (takenOf sets.length k) = true ∧ fewN sets n = (takenOf sets.length k).length
  | 0 => .inl rfl
  | n + 1 => by
    by_cases h : (takenOf sets.length n).length < fewN sets n ∧ coverB sets (takenOf sets.length n) = true
    · exact .inr ⟨n, by omega, h.2, by show (if _ then _ else _) = _; rw [if_pos h]⟩
    · have e : fewN sets (n + 1) = fewN sets n := by show (if _ then _ else _) = _; rw [if_neg h]
      rcases fewN_hit sets n with z | ⟨k, hk, h1, h2⟩
      · exact .inl (e.trans z)
      · exact .inr ⟨k, by omega, h1, e.trans h2⟩
theorem fewN_low (sets : List (List Nat)) {n k : Nat} (hk : k < n) (hc : coverB sets (takenOf sets.length k) = true) : fewN sets n ≤ (takenOf sets.length k).length := by
  refine Nat.le_trans (fewN_mono sets (show k + 1 ≤ n by omega)) ?_
  show (if _ then _ else _) ≤ _
  split
  · exact Nat.le_refl _
  · rename_i h
    rcases Nat.lt_or_ge (takenOf sets.length k).length (fewN sets k) with z | z
    · exact absurd ⟨z, hc⟩ h
    · exact z
/-- the number whose bits say what is taken -/
def numT (t : Int → Bool) : Nat → Nat
  | 0 => 0
  | i + 1 => numT t i + if t ((i + 1 : Nat) : Int) = true then 2 ^ i else 0
theorem numT_lt (t : Int → Bool) : ∀ i, numT t i < 2 ^ i
  | 0 => Nat.one_pos
  | i + 1 => by
    have := numT_lt t i
    show numT t i + _ < _
    rw [Nat.pow_succ]
    split <;> omega
theorem numT_bit (t : Int → Bool) : ∀ i k, k < i → decide (numT t i / 2 ^ k % 2 = 1) = t ((k + 1 : Nat) : Int)
  | 0, k, h => absurd h (Nat.not_lt_zero _)
  | i + 1, k, h => by
    have ih := numT_bit t i k
    have hl := numT_lt t i
    show decide ((numT t i + (if t ((i + 1 : Nat) : Int) = true then 2 ^ i else 0)) / 2 ^ k % 2 = 1) = _
    rcases Nat.lt_or_ge k i with hk | hk
    · rw [← ih hk]
      split
      · obtain ⟨d, rfl⟩ : ∃ d, i = k + 1 + d := ⟨i - k - 1, by omega⟩
        have e : (2 : Nat) ^ (k + 1 + d) = 2 ^ k * (2 * 2 ^ d) := by rw [Nat.pow_add, Nat.pow_succ]; simp [Nat.mul_assoc]
        rw [e, Nat.add_mul_div_left _ _ (Nat.two_pow_pos k)]
        refine decide_eq_decide.mpr ?_
        omega
      · rfl
    · obtain rfl : k = i := by omega
      split
      · rename_i ht
        rw [ht, Nat.add_div_right _ (Nat.two_pow_pos k), Nat.div_eq_of_lt hl]
        rfl
      · rename_i ht
        rw [Nat.add_zero, Nat.div_eq_of_lt hl]
        cases q : t ((k + 1 : Nat) : Int) with
        | false => rfl
        | true => exact absurd q ht
theorem cntT_filter (t : Int → Bool) : ∀ m, cntT t m = ((List.range m).filter fun k => t ((k + 1 : Nat) : Int)).length
  | 0 => rfl
  | m + 1 => by
    rw [List.range_succ, List.filter_append, List.length_append, ← cntT_filter t m]
    show cntT t m + _ = _
    congr 1
    by_cases h : t ((m + 1 : Nat) : Int) = true
    · rw [if_pos h, List.filter_cons_of_pos (p := fun k : Nat => t ((k + 1 : Nat) : Int)) h]; rfl
    · rw [if_neg h, List.filter_cons_of_neg (p := fun k : Nat => t ((k + 1 : Nat) : Int)) h]; rfl
theorem every_sub {sets : List (List Nat)} {T : List Nat} : (∀ k ∈ T, k < sets.length) → (coverB sets T = true ↔ ∀ r ∈ everyR sets, ∃ k ∈ T, hasI sets r k = true) := by
  intro hT
  unfold coverB
  rw [decide_eq_true_eq]
  constructor
  · intro e r hr
    rw [← e] at hr
    obtain ⟨_, S, hS, hm⟩ := mem_every.1 hr
    obtain ⟨k, hk, rfl⟩ := List.mem_map.mp hS
    exact ⟨k, hk, by unfold hasI; simpa using hm⟩
  · intro h
    refine asc_eq (every_asc _) (every_asc _) fun r => ⟨fun hr => ?_, fun hr => ?_⟩
    · obtain ⟨h5, S, hS, hm⟩ := mem_every.1 hr
      obtain ⟨k, hk, rfl⟩ := List.mem_map.mp hS
      have hl := hT k hk
      refine mem_every.2 ⟨h5, sets[k], List.getElem_mem hl, ?_⟩
      rw [List.getElem?_eq_getElem hl] at hm
      exact hm
    · obtain ⟨k, hk, hi⟩ := h r hr
      refine mem_every.2 ⟨(mem_every.1 hr).1, _, List.mem_map.mpr ⟨k, hk, rfl⟩, ?_⟩
      unfold hasI at hi
      simpa using hi
theorem full_cover (sets : List (List Nat)) : ∀ r ∈ everyR sets, ∃ k ∈ List.range sets.length, hasI sets r k = true := fun r hr => by
  obtain ⟨_, S, hS, hm⟩ := mem_every.1 hr
  obtain ⟨k, hk⟩ := List.getElem?_of_mem hS
  refine ⟨k, List.mem_range.mpr (List.getElem?_eq_some_iff.mp hk).1, ?_⟩
  unfold hasI
  rw [hk]
  simpa using hm
theorem few_sat {sets : List (List Nat)} {M : Nat} : MC.Sat (dueR sets M) ↔ few sets ≤ M := by
  unfold dueR
  rw [cover_sat (m := sets.length) (fun r hr x hx => by
    obtain ⟨q, hq, rfl⟩ := List.mem_map.mp hr
    obtain ⟨k, hk, rfl, _⟩ := mem_idx.1 hx
    omega)]
  have hmeet : ∀ t : Int → Bool, (∀ r ∈ (everyR sets).map (idx sets), ∃ x ∈ r, t x = true) ↔ ∀ r ∈ everyR sets, ∃ k ∈ (List.range sets.length).filter (fun k => t ((k + 1 : Nat) : Int)), hasI sets r k = true := fun t => by
    constructor
    · intro h r hr
      obtain ⟨x, hx, ht⟩ := h _ (List.mem_map.mpr ⟨r, hr, rfl⟩)
      obtain ⟨k, hk, rfl, S, hS, hm⟩ := mem_idx.1 hx
      refine ⟨k, List.mem_filter.mpr ⟨List.mem_range.mpr hk, ht⟩, ?_⟩
      unfold hasI
      rw [hS]
      simpa using hm
    · intro h q hq
      obtain ⟨r, hr, rfl⟩ := List.mem_map.mp hq
      obtain ⟨k, hk, hi⟩ := h r hr
      obtain ⟨h1, h2⟩ := List.mem_filter.mp hk
      have h1 := List.mem_range.mp h1
      refine ⟨_, mem_idx.2 ⟨k, h1, rfl, sets[k], List.getElem?_eq_getElem h1, ?_⟩, h2⟩
      unfold hasI at hi
      rw [List.getElem?_eq_getElem h1] at hi
      simpa using hi
  constructor
  · rintro ⟨t, h1, h2⟩
    rw [hmeet] at h2
    have eT : takenOf sets.length (numT t sets.length) = (List.range sets.length).filter fun k => t ((k + 1 : Nat) : Int) := by
      unfold takenOf
      refine List.filter_congr fun k hk => ?_
      exact numT_bit t sets.length k (List.mem_range.mp hk)
    have hc : coverB sets (takenOf sets.length (numT t sets.length)) = true := by
      rw [eT]
      exact (every_sub fun k hk => List.mem_range.mp (List.mem_filter.mp hk).1).2 h2
    have := fewN_low sets (numT_lt t sets.length) hc
    rw [eT, ← cntT_filter] at this
    exact Nat.le_trans this h1
  · intro h
    rcases fewN_hit sets (2 ^ sets.length) with e | ⟨k, _, hc, e⟩
    · refine ⟨fun _ => true, ?_, (hmeet _).2 ?_⟩
      · have e : few sets = sets.length := e
        exact Nat.le_trans (cntT_le _ _) (by omega)
      · intro r hr
        obtain ⟨k, hk, hi⟩ := full_cover sets r hr
        exact ⟨k, List.mem_filter.mpr ⟨hk, rfl⟩, hi⟩
    · have e : few sets = _ := e
      have eT : ∀ m, takenOf m k = (List.range m).filter fun j => (fun x : Int => decide (k / 2 ^ (x.toNat - 1) % 2 = 1)) ((j + 1 : Nat) : Int) := fun m => by
        unfold takenOf
        refine List.filter_congr fun j _ => ?_
        show _ = decide (k / 2 ^ (((j + 1 : Nat) : Int).toNat - 1) % 2 = 1)
        rw [Int.toNat_natCast, Nat.add_sub_cancel]
      refine ⟨fun x => decide (k / 2 ^ (x.toNat - 1) % 2 = 1), ?_, (hmeet _).2 ?_⟩
      · rw [cntT_filter, ← eT, ← e]
        exact h
      · rw [← eT]
        exact (every_sub fun j hj => List.mem_range.mp (List.mem_filter.mp hj).1).1 hc
end My

set_option Elab.async false
set_option maxRecDepth 100000
set_option maxHeartbeats 4000000
set_option linter.all false
/-! The keys of a locked dict, tuples of tuples, one after the other. -/
namespace My
open PySem PySem.Spec PyProof.Rows L2
/-- the rows of the locked dict at d -/
def Itn (P : Program) (w : World) (d : Addr) (o : Obj) (rows : NRows) : It :=
  ⟨fun i H => H d = some (.frz o (dnO P w d rows)) ∧ i < rows.length, fun i H x H' => H' = H ∧ ∃ r : NRow, rows[i]? = some r ∧ x = .ref r.2.1, fun i H => H d = some (.frz o (dnO P w d rows)) ∧ rows.length ≤ i⟩
section
variable {X : Cx} {pins : List (Addr × Obj)} {σ : L2.St} {H : Hp} {s : Shared} {d : Addr} {o : Obj} {rows : NRows}
theorem frzN (I : L2.Inv X pins σ H s) (h : H d = some (.frz o (dnO X.prog X.w d rows))) :
    (d == sysModules) = false ∧ s.heap.get? d = some o ∧ o.ExactDict ∧ ∃ (es : Array DictEntry) (ep : Nat), o.data = .dict es ep ∧ es.size = rows.length ∧
      ∀ (i : Nat) (r : NRow), rows[i]? = some r → ∃ en : DictEntry, es[i]? = some en ∧ en.key = .ref r.2.1 := by
  obtain ⟨hd, ⟨hs, vs, pr, o', es, ep, ho, hx, hdt, he, _⟩, _⟩ := I.hok d _ h
  rw [hd] at ho
  cases ho
  have l1 : es.size = vs.length := by
    have := congrArg List.length he
    rw [Array.length_toList, List.length_map] at this
    exact this
  have l2 : rows.length = vs.length := Paired.length pr
  refine ⟨hs, hd, hx, es, ep, hdt, by omega, fun i r e => ?_⟩
  obtain ⟨q, hq, hr⟩ := paired_get pr e
  have he2 : es[i]? = some (entryOfKey (nestedKind X.prog X.w) q) := by
    rw [← Array.getElem?_toList, he, List.getElem?_map, hq]
    rfl
  exact ⟨_, he2, by rw [hr.2.1]; rfl⟩
end
theorem turn_keysN {P : Program} {w : World} {K : PySem.W.Frag} {tg : Expr} {d : Addr} {o : Obj} {rows : NRows} {es : Array DictEntry} {ep : Nat} (it : Addr) (hod : o.data = .dict es ep) : Turn P w K tg (Itn P w d o rows) [it] it (fun i h => h.IsKeyIter it d i rows.length ep) where
  mem := by simp
  obj := fun i h st b hb => by
    have e : b = it := by simpa using hb
    subst e
    obtain ⟨oi, e, c, dd⟩ := st
    exact ⟨oi, e, fun v z => by rw [dd] at z; cases z⟩
  keep := fun i h h' st k => st.at fun oi e => k it (by simp) oi e
  item := by
    intro X hP hw hK hc i pins s σ H E I hf st hg
    subst hP hw hK
    obtain ⟨hd, hi⟩ := hg
    obtain ⟨f0, f1, f2, f3, f4, f5⟩ := hf it (by simp)
    obtain ⟨hs, hgd, hx, es', ep', hdt, hsz, ent⟩ := frzN I hd
    obtain ⟨rfl, rfl⟩ := dict_ep hod hdt
    obtain ⟨r, hr⟩ : ∃ r, rows[i]? = some r := ⟨rows[i], List.getElem?_eq_getElem hi⟩
    obtain ⟨en, hen, hkey⟩ := ent i r hr
    refine next_key_item st hgd hdt hsz hen fun h' st' sb => ?_
    have I1 : L2.Inv X pins σ H { s with heap := h' } := I.turned (t' := s.toks) (fun b ob hb e => (sb.2 b hb).trans e) f0 f1 f3 f4 f5
    obtain ⟨oi, e, c, dd⟩ := id st'
    exact ⟨en.key, rfl, go_of (s := { s with heap := h' }) e c dd (by decide) ⟨.ref r.2.1, H, I1, hkey, ⟨rfl, r, hr, rfl⟩, st', fun b hb => (hf b hb).1⟩⟩
  done := by
    intro X hP hw hK hc i pins s σ H E I hf st hg
    subst hP hw hK
    obtain ⟨hd, hi⟩ := hg
    obtain ⟨f0, f1, f2, f3, f4, f5⟩ := hf it (by simp)
    obtain ⟨hs, hgd, hx, es', ep', hdt, hsz, ent⟩ := frzN I hd
    obtain ⟨rfl, rfl⟩ := dict_ep hod hdt
    exact next_key_end (I.ok.hd hc) st hgd hdt hsz hi fun h' eb => ⟨rfl, I.turned (t' := s.toks) (fun b ob hb e => eb b ob hb e) f0 f1 f3 f4 f5⟩
  self := fun A i s Q E st h => by
    refine wpAny_pyIter_slot st.typeIs F.slot_dict_keyiterator_iter (wpAny_call_entry F.slot_dict_keyiterator_iter st.typeIs F.entry_dict_keyiterator_iter ?_ (F.args_dict_keyiterator_iter_1 _))
    show wpAny _ _ (ret (.ref it)) _ _ s
    exact wpAny_pure ⟨_, rfl, "dict_keyiterator", _, st.typeIs, F.slot_dict_keyiterator_next.lookup, h⟩
def iKeysN (P : Program) (w : World) (td : TE) : TI := fun σ H R => td σ H fun x H1 => ∃ d o rows, x = .ref d ∧ H1 d = some (.frz o (dnO P w d rows)) ∧ R (Itn P w d o rows) H1
theorem pi_keysN {X : Cx} {tg e : Expr} {td : TE} (he : PE X e td) : PI X tg e (iKeysN X.prog X.w td) := by
  refine ⟨fun pins s σ H R I h => ?_⟩
  refine thn (he.run pins s σ H _ I h) fun u s1 ⟨x, H1, I1, rx, d, o, rows, ex, hd, q⟩ => ?_
  subst ex
  obtain rfl : u = Value.ref d := rx
  obtain ⟨hs, hgd, hx, es, ep, hdt, hsz, ent⟩ := frzN I1 hd
  refine iter_keys hs hgd hx hdt (pi_one (tk := s1.toks) I1 _ (turn_keysN _ hdt) ⟨_, Heap.get?_push_size _ rfl, rfl, ?_⟩ q)
  rw [hsz] <;> rfl
theorem walk_keysN {P : Program} {w : World} {d : Addr} {o : Obj} {rows : NRows} : Walk (Itn P w d o rows) rows.length (fun H => H d = some (.frz o (dnO P w d rows))) (fun i H x H' => H' = H ∧ ∃ r : NRow, rows[i]? = some r ∧ x = .ref r.2.1) :=
  ⟨fun _ _ hi q => ⟨q, hi⟩, fun _ q => ⟨q, Nat.le_refl _⟩, fun _ _ _ _ _ _ y => y⟩
end My

set_option Elab.async false
set_option maxRecDepth 100000
set_option maxHeartbeats 4000000
set_option linter.all false
/-! A dict comprehension whose keys are tuples; the keys of a new dict, walked. -/
namespace My
open PySem PySem.Spec PyProof.Rows L2
/-- what a turn writes: the key is a tuple -/
def wrN (P : Program) (w : World) (K : PySem.W.Frag) (D : Addr) (y z : V) (H : Hp) (Nx : Hp → Prop) : Prop := ∃ (b : Addr) (k : NK) (xs : NRows), y = .ref b ∧ Dp K H (.ref b) k.data ∧ k.depth ≤ 8 ∧ DN P w K H D xs ∧ xs.length < sizeLine ∧ Nx (upd H D (dnO P w D (putN xs k b z)))
theorem putN_len (xs : NRows) (k : NK) (b : Addr) (v : V) : (putN xs k b v).length ≤ xs.length + 1 := by
  unfold putN
  split
  · rw [List.length_map]; omega
  · rw [List.length_append]; exact Nat.le_refl _
section
variable {X : Cx} {pins : List (Addr × Obj)} {σ : L2.St} {H : Hp} {s : Shared}
theorem wr_N {E : Value → Shared → Prop} {D : Addr} {y z : V} {u r : Value} {Nx : Hp → Prop} {Q : Unit → Shared → Prop} (hu : X.A.units + 64 < cLine) (I : Inv X pins σ H s) (ry : RelV y u) (rz : RelV z r) (w : wrN X.prog X.w X.K D y z H Nx)
    (h : ∀ H' s', Inv X pins σ H' s' → Nx H' → Q () s') : wpAny (model X.prog X.w) X.A (dictSet D u r) Q E s := by
  obtain ⟨b, k, xs, rfl, hk, h8, dn, hl, nx⟩ := w
  cases ry
  obtain ⟨hd, vs, rel, dd⟩ := dn_of I dn
  have hz : vs.length ≤ sizeLine := by rw [← Paired.length rel]; omega
  have mu : Mut (H D) := by rcases dn.at_ with e | ⟨_, e⟩ <;> rw [e] <;> exact True.intro
  have e := (nrel_val (k := k) rel).isSome_eq
  rw [Option.isSome_map] at e
  refine wpAny_dictSet_heap (knd := nestedKind X.prog X.w) (k := k) (hsz := hz) (by show X.A.units + 8 < cLine; omega) ⟨dp_nested I k _ _ hk rfl, h8⟩ dd fun h' dd' hs => ?_
  have key : ∃ ys, h'.DictOfH (nestedKind X.prog X.w) D ys ∧ Paired NRel (putN xs k b z) ys := by
    unfold putN
    cases hp : PySem.atKey vs k with
    | none =>
      rw [hp] at e
      rw [storedH_new hp] at dd'
      rw [if_neg (by rw [e]; exact Bool.false_ne_true)]
      exact ⟨_, dd', Paired.snoc rel ⟨rfl, rfl, rz⟩⟩
    | some p =>
      rw [hp] at e
      rw [storedH_old hp] at dd'
      rw [if_pos (by rw [e]; rfl)]
      exact ⟨_, dd', nrel_put rz rel⟩
  obtain ⟨ys, ⟨o, es, ep, h1, h2, h3, h4, _, h5⟩, rl⟩ := key
  exact h _ _ (d_write I mu hs ⟨o, h1⟩ (dnO_ok ⟨hd, ys, rl, o, es, ep, h1, h2, h3, h4, h5⟩)) nx
theorem dn_empty {P : Program} {w : World} {H : Hp} (h : Heap) (hb : sysModules < h.objs.size) : ObjOk P w H (h.push { cls := .type "dict", data := .dict #[] }) h.objs.size (dnO P w h.objs.size []) :=
  dnO_ok ⟨beq_eq_false_iff_ne.mpr (Ne.symm (Nat.ne_of_lt hb)), [], .nil, _, #[], 0, Heap.get?_push_size _ rfl, ⟨rfl, rfl, rfl⟩, rfl, rfl, List.nodup_nil⟩
end
section
variable {X : Cx}
/-- {k: v for target in iter if ..}, the keys tuples -/
def tDcN (P : Program) (w : World) (K : PySem.W.Frag) (wi : TI) (g : TG) (tt : TT) (tk tv : TE) (vs : List Nat) : TE := fun σ H Q => wi σ H fun J H1 => ∀ D, H1 D = none → ∃ W : Nat → Nat → Hp → Prop, (∃ m, W 0 m (upd H1 D (dnO P w D []))) ∧ ∀ i m H, W i m H →
  (J.stop i H ∧ Q (.ref D) H) ∨ (J.go i H ∧ ∃ Nx : Hp → Prop, (∀ H', Nx H' → ∃ m', m' < m ∧ W (i + 1) m' H') ∧ ∀ x H', J.yld i H x H' → g x (wipe σ vs) H' fun σ2 H2 => wipe σ2 vs = wipe σ vs ∧ tt σ2 H2 fun b H3 =>
    if b = true then tk σ2 H3 fun y H4 => tv σ2 H4 fun z H5 => wrN P w K D y z H5 Nx else Nx H3)
theorem pe_dcN {kx vx tg iter : Expr} {ifs : List Expr} {scope : Scope} {own : List (Str × Nat)} {pos : Pos} {wi : TI} {g : TG} {tt : TT} {tk tv : TE} (hu : X.A.units + 65 < cLine) (hc : X.calm = true) (hN : X.N.Nodup) (hi : PI X tg iter wi) (ok : BlkOk X.N X.env.scope scope own)
    (hg : ∀ (s : Shared) (H : Hp) (C : Addr) (cl : List (Str × Addr)) (fp : List Addr), PG (X.blk s H scope (compEnvC scope cl C X.env) fp) tg g) (ht : ∀ (s : Shared) (H : Hp) (C : Addr) (cl : List (Str × Addr)) (fp : List Addr), PTs (X.blk s H scope (compEnvC scope cl C X.env) fp) ifs tt)
    (hk : ∀ (s : Shared) (H : Hp) (C : Addr) (cl : List (Str × Addr)) (fp : List Addr), PE (X.blk s H scope (compEnvC scope cl C X.env) fp) kx tk)
    (he : ∀ (s : Shared) (H : Hp) (C : Addr) (cl : List (Str × Addr)) (fp : List Addr), PE (X.blk s H scope (compEnvC scope cl C X.env) fp) vx tv) (hs : ∀ x, foldedSetIterable iter X.env x = pure x := by intro _; rfl) :
    PE X (.DictComp kx vx [⟨tg, iter, ifs, 0⟩] scope pos) (tDcN X.prog X.w X.K wi g tt tk tv (own.map (·.2))) := by
  refine ⟨fun pins s σ H Q I h => ?_⟩
  rw [arm_eval_DictComp]
  have hfree : ∀ y ∈ scope.names, y.2 = .free → ∃ c, X.env.cells.lookup y.1 = some c := fun y hy e => (ok.free y hy e).elim (fun k => I.ok.has _ (.inl k)) fun k => I.ok.has _ (.inr k)
  refine wpAny_comprehension_free (use := none) rfl hs (closure_ok hfree) ok.kind (fun y hy e => by rw [ok.uniq y hy, e]) (thn (hi.run pins s σ H _ I h) fun xv s1 hx => thn hx fun itv s2 ⟨it, fp, tn, J, H2, e, I2, T, st2, f2, q⟩ => ?_)
  subst e
  refine wpAny_newObj_type (newEnv_comp ?_)
  obtain ⟨D, hD⟩ : ∃ D, D = s2.heap.objs.size := ⟨_, rfl⟩
  rw [← hD]
  have hDn : H2 D = none := I2.hok.fresh (Nat.le_of_eq hD.symm)
  obtain ⟨W, ⟨m0, w0⟩, turn⟩ := q D hDn
  obtain ⟨s3, hs3⟩ : ∃ s3 : Shared, s3 = { s2 with heap := s2.heap.push { cls := .type "dict", data := .dict #[] } } := ⟨_, rfl⟩
  obtain ⟨H3, hH3⟩ : ∃ H3, H3 = upd H2 D (dnO X.prog X.w D []) := ⟨_, rfl⟩
  have I3 : Inv X pins σ H3 s3 := by
    rw [hs3, hH3]
    refine I2.laid (t' := s2.toks) (fun b o e => Heap.get?_push_of_some _ e) (Nat.le_of_eq hD.symm) ?_
    rw [hD]
    exact dn_empty s2.heap I2.big
  have h3 : s3.heap = s2.heap.push { cls := .type "dict", data := .dict #[] } := by rw [hs3]
  have f3 : ∀ b ∈ fp, FpOk X pins H3 b ∧ b < s3.heap.objs.size := fun b hb => by
    obtain ⟨o, e, _⟩ := T.obj _ _ st2 b hb
    have hlt := Heap.lt_size e
    refine ⟨⟨?_, (f2 b hb).2⟩, by rw [h3, Heap.size_push]; exact Nat.lt_succ_of_lt hlt⟩
    rw [hH3, upd_ne (by rw [hD]; exact Nat.ne_of_lt hlt)]
    exact (f2 b hb).1
  have st3 : tn 0 s3.heap := T.keep _ _ _ st2 fun b _ o e => by rw [h3]; exact Heap.get?_push_of_some _ e
  have I4 := block_start I3 ok hN f3
  have pg := hg s3 H3 s3.heap.objs.size (cellsFrom (s3.heap.objs.size + 1) scope.names (cloFrom X.env.cells scope.names [])) fp
  have pt := ht s3 H3 s3.heap.objs.size (cellsFrom (s3.heap.objs.size + 1) scope.names (cloFrom X.env.cells scope.names [])) fp
  have pk := hk s3 H3 s3.heap.objs.size (cellsFrom (s3.heap.objs.size + 1) scope.names (cloFrom X.env.cells scope.names [])) fp
  have pe := he s3 H3 s3.heap.objs.size (cellsFrom (s3.heap.objs.size + 1) scope.names (cloFrom X.env.cells scope.names [])) fp
  rw [← hH3] at w0
  have h3' : s2.heap.push { cls := .type "dict", data := .dict #[] } = s3.heap := h3.symm
  subst hs3
  obtain ⟨s3, hs3⟩ : ∃ s3 : Shared, s3 = { s2 with heap := s2.heap.push { cls := .type "dict", data := .dict #[] } } := ⟨_, rfl⟩
  rw [← hs3] at I3 I4 f3 st3 pg pt pk pe
  show codeAny _ _ (.compStart (.DictComp kx vx [⟨tg, iter, ifs, 0⟩] scope pos) 0 (.ref it) (.ref D) (compEnvC scope (cellsFrom ((s2.heap.push { cls := .type "dict", data := .dict #[] }).objs.size + 1) scope.names (cloFrom X.env.cells scope.names [])) (s2.heap.push { cls := .type "dict", data := .dict #[] }).objs.size X.env)) (compPost (model X.prog X.w) X.A X.xe none _ (.ref D) (s2.heap.push { cls := .type "dict", data := .dict #[] }).objs.size) { s2 with heap := pushCells ((s2.heap.push { cls := .type "dict", data := .dict #[] }).push { cls := .type "dict", data := .dict #[] }) scope.names }
  have e3 : (s2.heap.push { cls := .type "dict", data := .dict #[] }) = s3.heap := by rw [hs3]
  rw [e3]
  obtain ⟨s4, hs4⟩ : ∃ s4 : Shared, s4 = { s3 with heap := pushCells (s3.heap.push { cls := .type "dict", data := .dict #[] }) scope.names } := ⟨_, rfl⟩
  have hs4' : ({ s2 with heap := pushCells (s3.heap.push { cls := .type "dict", data := .dict #[] }) scope.names } : Shared) = s4 := by rw [hs4, hs3]
  rw [hs4']
  rw [← hs4] at I4
  have nfp : ∀ b ∈ fp, H3 b = none := fun b hb => (f3 b hb).1.1
  obtain ⟨ce, hce⟩ : ∃ ce, ce = compEnvC scope (cellsFrom (s3.heap.objs.size + 1) scope.names (cloFrom X.env.cells scope.names [])) s3.heap.objs.size X.env := ⟨_, rfl⟩
  rw [← hce] at I4 pg pt pk pe ⊢
  have cL : ce.locals = s3.heap.objs.size := by rw [hce]; rfl
  have st4 : tn 0 s4.heap := T.keep _ _ _ st3 fun b _ o e => by rw [hs4]; exact pushCells_keeps _ _ _ _ (Heap.get?_push_of_some _ e)
  have fpk : ∀ {σ' : L2.St} {H' : Hp} {s' : Shared}, Inv (X.blk s3 H3 scope ce fp) [] σ' H' s' → (∀ b ∈ fp, H' b = none) → ∀ b ∈ fp, FpOk (X.blk s3 H3 scope ce fp) [] H' b := fun {σ' H' s'} I' hn b hb =>
    ⟨hn b hb, (I'.ok.exf b hb).1, I'.ok.exfs b hb, .inl hb, fun x c e => (I'.ok.exf b hb).2 x c e, fun p hp => absurd (show p ∈ ([] : List (Addr × Obj)) ++ [] from hp) (by simp)⟩
  refine codeAny_compStart_dict ?loop (T.self X.A 0 _ _ _ st4 ?loop)
  refine compLoop_anyD (fun n s' => ∃ i H', Inv (X.blk s3 H3 scope ce fp) [] (wipe σ (own.map (·.2))) H' s' ∧ tn i s'.heap ∧ (∀ b ∈ fp, H' b = none) ∧ W i n H') ?_ m0 ⟨0, H3, I4, st4, nfp, w0⟩
  rintro n s5 ⟨i, H5, I5, st5, n5, w5⟩
  rcases turn i n H5 w5 with ⟨stop, qq⟩ | ⟨go, Nx, hNx, step⟩
  · refine thnF (T.done (X.blk s3 H3 scope ce fp) rfl rfl rfl hc i [] s5 _ H5 (fun _ _ => False) I5 (fpk I5 n5) st5 stop) fun r s6 ⟨hr, I6⟩ => ?_
    subst hr
    have I7 : Inv X pins σ H5 s6 := I3.call' (ch := fp) I6.os I6.base I6.hok I6.bare fun b hb => ⟨(f3 b hb).1.2.2.2.1, (f3 b hb).1.2.1, (f3 b hb).1.2.2.2.2.1, (f3 b hb).1.2.2.2.2.2⟩
    have nC : H5 s3.heap.objs.size = none := by
      rw [← cL]
      exact I6.free
    obtain ⟨m, hn, _⟩ := I6.loc
    have hn : s6.heap.Ns ce.locals m := hn
    rw [cL] at hn
    obtain ⟨f0, f1, f2', f3', f4, f5⟩ := I3.fpOk (Nat.le_refl _) nC
    refine ⟨m, hn, fun h'' sb => ?_⟩
    exact ⟨.ref D, H5, I7.turned (t' := s6.toks) (fun b o hb e => (sb.2 b hb).trans e) f0 f1 f3' f4 f5, rfl, qq⟩
  · refine thnF (T.item (X.blk s3 H3 scope ce fp) rfl rfl rfl hc i [] s5 _ H5 (fun _ _ => False) I5 (fpk I5 n5) st5 go) fun r s6 ⟨u, hr, h6⟩ => ?_
    subst hr
    refine thnF h6 fun _ s7 ⟨x, H7, I7, r7, y7, st7, n7⟩ => ?_
    have I7' := I7.pinned (fpk I7 n7) (T.obj _ _ st7)
    refine thnF (pg.run _ s7 _ H7 x u _ I7' r7 (step x H7 y7)) fun _ s8 ⟨σ8, H8, I8, hw8, q8⟩ => ?_
    refine thnF (pt.run _ s8 σ8 H8 _ I8 q8) fun b s9 ⟨H9, I9, q9⟩ => ?_
    have fin : ∀ {s' : Shared} {H' : Hp}, Inv (X.blk s3 H3 scope ce fp) ([] ++ pinsAt fp s7.heap) σ8 H' s' → Nx H' → ∃ m, m < n ∧ ∃ i H', Inv (X.blk s3 H3 scope ce fp) [] (wipe σ (own.map (·.2))) H' s' ∧ tn i s'.heap ∧ (∀ b ∈ fp, H' b = none) ∧ W i m H' := fun {s' H'} I' nx => by
      obtain ⟨m', hm, w'⟩ := hNx H' nx
      have pin' : ∀ b ∈ fp, ∀ o, s7.heap.get? b = some o → s'.heap.get? b = some o ∧ H' b = none := fun b hb o e =>
        ⟨(I'.pin (b, o) (List.mem_append_right _ (List.mem_append_right _ (mem_pinsAt hb e)))).1, (I'.pin (b, o) (List.mem_append_right _ (List.mem_append_right _ (mem_pinsAt hb e)))).2.1⟩
      refine ⟨m', hm, i + 1, H', (I'.unpinned (pins := [])).weak (by rw [← hw8, wipe_length]) (fun j v e => ?_), T.keep _ _ _ st7 fun b hb o e => (pin' b hb o e).1, fun b hb => ?_, w'⟩
      · rw [← hw8] at e
        exact (wipe_some e).1
      · obtain ⟨o, e, _⟩ := T.obj _ _ st7 b hb
        exact (pin' b hb o e).2
    cases b with
    | false =>
      rw [if_neg Bool.false_ne_true] at q9 ⊢
      exact fin I9 q9
    | true =>
      rw [if_pos rfl] at q9 ⊢
      refine thnF (pk.run _ s9 σ8 H9 _ I9 q9) fun z s10 ⟨yk, H10, I10, r10, q10⟩ => ?_
      refine thnF (pe.run _ s10 σ8 H10 _ I10 q10) fun z2 s11 ⟨yv, H11, I11, r11, nx⟩ => ?_
      exact wr_N (X := X.blk s3 H3 scope ce fp) (by show X.A.units + 64 < cLine; omega) I11 r10 r11 nx fun H12 s12 I12 n12 => fin I12 n12
/-- over whatever is walked -/
theorem dc_itN {P : Program} {w : World} {K : PySem.W.Frag} {J : It} {n : Nat} {G : Hp → Prop} {Y : Nat → Hp → V → Hp → Prop} (wk : Walk J n G Y) {g : TG} {tt : TT} {tk tv : TE} {vs : List Nat} {σ : L2.St} {H1 : Hp} {D : Addr} {Qd : Hp → Prop} (Pv : Nat → Hp → Prop) (h0 : Pv 0 (upd H1 D (dnO P w D []))) (hG : ∀ i H, i ≤ n → Pv i H → G H)
    (hs : ∀ i x H H', i < n → Pv i H → Y i H x H' → g x (wipe σ vs) H' fun σ2 H2 => wipe σ2 vs = wipe σ vs ∧ tt σ2 H2 fun b H3 =>
      if b = true then tk σ2 H3 fun y H4 => tv σ2 H4 fun z H5 => wrN P w K D y z H5 (Pv (i + 1)) else Pv (i + 1) H3) (hd : ∀ H, Pv n H → Qd H) :
    ∃ W : Nat → Nat → Hp → Prop, (∃ m, W 0 m (upd H1 D (dnO P w D []))) ∧ ∀ i m H, W i m H →
      (J.stop i H ∧ Qd H) ∨ (J.go i H ∧ ∃ Nx : Hp → Prop, (∀ H', Nx H' → ∃ m', m' < m ∧ W (i + 1) m' H') ∧ ∀ x H', J.yld i H x H' → g x (wipe σ vs) H' fun σ2 H2 => wipe σ2 vs = wipe σ vs ∧ tt σ2 H2 fun b H3 =>
        if b = true then tk σ2 H3 fun y H4 => tv σ2 H4 fun z H5 => wrN P w K D y z H5 Nx else Nx H3) := by
  refine ⟨fun i m H => m = n - i ∧ i ≤ n ∧ Pv i H, ⟨n, by omega, Nat.zero_le _, h0⟩, ?_⟩
  rintro i m H ⟨rfl, hi, p⟩
  have q := hG i H hi p
  rcases Nat.lt_or_ge i n with hlt | hge
  · exact .inr ⟨wk.goes i H hlt q, Pv (i + 1), fun H' p' => ⟨n - (i + 1), by omega, rfl, hlt, p'⟩, fun x H' y => hs i x H H' hlt p (wk.yields i H x H' hlt q y)⟩
  · obtain rfl : i = n := by omega
    exact .inl ⟨wk.stops H q, hd H p⟩
/-- the keys of a dict that nobody else has: it stays locked -/
def iKeysNew (P : Program) (w : World) (td : TE) : TI := fun σ H R => td σ H fun x H1 => ∃ d rows, x = .ref d ∧ H1 d = some (dnO P w d rows) ∧ ∀ o, R (Itn P w d o rows) (upd H1 d (.frz o (dnO P w d rows)))
theorem pi_keysNew {tg e : Expr} {td : TE} (he : PE X e td) : PI X tg e (iKeysNew X.prog X.w td) := by
  refine ⟨fun pins s σ H R I h => ?_⟩
  refine thn (he.run pins s σ H _ I h) fun u s1 ⟨x, H1, I1, rx, d, rows, ex, hd, q⟩ => ?_
  subst ex
  obtain rfl : u = Value.ref d := rx
  obtain ⟨od, I2⟩ := I1.lock hd (by exact True.intro)
  have q := q od
  have hd2 : upd H1 d (.frz od (dnO X.prog X.w d rows)) d = some (.frz od (dnO X.prog X.w d rows)) := upd_same
  obtain ⟨hs, hgd, hx, es, ep, hdt, hsz, ent⟩ := frzN I2 hd2
  refine iter_keys hs hgd hx hdt (pi_one (tk := s1.toks) I2 _ (turn_keysN _ hdt) ⟨_, Heap.get?_push_size _ rfl, rfl, ?_⟩ q)
  rw [hsz] <;> rfl
end
end My

set_option Elab.async false
set_option maxRecDepth 100000
set_option maxHeartbeats 4000000
set_option linter.all false
/-! Pools in the heap. -/
namespace My
open PySem PySem.Spec PyProof.Rows L2
/-! ### all but some things stays -/
def But (A : List Addr) (H H' : Hp) : Prop := ∀ b o, b ∉ A → H b = some o → H' b = some o
theorem But.refl (A : List Addr) (H : Hp) : But A H H := fun _ _ _ h => h
theorem But.trans {A : List Addr} {H H' H'' : Hp} (h : But A H H') (k : But A H' H'') : But A H H'' := fun b o n e => k b o n (h b o n e)
theorem But.wide {A B : List Addr} {H H' : Hp} (h : But A H H') (s : ∀ a ∈ A, a ∈ B) : But B H H' := fun b o n e => h b o (fun m => n (s b m)) e
theorem But.of_same {A : List Addr} {H H' : Hp} (h : Same H H') : But A H H' := fun b o _ e => h b o e
theorem But.of_hide {d : Addr} {H H' : Hp} (h : Same (hide d H) (hide d H')) : But [d] H H' := fun b o n e => hide_le _ _ (h b o (hide_in e fun z => n (by rw [z]; exact List.mem_singleton_self d)))
theorem But.to_hide {d : Addr} {H H' : Hp} (h : But [d] H H') : Same (hide d H) (hide d H') := fun b o e => by
  obtain ⟨h1, h2⟩ := hide_some e
  exact hide_in (h b o (fun m => h1 (List.mem_singleton.mp m)) h2) h1
theorem But.new {A : List Addr} {H : Hp} {p : Addr} (h : H p = none) (o : HO) : But A H (upd H p o) := .of_same (same_new h o)
theorem But.put {A : List Addr} {H : Hp} {p : Addr} (h : p ∈ A) (o : HO) : But A H (upd H p o) := fun b u n e => by
  rw [upd_ne fun z => n (by rw [z]; exact h)]
  exact e
theorem sqt_but {K : PySem.W.Frag} {A : List Addr} {H H' : Hp} (hA : ∀ a ∈ A, Mut (H a)) (hb : But A H H') {a : Addr} {xs : List V} (h : SqT K H a xs) : SqT K H' a xs := by
  rcases h with (h | ⟨o, h⟩) | h
  · refine .inl (.inl (hb a _ (fun m => ?_) h))
    have := hA a m
    rw [h] at this
    exact this
  · refine .inl (.inr ⟨o, hb a _ (fun m => ?_) h⟩)
    have := hA a m
    rw [h] at this
    exact this
  · exact .inr h
mutual
theorem dp_but {K : PySem.W.Frag} {A : List Addr} {H H' : Hp} (hA : ∀ a ∈ A, Mut (H a)) (hb : But A H H') : ∀ (d : PyData) {v : V}, noLst d = true → Dp K H v d → Dp K H' v d
  | .none, _, _, .non => .non
  | .bool _, _, _, .bl b => .bl b
  | .int _, _, _, .int i => .int i
  | .str _, _, _, .str x => .str x
  | .list ds, _, n, _ => by cases (show false = true from n)
  | .tuple ds, _, n, .tup h hs => .tup (sqt_but hA hb h) (dpa_but hA hb ds n hs)
  | .dict _, _, _, h => by cases h
theorem dpa_but {K : PySem.W.Frag} {A : List Addr} {H H' : Hp} (hA : ∀ a ∈ A, Mut (H a)) (hb : But A H H') : ∀ (ds : List PyData) {vs : List V}, noLsts ds = true → DpAll K H vs ds → DpAll K H' vs ds
  | [], _, _, .nil => .nil
  | d :: ds, _, n, .cons h hs => by
    have n' := Bool.and_eq_true_iff.mp (show (noLst d && noLsts ds) = true from n)
    exact .cons (dp_but hA hb d n'.1 h) (dpa_but hA hb ds n'.2 hs)
end
mutual
theorem nk_noLst : ∀ k : NK, noLst k.data = true
  | .none => rfl
  | .num _ => rfl
  | .text _ => rfl
  | .tup ks => nks_noLst ks
theorem nks_noLst : ∀ ks : List NK, noLsts (NestedKey.datas ks) = true
  | [] => rfl
  | k :: ks => by
    show (noLst k.data && noLsts (NestedKey.datas ks)) = true
    rw [nk_noLst k, nks_noLst ks]
    rfl
end
/-! ### the class, a pool -/
structure PlK (K : PySem.W.Frag) (C : Addr) : Prop where
  cls : L2.Cls K C
  g : L2.NoAttr K C "gates"
  l : L2.NoAttr K C "literals"
def plFs (G D : Addr) : List (Str × V) := putF "literals" (.ref D) (putF "gates" (.ref G) [])
theorem plFs_g (G D : Addr) : (plFs G D).lookup ("gates" : Str) = some (.ref G) := by
  unfold plFs
  rw [lookup_putF, if_neg (by decide +kernel), lookup_putF, if_pos rfl]
theorem plFs_l (G D : Addr) : (plFs G D).lookup ("literals" : Str) = some (.ref D) := by
  unfold plFs
  rw [lookup_putF, if_pos rfl]
theorem plFs_no (G D : Addr) {m : Str} (h1 : ¬ m = "literals") (h2 : ¬ m = "gates") : (plFs G D).lookup m = none := by
  unfold plFs
  rw [lookup_putF, if_neg h1, lookup_putF, if_neg h2]
  rfl
/-- the literals' rows from gate i on -/
def plRows : Nat → List Gt → List Addr → NRows
  | i, g :: gs, t :: ts => (g.nk, t, .int (2 * (i : Int))) :: plRows (i + 1) gs ts
  | _, _, _ => []
theorem plRows_snoc {g : Gt} {t : Addr} : ∀ {i : Nat} {gs : List Gt} {ts : List Addr}, gs.length = ts.length → plRows i (gs ++ [g]) (ts ++ [t]) = plRows i gs ts ++ [(g.nk, t, .int (2 * ((i + gs.length : Nat) : Int)))]
  | i, [], [], _ => rfl
  | i, g' :: gs, t' :: ts, h => by
    show (g'.nk, t', V.int (2 * (i : Int))) :: plRows (i + 1) (gs ++ [g]) (ts ++ [t]) = _
    rw [plRows_snoc (by simpa using h), show i + 1 + gs.length = i + (g' :: gs).length by simp; omega]
    rfl
theorem plRows_len : ∀ {i : Nat} {gs : List Gt} {ts : List Addr}, gs.length = ts.length → (plRows i gs ts).length = gs.length
  | i, [], [], _ => rfl
  | i, g' :: gs, t' :: ts, h => by
    show (plRows (i + 1) gs ts).length + 1 = gs.length + 1
    rw [plRows_len (by simpa using h)]
theorem plRows_mem {x : NRow} : ∀ {i : Nat} {gs : List Gt} {ts : List Addr}, x ∈ plRows i gs ts → ∃ (j : Nat) (g : Gt), gs[j]? = some g ∧ ts[j]? = some x.2.1 ∧ x.1 = g.nk ∧ x.2.2 = .int (2 * ((i + j : Nat) : Int))
  | i, [], _, h => by cases h
  | i, _ :: _, [], h => by cases h
  | i, g :: gs, t :: ts, h => by
    rcases List.mem_cons.mp (show x ∈ (g.nk, t, V.int (2 * (i : Int))) :: plRows (i + 1) gs ts from h) with e | h
    · rw [e]
      exact ⟨0, g, rfl, rfl, rfl, rfl⟩
    · obtain ⟨j, g', h1, h2, h3, h4⟩ := plRows_mem h
      exact ⟨j + 1, g', by rw [List.getElem?_cons_succ]; exact h1, by rw [List.getElem?_cons_succ]; exact h2, h3, by rw [h4, show i + 1 + j = i + (j + 1) by omega]⟩
theorem plRows_has {g : Gt} : ∀ {i j : Nat} {gs : List Gt} {ts : List Addr}, gs.length = ts.length → gs[j]? = some g → ∃ x ∈ plRows i gs ts, x.1 = g.nk
  | i, j, [], _, _, h => by simp at h
  | i, j, _ :: _, [], h, _ => by simp at h
  | i, 0, g' :: gs, t :: ts, h, e => by
    rw [List.getElem?_cons_zero] at e
    cases e
    exact ⟨_, .head _, rfl⟩
  | i, j + 1, g' :: gs, t :: ts, h, e => by
    rw [List.getElem?_cons_succ] at e
    obtain ⟨x, h1, h2⟩ := plRows_has (i := i + 1) (gs := gs) (ts := ts) (by simpa using h) e
    exact ⟨x, .tail _ h1, h2⟩
def drop1 (gs : List Gt) (ts : List Addr) : NRows := plRows 1 (gs.drop 1) (ts.drop 1)
theorem Gt.nk_inj : ∀ {a b : Gt}, a.nk = b.nk → a = b := by
  intro a b h
  cases a <;> cases b <;> simp only [Gt.nk, NestedKey.tup.injEq, List.cons.injEq, NestedKey.text.injEq, NestedKey.num.injEq, and_true, reduceCtorEq, and_false, false_and, true_and] at h <;> first
    | rfl
    | (exfalso; revert h; decide +kernel)
    | (exfalso; exact absurd h.1 (by decide +kernel))
    | (obtain ⟨rfl, rfl, rfl⟩ := h; rfl)
    | (obtain ⟨rfl, rfl⟩ := h; rfl)
    | (subst h; rfl)
structure PoolAt (P : Program) (w : World) (K : PySem.W.Frag) (H : Hp) (C p G D : Addr) (gs : List Gt) : Prop where
  cl : PlK K C
  ok : okGs gs
  nd : (gs.map Gt.nk).Nodup
  len : gs.length ≤ 100000
  nm : ∀ n, Gt.bit n ∈ gs → ∃ ks, n = NestedKey.tup ks
  at_ : ∃ (dx : Addr) (ts : List Addr), H p = some (.ins C dx (plFs G D)) ∧ H G = some (.lst (ts.map V.ref)) ∧ ts.length = gs.length ∧ (∀ (i : Nat) (g : Gt) (t : Addr), gs[i]? = some g → ts[i]? = some t → Dp K H (.ref t) g.nk.data ∧ g.nk.depth ≤ 8) ∧ (H D = some (dnO P w D (drop1 gs ts)) ∨ (drop1 gs ts = [] ∧ H D = some (.dK [])))
section
variable {P : Program} {w : World} {K : PySem.W.Frag} {H H' : Hp} {C p G D : Addr} {gs : List Gt}
theorem PoolAt.mut (A : PoolAt P w K H C p G D gs) : ∀ a ∈ [G, D], Mut (H a) := by
  obtain ⟨dx, ts, h1, h2, h3, h4, h5⟩ := A.at_
  intro a ha
  rcases List.mem_cons.mp ha with e | ha
  · rw [e, h2]; exact True.intro
  · rw [List.mem_singleton.mp ha]
    rcases h5 with e | ⟨_, e⟩ <;> rw [e] <;> exact True.intro
theorem PoolAt.dn (A : PoolAt P w K H C p G D gs) {dx : Addr} {ts : List Addr} (h3 : ts.length = gs.length) (h4 : ∀ (i : Nat) (g : Gt) (t : Addr), gs[i]? = some g → ts[i]? = some t → Dp K H (.ref t) g.nk.data ∧ g.nk.depth ≤ 8) (h5 : H D = some (dnO P w D (drop1 gs ts)) ∨ (drop1 gs ts = [] ∧ H D = some (.dK []))) : DN P w K H D (drop1 gs ts) := by
  refine ⟨h5, ?_, fun x hx => ?_⟩
  · unfold drop1
    rw [plRows_len (by rw [List.length_drop, List.length_drop, h3]), List.length_drop]
    have := A.len
    exact Nat.le_trans (by omega) (show 100000 ≤ sizeLine by decide)
  · obtain ⟨j, g, e1, e2, e3, e4⟩ := plRows_mem hx
    rw [List.getElem?_drop] at e1 e2
    rw [e3]
    exact h4 _ _ _ e1 e2
/-- a pool stays while other things change -/
theorem PoolAt.keep (A : PoolAt P w K H C p G D gs) {S : List Addr} (hS : ∀ a ∈ S, Mut (H a)) (hb : But S H H') (np : p ∉ S) (nG : G ∉ S) (nD : D ∉ S) : PoolAt P w K H' C p G D gs := by
  obtain ⟨dx, ts, h1, h2, h3, h4, h5⟩ := A.at_
  refine ⟨A.cl, A.ok, A.nd, A.len, A.nm, dx, ts, hb _ _ np h1, hb _ _ nG h2, h3, fun i g t e1 e2 => ?_, ?_⟩
  · obtain ⟨k1, k2⟩ := h4 i g t e1 e2
    exact ⟨dp_but hS hb _ (nk_noLst _) k1, k2⟩
  · rcases h5 with e | ⟨e0, e⟩
    · exact .inl (hb _ _ nD e)
    · exact .inr ⟨e0, hb _ _ nD e⟩
theorem PoolAt.same (A : PoolAt P w K H C p G D gs) (s : Same H H') : PoolAt P w K H' C p G D gs := A.keep (S := []) (fun _ h => nomatch h) (.of_same s) (fun h => nomatch h) (fun h => nomatch h) (fun h => nomatch h)
end
end My

set_option Elab.async false
set_option maxRecDepth 100000
set_option maxHeartbeats 4000000
set_option linter.all false
/-! A dict whose keys are items and whose values are lists that grow. -/
namespace My
open PySem PySem.Spec PyProof.Rows L2
theorem nat_few {ys : List Nat} {n : Nat} (nd : ys.Nodup) (h : ∀ y ∈ ys, y < n) : ys.length ≤ n := by
  have := List.Nodup.length_le_of_subset (l₂ := List.range n) nd fun y hy => List.mem_range.mpr (h y hy)
  rw [List.length_range] at this
  exact this
theorem DN.same60 {P : Program} {w : World} {K : PySem.W.Frag} {H H' : Hp} {B : Addr} {rows : NRows} (h : DN P w K H B rows) (s : Same H H') : DN P w K H' B rows :=
  ⟨h.at_.imp (fun e => s _ _ e) fun ⟨e1, e2⟩ => ⟨e1, s _ _ e2⟩, h.len, fun x hx => ⟨dp_mono s _ (h.keys x hx).1, (h.keys x hx).2⟩⟩
theorem DN.but60 {P : Program} {w : World} {K : PySem.W.Frag} {H H' : Hp} {A : List Addr} {B : Addr} {rows : NRows} (h : DN P w K H B rows) (hA : ∀ a ∈ A, Mut (H a)) (nB : B ∉ A) (b : But A H H') : DN P w K H' B rows :=
  ⟨h.at_.imp (fun e => b _ _ nB e) fun ⟨e1, e2⟩ => ⟨e1, b _ _ nB e2⟩, h.len, fun x hx => ⟨dp_but hA b _ (nk_noLst x.1) (h.keys x hx).1, (h.keys x hx).2⟩⟩
theorem DN.mut {P : Program} {w : World} {K : PySem.W.Frag} {H : Hp} {B : Addr} {rows : NRows} (h : DN P w K H B rows) : Mut (H B) := by
  rcases h.at_ with e | ⟨_, e⟩ <;> rw [e] <;> exact True.intro
/-! rows by rank -/
theorem valN_no {rs : List (Nat × Addr × V)} {r : Nat} (hr : r < 5) (h5 : ∀ x ∈ rs, x.1 < 5) (h : ∀ x ∈ rs, x.1 ≠ r) : valN (rs.map fun x => (itK x.1, x.2.1, x.2.2)) (itK r) = none := by
  unfold valN
  rw [Option.map_eq_none_iff, List.find?_eq_none]
  intro y hy
  obtain ⟨x, hx, rfl⟩ := List.mem_map.mp hy
  intro e
  have e : itK x.1 = itK r := of_decide_eq_true e
  exact h x hx ((it_inj _ (h5 x hx) _ hr).1 e)
theorem valN_yes {rs : List (Nat × Addr × V)} {r : Nat} (hr : r < 5) (h5 : ∀ x ∈ rs, x.1 < 5) {v : V} (h : valN (rs.map fun x => (itK x.1, x.2.1, x.2.2)) (itK r) = some v) : ∃ x ∈ rs, x.1 = r ∧ x.2.2 = v := by
  unfold valN at h
  obtain ⟨y, hy, rfl⟩ := Option.map_eq_some_iff.mp h
  have h1 := List.mem_of_find?_eq_some hy
  have h2 := List.find?_some hy
  obtain ⟨x, hx, rfl⟩ := List.mem_map.mp h1
  exact ⟨x, hx, (it_inj _ (h5 x hx) _ hr).1 (of_decide_eq_true h2), rfl⟩
/-! ### the numbers of each item -/
structure Nums (P : Program) (w : World) (K : PySem.W.Frag) (H0 H : Hp) (d : Addr) (rs : List (Nat × Addr × Addr)) (f : Nat → List Int) : Prop where
  dn : DN P w K H d (rs.map fun x => (itK x.1, x.2.1, V.ref x.2.2))
  r5 : ∀ x ∈ rs, x.1 < 5
  ne : ∀ x ∈ rs, f x.1 ≠ []
  ls : ∀ x ∈ rs, H x.2.2 = some (.lst ((f x.1).map V.int))
  all : ∀ r, r < 5 → f r ≠ [] → ∃ x ∈ rs, x.1 = r
  nd : rs.Pairwise fun x y => x.2.2 ≠ y.2.2
  ndr : (rs.map (·.1)).Nodup
  fr : ∀ x ∈ rs, H0 x.2.2 = none
  fd : H0 d = none
  sm : Same H0 H
theorem Nums.few {P : Program} {w : World} {K : PySem.W.Frag} {H0 H : Hp} {d : Addr} {rs : List (Nat × Addr × Addr)} {f : Nat → List Int} (N : Nums P w K H0 H d rs f) : rs.length ≤ 5 := by
  have := nat_few N.ndr fun y hy => by
    obtain ⟨x, hx, rfl⟩ := List.mem_map.mp hy
    exact N.r5 x hx
  rw [List.length_map] at this
  exact this
theorem Nums.start {P : Program} {w : World} {K : PySem.W.Frag} {H : Hp} {d : Addr} (h : H d = none) : Nums P w K H (upd H d (.dK [])) d [] (fun _ => []) :=
  ⟨⟨.inr ⟨rfl, upd_same⟩, Nat.zero_le _, fun x h => (by cases h)⟩, fun x h => (by cases h), fun x h => (by cases h), fun x h => (by cases h), fun r _ h => absurd rfl h, List.Pairwise.nil, List.nodup_nil, fun x h => (by cases h), h, same_new h _⟩
theorem Nums.same {P : Program} {w : World} {K : PySem.W.Frag} {H0 H H' : Hp} {d : Addr} {rs : List (Nat × Addr × Addr)} {f : Nat → List Int} (N : Nums P w K H0 H d rs f) (s : Same H H') : Nums P w K H0 H' d rs f :=
  ⟨N.dn.same60 s, N.r5, N.ne, fun x hx => s _ _ (N.ls x hx), N.all, N.nd, N.ndr, N.fr, N.fd, N.sm.trans s⟩
theorem Nums.but {P : Program} {w : World} {K : PySem.W.Frag} {H0 H H' : Hp} {d : Addr} {rs : List (Nat × Addr × Addr)} {f : Nat → List Int} {A : List Addr} (N : Nums P w K H0 H d rs f) (hA : ∀ a ∈ A, Mut (H a)) (hL : ∀ a ∈ A, ∀ ys, H a ≠ some (.lst ys)) (h0 : ∀ a ∈ A, H0 a = none) (nd : d ∉ A) (b : But A H H') : Nums P w K H0 H' d rs f :=
  ⟨N.dn.but60 hA nd b, N.r5, N.ne, fun x hx => b _ _ (fun m => hL _ m _ (N.ls x hx)) (N.ls x hx), N.all, N.nd, N.ndr, N.fr, N.fd, fun p o e => b _ _ (fun m => by rw [h0 p m] at e; cases e) (N.sm p o e)⟩
theorem Nums.ext {P : Program} {w : World} {K : PySem.W.Frag} {H0 H : Hp} {d : Addr} {rs : List (Nat × Addr × Addr)} {f g : Nat → List Int} (N : Nums P w K H0 H d rs f) (h : ∀ r, r < 5 → f r = g r) : Nums P w K H0 H d rs g :=
  ⟨N.dn, N.r5, fun x hx => by rw [← h _ (N.r5 x hx)]; exact N.ne x hx, fun x hx => by rw [← h _ (N.r5 x hx)]; exact N.ls x hx, fun r hr hf => N.all r hr (by rw [h r hr]; exact hf), N.nd, N.ndr, N.fr, N.fd, N.sm⟩
theorem Nums.notD {P : Program} {w : World} {K : PySem.W.Frag} {H0 H : Hp} {d : Addr} {rs : List (Nat × Addr × Addr)} {f : Nat → List Int} (N : Nums P w K H0 H d rs f) {x : Nat × Addr × Addr} (hx : x ∈ rs) : x.2.2 ≠ d := fun e => by
  have h1 := N.ls x hx
  rw [e] at h1
  rcases N.dn.at_ with z | ⟨_, z⟩
  · rw [h1] at z; cases z
  · rw [h1] at z; cases z
def addF (f : Nat → List Int) (r : Nat) (i : Int) : Nat → List Int := fun x => if x = r then f x ++ [i] else f x
/-- a number for an item that is there -/
theorem Nums.old {P : Program} {w : World} {K : PySem.W.Frag} {H0 H : Hp} {d : Addr} {rs : List (Nat × Addr × Addr)} {f : Nat → List Int} (N : Nums P w K H0 H d rs f) {x : Nat × Addr × Addr} (hx : x ∈ rs) (i : Int) :
    Nums P w K H0 (upd H x.2.2 (.lst ((f x.1).map V.int ++ [.int i]))) d rs (addF f x.1 i) := by
  have mt : ∀ a ∈ [x.2.2], Mut (H a) := fun a ha => by rw [List.mem_singleton.mp ha, N.ls x hx]; exact True.intro
  have b : But [x.2.2] H (upd H x.2.2 (.lst ((f x.1).map V.int ++ [.int i]))) := But.put (List.mem_singleton_self _) _
  refine ⟨N.dn.but60 mt (fun m => N.notD hx (List.mem_singleton.mp m).symm) b, N.r5, fun y hy => ?_, fun y hy => ?_, fun r hr hf => ?_, N.nd, N.ndr, N.fr, N.fd, fun p o e => ?_⟩
  · unfold addF
    split
    · simp
    · exact N.ne y hy
  · unfold addF
    by_cases e : y = x
    · subst e
      rw [if_pos rfl, upd_same, List.map_append]
      rfl
    · have hne : y.1 ≠ x.1 := fun z => by
        obtain ⟨p, hp⟩ := List.getElem?_of_mem hx
        obtain ⟨q, hq⟩ := List.getElem?_of_mem hy
        have hp' : (rs.map (·.1))[p]? = some x.1 := by rw [List.getElem?_map, hp]; rfl
        have hq' : (rs.map (·.1))[q]? = some x.1 := by rw [List.getElem?_map, hq]; show some y.1 = _; rw [z]
        obtain ⟨hpl, hpe⟩ := List.getElem?_eq_some_iff.mp hp'
        obtain ⟨hql, hqe⟩ := List.getElem?_eq_some_iff.mp hq'
        have epq : p = q := (List.getElem_inj N.ndr).mp (hpe.trans hqe.symm)
        rw [epq] at hp
        rw [hp] at hq
        exact e (Option.some.inj hq).symm
      rw [if_neg hne]
      have hal : y.2.2 ≠ x.2.2 := by
        obtain ⟨p, hp⟩ := List.getElem?_of_mem hx
        obtain ⟨q, hq⟩ := List.getElem?_of_mem hy
        obtain ⟨hpl, rfl⟩ := List.getElem?_eq_some_iff.mp hp
        obtain ⟨hql, rfl⟩ := List.getElem?_eq_some_iff.mp hq
        have pw := List.pairwise_iff_getElem.mp N.nd
        rcases Nat.lt_trichotomy p q with l | l | l
        · exact fun z => pw p q hpl hql l z.symm
        · exact absurd (by subst l; rfl) e
        · exact pw q p hql hpl l
      rw [upd_ne hal]
      exact N.ls y hy
  · unfold addF at hf
    by_cases e : r = x.1
    · exact ⟨x, hx, e.symm⟩
    · rw [if_neg e] at hf
      exact N.all r hr hf
  · rw [upd_ne (ne_of_none e (N.fr x hx))]
    exact N.sm p o e
/-- a number for a new item: z the new list -/
theorem Nums.new {P : Program} {w : World} {K : PySem.W.Frag} {H0 H : Hp} {d : Addr} {rs : List (Nat × Addr × Addr)} {f : Nat → List Int} (N : Nums P w K H0 H d rs f) {r : Nat} {b z : Addr} (hr : r < 5) (hn : ∀ x ∈ rs, x.1 ≠ r) (hb : Dp K H (.ref b) (itK r).data) (hz : H z = none) (i : Int) :
    Nums P w K H0 (upd (upd (upd H z (.lst [])) d (dnO P w d ((rs ++ [(r, b, z)]).map fun x => (itK x.1, x.2.1, V.ref x.2.2)))) z (.lst [.int i])) d (rs ++ [(r, b, z)]) (addF f r i) := by
  have hf : f r = [] := by
    cases e : f r with
    | nil => rfl
    | cons a l =>
      obtain ⟨x, hx, ex⟩ := N.all r hr (by rw [e]; exact List.cons_ne_nil _ _)
      exact absurd ex (hn x hx)
  have hdz : d ≠ z := fun e => by
    have := N.dn.mut
    rw [e, hz] at this
    exact this
  have l5 := N.few
  have md : ∀ a ∈ [d], Mut (H a) := fun a ha => by rw [List.mem_singleton.mp ha]; exact N.dn.mut
  have bt : But [d] H (upd (upd (upd H z (.lst [])) d (dnO P w d ((rs ++ [(r, b, z)]).map fun x => (itK x.1, x.2.1, V.ref x.2.2)))) z (.lst [.int i])) := fun p o n e => by
    rw [upd_ne (ne_of_none e hz), upd_ne (fun q => n (by rw [q]; exact List.mem_singleton_self _)), upd_ne (ne_of_none e hz)]
    exact e
  have hlz : ∀ x ∈ rs, x.2.2 ≠ z := fun x hx e => by
    have := N.ls x hx
    rw [e, hz] at this
    cases this
  have nf : rs.length + 1 ≤ 5 := by
    have := nat_few (ys := (rs ++ [(r, b, z)]).map (·.1)) (n := 5) (by
      rw [List.map_append]
      refine List.nodup_append.mpr ⟨N.ndr, by simp, fun a ha c hc => ?_⟩
      obtain ⟨x, hx, rfl⟩ := List.mem_map.mp ha
      rw [show c = r by simpa using hc]
      exact hn x hx) fun y hy => by
        obtain ⟨x, hx, rfl⟩ := List.mem_map.mp hy
        rcases List.mem_append.mp hx with m | m
        · exact N.r5 x m
        · rw [List.mem_singleton.mp m]; exact hr
    rw [List.length_map, List.length_append] at this
    exact this
  refine ⟨⟨.inl (by rw [upd_ne hdz, upd_same]), ?_, fun y hy => ?_⟩, fun x hx => ?_, fun x hx => ?_, fun x hx => ?_, fun q hq hfq => ?_, ?_, ?_, fun x hx => ?_, N.fd, fun p o e => ?_⟩
  · rw [List.length_map, List.length_append]
    exact Nat.le_trans (show rs.length + 1 ≤ 5 from nf) (by decide)
  · rw [List.map_append] at hy
    rcases List.mem_append.mp hy with m | m
    · exact ⟨dp_but md bt _ (nk_noLst y.1) (N.dn.keys y m).1, (N.dn.keys y m).2⟩
    · rw [List.mem_singleton.mp m]
      exact ⟨dp_but md bt _ (nk_noLst (itK r)) hb, it_depth r hr⟩
  · rcases List.mem_append.mp hx with m | m
    · exact N.r5 x m
    · rw [List.mem_singleton.mp m]; exact hr
  · unfold addF
    rcases List.mem_append.mp hx with m | m
    · rw [if_neg (hn x m)]; exact N.ne x m
    · rw [List.mem_singleton.mp m, if_pos rfl]; simp
  · unfold addF
    rcases List.mem_append.mp hx with m | m
    · rw [if_neg (hn x m), upd_ne (hlz x m), upd_ne (N.notD m), upd_ne (hlz x m)]
      exact N.ls x m
    · rw [List.mem_singleton.mp m, if_pos rfl, hf, upd_same]
      rfl
  · unfold addF at hfq
    by_cases e : q = r
    · exact ⟨(r, b, z), List.mem_append_right _ (List.mem_singleton_self _), e.symm⟩
    · rw [if_neg e] at hfq
      obtain ⟨x, hx, ex⟩ := N.all q hq hfq
      exact ⟨x, List.mem_append_left _ hx, ex⟩
  · exact List.pairwise_append.mpr ⟨N.nd, List.pairwise_singleton _ _, fun a ha c hc => by rw [List.mem_singleton.mp hc]; exact hlz a ha⟩
  · rw [List.map_append]
    refine List.nodup_append.mpr ⟨N.ndr, by simp, fun a ha c hc => ?_⟩
    obtain ⟨x, hx, rfl⟩ := List.mem_map.mp ha
    rw [show c = r by simpa using hc]
    exact hn x hx
  · rcases List.mem_append.mp hx with m | m
    · exact N.fr x m
    · rw [List.mem_singleton.mp m]
      cases e : H0 z with
      | none => rfl
      | some o => rw [N.sm _ _ e] at hz; cases hz
  · rw [upd_ne (fun q => by rw [q] at e; rw [N.sm _ _ e] at hz; cases hz), upd_ne (ne_of_none e N.fd), upd_ne (fun q => by rw [q] at e; rw [N.sm _ _ e] at hz; cases hz)]
    exact N.sm p o e
end My

set_option Elab.async false
set_option maxRecDepth 100000
set_option maxHeartbeats 4000000
set_option linter.all false
namespace My
open PySem L2
open C8 (pss_cut)
def top (i : Nat) : Stmt := PySem.Challenge.pw_inputways_k60_how_few_sets.main.body.getD i (.Pass ⟨0, 0, 0, 0⟩)
abbrev s__law_draw : Stmt := top 5
abbrev N__law_draw : List Str := ["script", "seed", "cell"]
theorem sc__law_draw : FnScope N__law_draw ["script"] (defScope s__law_draw) := ⟨rfl, rfl, rfl, by decide +kernel, rfl, by decide +kernel, by decide +kernel⟩
abbrev s__law_take : Stmt := top 6
abbrev N__law_take : List Str := ["draw", "many", "found"]
theorem sc__law_take : FnScope N__law_take ["draw", "many"] (defScope s__law_take) := ⟨rfl, rfl, rfl, by decide +kernel, rfl, by decide +kernel, by decide +kernel⟩
abbrev s_count_rows : Stmt := top 3
abbrev N_count_rows : List Str := ["i", "count", "most", "here", "ahead", "rows", "j"]
theorem sc_count_rows : FnScope N_count_rows ["i", "count", "most"] (defScope s_count_rows) := ⟨rfl, rfl, rfl, by decide +kernel, rfl, by decide +kernel, by decide +kernel⟩
abbrev s_item_rows : Stmt := top 2
abbrev N_item_rows : List Str := ["sets", "numbers", "i", "items", "item", "x"]
theorem sc_item_rows : FnScope N_item_rows ["sets"] (defScope s_item_rows) := ⟨rfl, rfl, rfl, by decide +kernel, rfl, by decide +kernel, by decide +kernel⟩
abbrev s_cover_clauses : Stmt := top 1
abbrev N_cover_clauses : List Str := ["sets", "most", "clauses", "i"]
theorem sc_cover_clauses : FnScope N_cover_clauses ["sets", "most"] (defScope s_cover_clauses) := ⟨rfl, rfl, rfl, by decide +kernel, rfl, by decide +kernel, by decide +kernel⟩
abbrev s__law_less : Stmt := top 7
abbrev N__law_less : List Str := ["clauses", "literal", "found", "row", "rest", "x"]
theorem sc__law_less : FnScope N__law_less ["clauses", "literal"] (defScope s__law_less) := ⟨rfl, rfl, rfl, by decide +kernel, rfl, by decide +kernel, by decide +kernel⟩
abbrev s__law_can : Stmt := top 8
abbrev N__law_can : List Str := ["clauses", "one", "x", "literal", "rest", "row"]
theorem sc__law_can : FnScope N__law_can ["clauses"] (defScope s__law_can) := ⟨rfl, rfl, rfl, by decide +kernel, rfl, by decide +kernel, by decide +kernel⟩
abbrev s__law_every : Stmt := top 9
abbrev N__law_every : List Str := ["rows", "found", "row", "item"]
theorem sc__law_every : FnScope N__law_every ["rows"] (defScope s__law_every) := ⟨rfl, rfl, rfl, by decide +kernel, rfl, by decide +kernel, by decide +kernel⟩
abbrev s__law_due : Stmt := top 10
abbrev N__law_due : List Str := ["sets", "most", "m", "found", "item", "j", "i"]
theorem sc__law_due : FnScope N__law_due ["sets", "most"] (defScope s__law_due) := ⟨rfl, rfl, rfl, by decide +kernel, rfl, by decide +kernel, by decide +kernel⟩
abbrev s__law_fewest : Stmt := top 11
abbrev N__law_fewest : List Str := ["sets", "every", "best", "number", "taken", "k"]
theorem sc__law_fewest : FnScope N__law_fewest ["sets"] (defScope s__law_fewest) := ⟨rfl, rfl, rfl, by decide +kernel, rfl, by decide +kernel, by decide +kernel⟩
abbrev s_law : Stmt := top 12
abbrev N_law : List Str := ["script", "draw", "things", "sets", "k", "fewest", "most", "clauses", "item"]
theorem sc_law : FnScope N_law ["script"] (defScope s_law) := ⟨rfl, rfl, rfl, by decide +kernel, rfl, by decide +kernel, by decide +kernel⟩
/-- what the top binds: built-ins that are not shadowed -/
structure Txt (K : PySem.W.Frag) (mg : Str → Option Value) : Prop where
  m_abs : mg "abs" = none
  m_enumerate : mg "enumerate" = none
  m_int : mg "int" = none
  m_len : mg "len" = none
  m_list : mg "list" = none
  m_max : mg "max" = none
  m_range : mg "range" = none
  m_sorted : mg "sorted" = none
  m_tuple : mg "tuple" = none
section
variable {P : Program} {w : World} {K : PySem.W.Frag} {mg : Str → Option Value} {base : Heap} {f : Addr} {fd : FuncData}
theorem ok__law_take (T : Txt K mg) (D : Def K mg "_law_take" ["draw", "many"] s__law_take f fd) : Own P w K mg base "_law_take" ["draw", "many"] 1 spTake := by
  refine ⟨f, fd, D.mg, D.fn.kp, D.bd, D.fn.ok sc__law_take (fun vs H Q E h => ?_) (fun cdv A outer s H vs Q E hr h => ?_)⟩
  · obtain ⟨d, L, m, rfl, _⟩ := h
    rfl
  · obtain ⟨d, L, m, rfl, hm0, hm1, hD, q⟩ := h
    obtain ⟨ns, at_, left, seed, h1, h2, hdL, hpos, ha, hl, hs, hs2⟩ := hD
    refine ⟨_, (pss_cut (ps_if (pt_cmpR op_eq (pe_ix ix_list (pv 0) pe_int (fun _ _ => rfl)) pe_int (nomark _)) (pss_cons (ps_asg (pe_op op_add (pe_ix ix_list (pv 0) pe_int (fun _ _ => rfl)) pe_int) (pg_sub (pv 0) pe_int set_list))
      (pss_cut (ps_if (pt_cmpR op_lt (pe_ix ix_list (pv 0) pe_int (fun _ _ => rfl)) (pe_callB call_len_seq (by rfl) T.m_len (by decide +kernel) (pa_cons (pe_ix ix_list (pv 0) pe_int (fun _ _ => rfl)) pa_nil)) (nomark _)) (pss_one (ps_asg (pe_ix ix_list (pe_ix ix_list (pv 0) pe_int (fun _ _ => rfl)) (pe_ix ix_list (pv 0) pe_int (fun _ _ => rfl)) (fun _ _ => rfl)) (pg_sub (pv 0) pe_int set_list))) pss_nil)
      (pss_one (ps_if (pt_cmpR op_eq (pe_ix ix_list (pv 0) pe_int (fun _ _ => rfl)) pe_int (nomark _)) (pss_cons (ps_asg (pe_op op_mod (pe_callTy call_int1 (by rfl) T.m_int (by decide +kernel) (pa_cons (pe_op op_add (pe_op op_mul (pe_ix ix_list (pv 0) pe_int (fun _ _ => rfl)) pe_int) pe_int) pa_nil)) pe_int) (pg_sub (pv 0) pe_int set_list))
      (pss_one (ps_asg (pe_ix ix_list (pv 0) pe_int (fun _ _ => rfl)) (pg_sub (pv 0) pe_int set_list)))) pss_nil)))) pss_nil)
      (pss_cons (ps_set (i := 2) sc__law_take.nd rfl (Or.inl rfl) (pe_op op_mod (pe_callTy call_int1 (by rfl) T.m_int (by decide +kernel) (pa_cons (pe_ix ix_list (pv 0) pe_int (fun _ _ => rfl)) pa_nil)) (pv 1)))
      (pss_cons (ps_asg (pe_op op_fdiv (pe_ix ix_list (pv 0) pe_int (fun _ _ => rfl)) (pv 1)) (pg_sub (pv 0) pe_int set_list))
      (pss_one (ps_ret (pv 2)))))), ?_⟩
    refine ⟨fun σ' H' => σ' = [some (.ref d), some (.int m), none] ∧ DrawAt H' d L ∧ Same (hide d H) (hide d H'), ?_, ?_⟩
    · refine ⟨_, rfl, d, _, _, _, rfl, rfl, SqL.of h1, rfl, rfl, _, rfl, ite2 (fun c => ?_) (fun c => ?_)⟩
      · refine ⟨_, rfl, d, _, _, _, rfl, rfl, SqL.of h1, rfl, _, _, rfl, rfl, _, rfl, d, _, _, _, rfl, rfl, h1, rfl, ?_⟩
        refine ⟨fun σ' H' => σ' = [some (.ref d), some (.int m), none] ∧ (∃ l2, 0 ≤ l2 ∧ H' d = some (.lst [.ref L, .int (at_ + 1), .int l2, .int seed])) ∧ H' L = some (.lst (ns.map V.int)) ∧ Same (hide d H) (hide d H'), ?_, ?_⟩
        · have g1 : (upd H d (.lst ([.ref L, .int at_, .int left, .int seed].set 1 (.int (at_ + 1))))) L = some (.lst (ns.map V.int)) := by rw [upd_ne hdL.symm]; exact h2
          refine ⟨_, rfl, d, _, _, _, rfl, rfl, SqL.of upd_same, rfl, _, rfl, d, _, _, _, rfl, rfl, SqL.of upd_same, rfl, L, _, rfl, .inl (SqL.of g1), _, _, rfl, rfl, _, rfl, ite2 (fun e => ?_) (fun e => ?_)⟩
          · have e' : at_ + 1 < ((ns.map V.int).length : Int) := of_decide_eq_true e
            rw [List.length_map] at e'
            obtain ⟨z, hz, ez⟩ := atI_get (ns := ns) (k := at_ + 1) (by omega) e'
            refine ⟨_, rfl, d, _, _, _, rfl, rfl, SqL.of upd_same, rfl, _, rfl, d, _, _, _, rfl, rfl, SqL.of upd_same, rfl, L, _, _, _, rfl, rfl, SqL.of g1, ez, _, rfl, d, _, _, _, rfl, rfl, upd_same, rfl, ?_⟩
            exact ⟨rfl, ⟨z, hpos z hz, upd_same⟩, by rw [upd_ne hdL.symm]; exact g1, (hide_put _).trans (hide_put _)⟩
          · exact ⟨rfl, ⟨left, hl, upd_same⟩, g1, hide_put _⟩
        · rintro σ' H' ⟨rfl, ⟨l2, hl2, k1⟩, k2, kb⟩
          refine ⟨_, rfl, d, _, _, _, rfl, rfl, SqL.of k1, rfl, rfl, _, rfl, ite2 (fun e => ?_) (fun e => ?_)⟩
          · refine ⟨_, rfl, d, _, _, _, rfl, rfl, SqL.of k1, rfl, _, _, rfl, rfl, .inl ⟨by omega, by omega⟩, _, _, rfl, rfl, .inl ⟨_, rfl, _, _, rfl, rfl, (by show (0 : Int) < 2147483647; decide), _, rfl, d, _, _, _, rfl, rfl, k1, rfl, ?_⟩⟩
            refine ⟨_, rfl, d, _, _, _, rfl, rfl, SqL.of upd_same, rfl, _, rfl, d, _, _, _, rfl, rfl, upd_same, rfl, ?_⟩
            have p0 : 0 ≤ (seed * 48271 + 11) % 2147483647 := Int.emod_nonneg _ (by decide)
            have p1 : (seed * 48271 + 11) % 2147483647 < 2147483647 := Int.emod_lt_of_pos _ (by decide)
            exact ⟨rfl, ⟨ns, at_ + 1, _, _, upd_same, by rw [upd_ne hdL.symm, upd_ne hdL.symm]; exact k2, hdL, hpos, by omega, p0, p0, p1⟩, (kb.trans (hide_put _)).trans (hide_put _)⟩
          · exact ⟨rfl, ⟨ns, at_ + 1, l2, seed, k1, k2, hdL, hpos, by omega, hl2, hs, hs2⟩, kb⟩
      · exact ⟨rfl, ⟨ns, at_, left, seed, h1, h2, hdL, hpos, ha, hl, hs, hs2⟩, Same.refl _⟩
    · rintro σ' H' ⟨rfl, ⟨ns, at_, left, seed, h1, h2, hdL, hpos, ha, hl, hs, hs2⟩, kb⟩
      refine ⟨_, rfl, d, _, _, _, rfl, rfl, SqL.of h1, rfl, .inl ⟨_, rfl, _, rfl, _, _, rfl, rfl, hm0, ?_⟩⟩
      refine ⟨_, rfl, d, _, _, _, rfl, rfl, SqL.of h1, rfl, _, rfl, _, _, rfl, rfl, ⟨hm0, hm1⟩, _, rfl, d, _, _, _, rfl, rfl, h1, rfl, ?_⟩
      refine ⟨_, rfl, ?_⟩
      exact q _ _ (Int.emod_nonneg _ (by omega)) (Int.emod_lt_of_pos _ hm0) ⟨ns, at_, _, seed, upd_same, by rw [upd_ne hdL.symm]; exact h2, hdL, hpos, ha, Int.ediv_nonneg hl (by omega), hs, hs2⟩ (kb.trans (hide_put _))
theorem ok__law_draw (T : Txt K mg) (D : Def K mg "_law_draw" ["script"] s__law_draw f fd) : Own P w K mg base "_law_draw" ["script"] 1 (spDraw K) := by
  refine ⟨f, fd, D.mg, D.fn.kp, D.bd, D.fn.ok sc__law_draw (fun vs H Q E h => ?_) (fun cdv A outer s H vs Q E hr h => ?_)⟩
  · obtain ⟨a, ns, rfl, _⟩ := h
    rfl
  · obtain ⟨a, ns, rfl, hS, h63, q⟩ := h
    refine ⟨_, (pss_cons (ps_set (i := 1) sc__law_draw.nd rfl (Or.inl rfl) pe_int)
      (pss_cons (ps_for PassesOwn.never rfl (pi_list (pv 0)) (pg_name (i := 2) sc__law_draw.nd rfl (Or.inl rfl)) (pss_one (ps_set (i := 1) sc__law_draw.nd rfl (Or.inl rfl) (pe_op op_mod (pe_callTy call_int1 (by rfl) T.m_int (by decide +kernel) (pa_cons (pe_op op_add (pe_op op_add (pe_op op_mul (pv 1) pe_int) (pe_op op_mod (pe_callB call_abs (by rfl) T.m_abs (by decide +kernel) (pa_cons (pe_callTy call_int1 (by rfl) T.m_int (by decide +kernel) (pa_cons (pv 2) pa_nil)) pa_nil)) pe_int)) pe_int) pa_nil)) pe_int))))
      (pss_one (ps_ret (pe_lst (pa_cons (pe_lc (own := [("cell", 2)]) (g := gName 2) (tt := tYes) rfl sc__law_draw.nd (pi_list (pv 0)) (blkOk_by (N := N__law_draw) (sc := defScope s__law_draw) (own := [("cell", 2)]) (by decide +kernel)) (fun _ _ _ _ _ => (pg_name (i := 2) sc__law_draw.nd rfl (Or.inl rfl))) (fun _ _ _ _ _ => pts_nil) (fun _ _ _ _ _ => (pe_callB call_abs (by rfl) T.m_abs (by decide +kernel) (pa_cons (pe_callTy call_int1 (by rfl) T.m_int (by decide +kernel) (pa_cons (pv 2) pa_nil)) pa_nil)))) (pa_cons (pe_un un_neg pe_int) (pa_cons pe_int (pa_cons (pv 1) pa_nil))))))))), ?_⟩
    refine ⟨_, rfl, a, rfl, ⟨_, hS⟩, for_list (K := K) (a := a) (xs := ns.map V.int) (fun i σ H' => ∃ (sd : Int) (v : Option V), σ = [some (.ref a), some (.int sd), v] ∧ Same H H' ∧ 0 ≤ sd ∧ sd < 2147483647)
      ⟨7, none, rfl, Same.refl H, by decide, by decide⟩ (fun i σ H' _ ⟨_, _, _, e, _⟩ => e.seq hS) ?_ ?_⟩
    · rintro i y σ H' hi ⟨sd, v, rfl, e, s0, s1⟩
      obtain ⟨z, rfl, _⟩ := map_at hi
      refine ⟨_, rfl, _, _, rfl, rfl, .inl ⟨by omega, by omega⟩, _, rfl, .inl ⟨_, rfl, _, rfl, _, _, rfl, rfl, (by show (0 : Int) < 65521; decide), _, _, rfl, rfl, _, _, rfl, rfl, .inl ⟨_, rfl, _, _, rfl, rfl, (by show (0 : Int) < 2147483647; decide), ?_⟩⟩⟩
      exact ⟨_, _, rfl, e, Int.emod_nonneg _ (by decide), Int.emod_lt_of_pos _ (by decide)⟩
    · rintro σ H' ⟨sd, v, rfl, e, s0, s1⟩
      refine ⟨_, rfl, a, rfl, ⟨_, e.seq hS⟩, fun D hD => lc_list (K := K) (a := a) (xs := ns.map V.int) (fun i H2 => ∃ ms : List Int, H2 D = some (.lst (ms.map V.int)) ∧ ms.length = i ∧ (∀ z, z ∈ ms → 0 ≤ z) ∧ (∀ b o, H' b = some o → H2 b = some o) ∧ i ≤ ns.length)
        ⟨[], upd_same, rfl, (fun z hz => by cases hz), same_new hD _, Nat.zero_le _⟩ (fun i H2 _ ⟨_, _, _, _, s, _⟩ => Same.seq s (e.seq hS)) ?_ ?_⟩
      · rintro i y H2 hi ⟨ms, hm, hml, hm0, s, _⟩
        obtain ⟨z, rfl, hz⟩ := map_at hi
        have hi' : i < ns.length := (List.getElem?_eq_some_iff.mp hz).1
        refine ⟨rfl, yes2 ?_⟩
        refine ⟨_, rfl, .inl ⟨_, rfl, _, rfl, _, hm, by rw [List.length_map]; exact small1000 (by omega), ms ++ [if z < 0 then -z else z], ?_, by rw [List.length_append, hml]; rfl, ?_, ?_, hi'⟩⟩
        · rw [upd_same, List.map_append]
          all_goals rfl
        · intro u hu
          rcases List.mem_append.mp hu with hu | hu
          · exact hm0 u hu
          · rw [List.mem_singleton] at hu
            rw [hu]
            split <;> omega
        · intro b o hb
          rw [upd_ne (ne_of_none hb hD)]
          exact s b o hb
      · rintro H2 ⟨ms, hm, hml, hm0, s, _⟩
        refine ⟨_, rfl, _, rfl, by show 4 ≤ sizeLine; decide, fun l hl => ?_⟩
        have nDl : D ≠ l := ne_of_none hm hl
        refine q l D _ (Same.free (e.trans s) hl) (Same.free e hD) ((e.trans s).trans (same_new hl _)) ⟨ms, -1, 0, sd, upd_same, by rw [upd_ne nDl]; exact hm, nDl.symm, hm0, by omega, by omega, s0, s1⟩
end
end My

set_option Elab.async false
set_option maxRecDepth 100000
set_option maxHeartbeats 4000000
set_option linter.all false
namespace My
open PySem L2 PyProof.Rows
open C8 (pss_cut)
/-- count_rows(i, count, most), i from 1 on -/
theorem ints_noLst : ∀ c : List Int, noLsts (c.map PyData.int) = true
  | [] => rfl
  | x :: c => by
    show (noLst (.int x) && noLsts (c.map PyData.int)) = true
    rw [ints_noLst c]
    rfl
theorem cls_noLst : ∀ cs : List (List Int), noLsts (cs.map clD) = true
  | [] => rfl
  | c :: cs => by
    show (noLst (clD c) && noLsts (cs.map clD)) = true
    rw [cls_noLst cs, show noLst (clD c) = noLsts (c.map PyData.int) from rfl, ints_noLst c]
    rfl
/-- a list that is made longer -/
theorem ext_list {K : PySem.W.Frag} {H1 H2 : Hp} {R D1 : Addr} {zs zs2 : List V} {cs cs2 : List (List Int)} (hR : H1 R = some (.lst zs)) (hz : DpAll K (hide R H1) zs (cs.map clD)) (s : Same H1 H2) (hz2 : DpAll K (hide D1 H2) zs2 (cs2.map clD)) :
    DpAll K (hide R (upd H2 R (.lst (zs ++ zs2)))) (zs ++ zs2) ((cs ++ cs2).map clD) := by
  have hz3 : DpAll K (hide R H2) zs2 (cs2.map clD) := dpa_but (A := [R]) (fun a ha => by rw [List.mem_singleton.mp ha, s _ _ hR]; exact True.intro) (fun b o n e => hide_in e fun z => n (by rw [z]; exact List.mem_singleton_self R)) _ (cls_noLst cs2) (dpa_mono hide_le _ hz2)
  rw [List.map_append]
  exact dpa_mono (hide_put _) _ (dpa_app (dpa_mono (hide_same s) _ hz) hz3)
def spCount (K : PySem.W.Frag) : Sp := fun vs H Q _ => ∃ (i m M : Nat), vs = [.int ((i + 1 : Nat) : Int), .int m, .int M] ∧ i < m ∧ m ≤ 100 ∧ M ≤ 100 ∧ ∀ H' r zs, Same H H' → H r = none → H' r = some (.lst zs) → DpAll K (hide r H') zs ((cntRow m M i).map clD) → Q (.ref r) H'
section
variable {P : Program} {w : World} {K : PySem.W.Frag} {mg : Str → Option Value} {base : Heap} {f C : Addr} {fd : FuncData}
theorem ok_count_rows (T : Txt K mg) (D : Def K mg "count_rows" ["i", "count", "most"] s_count_rows f fd) : Own P w K mg base "count_rows" ["i", "count", "most"] 1 (spCount K) := by
  refine ⟨f, fd, D.mg, D.fn.kp, D.bd, D.fn.ok sc_count_rows (fun vs H Q E h => ?_) (fun cdv A outer s H vs Q E hr h => ?_)⟩
  · obtain ⟨i, m, M, rfl, _⟩ := h
    rfl
  · obtain ⟨i, m, M, rfl, him, hm, hM, q⟩ := h
    refine ⟨_, (pss_cons (ps_if (pt_cmpR op_eq (pv 2) pe_int (nomark _)) (pss_one (ps_ret (pe_lst (pa_cons (pe_tup (pa_cons (pe_un un_neg (pv 0)) pa_nil)) pa_nil)))) pss_nil)
      (pss_cons (ps_set (i := 3) sc_count_rows.nd rfl (Or.inr rfl) (pe_op op_add (pv 1) (pe_op op_mul (pe_op op_sub (pv 0) pe_int) (pv 2))))
      (pss_cons (ps_set (i := 4) sc_count_rows.nd rfl (Or.inr rfl) (pe_op op_sub (pv 3) (pv 2)))
      (pss_cons (ps_set (i := 5) sc_count_rows.nd rfl (Or.inl rfl) (pe_lst (pa_cons (pe_tup (pa_cons (pe_un un_neg (pv 0)) (pa_cons (pe_op op_add (pv 3) pe_int) pa_nil))) pa_nil)))
      (pss_cut (ps_if (pt_cmpR op_gt (pv 0) pe_int (nomark _)) (pss_cons (ps_expr (pe_bm PySem.F.plainAttrs_list PySem.F.slot_list_extend PySem.F.type_list_extend mt_extend (pv 5) (pa_cons (pe_lc (own := [("j", 6)]) (g := gName 6) (tt := tYes) rfl sc_count_rows.nd (pi_range2 (by rfl) T.m_range (pa_cons pe_int (pa_cons (pe_op op_add (pv 2) pe_int) pa_nil))) (blkOk_by (N := N_count_rows) (sc := defScope s_count_rows) (own := [("j", 6)]) (by decide +kernel)) (fun _ _ _ _ _ => (pg_name (i := 6) sc_count_rows.nd rfl (Or.inl rfl))) (fun _ _ _ _ _ => pts_nil) (fun _ _ _ _ _ => (pe_tup (pa_cons (pe_un un_neg (pe_op op_add (pv 4) (pv 6))) (pa_cons (pe_op op_add (pv 3) (pv 6)) pa_nil))))) pa_nil)))
      (pss_cons (ps_expr (pe_bm PySem.F.plainAttrs_list PySem.F.slot_list_extend PySem.F.type_list_extend mt_extend (pv 5) (pa_cons (pe_lc (own := [("j", 6)]) (g := gName 6) (tt := tYes) rfl sc_count_rows.nd (pi_range2 (by rfl) T.m_range (pa_cons pe_int (pa_cons (pe_op op_add (pv 2) pe_int) pa_nil))) (blkOk_by (N := N_count_rows) (sc := defScope s_count_rows) (own := [("j", 6)]) (by decide +kernel)) (fun _ _ _ _ _ => (pg_name (i := 6) sc_count_rows.nd rfl (Or.inl rfl))) (fun _ _ _ _ _ => pts_nil) (fun _ _ _ _ _ => (pe_tup (pa_cons (pe_un un_neg (pv 0)) (pa_cons (pe_un un_neg (pe_op op_sub (pe_op op_add (pv 4) (pv 6)) pe_int)) (pa_cons (pe_op op_add (pv 3) (pv 6)) pa_nil)))))) pa_nil)))
      (pss_one (ps_expr (pe_bm PySem.F.plainAttrs_list PySem.F.slot_list_append PySem.F.type_list_append mt_append (pv 5) (pa_cons (pe_tup (pa_cons (pe_un un_neg (pv 0)) (pa_cons (pe_un un_neg (pe_op op_add (pv 4) (pv 2))) pa_nil))) pa_nil)))))) pss_nil)
      (pss_one (ps_ret (pv 5)))))))), ?_⟩
    refine ⟨_, rfl, rfl, _, rfl, ite2 (fun c => ?_) (fun c => ?_)⟩
    · have hM0 : M = 0 := by
        have c : V.int (M : Int) = V.int 0 := of_decide_eq_true c
        have := V.int.inj c
        omega
      refine ⟨_, rfl, _, rfl, by show 1 ≤ sizeLine; decide, fun t ht => ⟨by show 1 ≤ sizeLine; decide, fun r hr' => ?_⟩⟩
      have s1 := same_new ht (.tup [.int (-((i + 1 : Nat) : Int))])
      have s2 := same_new hr' (.lst [.ref t])
      have ntr : t ≠ r := fun e => by rw [← e] at hr'; rw [upd_same] at hr'; cases hr'
      have hrH : H r = none := by
        cases e : H r with
        | none => rfl
        | some o => rw [s1 _ _ e] at hr'; cases hr'
      refine q _ r _ (s1.trans s2) hrH upd_same ?_
      rw [show cntRow m M i = [[-((i + 1 : Nat) : Int)]] by unfold cntRow; rw [if_pos hM0]]
      exact dpa_one (.tup (SqT.of (xs := [.int (-((i + 1 : Nat) : Int))]) (by rw [hide_ne ntr, upd_ne ntr, upd_same])) (ints_all [-((i + 1 : Nat) : Int)]))
    · have hM0 : M ≠ 0 := fun e => c (decide_eq_true (by rw [e]; rfl))
      have e1 : (m : Int) + (((i + 1 : Nat) : Int) - 1) * (M : Int) = ((m + i * M : Nat) : Int) := by
        rw [show ((i + 1 : Nat) : Int) - 1 = (i : Int) by omega]
        simp
      refine ⟨_, rfl, _, rfl, _, _, rfl, rfl, _, rfl, _, _, rfl, rfl, .inr (by omega), _, _, rfl, rfl, ?_⟩
      show gName 3 (V.int ((m : Int) + (((i + 1 : Nat) : Int) - 1) * (M : Int))) _ _ _
      rw [e1]
      refine ⟨_, rfl, _, rfl, _, _, rfl, rfl, ?_⟩
      refine ⟨_, rfl, _, rfl, _, rfl, _, _, rfl, rfl, by show 2 ≤ sizeLine; decide, fun t ht => ⟨by show 1 ≤ sizeLine; decide, fun R hR => ?_⟩⟩
      refine ⟨fun σ' H' => ∃ (zs : List V) (cs : List (List Int)), σ' = [some (.int ((i + 1 : Nat) : Int)), some (.int m), some (.int M), some (.int ((m + i * M : Nat) : Int)), some (.int (((m + i * M : Nat) : Int) - M)), some (.ref R), none] ∧ Same H H' ∧ H' R = some (.lst zs) ∧ DpAll K (hide R H') zs ((cntRow m M i).map clD), ?_, ?_⟩
      · have nRt : R ≠ t := fun e => by rw [e, upd_same] at hR; cases hR
        have hRH : H R = none := by
          cases e : H R with
          | none => rfl
          | some o => rw [same_new ht _ _ _ e] at hR; cases hR
        have sA := (same_new ht (.tup [.int (-((i + 1 : Nat) : Int)), .int (((m + i * M : Nat) : Int) + 1)])).trans (same_new hR (.lst [.ref t]))
        have d0 : DpAll K (hide R (upd (upd H t (.tup [.int (-((i + 1 : Nat) : Int)), .int (((m + i * M : Nat) : Int) + 1)])) R (.lst [.ref t]))) [.ref t] [clD [-((i + 1 : Nat) : Int), sVar m M i 1]] :=
          dpa_one (.tup (SqT.of (xs := [.int (-((i + 1 : Nat) : Int)), .int (((m + i * M : Nat) : Int) + 1)]) (by rw [hide_ne nRt.symm, upd_ne nRt.symm, upd_same])) (ints_all [-((i + 1 : Nat) : Int), ((m + i * M : Nat) : Int) + 1]))
        refine ⟨_, rfl, _, _, rfl, rfl, _, rfl, ite2 (fun c => ?_) (fun c => ?_)⟩
        · obtain ⟨k0, rfl⟩ : ∃ k0, i = k0 + 1 := ⟨i - 1, by
            have c : (1 : Int) < ((i + 1 : Nat) : Int) := of_decide_eq_true c
            omega⟩
          obtain ⟨H5, eH5⟩ : ∃ H5, H5 = upd (upd H t (.tup [.int (-((k0 + 1 + 1 : Nat) : Int)), .int (((m + (k0 + 1) * M : Nat) : Int) + 1)])) R (.lst [.ref t]) := ⟨_, rfl⟩
          have hR5 : H5 R = some (.lst [.ref t]) := by rw [eH5]; exact upd_same
          rw [← eH5] at sA d0 ⊢
          have ah : ((m + (k0 + 1) * M : Nat) : Int) - (M : Int) = ((m + k0 * M : Nat) : Int) := by
            rw [Nat.succ_mul]
            omega
          have hn1 : ((M : Int) + 1 - 1).toNat = M := by omega
          refine ⟨_, rfl, .inl ⟨rfl, _, SqL.of hR5⟩, _, rfl, _, _, rfl, rfl, 1, (M : Int) + 1, rfl, ⟨by omega, by omega, by omega, by omega⟩, fun D1 hD1 => lc_gen (K := K) (walk_range (lo := 1) (n := ((M : Int) + 1 - 1).toNat)) (fun k ds => ds = ((List.range k).map fun j => clD [-sVar m M k0 (j + 1), sVar m M (k0 + 1) (j + 1)])) rfl (by omega) hD1 (fun H2 s2 => True.intro) (fun k y H2 H3 ds Nx Add hk hw s2 hne hy hNx hAdd => ?_) (fun H6 zs2 ds hz2 hd2 hw2 s6 => ?_)⟩
          · obtain ⟨rfl, rfl⟩ := hy
            refine ⟨rfl, yesV ?_⟩
            rw [if_pos rfl]
            refine ⟨_, rfl, _, rfl, _, _, rfl, rfl, _, rfl, _, rfl, _, rfl, _, _, rfl, rfl, by show 2 ≤ sizeLine; decide, fun u hu => ?_⟩
            have nu : u ≠ D1 := fun e => hne (by rw [← e]; exact hu)
            have v1 : -(((m + (k0 + 1) * M : Nat) : Int) - (M : Int) + (1 + (k : Int))) = -sVar m M k0 (k + 1) := by
              rw [ah]
              unfold sVar
              omega
            have v2 : ((m + (k0 + 1) * M : Nat) : Int) + (1 + (k : Int)) = sVar m M (k0 + 1) (k + 1) := by
              unfold sVar
              omega
            refine hAdd _ (clD [-sVar m M k0 (k + 1), sVar m M (k0 + 1) (k + 1)]) _ (same_new hu _) (.tup (SqT.of (xs := [.int (-sVar m M k0 (k + 1)), .int (sVar m M (k0 + 1) (k + 1))]) (by rw [hide_ne nu, upd_same, ← v1, ← v2])) (ints_all [-sVar m M k0 (k + 1), sVar m M (k0 + 1) (k + 1)])) (by rw [hw, List.range_succ, List.map_append]; rfl)
          subst hw2
          rw [hn1] at hd2
          have hd2' : DpAll K (hide D1 H6) zs2 (((List.range M).map fun j => [-sVar m M k0 (j + 1), sVar m M (k0 + 1) (j + 1)]).map clD) := by rw [List.map_map]; exact hd2
          have l2 : zs2.length = M := by rw [dpa_len hd2, List.length_map, List.length_range]
          refine ⟨R, D1, [.ref t], zs2, rfl, rfl, s6 _ _ hR5, hz2, ?_, ?_⟩
          · first
            | exact Nat.lt_of_le_of_lt (show 1 + zs2.length ≤ 200 by omega) (by decide)
            | exact Nat.le_trans (show 1 + zs2.length ≤ 200 by omega) (by decide)
          have d1 := ext_list (cs := [[-((k0 + 1 + 1 : Nat) : Int), sVar m M (k0 + 1) 1]]) hR5 d0 s6 hd2'
          obtain ⟨H7, eH7⟩ : ∃ H7, H7 = upd H6 R (.lst ([.ref t] ++ zs2)) := ⟨_, rfl⟩
          have sB : Same H H7 := fun b o e => by
            rw [eH7, upd_ne (ne_of_none e hRH)]
            exact s6 _ _ (sA b o e)
          have hR7 : H7 R = some (.lst ([.ref t] ++ zs2)) := by rw [eH7]; exact upd_same
          rw [← eH7] at d1 ⊢
          have hn2 : ((M : Int) + 1 - 2).toNat = M - 1 := by omega
          refine ⟨_, rfl, .inl ⟨rfl, _, SqL.of hR7⟩, _, rfl, _, _, rfl, rfl, 2, (M : Int) + 1, rfl, ⟨by omega, by omega, by omega, by omega⟩, fun D2 hD2 => lc_gen (K := K) (walk_range (lo := 2) (n := ((M : Int) + 1 - 2).toNat)) (fun k ds => ds = ((List.range k).map fun j => clD [-((k0 + 1 + 1 : Nat) : Int), -sVar m M k0 (j + 1), sVar m M (k0 + 1) (j + 2)])) rfl (by omega) hD2 (fun H2 s2 => True.intro) (fun k y H2 H3 ds Nx Add hk hw s2 hne hy hNx hAdd => ?_) (fun H8 zs3 ds hz3 hd3 hw3 s8 => ?_)⟩
          · obtain ⟨rfl, rfl⟩ := hy
            refine ⟨rfl, yesV ?_⟩
            rw [if_pos rfl]
            refine ⟨_, rfl, _, rfl, _, rfl, _, rfl, _, _, rfl, rfl, _, _, rfl, rfl, _, rfl, _, rfl, _, rfl, _, _, rfl, rfl, by show 3 ≤ sizeLine; decide, fun u hu => ?_⟩
            have nu : u ≠ D2 := fun e => hne (by rw [← e]; exact hu)
            have v1 : -(((m + (k0 + 1) * M : Nat) : Int) - (M : Int) + (2 + (k : Int)) - 1) = -sVar m M k0 (k + 1) := by
              rw [ah]
              unfold sVar
              omega
            have v2 : ((m + (k0 + 1) * M : Nat) : Int) + (2 + (k : Int)) = sVar m M (k0 + 1) (k + 2) := by
              unfold sVar
              omega
            refine hAdd _ (clD [-((k0 + 1 + 1 : Nat) : Int), -sVar m M k0 (k + 1), sVar m M (k0 + 1) (k + 2)]) _ (same_new hu _) (.tup (SqT.of (xs := [.int (-((k0 + 1 + 1 : Nat) : Int)), .int (-sVar m M k0 (k + 1)), .int (sVar m M (k0 + 1) (k + 2))]) (by rw [hide_ne nu, upd_same, ← v1, ← v2])) (ints_all [-((k0 + 1 + 1 : Nat) : Int), -sVar m M k0 (k + 1), sVar m M (k0 + 1) (k + 2)])) (by rw [hw, List.range_succ, List.map_append]; rfl)
          subst hw3
          rw [hn2] at hd3
          have hd3' : DpAll K (hide D2 H8) zs3 (((List.range (M - 1)).map fun j => [-((k0 + 1 + 1 : Nat) : Int), -sVar m M k0 (j + 1), sVar m M (k0 + 1) (j + 2)]).map clD) := by rw [List.map_map]; exact hd3
          have l3 : zs3.length = M - 1 := by rw [dpa_len hd3, List.length_map, List.length_range]
          refine ⟨R, D2, [.ref t] ++ zs2, zs3, rfl, rfl, s8 _ _ hR7, hz3, ?_, ?_⟩
          · have l12 : ([V.ref t] ++ zs2).length ≤ 101 := by rw [List.length_append, l2]; show 1 + M ≤ 101; omega
            first
            | exact Nat.lt_of_le_of_lt (show ([V.ref t] ++ zs2).length + zs3.length ≤ 300 by omega) (by decide)
            | exact Nat.le_trans (show ([V.ref t] ++ zs2).length + zs3.length ≤ 300 by omega) (by decide)
          have d2 := ext_list hR7 d1 s8 hd3'
          obtain ⟨H9, eH9⟩ : ∃ H9, H9 = upd H8 R (.lst ([.ref t] ++ zs2 ++ zs3)) := ⟨_, rfl⟩
          have sC : Same H H9 := fun b o e => by
            rw [eH9, upd_ne (ne_of_none e hRH)]
            exact s8 _ _ (sB b o e)
          have hR9 : H9 R = some (.lst ([.ref t] ++ zs2 ++ zs3)) := by rw [eH9]; exact upd_same
          rw [← eH9] at d2 ⊢
          refine ⟨_, rfl, .inl ⟨rfl, _, SqL.of hR9⟩, _, rfl, _, rfl, _, rfl, _, rfl, _, _, rfl, rfl, _, rfl, by show 2 ≤ sizeLine; decide, fun u hu => ?_⟩
          have v1 : -(((m + (k0 + 1) * M : Nat) : Int) - (M : Int) + (M : Int)) = -sVar m M k0 M := by
            rw [ah]
            unfold sVar
            omega
          have su := same_new hu (.tup [.int (-((k0 + 1 + 1 : Nat) : Int)), .int (-(((m + (k0 + 1) * M : Nat) : Int) - (M : Int) + (M : Int)))])
          have nu : u ≠ R := fun e => by rw [e, hR9] at hu; cases hu
          have l4 : ([V.ref t] ++ zs2 ++ zs3).length ≤ 300 := by
            rw [List.length_append, List.length_append, l2, l3]
            show 1 + M + (M - 1) ≤ 300
            omega
          refine ⟨R, _, _, rfl, rfl, su _ _ hR9, Nat.lt_of_le_of_lt l4 (by decide), [.ref t] ++ zs2 ++ zs3 ++ [.ref u], [], rfl, fun b o e => ?_, upd_same, ?_⟩
          · rw [upd_ne (ne_of_none e hRH)]
            exact su _ _ (sC b o e)
          · have d3 := dpa_app (dpa_mono ((hide_same su).trans (hide_put (.lst ([.ref t] ++ zs2 ++ zs3 ++ [.ref u])))) _ d2) (dpa_one (d := clD [-((k0 + 1 + 1 : Nat) : Int), -sVar m M k0 M]) (.tup (SqT.of (xs := [.int (-((k0 + 1 + 1 : Nat) : Int)), .int (-sVar m M k0 M)]) (by rw [hide_ne nu, upd_ne nu, upd_same, v1])) (ints_all [-((k0 + 1 + 1 : Nat) : Int), -sVar m M k0 M])))
            have ec : cntRow m M (k0 + 1) = [[-((k0 + 1 + 1 : Nat) : Int), sVar m M (k0 + 1) 1]] ++ ((List.range M).map fun j => [-sVar m M k0 (j + 1), sVar m M (k0 + 1) (j + 1)]) ++ ((List.range (M - 1)).map fun j => [-((k0 + 1 + 1 : Nat) : Int), -sVar m M k0 (j + 1), sVar m M (k0 + 1) (j + 2)]) ++ [[-((k0 + 1 + 1 : Nat) : Int), -sVar m M k0 M]] := by
              unfold cntRow
              rw [if_neg hM0, if_neg (by omega), show k0 + 1 - 1 = k0 by omega]
              simp
            rw [ec, List.map_append]
            exact d3
        · have hi0 : i = 0 := by
            have c : ¬ ((1 : Int) < ((i + 1 : Nat) : Int)) := fun z => c (decide_eq_true z)
            omega
          refine ⟨[.ref t], [], rfl, sA, upd_same, ?_⟩
          rw [show cntRow m M i = [[-((i + 1 : Nat) : Int), sVar m M i 1]] by unfold cntRow; rw [if_neg hM0, if_pos hi0]]
          exact d0
      · rintro σ' H' ⟨zs, cs, rfl, s', hR', hz⟩
        exact ⟨_, rfl, q H' R zs s' (by
          cases e : H R with
          | none => rfl
          | some o => rw [same_new ht _ _ _ e] at hR; cases hR) hR' hz⟩
end
end My

set_option Elab.async false
set_option maxRecDepth 100000
set_option maxHeartbeats 4000000
set_option linter.all false
/-! enumerate(tuple) -/
namespace My
open PySem PySem.Spec PyProof.Rows L2
theorem meets_enumerate_newV {v : Value} {o : Obj} {H : Heap → Prop} (B : Begins v o H) :
    Meets (Builtin.«enumerate.__new__» ⟨[.type "enumerate", v], []⟩) (fun _ R s => H s.heap ∧
      R (.ok (.ret (.ref (s.heap.push o).objs.size))) { s with heap := (s.heap.push o).push { cls := .type "enumerate", data := .fields #[.none, .bool false, .ref s.heap.objs.size, rawInt 0, .none, .none] } }) :=
  .of_wp fun prog w A R s h => by
    obtain ⟨hp, g, d, tk, os⟩ := s; obtain ⟨h1, h⟩ := h
    have hsub := sub_enumerate
    have q1 : ∀ {A' : Around} {E : Value → Shared → Prop} {Q : Value → Shared → Prop}, Q (.ref hp.objs.size) ⟨hp.push o, g, d, tk, os⟩ → wpAny (model prog w) A' (pyIter v) Q E ⟨hp, g, d, tk, os⟩ :=
      fun q => B.iter prog w _ _ ⟨hp, g, d, tk, os⟩ _ h1 q
    wp_walk using q1
    refine wpAny_stack_any fun st => wpAny_pure ?_
    split
    · rename_i c _ _ _ _ _
      cases (c == Value.type "enumerate")
      · wp_walk using q1
        exact ⟨_, rfl, h⟩
      · wp_walk using q1
        exact ⟨_, rfl, h⟩
    · wp_walk using q1
      exact ⟨_, rfl, h⟩
theorem call_enumerate_tuple {prog : Program} {w : World} {A : Around} {E : Value → Shared → Prop} {s : Shared} {l : Addr} {items : Array Value} {Q : Value → Shared → Prop} (hL : s.heap.IsTuple l items)
    (h : ∀ h', IsEnum h' (s.heap.objs.size + 1) s.heap.objs.size 0 .none → h'.IsTupleIter s.heap.objs.size l 0 → h'.objs.size = s.heap.objs.size + 2 →
      (∀ b o, s.heap.get? b = some o → h'.get? b = some o) → Q (.ref (s.heap.objs.size + 1)) { s with heap := h' }) :
    wpAny (model prog w) A (call (.type "enumerate") [.ref l]) Q E s := by
  have B := begins_tuple l items
  refine callType_new F.called_enumerate (by decide) (F.typeCall_enumerate_1 _) (F.newCall_enumerate_1 _) (fun obj => F.args_object_init_2 obj _) F.entry_enumerate_new
    (meets_enumerate_newV B) ⟨hL, ?_⟩
  have hz : (s.heap.push { cls := .type "tuple_iterator", data := .fields #[.ref l, .int 0 0] }).objs.size = s.heap.objs.size + 1 := Heap.size_push ..
  show _ ∧ _
  rw [hz]
  have he : IsEnum ((s.heap.push { cls := .type "tuple_iterator", data := .fields #[.ref l, .int 0 0] }).push { cls := .type "enumerate", data := .fields #[.none, .bool false, .ref s.heap.objs.size, rawInt 0, .none, .none] }) (s.heap.objs.size + 1) s.heap.objs.size 0 .none := by
    have := Heap.get?_push_size (s.heap.push { cls := .type "tuple_iterator", data := .fields #[.ref l, .int 0 0] }) (o := { cls := .type "enumerate", data := .fields #[.none, .bool false, .ref s.heap.objs.size, rawInt 0, .none, .none] }) rfl
    rw [hz] at this; exact this
  refine ⟨⟨_, he, rfl⟩, h _ he ⟨_, Heap.get?_push_of_some _ (Heap.get?_push_size _ rfl), rfl, rfl⟩ (by rw [Heap.size_push, hz]) fun b o x => Heap.get?_push_of_some _ (Heap.get?_push_of_some _ x)⟩
/-- the tuple at a, each item in a new pair -/
def IteT (K : PySem.W.Frag) (a : Addr) : It :=
  ⟨fun i H => ∃ (xs : List V) (x : V), SqT K H a xs ∧ xs[i]? = some x, fun i H v H' => ∃ T x, v = .ref T ∧ H T = none ∧ H' = upd H T (.tup [.int (i : Nat), x]) ∧ ∀ xs, SqT K H a xs → xs[i]? = some x, fun i H => ∃ xs : List V, SqT K H a xs ∧ xs.length ≤ i⟩
theorem turn_enumT {P : Program} {w : World} {K : PySem.W.Frag} {elts : List Expr} {kk : Nat} {tpos : Pos} (a e it : Addr) :
    Turn P w K (.Tuple elts kk tpos) (IteT K a) [e, it] e (fun i h => (∃ old, IsEnum h e it ((i : Nat) : Int) old) ∧ h.IsTupleIter it a i ∧ e ≠ it ∧ a ≠ it ∧ a ≠ e) where
  mem := by simp
  obj := fun i h st b hb => by
    obtain ⟨⟨old, he⟩, ⟨o, ho, hc, hd⟩, _⟩ := st
    have e' : b = e ∨ b = it := by simpa using hb
    rcases e' with z | z
    · rw [z]; exact ⟨_, he, fun v q => nomatch q⟩
    · rw [z]; exact ⟨o, ho, fun v q => by rw [hd] at q; cases q⟩
  keep := fun i h h' st k => let ⟨⟨old, he⟩, hi, hne⟩ := st; ⟨⟨old, k e (by simp) _ he⟩, hi.at fun o q => k it (by simp) o q, hne⟩
  item := by
    intro X hP hw hK hc i pins s σ H E I hf st hg
    subst hP hw hK
    obtain ⟨⟨old, he⟩, hit, hne, hai, hae⟩ := st
    obtain ⟨xs, x, hq, hx⟩ := hg
    obtain ⟨its, rv, p, hz⟩ := I.tuple hq
    obtain ⟨u, hu, ru⟩ := rv.get hx
    have hel : e < s.heap.objs.size := Heap.lt_size he
    have hil : it < s.heap.objs.size := by obtain ⟨_, q, _⟩ := hit; exact Heap.lt_size q
    have hlt : i < its.toArray.size := by
      have := (List.getElem?_eq_some_iff.mp hu).1
      simpa using this
    refine wpAny_pyNext_enum_itemD (Draws.tuple (A := X.A.in1) (I.ok.hd hc) it a hai its.toArray) he (show s.heap.IsTupleIter it a i ∧ s.heap.IsTuple a its.toArray from ⟨hit, p⟩) hlt hne (by simp [hne, Ne.symm hae]) fun y h' tk hy ho hst hT hsz hk => ?_
    have ey : y = u := by
      have hy' : its.toArray[i]? = some y := hy
      rw [show its.toArray[i]? = some u by simpa using hu] at hy'
      exact (Option.some.inj hy').symm
    subst ey
    refine ⟨_, rfl, wpAny_letOwnedTupleGo_enum (s := { s with heap := h', toks := tk + 1 }) ho fun h'' he' sb => ?_⟩
    have hT2 : h''.get? s.heap.objs.size = some { cls := .type "tuple", data := .seq #[.int i tk, y] } := (sb.2 _ (Nat.ne_of_gt hel)).trans hT
    have new : ObjOk X.prog X.w (upd H s.heap.objs.size (.tup [.int (i : Nat), x])) h'' s.heap.objs.size (.tup [.int (i : Nat), x]) :=
      ⟨by show 2 ≤ sizeLine; decide, [.int i tk, y], .cons ⟨_, rfl⟩ (.cons ru .nil), ⟨_, hT2, rfl, _, rfl⟩⟩
    have I1 : Inv X pins σ (upd H s.heap.objs.size (.tup [.int (i : Nat), x])) { s with heap := h'', toks := tk + 1 } :=
      I.turnedNew (ch := [e, it]) (fun b ob hb q => (sb.2 b (fun z => hb (by simp [z]))).trans (hk b ob (fun z => hb (by simp [z])) (fun z => hb (by simp [z])) q)) hf (Nat.le_refl _) new
    refine ⟨.ref s.heap.objs.size, _, I1, rfl, ⟨_, x, rfl, I.hok.fresh (Nat.le_refl _), rfl, fun ys hy => by rw [I.tuple_inj hy hq]; exact hx⟩, ⟨⟨y, ?_⟩, hst.1.at fun o q => (sb.2 it (Ne.symm hne)).trans q, hne, hai, hae⟩, fun b hb => ?_⟩
    · have e1 : ((i + 1 : Nat) : Int) = (i : Int) + 1 := by omega
      rw [e1]; exact he'
    · have hb' : b < s.heap.objs.size := by
        have e' : b = e ∨ b = it := by simpa using hb
        rcases e' with z | z
        · rw [z]; exact hel
        · rw [z]; exact hil
      rw [upd_ne (Nat.ne_of_lt hb')]
      exact (hf b hb).1
  done := by
    intro X hP hw hK hc i pins s σ H E I hf st hg
    subst hP hw hK
    obtain ⟨⟨old, he⟩, hit, hne, hai, hae⟩ := st
    obtain ⟨xs, hq, hx⟩ := hg
    obtain ⟨its, rv, p, hz⟩ := I.tuple hq
    obtain ⟨f0, f1, f2, f3, f4, f5⟩ := hf it (by simp)
    have hl := rv.length
    have hT : s.TypeIs (.ref e) "enumerate" := ⟨_, he, rfl⟩
    unfold pyNext
    refine wpAny_bind (wpAny_attempt (wpAny_callSpecial?_slot (name := Str.ofString "__next__") hT F.slot_enumerate_next
      (wpAny_call_entry F.slot_enumerate_next hT F.entry_enumerate_next ?_ (F.args_enumerate_next_1 _))))
    show wpAny _ _ (field (.ref e) 2 >>= _) _ _ _
    refine wpAny_bind (wpAny_field he rfl (x := .ref it) rfl ?_)
    refine wpAny_bind (wpAny_nextOf_tuple_end (A := X.A.in1) (I.ok.hd hc) hit p (by simp; omega) fun h' x he' hx' => ?_)
    obtain ⟨o, ho, hc'⟩ := hx'
    refine wpAny_bind (wpAny_isInstance (T := "StopIteration") (b := true) ⟨o, ho, hc'⟩ isSubtype_stop ?_)
    exact wpAny_pure ⟨rfl, I.turned (t' := s.toks) (fun b o hb q => he' b o hb q) f0 f1 f3 f4 f5⟩
  self := fun A i s Q E st h => let ⟨⟨_, he⟩, _⟩ := st; wpAny_pyIter_enum he h
def iEnumT (K : PySem.W.Frag) (ta : TA) : TI := fun σ H R => ta σ H fun vs H1 => ∃ a xs, vs = [.ref a] ∧ SqT K H1 a xs ∧ R (IteT K a) H1
theorem pi_enumT {X : Cx} {e : Expr} {ta : TA} {p pos tpos : Pos} {elts : List Expr} {kk : Nat} (hg : Gl X "enumerate") (hm : X.mg "enumerate" = none) (ha : PA X [e] ta) (hs : starEach [e] X.env = [(false, eval e X.env)] := by rfl) :
    PI X (.Tuple elts kk tpos) (.Call (.Name "enumerate" p) [e] [] pos) (iEnumT X.K ta) := by
  refine ⟨fun pins s σ H R I h => ?_⟩
  refine Call_ (ld_blt I hg hm boot_enumerate (PyProof.Rows.callWith_type1 (thn (ha.run pos pins s σ H _ I h) fun us s1 ⟨vs, H1, I1, r1, q1⟩ => ?_) hs rfl))
  obtain ⟨a, xs, ex, hq, q⟩ := q1
  subst ex
  cases r1 with
  | cons r rr =>
    cases rr
    cases r
    obtain ⟨its, rv, p', hz⟩ := I1.tuple hq
    have hal : a < s1.heap.objs.size := by obtain ⟨_, q, _⟩ := p'; exact Heap.lt_size q
    refine call_enumerate_tuple (show s1.heap.IsTuple a its.toArray from p') fun h' he hit hsz hk => wpAny_pyIter_enum he ?_
    have I2 : Inv X pins σ H1 { s1 with heap := h' } := I1.kept (t' := s1.toks) hk
    refine ⟨s1.heap.objs.size + 1, [s1.heap.objs.size + 1, s1.heap.objs.size], _, _, H1, rfl, I2, turn_enumT a (s1.heap.objs.size + 1) s1.heap.objs.size, ⟨⟨.none, he⟩, hit, Nat.succ_ne_self _, Nat.ne_of_lt hal, Nat.ne_of_lt (Nat.lt_succ_of_lt hal)⟩, fun b hb => ?_, q⟩
    have e' : b = s1.heap.objs.size + 1 ∨ b = s1.heap.objs.size := by simpa using hb
    have hle : s1.heap.objs.size ≤ b := by
      rcases e' with z | z
      · rw [z]; exact Nat.le_add_right _ _
      · rw [z]; exact Nat.le_refl _
    exact I1.fpOk hle (I1.hok.fresh hle)
theorem walk_enumT {K : PySem.W.Frag} {a : Addr} {xs : List V} : Walk (IteT K a) xs.length (fun H => SqT K H a xs) (YPair (fun i => some (.int (i : Nat))) (fun i => xs[i]?)) := by
  refine ⟨fun i _ hi q => ⟨xs, xs[i], q, by simp [hi]⟩, fun _ q => ⟨xs, q, Nat.le_refl _⟩, fun i H v H' _ q y => ?_⟩
  obtain ⟨T, x, h1, h2, h3, h4⟩ := y
  exact ⟨T, .int (i : Nat), x, h1, h2, h3, rfl, h4 xs q⟩
end My

set_option Elab.async false
set_option maxRecDepth 100000
set_option maxHeartbeats 400000
set_option linter.all false
/-! enumerate(t, start=1) of a tuple. -/
namespace My
open PySem PySem.Spec PyProof.Rows L2
/-- the tuple at a, each item in a new pair with its number from 1 on -/
def Ite1T (K : PySem.W.Frag) (a : Addr) : It :=
  ⟨fun i H => ∃ (xs : List V) (x : V), SqT K H a xs ∧ xs[i]? = some x, fun i H v H' => ∃ T x, v = .ref T ∧ H T = none ∧ H' = upd H T (.tup [.int ((i + 1 : Nat) : Int), x]) ∧ ∀ xs, SqT K H a xs → xs[i]? = some x, fun i H => ∃ xs : List V, SqT K H a xs ∧ xs.length = i⟩
theorem turn_enum1T {P : Program} {w : World} {K : PySem.W.Frag} {elts : List Expr} {kk : Nat} {tpos : Pos} (a e it : Addr) (hat : a ≠ it) (hae : a ≠ e) :
    Turn P w K (.Tuple elts kk tpos) (Ite1T K a) [e, it] e (fun i h => (∃ old, IsEnum h e it ((i + 1 : Nat) : Int) old) ∧ h.IsTupleIter it a i ∧ e ≠ it) where
  mem := by simp
  obj := fun i h st b hb => by
    obtain ⟨⟨old, he⟩, ⟨o, ho, hc, hd⟩, _⟩ := st
    have e' : b = e ∨ b = it := by simpa using hb
    rcases e' with z | z
    · rw [z]; exact ⟨_, he, fun v q => nomatch q⟩
    · rw [z]; exact ⟨o, ho, fun v q => by rw [hd] at q; cases q⟩
  keep := fun i h h' st k => let ⟨⟨old, he⟩, hi, hne⟩ := st; ⟨⟨old, k e (by simp) _ he⟩, hi.at fun o q => k it (by simp) o q, hne⟩
  item := by
    intro X hP hw hK hc i pins s σ H E I hf st hg
    subst hP hw hK
    obtain ⟨⟨old, he⟩, hit, hne⟩ := st
    obtain ⟨xs, x, hq, hx⟩ := hg
    obtain ⟨its, rv, p, hz⟩ := I.tuple hq
    obtain ⟨u, hu, ru⟩ := rv.get hx
    have hel : e < s.heap.objs.size := Heap.lt_size he
    have hil : it < s.heap.objs.size := by obtain ⟨_, q, _⟩ := hit; exact Heap.lt_size q
    have hiu : i < its.length := (List.getElem?_eq_some_iff.mp hu).1
    have DD := draws_shift (Draws.tuple (prog := X.prog) (w := X.w) (A := X.A.in1) (I.ok.hd hc) it a hat its.toArray)
    refine wpAny_pyNext_enum_itemD DD (i := i + 1) he ⟨Nat.succ_le_succ (Nat.zero_le _), hit, p⟩ (by rw [List.size_toArray]; omega) hne (by simp [hne, Ne.symm hae]) fun x' h' tk px ho st' hT hsz hk => ?_
    have ex : x' = u := by
      have px' : its.toArray[i]? = some x' := px
      have : its.toArray[i]? = some u := by simpa using hu
      rw [this] at px'
      exact (Option.some.inj px').symm
    subst ex
    refine ⟨_, rfl, wpAny_letOwnedTupleGo_enum (s := { s with heap := h', toks := tk + 1 }) ho fun h'' he' sb => ?_⟩
    have hT2 : h''.get? s.heap.objs.size = some { cls := .type "tuple", data := .seq #[.int ((i + 1 : Nat) : Int) tk, x'] } := (sb.2 _ (Nat.ne_of_gt hel)).trans hT
    have new : ObjOk X.prog X.w (upd H s.heap.objs.size (.tup [.int ((i + 1 : Nat) : Int), x])) h'' s.heap.objs.size (.tup [.int ((i + 1 : Nat) : Int), x]) :=
      ⟨by show 2 ≤ sizeLine; decide, [.int ((i + 1 : Nat) : Int) tk, x'], .cons ⟨_, rfl⟩ (.cons ru .nil), ⟨_, hT2, rfl, _, rfl⟩⟩
    have I1 : Inv X pins σ (upd H s.heap.objs.size (.tup [.int ((i + 1 : Nat) : Int), x])) { s with heap := h'', toks := tk + 1 } :=
      I.turnedNew (ch := [e, it]) (fun b ob hb q => (sb.2 b (fun z => hb (by simp [z]))).trans (hk b ob (fun z => hb (by simp [z])) (fun z => hb (by simp [z])) q)) hf (Nat.le_refl _) new
    refine ⟨.ref s.heap.objs.size, _, I1, rfl, ⟨_, x, rfl, I.hok.fresh (Nat.le_refl _), rfl, fun ys hy => by rw [I.tuple_inj hy hq]; exact hx⟩, ⟨⟨x', ?_⟩, st'.2.1.at fun o q => (sb.2 it (Ne.symm hne)).trans q, hne⟩, fun b hb => ?_⟩
    · have e1 : ((i + 1 + 1 : Nat) : Int) = ((i + 1 : Nat) : Int) + 1 := by omega
      rw [e1]; exact he'
    · have hb' : b < s.heap.objs.size := by
        have e' : b = e ∨ b = it := by simpa using hb
        rcases e' with z | z
        · rw [z]; exact hel
        · rw [z]; exact hil
      rw [upd_ne (Nat.ne_of_lt hb')]
      exact (hf b hb).1
  done := by
    intro X hP hw hK hc i pins s σ H E I hf st hg
    subst hP hw hK
    obtain ⟨⟨old, he⟩, hit, hne⟩ := st
    obtain ⟨xs, hq, hx⟩ := hg
    obtain ⟨its, rv, p, hz⟩ := I.tuple hq
    obtain ⟨f0, f1, f2, f3, f4, f5⟩ := hf it (by simp)
    have hl := rv.length
    have DD := draws_shift (Draws.tuple (prog := X.prog) (w := X.w) (A := X.A.in1) (I.ok.hd hc) it a hat its.toArray)
    refine wpAny_pyNext_enum_endD DD he ⟨Nat.succ_le_succ (Nat.zero_le _), ?_, p⟩ fun h' eb => ⟨rfl, I.turned (t' := s.toks) (fun b o hb q => eb b o hb q) f0 f1 f3 f4 f5⟩
    have ei : its.toArray.size = i := by rw [List.size_toArray]; omega
    show s.heap.IsTupleIter it a (its.toArray.size + 1 - 1)
    rw [ei]
    exact hit
  self := fun A i s Q E st h => let ⟨⟨_, he⟩, _⟩ := st; wpAny_pyIter_enum he h
def iEnum1T (K : PySem.W.Frag) (ta : TE) : TI := fun σ H R => ta σ H fun x H1 => ∃ a xs, x = .ref a ∧ SqT K H1 a xs ∧ R (Ite1T K a) H1
theorem pi_enum1T {X : Cx} {K : PySem.W.Frag} (hK : X.K = K) {e : Expr} {ta : TE} {p pos tpos kpos : Pos} {elts : List Expr} {kk : Nat} {j : Nat} {jp : Pos} (hg : Gl X "enumerate") (hm : X.mg "enumerate" = none) (ha : PE X e ta)
    (hs : starEach [e] X.env = (false, eval e X.env) :: starEach [] X.env := by rfl) (hb : backTo pos (starEach [e] X.env) = (false, eval e X.env) :: backTo pos (starEach [] X.env) := by rfl) (hpl : (backTo pos (starEach [e] X.env)).any (·.1) = false := by rfl) :
    PI X (.Tuple elts kk tpos) (.Call (.Name "enumerate" p) [e] [⟨some "start", .Constant (.int 1) j jp, kpos⟩] pos) (iEnum1T K ta) := by
  subst hK
  refine ⟨fun pins s σ H R I h => ?_⟩
  have h' : tCons ta tNil σ H (fun vs H1 => match vs with
    | [x] => ∃ a xs, x = .ref a ∧ SqT X.K H1 a xs ∧ R (Ite1T X.K a) H1
    | _ => False) := h
  refine wpAny_Call_Name_kw (ld_blt I hg hm boot_enumerate ?_)
  refine callWith_typeKw (thn ((pa_cons ha pa_nil hs).run pos pins s σ H _ I h') fun us s1 ⟨vs, H1, I1, r1, q1⟩ => ?_) hb hpl rfl rfl
  obtain ⟨x, rfl⟩ : ∃ x, vs = [x] := by
    match vs, q1 with
    | [x], _ => exact ⟨x, rfl⟩
  obtain ⟨a, xs, rfl, hq, q⟩ := q1
  obtain rfl := Vals.ref1 r1
  refine wpAny_evalAll_cons (wpAny_bind (wpAny_Constant_int (wpAny_bind (wpAny_standAt (wpAny_pure (wpAny_evalAll_nil ?_))))))
  have I1' := I1.tok (s1.toks + 1)
  obtain ⟨its, rv, p', hz⟩ := I1'.tuple hq
  have hal : a < s1.heap.objs.size := by
    obtain ⟨o, ho, _⟩ := p'
    exact Heap.lt_size ho
  refine enum_begins_start (begins_tuple a its.toArray) p' (by decide) (by decide) fun h' he hit hsz hk => wpAny_pyIter_enum he ?_
  have I2 : Inv X pins σ H1 { s1 with heap := h', toks := s1.toks + 1 } := I1'.kept (t' := s1.toks + 1) hk
  refine ⟨s1.heap.objs.size + 1, [s1.heap.objs.size + 1, s1.heap.objs.size], _, _, H1, rfl, I2, turn_enum1T a (s1.heap.objs.size + 1) s1.heap.objs.size (Nat.ne_of_lt hal) (Nat.ne_of_lt (Nat.lt_succ_of_lt hal)), ⟨⟨.none, he⟩, ⟨_, hit, rfl, rfl⟩, Nat.succ_ne_self _⟩, fun b hb => ?_, q⟩
  have e' : b = s1.heap.objs.size + 1 ∨ b = s1.heap.objs.size := by simpa using hb
  have hle : s1.heap.objs.size ≤ b := by
    rcases e' with z | z
    · rw [z]; exact Nat.le_add_right _ _
    · rw [z]; exact Nat.le_refl _
  exact I1.fpOk hle (I1.hok.fresh hle)
theorem walk_enum1T {K : PySem.W.Frag} {a : Addr} {xs : List V} : Walk (Ite1T K a) xs.length (fun H => SqT K H a xs) (YPair (fun i => some (.int ((i + 1 : Nat) : Int))) (fun i => xs[i]?)) := by
  refine ⟨fun i _ hi q => ⟨xs, xs[i], q, by simp [hi]⟩, fun _ q => ⟨xs, q, rfl⟩, fun i H v H' _ q y => ?_⟩
  obtain ⟨T, x, h1, h2, h3, h4⟩ := y
  exact ⟨T, .int ((i + 1 : Nat) : Int), x, h1, h2, h3, rfl, h4 xs q⟩
end My

set_option Elab.async false
set_option maxRecDepth 100000
set_option maxHeartbeats 4000000
set_option linter.all false
/-! dict(pairs), the keys tuples; len of a set. -/
namespace My
open PySem PySem.Spec PyProof.Rows L2
theorem storedAll_new : ∀ (ps acc : List (NK × Addr × Value)), ((acc ++ ps).map (·.1)).Nodup → storedAllH acc ps = acc ++ ps
  | [], acc, _ => by rw [List.append_nil]; rfl
  | p :: ps, acc, h => by
    have hno : atKey acc p.1 = none := by
      unfold atKey
      cases e : acc.find? _ with
      | none => rfl
      | some q =>
        exfalso
        have h1 := List.mem_of_find?_eq_some e
        have h2 := List.find?_some e
        have h2 : q.1 = p.1 := by simpa using h2
        rw [List.map_append, List.map_cons, List.nodup_append] at h
        exact h.2.2 q.1 (List.mem_map.mpr ⟨q, h1, rfl⟩) p.1 (.head _) h2
    show storedAllH (storedH acc p.1 p.2.1 p.2.2) ps = _
    rw [storedH_new hno]
    have := storedAll_new ps (acc ++ [(p.1, p.2.1, p.2.2)]) (by rw [List.append_assoc]; exact h)
    rw [this, List.append_assoc]
    rfl
/-- the rows of a list of pairs -/
def PairRow (K : PySem.W.Frag) (H : Hp) (t : Addr) (x : NRow) : Prop := SqT K H t [.ref x.2.1, x.2.2] ∧ Dp K H (.ref x.2.1) x.1.data ∧ x.1.depth ≤ 8
section
variable {X : Cx}
theorem rows_pairs {pins : List (Addr × Obj)} {σ : L2.St} {H : Hp} {s : Shared} (I : Inv X pins σ H s) : ∀ {ts : List Addr} {xs : NRows}, Paired (PairRow X.K H) ts xs →
    ∃ vs : List (NK × Addr × Value), Paired NRel xs vs ∧ vs.length = ts.length ∧ (∀ (j : Nat) (q : NK × Addr × Value), vs[j]? = some q → ∃ b, ts[j]? = some b ∧ s.heap.IsTuple b #[.ref q.2.1, q.2.2]) ∧ ∀ q ∈ vs, NestedIs s.heap q.1 (.ref q.2.1) ∧ q.1.depth ≤ 8
  | _, _, .nil => ⟨[], .nil, rfl, fun j q e => by simp at e, fun q h => nomatch h⟩
  | _, _, .cons (a := t) (b := x) h r => by
    obtain ⟨vs, r1, hl, hp, hk⟩ := rows_pairs I r
    obtain ⟨its, rv, ht, _⟩ := I.tuple h.1
    obtain ⟨u, y, ei, ru, ry⟩ := vals2 rv
    subst ei
    cases ru
    refine ⟨(x.1, x.2.1, y) :: vs, .cons ⟨rfl, rfl, ry⟩ r1, by rw [List.length_cons, List.length_cons, hl], fun j q e => ?_, fun q hq => ?_⟩
    · cases j with
      | zero =>
        have e' : (x.1, x.2.1, y) = q := Option.some.inj e
        subst e'
        exact ⟨t, rfl, ht⟩
      | succ j =>
        obtain ⟨b, e1, e2⟩ := hp j q (by simpa using e)
        exact ⟨b, by simpa using e1, e2⟩
    · rcases List.mem_cons.mp hq with e | e
      · rw [e]
        exact ⟨dp_nested I x.1 _ _ h.2.1 rfl, h.2.2⟩
      · exact hk q e
theorem paired_keys {xs : NRows} {vs : List (NK × Addr × Value)} (r : Paired NRel xs vs) : vs.map (·.1) = xs.map (·.1) := by
  induction r with
  | nil => rfl
  | cons h _ ih => rw [List.map_cons, List.map_cons, ih, h.1]
/-- dict(xs) of a list of pairs (key, value), no key twice -/
def rDictN (K : PySem.W.Frag) (P : Program) (w : World) : List V → Hp → VK → Prop := fun xs H Q => ∃ (a : Addr) (ts : List Addr) (rows : NRows), xs = [V.ref a] ∧ SqL K H a (ts.map V.ref) ∧ Paired (PairRow K H) ts rows ∧ (rows.map (·.1)).Nodup ∧
  ∀ d, H d = none → Q (.ref d) (upd H d (dnO P w d rows))
theorem call_dictN {K : PySem.W.Frag} (hK : X.K = K) (hcalm : X.calm = true) (hu : X.A.units + 65 < cLine) : CallR X (.type "dict") (rDictN K X.prog X.w) := by
  subst hK
  intro pins s σ H xs us Q I r q
  obtain ⟨a, ts, rows, ex, hq, hp, hnd, q⟩ := q
  subst ex
  obtain ⟨u, eu, rx⟩ := vals1 r
  subst eu
  cases rx
  obtain ⟨its, rv, pl, hz⟩ := I.list hq
  have ei := refs_at rv
  subst ei
  rw [List.length_map] at hz
  obtain ⟨vs, rel, hl, hpr, hkk⟩ := rows_pairs I hp
  obtain ⟨o, n, ho, hc, hd, hdat⟩ := pl
  have hndv : (vs.map (·.1)).Nodup := by rw [paired_keys rel]; exact hnd
  have hst := storedAll_new vs [] hndv
  have hat : ∀ j, j < vs.length → ts[j]? = some (ts.getD j 0) := fun j hj => by
    rw [List.getD_eq_getElem?_getD, List.getElem?_eq_getElem (by omega)]
    rfl
  obtain ⟨prs, eprs⟩ : ∃ prs : List (Value × Value), prs = vs.map fun q => (Value.ref q.2.1, q.2.2) := ⟨_, rfl⟩
  have lprs : prs.length = vs.length := by rw [eprs, List.length_map]
  have ok1 : PairItems s.heap (ts.map Value.ref).toArray (fun j => ts.getD j 0) prs := by
    refine ⟨by rw [List.size_toArray, List.length_map, lprs, hl], fun j k v e => ?_⟩
    rw [eprs, List.getElem?_map] at e
    cases hq' : vs[j]? with
    | none => rw [hq'] at e; cases e
    | some q' =>
      rw [hq'] at e
      obtain ⟨b, e1, e2⟩ := hpr j q' hq'
      have e3 := hat j (List.getElem?_eq_some_iff.mp hq').1
      rw [e3] at e1
      cases e1
      cases e
      refine ⟨by simp [List.getD_eq_getElem?_getD] at e3 ⊢; rw [e3]; rfl, .inl e2⟩
  have hc1 : PairsHaveH (nestedKind X.prog X.w) prs.length (PairRel prs) vs := by
    refine ⟨lprs.symm, fun i key v e => ?_⟩
    have e : prs[i]? = some (key, v) := e
    rw [eprs, List.getElem?_map] at e
    cases hq' : vs[i]? with
    | none => rw [hq'] at e; cases e
    | some q' =>
      rw [hq'] at e
      cases e
      exact ⟨q'.1, q'.2.1, rfl, rfl⟩
  have hs1 : KeysStay (nestedKind X.prog X.w) s.heap s.heap.objs.size [] vs := fun h' hk x hx => by
    obtain ⟨k1, k2⟩ := hkk x hx
    exact ⟨NestedIs.at (fun b o us n' e _ => hk b o (Nat.ne_of_lt (Heap.lt_size e)) (fun z => nomatch z) e) _ _ k1, k2⟩
  refine call_dict_pairsH (PairArg.list a (ts.map Value.ref).toArray (fun j => ts.getD j 0) prs) (I.ok.hd hcalm) (by show X.A.units + 1 + 1 + 8 < cLine; omega) ⟨⟨o, n, ho, hc, hd, hdat⟩, ok1⟩ hc1 hs1 (by omega) fun h' tk hd' k => ?_
  · rw [hst, List.nil_append] at hd'
    have k' : ∀ b o, s.heap.get? b = some o → h'.get? b = some o := fun b o e => k b o (fun z => nomatch z) e
    have hm : (s.heap.objs.size == sysModules) = false := beq_eq_false_iff_ne.mpr (Nat.ne_of_gt I.big)
    obtain ⟨o', es, ep, g1, g2, g3, g4, _, g5⟩ := hd'
    exact ⟨.ref s.heap.objs.size, upd H s.heap.objs.size (dnO X.prog X.w s.heap.objs.size rows), I.laid (t' := tk) k' (Nat.le_refl _) (dnO_ok ⟨hm, vs, rel, o', es, ep, g1, g2, g3, g4, g5⟩), rfl, q _ (I.hok.fresh (Nat.le_refl _))⟩
/-- len of a set -/
theorem call_lenV : CallR X (.builtin "len") (fun xs H Q => ∃ (p : Addr) (vs : List V), xs = [.ref p] ∧ H p = some (SetV X.w p vs) ∧ Q (.int vs.length) H) := by
  intro pins s σ H xs us Q I r q
  obtain ⟨p, vs, rfl, hp, q⟩ := q
  obtain ⟨u, rfl, ru⟩ := vals1 r
  obtain rfl : u = Value.ref p := ru
  have R : SetV0 X.w s.heap p vs := (I.hok p _ hp).1
  obtain ⟨es, ep, t, ⟨o, ho, hex, hd⟩, hf, _, _, hz, rv⟩ := R.ex
  have hl : es.size = vs.length := by
    have := rv.length
    rw [List.length_map] at this
    simpa using this.symm
  exact call_len_set ho hex hd hf (by omega) ⟨.int vs.length, H, I.tok _, ⟨_, by rw [hl]⟩, q⟩
end
end My

set_option linter.all false
namespace My
open PySem L2
theorem room65 {A : Around} {k : Nat} (hr : Room k A) : A.units + 65 < cLine := by have := hr.un; omega
end My

set_option Elab.async false
set_option maxRecDepth 100000
set_option maxHeartbeats 4000000
set_option linter.all false
namespace My
open PySem L2 PyProof.Rows
open C8 (pss_cut)
section
variable {X : Cx} {K : PySem.W.Frag}
theorem ix_NK60 {P : Program} {w : World} (hP : X.prog = P) (hw : X.w = w) (h : X.K = K) (hu : X.A.units + 65 < cLine) : IxR X (rIxN P w K) := hP ▸ hw ▸ h ▸ ix_N hu
end
def setD (S : List Nat) : PyData := .tuple (S.map itD)
def setsD (sets : List (List Nat)) : PyData := .tuple (sets.map setD)
structure SetsOk (sets : List (List Nat)) : Prop where
  few : sets.length ≤ 9
  ok : ∀ S ∈ sets, Asc S ∧ ∀ r ∈ S, r < 5
theorem dpa_atS {K : PySem.W.Frag} {H : Hp} {xs : List V} {sets : List (List Nat)} {i : Nat} {v : V} (h : DpAll K H xs (sets.map setD)) (e : xs[i]? = some v) : ∃ S t us, sets[i]? = some S ∧ v = .ref t ∧ SqT K H t us ∧ DpAll K H us (S.map itD) := by
  obtain ⟨d, hd, hv⟩ := dpa_get h e
  rw [List.getElem?_map] at hd
  cases hc : sets[i]? with
  | none => rw [hc] at hd; cases hd
  | some S =>
    rw [hc] at hd
    obtain rfl := Option.some.inj hd
    obtain ⟨t, us, rfl, ht, hts⟩ := dp_tup (show Dp K H v (.tuple (S.map itD)) from hv)
    exact ⟨S, t, us, rfl, rfl, ht, hts⟩
theorem dpa_atI {K : PySem.W.Frag} {H : Hp} {xs : List V} {S : List Nat} {i : Nat} {v : V} (h : DpAll K H xs (S.map itD)) (e : xs[i]? = some v) : ∃ r t, S[i]? = some r ∧ v = .ref t ∧ Dp K H (.ref t) (itD r) := by
  obtain ⟨d, hd, hv⟩ := dpa_get h e
  rw [List.getElem?_map] at hd
  cases hc : S[i]? with
  | none => rw [hc] at hd; cases hd
  | some r =>
    rw [hc] at hd
    obtain rfl := Option.some.inj hd
    obtain ⟨t, rfl, ht⟩ := it_at hv
    exact ⟨r, t, rfl, rfl, hv⟩
theorem items_noLst : ∀ S : List Nat, noLsts (S.map itD) = true := noLsts_map it_noLst
theorem perm_of_map {α β : Type} {g : β → α} {qs : List α} {rs : List β} (h : qs.Perm (rs.map g)) : ∃ rs' : List β, qs = rs'.map g ∧ rs'.Perm rs := by
  have e : PySem.W.EachIs (fun (u : α) (b : β) => u = g b) (rs.map g) rs := by
    induction rs with
    | nil => exact .nil
    | cons r rs ih =>
      rw [List.map_cons]
      have : ∀ rs : List β, PySem.W.EachIs (fun (u : α) (b : β) => u = g b) (rs.map g) rs := fun rs => by
        induction rs with
        | nil => exact .nil
        | cons r rs ih => exact .cons rfl ih
      exact .cons rfl (this rs)
  obtain ⟨rs', e', p⟩ := each_perm h e
  refine ⟨rs', ?_, p⟩
  clear p e h
  induction e' with
  | nil => rfl
  | cons h _ ih => rw [List.map_cons, h, ih]
/-- the sorted items -/
theorem asc_ranks {qs : List (V × List V)} {α : Type} {rs : List α} {rk : α → Nat} {ad : α → V} (h5 : ∀ x ∈ rs, rk x < 5) (nd : (rs.map rk).Nodup) (hp : qs.Perm (rs.map fun x => (ad x, itV (rk x)))) (ha : AscM qs) : ∃ rs' : List α, qs = (rs'.map fun x => (ad x, itV (rk x))) ∧ rs'.Perm rs ∧ Asc (rs'.map rk) := by
  obtain ⟨rs', rfl, pm⟩ := perm_of_map (g := fun x => (ad x, itV (rk x))) hp
  refine ⟨rs', rfl, pm, ?_⟩
  have nd' : (rs'.map rk).Nodup := (pm.map rk).nodup_iff.mpr nd
  have h5' : ∀ x ∈ rs', rk x < 5 := fun x hx => h5 x (pm.mem_iff.mp hx)
  unfold AscM at ha
  rw [List.pairwise_map] at ha
  unfold Asc
  rw [List.pairwise_map]
  rw [List.Nodup, List.pairwise_map] at nd'
  clear hp pm h5 nd
  induction rs' with
  | nil => exact List.Pairwise.nil
  | cons x rs' ih =>
    obtain ⟨a1, a2⟩ := List.pairwise_cons.mp ha
    obtain ⟨b1, b2⟩ := List.pairwise_cons.mp nd'
    refine List.pairwise_cons.mpr ⟨fun y hy => ?_, ih a2 b2 fun y hy => h5' y (List.mem_cons_of_mem _ hy)⟩
    have h1 := a1 y hy
    have h2 := b1 y hy
    dsimp only at h1
    rw [it_lt _ (h5' y (List.mem_cons_of_mem _ hy)) _ (h5' x List.mem_cons_self)] at h1
    have h1 := of_decide_eq_false h1
    omega
def spItems (K : PySem.W.Frag) : Sp := fun vs H Q _ => ∃ (a : Addr) (sets : List (List Nat)), vs = [.ref a] ∧ Dp K H (.ref a) (setsD sets) ∧ SetsOk sets ∧ ∀ H' r zs, Same H H' → H r = none → H' r = some (.lst zs) → DpAll K (hide r H') zs (((everyR sets).map (idx sets)).map clD) → Q (.ref r) H'
section
variable {P : Program} {w : World} {K : PySem.W.Frag} {mg : Str → Option Value} {base : Heap} {f C : Addr} {fd : FuncData}
theorem ok_item_rows (T : Txt K mg) (D : Def K mg "item_rows" ["sets"] s_item_rows f fd) : Own P w K mg base "item_rows" ["sets"] 1 (spItems K) := by
  refine ⟨f, fd, D.mg, D.fn.kp, D.bd, D.fn.ok sc_item_rows (fun vs H Q E h => ?_) (fun cdv A outer s H vs Q E hr h => ?_)⟩
  · obtain ⟨a, sets, rfl, _⟩ := h
    rfl
  · obtain ⟨a, sets, rfl, ha, ok, q⟩ := h
    obtain ⟨a', xs, ea, hx, hxs⟩ := dp_tup (show Dp K H (.ref a) (.tuple (sets.map setD)) from ha)
    cases ea
    have xl : xs.length = sets.length := by rw [dpa_len hxs, List.length_map]
    refine ⟨_, (pss_cons (ps_set (i := 1) sc_item_rows.nd rfl (Or.inr rfl) pe_dnewK)
      (pss_cons (ps_for PassesOwn.never rfl (pi_enum1T rfl (by rfl) T.m_enumerate (pv 0)) (pg_tup (by rfl) (pgs_cons (pg_name (i := 2) sc_item_rows.nd rfl (Or.inl rfl)) (pgs_cons (pg_name (i := 3) sc_item_rows.nd rfl (Or.inl rfl)) pgs_nil))) (pss_one (ps_for PassesOwn.never rfl (pi_keysNew (pe_dcN (room65 hr) (own := [("x", 5)]) (g := gName 5) (tt := tYes) rfl sc_item_rows.nd (pi_tup (pv 3)) (blkOk_by (N := N_item_rows) (sc := defScope s_item_rows) (own := [("x", 5)]) (by decide +kernel)) (fun _ _ _ _ _ => (pg_name (i := 5) sc_item_rows.nd rfl (Or.inl rfl))) (fun _ _ _ _ _ => pts_nil) (fun _ _ _ _ _ => (pv 5)) (fun _ _ _ _ _ => pe_bl))) (pg_name (i := 4) sc_item_rows.nd rfl (Or.inl rfl)) (pss_one (ps_expr (pe_bm PySem.F.plainAttrs_list PySem.F.slot_list_append PySem.F.type_list_append mt_append (pe_setdN (room65 hr) (pv 1) (pv 4) (pe_lst pa_nil) ⟨rfl, rfl, rfl, rfl⟩) (pa_cons (pv 2) pa_nil)))))))
      (pss_one (ps_ret (pe_lc (own := [("item", 4)]) (g := gName 4) (tt := tYes) rfl sc_item_rows.nd (pi_list (pe_callB (cr_sortN rfl) (by rfl) T.m_sorted (by decide +kernel) (pa_cons (pv 1) pa_nil))) (blkOk_by (N := N_item_rows) (sc := defScope s_item_rows) (own := [("item", 4)]) (by decide +kernel)) (fun _ _ _ _ _ => (pg_name (i := 4) sc_item_rows.nd rfl (Or.inl rfl))) (fun _ _ _ _ _ => pts_nil) (fun _ _ _ _ _ => (pe_callTy (call_tuple_ofK (K := K) rfl) (by rfl) T.m_tuple (by decide +kernel) (pa_cons (pe_ix (ix_NK60 (P := P) (w := w) (K := K) rfl rfl rfl (room65 hr)) (pv 1) (pv 4) (fun _ _ => rfl)) pa_nil)))))))), ?_⟩
    refine fun d hd => ?_
    have N0 := Nums.start (P := P) (w := w) (K := K) hd
    refine ⟨_, rfl, a, xs, rfl, sqt_mono N0.sm hx, for_it walk_enum1T (fun i σ' H' => ∃ (o2 o3 o4 : Option V) (rs : List (Nat × Addr × Addr)), σ' = [some (.ref a), some (.ref d), o2, o3, o4, none] ∧ Nums P w K H H' d rs (fun r => idxN sets r i)) ⟨none, none, none, [], rfl, N0.ext fun r _ => rfl⟩ (fun i σ' H' _ ⟨_, _, _, _, _, N⟩ => sqt_mono N.sm hx) ?_ ?_⟩
    · rintro i y σ' H1 H2 hi ⟨o2, o3, o4, rs, rfl, N⟩ ⟨T1, x1, y1, rfl, hT1, rfl, ex1, ey1⟩
      cases ex1
      have s1 := same_new hT1 (.tup [.int ((i + 1 : Nat) : Int), y1])
      obtain ⟨S, t, us, hS, rfl, ht, hus⟩ := dpa_atS (dpa_mono (N.sm.trans s1) _ hxs) ey1
      obtain ⟨okS, okS5⟩ := ok.ok S (List.mem_of_getElem? hS)
      have N1 := N.same s1
      have ul : us.length = S.length := by rw [dpa_len hus, List.length_map]
      refine ⟨T1, _, rfl, SqT.of upd_same, rfl, _, _, rfl, _, _, rfl, rfl, ?_⟩
      obtain ⟨G1, eG1⟩ : ∃ G1, G1 = upd H1 T1 (.tup [.int ((i + 1 : Nat) : Int), .ref t]) := ⟨_, rfl⟩
      rw [← eG1] at s1 ht hus N1
      show tFor _ _ _ _ [some (.ref a), some (.ref d), some (.int ((i + 1 : Nat) : Int)), some (.ref t), o4, none] (upd H1 T1 (.tup [.int ((i + 1 : Nat) : Int), .ref t]))
      rw [← eG1]
      have dne : ∀ {D1 : Addr}, G1 D1 = none → d ≠ D1 := fun {D1} h e => by
        have := N1.dn.mut
        rw [e, h] at this
        exact this
      refine ⟨_, rfl, t, rfl, ⟨_, ht⟩, fun D1 hD1 => dc_itN (walk_tup (K := K) (a := t) (xs := us)) (fun j H3 => ∃ L : List (Nat × Addr × V), Same G1 H3 ∧ DN P w K H3 D1 (L.map fun x => (itK x.1, x.2.1, x.2.2)) ∧ H3 D1 = some (dnO P w D1 (L.map fun x => (itK x.1, x.2.1, x.2.2))) ∧ L.map (·.1) = S.take j) ?_ ?_ ?_ ?_⟩
      · have sD := same_new hD1 (dnO P w D1 [])
        exact ⟨[], sD, ⟨.inl upd_same, Nat.zero_le _, fun x h => (by cases h)⟩, upd_same, rfl⟩
      · rintro j H3 hj ⟨L, b, _⟩
        exact sqt_mono b ht
      · rintro j x H3 H4 hj ⟨L, b, dn3, hD3, hL⟩ ⟨rfl, hxj⟩
        obtain ⟨r, u, hr', rfl, hu⟩ := dpa_atI (dpa_mono b _ hus) hxj
        have hr5 := okS5 r (List.mem_of_getElem? hr')
        have hjS : j < S.length := (List.getElem?_eq_some_iff.mp hr').1
        have L5 : ∀ y ∈ L, y.1 < 5 := fun y hy => okS5 _ (List.mem_of_mem_take (by rw [← hL]; exact List.mem_map.mpr ⟨y, hy, rfl⟩))
        have Ln : L.length = j := by
          have := congrArg List.length hL
          rw [List.length_map, List.length_take] at this
          omega
        have nor : ∀ y ∈ L, y.1 ≠ r := fun y hy e => by
          have hm : r ∈ S.take j := by rw [← hL, ← e]; exact List.mem_map.mpr ⟨y, hy, rfl⟩
          obtain ⟨p, hp⟩ := List.getElem?_of_mem hm
          rw [List.getElem?_take] at hp
          split at hp
          · rename_i hpj
            obtain ⟨h1, h2⟩ := List.getElem?_eq_some_iff.mp hp
            obtain ⟨h3, h4⟩ := List.getElem?_eq_some_iff.mp hr'
            have := List.pairwise_iff_getElem.mp okS p j h1 h3 hpj
            omega
          · cases hp
        have hSl : S.length ≤ 5 := nat_few (List.Pairwise.imp (fun h => by omega) okS) okS5
        refine ⟨rfl, yesV ?_⟩
        rw [if_pos rfl]
        have epn : putN (L.map fun x => (itK x.1, x.2.1, x.2.2)) (itK r) u (V.bl true) = (L ++ [(r, u, V.bl true)]).map fun x => (itK x.1, x.2.1, x.2.2) := by
          unfold putN
          rw [valN_no hr5 L5 nor, List.map_append]
          rfl
        have mt : ∀ a ∈ [D1], Mut (H4 a) := fun a ha => by rw [List.mem_singleton.mp ha, hD3]; exact True.intro
        have bt : But [D1] H4 (upd H4 D1 (dnO P w D1 ((L ++ [(r, u, V.bl true)]).map fun x => (itK x.1, x.2.1, x.2.2)))) := But.put (List.mem_singleton_self _) _
        refine ⟨_, rfl, u, itK r, _, rfl, hu, it_depth r hr5, dn3, ?_, L ++ [(r, u, .bl true)], ?_, ?_, ?_, ?_⟩
        · rw [List.length_map, Ln]
          exact Nat.lt_of_le_of_lt (show j ≤ 5 by omega) (by decide)
        · show Same G1 (upd H4 D1 (dnO P w D1 (putN (L.map fun x => (itK x.1, x.2.1, x.2.2)) (itK r) u (V.bl true))))
          rw [epn]
          exact fun p o e => by rw [upd_ne (ne_of_none e hD1)]; exact b p o e
        · show DN P w K (upd H4 D1 (dnO P w D1 (putN (L.map fun x => (itK x.1, x.2.1, x.2.2)) (itK r) u (V.bl true)))) D1 _
          rw [epn]
          refine ⟨.inl upd_same, ?_, fun y hy => ?_⟩
          · rw [List.length_map, List.length_append, Ln]
            exact Nat.le_trans (show j + 1 ≤ 6 by omega) (by decide)
          · rw [List.map_append] at hy
            rcases List.mem_append.mp hy with m | m
            · exact ⟨dp_but mt bt _ (nk_noLst y.1) (dn3.keys y m).1, (dn3.keys y m).2⟩
            · rw [List.mem_singleton.mp m]
              exact ⟨dp_but mt bt _ (it_noLst r) hu, it_depth r hr5⟩
        · show upd H4 D1 (dnO P w D1 (putN (L.map fun x => (itK x.1, x.2.1, x.2.2)) (itK r) u (V.bl true))) D1 = _
          rw [epn, upd_same]
        · rw [List.map_append, hL, take_next hr']
          rfl
      · rintro H3 ⟨L, b, dn3, hD3, hL⟩
        rw [ul, List.take_length] at hL
        refine ⟨D1, _, rfl, hD3, fun od => ?_⟩
        obtain ⟨G2, eG2⟩ : ∃ G2, G2 = upd H3 D1 (.frz od (dnO P w D1 (L.map fun x => (itK x.1, x.2.1, x.2.2)))) := ⟨_, rfl⟩
        have mt : ∀ a ∈ [D1], Mut (H3 a) := fun a ha => by rw [List.mem_singleton.mp ha, hD3]; exact True.intro
        have bt : But [D1] H3 G2 := by rw [eG2]; exact But.put (List.mem_singleton_self _) _
        have hH0 : ∀ p, G1 p = none → H p = none := fun p h => by
          cases e : H p with
          | none => rfl
          | some o => rw [(N.sm.trans s1) _ _ e] at h; cases h
        have N2 : Nums P w K H G2 d rs (fun r => idxN sets r i) := (N1.same b).but mt (fun a ha ys e => by rw [List.mem_singleton.mp ha, hD3] at e; cases e) (fun a ha => by rw [List.mem_singleton.mp ha]; exact hH0 _ hD1) (fun m => dne hD1 (List.mem_singleton.mp m)) bt
        have hG2 : G2 D1 = some (.frz od (dnO P w D1 (L.map fun x => (itK x.1, x.2.1, x.2.2)))) := by rw [eG2, upd_same]
        have L5 : ∀ y ∈ L, y.1 < 5 := fun y hy => okS5 _ (by rw [← hL]; exact List.mem_map.mpr ⟨y, hy, rfl⟩)
        have Lk : ∀ y ∈ L, Dp K G2 (.ref y.2.1) (itD y.1) := fun y hy => dp_but mt bt _ (it_noLst _) (dn3.keys (itK y.1, y.2.1, y.2.2) (List.mem_map.mpr ⟨y, hy, rfl⟩)).1
        have Ln : L.length = S.length := by rw [← hL, List.length_map]
        subst eG2
        refine for_it (walk_keysN (P := P) (w := w)) (fun j σ' H' => ∃ (o4 : Option V) (rs' : List (Nat × Addr × Addr)), σ' = [some (.ref a), some (.ref d), some (.int ((i + 1 : Nat) : Int)), some (.ref t), o4, none] ∧ Nums P w K H H' d rs' (fun r => idxN sets r i ++ if r ∈ S.take j then [((i + 1 : Nat) : Int)] else []) ∧ H' D1 = some (.frz od (dnO P w D1 (L.map fun x => (itK x.1, x.2.1, x.2.2)))) ∧ ∀ y ∈ L, Dp K H' (.ref y.2.1) (itD y.1))
          ⟨o4, rs, rfl, N2.ext fun r _ => by simp, hG2, Lk⟩ (fun j σ' H' _ ⟨_, _, _, _, h, _⟩ => h) ?_ ?_
        · rintro j y σ' H5 H6 hj ⟨o4, rs', rfl, N5, hF, hK⟩ ⟨rfl, row, hrow, rfl⟩
          rw [List.getElem?_map] at hrow
          obtain ⟨y, hy, rfl⟩ := Option.map_eq_some_iff.mp hrow
          have hym := List.mem_of_getElem? hy
          have hr5 := L5 y hym
          have hSj : S[j]? = some y.1 := by rw [← hL, List.getElem?_map, hy]; rfl
          have hjS : j < S.length := (List.getElem?_eq_some_iff.mp hSj).1
          have notin : y.1 ∉ S.take j := fun hm => by
            obtain ⟨p, hp⟩ := List.getElem?_of_mem hm
            rw [List.getElem?_take] at hp
            split at hp
            · rename_i hpj
              obtain ⟨h1, h2⟩ := List.getElem?_eq_some_iff.mp hp
              obtain ⟨h3, h4⟩ := List.getElem?_eq_some_iff.mp hSj
              have := List.pairwise_iff_getElem.mp okS p j h1 h3 hpj
              omega
            · cases hp
          have fin : ∀ r, r < 5 → addF (fun r => idxN sets r i ++ if r ∈ S.take j then [((i + 1 : Nat) : Int)] else []) y.1 ((i + 1 : Nat) : Int) r = idxN sets r i ++ if r ∈ S.take (j + 1) then [((i + 1 : Nat) : Int)] else [] := fun r _ => by
            unfold addF
            rw [take_next hSj]
            by_cases e : r = y.1
            · subst e
              rw [if_pos rfl]
              dsimp only
              rw [if_neg notin, if_pos (List.mem_append_right _ (List.mem_singleton_self _)), List.append_nil]
            · rw [if_neg e]
              have : (r ∈ S.take j ++ [y.1]) ↔ r ∈ S.take j := by
                rw [List.mem_append, List.mem_singleton]
                exact ⟨fun h => h.resolve_right e, .inl⟩
              simp only [this]
          refine ⟨_, rfl, d, _, rfl, N5.dn, _, rfl, by show 0 ≤ sizeLine; decide, fun z hz => ⟨_, itK y.1, _, rfl, dp_mono (same_new hz _) _ (hK y hym), it_depth _ hr5, (N5.same (same_new hz _)).dn, by rw [List.length_map]; exact Nat.lt_of_le_of_lt N5.few (by decide), fun v hv => ?_, fun hv => ?_⟩⟩
          · obtain ⟨x0, hx0, ex, rfl⟩ := valN_yes (rs := rs'.map fun x => (x.1, x.2.1, V.ref x.2.2)) hr5 (fun x hx => by
              obtain ⟨x', hx', rfl⟩ := List.mem_map.mp hx
              exact N5.r5 x' hx') (by rw [List.map_map]; exact hv)
            obtain ⟨x, hx, rfl⟩ := List.mem_map.mp hx0
            have sz := same_new hz (.lst [])
            have N6 := N5.same sz
            have hl := N6.ls x hx
            have N7 := N6.old hx ((i + 1 : Nat) : Int)
            have ex : x.1 = y.1 := ex
            have hlen : ((idxN sets x.1 i ++ if x.1 ∈ S.take j then [((i + 1 : Nat) : Int)] else []).map V.int).length < sizeLine := by
              rw [List.length_map, List.length_append]
              have := idxN_len sets x.1 i
              have h7 := ok.few
              have : (if x.1 ∈ S.take j then [((i + 1 : Nat) : Int)] else []).length ≤ 1 := by split <;> simp
              exact Nat.lt_of_le_of_lt (show _ ≤ 10 by omega) (by decide)
            refine ⟨.inl ⟨rfl, _, SqL.of hl⟩, _, rfl, x.2.2, _, _, rfl, rfl, hl, hlen, _, rs', rfl, ?_, ?_, fun y' hy' => ?_⟩
            · exact N7.ext (by rw [ex]; exact fin)
            · rw [upd_ne fun e => by rw [← e, sz _ _ hF] at hl; cases hl]
              exact sz _ _ hF
            · have mt2 : ∀ a ∈ [x.2.2], Mut ((upd H6 z (.lst [])) a) := fun a ha => by rw [List.mem_singleton.mp ha, hl]; exact True.intro
              exact dp_but mt2 (But.put (List.mem_singleton_self _) _) _ (it_noLst _) (dp_mono sz _ (hK y' hy'))
          · have hn : ∀ x ∈ rs', x.1 ≠ y.1 := fun x hx e => by
              have : (valN (rs'.map fun x => (itK x.1, x.2.1, V.ref x.2.2)) (itK y.1)).isSome = true := by
                unfold valN
                rw [Option.isSome_map, List.find?_isSome]
                exact ⟨_, List.mem_map.mpr ⟨x, hx, rfl⟩, by simp [e]⟩
              rw [hv] at this
              cases this
            have N7 := N5.new hr5 hn (hK y hym) hz ((i + 1 : Nat) : Int)
            have dz : d ≠ z := fun e => by
              have := N5.dn.mut
              rw [e, hz] at this
              exact this
            have hFz : D1 ≠ z := fun e => by rw [e, hz] at hF; cases hF
            have hFd : D1 ≠ d := fun e => by
              have := N5.dn.mut
              rw [← e, hF] at this
              exact this
            have hl : (upd (upd H6 z (.lst [])) d (dnO P w d ((rs'.map fun x => (itK x.1, x.2.1, V.ref x.2.2)) ++ [(itK y.1, y.2.1, V.ref z)]))) z = some (.lst []) := by rw [upd_ne dz.symm, upd_same]
            refine ⟨.inl ⟨rfl, _, SqL.of hl⟩, _, rfl, z, _, _, rfl, rfl, hl, by show 0 < sizeLine; decide, _, rs' ++ [(y.1, y.2.1, z)], rfl, ?_, ?_, fun y' hy' => ?_⟩
            · rw [List.map_append] at N7
              exact N7.ext fin
            · rw [upd_ne hFz, upd_ne hFd, upd_ne hFz]
              exact hF
            · have mt2 : ∀ a ∈ [d], Mut ((upd H6 z (.lst [])) a) := fun a ha => by rw [List.mem_singleton.mp ha, upd_ne dz]; exact N5.dn.mut
              have mt3 : ∀ a ∈ [z], Mut ((upd (upd H6 z (.lst [])) d (dnO P w d ((rs'.map fun x => (itK x.1, x.2.1, V.ref x.2.2)) ++ [(itK y.1, y.2.1, V.ref z)]))) a) := fun a ha => by rw [List.mem_singleton.mp ha, hl]; exact True.intro
              exact dp_but mt3 (But.put (List.mem_singleton_self _) _) _ (it_noLst _) (dp_but mt2 (But.put (List.mem_singleton_self _) _) _ (it_noLst _) (dp_mono (same_new hz _) _ (hK y' hy')))
        · rintro σ' H5 ⟨o4, rs', rfl, N5, hF, hK⟩
          refine ⟨_, _, o4, rs', rfl, N5.ext fun r hr => ?_⟩
          rw [idxN_succ, List.length_map, Ln, List.take_length]
          unfold hasI
          rw [hS]
          simp
    · rintro σ' H1 ⟨o2, o3, o4, rs, rfl, N⟩
      have N := N.ext (g := idx sets) fun r _ => by rw [xl]; rfl
      have hpr : ∀ r, r < 5 → (idx sets r ≠ [] ↔ r ∈ everyR sets) := fun r hr => by
        rw [mem_every]
        constructor
        · intro h
          obtain ⟨x, hx⟩ := List.exists_mem_of_ne_nil _ h
          obtain ⟨k, _, _, S, hS, hm⟩ := mem_idx.1 hx
          exact ⟨hr, S, List.mem_of_getElem? hS, hm⟩
        · rintro ⟨_, S, hS, hm⟩ e
          obtain ⟨k, hk⟩ := List.getElem?_of_mem hS
          have : ((k + 1 : Nat) : Int) ∈ idx sets r := mem_idx.2 ⟨k, (List.getElem?_eq_some_iff.mp hk).1, rfl, S, hk, hm⟩
          rw [e] at this
          cases this
      refine ⟨_, rfl, d, _, rs.map (fun x => (V.ref x.2.1, itV x.1)), rfl, N.dn, by rw [List.map_map, List.map_map]; rfl, ⟨fun p hp => ?_, fun p hp => ?_, fun p hp p' hp' => ?_⟩, fun qs p pm asc hp => ?_⟩
      · obtain ⟨x, hx, rfl⟩ := List.mem_map.mp hp
        exact it_at (N.dn.keys (itK x.1, x.2.1, V.ref x.2.2) (List.mem_map.mpr ⟨x, hx, rfl⟩)).1
      · obtain ⟨x, hx, rfl⟩ := List.mem_map.mp hp
        exact it_fst _
      · obtain ⟨x, hx, rfl⟩ := List.mem_map.mp hp
        obtain ⟨x', hx', rfl⟩ := List.mem_map.mp hp'
        exact it_comp _ (N.r5 x hx) _ (N.r5 x' hx')
      obtain ⟨rs', rfl, pm', asc'⟩ := asc_ranks (rk := fun x : Nat × Addr × Addr => x.1) (ad := fun x => V.ref x.2.1) N.r5 N.ndr pm asc
      have eR : rs'.map (·.1) = everyR sets := asc_eq asc' (every_asc sets) fun r => by
        constructor
        · intro h
          obtain ⟨x, hx, rfl⟩ := List.mem_map.mp h
          have hx' := pm'.mem_iff.mp hx
          exact (hpr _ (N.r5 x hx')).1 (N.ne x hx')
        · intro h
          obtain ⟨x, hx, rfl⟩ := N.all r (mem_every.1 h).1 ((hpr r (mem_every.1 h).1).2 h)
          exact List.mem_map.mpr ⟨x, pm'.mem_iff.mpr hx, rfl⟩
      have sp := same_new hp (.lst ((rs'.map fun x => (V.ref x.2.1, itV x.1)).map (·.1)))
      have N2 := N.same sp
      have hpz : (upd H1 p (.lst ((rs'.map fun x => (V.ref x.2.1, itV x.1)).map (·.1)))) p = some (.lst (rs'.map fun x => V.ref x.2.1)) := by rw [upd_same, List.map_map]; rfl
      obtain ⟨G2, eG2⟩ : ∃ G2, G2 = upd H1 p (.lst ((rs'.map fun x => (V.ref x.2.1, itV x.1)).map (·.1))) := ⟨_, rfl⟩
      rw [← eG2] at sp N2 hpz ⊢
      have rl : rs'.length ≤ 5 := by rw [pm'.length_eq]; exact N.few
      refine ⟨p, rfl, ⟨_, SqL.of hpz⟩, fun D1 hD1 => lc_gen (K := K) (walk_list (K := K) (a := p) (xs := rs'.map fun x => V.ref x.2.1)) (fun k ds => ds = (rs'.take k).map fun x => clD (idx sets x.1)) rfl (by rw [List.length_map]; omega) hD1 (fun H2 s2 => sql_mono s2 (SqL.of hpz)) (fun k y H2 H3 ds Nx Add hk hw s2 hne hy hNx hAdd => ?_) (fun H6 zs2 ds hz2 hd2 hw2 s6 => ?_)⟩
      · obtain ⟨rfl, hy⟩ := hy
        rw [List.getElem?_map] at hy
        obtain ⟨x, hx, rfl⟩ := Option.map_eq_some_iff.mp hy
        have hxm := pm'.mem_iff.mp (List.mem_of_getElem? hx)
        have N3 := N2.same s2
        have h5 := N.r5 x hxm
        have kx := N3.dn.keys (itK x.1, x.2.1, V.ref x.2.2) (List.mem_map.mpr ⟨x, hxm, rfl⟩)
        refine ⟨rfl, yesV ?_⟩
        rw [if_pos rfl]
        have hv : valN (rs.map fun x => (itK x.1, x.2.1, V.ref x.2.2)) (itK x.1) = some (V.ref x.2.2) := by
          cases e : valN (rs.map fun x => (itK x.1, x.2.1, V.ref x.2.2)) (itK x.1) with
          | none =>
            have : (valN (rs.map fun x => (itK x.1, x.2.1, V.ref x.2.2)) (itK x.1)).isSome = true := by
              unfold valN
              rw [Option.isSome_map, List.find?_isSome]
              exact ⟨_, List.mem_map.mpr ⟨x, hxm, rfl⟩, by simp⟩
            rw [e] at this
            cases this
          | some v =>
            obtain ⟨y0, hy0, ey, rfl⟩ := valN_yes (rs := rs.map fun x => (x.1, x.2.1, V.ref x.2.2)) h5 (fun x hx => by
              obtain ⟨x', hx', rfl⟩ := List.mem_map.mp hx
              exact N.r5 x' hx') (by rw [List.map_map]; exact e)
            obtain ⟨y1, hy1, rfl⟩ := List.mem_map.mp hy0
            have : y1 = x := by
              have ey : y1.1 = x.1 := ey
              obtain ⟨p1, hp1⟩ := List.getElem?_of_mem hy1
              obtain ⟨p2, hp2⟩ := List.getElem?_of_mem hxm
              have a1 : (rs.map (·.1))[p1]? = some x.1 := by rw [List.getElem?_map, hp1]; show some y1.1 = _; rw [ey]
              have a2 : (rs.map (·.1))[p2]? = some x.1 := by rw [List.getElem?_map, hp2]; rfl
              obtain ⟨l1, g1⟩ := List.getElem?_eq_some_iff.mp a1
              obtain ⟨l2, g2⟩ := List.getElem?_eq_some_iff.mp a2
              have := (List.getElem_inj N.ndr).mp (g1.trans g2.symm)
              rw [this, hp2] at hp1
              exact (Option.some.inj hp1).symm
            rw [this]
        refine ⟨_, rfl, _, rfl, x.2.1, itK x.1, d, _, _, rfl, rfl, kx.1, it_depth _ h5, N3.dn, hv, x.2.2, _, rfl, .inl ⟨SqL.of (N3.ls x hxm), fun u hu => ?_⟩⟩
        have nu : u ≠ D1 := fun e => hne (by rw [← e]; exact hu)
        refine hAdd _ (clD (idx sets x.1)) _ (same_new hu _) (.tup (SqT.of (by rw [hide_ne nu, upd_same])) (ints_all _)) ?_
        rw [hw, take_next hx, List.map_append]
        rfl
      · rw [List.length_map, List.take_length] at hw2
        refine q _ D1 zs2 ((N.sm.trans sp).trans s6) ?_ hz2 ?_
        · cases e : H D1 with
          | none => rfl
          | some o => rw [(N.sm.trans sp) _ _ e] at hD1; cases hD1
        · rw [hw2] at hd2
          rw [← eR, List.map_map, List.map_map]
          exact hd2
end
end My

set_option Elab.async false
set_option maxRecDepth 100000
set_option maxHeartbeats 4000000
set_option linter.all false
namespace My
open PySem L2 PyProof.Rows
open C8 (pss_cut)
/-- cover_clauses(sets, most) -/
def spCover (K : PySem.W.Frag) : Sp := fun vs H Q _ => ∃ (a : Addr) (sets : List (List Nat)) (M : Nat), vs = [.ref a, .int M] ∧ Dp K H (.ref a) (setsD sets) ∧ SetsOk sets ∧ M ≤ 100 ∧ ∀ H' r zs, Same H H' → SqT K H' r zs → DpAll K H' zs ((dueR sets M).map clD) → Q (.ref r) H'
/-- _law_every(rows) -/
def spEvery (K : PySem.W.Frag) : Sp := fun vs H Q _ => ∃ (a : Addr) (xs : List V) (sets : List (List Nat)), vs = [.ref a] ∧ (SqL K H a xs ∨ SqT K H a xs) ∧ DpAll K H xs (sets.map setD) ∧ sets.length ≤ 100 ∧ (∀ S ∈ sets, ∀ r ∈ S, r < 5) ∧ ∀ H' r zs, Same H H' → H r = none → H' r = some (.lst zs) → DpAll K (hide r H') zs ((everyR sets).map itD) → Q (.ref r) H'
/-- over a list or a tuple that stays -/
theorem for_seq {K : PySem.W.Frag} {a : Addr} {xs : List V} {g : TG} {tb : TS} {D : Ends} {σ : L2.St} {H0 H : Hp} (h : SqL K H0 a xs ∨ SqT K H0 a xs) (s0 : Same H0 H) (Pv : Nat → L2.St → Hp → Prop) (h0 : Pv 0 σ H) (hl : ∀ i σ H', Pv i σ H' → Same H0 H')
    (hs : ∀ i x σ H, xs[i]? = some x → Pv i σ H → g x σ H fun σ2 H2 => tb { D with nx := Pv (i + 1), ct := Pv (i + 1), bk := D.nx } σ2 H2) (hd : ∀ σ H, Pv xs.length σ H → D.nx σ H) :
    ((∃ xs, SqL K H a xs) ∧ ∃ W : Nat → Nat → L2.St → Hp → Prop, (∃ m, W 0 m σ H) ∧ ∀ i m σ H, W i m σ H →
      ((Itl K a).stop i H ∧ D.nx σ H) ∨ ((Itl K a).go i H ∧ ∃ N : L2.St → Hp → Prop, (∀ σ' H', N σ' H' → ∃ m', m' < m ∧ W (i + 1) m' σ' H') ∧ ∀ x H', (Itl K a).yld i H x H' → g x σ H' fun σ2 H2 => tb { D with nx := N, ct := N, bk := D.nx } σ2 H2)) ∨
    ((∃ xs, SqT K H a xs) ∧ ∃ W : Nat → Nat → L2.St → Hp → Prop, (∃ m, W 0 m σ H) ∧ ∀ i m σ H, W i m σ H →
      ((Itt K a).stop i H ∧ D.nx σ H) ∨ ((Itt K a).go i H ∧ ∃ N : L2.St → Hp → Prop, (∀ σ' H', N σ' H' → ∃ m', m' < m ∧ W (i + 1) m' σ' H') ∧ ∀ x H', (Itt K a).yld i H x H' → g x σ H' fun σ2 H2 => tb { D with nx := N, ct := N, bk := D.nx } σ2 H2)) := by
  rcases h with h | h
  · exact .inl ⟨⟨_, sql_mono s0 h⟩, for_list Pv h0 (fun i σ H' _ p => sql_mono (hl i σ H' p) h) hs hd⟩
  · exact .inr ⟨⟨_, sqt_mono s0 h⟩, for_tup Pv h0 (fun i σ H' _ p => sqt_mono (hl i σ H' p) h) hs hd⟩
theorem cntRow_len (m M i : Nat) : (cntRow m M i).length ≤ 2 * M + 3 := by
  unfold cntRow
  split
  · simp
  · split
    · simp
    · simp
      omega
/-! ### a dict of items -/
def evRows (L : List (Nat × Addr × V)) : NRows := L.map fun x => (itK x.1, x.2.1, x.2.2)
structure Ev (P : Program) (w : World) (K : PySem.W.Frag) (H0 H : Hp) (d : Addr) (L : List (Nat × Addr × V)) (p : Nat → Prop) : Prop where
  dn : DN P w K H d (evRows L)
  r5 : ∀ x ∈ L, x.1 < 5 ∧ x.2.2 = .bl true
  ndr : (L.map (·.1)).Nodup
  all : ∀ r, r < 5 → (p r ↔ ∃ x ∈ L, x.1 = r)
  fd : H0 d = none
  sm : Same H0 H
theorem Ev.few {P : Program} {w : World} {K : PySem.W.Frag} {H0 H : Hp} {d : Addr} {L : List (Nat × Addr × V)} {p : Nat → Prop} (N : Ev P w K H0 H d L p) : L.length ≤ 5 := by
  have := nat_few N.ndr fun y hy => by
    obtain ⟨x, hx, rfl⟩ := List.mem_map.mp hy
    exact (N.r5 x hx).1
  rw [List.length_map] at this
  exact this
theorem Ev.add {P : Program} {w : World} {K : PySem.W.Frag} {H0 H : Hp} {d b : Addr} {L : List (Nat × Addr × V)} {p : Nat → Prop} {r : Nat} (N : Ev P w K H0 H d L p) (hr : r < 5) (hb : Dp K H (.ref b) (itD r)) :
    ∃ L', putN (evRows L) (itK r) b (.bl true) = evRows L' ∧ Ev P w K H0 (upd H d (dnO P w d (evRows L'))) d L' (fun x => p x ∨ x = r) := by
  have mt : ∀ a ∈ [d], Mut (H a) := fun a ha => by rw [List.mem_singleton.mp ha]; exact N.dn.mut
  have sm : ∀ o, Same H0 (upd H d o) := fun o q u e => by rw [upd_ne (ne_of_none e N.fd)]; exact N.sm q u e
  have l5 := N.few
  cases hv : valN (evRows L) (itK r) with
  | none =>
    have hn : ∀ x ∈ L, x.1 ≠ r := fun x hx e => by
      have : (valN (evRows L) (itK r)).isSome = true := by
        unfold valN evRows
        rw [Option.isSome_map, List.find?_isSome]
        exact ⟨_, List.mem_map.mpr ⟨x, hx, rfl⟩, by simp [e]⟩
      rw [hv] at this
      cases this
    refine ⟨L ++ [(r, b, .bl true)], ?_, ⟨.inl upd_same, ?_, fun y hy => ?_⟩, fun x hx => ?_, ?_, fun q hq => ?_, N.fd, sm _⟩
    · unfold putN
      rw [hv]
      unfold evRows
      rw [List.map_append]
      rfl
    · unfold evRows
      rw [List.length_map, List.length_append]
      exact Nat.le_trans (show L.length + 1 ≤ 6 by omega) (by decide)
    · unfold evRows at hy
      rw [List.map_append] at hy
      rcases List.mem_append.mp hy with m | m
      · exact ⟨dp_but mt (But.put (List.mem_singleton_self _) _) _ (nk_noLst y.1) (N.dn.keys y m).1, (N.dn.keys y m).2⟩
      · rw [List.mem_singleton.mp m]
        exact ⟨dp_but mt (But.put (List.mem_singleton_self _) _) _ (it_noLst r) hb, it_depth r hr⟩
    · rcases List.mem_append.mp hx with m | m
      · exact N.r5 x m
      · rw [List.mem_singleton.mp m]; exact ⟨hr, rfl⟩
    · rw [List.map_append]
      refine List.nodup_append.mpr ⟨N.ndr, by simp, fun a ha c hc => ?_⟩
      obtain ⟨x, hx, rfl⟩ := List.mem_map.mp ha
      rw [show c = r by simpa using hc]
      exact hn x hx
    · rw [N.all q hq]
      constructor
      · rintro (⟨x, hx, e⟩ | rfl)
        · exact ⟨x, List.mem_append_left _ hx, e⟩
        · exact ⟨_, List.mem_append_right _ (List.mem_singleton_self _), rfl⟩
      · rintro ⟨x, hx, e⟩
        rcases List.mem_append.mp hx with m | m
        · exact .inl ⟨x, m, e⟩
        · rw [List.mem_singleton.mp m] at e
          exact .inr e.symm
  | some v =>
    obtain ⟨x0, hx0, e0, _⟩ := valN_yes hr (fun x hx => (N.r5 x hx).1) hv
    refine ⟨L, ?_, ⟨.inl upd_same, N.dn.len, fun y hy => ⟨dp_but mt (But.put (List.mem_singleton_self _) _) _ (nk_noLst y.1) (N.dn.keys y hy).1, (N.dn.keys y hy).2⟩⟩, N.r5, N.ndr, fun q hq => ?_, N.fd, sm _⟩
    · unfold putN
      rw [hv]
      show List.map _ (evRows L) = _
      unfold evRows
      rw [List.map_map]
      refine List.map_congr_left fun x hx => ?_
      show (if itK x.1 = itK r then (itK x.1, x.2.1, V.bl true) else (itK x.1, x.2.1, x.2.2)) = _
      split
      · rw [(N.r5 x hx).2]
      · rfl
    · rw [N.all q hq]
      exact ⟨fun h => h.elim id fun e => ⟨x0, hx0, by rw [e]; exact e0⟩, .inl⟩
section
variable {P : Program} {w : World} {K : PySem.W.Frag} {mg : Str → Option Value} {base : Heap} {f C : Addr} {fd : FuncData}
theorem ok_cover_clauses (T : Txt K mg) (D : Def K mg "cover_clauses" ["sets", "most"] s_cover_clauses f fd) (O1 : Own P w K mg base "item_rows" ["sets"] 1 (spItems K)) (O2 : Own P w K mg base "count_rows" ["i", "count", "most"] 1 (spCount K)) : Own P w K mg base "cover_clauses" ["sets", "most"] 2 (spCover K) := by
  obtain ⟨fitem_rows, fditem_rows, mitem_rows, kitem_rows, bitem_rows, Gitem_rows⟩ := O1
  obtain ⟨fcount_rows, fdcount_rows, mcount_rows, kcount_rows, bcount_rows, Gcount_rows⟩ := O2
  refine ⟨f, fd, D.mg, D.fn.kp, D.bd, D.fn.ok sc_cover_clauses (fun vs H Q E h => ?_) (fun cdv A outer s H vs Q E hr h => ?_)⟩
  · obtain ⟨a, sets, M, rfl, _⟩ := h
    rfl
  · obtain ⟨a, sets, M, rfl, ha, ok, hM, q⟩ := h
    obtain ⟨a', xs, ea, hx, hxs⟩ := dp_tup (show Dp K H (.ref a) (.tuple (sets.map setD)) from ha)
    cases ea
    have xl : xs.length = sets.length := by rw [dpa_len hxs, List.length_map]
    have hf := ok.few
    refine ⟨_, (pss_cons (ps_set (i := 2) sc_cover_clauses.nd rfl (Or.inl rfl) (pe_call Gitem_rows (hr.mono (by omega)) rfl mitem_rows kitem_rows bitem_rows .nil pass0 (pa_cons (pv 0) pa_nil)))
      (pss_cons (ps_for PassesOwn.never rfl (pi_range2 (by rfl) T.m_range (pa_cons pe_int (pa_cons (pe_op op_add (pe_callB call_len_seq (by rfl) T.m_len (by decide +kernel) (pa_cons (pv 0) pa_nil)) pe_int) pa_nil))) (pg_name (i := 3) sc_cover_clauses.nd rfl (Or.inl rfl)) (pss_one (ps_expr (pe_bm PySem.F.plainAttrs_list PySem.F.slot_list_extend PySem.F.type_list_extend mt_extend (pv 2) (pa_cons (pe_call Gcount_rows (hr.mono (by omega)) rfl mcount_rows kcount_rows bcount_rows .nil pass0 (pa_cons (pv 3) (pa_cons (pe_callB call_len_seq (by rfl) T.m_len (by decide +kernel) (pa_cons (pv 0) pa_nil)) (pa_cons (pv 1) pa_nil)))) pa_nil)))))
      (pss_one (ps_ret (pe_callTy call_tuple_of (by rfl) T.m_tuple (by decide +kernel) (pa_cons (pv 2) pa_nil)))))), ?_⟩
    refine ⟨_, rfl, a, sets, rfl, ha, ok, fun H1 R zs s1 hRn hR hz => ?_⟩
    refine ⟨_, rfl, a, xs, rfl, .inr (sqt_mono s1 hx), _, _, rfl, rfl, 1, _, rfl, ⟨by omega, by omega, by omega, by omega⟩, for_range (fun k σ' H' => ∃ (o3 : Option V) (zs : List V), σ' = [some (.ref a), some (.int M), some (.ref R), o3] ∧ Same H H' ∧ H' R = some (.lst zs) ∧ DpAll K (hide R H') zs ((((everyR sets).map (idx sets)) ++ (List.range k).flatMap (cntRow sets.length M)).map clD)) ⟨none, zs, rfl, s1, hR, by simpa using hz⟩ ?_ ?_⟩
    · rintro k σ' H2 hk ⟨o3, zs2, rfl, s2, hR2, hz2⟩
      have hk' : k < sets.length := by omega
      refine ⟨_, rfl, .inl ⟨rfl, _, SqL.of hR2⟩, _, rfl, _, rfl, a, xs, rfl, .inr (sqt_mono s2 hx), _, rfl, k, sets.length, M, by rw [xl]; show [V.int (1 + (k : Int)), _, _] = _; rw [show (1 : Int) + (k : Int) = ((k + 1 : Nat) : Int) by omega], hk', by omega, hM, fun H3 r zs3 s3 hrn hr3 hz3 => ?_⟩
      refine ⟨R, r, zs2, zs3, rfl, rfl, s3 _ _ hR2, hr3, ?_, some (.int (1 + (k : Int))), zs2 ++ zs3, rfl, ?_, upd_same, ?_⟩
      · have h1 := dpa_len hz2
        have h2 := dpa_len hz3
        rw [List.length_map] at h1 h2
        rw [List.length_append, List.length_map] at h1
        have h3 := cntRow_len sets.length M k
        have h4 : (everyR sets).length ≤ 5 := Nat.le_trans (List.length_filter_le _ _) (by rw [List.length_range]; exact Nat.le_refl _)
        have h5 : ((List.range k).flatMap (cntRow sets.length M)).length ≤ k * 203 := by
          clear h1 h2 hz2 hz3 hk hk' h3
          induction k with
          | zero => simp
          | succ k ih =>
            rw [List.range_succ, List.flatMap_append, List.length_append]
            have := cntRow_len sets.length M k
            simp only [List.flatMap_cons, List.flatMap_nil, List.append_nil]
            omega
        have h6 : zs2.length + zs3.length ≤ 5 + 9 * 203 + 203 := by
          have : k * 203 ≤ 9 * 203 := Nat.mul_le_mul_right _ (by omega)
          omega
        first
        | exact Nat.lt_of_le_of_lt h6 (by decide)
        | exact Nat.le_trans h6 (by decide)
      · intro b o e
        have hbR : b ≠ R := ne_of_none e hRn
        rw [upd_ne hbR]
        exact s3 _ _ (s2 _ _ e)
      · have := ext_list hR2 hz2 s3 hz3
        rw [List.range_succ, List.flatMap_append, ← List.append_assoc]
        simp only [List.flatMap_cons, List.flatMap_nil, List.append_nil]
        exact this
    · rintro σ' H2 ⟨o3, zs2, rfl, s2, hR2, hz2⟩
      rw [show (((xs.length : Nat) : Int) + 1 - 1).toNat = sets.length by omega] at hz2
      refine ⟨_, rfl, R, zs2, rfl, .inl ⟨SqL.of hR2, fun t ht => ?_⟩⟩
      have st := same_new ht (.tup zs2)
      exact q _ t zs2 (s2.trans st) (SqT.of upd_same) (dpa_mono st _ (dpa_mono hide_le _ hz2))
theorem ok__law_every (T : Txt K mg) (D : Def K mg "_law_every" ["rows"] s__law_every f fd) : Own P w K mg base "_law_every" ["rows"] 1 (spEvery K) := by
  refine ⟨f, fd, D.mg, D.fn.kp, D.bd, D.fn.ok sc__law_every (fun vs H Q E h => ?_) (fun cdv A outer s H vs Q E hr h => ?_)⟩
  · obtain ⟨a, xs, sets, rfl, _⟩ := h
    rfl
  · obtain ⟨a, xs, sets, rfl, hx, hxs, hl, h5, q⟩ := h
    refine ⟨_, (pss_cons (ps_set (i := 1) sc__law_every.nd rfl (Or.inl rfl) pe_dnewK)
      (pss_cons (ps_for PassesOwn.never rfl (pi_seq (pv 0)) (pg_name (i := 2) sc__law_every.nd rfl (Or.inl rfl)) (pss_one (ps_for PassesOwn.never rfl (pi_tup (pv 2)) (pg_name (i := 3) sc__law_every.nd rfl (Or.inl rfl)) (pss_one (ps_asg pe_bl (pg_sub (pv 1) (pv 3) (set_NA (room65 hr))))))))
      (pss_one (ps_ret (pe_callB cr_sortedM (by rfl) T.m_sorted (by decide +kernel) (pa_cons (pe_callTy (cr_listN rfl) (by rfl) T.m_list (by decide +kernel) (pa_cons (pv 1) pa_nil)) pa_nil)))))), ?_⟩
    refine fun d hd => ?_
    have s0 := same_new hd (.dK [])
    have E0 : Ev P w K H (upd H d (.dK [])) d [] (fun r => ∃ S ∈ sets.take 0, r ∈ S) := ⟨⟨.inr ⟨rfl, upd_same⟩, Nat.zero_le _, fun x h => (by cases h)⟩, fun x h => (by cases h), List.nodup_nil, fun r _ => by simp, hd, s0⟩
    have xl : xs.length = sets.length := by rw [dpa_len hxs, List.length_map]
    refine ⟨_, rfl, a, rfl, for_seq hx s0 (fun i σ' H' => ∃ (o2 o3 : Option V) (L : List (Nat × Addr × V)), σ' = [some (.ref a), some (.ref d), o2, o3] ∧ Ev P w K H H' d L (fun r => ∃ S ∈ sets.take i, r ∈ S)) ⟨none, none, [], rfl, E0⟩ (fun i σ H' ⟨_, _, _, _, h⟩ => h.sm) ?_ ?_⟩
    · rintro i y σ' H1 hi ⟨o2, o3, L, rfl, N⟩
      obtain ⟨S, t, us, hS, rfl, ht, hus⟩ := dpa_atS (dpa_mono N.sm _ hxs) hi
      have hSm := List.mem_of_getElem? hS
      have hut := (dpa_atS hxs hi)
      obtain ⟨S', t', us', hS', et, ht', hus'⟩ := hut
      cases et
      obtain rfl : S' = S := by rw [hS] at hS'; exact (Option.some.inj hS').symm
      have ul : us'.length = S'.length := by rw [dpa_len hus', List.length_map]
      refine ⟨_, rfl, t, rfl, ⟨_, sqt_mono N.sm ht'⟩, for_tup (K := K) (a := t) (xs := us') (fun j σ' H' => ∃ (o3 : Option V) (L : List (Nat × Addr × V)), σ' = [some (.ref a), some (.ref d), some (.ref t), o3] ∧ Ev P w K H H' d L (fun r => (∃ S ∈ sets.take i, r ∈ S) ∨ r ∈ S'.take j)) ⟨o3, L, rfl, N.dn, N.r5, N.ndr, fun r hr => by rw [← N.all r hr]; simp, N.fd, N.sm⟩ (fun j σ' H' _ ⟨_, _, _, h⟩ => sqt_mono h.sm ht') ?_ ?_⟩
      · rintro j z σ' H2 hj ⟨o3, L, rfl, N2⟩
        obtain ⟨r, u, hr', rfl, hu⟩ := dpa_atI (dpa_mono N2.sm _ hus') hj
        have hr5 := h5 S' hSm r (List.mem_of_getElem? hr')
        obtain ⟨L', eL, N3⟩ := N2.add hr5 hu
        refine ⟨_, rfl, _, rfl, u, itK r, d, _, rfl, rfl, hu, it_depth r hr5, N2.dn, by unfold evRows; rw [List.length_map]; exact Nat.lt_of_le_of_lt N2.few (by decide), _, L', rfl, ?_⟩
        show Ev P w K H (upd H2 d (dnO P w d (putN (evRows L) (itK r) u (.bl true)))) d L' _
        rw [eL]
        refine ⟨N3.dn, N3.r5, N3.ndr, fun q hq => ?_, N3.fd, N3.sm⟩
        rw [← N3.all q hq, take_next hr', List.mem_append, List.mem_singleton, or_assoc]
      · rintro σ' H2 ⟨o3, L, rfl, N2⟩
        refine ⟨_, o3, L, rfl, N2.dn, N2.r5, N2.ndr, fun q hq => ?_, N2.fd, N2.sm⟩
        rw [← N2.all q hq, take_next hS, ul, List.take_length]
        constructor
        · rintro ⟨S, hS1, hq1⟩
          rcases List.mem_append.mp hS1 with m | m
          · exact .inl ⟨S, m, hq1⟩
          · rw [List.mem_singleton.mp m] at hq1
            exact .inr hq1
        · rintro (⟨S, hS1, hq1⟩ | hq1)
          · exact ⟨S, List.mem_append_left _ hS1, hq1⟩
          · exact ⟨_, List.mem_append_right _ (List.mem_singleton_self _), hq1⟩
    · rintro σ' H1 ⟨o2, o3, L, rfl, N⟩
      rw [xl, List.take_length] at N
      refine ⟨_, rfl, d, evRows L, rfl, N.dn, fun p1 hp1 => ?_⟩
      have s1 := same_new hp1 (.lst ((evRows L).map fun x => V.ref x.2.1))
      refine ⟨p1, L.map (fun x => (V.ref x.2.1, itV x.1)), rfl, ?_, ⟨fun p hp => ?_, fun p hp => ?_, fun p hp p' hp' => ?_⟩, fun qs p pm asc hp => ?_⟩
      · refine SqL.of ?_
        rw [upd_same, List.map_map]
        unfold evRows
        rw [List.map_map]
        rfl
      · obtain ⟨x, hx, rfl⟩ := List.mem_map.mp hp
        exact it_at (dp_mono s1 _ (N.dn.keys (itK x.1, x.2.1, x.2.2) (List.mem_map.mpr ⟨x, hx, rfl⟩)).1)
      · obtain ⟨x, hx, rfl⟩ := List.mem_map.mp hp
        exact it_fst _
      · obtain ⟨x, hx, rfl⟩ := List.mem_map.mp hp
        obtain ⟨x', hx', rfl⟩ := List.mem_map.mp hp'
        exact it_comp _ (N.r5 x hx).1 _ (N.r5 x' hx').1
      obtain ⟨rs', rfl, pm', asc'⟩ := asc_ranks (rk := fun x : Nat × Addr × V => x.1) (ad := fun x => V.ref x.2.1) (fun x hx => (N.r5 x hx).1) N.ndr pm asc
      have eR : rs'.map (·.1) = everyR sets := asc_eq asc' (every_asc sets) fun r => by
        constructor
        · intro h
          obtain ⟨x, hx, rfl⟩ := List.mem_map.mp h
          have hx' := pm'.mem_iff.mp hx
          exact mem_every.2 ⟨(N.r5 x hx').1, (N.all _ (N.r5 x hx').1).2 ⟨x, hx', rfl⟩⟩
        · intro h
          obtain ⟨h1, h2⟩ := mem_every.1 h
          obtain ⟨x, hx, rfl⟩ := (N.all r h1).1 h2
          exact List.mem_map.mpr ⟨x, pm'.mem_iff.mpr hx, rfl⟩
      have s2 := same_new hp (.lst ((rs'.map fun x => (V.ref x.2.1, itV x.1)).map (·.1)))
      refine q _ p _ ((N.sm.trans s1).trans s2) ?_ upd_same ?_
      · cases e : H p with
        | none => rfl
        | some o => rw [(N.sm.trans s1) _ _ e] at hp; cases hp
      · rw [← eR]
        have key : ∀ l : List (Nat × Addr × V), (∀ x ∈ l, x ∈ L) → DpAll K (hide p (upd (upd H1 p1 (.lst ((evRows L).map fun x => V.ref x.2.1))) p (.lst ((rs'.map fun x => (V.ref x.2.1, itV x.1)).map (·.1))))) ((l.map fun x => (V.ref x.2.1, itV x.1)).map (·.1)) ((l.map (·.1)).map itD) := by
          intro l
          induction l with
          | nil => intro _; exact .nil
          | cons x l ih =>
            intro hl
            refine .cons ?_ (ih fun y hy => hl y (List.mem_cons_of_mem _ hy))
            have h1 := (N.dn.keys (itK x.1, x.2.1, x.2.2) (List.mem_map.mpr ⟨x, hl x List.mem_cons_self, rfl⟩)).1
            have h2 := dp_mono s1 _ h1
            exact dp_mono (fun b o e => by
              have hb := ne_of_none e hp
              rw [hide_ne hb, upd_ne hb]
              exact e) _ h2
        exact key rs' fun x hx => pm'.mem_iff.mp hx
end
end My

set_option Elab.async false
set_option maxRecDepth 100000
set_option maxHeartbeats 4000000
set_option linter.all false
/-! Plain values as data: what asks them. -/
namespace My
open PySem PySem.Spec PyProof.Rows L2
mutual
/-- texts are not long -/
def short : PyData → Bool
  | .str x => decide (x.length ≤ 1000)
  | .list ds => decide (ds.length ≤ 1000) && shorts ds
  | .tuple ds => decide (ds.length ≤ 1000) && shorts ds
  | _ => true
def shorts : List PyData → Bool
  | [] => true
  | d :: ds => short d && shorts ds
end
theorem shorts_of : ∀ {ds : List PyData}, shorts ds = true → ∀ d ∈ ds, short d = true
  | x :: xs, h, d, hm => by
    have h' := Bool.and_eq_true_iff.mp (show (short x && shorts xs) = true from h)
    rcases List.mem_cons.mp hm with e | hm
    · rw [e]; exact h'.1
    · exact shorts_of h'.2 d hm
def okD (d : PyData) : Prop := d.canLay0 = true ∧ d.depth ≤ 60 ∧ short d = true
theorem okD.sh {d : PyData} (h : okD d) : SeqAt.shaped d = true := by
  show (d.canLay0 && decide (d.depth ≤ 64)) = true
  rw [h.1, decide_eq_true (by have := h.2.1; omega)] <;> rfl
theorem okAll_of : ∀ {ds : List PyData} {n : Nat}, PyData.canLayAll0 ds = true → PyData.depthAll ds ≤ n → ∀ d ∈ ds, d.canLay0 = true ∧ d.depth ≤ n
  | [], _, _, _, d, h => by cases h
  | x :: xs, n, h, hd, d, hm => by
    simp only [PyData.canLayAll0, Bool.and_eq_true] at h
    simp only [PyData.depthAll] at hd
    rcases List.mem_cons.mp hm with e | hm
    · rw [e]; exact ⟨h.1, by omega⟩
    · exact okAll_of h.2 (by omega) d hm
theorem okD_tlen {ds : List PyData} (h : okD (.tuple ds)) : ds.length ≤ 1000 := of_decide_eq_true (Bool.and_eq_true_iff.mp (show (decide (ds.length ≤ 1000) && shorts ds) = true from h.2.2)).1
theorem okD_tup {ds : List PyData} (h : okD (.tuple ds)) : ∀ d ∈ ds, okD d := fun d hd => by
  obtain ⟨h1, h2, h3⟩ := h
  have h3 := (Bool.and_eq_true_iff.mp (show (decide (ds.length ≤ 1000) && shorts ds) = true from h3)).2
  simp only [PyData.canLay0] at h1
  simp only [PyData.depth] at h2
  have := okAll_of (n := 59) h1 (by omega) d hd
  exact ⟨this.1, by omega, shorts_of h3 d hd⟩
theorem okD_lst {ds : List PyData} (h : okD (.list ds)) : ∀ d ∈ ds, okD d := fun d hd => by
  obtain ⟨h1, h2, h3⟩ := h
  have h3 := (Bool.and_eq_true_iff.mp (show (decide (ds.length ≤ 1000) && shorts ds) = true from h3)).2
  simp only [PyData.canLay0] at h1
  simp only [PyData.depth] at h2
  have := okAll_of (n := 59) h1 (by omega) d hd
  exact ⟨this.1, by omega, shorts_of h3 d hd⟩
theorem okD_int (i : Int) : okD (.int i) := ⟨rfl, by simp [PyData.depth], rfl⟩
theorem okD_nil : okD (.tuple []) := ⟨rfl, by decide, rfl⟩
theorem okD_nilL : okD (.list []) := ⟨rfl, by decide, rfl⟩
/-! isinstance -/
def tyN : PyData → String
  | .none => "NoneType"
  | .bool _ => "bool"
  | .int _ => "int"
  | .str _ => "str"
  | .list _ => "list"
  | .tuple _ => "tuple"
  | .dict _ => "dict"
theorem ty_dp {K : PySem.W.Frag} {H : Hp} {v : V} {d : PyData} (h : Dp K H v d) : TyX K H v (.type (tyN d)) := by
  cases h with
  | non => exact .base .non
  | bl b => exact .base (.bl b)
  | int i => exact .base (.int i)
  | str x => exact .base (.str x)
  | lst hs ha =>
    rcases hs with (h | ⟨o, h⟩) | ⟨o, its, n, hk, hc, hd, hs, hz, r⟩
    · exact .base (.lst h)
    · exact .base (.frz h)
    · exact .kList hk hc
  | tup hs ha =>
    rcases hs with (h | ⟨o, h⟩) | ⟨o, its, n, hk, hc, hs, hz, r⟩
    · exact .base (.tup h)
    · exact .fTuple h
    · exact .kTuple hk hc
def isI : PyData → Bool
  | .int _ => true
  | .bool _ => true
  | _ => false
def isB : PyData → Bool
  | .bool _ => true
  | _ => false
def isS : PyData → Bool
  | .str _ => true
  | _ => false
def isT : PyData → Bool
  | .tuple _ => true
  | _ => false
def isL : PyData → Bool
  | .list _ => true
  | _ => false
theorem kit_I : ∀ d : PyData, kitB (tyN d) "int" = some (isI d)
  | .none => (by decide +kernel : kitB "NoneType" "int" = some false)
  | .bool _ => (by decide +kernel : kitB "bool" "int" = some true)
  | .int _ => (by decide +kernel : kitB "int" "int" = some true)
  | .str _ => (by decide +kernel : kitB "str" "int" = some false)
  | .list _ => (by decide +kernel : kitB "list" "int" = some false)
  | .tuple _ => (by decide +kernel : kitB "tuple" "int" = some false)
  | .dict _ => (by decide +kernel : kitB "dict" "int" = some false)
theorem kit_B : ∀ d : PyData, kitB (tyN d) "bool" = some (isB d)
  | .none => (by decide +kernel : kitB "NoneType" "bool" = some false)
  | .bool _ => (by decide +kernel : kitB "bool" "bool" = some true)
  | .int _ => (by decide +kernel : kitB "int" "bool" = some false)
  | .str _ => (by decide +kernel : kitB "str" "bool" = some false)
  | .list _ => (by decide +kernel : kitB "list" "bool" = some false)
  | .tuple _ => (by decide +kernel : kitB "tuple" "bool" = some false)
  | .dict _ => (by decide +kernel : kitB "dict" "bool" = some false)
theorem kit_S : ∀ d : PyData, kitB (tyN d) "str" = some (isS d)
  | .none => (by decide +kernel : kitB "NoneType" "str" = some false)
  | .bool _ => (by decide +kernel : kitB "bool" "str" = some false)
  | .int _ => (by decide +kernel : kitB "int" "str" = some false)
  | .str _ => (by decide +kernel : kitB "str" "str" = some true)
  | .list _ => (by decide +kernel : kitB "list" "str" = some false)
  | .tuple _ => (by decide +kernel : kitB "tuple" "str" = some false)
  | .dict _ => (by decide +kernel : kitB "dict" "str" = some false)
theorem kit_T : ∀ d : PyData, kitB (tyN d) "tuple" = some (isT d)
  | .none => (by decide +kernel : kitB "NoneType" "tuple" = some false)
  | .bool _ => (by decide +kernel : kitB "bool" "tuple" = some false)
  | .int _ => (by decide +kernel : kitB "int" "tuple" = some false)
  | .str _ => (by decide +kernel : kitB "str" "tuple" = some false)
  | .list _ => (by decide +kernel : kitB "list" "tuple" = some false)
  | .tuple _ => (by decide +kernel : kitB "tuple" "tuple" = some true)
  | .dict _ => (by decide +kernel : kitB "dict" "tuple" = some false)
theorem kit_L : ∀ d : PyData, kitB (tyN d) "list" = some (isL d)
  | .none => (by decide +kernel : kitB "NoneType" "list" = some false)
  | .bool _ => (by decide +kernel : kitB "bool" "list" = some false)
  | .int _ => (by decide +kernel : kitB "int" "list" = some false)
  | .str _ => (by decide +kernel : kitB "str" "list" = some false)
  | .list _ => (by decide +kernel : kitB "list" "list" = some true)
  | .tuple _ => (by decide +kernel : kitB "tuple" "list" = some false)
  | .dict _ => (by decide +kernel : kitB "dict" "list" = some false)
/-- isinstance(x, T), x data, T a built-in type -/
def rIsiD (K : PySem.W.Frag) : List V → Hp → VK → Prop := fun xs H Q => ∃ (v : V) (d : PyData) (T : String) (b : Bool), xs = [v, .ty T] ∧ Dp K H v d ∧ kitB (tyN d) T = some b ∧ Q (.bl b) H
section
variable {X : Cx}
theorem cr_isiD : CallR X (.builtin "isinstance") (rIsiD X.K) := by
  intro pins s σ H xs us Q I r h
  obtain ⟨v, d, T, b, rfl, hd, hk, q⟩ := h
  exact call_isi pins s σ H _ us Q I r ⟨v, .ty T, .type (tyN d), .type T, b, rfl, .ty T, ty_dp hd, kit_ty hk, q⟩
theorem cr_isiDK {K : PySem.W.Frag} (h : X.K = K) : CallR X (.builtin "isinstance") (rIsiD K) := h ▸ cr_isiD
/-! in: lists and tuples of data -/
def rInDD (K : PySem.W.Frag) (neg : Bool) : R2 := fun x y H Q => ∃ (d : PyData) (ds : List PyData), Dp K H x d ∧ (Dp K H y (.list ds) ∨ Dp K H y (.tuple ds)) ∧ okD d ∧ okD (.list ds) ∧ Q (.bl (if neg then !ds.any fun z => PyData.eqv z d else ds.any fun z => PyData.eqv z d)) H
theorem room_in2 {A : Around} {d : PyData} {ds : List PyData} (hd : okD d) (hu : A.units + 65 < cLine) : A.units + 1 + min (PyData.depthAll ds) d.depth < cLine := by
  have h1 := hd.2.1
  have h2 : min (PyData.depthAll ds) d.depth ≤ d.depth := Nat.min_le_right _ _
  omega
theorem op_inDD (hu : X.A.units + 65 < cLine) : OpR X (compareOp .In) (rInDD X.K false) := by
  intro pins s σ H x y v u Q I rx ry h
  obtain ⟨d, ds, hd, he, sd, se, q⟩ := h
  obtain ⟨as, r1⟩ := Dp.reads I d x v hd rx
  have lay : PyData.canLayAll0 ds = true := by have := se.1; simpa only [PyData.canLay0] using this
  rcases he with he | he
  · obtain ⟨bs, r2⟩ := Dp.reads I (.list ds) y u he ry
    exact SeqAt.in_list_reads r2 r1 lay sd.1 (room_in2 sd hu) ⟨.bl _, H, I, rfl, q⟩
  · obtain ⟨bs, r2⟩ := Dp.reads I (.tuple ds) y u he ry
    exact SeqAt.in_tuple_reads r2 r1 lay sd.1 (room_in2 sd hu) ⟨.bl _, H, I, rfl, q⟩
theorem op_notInDD (hu : X.A.units + 65 < cLine) : OpR X (compareOp .NotIn) (rInDD X.K true) := by
  intro pins s σ H x y v u Q I rx ry h
  obtain ⟨d, ds, hd, he, sd, se, q⟩ := h
  obtain ⟨as, r1⟩ := Dp.reads I d x v hd rx
  have lay : PyData.canLayAll0 ds = true := by have := se.1; simpa only [PyData.canLay0] using this
  rcases he with he | he
  · obtain ⟨bs, r2⟩ := Dp.reads I (.list ds) y u he ry
    exact SeqAt.notIn_list_reads r2 r1 lay sd.1 (room_in2 sd hu) ⟨.bl _, H, I, rfl, q⟩
  · obtain ⟨bs, r2⟩ := Dp.reads I (.tuple ds) y u he ry
    exact SeqAt.notIn_tuple_reads r2 r1 lay sd.1 (room_in2 sd hu) ⟨.bl _, H, I, rfl, q⟩
end
/-! texts among data -/
def isX (x : Str) : PyData → Bool
  | .str y => decide (x = y)
  | _ => false
theorem eqv_strL (x : Str) (d : PyData) : PyData.eqv (.str x) d = isX x d := by
  cases d with
  | str y =>
    show (x == y) = decide (x = y)
    by_cases h : x = y
    · rw [h]; simp
    · rw [decide_eq_false h]; exact beq_eq_false_iff_ne.mpr h
  | _ => rfl
theorem eqv_strR (x : Str) (d : PyData) : PyData.eqv d (.str x) = isX x d := by
  cases d with
  | str y =>
    show (y == x) = decide (x = y)
    by_cases h : x = y
    · rw [h]; simp
    · rw [decide_eq_false h]; exact beq_eq_false_iff_ne.mpr fun e => h e.symm
  | _ => rfl
theorem isX_iff {x : Str} {d : PyData} : isX x d = true ↔ d = .str x := by
  cases d with
  | str y =>
    show decide (x = y) = true ↔ _
    rw [decide_eq_true_eq]
    exact ⟨fun e => by rw [e], fun e => by injection e with e; exact e.symm⟩
  | _ => exact ⟨fun e => (by cases (show false = true from e)), fun e => by cases e⟩
def inX (xs : List Str) (d : PyData) : Bool := xs.any fun x => isX x d
theorem any_strs (xs : List Str) (d : PyData) : ((xs.map PyData.str).any fun z => PyData.eqv z d) = inX xs d := by
  unfold inX
  rw [List.any_map]
  exact congrArg (fun f => xs.any f) (funext fun x => eqv_strL x d)
/-! whole numbers among data -/
def bw (lo hi : Int) : PyData → Bool
  | .int n => decide (lo ≤ n ∧ n ≤ hi)
  | _ => false
def isRow (n : Int) : PyData → Bool
  | .tuple ds => decide ((ds.length : Int) = n)
  | _ => false
theorem bw_iff {lo hi : Int} {d : PyData} : bw lo hi d = true ↔ ∃ n, d = .int n ∧ lo ≤ n ∧ n ≤ hi := by
  cases d with
  | int n => exact ⟨fun e => ⟨n, rfl, of_decide_eq_true e⟩, fun ⟨m, e, h⟩ => by cases e; exact decide_eq_true h⟩
  | _ => exact ⟨fun e => (by cases (show false = true from e)), fun ⟨n, e, _⟩ => by cases e⟩
theorem isRow_iff {n : Int} {d : PyData} : isRow n d = true ↔ ∃ ds, d = .tuple ds ∧ (ds.length : Int) = n := by
  cases d with
  | tuple ds => exact ⟨fun e => ⟨ds, rfl, of_decide_eq_true e⟩, fun ⟨es, e, h⟩ => by cases e; exact decide_eq_true h⟩
  | _ => exact ⟨fun e => (by cases (show false = true from e)), fun ⟨n, e, _⟩ => by cases e⟩
/-- item i of a tuple -/
def rowAt (d : PyData) (i : Nat) : PyData := match d with
  | .tuple ds => ds.getD i .none
  | _ => .none
theorem dp_row2 {K : PySem.W.Frag} {H : Hp} {v : V} {d : PyData} (h : Dp K H v d) (r : isRow 2 d = true) : ∃ t a b x y, v = .ref t ∧ d = .tuple [x, y] ∧ SqT K H t [a, b] ∧ Dp K H a x ∧ Dp K H b y := by
  obtain ⟨ds, rfl, hl⟩ := isRow_iff.1 r
  match ds, hl with
  | [x, y], _ =>
    obtain ⟨t, us, rfl, ht, hts⟩ := dp_tup h
    cases hts with
    | cons h1 r1 =>
      cases r1 with
      | cons h2 r2 =>
        cases r2
        exact ⟨t, _, _, x, y, rfl, rfl, ht, h1, h2⟩
  | [], h => exact absurd h (by decide)
  | [_], h => exact absurd h (by simp)
  | _ :: _ :: _ :: r, h => exact absurd h (by simp only [List.length_cons]; omega)
theorem dp_row3 {K : PySem.W.Frag} {H : Hp} {v : V} {d : PyData} (h : Dp K H v d) (r : isRow 3 d = true) : ∃ t a b c x y z, v = .ref t ∧ d = .tuple [x, y, z] ∧ SqT K H t [a, b, c] ∧ Dp K H a x ∧ Dp K H b y ∧ Dp K H c z := by
  obtain ⟨ds, rfl, hl⟩ := isRow_iff.1 r
  match ds, hl with
  | [x, y, z], _ =>
    obtain ⟨t, us, rfl, ht, hts⟩ := dp_tup h
    cases hts with
    | cons h1 r1 =>
      cases r1 with
      | cons h2 r2 =>
        cases r2 with
        | cons h3 r3 =>
          cases r3
          exact ⟨t, _, _, _, x, y, z, rfl, rfl, ht, h1, h2, h3⟩
  | [], h => exact absurd h (by decide)
  | [_], h => exact absurd h (by simp)
  | [_, _], h => exact absurd h (by simp)
  | _ :: _ :: _ :: _ :: r, h => exact absurd h (by simp only [List.length_cons]; omega)
def ConI (mg : Str → Option Value) (x : Str) (n : Int) : Prop := ∃ t, mg x = some (.int n t)
def ConS (mg : Str → Option Value) (x y : Str) : Prop := ∃ t, mg x = some (.str y t)
end My

set_option Elab.async false
set_option maxRecDepth 100000
set_option maxHeartbeats 4000000
set_option linter.all false
namespace My
open PySem L2 PyProof.Rows
open C8 (pss_cut)
section
variable {X : Cx} {K : PySem.W.Frag}
theorem op_inDD60 (h : X.K = K) (hu : X.A.units + 65 < cLine) : OpR X (compareOp .In) (rInDD K false) := h ▸ op_inDD hu
end
/-! ### items compared -/
theorem it_okD : ∀ r, r < 5 → (itD r).canLay0 = true ∧ (itD r).depth ≤ 2 ∧ short (itD r) = true := by decide +kernel
theorem its_okD : ∀ {S : List Nat}, (∀ r ∈ S, r < 5) → PyData.canLayAll0 (S.map itD) = true ∧ PyData.depthAll (S.map itD) ≤ 2 ∧ shorts (S.map itD) = true
  | [], _ => ⟨rfl, Nat.zero_le _, rfl⟩
  | r :: S, h => by
    obtain ⟨h1, h2, h3⟩ := its_okD (S := S) fun q m => h q (List.mem_cons_of_mem _ m)
    obtain ⟨g1, g2, g3⟩ := it_okD r (h r List.mem_cons_self)
    refine ⟨?_, ?_, ?_⟩
    · show ((itD r).canLay0 && PyData.canLayAll0 (S.map itD)) = true
      rw [g1, h1]; rfl
    · show max (itD r).depth (PyData.depthAll (S.map itD)) ≤ 2
      omega
    · show (short (itD r) && shorts (S.map itD)) = true
      rw [g3, h3]; rfl
theorem okD_item {r : Nat} (h : r < 5) : okD (itD r) := by
  obtain ⟨g1, g2, g3⟩ := it_okD r h
  exact ⟨g1, by omega, g3⟩
theorem okD_items {S : List Nat} (h : ∀ r ∈ S, r < 5) (hl : S.length ≤ 1000) : okD (.list (S.map itD)) := by
  obtain ⟨h1, h2, h3⟩ := its_okD h
  refine ⟨h1, by show PyData.depthAll (S.map itD) + 1 ≤ 60; omega, ?_⟩
  show (decide ((S.map itD).length ≤ 1000) && shorts (S.map itD)) = true
  rw [List.length_map, decide_eq_true hl, h3]; rfl
theorem any_item {S : List Nat} {r : Nat} (hr : r < 5) (h : ∀ q ∈ S, q < 5) : ((S.map itD).any fun z => PyData.eqv z (itD r)) = S.contains r := by
  induction S with
  | nil => rfl
  | cons q S ih =>
    rw [List.map_cons, List.any_cons, ih fun x m => h x (List.mem_cons_of_mem _ m), it_eqv _ (h q List.mem_cons_self) _ hr, List.contains_cons]
    congr 1
    by_cases e : q = r
    · subst e; simp
    · have : ¬ r = q := fun z => e z.symm
      simp [e, this]
theorem eqv_items : ∀ {a b : List Nat}, (∀ r ∈ a, r < 5) → (∀ r ∈ b, r < 5) → PyData.eqv (.list (a.map itD)) (.list (b.map itD)) = decide (a = b)
  | [], [], _, _ => by rfl
  | [], _ :: _, _, _ => by rfl
  | _ :: _, [], _, _ => by rfl
  | x :: a, y :: b, ha, hb => by
    have ih := eqv_items (a := a) (b := b) (fun r m => ha r (List.mem_cons_of_mem _ m)) fun r m => hb r (List.mem_cons_of_mem _ m)
    have ih : PyData.eqvAll (a.map itD) (b.map itD) = decide (a = b) := ih
    show (PyData.eqv (itD x) (itD y) && PyData.eqvAll (a.map itD) (b.map itD)) = _
    rw [ih, it_eqv _ (ha x List.mem_cons_self) _ (hb y List.mem_cons_self)]
    by_cases e1 : x = y <;> by_cases e2 : a = b <;> simp [e1, e2]
/-! ### a list of clauses that grows -/
structure Gc (K : PySem.W.Frag) (H0 H : Hp) (R : Addr) (cs : List (List Int)) : Prop where
  sm : Same H0 H
  fr : H0 R = none
  ex : ∃ zs, H R = some (.lst zs) ∧ DpAll K (hide R H) zs (cs.map clD)
theorem Gc.same {K : PySem.W.Frag} {H0 H H' : Hp} {R : Addr} {cs : List (List Int)} (g : Gc K H0 H R cs) (s : Same H H') : Gc K H0 H' R cs := by
  obtain ⟨zs, h1, h2⟩ := g.ex
  exact ⟨g.sm.trans s, g.fr, zs, s _ _ h1, dpa_mono (hide_same s) _ h2⟩
theorem Gc.add {K : PySem.W.Frag} {H0 H : Hp} {R u : Addr} {cs : List (List Int)} {zs : List V} (g : Gc K H0 H R cs) (hz : H R = some (.lst zs)) (c : List Int) (hu : H u = none) :
    Gc K H0 (upd (upd H u (.tup (c.map V.int))) R (.lst (zs ++ [.ref u]))) R (cs ++ [c]) := by
  obtain ⟨zs', h1, h2⟩ := g.ex
  obtain rfl : zs' = zs := by
    rw [hz] at h1
    cases h1
    rfl
  have nu : u ≠ R := fun e => by rw [e, hz] at hu; cases hu
  refine ⟨fun b o e => ?_, g.fr, _, upd_same, ?_⟩
  · rw [upd_ne (ne_of_none e g.fr)]
    exact same_new hu _ _ _ (g.sm b o e)
  · rw [List.map_append]
    refine dpa_app (dpa_mono ((hide_same (same_new hu _)).trans (hide_put _)) _ h2) (dpa_one ?_)
    exact .tup (SqT.of (by rw [hide_ne nu, upd_ne nu, upd_same])) (ints_all _)
theorem Gc.addE {K : PySem.W.Frag} {H0 H : Hp} {R u : Addr} {cs : List (List Int)} {zs vs : List V} (g : Gc K H0 H R cs) (hz : H R = some (.lst zs)) (c : List Int) (e : vs = c.map V.int) (hu : H u = none) :
    Gc K H0 (upd (upd H u (.tup vs)) R (.lst (zs ++ [.ref u]))) R (cs ++ [c]) := by
  rw [e]
  exact g.add hz c hu
theorem flat_len (m M k : Nat) : ((List.range k).flatMap (cntRow m M)).length ≤ k * (2 * M + 3) := by
  induction k with
  | zero => simp
  | succ k ih =>
    rw [List.range_succ, List.flatMap_append, List.length_append, Nat.succ_mul]
    have := cntRow_len m M k
    simp only [List.flatMap_cons, List.flatMap_nil, List.append_nil]
    omega
theorem Gc.len {K : PySem.W.Frag} {H0 H : Hp} {R : Addr} {cs : List (List Int)} (g : Gc K H0 H R cs) {n : Nat} (h : cs.length ≤ n) (hn : n ≤ 100000) : ∃ zs, H R = some (.lst zs) ∧ zs.length < sizeLine := by
  obtain ⟨zs, h1, h2⟩ := g.ex
  have := dpa_len h2
  rw [List.length_map] at this
  exact ⟨zs, h1, Nat.lt_of_le_of_lt (show zs.length ≤ 100000 by omega) (by decide)⟩
def spDue (K : PySem.W.Frag) : Sp := fun vs H Q _ => ∃ (a : Addr) (sets : List (List Nat)) (M : Nat), vs = [.ref a, .int M] ∧ Dp K H (.ref a) (setsD sets) ∧ SetsOk sets ∧ M ≤ 100 ∧ ∀ H' r zs, Same H H' → H r = none → H' r = some (.lst zs) → DpAll K (hide r H') zs ((dueR sets M).map clD) → Q (.ref r) H'
def spFewest (K : PySem.W.Frag) : Sp := fun vs H Q _ => ∃ (a : Addr) (sets : List (List Nat)), vs = [.ref a] ∧ Dp K H (.ref a) (setsD sets) ∧ SetsOk sets ∧ ∀ H', Same H H' → Q (.int (few sets : Nat)) H'
section
variable {P : Program} {w : World} {K : PySem.W.Frag} {mg : Str → Option Value} {base : Heap} {f C : Addr} {fd : FuncData}
theorem ok__law_due (T : Txt K mg) (D : Def K mg "_law_due" ["sets", "most"] s__law_due f fd) (O1 : Own P w K mg base "_law_every" ["rows"] 1 (spEvery K)) : Own P w K mg base "_law_due" ["sets", "most"] 2 (spDue K) := by
  obtain ⟨f_law_every, fd_law_every, m_law_every, k_law_every, b_law_every, G_law_every⟩ := O1
  refine ⟨f, fd, D.mg, D.fn.kp, D.bd, D.fn.ok sc__law_due (fun vs H Q E h => ?_) (fun cdv A outer s H vs Q E hr h => ?_)⟩
  · obtain ⟨a, sets, M, rfl, _⟩ := h
    rfl
  · obtain ⟨a, sets, M, rfl, ha, ok, hM, q⟩ := h
    obtain ⟨a', xs, ea, hx, hxs⟩ := dp_tup (show Dp K H (.ref a) (.tuple (sets.map setD)) from ha)
    cases ea
    have xl : xs.length = sets.length := by rw [dpa_len hxs, List.length_map]
    have hf := ok.few
    refine ⟨_, (pss_cons (ps_set (i := 2) sc__law_due.nd rfl (Or.inl rfl) (pe_callB call_len_seq (by rfl) T.m_len (by decide +kernel) (pa_cons (pv 0) pa_nil)))
      (pss_cons (ps_set (i := 3) sc__law_due.nd rfl (Or.inl rfl) (pe_lst pa_nil))
      (pss_cons (ps_for PassesOwn.never rfl (pi_list (pe_call G_law_every (hr.mono (by omega)) rfl m_law_every k_law_every b_law_every .nil pass0 (pa_cons (pv 0) pa_nil))) (pg_name (i := 4) sc__law_due.nd rfl (Or.inr rfl)) (pss_one (ps_expr (pe_bm PySem.F.plainAttrs_list PySem.F.slot_list_append PySem.F.type_list_append mt_append (pv 3) (pa_cons (pe_callTy call_tuple_of (by rfl) T.m_tuple (by decide +kernel) (pa_cons (pe_lc (own := [("i", 6)]) (g := gName 6) rfl sc__law_due.nd (pi_range1 (by rfl) T.m_range (pa_cons (pv 2) pa_nil)) (blkOk_by (N := N__law_due) (sc := defScope s__law_due) (own := [("i", 6)]) (by decide +kernel)) (fun _ _ _ _ _ => (pg_name (i := 6) sc__law_due.nd rfl (Or.inl rfl))) (fun _ _ _ _ _ => (pts_one (pt_cmpR (op_inDD60 (K := K) rfl (room65 hr)) (pv 4) (pe_ix (ix_tupK (K := K) rfl) (pv 0) (pv 6) (fun _ _ => rfl)) (by rfl)))) (fun _ _ _ _ _ => (pe_op op_add (pv 6) pe_int))) pa_nil)) pa_nil)))))
      (pss_cons (ps_for PassesOwn.never rfl (pi_range2 (by rfl) T.m_range (pa_cons pe_int (pa_cons (pe_op op_add (pv 2) pe_int) pa_nil))) (pg_name (i := 6) sc__law_due.nd rfl (Or.inl rfl)) (pss_cut (ps_if (pt_cmpR op_eq (pv 1) pe_int (nomark _)) (pss_one (ps_expr (pe_bm PySem.F.plainAttrs_list PySem.F.slot_list_append PySem.F.type_list_append mt_append (pv 3) (pa_cons (pe_tup (pa_cons (pe_un un_neg (pv 6)) pa_nil)) pa_nil)))) (pss_one (ps_expr (pe_bm PySem.F.plainAttrs_list PySem.F.slot_list_append PySem.F.type_list_append mt_append (pv 3) (pa_cons (pe_tup (pa_cons (pe_un un_neg (pv 6)) (pa_cons (pe_op op_add (pe_op op_add (pv 2) (pe_op op_mul (pe_op op_sub (pv 6) pe_int) (pv 1))) pe_int) pa_nil))) pa_nil)))))
      (pss_one (ps_if (PW.pt (pw_and (pt_cmpR op_gt (pv 1) pe_int (nomark _)) (pw_and1 (pt_cmpR op_gt (pv 6) pe_int (nomark _))))) (pss_cons (ps_for PassesOwn.never rfl (pi_range2 (by rfl) T.m_range (pa_cons pe_int (pa_cons (pe_op op_add (pv 1) pe_int) pa_nil))) (pg_name (i := 5) sc__law_due.nd rfl (Or.inl rfl)) (pss_one (ps_expr (pe_bm PySem.F.plainAttrs_list PySem.F.slot_list_append PySem.F.type_list_append mt_append (pv 3) (pa_cons (pe_tup (pa_cons (pe_un un_neg (pe_op op_add (pe_op op_add (pv 2) (pe_op op_mul (pe_op op_sub (pv 6) pe_int) (pv 1))) (pv 5))) (pa_cons (pe_op op_add (pe_op op_add (pv 2) (pe_op op_mul (pe_op op_sub (pv 6) pe_int) (pv 1))) (pv 5)) pa_nil))) pa_nil)))))
      (pss_cons (ps_for PassesOwn.never rfl (pi_range2 (by rfl) T.m_range (pa_cons pe_int (pa_cons (pe_op op_add (pv 1) pe_int) pa_nil))) (pg_name (i := 5) sc__law_due.nd rfl (Or.inl rfl)) (pss_one (ps_expr (pe_bm PySem.F.plainAttrs_list PySem.F.slot_list_append PySem.F.type_list_append mt_append (pv 3) (pa_cons (pe_tup (pa_cons (pe_un un_neg (pv 6)) (pa_cons (pe_un un_neg (pe_op op_sub (pe_op op_add (pe_op op_add (pv 2) (pe_op op_mul (pe_op op_sub (pv 6) pe_int) (pv 1))) (pv 5)) pe_int)) (pa_cons (pe_op op_add (pe_op op_add (pv 2) (pe_op op_mul (pe_op op_sub (pv 6) pe_int) (pv 1))) (pv 5)) pa_nil)))) pa_nil)))))
      (pss_one (ps_expr (pe_bm PySem.F.plainAttrs_list PySem.F.slot_list_append PySem.F.type_list_append mt_append (pv 3) (pa_cons (pe_tup (pa_cons (pe_un un_neg (pv 6)) (pa_cons (pe_un un_neg (pe_op op_add (pe_op op_add (pv 2) (pe_op op_mul (pe_op op_sub (pv 6) pe_int) (pv 1))) (pv 1))) pa_nil))) pa_nil)))))) pss_nil))))
      (pss_one (ps_ret (pv 3))))))), ?_⟩
    refine ⟨_, rfl, a, xs, rfl, .inr hx, by show 0 ≤ sizeLine; decide, fun R hR => ?_⟩
    have g0 : Gc K H (upd H R (.lst [])) R [] := ⟨same_new hR _, hR, [], upd_same, .nil⟩
    refine ⟨_, rfl, a, xs, sets, rfl, .inr (sqt_mono g0.sm hx), dpa_mono g0.sm _ hxs, by omega, fun S hS => (ok.ok S hS).2, fun H1 r1 zs1 s1 hn1 hr1 hz1 => ?_⟩
    have g1 := g0.same s1
    have hd1 := dpa_mono hide_le _ hz1
    have e5 : (everyR sets).length ≤ 5 := Nat.le_trans (List.length_filter_le _ _) (by rw [List.length_range]; exact Nat.le_refl _)
    have r5 : ∀ r ∈ everyR sets, r < 5 := fun r hr => (mem_every.1 hr).1
    have zl : zs1.length = (everyR sets).length := by rw [dpa_len hz1, List.length_map]
    have nR1 : r1 ≠ R := fun e => by rw [e, upd_same] at hn1; cases hn1
    refine ⟨r1, rfl, ⟨_, SqL.of hr1⟩, for_list (K := K) (a := r1) (xs := zs1) (fun k σ' H' => ∃ (o4 : Option V), σ' = [some (.ref a), some (.int M), some (.int (xs.length : Nat)), some (.ref R), o4, none, none] ∧ Gc K H H' R (((everyR sets).take k).map (idx sets)) ∧ But [R] H1 H') ⟨none, rfl, by simpa using g1, But.refl _ _⟩ (fun i σ' H' _ ⟨_, _, _, b⟩ => SqL.of (b _ _ (fun m => nR1 (List.mem_singleton.mp m)) hr1)) ?_ ?_⟩
    · rintro k y σ' H2 hk ⟨o4, rfl, g2, b2⟩
      have mR : ∀ a ∈ [R], Mut (H1 a) := fun a ha => by
        obtain ⟨zs, h1, _⟩ := g1.ex
        rw [List.mem_singleton.mp ha, h1]; exact True.intro
      obtain ⟨r, b, hr', rfl, hb0⟩ := dpa_atI hd1 hk
      have hb := dp_but mR b2 _ (it_noLst r) hb0
      have hr5 := r5 r (List.mem_of_getElem? hr')
      have kl : k < (everyR sets).length := (List.getElem?_eq_some_iff.mp hr').1
      obtain ⟨zs2, hz2, hl2⟩ := g2.len (n := 5) (by rw [List.length_map, List.length_take]; omega) (by omega)
      have hx2 := sqt_mono g2.sm hx
      have hxs2 := dpa_mono g2.sm _ hxs
      refine ⟨_, rfl, .inl ⟨rfl, _, SqL.of hz2⟩, _, rfl, _, rfl, by omega, by omega, fun D1 hD1 => lc_gen (K := K) (walk_range (lo := 0) (n := ((xs.length : Nat) : Int).toNat)) (fun j ds => ds = (idxN sets r j).map PyData.int) rfl (by omega) hD1 (fun H2 s2 => True.intro) (fun j y H3 H4 ds Nx Add hj hw s3 hne hy hNx hAdd => ?_) (fun H5 zs5 ds hz5 hd5 hw5 s5 => ?_)⟩
      · obtain ⟨rfl, rfl⟩ := hy
        have hj' : j < xs.length := by omega
        obtain ⟨v, hv⟩ : ∃ v, xs[j]? = some v := ⟨xs[j], List.getElem?_eq_getElem hj'⟩
        obtain ⟨S, t, us, hS, rfl, ht, hus⟩ := dpa_atS hxs2 hv
        obtain ⟨okS, okS5⟩ := ok.ok S (List.mem_of_getElem? hS)
        have hat : atI xs (0 + (j : Int)) = some (.ref t) := by rw [Int.zero_add]; exact atI_nat hv
        have Sl : S.length ≤ 5 := nat_few (List.Pairwise.imp (fun h => by omega) okS) okS5
        refine ⟨rfl, _, rfl, _, rfl, _, rfl, a, _, _, _, rfl, rfl, sqt_mono s3 hx2, hat, itD r, S.map itD, dp_mono s3 _ hb, .inr (.tup (sqt_mono s3 ht) (dpa_mono s3 _ hus)), okD_item hr5, okD_items okS5 (by omega), _, rfl, ?_⟩
        have ei : hasI sets r j = S.contains r := by unfold hasI; rw [hS]; rfl
        have ea : (((S.map itD).any fun z => PyData.eqv z (itD r))) = hasI sets r j := by rw [any_item hr5 okS5, ei]
        show (if (if false = true then _ else ((S.map itD).any fun z => PyData.eqv z (itD r))) = true then _ else _)
        rw [if_neg Bool.false_ne_true, ea]
        by_cases hh : hasI sets r j = true
        · rw [if_pos hh]
          refine ⟨_, rfl, _, _, rfl, rfl, ?_⟩
          refine hAdd _ (.int ((j + 1 : Nat) : Int)) _ (Same.refl _) (by show Dp K _ (V.int (0 + (j : Int) + 1)) _; rw [show (0 : Int) + (j : Int) + 1 = ((j + 1 : Nat) : Int) by omega]; exact .int _) ?_
          rw [hw, idxN_succ, if_pos hh, List.map_append]
          rfl
        · rw [if_neg hh]
          refine hNx _ (Same.refl _) ?_
          rw [hw, idxN_succ, if_neg hh, List.append_nil]
      · subst hw5
        have e5' : ((xs.length : Nat) : Int).toNat = sets.length := by omega
        rw [e5'] at hd5
        have ez : zs5 = (idx sets r).map V.int := ints_of hd5
        rw [ez] at hz5
        refine ⟨D1, _, rfl, .inl ⟨SqL.of hz5, fun u hu => ?_⟩⟩
        have g5 := g2.same s5
        have hR5 := s5 _ _ hz2
        have su := same_new hu (.tup ((idx sets r).map V.int))
        refine ⟨R, _, _, rfl, rfl, su _ _ hR5, hl2, some (.ref b), rfl, ?_, ?_⟩
        · have := g5.add hR5 (idx sets r) hu
          rw [take_next hr', List.map_append]
          exact this
        · exact b2.trans ((But.of_same (s5.trans su)).trans (But.put (List.mem_singleton_self _) _))
    · rintro σ' H2 ⟨o4, rfl, g2, _⟩
      rw [zl, List.take_length] at g2
      obtain ⟨B, eB⟩ : ∃ B, B = (everyR sets).map (idx sets) := ⟨_, rfl⟩
      have lB : B.length ≤ 5 := by rw [eB, List.length_map]; exact e5
      rw [← eB] at g2
      have lF : ∀ k, k ≤ 9 → (B ++ (List.range k).flatMap (cntRow sets.length M)).length ≤ 2000 := fun k hk => by
        have h1 := flat_len sets.length M k
        have h2 : k * (2 * M + 3) ≤ 9 * 203 := Nat.mul_le_mul hk (by omega)
        rw [List.length_append]
        omega
      have step : ∀ k, (List.range (k + 1)).flatMap (cntRow sets.length M) = (List.range k).flatMap (cntRow sets.length M) ++ cntRow sets.length M k := fun k => by
        rw [List.range_succ, List.flatMap_append]
        simp only [List.flatMap_cons, List.flatMap_nil, List.append_nil]
      refine ⟨_, rfl, _, _, rfl, rfl, 1, _, rfl, ⟨by omega, by omega, by omega, by omega⟩, for_range (fun k σ' H' => ∃ (o4 o5 o6 : Option V), σ' = [some (.ref a), some (.int M), some (.int (xs.length : Nat)), some (.ref R), o4, o5, o6] ∧ Gc K H H' R (B ++ (List.range k).flatMap (cntRow sets.length M))) ⟨o4, none, none, rfl, by simpa using g2⟩ ?_ ?_⟩
      · rintro k σ' H3 hk ⟨o4, o5, o6, rfl, g3⟩
        have hk' : k < sets.length := by omega
        refine ⟨fun σ' H' => ∃ (o4 o5 : Option V), σ' = [some (.ref a), some (.int M), some (.int (xs.length : Nat)), some (.ref R), o4, o5, some (.int (1 + (k : Int)))] ∧ Gc K H H' R (B ++ (List.range k).flatMap (cntRow sets.length M) ++ [if M = 0 then [-((k + 1 : Nat) : Int)] else [-((k + 1 : Nat) : Int), sVar sets.length M k 1]]), ?_, ?_⟩
        · obtain ⟨zs3, hz3, hl3⟩ := g3.len (lF k (by omega)) (by omega)
          have v0 : -(1 + (k : Int)) = -((k + 1 : Nat) : Int) := by omega
          refine ⟨_, rfl, rfl, _, rfl, ite2 (fun c => ?_) (fun c => ?_)⟩
          · have hM0 : M = 0 := by
              have c : V.int (M : Int) = V.int 0 := of_decide_eq_true c
              have := V.int.inj c
              omega
            refine ⟨_, rfl, .inl ⟨rfl, _, SqL.of hz3⟩, _, rfl, _, rfl, by show 1 ≤ sizeLine; decide, fun u hu => ?_⟩
            refine ⟨R, _, _, rfl, rfl, same_new hu _ _ _ hz3, hl3, o4, o5, rfl, ?_⟩
            rw [if_pos hM0]
            exact g3.addE hz3 [-((k + 1 : Nat) : Int)] (by show [V.int (-(1 + (k : Int)))] = _; rw [v0]; rfl) hu
          · have hM0 : M ≠ 0 := fun e => c (decide_eq_true (by rw [e]; rfl))
            have v1 : ((xs.length : Nat) : Int) + (1 + (k : Int) - 1) * (M : Int) + 1 = sVar sets.length M k 1 := by
              unfold sVar
              rw [show (1 : Int) + (k : Int) - 1 = (k : Int) by omega, xl]
              simp
            refine ⟨_, rfl, .inl ⟨rfl, _, SqL.of hz3⟩, _, rfl, _, rfl, _, rfl, _, rfl, _, _, rfl, rfl, _, rfl, _, _, rfl, rfl, .inr (by omega), _, _, rfl, rfl, _, _, rfl, rfl, by show 2 ≤ sizeLine; decide, fun u hu => ?_⟩
            refine ⟨R, _, _, rfl, rfl, same_new hu _ _ _ hz3, hl3, o4, o5, rfl, ?_⟩
            rw [if_neg hM0]
            exact g3.addE hz3 [-((k + 1 : Nat) : Int), sVar sets.length M k 1] (by show [V.int (-(1 + (k : Int))), V.int (((xs.length : Nat) : Int) + (1 + (k : Int) - 1) * (M : Int) + 1)] = _; rw [v0, v1]; rfl) hu
        · rintro σ4 H4 ⟨o4, o5, rfl, g4⟩
          refine ⟨_, rfl, _, _, rfl, rfl, _, rfl, ite2 (fun c => ?_) (fun c => ?_)⟩
          · have hM0 : M ≠ 0 := by
              have c : (0 : Int) < (M : Int) := of_decide_eq_true c
              omega
            rw [if_neg hM0] at g4
            refine ⟨_, rfl, _, _, rfl, rfl, _, rfl, ite2 (fun c2 => ?_) (fun c2 => ?_)⟩
            · obtain ⟨k0, rfl⟩ : ∃ k0, k = k0 + 1 := ⟨k - 1, by
                have c2 : (1 : Int) < 1 + (k : Int) := of_decide_eq_true c2
                omega⟩
              obtain ⟨C4, eC4⟩ : ∃ C4, C4 = B ++ (List.range (k0 + 1)).flatMap (cntRow sets.length M) ++ [[-((k0 + 1 + 1 : Nat) : Int), sVar sets.length M (k0 + 1) 1]] := ⟨_, rfl⟩
              have lC4 : C4.length ≤ 2001 := by
                have := lF (k0 + 1) (by omega)
                rw [eC4, List.length_append]
                show _ + 1 ≤ _
                omega
              rw [← eC4] at g4
              have ia : (1 : Int) + ((k0 + 1 : Nat) : Int) - 2 = (k0 : Int) := by omega
              have ib : (1 : Int) + ((k0 + 1 : Nat) : Int) - 1 = ((k0 + 1 : Nat) : Int) := by omega
              have v0 : -(1 + ((k0 + 1 : Nat) : Int)) = -((k0 + 1 + 1 : Nat) : Int) := by omega
              refine ⟨_, rfl, _, _, rfl, rfl, 1, _, rfl, ⟨by omega, by omega, by omega, by omega⟩, for_range (fun j σ' H' => ∃ (o5 : Option V), σ' = [some (.ref a), some (.int M), some (.int (xs.length : Nat)), some (.ref R), o4, o5, some (.int (1 + ((k0 + 1 : Nat) : Int)))] ∧ Gc K H H' R (C4 ++ ((List.range j).map fun j => [-sVar sets.length M k0 (j + 1), sVar sets.length M (k0 + 1) (j + 1)]))) ⟨o5, rfl, by simpa using g4⟩ ?_ ?_⟩
              · rintro j σ' H5 hj ⟨o5, rfl, g5⟩
                have hj' : j < M := by omega
                obtain ⟨zs5, hz5, hl5⟩ := g5.len (n := 2201) (by rw [List.length_append, List.length_map, List.length_range]; omega) (by omega)
                have v1 : -(((xs.length : Nat) : Int) + (1 + ((k0 + 1 : Nat) : Int) - 2) * (M : Int) + (1 + (j : Int))) = -sVar sets.length M k0 (j + 1) := by
                  unfold sVar
                  rw [ia, xl]
                  simp
                  omega
                have v2 : ((xs.length : Nat) : Int) + (1 + ((k0 + 1 : Nat) : Int) - 1) * (M : Int) + (1 + (j : Int)) = sVar sets.length M (k0 + 1) (j + 1) := by
                  unfold sVar
                  rw [ib, xl]
                  simp
                  omega
                refine ⟨_, rfl, .inl ⟨rfl, _, SqL.of hz5⟩, _, rfl, _, rfl, _, _, rfl, rfl, _, rfl, _, _, rfl, rfl, .inr (by omega), _, _, rfl, rfl, _, rfl, _, _, rfl, rfl, _, rfl, _, rfl, _, rfl, _, _, rfl, rfl, _, rfl, _, _, rfl, rfl, .inr (by omega), _, _, rfl, rfl, _, rfl, _, _, rfl, rfl, by show 2 ≤ sizeLine; decide, fun u hu => ?_⟩
                refine ⟨R, _, _, rfl, rfl, same_new hu _ _ _ hz5, hl5, _, rfl, ?_⟩
                have := g5.addE hz5 [-sVar sets.length M k0 (j + 1), sVar sets.length M (k0 + 1) (j + 1)] (show [V.int (-(((xs.length : Nat) : Int) + (1 + ((k0 + 1 : Nat) : Int) - 2) * (M : Int) + (1 + (j : Int)))), V.int (((xs.length : Nat) : Int) + (1 + ((k0 + 1 : Nat) : Int) - 1) * (M : Int) + (1 + (j : Int)))] = _ by rw [v1, v2]; rfl) hu
                rw [List.range_succ, List.map_append, ← List.append_assoc]
                exact this
              · rintro σ' H5 ⟨o5, rfl, g5⟩
                rw [show ((M : Int) + 1 - 1).toNat = M by omega] at g5
                obtain ⟨C5, eC5⟩ : ∃ C5, C5 = C4 ++ ((List.range M).map fun j => [-sVar sets.length M k0 (j + 1), sVar sets.length M (k0 + 1) (j + 1)]) := ⟨_, rfl⟩
                have lC5 : C5.length ≤ 2101 := by rw [eC5, List.length_append, List.length_map, List.length_range]; omega
                rw [← eC5] at g5
                refine ⟨_, rfl, _, _, rfl, rfl, 2, _, rfl, ⟨by omega, by omega, by omega, by omega⟩, for_range (fun j σ' H' => ∃ (o5 : Option V), σ' = [some (.ref a), some (.int M), some (.int (xs.length : Nat)), some (.ref R), o4, o5, some (.int (1 + ((k0 + 1 : Nat) : Int)))] ∧ Gc K H H' R (C5 ++ ((List.range j).map fun j => [-((k0 + 1 + 1 : Nat) : Int), -sVar sets.length M k0 (j + 1), sVar sets.length M (k0 + 1) (j + 2)]))) ⟨o5, rfl, by simpa using g5⟩ ?_ ?_⟩
                · rintro j σ' H6 hj ⟨o5, rfl, g6⟩
                  have hj' : j < M := by omega
                  obtain ⟨zs6, hz6, hl6⟩ := g6.len (n := 2301) (by rw [List.length_append, List.length_map, List.length_range]; omega) (by omega)
                  have v1 : -(((xs.length : Nat) : Int) + (1 + ((k0 + 1 : Nat) : Int) - 2) * (M : Int) + (2 + (j : Int)) - 1) = -sVar sets.length M k0 (j + 1) := by
                    unfold sVar
                    rw [ia, xl]
                    simp
                    omega
                  have v2 : ((xs.length : Nat) : Int) + (1 + ((k0 + 1 : Nat) : Int) - 1) * (M : Int) + (2 + (j : Int)) = sVar sets.length M (k0 + 1) (j + 2) := by
                    unfold sVar
                    rw [ib, xl]
                    simp
                    omega
                  refine ⟨_, rfl, .inl ⟨rfl, _, SqL.of hz6⟩, _, rfl, _, rfl, _, rfl, _, rfl, _, _, rfl, rfl, _, rfl, _, _, rfl, rfl, .inr (by omega), _, _, rfl, rfl, _, rfl, _, _, rfl, rfl, _, _, rfl, rfl, _, rfl, _, rfl, _, rfl, _, _, rfl, rfl, _, rfl, _, _, rfl, rfl, .inr (by omega), _, _, rfl, rfl, _, rfl, _, _, rfl, rfl, by show 3 ≤ sizeLine; decide, fun u hu => ?_⟩
                  refine ⟨R, _, _, rfl, rfl, same_new hu _ _ _ hz6, hl6, _, rfl, ?_⟩
                  have := g6.addE hz6 [-((k0 + 1 + 1 : Nat) : Int), -sVar sets.length M k0 (j + 1), sVar sets.length M (k0 + 1) (j + 2)] (show [V.int (-(1 + ((k0 + 1 : Nat) : Int))), V.int (-(((xs.length : Nat) : Int) + (1 + ((k0 + 1 : Nat) : Int) - 2) * (M : Int) + (2 + (j : Int)) - 1)), V.int (((xs.length : Nat) : Int) + (1 + ((k0 + 1 : Nat) : Int) - 1) * (M : Int) + (2 + (j : Int)))] = _ by rw [v0, v1, v2]; rfl) hu
                  rw [List.range_succ, List.map_append, ← List.append_assoc]
                  exact this
                · rintro σ' H6 ⟨o5, rfl, g6⟩
                  rw [show ((M : Int) + 1 - 2).toNat = M - 1 by omega] at g6
                  obtain ⟨zs6, hz6, hl6⟩ := g6.len (n := 2301) (by rw [List.length_append, List.length_map, List.length_range]; omega) (by omega)
                  have v1 : -(((xs.length : Nat) : Int) + (1 + ((k0 + 1 : Nat) : Int) - 2) * (M : Int) + (M : Int)) = -sVar sets.length M k0 M := by
                    unfold sVar
                    rw [ia, xl]
                    simp
                  refine ⟨_, rfl, .inl ⟨rfl, _, SqL.of hz6⟩, _, rfl, _, rfl, _, rfl, _, rfl, _, _, rfl, rfl, _, rfl, _, _, rfl, rfl, .inr (by omega), _, _, rfl, rfl, _, rfl, _, _, rfl, rfl, _, rfl, by show 2 ≤ sizeLine; decide, fun u hu => ?_⟩
                  refine ⟨R, _, _, rfl, rfl, same_new hu _ _ _ hz6, hl6, o4, o5, _, rfl, ?_⟩
                  have := g6.addE hz6 [-((k0 + 1 + 1 : Nat) : Int), -sVar sets.length M k0 M] (show [V.int (-(1 + ((k0 + 1 : Nat) : Int))), V.int (-(((xs.length : Nat) : Int) + (1 + ((k0 + 1 : Nat) : Int) - 2) * (M : Int) + (M : Int)))] = _ by rw [v0, v1]; rfl) hu
                  rw [step]
                  have ec : cntRow sets.length M (k0 + 1) = [[-((k0 + 1 + 1 : Nat) : Int), sVar sets.length M (k0 + 1) 1]] ++ ((List.range M).map fun j => [-sVar sets.length M k0 (j + 1), sVar sets.length M (k0 + 1) (j + 1)]) ++ ((List.range (M - 1)).map fun j => [-((k0 + 1 + 1 : Nat) : Int), -sVar sets.length M k0 (j + 1), sVar sets.length M (k0 + 1) (j + 2)]) ++ [[-((k0 + 1 + 1 : Nat) : Int), -sVar sets.length M k0 M]] := by
                    unfold cntRow
                    rw [if_neg hM0, if_neg (by omega), show k0 + 1 - 1 = k0 by omega]
                    simp
                  rw [ec]
                  rw [eC5, eC4] at this
                  simp only [List.append_assoc] at this ⊢
                  exact this
            · have hk0 : k = 0 := by
                have c2 : ¬ ((1 : Int) < 1 + (k : Int)) := fun z => c2 (decide_eq_true z)
                omega
              refine ⟨o4, o5, _, rfl, ?_⟩
              rw [step, show cntRow sets.length M k = [[-((k + 1 : Nat) : Int), sVar sets.length M k 1]] by unfold cntRow; rw [if_neg hM0, if_pos hk0], ← List.append_assoc]
              exact g4
          · have hM0 : M = 0 := by
              have c : ¬ ((0 : Int) < (M : Int)) := fun z => c (decide_eq_true z)
              omega
            rw [if_pos hM0] at g4
            refine ite2 (fun c2 => absurd c2 Bool.false_ne_true) (fun _ => ?_)
            refine ⟨o4, o5, _, rfl, ?_⟩
            rw [step, show cntRow sets.length M k = [[-((k + 1 : Nat) : Int)]] by unfold cntRow; rw [if_pos hM0], ← List.append_assoc]
            exact g4
      · rintro σ' H3 ⟨o4, o5, o6, rfl, g3⟩
        rw [show (((xs.length : Nat) : Int) + 1 - 1).toNat = sets.length by omega, eB] at g3
        obtain ⟨zs, hz, hd⟩ := g3.ex
        exact ⟨_, rfl, q H3 R zs g3.sm hR hz hd⟩
end
end My

set_option Elab.async false
set_option maxRecDepth 100000
set_option maxHeartbeats 4000000
set_option linter.all false
namespace My
open PySem L2 PyProof.Rows
open C8 (pss_cut)
theorem shp_items {S : List Nat} (h : ∀ r ∈ S, r < 5) (hl : S.length ≤ 1000) : SeqAt.shaped (.list (S.map itD)) = true := (okD_items h hl).sh
section
variable {P : Program} {w : World} {K : PySem.W.Frag} {mg : Str → Option Value} {base : Heap} {f C : Addr} {fd : FuncData}
theorem ok__law_fewest (T : Txt K mg) (D : Def K mg "_law_fewest" ["sets"] s__law_fewest f fd) (O1 : Own P w K mg base "_law_every" ["rows"] 1 (spEvery K)) : Own P w K mg base "_law_fewest" ["sets"] 2 (spFewest K) := by
  obtain ⟨f_law_every, fd_law_every, m_law_every, k_law_every, b_law_every, G_law_every⟩ := O1
  refine ⟨f, fd, D.mg, D.fn.kp, D.bd, D.fn.ok sc__law_fewest (fun vs H Q E h => ?_) (fun cdv A outer s H vs Q E hr h => ?_)⟩
  · obtain ⟨a, sets, rfl, _⟩ := h
    rfl
  · obtain ⟨a, sets, rfl, ha, ok, q⟩ := h
    obtain ⟨a', xs, ea, hx, hxs⟩ := dp_tup (show Dp K H (.ref a) (.tuple (sets.map setD)) from ha)
    cases ea
    have xl : xs.length = sets.length := by rw [dpa_len hxs, List.length_map]
    have hf := ok.few
    have r5 : ∀ ss, ∀ r ∈ everyR ss, r < 5 := fun ss r hr => (mem_every.1 hr).1
    have e5 : ∀ ss, (everyR ss).length ≤ 5 := fun ss => Nat.le_trans (List.length_filter_le _ _) (by rw [List.length_range]; exact Nat.le_refl _)
    refine ⟨_, (pss_cons (ps_set (i := 1) sc__law_fewest.nd rfl (Or.inl rfl) (pe_call G_law_every (hr.mono (by omega)) rfl m_law_every k_law_every b_law_every .nil pass0 (pa_cons (pv 0) pa_nil)))
      (pss_cons (ps_set (i := 2) sc__law_fewest.nd rfl (Or.inl rfl) (pe_callB call_len_seq (by rfl) T.m_len (by decide +kernel) (pa_cons (pv 0) pa_nil)))
      (pss_cons (ps_for PassesOwn.never rfl (pi_range1 (by rfl) T.m_range (pa_cons (pe_op op_shl pe_int (pe_callB call_len_seq (by rfl) T.m_len (by decide +kernel) (pa_cons (pv 0) pa_nil))) pa_nil)) (pg_name (i := 3) sc__law_fewest.nd rfl (Or.inr rfl)) (pss_cons (ps_setLc (i := 4) (own := [("k", 5)]) (g := gName 5) rfl sc__law_fewest.nd rfl rfl (sw_true rfl rfl rfl (by decide +kernel)) (pi_range1 (by rfl) T.m_range (pa_cons (pe_callB call_len_seq (by rfl) T.m_len (by decide +kernel) (pa_cons (pv 0) pa_nil)) pa_nil)) (blkOk_by (N := N__law_fewest) (sc := defScope s__law_fewest) (own := [("k", 5)]) (by decide +kernel)) (fun _ _ _ _ _ => (pg_name (i := 5) sc__law_fewest.nd rfl (Or.inl rfl))) (fun _ _ _ _ _ => (pts_one (pt_cmpR op_eq (pe_op op_mod (pe_op op_fdiv (pv 3) (pe_op op_shl pe_int (pv 5))) pe_int) pe_int (nomark _)))) (fun _ _ _ _ _ => (pv 5)))
      (pss_one (ps_if (PW.pt (pw_and (pt_cmpR op_lt (pe_callB call_len_seq (by rfl) T.m_len (by decide +kernel) (pa_cons (pv 4) pa_nil)) (pv 2) (nomark _)) (pw_and1 (pt_cmpR (op_eqD hr.units) (pe_call G_law_every (hr.mono (by omega)) rfl m_law_every k_law_every b_law_every .nil pass0 (pa_cons (pe_lc (own := [("k", 5)]) (g := gName 5) (tt := tYes) rfl sc__law_fewest.nd (pi_list (pv 4)) (blkOk_by (N := N__law_fewest) (sc := defScope s__law_fewest) (own := [("k", 5)]) (by decide +kernel)) (fun _ _ _ _ _ => (pg_name (i := 5) sc__law_fewest.nd rfl (Or.inl rfl))) (fun _ _ _ _ _ => pts_nil) (fun _ _ _ _ _ => (pe_ix (ix_tupK (K := K) rfl) (pv 0) (pv 5) (fun _ _ => rfl)))) pa_nil)) (pv 1) (nomark _))))) (pss_one (ps_set (i := 2) sc__law_fewest.nd rfl (Or.inl rfl) (pe_callB call_len_seq (by rfl) T.m_len (by decide +kernel) (pa_cons (pv 4) pa_nil)))) pss_nil))))
      (pss_one (ps_ret (pv 2)))))), ?_⟩
    refine ⟨_, rfl, a, xs, sets, rfl, .inr hx, hxs, by omega, fun S hS => (ok.ok S hS).2, fun H1 r1 zs1 s1 hn1 hr1 hz1 => ?_⟩
    have d1 : Dp K H1 (.ref r1) (.list ((everyR sets).map itD)) := .lst (SqL.of hr1) (dpa_mono hide_le _ hz1)
    obtain ⟨N2, eN2⟩ : ∃ N2, N2 = 2 ^ sets.length := ⟨_, rfl⟩
    have pw : (1 : Int) * (2 : Int) ^ ((xs.length : Nat) : Int).toNat = (N2 : Int) := by
      rw [show ((xs.length : Nat) : Int).toNat = sets.length by omega, eN2]
      simp
    have p7 : N2 ≤ 512 := by rw [eN2]; exact Nat.le_trans (Nat.pow_le_pow_right (by decide) hf) (by decide)
    refine ⟨_, rfl, a, xs, rfl, .inr (sqt_mono s1 hx), _, rfl, a, xs, rfl, .inr (sqt_mono s1 hx), _, _, rfl, rfl, ⟨by omega, by omega, by decide⟩, _, rfl, by show -(2 ^ 62) ≤ (1 : Int) * 2 ^ _; rw [pw]; omega, by show (1 : Int) * 2 ^ _ < 2 ^ 62; rw [pw]; omega, ?_⟩
    have en : ((1 : Int) * 2 ^ ((xs.length : Nat) : Int).toNat).toNat = N2 := by rw [pw]; omega
    refine for_range (fun k σ' H' => ∃ (o3 o4 : Option V), σ' = [some (.ref a), some (.ref r1), some (.int (fewN sets k : Nat)), o3, o4, none] ∧ Same H1 H') ⟨none, none, by show _ = [_, _, some (V.int (sets.length : Nat)), _, _, _]; rw [← xl]; rfl, Same.refl _⟩ ?_ ?_
    · rintro k σ' H2 hk ⟨o3, o4, rfl, s2⟩
      have s12 := s1.trans s2
      have hk' : k < 512 := by rw [en] at hk; omega
      have hx2 := sqt_mono s12 hx
      have hxs2 := dpa_mono s12 _ hxs
      refine ⟨_, rfl, a, xs, rfl, .inr hx2, _, rfl, by omega, by omega, fun D1 hD1 => lc_gen (K := K) (walk_range (lo := 0) (n := ((xs.length : Nat) : Int).toNat)) (fun j ds => ds = ((takenOf j k).map fun (i : Nat) => (i : Int)).map PyData.int) rfl (by omega) hD1 (fun H2 s2 => True.intro) (fun j y H3 H4 ds Nx Add hj hw s3 hne hy hNx hAdd => ?_) (fun H5 zs5 ds hz5 hd5 hw5 s5 => ?_)⟩
      · obtain ⟨rfl, rfl⟩ := hy
        have hj' : j < 9 := by omega
        have pj : (1 : Int) * (2 : Int) ^ (0 + (j : Int)).toNat = ((2 ^ j : Nat) : Int) := by
          rw [show (0 + (j : Int)).toNat = j by omega]
          simp
        have pj1 : 0 < 2 ^ j := Nat.two_pow_pos j
        have pj2 : 2 ^ j ≤ 512 := Nat.le_trans (Nat.pow_le_pow_right (by decide) (show j ≤ 9 by omega)) (by decide)
        obtain ⟨pw2, epw2⟩ : ∃ x : Nat, x = 2 ^ j := ⟨_, rfl⟩
        rw [← epw2] at pj pj1 pj2
        have stp : takenOf (j + 1) k = takenOf j k ++ if decide (k / 2 ^ j % 2 = 1) = true then [j] else [] := by
          unfold takenOf
          rw [List.range_succ, List.filter_append]
          congr 1
          by_cases h : decide (k / 2 ^ j % 2 = 1) = true
          · rw [if_pos h, List.filter_cons_of_pos (p := fun j => decide (k / 2 ^ j % 2 = 1)) h]; rfl
          · rw [if_neg h, List.filter_cons_of_neg (p := fun j => decide (k / 2 ^ j % 2 = 1)) h]; rfl
        refine ⟨rfl, _, rfl, _, rfl, _, _, rfl, rfl, ⟨by omega, by omega, by decide⟩, _, _, rfl, rfl, ⟨by rw [pj]; omega, by rw [pj]; omega⟩, _, _, rfl, rfl, (by show (0 : Int) < 2; decide), rfl, _, rfl, ?_⟩
        have ev : decide (V.int ((0 + (k : Int)) / ((1 : Int) * (2 : Int) ^ (0 + (j : Int)).toNat) % 2) = V.int 1) = decide (k / 2 ^ j % 2 = 1) := by
          rw [pj, ← epw2]
          refine decide_eq_decide.mpr ?_
          rw [show (0 + (k : Int)) / (pw2 : Int) = ((k / pw2 : Nat) : Int) by rw [Int.zero_add]; simp]
          constructor
          · intro e; have := V.int.inj e; omega
          · intro e; rw [show (((k / pw2 : Nat) : Int) % 2) = 1 by omega]
        show (if decide (V.int ((0 + (k : Int)) / ((1 : Int) * (2 : Int) ^ (0 + (j : Int)).toNat) % 2) = V.int 1) = true then _ else _)
        rw [ev]
        by_cases hh : decide (k / 2 ^ j % 2 = 1) = true
        · rw [if_pos hh]
          refine ⟨_, rfl, ?_⟩
          refine hAdd _ (.int (j : Int)) _ (Same.refl _) (by show Dp K _ (V.int (0 + (j : Int))) _; rw [Int.zero_add]; exact .int _) ?_
          rw [hw, stp, if_pos hh, List.map_append, List.map_append]
          rfl
        · rw [if_neg hh]
          refine hNx _ (Same.refl _) ?_
          rw [hw, stp, if_neg hh, List.append_nil]
      · subst hw5
        have e5' : ((xs.length : Nat) : Int).toNat = sets.length := by omega
        rw [e5'] at hd5
        obtain ⟨Tk, eT⟩ : ∃ Tk, Tk = takenOf sets.length k := ⟨_, rfl⟩
        rw [← eT] at hd5
        have ez : zs5 = (Tk.map fun (i : Nat) => (i : Int)).map V.int := ints_of hd5
        rw [ez] at hz5
        have s125 := s12.trans s5
        have hTl : ∀ j ∈ Tk, j < sets.length := fun j hj => by
          rw [eT] at hj
          exact List.mem_range.mp (List.mem_filter.mp hj).1
        have tl : Tk.length ≤ 9 := by
          rw [eT]
          unfold takenOf
          exact Nat.le_trans (List.length_filter_le _ _) (by rw [List.length_range]; omega)
        have fw : ∀ b : Bool, (b = true ↔ Tk.length < fewN sets k ∧ coverB sets Tk = true) → fewN sets (k + 1) = if b = true then Tk.length else fewN sets k := fun b hb => by
          show (if _ then _ else _) = _
          rw [← eT]
          by_cases h : Tk.length < fewN sets k ∧ coverB sets Tk = true
          · rw [if_pos h, if_pos (hb.2 h)]
          · rw [if_neg h, if_neg fun z => h (hb.1 z)]
        refine ⟨_, rfl, D1, _, rfl, .inl (SqL.of hz5), _, rfl, _, _, rfl, rfl, _, rfl, ite2 (fun c => ?_) (fun c => ?_)⟩
        · have c : (((Tk.map fun (i : Nat) => (i : Int)).map V.int).length : Int) < (fewN sets k : Nat) := of_decide_eq_true c
          rw [List.length_map, List.length_map] at c
          refine ⟨_, rfl, D1, rfl, ⟨_, SqL.of hz5⟩, fun D2 hD2 => lc_gen (K := K) (walk_list (K := K) (a := D1) (xs := (Tk.map fun (i : Nat) => (i : Int)).map V.int)) (fun j ds => ds = ((Tk.take j).map fun i => sets[i]?.getD []).map setD) rfl (by rw [List.length_map, List.length_map]; omega) hD2 (fun H2 s2 => sql_mono s2 (SqL.of hz5)) (fun j y H3 H4 ds Nx Add hj hw s3 hne hy hNx hAdd => ?_) (fun H6 zs6 ds hz6 hd6 hw6 s6 => ?_)⟩
          · obtain ⟨rfl, hy⟩ := hy
            rw [List.getElem?_map, List.getElem?_map] at hy
            obtain ⟨z, hz, rfl⟩ := Option.map_eq_some_iff.mp hy
            obtain ⟨i, hi, rfl⟩ := Option.map_eq_some_iff.mp hz
            have hil := hTl i (List.mem_of_getElem? hi)
            obtain ⟨v, hv⟩ : ∃ v, xs[i]? = some v := ⟨xs[i]'(by omega), List.getElem?_eq_getElem (by omega)⟩
            have sH : Same H (hide D2 H4) := fun b o e => hide_in (s3 _ _ (s125 b o e)) fun z => by rw [← z, s125 b o e] at hD2; cases hD2
            obtain ⟨S, t, us, hS, rfl, ht, hus⟩ := dpa_atS (dpa_mono sH _ hxs) hv
            refine ⟨rfl, yesV ?_⟩
            rw [if_pos rfl]
            refine ⟨_, rfl, _, rfl, a, _, _, _, rfl, rfl, sqt_mono (s125.trans s3) hx, atI_nat hv, ?_⟩
            refine hAdd _ (setD S) _ (Same.refl _) (.tup ht hus) ?_
            rw [hw, take_next hi, List.map_append, List.map_append]
            show _ ++ [setD S] = _ ++ [setD (sets[i]?.getD [])]
            rw [hS]
            rfl
          · rw [List.length_map, List.length_map, List.take_length] at hw6
            rw [hw6] at hd6
            refine ⟨D2, zs6, _, rfl, .inl (SqL.of hz6), dpa_mono hide_le _ hd6, by rw [List.length_map]; omega, fun S hS r hr => ?_, fun H7 r7 zs7 s7 hn7 hr7 hz7 => ?_⟩
            · obtain ⟨i, hi, rfl⟩ := List.mem_map.mp hS
              have hil := hTl i hi
              rw [List.getElem?_eq_getElem hil] at hr
              exact (ok.ok _ (List.getElem_mem hil)).2 r hr
            · have d7 : Dp K H7 (.ref r7) (.list ((everyR (Tk.map fun i => sets[i]?.getD [])).map itD)) := .lst (SqL.of hr7) (dpa_mono hide_le _ hz7)
              have s27 := (s5.trans s6).trans s7
              refine ⟨_, rfl, _, _, d7, dp_mono (s2.trans s27) _ d1, shp_items (r5 _) (by have := e5 (Tk.map fun i => sets[i]?.getD []); omega), shp_items (r5 _) (by have := e5 sets; omega), _, rfl, ?_⟩
              rw [eqv_items (r5 _) (r5 _)]
              refine ite2 (fun c2 => ?_) (fun c2 => ?_)
              · refine ⟨_, rfl, D1, _, rfl, .inl (SqL.of ((s6.trans s7) _ _ hz5)), some (.int (0 + (k : Int))), some (.ref D1), ?_, s2.trans s27⟩
                rw [fw true ⟨fun _ => ⟨by omega, c2⟩, fun _ => rfl⟩, if_pos rfl]
                show _ = [_, _, some (V.int ((Tk.length : Nat) : Int)), _, _, _]
                rw [← show ((Tk.map fun (i : Nat) => (i : Int)).map V.int).length = Tk.length by rw [List.length_map, List.length_map]]
                rfl
              · refine ⟨some (.int (0 + (k : Int))), some (.ref D1), ?_, s2.trans s27⟩
                rw [fw false ⟨fun e => (by cases e), fun ⟨_, h⟩ => absurd h c2⟩, if_neg Bool.false_ne_true]
                rfl
        · refine ite2 (fun c2 => absurd c2 Bool.false_ne_true) (fun _ => ?_)
          have c : ¬ ((((Tk.map fun (i : Nat) => (i : Int)).map V.int).length : Int) < (fewN sets k : Nat)) := fun z => c (decide_eq_true z)
          rw [List.length_map, List.length_map] at c
          refine ⟨some (.int (0 + (k : Int))), some (.ref D1), ?_, s2.trans s5⟩
          rw [fw false ⟨fun e => (by cases e), fun ⟨h, _⟩ => absurd h (by omega)⟩, if_neg Bool.false_ne_true]
          rfl
    · rintro σ' H2 ⟨o3, o4, rfl, s2⟩
      rw [en, eN2]
      exact ⟨_, rfl, q H2 (s1.trans s2)⟩
end
end My

set_option Elab.async false
set_option maxRecDepth 100000
set_option maxHeartbeats 4000000
set_option linter.all false
/-! Helpers of the clauses' laws. -/
namespace My
open PySem L2
theorem take_filter {α : Type} {c : List α} {i : Nat} {x : α} {p : α → Bool} (h : c[i]? = some x) : (c.take (i + 1)).filter p = (c.take i).filter p ++ (if p x = true then [x] else []) := by
  rw [take_next h, List.filter_append, List.filter_cons, List.filter_nil]
theorem filt_tup {K : PySem.W.Frag} {a : Addr} {c : List Int} {k : Nat} {tt : TT} {vs : List Nat} {σ : L2.St} {H1 : Hp} {D : Addr} {Qd : Hp → Prop} (p : Int → Bool) (ha : SqT K H1 a (c.map V.int)) (hl : c.length ≤ 100) (hD : H1 D = none) (hw : ∀ x, wipe ((wipe σ vs).set k (some (V.int x))) vs = wipe σ vs)
    (hv : ∀ x H2 (R : VK), R (.int x) H2 → tVar k ((wipe σ vs).set k (some (V.int x))) H2 R) (ht : ∀ x H2 (R : Bool → Hp → Prop), x ∈ c → Same H1 H2 → R (p x) H2 → tt ((wipe σ vs).set k (some (V.int x))) H2 R)
    (hq : ∀ H2, H2 D = some (.lst ((c.filter p).map V.int)) → Same H1 H2 → Qd H2) :
    ∃ W : Nat → Nat → Hp → Prop, (∃ m, W 0 m (upd H1 D (.lst []))) ∧ ∀ i m H, W i m H →
      ((Itt K a).stop i H ∧ Qd H) ∨ ((Itt K a).go i H ∧ ∃ Nx : Hp → Prop, (∀ H', Nx H' → ∃ m', m' < m ∧ W (i + 1) m' H') ∧ ∀ x H', (Itt K a).yld i H x H' → gName k x (wipe σ vs) H' fun σ2 H2 => wipe σ2 vs = wipe σ vs ∧ tt σ2 H2 fun b H3 =>
        if b = true then tVar k σ2 H3 fun y H4 => ∃ acc, H4 D = some (.lst acc) ∧ acc.length < sizeLine ∧ Nx (upd H4 D (.lst (acc ++ [y]))) else Nx H3) := by
  refine lc_tup (K := K) (a := a) (xs := c.map V.int) (fun i H2 => H2 D = some (.lst (((c.take i).filter p).map V.int)) ∧ Same H1 H2 ∧ i ≤ c.length) ⟨upd_same, same_new hD _, Nat.zero_le _⟩ (fun i H2 _ ⟨_, s, _⟩ => sqt_mono s ha) ?_ ?_
  · rintro i y H2 hi ⟨h1, s, _⟩
    obtain ⟨x, rfl, hx⟩ := map_at hi
    have hi' : i < c.length := (List.getElem?_eq_some_iff.mp hx).1
    refine ⟨hw x, ht x H2 _ (List.mem_of_getElem? hx) s ?_⟩
    cases hp : p x with
    | false =>
      rw [if_neg (by decide)]
      exact ⟨by rw [take_filter hx, hp]; simpa using h1, s, hi'⟩
    | true =>
      rw [if_pos rfl]
      refine hv x H2 _ ⟨_, h1, ?_, ?_, fun b o hb => ?_, hi'⟩
      · have := List.length_filter_le p (c.take i)
        rw [List.length_take] at this
        rw [List.length_map]
        exact small1000 (by omega)
      · rw [upd_same, take_filter hx, hp, if_pos rfl, List.map_append] <;> rfl
      · rw [upd_ne (ne_of_none hb hD)]
        exact s b o hb
  · rintro H2 ⟨h1, s, _⟩
    rw [List.length_map, List.take_length] at h1
    exact hq H2 h1 s
theorem filt_list {K : PySem.W.Frag} {a : Addr} {c : List Int} {k : Nat} {tt : TT} {vs : List Nat} {σ : L2.St} {H1 : Hp} {D : Addr} {Qd : Hp → Prop} (p : Int → Bool) (ha : SqL K H1 a (c.map V.int)) (hl : c.length ≤ 100) (hD : H1 D = none) (hw : ∀ x, wipe ((wipe σ vs).set k (some (V.int x))) vs = wipe σ vs)
    (hv : ∀ x H2 (R : VK), R (.int x) H2 → tVar k ((wipe σ vs).set k (some (V.int x))) H2 R) (ht : ∀ x H2 (R : Bool → Hp → Prop), x ∈ c → Same H1 H2 → R (p x) H2 → tt ((wipe σ vs).set k (some (V.int x))) H2 R)
    (hq : ∀ H2, H2 D = some (.lst ((c.filter p).map V.int)) → Same H1 H2 → Qd H2) :
    ∃ W : Nat → Nat → Hp → Prop, (∃ m, W 0 m (upd H1 D (.lst []))) ∧ ∀ i m H, W i m H →
      ((Itl K a).stop i H ∧ Qd H) ∨ ((Itl K a).go i H ∧ ∃ Nx : Hp → Prop, (∀ H', Nx H' → ∃ m', m' < m ∧ W (i + 1) m' H') ∧ ∀ x H', (Itl K a).yld i H x H' → gName k x (wipe σ vs) H' fun σ2 H2 => wipe σ2 vs = wipe σ vs ∧ tt σ2 H2 fun b H3 =>
        if b = true then tVar k σ2 H3 fun y H4 => ∃ acc, H4 D = some (.lst acc) ∧ acc.length < sizeLine ∧ Nx (upd H4 D (.lst (acc ++ [y]))) else Nx H3) := by
  refine lc_list (K := K) (a := a) (xs := c.map V.int) (fun i H2 => H2 D = some (.lst (((c.take i).filter p).map V.int)) ∧ Same H1 H2 ∧ i ≤ c.length) ⟨upd_same, same_new hD _, Nat.zero_le _⟩ (fun i H2 _ ⟨_, s, _⟩ => sql_mono s ha) ?_ ?_
  · rintro i y H2 hi ⟨h1, s, _⟩
    obtain ⟨x, rfl, hx⟩ := map_at hi
    have hi' : i < c.length := (List.getElem?_eq_some_iff.mp hx).1
    refine ⟨hw x, ht x H2 _ (List.mem_of_getElem? hx) s ?_⟩
    cases hp : p x with
    | false =>
      rw [if_neg (by decide)]
      exact ⟨by rw [take_filter hx, hp]; simpa using h1, s, hi'⟩
    | true =>
      rw [if_pos rfl]
      refine hv x H2 _ ⟨_, h1, ?_, ?_, fun b o hb => ?_, hi'⟩
      · have := List.length_filter_le p (c.take i)
        rw [List.length_take] at this
        rw [List.length_map]
        exact small1000 (by omega)
      · rw [upd_same, take_filter hx, hp, if_pos rfl, List.map_append] <;> rfl
      · rw [upd_ne (ne_of_none hb hD)]
        exact s b o hb
  · rintro H2 ⟨h1, s, _⟩
    rw [List.length_map, List.take_length] at h1
    exact hq H2 h1 s
theorem lay_ints : ∀ c : List Int, PyData.canLayAll0 (c.map PyData.int) = true
  | [] => rfl
  | x :: c => by
    rw [List.map_cons]
    simp only [PyData.canLayAll0, PyData.canLay0, Bool.true_and]
    exact lay_ints c
theorem dep_ints : ∀ c : List Int, PyData.depthAll (c.map PyData.int) = 0
  | [] => rfl
  | x :: c => by
    rw [List.map_cons]
    simp only [PyData.depthAll, PyData.depth]
    rw [dep_ints c]
    rfl
theorem shp_ints (c : List Int) : SeqAt.shaped (.list (c.map PyData.int)) = true := by
  show (PyData.canLay0 (.list (c.map PyData.int)) && decide (PyData.depth (.list (c.map PyData.int)) ≤ 64)) = true
  simp only [PyData.canLay0, PyData.depth, dep_ints, lay_ints]
  rfl
theorem shp_intsT (c : List Int) : SeqAt.shaped (.tuple (c.map PyData.int)) = true := by
  show (PyData.canLay0 (.tuple (c.map PyData.int)) && decide (PyData.depth (.tuple (c.map PyData.int)) ≤ 64)) = true
  simp only [PyData.canLay0, PyData.depth, dep_ints, lay_ints]
  rfl
theorem eqv_nilI (c : List Int) : PyData.eqv (.list (c.map PyData.int)) (.list []) = decide (c = []) := by
  cases c with
  | nil => rfl
  | cons a r => rfl
end My

set_option Elab.async false
set_option maxRecDepth 100000
set_option maxHeartbeats 4000000
set_option linter.all false
namespace My
open PySem L2
open C8 (pss_cut)
def lsD (c : List Int) : PyData := .list (c.map PyData.int)
/-- a clause as a tuple or as a list -/
def gcD (b : Bool) (c : List Int) : PyData := if b = true then clD c else lsD c
theorem dpa_atG {K : PySem.W.Frag} {H : Hp} {xs : List V} {b : Bool} {cs : List (List Int)} {i : Nat} {v : V} (h : DpAll K H xs (cs.map (gcD b))) (e : xs[i]? = some v) : ∃ c t, cs[i]? = some c ∧ v = .ref t ∧ (SqL K H t (c.map V.int) ∨ SqT K H t (c.map V.int)) := by
  obtain ⟨d, hd, hv⟩ := dpa_get h e
  rw [List.getElem?_map] at hd
  cases hc : cs[i]? with
  | none => rw [hc] at hd; cases hd
  | some c =>
    rw [hc] at hd
    obtain rfl := Option.some.inj hd
    cases b with
    | true =>
      obtain ⟨t, us, rfl, ht, hts⟩ := dp_tup (show Dp K H v (.tuple (c.map PyData.int)) from hv)
      rw [ints_of hts] at ht
      exact ⟨c, t, rfl, rfl, .inr ht⟩
    | false =>
      obtain ⟨t, us, rfl, ht, hts⟩ := dp_lst (show Dp K H v (.list (c.map PyData.int)) from hv)
      rw [ints_of hts] at ht
      exact ⟨c, t, rfl, rfl, .inl ht⟩
theorem less_snoc (cs : List (List Int)) (c : List Int) (l : Int) : MC.less (cs ++ [c]) l = MC.less cs l ++ (if l ∈ c then [] else [MC.rest l c]) := by
  unfold MC.less
  rw [List.filter_append, List.map_append]
  by_cases h : l ∈ c
  · rw [if_pos h, List.filter_cons_of_neg (by simpa using h)] <;> rfl
  · rw [if_neg h, List.filter_cons_of_pos (by simpa using h)] <;> rfl
theorem less_len (cs : List (List Int)) (l : Int) : (MC.less cs l).length ≤ cs.length := by
  unfold MC.less
  rw [List.length_map]
  exact List.length_filter_le _ _
theorem ne_is (x l : Int) : (!decide (V.int x = V.int (-l))) = decide (x ≠ -l) := by
  by_cases h : x = -l
  · rw [decide_eq_true (by rw [h]), decide_eq_false (fun n => n h)] <;> rfl
  · rw [decide_eq_false (fun e => h (V.int.inj e)), decide_eq_true h] <;> rfl
def spLess (K : PySem.W.Frag) : Sp := fun vs H Q _ => ∃ (a : Addr) (l : Int) (xs : List V) (b : Bool) (cs : List (List Int)), vs = [.ref a, .int l] ∧ SqL K H a xs ∧ DpAll K H xs (cs.map (gcD b)) ∧ (∀ c ∈ cs, c.length ≤ 100) ∧ cs.length ≤ 100000 ∧
  (MC.Bare cs l → ∀ H', Same H H' → Q .non H') ∧ (¬ MC.Bare cs l → ∀ p ys H', Same H H' → SqL K H' p ys → DpAll K H' ys ((MC.less cs l).map (gcD false)) → Q (.ref p) H')
section
variable {P : Program} {w : World} {K : PySem.W.Frag} {mg : Str → Option Value} {base : Heap} {f : Addr} {fd : FuncData}
theorem ok__law_less (T : Txt K mg) (D : Def K mg "_law_less" ["clauses", "literal"] s__law_less f fd) : Own P w K mg base "_law_less" ["clauses", "literal"] 1 (spLess K) := by
  refine ⟨f, fd, D.mg, D.fn.kp, D.bd, D.fn.ok sc__law_less (fun vs H Q E h => ?_) (fun cdv A outer s H vs Q E hr h => ?_)⟩
  · obtain ⟨a, l, xs, b, cs, rfl, _⟩ := h
    rfl
  · obtain ⟨a, l, xs, b, cs, rfl, hS, hA, hcl, hlen, qb, q⟩ := h
    have hxl : xs.length = cs.length := by rw [dpa_len hA, List.length_map]
    refine ⟨_, (pss_cons (ps_set (i := 2) sc__law_less.nd rfl (Or.inl rfl) (pe_lst pa_nil))
      (pss_cons (ps_for PassesOwn.never rfl (pi_list (pv 0)) (pg_name (i := 3) sc__law_less.nd rfl (Or.inl rfl)) (pss_one (ps_if (pt_cmpR op_notIn_seq (pv 1) (pv 3) (by rfl)) (pss_cons (ps_setLc (i := 4) (own := [("x", 5)]) (g := gName 5) rfl sc__law_less.nd rfl rfl (sw_true rfl rfl rfl (by decide +kernel)) (pi_seq (pv 3)) (blkOk_by (N := N__law_less) (sc := defScope s__law_less) (own := [("x", 5)]) (by decide +kernel)) (fun _ _ _ _ _ => (pg_name (i := 5) sc__law_less.nd rfl (Or.inl rfl))) (fun _ _ _ _ _ => (pts_one (pt_cmpR op_ne (pv 5) (pe_un un_neg (pv 1)) (nomark _)))) (fun _ _ _ _ _ => (pv 5)))
      (pss_cons (ps_if (pt_cmpR (op_eqD hr.units) (pv 4) (pe_lst pa_nil) (nomark _)) (pss_one (ps_ret pe_non)) pss_nil)
      (pss_one (ps_expr (pe_bm PySem.F.plainAttrs_list PySem.F.slot_list_append PySem.F.type_list_append mt_append (pv 2) (pa_cons (pv 4) pa_nil)))))) pss_nil)))
      (pss_one (ps_ret (pv 2))))), ?_⟩
    refine ⟨by show 0 ≤ sizeLine; decide, fun F hF => ?_⟩
    refine ⟨_, rfl, a, rfl, ⟨_, sql_mono (same_new hF _) hS⟩, for_list (K := K) (a := a) (xs := xs) (fun i σ' H' => ∃ (ys : List V) (o3 o4 : Option V), σ' = [some (.ref a), some (.int l), some (.ref F), o3, o4, none] ∧ H' F = some (.lst ys) ∧ DpAll K (hide F H') ys ((MC.less (cs.take i) l).map (gcD false)) ∧ Same H H' ∧ ¬ MC.Bare (cs.take i) l ∧ i ≤ cs.length)
      ⟨[], none, none, rfl, upd_same, .nil, same_new hF _, fun ⟨c, hc, _⟩ => (by simp at hc), Nat.zero_le _⟩ (fun i σ' H' _ ⟨_, _, _, _, _, _, s, _⟩ => sql_mono s hS) ?_ ?_⟩
    · rintro i y σ' H' hi ⟨ys, o3, o4, rfl, hFl, hall, sm, nb, _⟩
      have hi' : i < cs.length := by rw [← hxl]; exact (List.getElem?_eq_some_iff.mp hi).1
      obtain ⟨c, t, hc, rfl, ht⟩ := dpa_atG (dpa_mono sm _ hA) hi
      have hcm := List.mem_of_getElem? hc
      have tk : cs.take (i + 1) = cs.take i ++ [c] := take_next hc
      have hlys : ys.length ≤ 100000 := by
        have := dpa_len hall
        rw [List.length_map] at this
        have h2 := less_len (cs.take i) l
        rw [List.length_take] at h2
        omega
      refine ⟨_, rfl, _, rfl, t, _, rfl, ht, rfl, flat_ints c, _, rfl, ite2 (fun k1 => ?_) (fun k1 => ?_)⟩
      · have nl : l ∉ c := by
          have k1 : (!inV (.int l) (c.map V.int)) = true := k1
          rw [inV_ints] at k1
          simpa using k1
        -- the rest
        have rest : ∀ (D1 : Addr) (H4 : Hp), H' D1 = none → H4 D1 = some (.lst ((c.filter fun x => decide (x ≠ -l)).map V.int)) → Same H' H4 → ∀ (H5 : Hp), Same H4 H5 → H5 D1 = some (.lst ((c.filter fun x => decide (x ≠ -l)).map V.int)) → D1 ≠ F ∧
            (c.filter (fun x => decide (x ≠ -l)) ≠ [] → ∃ (ys' : List V), H5 F = some (.lst ys) ∧ ys.length < sizeLine ∧ (∃ (ys' : List V) (o3 o4 : Option V), ([some (.ref a), some (.int l), some (.ref F), some (.ref t), some (.ref D1), none] : L2.St) = [some (.ref a), some (.int l), some (.ref F), o3, o4, none] ∧ (upd H5 F (.lst (ys ++ [.ref D1]))) F = some (.lst ys') ∧ DpAll K (hide F (upd H5 F (.lst (ys ++ [.ref D1])))) ys' ((MC.less (cs.take (i + 1)) l).map (gcD false)) ∧ Same H (upd H5 F (.lst (ys ++ [.ref D1]))) ∧ ¬ MC.Bare (cs.take (i + 1)) l ∧ i + 1 ≤ cs.length)) := fun D1 H4 hD1 h4 s4 H5 s5 h5 => by
          have ne : D1 ≠ F := fun e => by rw [e, hFl] at hD1; cases hD1
          refine ⟨ne, fun hne => ⟨ys, s5 _ _ (s4 _ _ hFl), by rw [sizeLine_eq]; omega, ys ++ [.ref D1], _, _, rfl, upd_same, ?_, fun b o hb => ?_, ?_, hi'⟩⟩
          · have e2 : Same (hide F H') (hide F (upd H5 F (.lst (ys ++ [.ref D1])))) := (hide_same (s4.trans s5)).trans (hide_put _)
            rw [tk, less_snoc, if_neg nl, List.map_append]
            refine dpa_app (dpa_mono e2 _ hall) (dpa_one (.lst (SqL.of ?_) (ints_all _)))
            rw [hide_ne ne, upd_ne ne, h5]
            rfl
          · rw [upd_ne (ne_of_none hb hF)]
            exact s5 _ _ (s4 _ _ (sm b o hb))
          · rw [tk]
            rintro ⟨d, hd, h1, h2⟩
            rcases List.mem_append.mp hd with h | h
            · exact nb ⟨d, h, h1, h2⟩
            · rw [List.mem_singleton.mp h] at h2
              exact hne h2
        refine ⟨_, rfl, t, rfl, ht.elim (fun ht => .inl ⟨⟨_, ht⟩, fun D1 hD1 => filt_list (fun x => decide (x ≠ -l)) ht (hcl c hcm) hD1 (fun _ => rfl) (fun x H4 R r => ⟨_, rfl, r⟩) (fun x H4 R hx s4 r => ⟨_, rfl, _, rfl, _, rfl, rfl, _, rfl, by rw [ne_is]; exact r⟩) fun H4 h4 s4 => ?_⟩)
          (fun ht => .inr ⟨⟨_, ht⟩, fun D1 hD1 => filt_tup (fun x => decide (x ≠ -l)) ht (hcl c hcm) hD1 (fun _ => rfl) (fun x H4 R r => ⟨_, rfl, r⟩) (fun x H4 R hx s4 r => ⟨_, rfl, _, rfl, _, rfl, rfl, _, rfl, by rw [ne_is]; exact r⟩) fun H4 h4 s4 => ?_⟩)⟩
        all_goals
          refine ⟨_, rfl, by show 0 ≤ sizeLine; decide, fun e0 he0 => ?_⟩
          have s5 := same_new he0 (.lst [])
          have h5 := s5 _ _ h4
          obtain ⟨ne, fin⟩ := rest D1 H4 hD1 h4 s4 _ s5 h5
          refine ⟨_, .list [], .lst (SqL.of h5) (ints_all _), .lst (SqL.of upd_same) .nil, shp_ints _, by rfl, _, rfl, ite2 (fun k2 => ?_) (fun k2 => ?_)⟩
          · have e : decide (c.filter (fun x => decide (x ≠ -l)) = []) = true := by rw [← eqv_nilI]; exact k2
            exact qb ⟨c, hcm, nl, of_decide_eq_true e⟩ _ ((sm.trans s4).trans s5)
          · obtain ⟨ys', h6, h7, h8⟩ := fin fun e => k2 (by rw [eqv_nilI]; exact decide_eq_true e)
            exact ⟨_, rfl, .inl ⟨rfl, _, SqL.of h6⟩, _, rfl, F, _, _, rfl, rfl, h6, h7, h8⟩
      · have il : l ∈ c := by
          have k1 : ¬ (!inV (.int l) (c.map V.int)) = true := k1
          rw [inV_ints] at k1
          simpa using k1
        refine ⟨ys, _, _, rfl, hFl, by rw [tk, less_snoc, if_pos il, List.append_nil]; exact hall, sm, ?_, hi'⟩
        rw [tk]
        rintro ⟨d, hd, h1, h2⟩
        rcases List.mem_append.mp hd with h | h
        · exact nb ⟨d, h, h1, h2⟩
        · rw [List.mem_singleton.mp h] at h1
          exact h1 il
    · rintro σ' H' ⟨ys, o3, o4, rfl, hFl, hall, sm, nb, _⟩
      rw [hxl, List.take_length] at hall nb
      exact ⟨_, rfl, q nb F ys H' sm (SqL.of hFl) (dpa_mono hide_le _ hall)⟩
end
end My

set_option Elab.async false
set_option maxRecDepth 100000
set_option maxHeartbeats 4000000
set_option linter.all false
namespace My
open PySem L2
open C8 (pss_cut)
/-- while, by a word that knows its measure -/
theorem while_w {c : TT} {tb : TS} {D : Ends} {σ : L2.St} {H : Hp} (Pv : Nat → L2.St → Hp → Prop) (h0 : ∃ m, Pv m σ H)
    (hs : ∀ m σ H, Pv m σ H → c σ H fun b H1 => if b = true then tb { D with nx := fun σ' H' => ∃ m', m' < m ∧ Pv m' σ' H', ct := fun σ' H' => ∃ m', m' < m ∧ Pv m' σ' H', bk := D.nx } σ H1 else D.nx σ H1)
    (mono : ∀ σ H Q Q', (∀ b H1, Q b H1 → Q' b H1) → c σ H Q → c σ H Q') : tWhile c tb D σ H := by
  refine ⟨Pv, h0, fun m σ H p => mono σ H _ _ (fun b H1 q => ?_) (hs m σ H p)⟩
  cases b with
  | true => exact ⟨_, fun σ' H' h => h, q⟩
  | false => exact q
def one1 : List Int → Option Int
  | [x] => some x
  | _ => none
def ones (cs : List (List Int)) : List Int := cs.filterMap one1
theorem mem_ones {cs : List (List Int)} {x : Int} : x ∈ ones cs ↔ [x] ∈ cs := by
  unfold ones
  rw [List.mem_filterMap]
  constructor
  · rintro ⟨c, hc, e⟩
    match c, e with
    | [y], e => rw [← Option.some.inj (show some y = some x from e)]; exact hc
  · intro h
    exact ⟨[x], h, rfl⟩
theorem ones_snoc (cs : List (List Int)) (c : List Int) : ones (cs ++ [c]) = ones cs ++ (match one1 c with | some x => [x] | none => []) := by
  unfold ones
  rw [List.filterMap_append]
  cases h : one1 c with
  | none => rw [List.filterMap_cons_none h] <;> rfl
  | some x => rw [List.filterMap_cons_some h] <;> rfl
theorem one1_len {c : List Int} : c.length = 1 ↔ ∃ x, c = [x] := by
  constructor
  · intro h
    match c, h with
    | [x], _ => exact ⟨x, rfl⟩
  · rintro ⟨x, rfl⟩
    rfl
theorem one1_no {c : List Int} (h : c.length ≠ 1) : one1 c = none := by
  match c, h with
  | [], _ => rfl
  | [x], h => exact absurd rfl h
  | x :: y :: r, _ => rfl
theorem ones_len (cs : List (List Int)) : (ones cs).length ≤ cs.length := List.length_filterMap_le _ _
theorem ones_lt {cs : List (List Int)} {l : Int} (h : l ∈ ones cs) : (MC.less cs l).length < cs.length := by
  have hm := mem_ones.1 h
  unfold MC.less
  rw [List.length_map]
  have : (cs.filter fun c => decide (l ∉ c)).length < cs.length := by
    refine Nat.lt_of_le_of_ne (List.length_filter_le _ _) fun e => ?_
    have := List.length_filter_eq_length_iff.mp e [l] hm
    simp at this
  exact this
theorem lay_gc (b : Bool) (c : List Int) : PyData.canLay0 (gcD b c) = true := by
  cases b
  · show PyData.canLay0 (.list (c.map PyData.int)) = true
    simp only [PyData.canLay0, lay_ints]
  · show PyData.canLay0 (.tuple (c.map PyData.int)) = true
    simp only [PyData.canLay0, lay_ints]
theorem dep_gc (b : Bool) (c : List Int) : PyData.depth (gcD b c) ≤ 1 := by
  cases b
  · show PyData.depth (.list (c.map PyData.int)) ≤ 1
    simp only [PyData.depth, dep_ints]
    decide
  · show PyData.depth (.tuple (c.map PyData.int)) ≤ 1
    simp only [PyData.depth, dep_ints]
    decide
theorem lay_gcs (b : Bool) : ∀ cs : List (List Int), PyData.canLayAll0 (cs.map (gcD b)) = true
  | [] => rfl
  | c :: cs => by
    rw [List.map_cons]
    simp only [PyData.canLayAll0, lay_gc, Bool.true_and]
    exact lay_gcs b cs
theorem dep_gcs (b : Bool) : ∀ cs : List (List Int), PyData.depthAll (cs.map (gcD b)) ≤ 1
  | [] => Nat.zero_le _
  | c :: cs => by
    rw [List.map_cons]
    simp only [PyData.depthAll]
    have h1 := dep_gc b c
    have h2 := dep_gcs b cs
    omega
theorem shp_gcs (b : Bool) (cs : List (List Int)) : SeqAt.shaped (.list (cs.map (gcD b))) = true := by
  have h := dep_gcs b cs
  show (PyData.canLay0 (.list (cs.map (gcD b))) && decide (PyData.depth (.list (cs.map (gcD b))) ≤ 64)) = true
  rw [Bool.and_eq_true]
  refine ⟨by simp only [PyData.canLay0]; exact lay_gcs b cs, decide_eq_true ?_⟩
  simp only [PyData.depth]
  omega
theorem any_lst (b : Bool) : ∀ cs : List (List Int), ((cs.map (gcD b)).any fun z => PyData.eqv z (.list [])) = (!b && decide ([] ∈ cs))
  | [] => by cases b <;> rfl
  | c :: cs => by
    rw [List.map_cons, List.any_cons, any_lst b cs]
    cases b with
    | true =>
      have e : PyData.eqv (gcD true c) (.list []) = false := by cases c <;> rfl
      rw [e] <;> rfl
    | false =>
      cases c with
      | nil => simp [gcD, lsD, PyData.eqv, PyData.eqvAll]
      | cons x r => simp [gcD, lsD, PyData.eqv, PyData.eqvAll]
theorem any_tup (b : Bool) : ∀ cs : List (List Int), ((cs.map (gcD b)).any fun z => PyData.eqv z (.tuple [])) = (b && decide ([] ∈ cs))
  | [] => by cases b <;> rfl
  | c :: cs => by
    rw [List.map_cons, List.any_cons, any_tup b cs]
    cases b with
    | false =>
      have e : PyData.eqv (gcD false c) (.tuple []) = false := by cases c <;> rfl
      rw [e] <;> rfl
    | true =>
      cases c with
      | nil => simp [gcD, clD, PyData.eqv, PyData.eqvAll]
      | cons x r => simp [gcD, clD, PyData.eqv, PyData.eqvAll]
theorem eqv_nilG (b : Bool) (cs : List (List Int)) : PyData.eqv (.list (cs.map (gcD b))) (.list []) = decide (cs = []) := by
  cases cs with
  | nil => rfl
  | cons a r => rfl
/-- clauses as a list of clauses stands -/
structure CsAt (K : PySem.W.Frag) (H : Hp) (a : Addr) (xs : List V) (b : Bool) (cs : List (List Int)) : Prop where
  sq : SqL K H a xs
  all : DpAll K H xs (cs.map (gcD b))
  nz : MC.Nz cs
  len : ∀ c ∈ cs, c.length ≤ 100
  many : cs.length ≤ 100000
theorem CsAt.mono {K : PySem.W.Frag} {H H' : Hp} {a : Addr} {xs : List V} {b : Bool} {cs : List (List Int)} (C : CsAt K H a xs b cs) (s : Same H H') : CsAt K H' a xs b cs := ⟨sql_mono s C.sq, dpa_mono s _ C.all, C.nz, C.len, C.many⟩
theorem CsAt.dp {K : PySem.W.Frag} {H : Hp} {a : Addr} {xs : List V} {b : Bool} {cs : List (List Int)} (C : CsAt K H a xs b cs) : Dp K H (.ref a) (.list (cs.map (gcD b))) := .lst C.sq C.all
theorem CsAt.xl {K : PySem.W.Frag} {H : Hp} {a : Addr} {xs : List V} {b : Bool} {cs : List (List Int)} (C : CsAt K H a xs b cs) : xs.length = cs.length := by rw [dpa_len C.all, List.length_map]
theorem CsAt.less {K : PySem.W.Frag} {H H' : Hp} {a p : Addr} {xs ys : List V} {b : Bool} {cs : List (List Int)} {l : Int} (C : CsAt K H a xs b cs) (h1 : SqL K H' p ys) (h2 : DpAll K H' ys ((MC.less cs l).map (gcD false))) : CsAt K H' p ys false (MC.less cs l) :=
  ⟨h1, h2, MC.nz_less C.nz, fun d hd => by
    obtain ⟨c, hc, _, rfl⟩ := MC.mem_less.1 hd
    exact Nat.le_trans (List.length_filter_le _ _) (C.len c hc), Nat.le_trans (less_len _ _) C.many⟩
/-- [row[0] for row in clauses if len(row) == 1] -/
theorem lc_ones {K : PySem.W.Frag} {a : Addr} {xs : List V} {b : Bool} {cs : List (List Int)} {k : Nat} {tt : TT} {te : TE} {vs : List Nat} {σ : L2.St} {H1 : Hp} {D : Addr} {Qd : Hp → Prop} (C : CsAt K H1 a xs b cs) (hD : H1 D = none) (hw : ∀ x, wipe ((wipe σ vs).set k (some x)) vs = wipe σ vs)
    (ht : ∀ (t : Addr) (c : List Int) H2 (R : Bool → Hp → Prop), (SqL K H2 t (c.map V.int) ∨ SqT K H2 t (c.map V.int)) → R (decide (c.length = 1)) H2 → tt ((wipe σ vs).set k (some (.ref t))) H2 R)
    (he : ∀ (t : Addr) (x : Int) H2 (R : VK), (SqL K H2 t [V.int x] ∨ SqT K H2 t [V.int x]) → R (.int x) H2 → te ((wipe σ vs).set k (some (.ref t))) H2 R)
    (hq : ∀ H2, H2 D = some (.lst ((ones cs).map V.int)) → Same H1 H2 → Qd H2) :
    ∃ W : Nat → Nat → Hp → Prop, (∃ m, W 0 m (upd H1 D (.lst []))) ∧ ∀ i m H, W i m H →
      ((Itl K a).stop i H ∧ Qd H) ∨ ((Itl K a).go i H ∧ ∃ Nx : Hp → Prop, (∀ H', Nx H' → ∃ m', m' < m ∧ W (i + 1) m' H') ∧ ∀ x H', (Itl K a).yld i H x H' → gName k x (wipe σ vs) H' fun σ2 H2 => wipe σ2 vs = wipe σ vs ∧ tt σ2 H2 fun b H3 =>
        if b = true then te σ2 H3 fun y H4 => ∃ acc, H4 D = some (.lst acc) ∧ acc.length < sizeLine ∧ Nx (upd H4 D (.lst (acc ++ [y]))) else Nx H3) := by
  refine lc_list (K := K) (a := a) (xs := xs) (fun i H2 => H2 D = some (.lst ((ones (cs.take i)).map V.int)) ∧ Same H1 H2 ∧ i ≤ cs.length) ⟨upd_same, same_new hD _, Nat.zero_le _⟩ (fun i H2 _ ⟨_, s, _⟩ => sql_mono s C.sq) ?_ ?_
  · rintro i y H2 hi ⟨h1, s, _⟩
    have hi' : i < cs.length := by rw [← C.xl]; exact (List.getElem?_eq_some_iff.mp hi).1
    obtain ⟨c, t, hc, rfl, htt⟩ := dpa_atG (dpa_mono s _ C.all) hi
    refine ⟨hw _, ht t c H2 _ htt ?_⟩
    by_cases h : c.length = 1
    · obtain ⟨x, rfl⟩ := one1_len.1 h
      rw [if_pos (decide_eq_true h)]
      refine he t x H2 _ htt ⟨_, h1, ?_, ?_, fun b o hb => ?_, hi'⟩
      · have h2 := ones_len (cs.take i)
        have h3 := C.many
        rw [List.length_take] at h2
        rw [List.length_map, sizeLine_eq]
        omega
      · rw [upd_same, take_next hc, ones_snoc, List.map_append] <;> rfl
      · rw [upd_ne (ne_of_none hb hD)]
        exact s b o hb
    · rw [if_neg (by rw [decide_eq_false h]; decide)]
      exact ⟨by rw [take_next hc, ones_snoc, one1_no h, List.append_nil]; exact h1, s, hi'⟩
  · rintro H2 ⟨h1, s, _⟩
    rw [C.xl, List.take_length] at h1
    exact hq H2 h1 s
def spCan (K : PySem.W.Frag) (m : Nat) : Sp := fun vs H Q _ => ∃ (k : Nat) (a : Addr) (xs : List V) (b : Bool) (cs : List (List Int)), m = k + 1 ∧ vs = [.ref a] ∧ CsAt K H a xs b cs ∧ MC.Vin k cs ∧ ∀ bb H', (bb = true ↔ MC.Sat cs) → Same H H' → Q (.bl bb) H'
end My

set_option Elab.async false
set_option maxRecDepth 100000
set_option maxHeartbeats 4000000
set_option linter.all false
namespace My
open PySem L2
open C8 (pss_cut)
theorem len_one (c : List Int) : decide (V.int ((c.map V.int).length : Int) = V.int 1) = decide (c.length = 1) := by
  rw [List.length_map]
  by_cases h : c.length = 1
  · rw [decide_eq_true h, h] <;> rfl
  · rw [decide_eq_false h]
    exact decide_eq_false fun e => h (by have := V.int.inj e; omega)
section
variable {P : Program} {w : World} {K : PySem.W.Frag} {mg : Str → Option Value} {base : Heap} {f : Addr} {fd : FuncData}
theorem ok__law_can0 (D : Def K mg "_law_can" ["clauses"] s__law_can f fd) : Own P w K mg base "_law_can" ["clauses"] 1 (spCan K 0) :=
  ⟨f, fd, D.mg, D.fn.kp, D.bd, fn_never fun vs H Q E ⟨k, a, xs, b, cs, e, _⟩ => by cases e⟩
theorem ok__law_can1 {m : Nat} (T : Txt K mg) (D : Def K mg "_law_can" ["clauses"] s__law_can f fd) (O1 : Own P w K mg base "_law_less" ["clauses", "literal"] 1 (spLess K)) (O2 : Own P w K mg base "_law_can" ["clauses"] (m + 1) (spCan K m)) : Own P w K mg base "_law_can" ["clauses"] (m + 2) (spCan K (m + 1)) := by
  obtain ⟨f_law_less, fd_law_less, m_law_less, k_law_less, b_law_less, G_law_less⟩ := O1
  obtain ⟨f_law_can, fd_law_can, m_law_can, k_law_can, b_law_can, G_law_can⟩ := O2
  refine ⟨f, fd, D.mg, D.fn.kp, D.bd, D.fn.ok sc__law_can (fun vs H Q E h => ?_) (fun cdv A outer s H vs Q E hr h => ?_)⟩
  · obtain ⟨k, a, xs, b, cs, _, rfl, _⟩ := h
    rfl
  · obtain ⟨k, a, xs, b, cs, ek, rfl, C, V0, q⟩ := h
    obtain rfl : m = k := by omega
    refine ⟨_, (pss_cons (ps_if (PW.pt (pw_or (pt_cmpR (op_inD (room65 hr)) (pe_lst pa_nil) (pv 0) (by rfl)) (pw_or1 (pt_cmpR (op_inD (room65 hr)) (pe_tup pa_nil) (pv 0) (by rfl))))) (pss_one (ps_ret pe_bl)) pss_nil)
      (pss_cons (ps_setLc (i := 1) (own := [("row", 5)]) (g := gName 5) rfl sc__law_can.nd rfl rfl (sw_true rfl rfl rfl (by decide +kernel)) (pi_list (pv 0)) (blkOk_by (N := N__law_can) (sc := defScope s__law_can) (own := [("row", 5)]) (by decide +kernel)) (fun _ _ _ _ _ => (pg_name (i := 5) sc__law_can.nd rfl (Or.inl rfl))) (fun _ _ _ _ _ => (pts_one (pt_cmpR op_eq (pe_callB (call_len_seqK (K := K) rfl) (by rfl) T.m_len (by decide +kernel) (pa_cons (pv 5) pa_nil)) pe_int (nomark _)))) (fun _ _ _ _ _ => (pe_ix (ix_seqK (K := K) rfl) (pv 5) pe_int (fun _ _ => rfl))))
      (pss_cons (ps_while PassesOwn.never (pt_cmpR (op_neD hr.units) (pv 1) (pe_lst pa_nil) (nomark _)) (pss_cons (ps_set (i := 0) sc__law_can.nd rfl (Or.inl rfl) (pe_call G_law_less (hr.mono (by omega)) rfl m_law_less k_law_less b_law_less .nil pass0 (pa_cons (pv 0) (pa_cons (pe_ix ix_list (pv 1) pe_int (fun _ _ => rfl)) pa_nil))))
      (pss_cons (ps_if (pt_cmpR op_isN (pv 0) pe_non (nomark _)) (pss_one (ps_ret pe_bl)) pss_nil)
      (pss_one (ps_setLc (i := 1) (own := [("row", 5)]) (g := gName 5) rfl sc__law_can.nd rfl rfl (sw_true rfl rfl rfl (by decide +kernel)) (pi_list (pv 0)) (blkOk_by (N := N__law_can) (sc := defScope s__law_can) (own := [("row", 5)]) (by decide +kernel)) (fun _ _ _ _ _ => (pg_name (i := 5) sc__law_can.nd rfl (Or.inl rfl))) (fun _ _ _ _ _ => (pts_one (pt_cmpR op_eq (pe_callB (call_len_seqK (K := K) rfl) (by rfl) T.m_len (by decide +kernel) (pa_cons (pv 5) pa_nil)) pe_int (nomark _)))) (fun _ _ _ _ _ => (pe_ix (ix_seqK (K := K) rfl) (pv 5) pe_int (fun _ _ => rfl))))))))
      (pss_cons (ps_if (pt_cmpR (op_eqD hr.units) (pv 0) (pe_lst pa_nil) (nomark _)) (pss_one (ps_ret pe_bl)) pss_nil)
      (pss_cons (ps_set (i := 2) sc__law_can.nd rfl (Or.inl rfl) (pe_ix ix_seq (pe_ix ix_list (pv 0) pe_int (fun _ _ => rfl)) pe_int (fun _ _ => rfl)))
      (pss_cons (ps_for PassesOwn.never rfl (pi_list (pe_lst (pa_cons (pv 2) (pa_cons (pe_un un_neg (pv 2)) pa_nil)))) (pg_name (i := 3) sc__law_can.nd rfl (Or.inl rfl)) (pss_cons (ps_set (i := 4) sc__law_can.nd rfl (Or.inl rfl) (pe_call G_law_less (hr.mono (by omega)) rfl m_law_less k_law_less b_law_less .nil pass0 (pa_cons (pv 0) (pa_cons (pv 3) pa_nil))))
      (pss_one (ps_if (PW.pt (pw_and (pt_cmpR op_notN (pv 4) pe_non (nomark _)) (pw_and1 (pt_val (pe_call G_law_can (hr.mono (by omega)) rfl m_law_can k_law_can b_law_can .nil pass0 (pa_cons (pv 4) pa_nil)))))) (pss_one (ps_ret pe_bl)) pss_nil))))
      (pss_one (ps_ret pe_bl)))))))), ?_⟩
    refine ⟨by show 0 ≤ sizeLine; decide, fun e0 he0 => ?_⟩
    have s1 := same_new he0 (.lst [])
    refine ⟨_, rfl, .list [], _, .lst (SqL.of upd_same) .nil, (C.mono s1).dp, by rfl, shp_gcs b cs, _, rfl, ite2 (fun c1 => ?_) (fun c1 => ?_)⟩
    · rw [any_lst] at c1
      have := (Bool.and_eq_true_iff.mp c1).2
      exact q false _ ⟨fun e => (by cases e), fun h => absurd h (MC.not_sat_empty (of_decide_eq_true this))⟩ s1
    refine ⟨by show 0 ≤ sizeLine; decide, fun e1 he1 => ?_⟩
    have s2 := s1.trans (same_new he1 (.tup []))
    refine ⟨_, rfl, .tuple [], _, .tup (SqT.of upd_same) .nil, (C.mono s2).dp, by rfl, shp_gcs b cs, _, rfl, ite2 (fun c2 => ?_) (fun c2 => ?_)⟩
    · rw [any_tup] at c2
      have := (Bool.and_eq_true_iff.mp c2).2
      exact q false _ ⟨fun e => (by cases e), fun h => absurd h (MC.not_sat_empty (of_decide_eq_true this))⟩ s2
    have ne : [] ∉ cs := fun h => by
      rw [any_lst] at c1
      rw [any_tup] at c2
      cases b
      · exact c1 (by rw [decide_eq_true h] <;> rfl)
      · exact c2 (by rw [decide_eq_true h] <;> rfl)
    have C2 := C.mono s2
    refine ⟨_, rfl, a, rfl, ⟨_, C2.sq⟩, fun D1 hD1 => lc_ones C2 hD1 (fun _ => rfl) (fun t c H4 R htt r => ?_) (fun t x H4 R htt r => ?_) fun H3 h3 s3 => ?_⟩
    · exact ⟨_, rfl, t, _, rfl, htt, rfl, _, rfl, by rw [len_one]; exact r⟩
    · exact ⟨_, rfl, htt.elim (fun h => .inl ⟨t, _, 0, .int x, rfl, rfl, h, rfl, r⟩) fun h => .inr (.inl ⟨t, _, 0, .int x, rfl, rfl, h, rfl, r⟩)⟩
    · refine while_w (fun n σ' H' => ∃ (a' o1 : Addr) (xs' : List V) (b' : Bool) (cs' : List (List Int)), σ' = [some (.ref a'), some (.ref o1), none, none, none, none] ∧ CsAt K H' a' xs' b' cs' ∧ MC.Vin m cs' ∧ [] ∉ cs' ∧ (MC.Sat cs' ↔ MC.Sat cs) ∧ H' o1 = some (.lst ((ones cs').map V.int)) ∧ Same H H' ∧ n = cs'.length)
        ⟨_, a, D1, xs, b, cs, rfl, C2.mono s3, V0, ne, Iff.rfl, h3, s2.trans s3, rfl⟩ ?_ ?_
      · rintro n σ4 H4 ⟨a', o1, xs', b', cs', rfl, C4, V4, ne4, sat4, h4, s4, rfl⟩
        refine ⟨_, rfl, by show 0 ≤ sizeLine; decide, fun e2 he2 => ?_⟩
        have s5 := same_new he2 (.lst [])
        have h5 := s5 _ _ h4
        refine ⟨_, .list [], .lst (SqL.of h5) (ints_all _), .lst (SqL.of upd_same) .nil, shp_ints _, by rfl, _, rfl, ite2 (fun c3 => ?_) (fun c3 => ?_)⟩
        · have no : ones cs' ≠ [] := fun e => by
            have c3 : (!PyData.eqv (.list ((ones cs').map PyData.int)) (.list [])) = true := c3
            rw [eqv_nilI, decide_eq_true e] at c3
            cases c3
          obtain ⟨l, r, el⟩ := List.exists_cons_of_ne_nil no
          have hl : l ∈ ones cs' := by rw [el]; exact List.mem_cons_self
          have hlm := mem_ones.1 hl
          have l0 : l ≠ 0 := C4.nz [l] hlm l (List.mem_singleton.mpr rfl)
          have C5 := C4.mono s5
          obtain ⟨k', _, Vk⟩ := MC.vin_less V4 hlm (.inl (List.mem_singleton.mpr rfl))
          have satl : MC.Sat (MC.less cs' l) ↔ MC.Sat cs := (MC.sat_unit l0 hlm).symm.trans sat4
          refine ⟨_, rfl, _, rfl, o1, _, 0, .int l, rfl, rfl, SqL.of h5, by rw [el]; exact atI_nat (xs := (l :: r).map V.int) (j := 0) rfl, a', l, xs', b', cs', rfl, C5.sq, C5.all, C5.len, C5.many, fun ba H6 s6 => ?_, fun nba p ys H6 s6 h6 h7 => ?_⟩
          · refine ⟨_, rfl, rfl, _, rfl, ite2 (fun _ => ?_) (fun c4 => absurd (decide_eq_true rfl) c4)⟩
            exact q false _ ⟨fun e => (by cases e), fun h => absurd (satl.2 h) (MC.not_sat_empty (MC.bare_iff.1 ba))⟩ ((s4.trans s5).trans s6)
          · have C6 := C5.less h6 h7
            refine ⟨_, rfl, rfl, _, rfl, ite2 (fun c4 => by cases of_decide_eq_true c4) (fun _ => ?_)⟩
            refine ⟨_, rfl, p, rfl, ⟨_, C6.sq⟩, fun D2 hD2 => lc_ones C6 hD2 (fun _ => rfl) (fun t c H4 R htt r => ?_) (fun t x H4 R htt r => ?_) fun H7 h8 s7 => ?_⟩
            · exact ⟨_, rfl, t, _, rfl, htt, rfl, _, rfl, by rw [len_one]; exact r⟩
            · exact ⟨_, rfl, htt.elim (fun h => .inl ⟨t, _, 0, .int x, rfl, rfl, h, rfl, r⟩) fun h => .inr (.inl ⟨t, _, 0, .int x, rfl, rfl, h, rfl, r⟩)⟩
            · refine ⟨_, ones_lt hl, p, D2, ys, false, MC.less cs' l, rfl, C6.mono s7, ?_, fun h => nba (MC.bare_iff.2 h), satl, h8, ((s4.trans s5).trans s6).trans s7, rfl⟩
              obtain ⟨vs, hv1, hv2⟩ := Vk
              exact ⟨vs, by omega, hv2⟩
        · have no : ones cs' = [] := by
            have c3 : ¬ (!PyData.eqv (.list ((ones cs').map PyData.int)) (.list [])) = true := c3
            rw [eqv_nilI] at c3
            simpa using c3
          -- all of it
          refine ⟨_, rfl, by show 0 ≤ sizeLine; decide, fun e3 he3 => ?_⟩
          have s6 := s5.trans (same_new he3 (.lst []))
          have C6 := C4.mono s6
          refine ⟨_, .list [], C6.dp, .lst (SqL.of upd_same) .nil, shp_gcs b' cs', by rfl, _, rfl, ite2 (fun c4 => ?_) (fun c4 => ?_)⟩
          · rw [eqv_nilG] at c4
            refine q true _ ⟨fun _ => sat4.1 ?_, fun _ => rfl⟩ (s4.trans s6)
            rw [of_decide_eq_true c4]
            exact MC.sat_nil
          · have hne : cs' ≠ [] := fun e => c4 (by rw [eqv_nilG]; exact decide_eq_true e)
            obtain ⟨c0, r0, ec0⟩ := List.exists_cons_of_ne_nil hne
            have c0m : c0 ∈ cs' := by rw [ec0]; exact List.mem_cons_self
            have c0n : c0 ≠ [] := fun e => ne4 (by rw [← e]; exact c0m)
            obtain ⟨x, r1, ex⟩ := List.exists_cons_of_ne_nil c0n
            have xm : x ∈ c0 := by rw [ex]; exact List.mem_cons_self
            have x0 : x ≠ 0 := C4.nz c0 c0m x xm
            have xlen : 0 < xs'.length := by rw [C4.xl, ec0]; exact Nat.succ_pos _
            obtain ⟨c0', t, hc0, et, htt⟩ := dpa_atG C6.all (List.getElem?_eq_getElem xlen)
            have ec : c0' = c0 := by
              rw [ec0] at hc0
              exact (Option.some.inj hc0).symm
            rw [ec, ex] at htt
            have at0 : atI xs' 0 = some (.ref t) := by rw [← et]; exact atI_nat (xs := xs') (j := 0) (List.getElem?_eq_getElem xlen)
            have at1 : atI ((x :: r1).map V.int) 0 = some (.int x) := atI_nat (xs := (x :: r1).map V.int) (j := 0) rfl
            refine ⟨_, rfl, a', _, 0, .ref t, rfl, rfl, C6.sq, at0, htt.elim (fun h => .inl ⟨t, _, 0, .int x, rfl, rfl, h, at1, ?_⟩) fun h => .inr (.inl ⟨t, _, 0, .int x, rfl, rfl, h, at1, ?_⟩)⟩
            all_goals
              refine ⟨_, rfl, _, rfl, _, rfl, by show 2 ≤ sizeLine; decide, fun p2 hp2 => ?_⟩
              have s7 := s6.trans (same_new hp2 (.lst [.int x, .int (-x)]))
              refine ⟨p2, rfl, ⟨_, SqL.of upd_same⟩, for_list (K := K) (a := p2) (xs := [.int x, .int (-x)]) (fun i σ' H' => ∃ (o3 o4 : Option V), σ' = [some (.ref a'), some (.ref o1), some (.int x), o3, o4, none] ∧ Same (upd (upd H4 e2 (.lst [])) e3 (.lst [])) H' ∧ H' p2 = some (.lst [.int x, .int (-x)]) ∧ (1 ≤ i → ¬ MC.Sat (MC.less cs' x)) ∧ (2 ≤ i → ¬ MC.Sat (MC.less cs' (-x))))
                ⟨none, none, rfl, same_new hp2 _, upd_same, fun h => absurd h (by omega), fun h => absurd h (by omega)⟩ (fun i σ' H' _ ⟨_, _, _, _, h, _⟩ => SqL.of h) ?_ ?_⟩
              · rintro i y σ' H8 hi ⟨o3, o4, rfl, s8, hp8, n1, n2⟩
                obtain ⟨lt, rfl, hlt⟩ : ∃ lt, y = V.int lt ∧ ((i = 0 ∧ lt = x) ∨ (i = 1 ∧ lt = -x)) := by
                  match i, hi with
                  | 0, hi => exact ⟨x, (Option.some.inj hi).symm, .inl ⟨rfl, rfl⟩⟩
                  | 1, hi => exact ⟨-x, (Option.some.inj hi).symm, .inr ⟨rfl, rfl⟩⟩
                  | i + 2, hi => exact absurd hi (by simp)
                have ltm : lt ∈ c0 ∨ -lt ∈ c0 := by
                  rcases hlt with ⟨_, e⟩ | ⟨_, e⟩
                  · left; rw [e]; exact xm
                  · right; rw [e, Int.neg_neg]; exact xm
                have lt0 : lt ≠ 0 := by rcases hlt with ⟨_, e⟩ | ⟨_, e⟩ <;> omega
                have C8 := C6.mono s8
                obtain ⟨k', ek', Vk⟩ := MC.vin_less V4 c0m ltm
                -- the side is closed
                have shut : ∀ H9, Same H8 H9 → ¬ MC.Sat (MC.less cs' lt) → ∀ o4', ∃ (o3 o4 : Option V), ([some (.ref a'), some (.ref o1), some (.int x), some (.int lt), o4', none] : L2.St) = [some (.ref a'), some (.ref o1), some (.int x), o3, o4, none] ∧ Same (upd (upd H4 e2 (.lst [])) e3 (.lst [])) H9 ∧ H9 p2 = some (.lst [.int x, .int (-x)]) ∧ (1 ≤ i + 1 → ¬ MC.Sat (MC.less cs' x)) ∧ (2 ≤ i + 1 → ¬ MC.Sat (MC.less cs' (-x))) := fun H9 s9 ns o4' => by
                  refine ⟨_, o4', rfl, s8.trans s9, s9 _ _ hp8, fun _ => ?_, fun h => ?_⟩
                  · rcases hlt with ⟨_, e⟩ | ⟨ei, _⟩
                    · rw [← e]; exact ns
                    · exact n1 (by omega)
                  · rcases hlt with ⟨ei, _⟩ | ⟨_, e⟩
                    · omega
                    · rw [← e]; exact ns
                refine ⟨_, rfl, _, rfl, a', lt, xs', b', cs', rfl, C8.sq, C8.all, C8.len, C8.many, fun ba H9 s9 => ?_, fun nba p ys H9 s9 h6 h7 => ?_⟩
                · refine ⟨_, rfl, rfl, _, rfl, ite2 (fun c5 => absurd c5 (by decide)) (fun _ => ?_)⟩
                  exact shut H9 s9 (MC.not_sat_empty (MC.bare_iff.1 ba)) _
                · have C9 := C8.less h6 h7
                  refine ⟨_, rfl, rfl, _, rfl, ite2 (fun _ => ?_) (fun c5 => absurd (by rfl) c5)⟩
                  refine ⟨_, rfl, k', p, ys, false, MC.less cs' lt, ek', rfl, C9, Vk, fun bb H10 hbb s10 => ?_⟩
                  refine ⟨bb, rfl, ?_⟩
                  cases bb with
                  | true => exact q true _ ⟨fun _ => sat4.1 (MC.sat_less_of lt0 (hbb.1 rfl)), fun _ => rfl⟩ ((((s4.trans s6).trans s8).trans s9).trans s10)
                  | false => exact shut H10 (s9.trans s10) (fun h => by cases hbb.2 h) _
              · rintro σ' H8 ⟨o3, o4, rfl, s8, _, n1, n2⟩
                refine q false _ ⟨fun e => (by cases e), fun h => ?_⟩ ((s4.trans s6).trans s8)
                rcases (MC.sat_split x0).1 (sat4.2 h) with z | z
                · exact absurd z (n1 (by show 1 ≤ 2; decide))
                · exact absurd z (n2 (by show 2 ≤ 2; decide))
      · rintro σ2 H2 Q1 Q2 imp ⟨v, h1, hz, h2⟩
        exact ⟨v, h1, hz, fun p hp => by
          obtain ⟨d, e, g1, g2, g3, g4, k, g5, g6⟩ := h2 p hp
          exact ⟨d, e, g1, g2, g3, g4, k, g5, imp _ _ g6⟩⟩
theorem ok__law_can (T : Txt K mg) (D : Def K mg "_law_can" ["clauses"] s__law_can f fd) (O1 : Own P w K mg base "_law_less" ["clauses", "literal"] 1 (spLess K)) : ∀ m, Own P w K mg base "_law_can" ["clauses"] (m + 1) (spCan K m)
  | 0 => ok__law_can0 D
  | m + 1 => ok__law_can1 T D O1 (ok__law_can T D O1 m)
end
end My

set_option Elab.async false
set_option maxRecDepth 100000
set_option maxHeartbeats 4000000
set_option linter.all false
namespace My
open PySem L2 PyProof.Rows
open C8 (pss_cut)
def thR : List Nat := [0, 3, 2, 1, 4]
theorem setD_noLst (S : List Nat) : noLst (setD S) = true := items_noLst S
theorem atoms_dp {K : PySem.W.Frag} {H : Hp} : ∀ {L : List V}, Atoms L → DpAll K H L (NestedKey.datas (L.map nkV))
  | [], _ => .nil
  | v :: L, h => by
    have ih := atoms_dp (K := K) (H := H) (L := L) fun u m => h u (List.mem_cons_of_mem _ m)
    rcases h v List.mem_cons_self with ⟨i, rfl⟩ | ⟨x, rfl⟩
    · exact .cons (.int _) ih
    · exact .cons (.str _) ih
theorem it_dp {K : PySem.W.Frag} {H : Hp} {t : Addr} {r : Nat} (h : H t = some (.tup (itV r))) : Dp K H (.ref t) (itD r) := .tup (SqT.of h) (atoms_dp (itV_atoms r))
structure LS (K : PySem.W.Frag) (H : Hp) (d L b R : Addr) (refs : List V) (sets : List (List Nat)) (zs : List V) : Prop where
  dr : DrawAt H d L
  hb : H b = some (.lst refs)
  hR : H R = some (.lst zs)
  th : DpAll K H refs (thR.map itD)
  sd : DpAll K H zs (sets.map setD)
section
variable {K : PySem.W.Frag} {H H' : Hp} {d L b R : Addr} {refs : List V} {sets : List (List Nat)} {zs : List V}
theorem DrawAt.mut (h : DrawAt H d L) : Mut (H d) := by
  obtain ⟨ns, a, l, s, h1, _⟩ := h
  rw [h1]
  exact True.intro
theorem LS.step (h : LS K H d L b R refs sets zs) (nb : b ≠ d) (nR : R ≠ d) (dr : DrawAt H' d L) (sm : Same (hide d H) (hide d H')) : LS K H' d L b R refs sets zs := by
  have bt := But.of_hide sm
  have mt : ∀ a ∈ [d], Mut (H a) := fun a ha => by rw [List.mem_singleton.mp ha]; exact h.dr.mut
  exact ⟨dr, bt _ _ (fun m => nb (List.mem_singleton.mp m)) h.hb, bt _ _ (fun m => nR (List.mem_singleton.mp m)) h.hR, dpa_but mt bt _ (items_noLst _) h.th, dpa_but mt bt _ (noLsts_map setD_noLst _) h.sd⟩
theorem LS.same (h : LS K H d L b R refs sets zs) (s : Same H H') : LS K H' d L b R refs sets zs :=
  ⟨h.dr.mono s, s _ _ h.hb, s _ _ h.hR, dpa_mono s _ h.th, dpa_mono s _ h.sd⟩
theorem LS.but (h : LS K H d L b R refs sets zs) {A : List Addr} (mt : ∀ a ∈ A, Mut (H a)) (nb : b ∉ A) (nR : R ∉ A) (nd : d ∉ A) (nL : L ∉ A) (bt : But A H H') : LS K H' d L b R refs sets zs := by
  obtain ⟨ns, a, l, s, h1, h2, r⟩ := h.dr
  exact ⟨⟨ns, a, l, s, bt _ _ nd h1, bt _ _ nL h2, r⟩, bt _ _ nb h.hb, bt _ _ nR h.hR, dpa_but mt bt _ (items_noLst _) h.th, dpa_but mt bt _ (noLsts_map setD_noLst _) h.sd⟩
theorem LS.push (h : LS K H d L b R refs sets zs) {v : V} {S : List Nat} (nb : b ≠ R) (nd : d ≠ R) (nL : L ≠ R) (hv : Dp K H v (setD S)) : LS K (upd H R (.lst (zs ++ [v]))) d L b R refs (sets ++ [S]) (zs ++ [v]) := by
  have mt : ∀ a ∈ [R], Mut (H a) := fun a ha => by rw [List.mem_singleton.mp ha, h.hR]; exact True.intro
  have bt : But [R] H (upd H R (.lst (zs ++ [v]))) := But.put (List.mem_singleton_self _) _
  refine ⟨h.dr.put _ nd nL, by rw [upd_ne nb]; exact h.hb, upd_same, dpa_but mt bt _ (items_noLst _) h.th, ?_⟩
  rw [List.map_append]
  exact dpa_app (dpa_but mt bt _ (noLsts_map setD_noLst _) h.sd) (dpa_one (dp_but mt bt _ (setD_noLst S) hv))
end
theorem dpa_zip {K : PySem.W.Frag} {H : Hp} : ∀ {zs : List V} {S : List Nat}, DpAll K H zs (S.map itD) → ∃ rs : List (Nat × V), zs = rs.map (·.2) ∧ S = rs.map (·.1) ∧ ∀ x ∈ rs, Dp K H x.2 (itD x.1)
  | [], [], _ => ⟨[], rfl, rfl, fun x h => by cases h⟩
  | v :: zs, r :: S, h => by
    cases h with
    | cons a t =>
      obtain ⟨rs, rfl, rfl, h3⟩ := dpa_zip t
      refine ⟨(r, v) :: rs, rfl, rfl, fun x hx => ?_⟩
      rcases List.mem_cons.mp hx with e | m
      · rw [e]; exact a
      · exact h3 x m
  | [], _ :: _, h => by cases h
  | _ :: _, [], h => by cases h
theorem zip_dpa {K : PySem.W.Frag} {H : Hp} : ∀ {rs : List (Nat × V)}, (∀ x ∈ rs, Dp K H x.2 (itD x.1)) → DpAll K H (rs.map (·.2)) ((rs.map (·.1)).map itD)
  | [], _ => .nil
  | x :: rs, h => .cons (h x List.mem_cons_self) (zip_dpa fun y m => h y (List.mem_cons_of_mem _ m))
/-! ### the clauses, for _law_can -/
theorem cntRow_vars {m M i : Nat} (hi : i < m) : ∀ c ∈ cntRow m M i, c.length ≤ 3 ∧ ∀ z ∈ c, 1 ≤ ab z ∧ ab z ≤ ((m + m * M : Nat) : Int) := by
  have hb : ∀ i j, i < m → 1 ≤ j → j ≤ M → 1 ≤ sVar m M i j ∧ sVar m M i j ≤ ((m + m * M : Nat) : Int) := fun i j h1 h2 h3 => by
    unfold sVar
    have : i * M + M ≤ m * M := by
      have := Nat.mul_le_mul_right M (show i + 1 ≤ m by omega)
      rw [Nat.succ_mul] at this
      exact this
    have h0 : 0 ≤ i * M := Nat.zero_le _
    omega
  have ht : ∀ i, i < m → ((i + 1 : Nat) : Int) ≤ ((m + m * M : Nat) : Int) := fun i h => by
    have h0 : 0 ≤ m * M := Nat.zero_le _
    omega
  have abp : ∀ x : Int, 1 ≤ x → x ≤ ((m + m * M : Nat) : Int) → 1 ≤ ab x ∧ ab x ≤ ((m + m * M : Nat) : Int) := fun x h1 h2 => by
    unfold ab
    rw [if_neg (by omega)]
    exact ⟨h1, h2⟩
  have abn : ∀ x : Int, 1 ≤ x → x ≤ ((m + m * M : Nat) : Int) → 1 ≤ ab (-x) ∧ ab (-x) ≤ ((m + m * M : Nat) : Int) := fun x h1 h2 => by
    rw [ab_neg]
    exact abp x h1 h2
  intro c hc
  unfold cntRow at hc
  split at hc
  · rw [List.mem_singleton.mp hc]
    refine ⟨by simp, fun z hz => ?_⟩
    rw [List.mem_singleton.mp hz]
    exact abn _ (by omega) (ht i hi)
  · rename_i hM
    rcases List.mem_cons.mp hc with e | hc
    · rw [e]
      refine ⟨by simp, fun z hz => ?_⟩
      simp only [List.mem_cons, List.not_mem_nil, or_false] at hz
      rcases hz with rfl | rfl
      · exact abn _ (by omega) (ht i hi)
      · obtain ⟨h1, h2⟩ := hb i 1 hi (Nat.le_refl _) (by omega)
        exact abp _ h1 h2
    · split at hc
      · cases hc
      · rename_i hi0
        rcases List.mem_append.mp hc with hc | hc
        · rcases List.mem_append.mp hc with hc | hc
          · obtain ⟨j, hj, rfl⟩ := List.mem_map.mp hc
            have hj := List.mem_range.mp hj
            refine ⟨by simp, fun z hz => ?_⟩
            simp only [List.mem_cons, List.not_mem_nil, or_false] at hz
            rcases hz with rfl | rfl
            · obtain ⟨h1, h2⟩ := hb (i - 1) (j + 1) (by omega) (by omega) (by omega)
              exact abn _ h1 h2
            · obtain ⟨h1, h2⟩ := hb i (j + 1) hi (by omega) (by omega)
              exact abp _ h1 h2
          · obtain ⟨j, hj, rfl⟩ := List.mem_map.mp hc
            have hj := List.mem_range.mp hj
            refine ⟨by simp, fun z hz => ?_⟩
            simp only [List.mem_cons, List.not_mem_nil, or_false] at hz
            rcases hz with rfl | rfl | rfl
            · exact abn _ (by omega) (ht i hi)
            · obtain ⟨h1, h2⟩ := hb (i - 1) (j + 1) (by omega) (by omega) (by omega)
              exact abn _ h1 h2
            · obtain ⟨h1, h2⟩ := hb i (j + 2) hi (by omega) (by omega)
              exact abp _ h1 h2
        · rw [List.mem_singleton.mp hc]
          refine ⟨by simp, fun z hz => ?_⟩
          simp only [List.mem_cons, List.not_mem_nil, or_false] at hz
          rcases hz with rfl | rfl
          · exact abn _ (by omega) (ht i hi)
          · obtain ⟨h1, h2⟩ := hb (i - 1) M (by omega) (by omega) (Nat.le_refl _)
            exact abn _ h1 h2
theorem due_vars {sets : List (List Nat)} {M : Nat} : ∀ c ∈ dueR sets M, c.length ≤ sets.length + 3 ∧ ∀ z ∈ c, 1 ≤ ab z ∧ ab z ≤ ((sets.length + sets.length * M : Nat) : Int) := by
  intro c hc
  rcases List.mem_append.mp hc with hc | hc
  · obtain ⟨r, hr, rfl⟩ := List.mem_map.mp hc
    refine ⟨Nat.le_trans (idxN_len _ _ _) (by omega), fun z hz => ?_⟩
    obtain ⟨k, hk, rfl, _⟩ := mem_idx.1 hz
    unfold ab
    rw [if_neg (by omega)]
    have h0 : 0 ≤ sets.length * M := Nat.zero_le _
    omega
  · unfold cntRows at hc
    obtain ⟨i, hi, hc⟩ := List.mem_flatMap.mp hc
    obtain ⟨h1, h2⟩ := cntRow_vars (List.mem_range.mp hi) c hc
    exact ⟨by omega, h2⟩
theorem due_len {sets : List (List Nat)} {M : Nat} (h : sets.length ≤ 9) (hM : M ≤ 9) : (dueR sets M).length ≤ 300 := by
  unfold dueR cntRows
  rw [List.length_append, List.length_map]
  have h1 := flat_len sets.length M sets.length
  have h2 : (everyR sets).length ≤ 5 := Nat.le_trans (List.length_filter_le _ _) (by rw [List.length_range]; exact Nat.le_refl _)
  have h3 : sets.length * (2 * M + 3) ≤ 9 * 21 := Nat.mul_le_mul h (by omega)
  omega
theorem due_vin {sets : List (List Nat)} {M : Nat} (h : sets.length ≤ 9) (hM : M ≤ 9) : MC.Vin 90 (dueR sets M) := by
  refine ⟨(List.range 90).map fun (i : Nat) => (i : Int) + 1, by rw [List.length_map, List.length_range]; exact Nat.le_refl _, fun c hc z hz => ?_⟩
  obtain ⟨h1, h2⟩ := (due_vars c hc).2 z hz
  have h3 : sets.length * M ≤ 9 * 9 := Nat.mul_le_mul h hM
  unfold ab at h1 h2
  split at h1
  · right
    exact List.mem_map.mpr ⟨(-z - 1).toNat, List.mem_range.mpr (by omega), by omega⟩
  · left
    exact List.mem_map.mpr ⟨(z - 1).toNat, List.mem_range.mpr (by omega), by omega⟩
theorem due_nz {sets : List (List Nat)} {M : Nat} : MC.Nz (dueR sets M) := fun c hc z hz e => by
  have := ((due_vars c hc).2 z hz).1
  rw [e] at this
  exact absurd this (by decide)
theorem eqv_cls : ∀ cs : List (List Int), PyData.eqv (.tuple (cs.map clD)) (.tuple (cs.map clD)) = true
  | [] => rfl
  | c :: cs => by
    have ih : PyData.eqvAll (cs.map clD) (cs.map clD) = true := eqv_cls cs
    have hc : ∀ c : List Int, PyData.eqvAll (c.map PyData.int) (c.map PyData.int) = true := by
      intro c
      induction c with
      | nil => rfl
      | cons x c ih =>
        show (PyData.eqv (.int x) (.int x) && PyData.eqvAll (c.map PyData.int) (c.map PyData.int)) = true
        rw [ih]
        simp [PyData.eqv]
    show (PyData.eqvAll (c.map PyData.int) (c.map PyData.int) && PyData.eqvAll (cs.map clD) (cs.map clD)) = true
    rw [hc c, ih]
    rfl
theorem shp_cls (cs : List (List Int)) : SeqAt.shaped (.tuple (cs.map clD)) = true := by
  have := shp_gcs true cs
  exact this
end My

set_option Elab.async false
set_option maxRecDepth 100000
set_option maxHeartbeats 4000000
set_option linter.all false
namespace My
open PySem L2 PyProof.Rows
open C8 (pss_cut)
def spLaw (K : PySem.W.Frag) : Sp := fun vs H Q _ => ∃ (a : Addr) (ns : List Int), vs = [.ref a] ∧ SqL K H a (ns.map V.int) ∧ ns.length ≤ 63 ∧ ∀ H', Q (.bl true) H'
section
variable {P : Program} {w : World} {K : PySem.W.Frag} {mg : Str → Option Value} {base : Heap} {f C : Addr} {fd : FuncData}
theorem ok_law (T : Txt K mg) (D : Def K mg "law" ["script"] s_law f fd) (O1 : Own P w K mg base "_law_draw" ["script"] 1 (spDraw K)) (O2 : Own P w K mg base "_law_take" ["draw", "many"] 1 spTake) (O3 : Own P w K mg base "_law_fewest" ["sets"] 2 (spFewest K)) (O4 : Own P w K mg base "cover_clauses" ["sets", "most"] 2 (spCover K)) (O5 : Own P w K mg base "_law_due" ["sets", "most"] 2 (spDue K)) (O6 : Own P w K mg base "_law_can" ["clauses"] 92 (spCan K 91)) : FnOk P w K mg base CX0 93 f fd ["script"] (spLaw K) := by
  obtain ⟨f_law_draw, fd_law_draw, m_law_draw, k_law_draw, b_law_draw, G_law_draw⟩ := O1
  obtain ⟨f_law_take, fd_law_take, m_law_take, k_law_take, b_law_take, G_law_take⟩ := O2
  obtain ⟨f_law_fewest, fd_law_fewest, m_law_fewest, k_law_fewest, b_law_fewest, G_law_fewest⟩ := O3
  obtain ⟨fcover_clauses, fdcover_clauses, mcover_clauses, kcover_clauses, bcover_clauses, Gcover_clauses⟩ := O4
  obtain ⟨f_law_due, fd_law_due, m_law_due, k_law_due, b_law_due, G_law_due⟩ := O5
  obtain ⟨f_law_can, fd_law_can, m_law_can, k_law_can, b_law_can, G_law_can⟩ := O6
  refine D.fn.ok sc_law (fun vs H Q E h => ?_) (fun cdv A outer s H vs Q E hr h => ?_)
  · obtain ⟨a, ns, rfl, _⟩ := h
    rfl
  · obtain ⟨a, ns, rfl, ha, hn, q⟩ := h
    refine ⟨_, (pss_cons (ps_set (i := 1) sc_law.nd rfl (Or.inr rfl) (pe_call G_law_draw (hr.mono (by omega)) rfl m_law_draw k_law_draw b_law_draw .nil pass0 (pa_cons (pv 0) pa_nil)))
      (pss_cut (ps_set (i := 2) sc_law.nd rfl (Or.inl rfl) (pe_lst (pa_cons (pe_tup (pa_cons pe_str (pa_cons pe_str (pa_cons pe_int pa_nil)))) (pa_cons (pe_tup (pa_cons pe_str (pa_cons pe_str (pa_cons pe_int (pa_cons pe_int pa_nil))))) (pa_cons (pe_tup (pa_cons pe_str (pa_cons pe_int pa_nil))) (pa_cons (pe_tup (pa_cons pe_str (pa_cons pe_str (pa_cons pe_int pa_nil)))) (pa_cons (pe_tup (pa_cons pe_str (pa_cons pe_str (pa_cons pe_int (pa_cons (pe_un un_neg pe_int) pa_nil))))) pa_nil)))))))
      (pss_cons (ps_set (i := 3) sc_law.nd rfl (Or.inl rfl) (pe_lst pa_nil))
      (pss_cons (ps_for PassesOwn.never rfl (pi_range1 (by rfl) T.m_range (pa_cons (pe_call G_law_take (hr.mono (by omega)) rfl m_law_take k_law_take b_law_take .nil pass0 (pa_cons (pv 1) (pa_cons pe_int pa_nil))) pa_nil)) (pg_name (i := 4) sc_law.nd rfl (Or.inl rfl)) (pss_cons (ps_expr (pe_bm PySem.F.plainAttrs_list PySem.F.slot_list_append PySem.F.type_list_append mt_append (pv 3) (pa_cons (pe_callTy call_tuple_of (by rfl) T.m_tuple (by decide +kernel) (pa_cons (pe_callB cr_sortedM (by rfl) T.m_sorted (by decide +kernel) (pa_cons (pe_lc (own := [("item", 8)]) (g := gName 8) rfl sc_law.nd (pi_list (pv 2)) (blkOk_by (N := N_law) (sc := defScope s_law) (own := [("item", 8)]) (by decide +kernel)) (fun _ _ _ _ _ => (pg_name (i := 8) sc_law.nd rfl (Or.inl rfl))) (fun _ _ _ _ _ => (pts_one (pt_cmpR op_eq (pe_call G_law_take (hr.mono (by omega)) rfl m_law_take k_law_take b_law_take .nil pass0 (pa_cons (pv 1) (pa_cons pe_int pa_nil))) pe_int (nomark _)))) (fun _ _ _ _ _ => (pv 8))) pa_nil)) pa_nil)) pa_nil)))
      (pss_one (ps_if (PW.pt (pw_and (pt_cmpR op_eq (pe_call G_law_take (hr.mono (by omega)) rfl m_law_take k_law_take b_law_take .nil pass0 (pa_cons (pv 1) (pa_cons pe_int pa_nil))) pe_int (nomark _)) (pw_and1 (pt_cmpR op_lt (pe_callB call_len_seq (by rfl) T.m_len (by decide +kernel) (pa_cons (pv 3) pa_nil)) pe_int (nomark _))))) (pss_one (ps_expr (pe_bm PySem.F.plainAttrs_list PySem.F.slot_list_append PySem.F.type_list_append mt_append (pv 3) (pa_cons (pe_ix ix_list (pv 3) (pe_call G_law_take (hr.mono (by omega)) rfl m_law_take k_law_take b_law_take .nil pass0 (pa_cons (pv 1) (pa_cons (pe_callB call_len_seq (by rfl) T.m_len (by decide +kernel) (pa_cons (pv 3) pa_nil)) pa_nil))) (fun _ _ => rfl)) pa_nil)))) pss_nil))))
      (pss_cons (ps_set (i := 3) sc_law.nd rfl (Or.inl rfl) (pe_callTy call_tuple_of (by rfl) T.m_tuple (by decide +kernel) (pa_cons (pv 3) pa_nil)))
      (pss_cons (ps_set (i := 5) sc_law.nd rfl (Or.inl rfl) (pe_call G_law_fewest (hr.mono (by omega)) rfl m_law_fewest k_law_fewest b_law_fewest .nil pass0 (pa_cons (pv 3) pa_nil)))
      (pss_cons (ps_for PassesOwn.never rfl (pi_list (pe_lst (pa_cons pe_int (pa_cons pe_int (pa_cons pe_int (pa_cons (pv 5) (pa_cons (pe_callB (call_max2 rfl) (by rfl) T.m_max (by decide +kernel) (pa_cons pe_int (pa_cons (pe_op op_sub (pv 5) pe_int) pa_nil))) (pa_cons (pe_call G_law_take (hr.mono (by omega)) rfl m_law_take k_law_take b_law_take .nil pass0 (pa_cons (pv 1) (pa_cons pe_int pa_nil))) pa_nil)))))))) (pg_name (i := 6) sc_law.nd rfl (Or.inl rfl)) (pss_cons (ps_set (i := 7) sc_law.nd rfl (Or.inl rfl) (pe_call Gcover_clauses (hr.mono (by omega)) rfl mcover_clauses kcover_clauses bcover_clauses .nil pass0 (pa_cons (pv 3) (pa_cons (pv 6) pa_nil))))
      (pss_cons (ps_if (pt_cmpR (op_neD hr.units) (pv 7) (pe_callTy call_tuple_of (by rfl) T.m_tuple (by decide +kernel) (pa_cons (pe_call G_law_due (hr.mono (by omega)) rfl m_law_due k_law_due b_law_due .nil pass0 (pa_cons (pv 3) (pa_cons (pv 6) pa_nil))) pa_nil)) (nomark _)) (pss_one (ps_ret pe_bl)) pss_nil)
      (pss_one (ps_if (pt_cmpR op_ne (pe_call G_law_can (hr.mono (by omega)) rfl m_law_can k_law_can b_law_can .nil pass0 (pa_cons (pe_callTy call_list_of (by rfl) T.m_list (by decide +kernel) (pa_cons (pv 7) pa_nil)) pa_nil)) (pe_cmpR op_ge (pv 6) (pv 5) (nomark _)) (nomark _)) (pss_one (ps_ret pe_bl)) pss_nil)))))
      (pss_one (ps_ret pe_bl))))))))), ?_⟩
    refine ⟨_, rfl, a, ns, rfl, ha, hn, fun d L H1 hd hL s1 D1 => ?_⟩
    refine ⟨fun σ' H' => ∃ (b : Addr) (refs : List V), σ' = [some (.ref a), some (.ref d), some (.ref b), none, none, none, none, none, none] ∧ refs.length = 5 ∧ DrawAt H' d L ∧ H' b = some (.lst refs) ∧ DpAll K H' refs (thR.map itD) ∧ b ≠ d ∧ b ≠ L, ?_, ?_⟩
    · refine ⟨by show 3 ≤ sizeLine; decide, fun t0 h0 => ⟨by show 4 ≤ sizeLine; decide, fun t1 h1 => ⟨by show 2 ≤ sizeLine; decide, fun t2 h2 => ⟨by show 3 ≤ sizeLine; decide, fun t3 h3 => ⟨_, rfl, by show 4 ≤ sizeLine; decide, fun t4 h4 => ⟨by show 5 ≤ sizeLine; decide, fun b hb => ?_⟩⟩⟩⟩⟩⟩
      have u0 := same_new h0 (.tup (itV 0))
      have u1 := same_new h1 (.tup (itV 3))
      have u2 := same_new h2 (.tup (itV 2))
      have u3 := same_new h3 (.tup (itV 1))
      have u4 := same_new h4 (.tup (itV 4))
      have ub := same_new hb (.lst [.ref t0, .ref t1, .ref t2, .ref t3, .ref t4])
      have i0 : Dp K _ (.ref t0) (itD 0) := it_dp (K := K) (upd_same (H := H1) (a := t0) (o := .tup (itV 0)))
      have i1 : Dp K _ (.ref t1) (itD 3) := it_dp (K := K) (upd_same (H := upd H1 t0 (.tup (itV 0))) (a := t1) (o := .tup (itV 3)))
      have i2 : Dp K _ (.ref t2) (itD 2) := it_dp (K := K) (upd_same (H := upd (upd H1 t0 (.tup (itV 0))) t1 (.tup (itV 3))) (a := t2) (o := .tup (itV 2)))
      have i3 : Dp K _ (.ref t3) (itD 1) := it_dp (K := K) (upd_same (H := upd (upd (upd H1 t0 (.tup (itV 0))) t1 (.tup (itV 3))) t2 (.tup (itV 2))) (a := t3) (o := .tup (itV 1)))
      have i4 : Dp K _ (.ref t4) (itD 4) := it_dp (K := K) (upd_same (H := upd (upd (upd (upd H1 t0 (.tup (itV 0))) t1 (.tup (itV 3))) t2 (.tup (itV 2))) t3 (.tup (itV 1))) (a := t4) (o := .tup (itV 4)))
      have th : DpAll K (upd (upd (upd (upd (upd (upd H1 t0 (.tup (itV 0))) t1 (.tup (itV 3))) t2 (.tup (itV 2))) t3 (.tup (itV 1))) t4 (.tup (itV 4))) b (.lst [.ref t0, .ref t1, .ref t2, .ref t3, .ref t4])) [.ref t0, .ref t1, .ref t2, .ref t3, .ref t4] (thR.map itD) :=
        .cons (dp_mono ((((u1.trans u2).trans u3).trans u4).trans ub) _ i0) (.cons (dp_mono (((u2.trans u3).trans u4).trans ub) _ i1) (.cons (dp_mono ((u3.trans u4).trans ub) _ i2) (.cons (dp_mono (u4.trans ub) _ i3) (.cons (dp_mono ub _ i4) .nil))))
      have dr : DrawAt _ d L := D1.mono (((((u0.trans u1).trans u2).trans u3).trans u4).trans ub)
      have nbd : b ≠ d := by
        obtain ⟨u, hu⟩ := (D1.mono ((((u0.trans u1).trans u2).trans u3).trans u4)).at
        exact fun e => (by rw [e] at hb; have hb2 := hu.symm.trans hb; cases hb2)
      have nbL : b ≠ L := by
        obtain ⟨u, hu⟩ := (D1.mono ((((u0.trans u1).trans u2).trans u3).trans u4)).cells
        exact fun e => (by rw [e] at hb; have hb2 := hu.symm.trans hb; cases hb2)
      have hbA : (upd (upd (upd (upd (upd (upd H1 t0 (.tup (itV 0))) t1 (.tup (itV 3))) t2 (.tup (itV 2))) t3 (.tup (itV 1))) t4 (.tup (itV 4))) b (.lst [.ref t0, .ref t1, .ref t2, .ref t3, .ref t4])) b = some (.lst [.ref t0, .ref t1, .ref t2, .ref t3, .ref t4]) := upd_same
      exact ⟨b, _, rfl, rfl, dr, hbA, th, nbd, nbL⟩
    · rintro σ' HA ⟨b, refs, rfl, refl5, dr, hbA, th, nbd, nbL⟩
      refine ⟨by show 0 ≤ sizeLine; decide, fun R hR => ?_⟩
      have sR := same_new hR (.lst [])
      have nRd : R ≠ d := (dr.ne hR).symm
      have nRL : R ≠ L := (dr.neL hR).symm
      have nRb : R ≠ b := fun e => by rw [e, hbA] at hR; cases hR
      have L0 : LS K (upd HA R (.lst [])) d L b R refs [] [] := ⟨dr.mono sR, sR _ _ hbA, upd_same, dpa_mono sR _ th, .nil⟩
      refine ⟨_, rfl, d, L, 7, rfl, by decide, by decide, L0.dr, fun v HB v0 v7 drB smB => ?_⟩
      have LB := L0.step nbd nRd drB smB
      refine ⟨v, rfl, by omega, by omega, for_range (fun k σ' H' => ∃ (o4 : Option V) (sets : List (List Nat)) (zs : List V), σ' = [some (.ref a), some (.ref d), some (.ref b), some (.ref R), o4, none, none, none, none] ∧ LS K H' d L b R refs sets zs ∧ (∀ S ∈ sets, Asc S ∧ ∀ r ∈ S, r < 5) ∧ sets.length ≤ 2 * k ∧ sets.length ≤ k + 3) ⟨none, [], [], rfl, LB, fun S h => (by cases h), Nat.le_refl _, Nat.zero_le _⟩ ?_ ?_⟩
      · rintro k σ' HC hk ⟨o4, sets, zs, rfl, LC, okS, l1, l2⟩
        have zl : zs.length = sets.length := by rw [dpa_len LC.sd, List.length_map]
        refine ⟨_, rfl, .inl ⟨rfl, _, SqL.of LC.hR⟩, ?_⟩
        refine ⟨_, rfl, b, rfl, ⟨_, SqL.of LC.hb⟩, fun D1 hD1 => lc_it (walk_list (K := K) (a := b) (xs := refs)) (fun i H' => ∃ (zs' : List V) (S : List Nat), H' D1 = some (.lst zs') ∧ DpAll K H' zs' (S.map itD) ∧ LS K H' d L b R refs sets zs ∧ S.Nodup ∧ (∀ r ∈ S, r ∈ thR.take i)) ⟨[], [], upd_same, .nil, LC.same (same_new hD1 _), List.nodup_nil, fun r h => (by cases h)⟩ (fun i H' _ ⟨_, _, _, _, h, _⟩ => SqL.of h.hb) ?_ ?_⟩
        · rintro i x H3 H4 hi ⟨zs', S, hD, hd', L3, nd, sub⟩ ⟨rfl, hxi⟩
          have nD : D1 ≠ d ∧ D1 ≠ L ∧ D1 ≠ b ∧ D1 ≠ R := ⟨(LC.dr.ne hD1).symm, (LC.dr.neL hD1).symm, fun e => (by rw [e, LC.hb] at hD1; cases hD1), fun e => (by rw [e, LC.hR] at hD1; cases hD1)⟩
          obtain ⟨n1, n2, n3, n4⟩ := nD
          refine ⟨rfl, _, rfl, d, L, 3, rfl, by decide, by decide, L3.dr, fun v5 H5 v50 v53 dr5 sm5 => ?_⟩
          have bt := But.of_hide sm5
          have mt : ∀ a ∈ [d], Mut (H4 a) := fun a ha => by rw [List.mem_singleton.mp ha]; exact L3.dr.mut
          have L5 := L3.step nbd nRd dr5 sm5
          have hD5 := bt _ _ (fun m => n1 (List.mem_singleton.mp m)) hD
          have hd5 := dpa_but mt bt _ (items_noLst S) hd'
          obtain ⟨r, t, hr', rfl, ht⟩ := dpa_atI L5.th hxi
          have hSl : S.length ≤ 5 := nat_few nd fun r hr => by
            have := List.mem_of_mem_take (sub r hr)
            simp only [thR, List.mem_cons, List.not_mem_nil, or_false] at this
            omega
          have hzl : zs'.length = S.length := by rw [dpa_len hd', List.length_map]
          refine ⟨rfl, _, rfl, ite2 (fun c => ?_) (fun c => ?_)⟩
          · have mt2 : ∀ a ∈ [D1], Mut (H5 a) := fun a ha => by rw [List.mem_singleton.mp ha, hD5]; exact True.intro
            have bt2 : But [D1] H5 (upd H5 D1 (.lst (zs' ++ [.ref t]))) := But.put (List.mem_singleton_self _) _
            have nin : ∀ {y : Addr}, D1 ≠ y → y ∉ [D1] := fun {y} h m => h (List.mem_singleton.mp m).symm
            refine ⟨_, rfl, zs', hD5, Nat.lt_of_le_of_lt (show zs'.length ≤ 5 by omega) (by decide), zs' ++ [.ref t], S ++ [r], upd_same, ?_, L5.but mt2 (nin n3) (nin n4) (nin n1) (nin n2) bt2, ?_, fun q hq => ?_⟩
            · rw [List.map_append]
              exact dpa_app (dpa_but mt2 bt2 _ (items_noLst S) hd5) (dpa_one (dp_but mt2 bt2 _ (it_noLst r) ht))
            · refine List.nodup_append.mpr ⟨nd, by simp, fun x hx y hy e => ?_⟩
              rw [List.mem_singleton.mp hy] at e
              have hx := sub x hx
              rw [e] at hx
              have : thR.Nodup := by decide
              obtain ⟨p, hp⟩ := List.getElem?_of_mem hx
              rw [List.getElem?_take] at hp
              split at hp
              · rename_i hpi
                obtain ⟨g1, g2⟩ := List.getElem?_eq_some_iff.mp hp
                obtain ⟨g3, g4⟩ := List.getElem?_eq_some_iff.mp hr'
                have := (List.getElem_inj this).mp (g2.trans g4.symm)
                omega
              · cases hp
            · rw [take_next hr']
              rcases List.mem_append.mp hq with m | m
              · exact List.mem_append_left _ (sub q m)
              · exact List.mem_append_right _ m
          · refine ⟨zs', S, hD5, hd5, L5, nd, fun q hq => ?_⟩
            rw [take_next hr']
            exact List.mem_append_left _ (sub q hq)
        · rintro H3 ⟨zs', S, hD, hd', L3, nd, sub⟩
          obtain ⟨rs, rfl, rfl, hrs⟩ := dpa_zip hd'
          have h5 : ∀ x ∈ rs, x.1 < 5 := fun x hx => by
            have := List.mem_of_mem_take (sub x.1 (List.mem_map.mpr ⟨x, hx, rfl⟩))
            simp only [thR, List.mem_cons, List.not_mem_nil, or_false] at this
            omega
          refine ⟨D1, rs.map (fun x => (x.2, itV x.1)), rfl, ?_, ⟨fun p hp => ?_, fun p hp => ?_, fun p hp p' hp' => ?_⟩, fun qs p pm asc hp => ?_⟩
          · rw [List.map_map]
            exact SqL.of hD
          · obtain ⟨x, hx, rfl⟩ := List.mem_map.mp hp
            exact it_at (hrs x hx)
          · obtain ⟨x, hx, rfl⟩ := List.mem_map.mp hp
            exact it_fst _
          · obtain ⟨x, hx, rfl⟩ := List.mem_map.mp hp
            obtain ⟨x', hx', rfl⟩ := List.mem_map.mp hp'
            exact it_comp _ (h5 x hx) _ (h5 x' hx')
          obtain ⟨rs', rfl, pm', asc'⟩ := asc_ranks (rk := fun x : Nat × V => x.1) (ad := fun x => x.2) h5 nd pm asc
          have sp := same_new hp (.lst ((rs'.map fun x => (x.2, itV x.1)).map (·.1)))
          refine ⟨p, _, rfl, .inl ⟨SqL.of upd_same, fun t ht => ?_⟩⟩
          have st := same_new ht (.tup ((rs'.map fun x => (x.2, itV x.1)).map (·.1)))
          have L4 := L3.same (sp.trans st)
          obtain ⟨H4, eH4⟩ : ∃ H4, H4 = upd (upd H3 p (.lst ((rs'.map fun x => (x.2, itV x.1)).map (·.1)))) t (.tup ((rs'.map fun x => (x.2, itV x.1)).map (·.1))) := ⟨_, rfl⟩
          have ht4 : H4 t = some (.tup (rs'.map (·.2))) := by rw [eH4, upd_same, List.map_map]; rfl
          have hS4 : Dp K H4 (.ref t) (setD (rs'.map (·.1))) := .tup (SqT.of ht4) (zip_dpa fun x hx => by rw [eH4]; exact dp_mono (sp.trans st) _ (hrs x (pm'.mem_iff.mp hx)))
          have okS' : ∀ r ∈ rs'.map (·.1), r < 5 := fun r hr => by
            obtain ⟨x, hx, rfl⟩ := List.mem_map.mp hr
            exact h5 x (pm'.mem_iff.mp hx)
          rw [← eH4] at L4 ⊢
          have nRb' : b ≠ R := nRb.symm
          have L5 := L4.push nRb' nRd.symm nRL.symm hS4
          refine ⟨R, _, _, rfl, rfl, L4.hR, by rw [zl]; exact Nat.lt_of_le_of_lt (show sets.length ≤ 20 by omega) (by decide), ?_⟩
          obtain ⟨H5, eH5⟩ : ∃ H5, H5 = upd H4 R (.lst (zs ++ [.ref t])) := ⟨_, rfl⟩
          rw [← eH5] at L5 ⊢
          have okA : ∀ S ∈ sets ++ [rs'.map (·.1)], Asc S ∧ ∀ r ∈ S, r < 5 := fun S hS => by
            rcases List.mem_append.mp hS with m | m
            · exact okS S m
            · rw [List.mem_singleton.mp m]; exact ⟨asc', okS'⟩
          refine ⟨_, rfl, d, L, 5, rfl, by decide, by decide, L5.dr, fun v6 H6 v60 v65 dr6 sm6 => ?_⟩
          have L6 := L5.step nbd nRd dr6 sm6
          have l6 : (zs ++ [V.ref t]).length = sets.length + 1 := by rw [List.length_append, zl]; rfl
          refine ⟨rfl, _, rfl, ite2 (fun c => ?_) (fun c => ?_)⟩
          · refine ⟨_, rfl, R, _, rfl, .inl (SqL.of L6.hR), _, _, rfl, rfl, _, rfl, ite2 (fun c2 => ?_) (fun c2 => ?_)⟩
            · have c2 : (((zs ++ [V.ref t]).length : Nat) : Int) < 7 := of_decide_eq_true c2
              rw [l6] at c2
              refine ⟨_, rfl, .inl ⟨rfl, _, SqL.of L6.hR⟩, _, rfl, _, rfl, _, rfl, R, _, rfl, .inl (SqL.of L6.hR), d, L, _, rfl, by rw [l6]; omega, by rw [l6]; omega, L6.dr, fun v7 H7 v70 v77 dr7 sm7 => ?_⟩
              rw [l6] at v77
              have L7 := L6.step nbd nRd dr7 sm7
              obtain ⟨i7, rfl⟩ : ∃ i7 : Nat, v7 = (i7 : Int) := ⟨v7.toNat, by omega⟩
              obtain ⟨y, hy⟩ : ∃ y, (zs ++ [V.ref t])[i7]? = some y := ⟨(zs ++ [V.ref t])[i7]'(by rw [l6]; omega), List.getElem?_eq_getElem (by rw [l6]; omega)⟩
              obtain ⟨S2, t2, us2, hS2, rfl, ht2, hus2⟩ := dpa_atS L7.sd hy
              have L8 := L7.push nRb' nRd.symm nRL.symm (S := S2) (.tup ht2 hus2)
              refine ⟨R, _, i7, _, rfl, rfl, SqL.of L7.hR, atI_nat hy, R, _, _, rfl, rfl, L7.hR, by rw [l6]; exact Nat.lt_of_le_of_lt (show sets.length + 1 ≤ 20 by omega) (by decide), _, _, _, rfl, L8, fun S hS => ?_, ?_, ?_⟩
              · rcases List.mem_append.mp hS with m | m
                · exact okA S m
                · rw [List.mem_singleton.mp m]; exact okA S2 (List.mem_of_getElem? hS2)
              · rw [List.length_append, List.length_append]
                show sets.length + 1 + 1 ≤ 2 * (k + 1)
                omega
              · rw [List.length_append, List.length_append]
                show sets.length + 1 + 1 ≤ k + 1 + 3
                omega
            · have c2 : ¬ ((((zs ++ [V.ref t]).length : Nat) : Int) < 7) := fun z => c2 (decide_eq_true z)
              refine ⟨_, _, _, rfl, L6, okA, ?_, ?_⟩
              · rw [List.length_append]
                show sets.length + 1 ≤ 2 * (k + 1)
                omega
              · rw [List.length_append]
                show sets.length + 1 ≤ k + 1 + 3
                omega
          · refine ite2 (fun c2 => absurd c2 Bool.false_ne_true) (fun _ => ?_)
            refine ⟨_, _, _, rfl, L6, okA, ?_, ?_⟩
            · rw [List.length_append]
              show sets.length + 1 ≤ 2 * (k + 1)
              omega
            · rw [List.length_append]
              show sets.length + 1 ≤ k + 1 + 3
              omega
      · rintro σ' HC ⟨o4, sets, zs, rfl, LC, okS, l1, l2⟩
        have few9 : sets.length ≤ 9 := by omega
        have ok : SetsOk sets := ⟨few9, okS⟩
        have zl : zs.length = sets.length := by rw [dpa_len LC.sd, List.length_map]
        refine ⟨_, rfl, R, zs, rfl, .inl ⟨SqL.of LC.hR, fun ts hts => ?_⟩⟩
        have LD := LC.same (same_new hts (.tup zs))
        have dS : Dp K (upd HC ts (.tup zs)) (.ref ts) (setsD sets) := .tup (SqT.of upd_same) LD.sd
        refine ⟨_, rfl, ts, sets, rfl, dS, ok, fun H2 s2 => ?_⟩
        have L2 := LD.same s2
        have dS2 := dp_mono s2 _ dS
        have f9 : few sets ≤ 9 := Nat.le_trans (few_len sets) few9
        refine ⟨_, rfl, _, rfl, _, _, rfl, rfl, _, _, rfl, _, rfl, d, L, 9, rfl, by decide, by decide, L2.dr, fun v8 H8 v80 v89 dr8 sm8 => ⟨by show 6 ≤ sizeLine; decide, fun mb hmb => ?_⟩⟩
        have dS8 : Dp K H8 (.ref ts) (setsD sets) := dp_but (fun a ha => by rw [List.mem_singleton.mp ha]; exact L2.dr.mut) (But.of_hide sm8) _ (show noLsts (sets.map setD) = true from noLsts_map setD_noLst _) dS2
        obtain ⟨ms, ems⟩ : ∃ ms : List Int, ms = [0, 1, 2, ((few sets : Nat) : Int), if ((few sets : Nat) : Int) - 1 > 0 then ((few sets : Nat) : Int) - 1 else 0, v8] := ⟨_, rfl⟩
        have hms : ∀ z ∈ ms, ∃ M : Nat, z = (M : Int) ∧ M ≤ 9 := by
          intro z hz
          rw [ems] at hz
          have : 0 ≤ z ∧ z ≤ 9 := by
            simp only [List.mem_cons, List.not_mem_nil, or_false] at hz
            rcases hz with rfl | rfl | rfl | rfl | rfl | rfl
            · omega
            · omega
            · omega
            · omega
            · split <;> omega
            · omega
          exact ⟨z.toNat, by omega, by omega⟩
        have emv : ms.map V.int = [V.int 0, V.int 1, V.int 2, V.int ((few sets : Nat) : Int), V.int (if ((few sets : Nat) : Int) - 1 > 0 then ((few sets : Nat) : Int) - 1 else 0), V.int v8] := by rw [ems]; rfl
        have hmq : (upd H8 mb (.lst [V.int 0, V.int 1, V.int 2, V.int ((few sets : Nat) : Int), V.int (if ((few sets : Nat) : Int) - 1 > 0 then ((few sets : Nat) : Int) - 1 else 0), V.int v8])) mb = some (.lst (ms.map V.int)) := by rw [emv, upd_same]
        have sm := same_new hmb (.lst [V.int 0, V.int 1, V.int 2, V.int ((few sets : Nat) : Int), V.int (if ((few sets : Nat) : Int) - 1 > 0 then ((few sets : Nat) : Int) - 1 else 0), V.int v8])
        have dSM := dp_mono sm _ dS8
        refine ⟨mb, rfl, ⟨_, SqL.of hmq⟩, for_list (K := K) (a := mb) (xs := ms.map V.int) (fun i σ' H' => ∃ (o6 o7 : Option V), σ' = [some (.ref a), some (.ref d), some (.ref b), some (.ref ts), o4, some (.int ((few sets : Nat) : Int)), o6, o7, none] ∧ Same (upd H8 mb (.lst [V.int 0, V.int 1, V.int 2, V.int ((few sets : Nat) : Int), V.int (if ((few sets : Nat) : Int) - 1 > 0 then ((few sets : Nat) : Int) - 1 else 0), V.int v8])) H') ⟨none, none, rfl, Same.refl _⟩ (fun i σ' H' _ ⟨_, _, _, h⟩ => SqL.of (h _ _ hmq)) ?_ ?_⟩
        · rintro i y σ' H3 hi ⟨o6, o7, rfl, s3⟩
          obtain ⟨z, rfl, hz⟩ := map_at hi
          obtain ⟨M, rfl, hM⟩ := hms z (List.mem_of_getElem? hz)
          have dS3 := dp_mono s3 _ dSM
          refine ⟨_, rfl, _, rfl, ts, sets, M, rfl, dS3, ok, by omega, fun H4 r zs4 s4 hr4 hz4 => ?_⟩
          have dS4 := dp_mono s4 _ dS3
          refine ⟨_, rfl, _, rfl, _, rfl, ts, sets, M, rfl, dS4, ok, by omega, fun H5 r5 zs5 s5 hn5 hr5 hz5 => ⟨r5, zs5, rfl, .inl ⟨SqL.of hr5, fun t6 ht6 => ?_⟩⟩⟩
          have s6 := same_new ht6 (.tup zs5)
          have hr6 := sqt_mono (s5.trans s6) hr4
          have hz6 := dpa_mono (s5.trans s6) _ hz4
          refine ⟨.tuple ((dueR sets M).map clD), .tuple ((dueR sets M).map clD), .tup hr6 hz6, .tup (SqT.of upd_same) (dpa_mono s6 _ (dpa_mono hide_le _ hz5)), shp_cls _, shp_cls _, _, rfl, ite2 (fun c => ?_) (fun _ => ?_)⟩
          · rw [eqv_cls] at c
            cases c
          refine ⟨_, rfl, r, zs4, rfl, .inr hr6, fun lb hlb => ?_⟩
          have s7 := same_new hlb (.lst zs4)
          have C7 : CsAt K (upd (upd H5 t6 (.tup zs5)) lb (.lst zs4)) lb zs4 true (dueR sets M) := ⟨SqL.of upd_same, dpa_mono s7 _ hz6, due_nz, fun c hc => by have := (due_vars c hc).1; omega, by have := due_len (sets := sets) few9 hM; omega⟩
          refine ⟨90, lb, zs4, true, dueR sets M, rfl, rfl, C7, due_vin few9 hM, fun bb H7 hbb s8 => ?_⟩
          have ebb : bb = decide (((few sets : Nat) : Int) ≤ (M : Int)) := by
            rw [few_sat] at hbb
            by_cases h : few sets ≤ M
            · rw [hbb.2 h]
              exact (decide_eq_true (by omega)).symm
            · rw [decide_eq_false (by omega)]
              cases bb with
              | false => rfl
              | true => exact absurd (hbb.1 rfl) h
          refine ⟨_, rfl, _, rfl, _, _, rfl, rfl, rfl, _, rfl, ite2 (fun c => ?_) (fun _ => ?_)⟩
          · exfalso
            rw [ebb] at c
            have c : (!decide (V.bl (decide (((few sets : Nat) : Int) ≤ (M : Int))) = V.bl (decide (((few sets : Nat) : Int) ≤ (M : Int))))) = true := c
            rw [decide_eq_true rfl] at c
            cases c
          · exact ⟨_, _, rfl, ((((s3.trans s4).trans s5).trans s6).trans s7).trans s8⟩
        · rintro σ' H3 ⟨o6, o7, rfl, s3⟩
          exact q H3
end
end My

set_option Elab.async false
set_option maxRecDepth 100000
set_option maxHeartbeats 8000000
set_option linter.all false
namespace My
open PySem L2
theorem all_mk {l : PySem.W.OpenLaw} {w : World} {K : PySem.W.Frag} {h : Heap} {mg : Str → Option Value} {fa : Addr} (X : K.In h) (G : h.Ns mainGlobals mg) (hfa : mg "law" = some (.ref fa))
    {f0 : Addr} {od0 an0 : Option Addr} {sl0 : Array (Option Value)} {oc0 kV0 dc0 pm0 cd0 ct0 : Value}
    (a0 : PySem.W.nsIn K mainGlobals "cover_clauses" = some (some (.ref f0))) (l0 : K.lookup f0 = some ⟨oc0, od0, .func (PySem.W.fnOf "cover_clauses" "cover_clauses" (defArgs s_cover_clauses) (defBody s_cover_clauses) (defScope s_cover_clauses) .none kV0 dc0 pm0 an0 cd0 ct0), sl0⟩) (c0 : PySem.W.codeIn K cd0 "cover_clauses" = true) (k0 : PySem.W.keepIn K (.ref f0) = true)
    {f1 : Addr} {od1 an1 : Option Addr} {sl1 : Array (Option Value)} {oc1 kV1 dc1 pm1 cd1 ct1 : Value}
    (a1 : PySem.W.nsIn K mainGlobals "item_rows" = some (some (.ref f1))) (l1 : K.lookup f1 = some ⟨oc1, od1, .func (PySem.W.fnOf "item_rows" "item_rows" (defArgs s_item_rows) (defBody s_item_rows) (defScope s_item_rows) .none kV1 dc1 pm1 an1 cd1 ct1), sl1⟩) (c1 : PySem.W.codeIn K cd1 "item_rows" = true) (k1 : PySem.W.keepIn K (.ref f1) = true)
    {f2 : Addr} {od2 an2 : Option Addr} {sl2 : Array (Option Value)} {oc2 kV2 dc2 pm2 cd2 ct2 : Value}
    (a2 : PySem.W.nsIn K mainGlobals "count_rows" = some (some (.ref f2))) (l2 : K.lookup f2 = some ⟨oc2, od2, .func (PySem.W.fnOf "count_rows" "count_rows" (defArgs s_count_rows) (defBody s_count_rows) (defScope s_count_rows) .none kV2 dc2 pm2 an2 cd2 ct2), sl2⟩) (c2 : PySem.W.codeIn K cd2 "count_rows" = true) (k2 : PySem.W.keepIn K (.ref f2) = true)
    {f3 : Addr} {od3 an3 : Option Addr} {sl3 : Array (Option Value)} {oc3 kV3 dc3 pm3 cd3 ct3 : Value}
    (a3 : PySem.W.nsIn K mainGlobals "_law_draw" = some (some (.ref f3))) (l3 : K.lookup f3 = some ⟨oc3, od3, .func (PySem.W.fnOf "_law_draw" "_law_draw" (defArgs s__law_draw) (defBody s__law_draw) (defScope s__law_draw) .none kV3 dc3 pm3 an3 cd3 ct3), sl3⟩) (c3 : PySem.W.codeIn K cd3 "_law_draw" = true) (k3 : PySem.W.keepIn K (.ref f3) = true)
    {f4 : Addr} {od4 an4 : Option Addr} {sl4 : Array (Option Value)} {oc4 kV4 dc4 pm4 cd4 ct4 : Value}
    (a4 : PySem.W.nsIn K mainGlobals "_law_take" = some (some (.ref f4))) (l4 : K.lookup f4 = some ⟨oc4, od4, .func (PySem.W.fnOf "_law_take" "_law_take" (defArgs s__law_take) (defBody s__law_take) (defScope s__law_take) .none kV4 dc4 pm4 an4 cd4 ct4), sl4⟩) (c4 : PySem.W.codeIn K cd4 "_law_take" = true) (k4 : PySem.W.keepIn K (.ref f4) = true)
    {f5 : Addr} {od5 an5 : Option Addr} {sl5 : Array (Option Value)} {oc5 kV5 dc5 pm5 cd5 ct5 : Value}
    (a5 : PySem.W.nsIn K mainGlobals "_law_less" = some (some (.ref f5))) (l5 : K.lookup f5 = some ⟨oc5, od5, .func (PySem.W.fnOf "_law_less" "_law_less" (defArgs s__law_less) (defBody s__law_less) (defScope s__law_less) .none kV5 dc5 pm5 an5 cd5 ct5), sl5⟩) (c5 : PySem.W.codeIn K cd5 "_law_less" = true) (k5 : PySem.W.keepIn K (.ref f5) = true)
    {f6 : Addr} {od6 an6 : Option Addr} {sl6 : Array (Option Value)} {oc6 kV6 dc6 pm6 cd6 ct6 : Value}
    (a6 : PySem.W.nsIn K mainGlobals "_law_can" = some (some (.ref f6))) (l6 : K.lookup f6 = some ⟨oc6, od6, .func (PySem.W.fnOf "_law_can" "_law_can" (defArgs s__law_can) (defBody s__law_can) (defScope s__law_can) .none kV6 dc6 pm6 an6 cd6 ct6), sl6⟩) (c6 : PySem.W.codeIn K cd6 "_law_can" = true) (k6 : PySem.W.keepIn K (.ref f6) = true)
    {f7 : Addr} {od7 an7 : Option Addr} {sl7 : Array (Option Value)} {oc7 kV7 dc7 pm7 cd7 ct7 : Value}
    (a7 : PySem.W.nsIn K mainGlobals "_law_every" = some (some (.ref f7))) (l7 : K.lookup f7 = some ⟨oc7, od7, .func (PySem.W.fnOf "_law_every" "_law_every" (defArgs s__law_every) (defBody s__law_every) (defScope s__law_every) .none kV7 dc7 pm7 an7 cd7 ct7), sl7⟩) (c7 : PySem.W.codeIn K cd7 "_law_every" = true) (k7 : PySem.W.keepIn K (.ref f7) = true)
    {f8 : Addr} {od8 an8 : Option Addr} {sl8 : Array (Option Value)} {oc8 kV8 dc8 pm8 cd8 ct8 : Value}
    (a8 : PySem.W.nsIn K mainGlobals "_law_due" = some (some (.ref f8))) (l8 : K.lookup f8 = some ⟨oc8, od8, .func (PySem.W.fnOf "_law_due" "_law_due" (defArgs s__law_due) (defBody s__law_due) (defScope s__law_due) .none kV8 dc8 pm8 an8 cd8 ct8), sl8⟩) (c8 : PySem.W.codeIn K cd8 "_law_due" = true) (k8 : PySem.W.keepIn K (.ref f8) = true)
    {f9 : Addr} {od9 an9 : Option Addr} {sl9 : Array (Option Value)} {oc9 kV9 dc9 pm9 cd9 ct9 : Value}
    (a9 : PySem.W.nsIn K mainGlobals "_law_fewest" = some (some (.ref f9))) (l9 : K.lookup f9 = some ⟨oc9, od9, .func (PySem.W.fnOf "_law_fewest" "_law_fewest" (defArgs s__law_fewest) (defBody s__law_fewest) (defScope s__law_fewest) .none kV9 dc9 pm9 an9 cd9 ct9), sl9⟩) (c9 : PySem.W.codeIn K cd9 "_law_fewest" = true) (k9 : PySem.W.keepIn K (.ref f9) = true)
    {f10 : Addr} {od10 an10 : Option Addr} {sl10 : Array (Option Value)} {oc10 kV10 dc10 pm10 cd10 ct10 : Value}
    (a10 : PySem.W.nsIn K mainGlobals "law" = some (some (.ref f10))) (l10 : K.lookup f10 = some ⟨oc10, od10, .func (PySem.W.fnOf "law" "law" (defArgs s_law) (defBody s_law) (defScope s_law) .none kV10 dc10 pm10 an10 cd10 ct10), sl10⟩) (c10 : PySem.W.codeIn K cd10 "law" = true) (k10 : PySem.W.keepIn K (.ref f10) = true)
    (z_abs : PySem.W.nsIn K mainGlobals "abs" = some none)
    (z_enumerate : PySem.W.nsIn K mainGlobals "enumerate" = some none)
    (z_int : PySem.W.nsIn K mainGlobals "int" = some none)
    (z_len : PySem.W.nsIn K mainGlobals "len" = some none)
    (z_list : PySem.W.nsIn K mainGlobals "list" = some none)
    (z_max : PySem.W.nsIn K mainGlobals "max" = some none)
    (z_range : PySem.W.nsIn K mainGlobals "range" = some none)
    (z_sorted : PySem.W.nsIn K mainGlobals "sorted" = some none)
    (z_tuple : PySem.W.nsIn K mainGlobals "tuple" = some none)
    : ∃ fd : FuncData, (∀ (s : Shared) (v : Value), BindsTo s fd ⟨[v], []⟩ [("script", v)]) ∧ ∀ base : Heap, K.In base → base.Ns mainGlobals mg → FnOk l.prog w K mg base CX0 93 fa fd ["script"] (spLaw K) := by
  have e := hfa.symm.trans (PySem.W.mg_of X G a10)
  have T : Txt K mg := ⟨PySem.W.mg_none_of X G z_abs, PySem.W.mg_none_of X G z_enumerate, PySem.W.mg_none_of X G z_int, PySem.W.mg_none_of X G z_len, PySem.W.mg_none_of X G z_list, PySem.W.mg_none_of X G z_max, PySem.W.mg_none_of X G z_range, PySem.W.mg_none_of X G z_sorted, PySem.W.mg_none_of X G z_tuple⟩
  let fd_cover_clauses : FuncData := PySem.W.fnOf "cover_clauses" "cover_clauses" (defArgs s_cover_clauses) (defBody s_cover_clauses) (defScope s_cover_clauses) .none kV0 dc0 pm0 an0 cd0 ct0
  have D_cover_clauses : Def K mg "cover_clauses" ["sets", "most"] s_cover_clauses f0 fd_cover_clauses := ⟨fun_mk (st := s_cover_clauses) l0 c0 k0, PySem.W.mg_of X G a0, (fun_mk (st := s_cover_clauses) l0 c0 k0).binds (ps := ["sets", "most"]) fun _ _ _ _ _ _ us hl => match us, hl with | [_, _], _ => rfl⟩
  let fd_item_rows : FuncData := PySem.W.fnOf "item_rows" "item_rows" (defArgs s_item_rows) (defBody s_item_rows) (defScope s_item_rows) .none kV1 dc1 pm1 an1 cd1 ct1
  have D_item_rows : Def K mg "item_rows" ["sets"] s_item_rows f1 fd_item_rows := ⟨fun_mk (st := s_item_rows) l1 c1 k1, PySem.W.mg_of X G a1, (fun_mk (st := s_item_rows) l1 c1 k1).binds (ps := ["sets"]) fun _ _ _ _ _ _ us hl => match us, hl with | [_], _ => rfl⟩
  let fd_count_rows : FuncData := PySem.W.fnOf "count_rows" "count_rows" (defArgs s_count_rows) (defBody s_count_rows) (defScope s_count_rows) .none kV2 dc2 pm2 an2 cd2 ct2
  have D_count_rows : Def K mg "count_rows" ["i", "count", "most"] s_count_rows f2 fd_count_rows := ⟨fun_mk (st := s_count_rows) l2 c2 k2, PySem.W.mg_of X G a2, (fun_mk (st := s_count_rows) l2 c2 k2).binds (ps := ["i", "count", "most"]) fun _ _ _ _ _ _ us hl => match us, hl with | [_, _, _], _ => rfl⟩
  let fd__law_draw : FuncData := PySem.W.fnOf "_law_draw" "_law_draw" (defArgs s__law_draw) (defBody s__law_draw) (defScope s__law_draw) .none kV3 dc3 pm3 an3 cd3 ct3
  have D__law_draw : Def K mg "_law_draw" ["script"] s__law_draw f3 fd__law_draw := ⟨fun_mk (st := s__law_draw) l3 c3 k3, PySem.W.mg_of X G a3, (fun_mk (st := s__law_draw) l3 c3 k3).binds (ps := ["script"]) fun _ _ _ _ _ _ us hl => match us, hl with | [_], _ => rfl⟩
  let fd__law_take : FuncData := PySem.W.fnOf "_law_take" "_law_take" (defArgs s__law_take) (defBody s__law_take) (defScope s__law_take) .none kV4 dc4 pm4 an4 cd4 ct4
  have D__law_take : Def K mg "_law_take" ["draw", "many"] s__law_take f4 fd__law_take := ⟨fun_mk (st := s__law_take) l4 c4 k4, PySem.W.mg_of X G a4, (fun_mk (st := s__law_take) l4 c4 k4).binds (ps := ["draw", "many"]) fun _ _ _ _ _ _ us hl => match us, hl with | [_, _], _ => rfl⟩
  let fd__law_less : FuncData := PySem.W.fnOf "_law_less" "_law_less" (defArgs s__law_less) (defBody s__law_less) (defScope s__law_less) .none kV5 dc5 pm5 an5 cd5 ct5
  have D__law_less : Def K mg "_law_less" ["clauses", "literal"] s__law_less f5 fd__law_less := ⟨fun_mk (st := s__law_less) l5 c5 k5, PySem.W.mg_of X G a5, (fun_mk (st := s__law_less) l5 c5 k5).binds (ps := ["clauses", "literal"]) fun _ _ _ _ _ _ us hl => match us, hl with | [_, _], _ => rfl⟩
  let fd__law_can : FuncData := PySem.W.fnOf "_law_can" "_law_can" (defArgs s__law_can) (defBody s__law_can) (defScope s__law_can) .none kV6 dc6 pm6 an6 cd6 ct6
  have D__law_can : Def K mg "_law_can" ["clauses"] s__law_can f6 fd__law_can := ⟨fun_mk (st := s__law_can) l6 c6 k6, PySem.W.mg_of X G a6, (fun_mk (st := s__law_can) l6 c6 k6).binds (ps := ["clauses"]) fun _ _ _ _ _ _ us hl => match us, hl with | [_], _ => rfl⟩
  let fd__law_every : FuncData := PySem.W.fnOf "_law_every" "_law_every" (defArgs s__law_every) (defBody s__law_every) (defScope s__law_every) .none kV7 dc7 pm7 an7 cd7 ct7
  have D__law_every : Def K mg "_law_every" ["rows"] s__law_every f7 fd__law_every := ⟨fun_mk (st := s__law_every) l7 c7 k7, PySem.W.mg_of X G a7, (fun_mk (st := s__law_every) l7 c7 k7).binds (ps := ["rows"]) fun _ _ _ _ _ _ us hl => match us, hl with | [_], _ => rfl⟩
  let fd__law_due : FuncData := PySem.W.fnOf "_law_due" "_law_due" (defArgs s__law_due) (defBody s__law_due) (defScope s__law_due) .none kV8 dc8 pm8 an8 cd8 ct8
  have D__law_due : Def K mg "_law_due" ["sets", "most"] s__law_due f8 fd__law_due := ⟨fun_mk (st := s__law_due) l8 c8 k8, PySem.W.mg_of X G a8, (fun_mk (st := s__law_due) l8 c8 k8).binds (ps := ["sets", "most"]) fun _ _ _ _ _ _ us hl => match us, hl with | [_, _], _ => rfl⟩
  let fd__law_fewest : FuncData := PySem.W.fnOf "_law_fewest" "_law_fewest" (defArgs s__law_fewest) (defBody s__law_fewest) (defScope s__law_fewest) .none kV9 dc9 pm9 an9 cd9 ct9
  have D__law_fewest : Def K mg "_law_fewest" ["sets"] s__law_fewest f9 fd__law_fewest := ⟨fun_mk (st := s__law_fewest) l9 c9 k9, PySem.W.mg_of X G a9, (fun_mk (st := s__law_fewest) l9 c9 k9).binds (ps := ["sets"]) fun _ _ _ _ _ _ us hl => match us, hl with | [_], _ => rfl⟩
  let fd_law : FuncData := PySem.W.fnOf "law" "law" (defArgs s_law) (defBody s_law) (defScope s_law) .none kV10 dc10 pm10 an10 cd10 ct10
  have D_law : Def K mg "law" ["script"] s_law f10 fd_law := ⟨fun_mk (st := s_law) l10 c10 k10, PySem.W.mg_of X G a10, (fun_mk (st := s_law) l10 c10 k10).binds (ps := ["script"]) fun _ _ _ _ _ _ us hl => match us, hl with | [_], _ => rfl⟩
  cases e
  exact ⟨fd_law, fun s v => .of_eq rfl, fun base _ _ => by
    have o_count := ok_count_rows (P := l.prog) (w := w) (base := base) T D_count_rows
    have o_items := ok_item_rows (P := l.prog) (w := w) (base := base) T D_item_rows
    have o_cover := ok_cover_clauses (P := l.prog) (w := w) (base := base) T D_cover_clauses o_items o_count
    have l_draw := ok__law_draw (P := l.prog) (w := w) (base := base) T D__law_draw
    have l_take := ok__law_take (P := l.prog) (w := w) (base := base) T D__law_take
    have l_less := ok__law_less (P := l.prog) (w := w) (base := base) T D__law_less
    have l_can := ok__law_can (P := l.prog) (w := w) (base := base) T D__law_can l_less 91
    have l_every := ok__law_every (P := l.prog) (w := w) (base := base) T D__law_every
    have l_due := ok__law_due (P := l.prog) (w := w) (base := base) T D__law_due l_every
    have l_few := ok__law_fewest (P := l.prog) (w := w) (base := base) T D__law_fewest l_every
    exact ok_law T D_law l_draw l_take l_few o_cover l_due l_can⟩
theorem walk {l : PySem.W.OpenLaw} {q : Program} {loose : List Str} {XP : (Str → Option Value) → Heap → Prop} {YP : World → Heap → Prop} {d : DefRec} {K : Params → PySem.W.Frag} (hn : l.most = some 63) (hdf : d.params.defaults = [])
    (hY : ∀ (w : World) (h : Heap), YP w h → (K w.params).In h)
    (F : ∀ (w : World) (mg : Str → Option Value) (fa : Addr) (h : Heap), (K w.params).In h → h.Ns mainGlobals mg → mg d.name = some (.ref fa) →
      ∃ fd : FuncData, (∀ (s : Shared) (u : Value), BindsTo s fd ⟨[u], []⟩ [("script", u)]) ∧ ∀ base : Heap, (K w.params).In base → base.Ns mainGlobals mg → FnOk l.prog w (K w.params) mg base CX0 93 fa fd ["script"] (spLaw (K w.params))) :
    PySem.W.WalkO q loose XP YP l.row.toRowW d [] (fun f vs => PySem.call f vs) :=
  L2.walk_of (n := 63) (k := 93) (x := "script") (CX := fun _ => CX0) (sp := fun w => spLaw (K w.params)) hn (by decide) hdf ⟨rfl, by decide, by decide⟩ hY F (fun _ _ a ns hl _ hS => ⟨a, ns, rfl, hS, hl, fun _ => rfl⟩) fun _ _ _ _ _ z => z
end My

open PySem PySem.W PyProof.Rows in
set_option maxRecDepth 100000 in
set_option maxHeartbeats 0 in
theorem PySem.Challenge.cw_inputways_k60_how_few_sets_holds : PySem.Challenge.rw_inputways_k60_how_few_sets.Holds := by
  w_on; o_law; k_head; (case hw => w_witness2)
  k_fill
  refine My.walk (l := PySem.Challenge.rw_inputways_k60_how_few_sets) rfl rfl (fun w h Y => PySem.W.kIn_of Y) ?F
  case F =>
    intro w mg fa h KX G hmg
    refine' My.all_mk KX G hmg ?a0 ?l0 ?c0 ?k0 ?a1 ?l1 ?c1 ?k1 ?a2 ?l2 ?c2 ?k2 ?a3 ?l3 ?c3 ?k3 ?a4 ?l4 ?c4 ?k4 ?a5 ?l5 ?c5 ?k5 ?a6 ?l6 ?c6 ?k6 ?a7 ?l7 ?c7 ?k7 ?a8 ?l8 ?c8 ?k8 ?a9 ?l9 ?c9 ?k9 ?a10 ?l10 ?c10 ?k10 ?z_abs ?z_enumerate ?z_int ?z_len ?z_list ?z_max ?z_range ?z_sorted ?z_tuple
    (case a0 => k_is)
    (case l0 => k_is)
    (case c0 => k_is)
    (case k0 => k_is)
    (case a1 => k_is)
    (case l1 => k_is)
    (case c1 => k_is)
    (case k1 => k_is)
    (case a2 => k_is)
    (case l2 => k_is)
    (case c2 => k_is)
    (case k2 => k_is)
    (case a3 => k_is)
    (case l3 => k_is)
    (case c3 => k_is)
    (case k3 => k_is)
    (case a4 => k_is)
    (case l4 => k_is)
    (case c4 => k_is)
    (case k4 => k_is)
    (case a5 => k_is)
    (case l5 => k_is)
    (case c5 => k_is)
    (case k5 => k_is)
    (case a6 => k_is)
    (case l6 => k_is)
    (case c6 => k_is)
    (case k6 => k_is)
    (case a7 => k_is)
    (case l7 => k_is)
    (case c7 => k_is)
    (case k7 => k_is)
    (case a8 => k_is)
    (case l8 => k_is)
    (case c8 => k_is)
    (case k8 => k_is)
    (case a9 => k_is)
    (case l9 => k_is)
    (case c9 => k_is)
    (case k9 => k_is)
    (case a10 => k_is)
    (case l10 => k_is)
    (case c10 => k_is)
    (case k10 => k_is)
    (case z_abs => k_is)
    (case z_enumerate => k_is)
    (case z_int => k_is)
    (case z_len => k_is)
    (case z_list => k_is)
    (case z_max => k_is)
    (case z_range => k_is)
    (case z_sorted => k_is)
    (case z_tuple => k_is)
