import PyProof.Rows.All
import Wide.All
import OpenK.AllK
import Wide.FinOn
import HandS.Base
import HandS.Call
import HandS.List
import HandS.Comp
import HandS.Ends
import HandS.Dict
import HandS.Iter
import HandS.Words
import HandS.IsInst
import HandS.Codes
import HandS.Text
import HandS.TupSets
import KE.SortCalls
import HandS.Deep
import HandS.More
import HandS.Walk
import KE.GoesEnumKw
import PyProof.Draws
import HandS.SortKw
import KE.KSortKeyAny
import PyProof.TupleOfSeq
import HandS.DictComp
import HandS.TupAny
import KE.KeyNested
import HandS.SetIn
import KE.KDictKeyed
import HandS.Small
import PyProof.Rows.BitMore
import KE.BitLaws
import HandS.Style
import HandS.SortInts
import KE.KDictPairs
import PySem.Challenge.RW_inputways_k33_clauses_of_a_literal
set_option Elab.async false
set_option maxRecDepth 100000
set_option maxHeartbeats 4000000
set_option linter.all false
namespace My
open PySem L2
open C8 (pss_cut)
/-! ### a def of the text, as the top has written it; a def that keeps a promise -/
structure Def (K : PySem.W.Frag) (mg : Str → Option Value) (x : Str) (ps : List Str) (st : Stmt) (f : Addr) (fd : FuncData) : Prop where
  fn : Fun K x x st f fd
  mg : mg x = some (.ref f)
  bd : Binds K fd ps []
def Own (P : Program) (w : World) (K : PySem.W.Frag) (mg : Str → Option Value) (base : Heap) (x : Str) (ps : List Str) (k : Nat) (sp : Sp) : Prop :=
  ∃ (f : Addr) (fd : FuncData), mg x = some (.ref f) ∧ PySem.W.keepIn K (.ref f) = true ∧ Binds K fd ps [] ∧ FnOk P w K mg base CX0 k f fd ps sp
/-- a def whose promise nobody can ask for -/
theorem fn_never {P : Program} {w : World} {K : PySem.W.Frag} {mg : Str → Option Value} {base : Heap} {k : Nat} {f : Addr} {fd : FuncData} {ps : List Str} {sp : Sp} (no : ∀ vs H Q E, ¬ sp vs H Q E) : FnOk P w K mg base CX0 k f fd ps sp :=
  ⟨fun vs H Q E h => absurd h (no vs H Q E), fun A outer s H args us vs Q E _ _ _ _ h => absurd h (no vs H Q E)⟩
/-- a constant of the top: a tuple of these -/
def Con (K : PySem.W.Frag) (mg : Str → Option Value) (x : Str) (xs : List V) : Prop :=
  ∃ (a : Addr) (od : Option Addr) (its : Array Value) (n : Nat) (sl : Array (Option Value)), mg x = some (.ref a) ∧ K.lookup a = some ⟨.type "tuple", od, .seq its n, sl⟩ ∧ its.size ≤ sizeLine ∧ Vals xs its.toList
theorem con_seq {K : PySem.W.Frag} {H : Hp} {a : Addr} {od : Option Addr} {its : Array Value} {n : Nat} {sl : Array (Option Value)} {xs : List V} (l : K.lookup a = some ⟨.type "tuple", od, .seq its n, sl⟩) (s : its.size ≤ sizeLine) (v : Vals xs its.toList) : SqT K H a xs :=
  .inr ⟨_, its, n, l, rfl, rfl, s, v⟩

/-! ### small words -/
theorem same_new {H : Hp} {p : Addr} (h : H p = none) (o : HO) : Same H (upd H p o) := fun b u q => by rw [upd_ne (ne_of_none q h)]; exact q
theorem streq {a b : Str} (c : decide (V.str a = V.str b) = true) : a = b := V.str.inj (of_decide_eq_true c)
theorem strne {a b : Str} (c : ¬ decide (V.str a = V.str b) = true) : a ≠ b := fun e => c (by rw [e]; exact decide_eq_true rfl)
theorem inteq {a b : Int} (c : decide (V.int a = V.int b) = true) : a = b := V.int.inj (of_decide_eq_true c)
theorem intne {a b : Int} (c : ¬ decide (V.int a = V.int b) = true) : a ≠ b := fun e => c (by rw [e]; exact decide_eq_true rfl)
theorem toI {Q : V → Hp → Prop} {H : Hp} {a b : Int} (e : a = b) (q : Q (.int b) H) : Q (.int a) H := by rw [e]; exact q
theorem toB {Q : V → Hp → Prop} {H : Hp} {a b : Bool} (e : a = b) (q : Q (.bl b) H) : Q (.bl a) H := by rw [e]; exact q
theorem inS {x : Str} : ∀ {xs : List Str}, inV (.str x) (xs.map V.str) = decide (x ∈ xs)
  | [] => by simp [inV]
  | y :: ys => by
    have ih := inS (x := x) (xs := ys)
    unfold inV at ih ⊢
    rw [List.map_cons, List.any_cons, ih]
    show (y == x || decide (x ∈ ys)) = decide (x ∈ y :: ys)
    by_cases h : y = x
    · subst h
      simp
    · have h' : ¬ x = y := fun e => h e.symm
      simp [h, h']
theorem atI_get {ns : List Int} {k : Int} (h0 : 0 ≤ k) (h : k < (ns.length : Int)) : ∃ z : Int, z ∈ ns ∧ atI (ns.map V.int) k = some (.int z) := by
  have hk : k.toNat < ns.length := by omega
  have ek : k = ((k.toNat : Nat) : Int) := by omega
  have q : atI (ns.map V.int) ((k.toNat : Nat) : Int) = some (.int ns[k.toNat]) := atI_nat (by rw [List.getElem?_map, List.getElem?_eq_getElem hk] <;> rfl)
  rw [← ek] at q
  exact ⟨_, List.getElem_mem hk, q⟩
/-- an item in bounds -/
theorem atI_in {xs : List V} {k : Int} (h0 : 0 ≤ k) (h : k < (xs.length : Int)) : ∃ v : V, atI xs k = some v ∧ xs[k.toNat]? = some v ∧ v ∈ xs := by
  have hk : k.toNat < xs.length := by omega
  have ek : k = ((k.toNat : Nat) : Int) := by omega
  have q : atI xs ((k.toNat : Nat) : Int) = some xs[k.toNat] := atI_nat (List.getElem?_eq_getElem hk)
  rw [← ek] at q
  exact ⟨_, q, List.getElem?_eq_getElem hk, List.getElem_mem hk⟩
theorem map_at {ns : List Int} {i : Nat} {y : V} (hi : (ns.map V.int)[i]? = some y) : ∃ z, y = V.int z ∧ ns[i]? = some z := by
  rw [List.getElem?_map] at hi
  cases e : ns[i]? with
  | none =>
    rw [e] at hi
    cases hi
  | some z =>
    rw [e] at hi
    exact ⟨z, (Option.some.inj hi).symm, rfl⟩
theorem yes2 {σ : L2.St} {H : Hp} {A B : Hp → Prop} (h : A H) : tYes σ H (fun b H3 => if b = true then A H3 else B H3) := iteT (A := A H) (B := B H) h
theorem small {n : Nat} (h : n ≤ 1000) : n ≤ sizeLine := Nat.le_of_lt (small1000 h)

/-! ### a heap without one object -/
def hide (d : Addr) (H : Hp) : Hp := fun b => if b = d then none else H b
theorem hide_at {d : Addr} {H : Hp} : hide d H d = none := if_pos rfl
theorem hide_ne {d b : Addr} {H : Hp} (h : b ≠ d) : hide d H b = H b := if_neg h
theorem hide_some {d b : Addr} {H : Hp} {o : HO} (h : hide d H b = some o) : b ≠ d ∧ H b = some o := by
  unfold hide at h
  by_cases e : b = d
  · rw [if_pos e] at h
    cases h
  · rw [if_neg e] at h
    exact ⟨e, h⟩
theorem hide_le {d : Addr} {H : Hp} : Same (hide d H) H := fun b o h => (hide_some h).2
theorem hide_new {d p : Addr} {H : Hp} (hp : H p = none) (o : HO) : Same (hide d H) (hide d (upd H p o)) := fun b u h => by
  obtain ⟨h1, h2⟩ := hide_some h
  rw [hide_ne h1, upd_ne (ne_of_none h2 hp)]
  exact h2
theorem hide_put {d : Addr} {H : Hp} (o : HO) : Same (hide d H) (hide d (upd H d o)) := fun b u h => by
  obtain ⟨h1, h2⟩ := hide_some h
  rw [hide_ne h1, upd_ne h1]
  exact h2
theorem hide_same {d : Addr} {H H' : Hp} (e : Same H H') : Same (hide d H) (hide d H') := fun b u h => by
  obtain ⟨h1, h2⟩ := hide_some h
  rw [hide_ne h1]
  exact e b u h2
/-- what stands apart from d and is tracked, is tracked without d -/
theorem hide_in {d b : Addr} {H : Hp} {o : HO} (h : H b = some o) (hb : b ≠ d) : hide d H b = some o := by rw [hide_ne hb]; exact h
/-- a new object behind the draw -/
theorem hide_upd {d p : Addr} {H : Hp} {o u : HO} (hd : H d = some u) (hp : H p = none) : hide d (upd H p o) p = some o := by
  rw [hide_ne (fun e => by rw [e, hd] at hp; cases hp), upd_same]

/-! ### sequences and data in a heap that has grown -/
theorem rd_mono {H H' : Hp} {a : Addr} {u : HO} (e : Same H H') (h : Rd H a u) : Rd H' a u := by
  rcases h with h | ⟨o, h⟩
  · exact .inl (e _ _ h)
  · exact .inr ⟨o, e _ _ h⟩
theorem sqt_mono {K : PySem.W.Frag} {H H' : Hp} {a : Addr} {xs : List V} (e : Same H H') (h : SqT K H a xs) : SqT K H' a xs := by
  rcases h with h | h
  · exact .inl (rd_mono e h)
  · exact .inr h
theorem sql_mono {K : PySem.W.Frag} {H H' : Hp} {a : Addr} {xs : List V} (e : Same H H') (h : SqL K H a xs) : SqL K H' a xs := e.seq h
mutual
theorem dp_mono {K : PySem.W.Frag} {H H' : Hp} (e : Same H H') : ∀ (d : PyData) {v : V}, Dp K H v d → Dp K H' v d
  | .none, _, .non => .non
  | .bool _, _, .bl b => .bl b
  | .int _, _, .int i => .int i
  | .str _, _, .str x => .str x
  | .list ds, _, .lst h hs => .lst (sql_mono e h) (dpa_mono e ds hs)
  | .tuple ds, _, .tup h hs => .tup (sqt_mono e h) (dpa_mono e ds hs)
  | .dict _, _, h => by cases h
theorem dpa_mono {K : PySem.W.Frag} {H H' : Hp} (e : Same H H') : ∀ (ds : List PyData) {vs : List V}, DpAll K H vs ds → DpAll K H' vs ds
  | [], _, .nil => .nil
  | d :: ds, _, .cons h hs => .cons (dp_mono e d h) (dpa_mono e ds hs)
end
section
variable {K : PySem.W.Frag} {H : Hp}
theorem dpa_len : ∀ {vs : List V} {ds : List PyData}, DpAll K H vs ds → vs.length = ds.length
  | _, _, .nil => rfl
  | _, _, .cons _ t => by rw [List.length_cons, List.length_cons, dpa_len t]
theorem dpa_get : ∀ {vs : List V} {ds : List PyData} {i : Nat} {v : V}, DpAll K H vs ds → vs[i]? = some v → ∃ d, ds[i]? = some d ∧ Dp K H v d
  | _, _, _, _, .nil, e => by cases e
  | _, _, 0, _, .cons h _, e => by
    cases e
    exact ⟨_, rfl, h⟩
  | _, _, i + 1, _, .cons _ t, e => dpa_get (i := i) t e
theorem dpa_app : ∀ {vs us : List V} {ds es : List PyData}, DpAll K H vs ds → DpAll K H us es → DpAll K H (vs ++ us) (ds ++ es)
  | _, _, _, _, .nil, h => h
  | _, _, _, _, .cons a t, h => .cons a (dpa_app t h)
theorem dpa_one {v : V} {d : PyData} (h : Dp K H v d) : DpAll K H [v] [d] := .cons h .nil
theorem dpa_take : ∀ {vs : List V} {ds : List PyData} (n : Nat), DpAll K H vs ds → DpAll K H (vs.take n) (ds.take n)
  | _, _, 0, _ => .nil
  | _, _, _ + 1, .nil => .nil
  | _, _, n + 1, .cons h t => .cons h (dpa_take n t)
theorem dpa_drop : ∀ {vs : List V} {ds : List PyData} (n : Nat), DpAll K H vs ds → DpAll K H (vs.drop n) (ds.drop n)
  | _, _, 0, h => h
  | _, _, _ + 1, .nil => .nil
  | _, _, n + 1, .cons _ t => dpa_drop n t
theorem dpa_map {α : Type} (f : α → V) (g : α → PyData) (h : ∀ x, Dp K H (f x) (g x)) : ∀ l : List α, DpAll K H (l.map f) (l.map g)
  | [] => .nil
  | x :: xs => .cons (h x) (dpa_map f g h xs)
/-- a tuple that is data: its items -/
theorem dp_tup {v : V} {ds : List PyData} (h : Dp K H v (.tuple ds)) : ∃ a xs, v = .ref a ∧ SqT K H a xs ∧ DpAll K H xs ds := by
  cases h with
  | tup hs ha => exact ⟨_, _, rfl, hs, ha⟩
theorem dp_lst {v : V} {ds : List PyData} (h : Dp K H v (.list ds)) : ∃ a xs, v = .ref a ∧ SqL K H a xs ∧ DpAll K H xs ds := by
  cases h with
  | lst hs ha => exact ⟨_, _, rfl, hs, ha⟩
theorem dp_int {v : V} {i : Int} (h : Dp K H v (.int i)) : v = .int i := by cases h; rfl
theorem dp_str {v : V} {x : Str} (h : Dp K H v (.str x)) : v = .str x := by cases h; rfl
theorem dp_bool {v : V} {b : Bool} (h : Dp K H v (.bool b)) : v = .bl b := by cases h; rfl
theorem dp_none {v : V} (h : Dp K H v .none) : v = .non := by cases h; rfl
end

/-! ### a draw: the cells, the place, what is left of the cell, the seed -/
def DrawAt (H : Hp) (d L : Addr) : Prop := ∃ (ns : List Int) (at_ left seed : Int), H d = some (.lst [.ref L, .int at_, .int left, .int seed]) ∧ H L = some (.lst (ns.map V.int)) ∧ d ≠ L ∧ (∀ z, z ∈ ns → 0 ≤ z) ∧ -1 ≤ at_ ∧ 0 ≤ left ∧ 0 ≤ seed ∧ seed < 2147483647
theorem DrawAt.mono {H H' : Hp} {d L : Addr} (h : DrawAt H d L) (e : Same H H') : DrawAt H' d L := by
  obtain ⟨ns, a, l, s, h1, h2, r⟩ := h
  exact ⟨ns, a, l, s, e _ _ h1, e _ _ h2, r⟩
theorem DrawAt.at {H : Hp} {d L : Addr} (h : DrawAt H d L) : ∃ u, H d = some u := by
  obtain ⟨ns, a, l, s, h1, _⟩ := h
  exact ⟨_, h1⟩
theorem DrawAt.cells {H : Hp} {d L : Addr} (h : DrawAt H d L) : ∃ u, H L = some u := by
  obtain ⟨ns, a, l, s, _, h1, _⟩ := h
  exact ⟨_, h1⟩
/-- a new object is no draw -/
theorem DrawAt.new {H : Hp} {d L p : Addr} {o : HO} (h : DrawAt H d L) (hp : H p = none) : DrawAt (upd H p o) d L := h.mono (same_new hp o)
theorem DrawAt.ne {H : Hp} {d L p : Addr} (h : DrawAt H d L) (hp : H p = none) : d ≠ p := by
  obtain ⟨u, hu⟩ := h.at
  exact ne_of_none hu hp
theorem DrawAt.neL {H : Hp} {d L p : Addr} (h : DrawAt H d L) (hp : H p = none) : L ≠ p := by
  obtain ⟨u, hu⟩ := h.cells
  exact ne_of_none hu hp
/-- an object apart from the draw may change -/
theorem DrawAt.put {H : Hp} {d L p : Addr} (o : HO) (h : DrawAt H d L) (h1 : d ≠ p) (h2 : L ≠ p) : DrawAt (upd H p o) d L := by
  obtain ⟨ns, a, l, s, g1, g2, r⟩ := h
  exact ⟨ns, a, l, s, by rw [upd_ne h1]; exact g1, by rw [upd_ne h2]; exact g2, r⟩
theorem DrawAt.in {H : Hp} {d L p : Addr} {o : HO} (h : DrawAt H d L) (hp : H p = none) : hide d (upd H p o) p = some o := by
  obtain ⟨u, hu⟩ := h.at
  exact hide_upd hu hp

/-! ### a word between a test, an expression, and what follows -/
def tCutT (t : TT) : TT := fun σ H Q => ∃ Mid : Bool → Hp → Prop, t σ H Mid ∧ ∀ b H', Mid b H' → Q b H'
theorem pt_cut {X : Cx} {e : Expr} {t : TT} (h : PT X e t) : PT X e (tCutT t) := ⟨fun pins s σ H Q I ⟨Mid, h1, h2⟩ => thn (h.run pins s σ H Mid I h1) fun b s' ⟨H', I', q⟩ => ⟨H', I', h2 b H' q⟩⟩
def tCutE (t : TE) : TE := fun σ H Q => ∃ Mid : V → Hp → Prop, t σ H Mid ∧ ∀ v H', Mid v H' → Q v H'
theorem pe_cut {X : Cx} {e : Expr} {t : TE} (h : PE X e t) : PE X e (tCutE t) := ⟨fun pins s σ H Q I ⟨Mid, h1, h2⟩ => thn (h.run pins s σ H Mid I h1) fun u s' ⟨v, H', I', r, q⟩ => ⟨v, H', I', r, h2 v H' q⟩⟩
/-- a test that leaves the heap as it is and says b -/
theorem cut_same {t : TT} {σ : L2.St} {H : Hp} {Q : Bool → Hp → Prop} (b : Bool) (h : t σ H fun c H' => c = b ∧ H' = H) (q : Q b H) : tCutT t σ H Q :=
  ⟨_, h, fun c H' ⟨e1, e2⟩ => by rw [e1, e2]; exact q⟩
theorem cutE_same {t : TE} {σ : L2.St} {H : Hp} {Q : V → Hp → Prop} (v : V) (h : t σ H fun c H' => c = v ∧ H' = H) (q : Q v H) : tCutE t σ H Q :=
  ⟨_, h, fun c H' ⟨e1, e2⟩ => by rw [e1, e2]; exact q⟩
/-- a dict's key, written: the first, the second, the third .. -/
theorem get_k {H : Hp} {a : Addr} {kvs : List (Key × V)} {x : Str} {v : V} (e : H a = some (.dK kvs)) (g : valV kvs (Sum.inr x : Key) = some v) : DGet H a (.str x) (some v) := by
  have q := DGet.k (k := (Sum.inr x : Key)) e
  rw [g] at q
  exact q
/-- a new tuple of data behind the draw -/
theorem dp_new {K : PySem.W.Frag} {H : Hp} {d L p : Addr} {xs : List V} {ds : List PyData} (D : DrawAt H d L) (hp : H p = none) (h : DpAll K (hide d H) xs ds) : Dp K (hide d (upd H p (.tup xs))) (.ref p) (.tuple ds) :=
  .tup (SqT.of (D.in hp)) (dpa_mono (hide_new hp _) _ h)

/-! ### a list that grows apart from the data -/
mutual
def noLst : PyData → Bool
  | .none => true
  | .bool _ => true
  | .int _ => true
  | .str _ => true
  | .list _ => false
  | .tuple ds => noLsts ds
  | .dict _ => false
def noLsts : List PyData → Bool
  | [] => true
  | d :: ds => noLst d && noLsts ds
end
theorem sqt_hide {K : PySem.W.Frag} {H : Hp} {D a : Addr} {ys xs : List V} (hD : H D = some (.lst ys)) (h : SqT K H a xs) : SqT K (hide D H) a xs := by
  rcases h with (h | ⟨o, h⟩) | h
  · exact .inl (.inl (hide_in h (ne_of h hD (by intro z; cases z))))
  · exact .inl (.inr ⟨o, hide_in h (ne_of h hD (by intro z; cases z))⟩)
  · exact .inr h
mutual
theorem dp_hide {K : PySem.W.Frag} {H : Hp} {D : Addr} {ys : List V} (hD : H D = some (.lst ys)) : ∀ (d : PyData) {v : V}, noLst d = true → Dp K H v d → Dp K (hide D H) v d
  | .none, _, _, .non => .non
  | .bool _, _, _, .bl b => .bl b
  | .int _, _, _, .int i => .int i
  | .str _, _, _, .str x => .str x
  | .list ds, _, n, _ => by cases (show false = true from n)
  | .tuple ds, _, n, .tup h hs => .tup (sqt_hide hD h) (dpa_hide hD ds n hs)
  | .dict _, _, _, h => by cases h
theorem dpa_hide {K : PySem.W.Frag} {H : Hp} {D : Addr} {ys : List V} (hD : H D = some (.lst ys)) : ∀ (ds : List PyData) {vs : List V}, noLsts ds = true → DpAll K H vs ds → DpAll K (hide D H) vs ds
  | [], _, _, .nil => .nil
  | d :: ds, _, n, .cons h hs => by
    have n' := Bool.and_eq_true_iff.mp (show (noLst d && noLsts ds) = true from n)
    exact .cons (dp_hide hD d n'.1 h) (dpa_hide hD ds n'.2 hs)
end
theorem noLsts_map {α : Type} {g : α → PyData} (h : ∀ x, noLst (g x) = true) : ∀ l : List α, noLsts (l.map g) = true
  | [] => rfl
  | x :: xs => by
    show (noLst (g x) && noLsts (xs.map g)) = true
    rw [h x, noLsts_map h xs]
    rfl
/-- the new list of a comprehension, D, behind the draw at d: what stands in it so far, as data -/
structure Grows (K : PySem.W.Frag) (H0 H : Hp) (d L D : Addr) (vs : List V) (ds : List PyData) : Prop where
  at_ : H D = some (.lst vs)
  all : DpAll K (hide D (hide d H)) vs ds
  dr : DrawAt H d L
  old : Same (hide d H0) (hide d H)
  nd : d ≠ D
  nL : L ≠ D
  fr : hide d H0 D = none
theorem Grows.start {K : PySem.W.Frag} {H : Hp} {d L D : Addr} (h : DrawAt H d L) (hD : H D = none) : Grows K H (upd H D (.lst [])) d L D [] [] :=
  ⟨upd_same, .nil, h.new hD, hide_new hD _, h.ne hD, h.neL hD, by rw [hide_ne (h.ne hD).symm]; exact hD⟩
/-- what a call leaves -/
theorem Grows.step {K : PySem.W.Frag} {H0 H H' : Hp} {d L D : Addr} {vs : List V} {ds : List PyData} (g : Grows K H0 H d L D vs ds) (h : DrawAt H' d L) (e : Same (hide d H) (hide d H')) : Grows K H0 H' d L D vs ds :=
  ⟨hide_le _ _ (e _ _ (hide_in g.at_ g.nd.symm)), dpa_mono (hide_same e) _ g.all, h, g.old.trans e, g.nd, g.nL, g.fr⟩
theorem Grows.push {K : PySem.W.Frag} {H0 H : Hp} {d L D : Addr} {vs : List V} {ds : List PyData} {v : V} {x : PyData} (g : Grows K H0 H d L D vs ds) (n : noLst x = true) (h : Dp K (hide d H) v x) : Grows K H0 (upd H D (.lst (vs ++ [v]))) d L D (vs ++ [v]) (ds ++ [x]) := by
  have h' := dp_hide (hide_in g.at_ g.nd.symm) x n h
  have e : Same (hide D (hide d H)) (hide D (hide d (upd H D (.lst (vs ++ [v]))))) := fun b o hb => by
    obtain ⟨h1, h2⟩ := hide_some hb
    obtain ⟨h3, h4⟩ := hide_some h2
    rw [hide_ne h1, hide_ne h3, upd_ne h1]
    exact h4
  refine ⟨upd_same, dpa_mono e _ (dpa_app g.all (dpa_one h')), g.dr.put _ g.nd g.nL, fun b o hb => ?_, g.nd, g.nL, g.fr⟩
  have hbD : b ≠ D := ne_of_none hb g.fr
  obtain ⟨h3, h4⟩ := hide_some (g.old _ _ hb)
  rw [hide_ne h3, upd_ne hbD]
  exact h4
theorem Grows.data {K : PySem.W.Frag} {H0 H : Hp} {d L D : Addr} {vs : List V} {ds : List PyData} (g : Grows K H0 H d L D vs ds) : DpAll K (hide d H) vs ds := dpa_mono hide_le _ g.all

/-! ### promises of the drawing -/
def spTop : Sp := fun vs H Q _ => ∃ n : Nat, vs = [.int n] ∧ n ≤ 1000 ∧ Q (.int (2 ^ n - 1)) H
def spDraw (K : PySem.W.Frag) : Sp := fun vs H Q _ => ∃ (a : Addr) (ns : List Int), vs = [.ref a] ∧ SqL K H a (ns.map V.int) ∧ ns.length ≤ 63 ∧ ∀ d L H', H d = none → H L = none → Same H H' → DrawAt H' d L → Q (.ref d) H'
def spTake : Sp := fun vs H Q _ => ∃ (d L : Addr) (m : Int), vs = [.ref d, .int m] ∧ 0 < m ∧ m < 1073741824 ∧ DrawAt H d L ∧ ∀ v H', 0 ≤ v → v < m → DrawAt H' d L → Same (hide d H) (hide d H') → Q (.int v) H'
def spWord : Sp := fun vs H Q _ => ∃ (d L : Addr) (n : Nat), vs = [.ref d, .int n] ∧ n ≤ 16 ∧ DrawAt H d L ∧ ∀ v H', 0 ≤ v → v < 2 ^ n → DrawAt H' d L → Same (hide d H) (hide d H') → Q (.int v) H'
def opsL : List V := [.str "add", .str "sub", .str "mul", .str "and", .str "or", .str "xor", .str "shl", .str "shr", .str "less", .str "equal"]
def opsS : List Str := ["add", "sub", "mul", "and", "or", "xor", "shl", "shr", "less", "equal"]
def spOps : Sp := fun vs H Q _ => vs = [] ∧ ∀ p H', H p = none → Same H H' → H' p = some (.lst opsL) → Q (.ref p) H'
end My

set_option autoImplicit false
/-! Clauses, pure: what units give, fillings. -/
namespace MC
open Classical
abbrev Cl := List Int
/-- the bit of an item -/
def lit (A : Int → Bool) (x : Int) : Bool := if 0 < x then A x else !A (-x)
def Keeps (A : Int → Bool) (cs : List Cl) : Prop := ∀ c ∈ cs, ∃ x ∈ c, lit A x = true
def Sat (cs : List Cl) : Prop := ∃ A, Keeps A cs
def Nz (cs : List Cl) : Prop := ∀ c ∈ cs, ∀ x ∈ c, x ≠ 0
theorem lit_neg {A : Int → Bool} {x : Int} (h : x ≠ 0) : lit A (-x) = !lit A x := by
  unfold lit
  by_cases c : 0 < x
  · have c2 : ¬ 0 < -x := by omega
    rw [if_pos c, if_neg c2, Int.neg_neg]
  · have c2 : 0 < -x := by omega
    rw [if_neg c, if_pos c2, Bool.not_not]
def rest (l : Int) (c : Cl) : Cl := c.filter fun x => decide (x ≠ -l)
def less (cs : List Cl) (l : Int) : List Cl := (cs.filter fun c => decide (l ∉ c)).map (rest l)
theorem mem_less {cs : List Cl} {l : Int} {d : Cl} : d ∈ less cs l ↔ ∃ c ∈ cs, l ∉ c ∧ rest l c = d := by
  unfold less
  rw [List.mem_map]
  constructor
  · rintro ⟨c, h, e⟩
    obtain ⟨h1, h2⟩ := List.mem_filter.mp h
    exact ⟨c, h1, of_decide_eq_true h2, e⟩
  · rintro ⟨c, h1, h2, e⟩
    exact ⟨c, List.mem_filter.mpr ⟨h1, decide_eq_true h2⟩, e⟩
theorem mem_rest {l x : Int} {c : Cl} : x ∈ rest l c ↔ x ∈ c ∧ x ≠ -l := by
  unfold rest
  rw [List.mem_filter]
  exact ⟨fun ⟨a, b⟩ => ⟨a, of_decide_eq_true b⟩, fun ⟨a, b⟩ => ⟨a, decide_eq_true b⟩⟩
theorem nz_less {cs : List Cl} {l : Int} (h : Nz cs) : Nz (less cs l) := fun d hd x hx => by
  obtain ⟨c, hc, _, rfl⟩ := mem_less.1 hd
  exact h c hc x (mem_rest.1 hx).1
theorem keeps_less {A : Int → Bool} {cs : List Cl} {l : Int} (hl : l ≠ 0) (h : Keeps A cs) (t : lit A l = true) : Keeps A (less cs l) := fun d hd => by
  obtain ⟨c, hc, _, rfl⟩ := mem_less.1 hd
  obtain ⟨x, hx, tx⟩ := h c hc
  refine ⟨x, mem_rest.2 ⟨hx, fun e => ?_⟩, tx⟩
  rw [e, lit_neg hl, t] at tx
  cases tx
def put (A : Int → Bool) (l : Int) : Int → Bool := fun v => if v = l then true else if v = -l then false else A v
theorem lit_put {A : Int → Bool} {l : Int} (hl : l ≠ 0) : lit (put A l) l = true := by
  unfold lit put
  by_cases c : 0 < l
  · rw [if_pos c, if_pos rfl]
  · rw [if_neg c, if_neg (by omega), if_pos rfl] <;> rfl
theorem lit_put_ne {A : Int → Bool} {l x : Int} (h1 : x ≠ l) (h2 : x ≠ -l) : lit (put A l) x = lit A x := by
  unfold lit put
  by_cases c : 0 < x
  · rw [if_pos c, if_pos c, if_neg h1, if_neg h2]
  · rw [if_neg c, if_neg c, if_neg (by omega), if_neg (by omega)]
theorem keeps_put {A : Int → Bool} {cs : List Cl} {l : Int} (hl : l ≠ 0) (h : Keeps A (less cs l)) : Keeps (put A l) cs := fun c hc => by
  by_cases m : l ∈ c
  · exact ⟨l, m, lit_put hl⟩
  · obtain ⟨x, hx, tx⟩ := h _ (mem_less.2 ⟨c, hc, m, rfl⟩)
    obtain ⟨x1, x2⟩ := mem_rest.1 hx
    have x3 : x ≠ l := fun e => m (by rw [← e]; exact x1)
    exact ⟨x, x1, by rw [lit_put_ne x3 x2]; exact tx⟩
theorem sat_less_of {cs : List Cl} {l : Int} (hl : l ≠ 0) (h : Sat (less cs l)) : Sat cs := by
  obtain ⟨A, h⟩ := h
  exact ⟨_, keeps_put hl h⟩
theorem sat_unit {cs : List Cl} {l : Int} (hl : l ≠ 0) (m : [l] ∈ cs) : Sat cs ↔ Sat (less cs l) := by
  refine ⟨fun ⟨A, h⟩ => ⟨A, keeps_less hl h ?_⟩, sat_less_of hl⟩
  obtain ⟨x, hx, t⟩ := h _ m
  rw [List.mem_singleton] at hx
  rw [← hx]
  exact t
theorem sat_split {cs : List Cl} {l : Int} (hl : l ≠ 0) : Sat cs ↔ Sat (less cs l) ∨ Sat (less cs (-l)) := by
  refine ⟨fun ⟨A, h⟩ => ?_, fun h => h.elim (sat_less_of hl) (sat_less_of (by omega))⟩
  cases t : lit A l with
  | true => exact .inl ⟨A, keeps_less hl h t⟩
  | false => exact .inr ⟨A, keeps_less (by omega) h (by rw [lit_neg hl, t] <;> rfl)⟩
theorem not_sat_empty {cs : List Cl} (h : [] ∈ cs) : ¬ Sat cs := fun ⟨A, k⟩ => by
  obtain ⟨x, hx, _⟩ := k _ h
  cases hx
theorem sat_nil : Sat [] := ⟨fun _ => true, fun c h => by cases h⟩
/-- some row is left empty -/
def Bare (cs : List Cl) (l : Int) : Prop := ∃ c ∈ cs, l ∉ c ∧ rest l c = []
theorem bare_iff {cs : List Cl} {l : Int} : Bare cs l ↔ [] ∈ less cs l := by
  rw [mem_less]
  exact Iff.rfl
/-! the variables: the law takes one at a time -/
def vars (cs : List Cl) : List Int := ((cs.flatten).map fun x => if 0 < x then x else -x).eraseDups
def Vin (n : Nat) (cs : List Cl) : Prop := ∃ vs : List Int, vs.length ≤ n ∧ ∀ c ∈ cs, ∀ x ∈ c, (x ∈ vs ∨ -x ∈ vs)
theorem vin_less {n : Nat} {cs : List Cl} {l : Int} {c0 : Cl} (h : Vin n cs) (hc : c0 ∈ cs) (m : l ∈ c0 ∨ -l ∈ c0) : ∃ k, n = k + 1 ∧ Vin k (less cs l) := by
  obtain ⟨vs, hl, hv⟩ := h
  have hm : l ∈ vs ∨ -l ∈ vs := by
    rcases m with m | m
    · exact hv c0 hc l m
    · rcases hv c0 hc _ m with z | z
      · exact .inr z
      · rw [Int.neg_neg] at z; exact .inl z
  have key : ∀ w : Int, w ∈ vs → (w = l ∨ w = -l) → ∃ k, n = k + 1 ∧ Vin k (less cs l) := fun w hw ew => by
    have hlen := List.length_erase_of_mem hw
    have hp : 0 < vs.length := List.length_pos_of_mem hw
    refine ⟨n - 1, by omega, vs.erase w, by omega, fun d hd x hx => ?_⟩
    obtain ⟨c, hc, hn, rfl⟩ := mem_less.1 hd
    obtain ⟨x1, x2⟩ := mem_rest.1 hx
    have x3 : x ≠ l := fun e => hn (by rw [← e]; exact x1)
    rcases hv c hc x x1 with z | z
    · exact .inl ((List.mem_erase_of_ne (by omega)).2 z)
    · exact .inr ((List.mem_erase_of_ne (by omega)).2 z)
  rcases hm with h | h
  · exact key l h (.inl rfl)
  · exact key _ h (.inr rfl)
/-! units -/
inductive Forced (cs : List Cl) (row : Cl) : Int → Prop
  | start {x : Int} : x ∈ row → Forced cs row (-x)
  | unit {c : Cl} {l : Int} : c ∈ cs → l ∈ c → (∀ x ∈ c, x ≠ l → Forced cs row (-x)) → Forced cs row l
def Conf (cs : List Cl) (row : Cl) : Prop := ∃ c ∈ cs, ∀ x ∈ c, Forced cs row (-x)
theorem forced_mono {cs ds : List Cl} {row : Cl} (h : ∀ c, c ∈ cs → c ∈ ds) {x : Int} (f : Forced cs row x) : Forced ds row x := by
  induction f with
  | start m => exact .start m
  | unit hc hl _ ih => exact .unit (h _ hc) hl ih
theorem conf_mono {cs ds : List Cl} {row : Cl} (h : ∀ c, c ∈ cs → c ∈ ds) (f : Conf cs row) : Conf ds row := by
  obtain ⟨c, hc, k⟩ := f
  exact ⟨c, h c hc, fun x hx => forced_mono h (k x hx)⟩
theorem forced_true {cs : List Cl} {row : Cl} {A : Int → Bool} (nz : Nz cs) (_nr : ∀ x ∈ row, x ≠ 0) (k : Keeps A cs) (r : ∀ x ∈ row, lit A (-x) = true) {x : Int} (f : Forced cs row x) : lit A x = true := by
  induction f with
  | start m => exact r _ m
  | @unit c l hc hl _ ih =>
    obtain ⟨x, hx, t⟩ := k c hc
    by_cases e : x = l
    · rw [← e]; exact t
    · have := ih x hx e
      rw [lit_neg (nz c hc x hx), t] at this
      cases this
theorem conf_unsat {cs : List Cl} {row : Cl} (nz : Nz cs) (nr : ∀ x ∈ row, x ≠ 0) (f : Conf cs row) : ¬ Sat (cs ++ row.map fun x => [-x]) := fun ⟨A, k⟩ => by
  obtain ⟨c, hc, h⟩ := f
  have k1 : Keeps A cs := fun c hc => k c (List.mem_append_left _ hc)
  have r : ∀ x ∈ row, lit A (-x) = true := fun x hx => by
    obtain ⟨y, hy, t⟩ := k [-x] (List.mem_append_right _ (List.mem_map.mpr ⟨x, hx, rfl⟩))
    rw [List.mem_singleton] at hy
    rw [← hy]; exact t
  obtain ⟨x, hx, t⟩ := k1 c hc
  have := forced_true nz nr k1 r (h x hx)
  rw [lit_neg (nz c hc x hx), t] at this
  cases this
/-! a set of given items that is closed -/
theorem conf_of {cs : List Cl} {row : Cl} {g : Int → Prop} (sound : ∀ x, g x → Forced cs row x) {c : Cl} (hc : c ∈ cs) (all : ∀ x ∈ c, g (-x)) : Conf cs row := ⟨c, hc, fun x hx => sound _ (all x hx)⟩
theorem not_conf {cs : List Cl} {row : Cl} {g : Int → Prop} (st : ∀ x ∈ row, g (-x)) (two : ∀ x, g x → ¬ g (-x)) (cl : ∀ c ∈ cs, (∃ x ∈ c, g x) ∨ ∃ x ∈ c, ∃ y ∈ c, x ≠ y ∧ ¬ g (-x) ∧ ¬ g (-y)) : ¬ Conf cs row := by
  have all : ∀ x, Forced cs row x → g x := by
    intro x f
    induction f with
    | start m => exact st _ m
    | @unit c l hc hl _ ih =>
      rcases cl c hc with ⟨x, hx, gx⟩ | ⟨x, hx, y, hy, ne, nx, ny⟩
      · by_cases e : x = l
        · rw [← e]; exact gx
        · exact absurd (ih x hx e) (two x gx)
      · by_cases e : x = l
        · exact absurd (ih y hy (fun z => ne (e.trans z.symm))) ny
        · exact absurd (ih x hx e) nx
  rintro ⟨c, hc, h⟩
  rcases cl c hc with ⟨x, hx, gx⟩ | ⟨x, hx, _, _, _, nx, _⟩
  · exact two x gx (all _ (h x hx))
  · exact nx (all _ (h x hx))
end MC

set_option Elab.async false
set_option maxRecDepth 100000
set_option maxHeartbeats 4000000
set_option linter.all false
/-! sorted(xs), of a list or of a set, the items alike data of any depth. -/
namespace My
open PySem PySem.Spec PyProof.Rows L2
open PySem.W (EachIs alike dataLt dataKind keyToks SortsAt AllAlike Sortable sortVals)
abbrev leD (p q : V × PyData) : Bool := PySem.W.sortLe (PyProof.Rows.listOrd PyProof.Rows.itemOrd) false (fun p : V × PyData => keyToks p.2) p q
theorem leD_lt {p q : V × PyData} : leD p q = !dataLt q.2 p.2 := rfl
/-- values and what they read as -/
def Twos (K : PySem.W.Frag) (H : Hp) (ps : List (V × PyData)) : Prop := ∀ p ∈ ps, Dp K H p.1 p.2
theorem twos_of {K : PySem.W.Frag} {H : Hp} : ∀ {xs : List V} {ds : List PyData}, DpAll K H xs ds → ∃ ps : List (V × PyData), ps.map (·.1) = xs ∧ ps.map (·.2) = ds ∧ Twos K H ps
  | _, _, .nil => ⟨[], rfl, rfl, fun p h => by cases h⟩
  | _, _, .cons (v := v) (d := d) h t => by
    obtain ⟨ps, h1, h2, h3⟩ := twos_of t
    refine ⟨(v, d) :: ps, by rw [List.map_cons, h1], by rw [List.map_cons, h2], fun p hp => ?_⟩
    rcases List.mem_cons.mp hp with e | hp
    · rw [e]; exact h
    · exact h3 p hp
theorem Twos.all {K : PySem.W.Frag} {H : Hp} : ∀ {ps : List (V × PyData)}, Twos K H ps → DpAll K H (ps.map (·.1)) (ps.map (·.2))
  | [], _ => .nil
  | p :: ps, h => .cons (h p List.mem_cons_self) (Twos.all fun q hq => h q (List.mem_cons_of_mem _ hq))
theorem each_vals : ∀ {ps : List (V × PyData)} {us : List Value}, Vals (ps.map (·.1)) us → EachIs (fun u (p : V × PyData) => RelV p.1 u) us ps
  | [], _, .nil => .nil
  | p :: ps, _, .cons r t => .cons r (each_vals t)
theorem vals_each : ∀ {ps : List (V × PyData)} {us : List Value}, EachIs (fun u (p : V × PyData) => RelV p.1 u) us ps → Vals (ps.map (·.1)) us
  | _, _, .nil => .nil
  | _, _, .cons r t => .cons r (vals_each t)
theorem each_snd {R : Value → PyData → Prop} : ∀ {us : List Value} {ps : List (V × PyData)}, EachIs (fun u (p : V × PyData) => R u p.2) us ps → EachIs R us (ps.map (·.2))
  | _, _, .nil => .nil
  | _, _, .cons r t => .cons r (each_snd t)
/-- what sorting gives -/
structure SortedD (ps qs : List (V × PyData)) : Prop where
  perm : qs.Perm ps
  asc : qs.Pairwise fun p q => dataLt q.2 p.2 = false
theorem sortedD_of (ps : List (V × PyData)) : SortedD ps (ps.mergeSort leD) where
  perm := List.mergeSort_perm _ _
  asc := by
    have := PySem.W.sort_pairwise (PySem.W.sortLe_total (PyProof.Rows.listOrd PyProof.Rows.itemOrd) false fun p : V × PyData => keyToks p.2) ps
    refine List.Pairwise.imp (fun {p q} h => ?_) this
    have h' : (!dataLt q.2 p.2) = true := h
    cases e : dataLt q.2 p.2 with
    | false => rfl
    | true => rw [e] at h'; cases h'
section
variable {X : Cx} {pins : List (Addr × Obj)} {σ : L2.St} {H : Hp} {s : Shared}
theorem reads_each (I : Inv X pins σ H s) : ∀ {ps : List (V × PyData)} {us : List Value}, Twos X.K H ps → Vals (ps.map (·.1)) us → EachIs (fun u (p : V × PyData) => ∃ as, Reads s.heap u p.2 as) us ps
  | [], _, _, .nil => .nil
  | p :: ps, _, h, .cons r t => .cons (Dp.reads I p.2 p.1 _ (h p List.mem_cons_self) r) (reads_each I (fun q hq => h q (List.mem_cons_of_mem _ hq)) t)
/-- the sorted values, told -/
theorem sorted_each {h : Heap} {ps : List (V × PyData)} {us : List Value} (hal : AllAlike (ps.map (·.2))) (r : Vals (ps.map (·.1)) us) (e : EachIs (fun u (p : V × PyData) => ∃ as, Reads h u p.2 as) us ps) : EachIs (fun u (p : V × PyData) => RelV p.1 u) (sortVals (dataKind h (ps.map (·.2))) false us us) (ps.mergeSort leD) := by
  refine PySem.W.sortVals_each (κ := dataKind h (ps.map (·.2))) (fun p : V × PyData => keyToks p.2) (each_vals r) ?_
  have key : ∀ {qs : List (V × PyData)} {us : List Value}, (∀ q ∈ qs, q ∈ ps) → EachIs (fun u (p : V × PyData) => ∃ as, Reads h u p.2 as) us qs → EachIs (fun v (b : V × PyData) => (dataKind h (ps.map (·.2))).keyOf v = some (keyToks b.2)) us qs := by
    intro qs us hq e
    induction e with
    | nil => exact .nil
    | @cons u p us qs h1 _ ih =>
      obtain ⟨as, h1⟩ := h1
      exact .cons (PySem.W.dataKind_some hal (List.mem_map.mpr ⟨p, hq p List.mem_cons_self, rfl⟩) h1) (ih fun q m => hq q (List.mem_cons_of_mem _ m))
  exact key (fun q m => m) e
theorem sorts_at {P : Program} {w : World} {A : Around} {s0 s1 : Shared} {ps : List (V × PyData)} {us : List Value} (e : EachIs (fun u (p : V × PyData) => ∃ as, Reads s0.heap u p.2 as) us ps) (kp : ∀ b o, s0.heap.get? b = some o → s1.heap.get? b = some o) (hal : AllAlike (ps.map (·.2))) (hk : Sortable (ps.map (·.2))) (hu : ∀ d, d ∈ ps.map (·.2) → A.units + d.depth < cLine) :
    SortsAt P w A s1 (dataKind s1.heap (ps.map (·.2))) us := by
  refine SortsAt.data (each_snd (R := fun u d => ∃ as, Reads s1.heap u d as) ?_) hal hk hu
  exact EachIs.mono (fun u p ⟨as, r⟩ => ⟨as, PyProof.Rows.Reads.keeps kp r⟩) e
/-- sorted(xs), xs a list -/
def rSortedD (K : PySem.W.Frag) : List V → Hp → VK → Prop := fun vs H Q => ∃ (a : Addr) (ps : List (V × PyData)), vs = [V.ref a] ∧ SqL K H a (ps.map (·.1)) ∧ Twos K H ps ∧ AllAlike (ps.map (·.2)) ∧ Sortable (ps.map (·.2)) ∧ (∀ p ∈ ps, p.2.depth ≤ 60) ∧
  ∀ qs p, SortedD ps qs → H p = none → Q (.ref p) (upd H p (.lst (qs.map (·.1))))
theorem cr_sortedD (hu : X.A.units + 64 < cLine) : CallR X (.builtin "sorted") (rSortedD X.K) := by
  intro pins s σ H vs us Q I r h
  obtain ⟨a, ps, rfl, hs, hd, hal, hk, hdp, q⟩ := h
  obtain ⟨its, rv, hl, hz⟩ := I.list hs
  obtain ⟨u, rfl, ru⟩ := vals1 r
  obtain rfl : u = Value.ref a := ru
  have e0 := reads_each I hd rv
  have kp1 : ∀ b o, s.heap.get? b = some o → (PySem.W.sortingHeap (PySem.W.copyHeap s.heap its) (s.heap.objs.size + 1) its).get? b = some o := fun b o e => PySem.W.sorting_copy_old e
  have S := sorts_at (P := X.prog) (w := X.w) (A := X.A.in1.in1) (s0 := s) (s1 := { s with heap := PySem.W.sortingHeap (PySem.W.copyHeap s.heap its) (s.heap.objs.size + 1) its }) e0 kp1 hal hk fun d m => by
    obtain ⟨p, hp, rfl⟩ := List.mem_map.mp m
    have := hdp p hp
    show X.A.units + 1 + 1 + p.2.depth < cLine
    omega
  refine PySem.W.sorted_vals hl.isList S (by rw [← rv.length]; exact hz) ?_
  have e1 : EachIs (fun u (p : V × PyData) => ∃ as, Reads (PySem.W.sortingHeap (PySem.W.copyHeap s.heap its) (s.heap.objs.size + 1) its) u p.2 as) its ps := EachIs.mono (fun u p ⟨as, r⟩ => ⟨as, PyProof.Rows.Reads.keeps kp1 r⟩) e0
  have out := vals_each (sorted_each hal rv e1)
  have hperm := (sortedD_of ps).perm
  obtain ⟨ep, he'⟩ := sortedAll_at s.heap its (sortVals (dataKind (PySem.W.sortingHeap (PySem.W.copyHeap s.heap its) (s.heap.objs.size + 1) its) (ps.map (·.2))) false its its).toArray
  refine ⟨.ref _, upd H (s.heap.objs.size + 1) (.lst ((ps.mergeSort leD).map (·.1))), I.laid (t' := s.toks) (fun _ _ => sortedAll_old) (Nat.le_succ _) ⟨?_, _, ep, out, he'⟩, rfl, q _ _ (sortedD_of ps) (I.hok.fresh (Nat.le_succ _))⟩
  rw [List.length_map, hperm.length_eq, ← List.length_map (f := (·.1))]
  exact hz
/-! ### a set, its values -/
structure SetV0 (w : World) (h : Heap) (a : Addr) (vs : List V) : Prop where
  ex : ∃ (es : Array (Int × Value)) (ep : Nat) (t : SetTable), (∃ o, h.get? a = some o ∧ o.ExactSet ∧ o.data = .set es ep t) ∧ t.fits es.size = true ∧ Ris t.place.toList ∧ (w.params.followText "set-order" = true ∨ t.led = true) ∧ es.size < 2000 ∧ Vals vs (es.toList.map (·.2))
def SetV (w : World) (a : Addr) (vs : List V) : HO := .ext fun h => SetV0 w h a vs
theorem setV_new {P : Program} {w : World} {H : Hp} {h : Heap} {a : Addr} {vs : List V} (R : SetV0 w h a vs) : ObjOk P w H h a (SetV w a vs) := by
  have ⟨es, ep, t, ⟨o, ho, r⟩, q⟩ := R.ex
  refine ⟨R, ⟨o, ho⟩, fun h1 h2 p k => ?_⟩
  have ⟨es', ep', t', ⟨o', ho', r'⟩, q'⟩ := SetV0.ex p
  exact ⟨es', ep', t', ⟨o', k o' ho', r'⟩, q'⟩
end
theorem each_perm {α β : Type} {R : α → β → Prop} : ∀ {us us' : List α}, us'.Perm us → ∀ {bs : List β}, EachIs R us bs → ∃ bs', EachIs R us' bs' ∧ bs'.Perm bs := by
  intro us us' p
  induction p with
  | nil => intro bs h; exact ⟨bs, h, .refl _⟩
  | cons x _ ih =>
    intro bs h
    cases h with
    | cons r t =>
      obtain ⟨bs', e, pm⟩ := ih t
      exact ⟨_ :: bs', .cons r e, pm.cons _⟩
  | swap x y l =>
    intro bs h
    cases h with
    | cons r t =>
      cases t with
      | cons r2 t2 => exact ⟨_, .cons r2 (.cons r t2), .swap _ _ _⟩
  | trans _ _ ih1 ih2 =>
    intro bs h
    obtain ⟨b2, e2, p2⟩ := ih2 h
    obtain ⟨b1, e1, p1⟩ := ih1 e2
    exact ⟨b1, e1, p1.trans p2⟩
section
variable {X : Cx}
/-- sorted(xs), xs a set -/
def rSortedS (K : PySem.W.Frag) (w : World) : List V → Hp → VK → Prop := fun vs H Q => ∃ (a : Addr) (ps : List (V × PyData)), vs = [V.ref a] ∧ H a = some (SetV w a (ps.map (·.1))) ∧ Twos K H ps ∧ AllAlike (ps.map (·.2)) ∧ Sortable (ps.map (·.2)) ∧ (∀ p ∈ ps, p.2.depth ≤ 60) ∧
  ∀ qs p, SortedD ps qs → H p = none → Q (.ref p) (upd H p (.lst (qs.map (·.1))))
theorem cr_sortedS (hc : X.calm = true) (hu : X.A.units + 64 < cLine) : CallR X (.builtin "sorted") (rSortedS X.K X.w) := by
  intro pins s σ H vs us Q I r h
  obtain ⟨a, ps, rfl, ha, hd, hal, hk, hdp, q⟩ := h
  have R : SetV0 X.w s.heap a (ps.map (·.1)) := (I.hok a _ ha).1
  obtain ⟨es, ep, t, ⟨o, ho, hex, hdt⟩, hf, hr, hl, hsz, rv⟩ := R.ex
  obtain ⟨u, rfl, ru⟩ := vals1 r
  obtain rfl : u = Value.ref a := ru
  have e0 := reads_each I hd rv
  refine Calls.call_function_entry kind_sorted plain_sorted entry_sorted (args_sorted1 _) ?_
  unfold Builtin.«sorted»
  refine wpAny_bind (m := checkCount "sorted" 1 1 _) (wpAny_pure ?_)
  refine wpAny_bind (collect_set (A := X.A.in1) (I.ok.hd hc) ⟨o, ho, hex.1, hdt⟩ hf (by unfold scanBound; omega) hr hl fun s1 vs k1 hz g1 o1 pm => ?_)
  obtain ⟨ps1, e1, pm1⟩ := each_perm pm (R := fun u (p : V × PyData) => RelV p.1 u ∧ ∃ as, Reads s.heap u p.2 as) (bs := ps) (by
    have := each_vals rv
    have key : ∀ {us : List Value} {ps : List (V × PyData)}, EachIs (fun u (p : V × PyData) => RelV p.1 u) us ps → EachIs (fun u (p : V × PyData) => ∃ as, Reads s.heap u p.2 as) us ps → EachIs (fun u (p : V × PyData) => RelV p.1 u ∧ ∃ as, Reads s.heap u p.2 as) us ps := by
      intro us ps h1 h2
      induction h1 with
      | nil => exact .nil
      | cons a _ ih =>
        cases h2 with
        | cons b t => exact .cons ⟨a, b⟩ (ih t)
    exact key this e0)
  have hvl : vs.length < 2000 := by
    rw [pm.length_eq, List.length_map, Array.length_toList]
    exact hsz
  have hvz : vs.length ≤ sizeLine := by rw [sizeLine_eq]; omega
  refine wpAny_bind (wpAny_newList ?_ hvz)
  have hoL : (s1.heap.push (seqObj "list" vs.toArray 0)).get? s1.heap.objs.size = some (seqObj "list" vs.toArray 0) := Heap.get?_push_size _ rfl
  have kp1 : ∀ b o, s.heap.get? b = some o → (PySem.W.sortingHeap (s1.heap.push (seqObj "list" vs.toArray 0)) s1.heap.objs.size vs).get? b = some o := fun b o e => by
    have e2 := k1 b o e
    exact PySem.W.sortingHeap_old (Nat.ne_of_lt (Heap.lt_size e2)) (Heap.get?_push_of_some _ e2)
  have hal1 : AllAlike (ps1.map (·.2)) := fun d hd d' hd' => hal d ((pm1.map (·.2)).mem_iff.mp hd) d' ((pm1.map (·.2)).mem_iff.mp hd')
  have hk1 : Sortable (ps1.map (·.2)) := by
    rcases hk with k | k
    · exact .inl fun d m => k d ((pm1.map (·.2)).mem_iff.mp m)
    · exact .inr fun d m => k d ((pm1.map (·.2)).mem_iff.mp m)
  have er : EachIs (fun u (p : V × PyData) => ∃ as, Reads s.heap u p.2 as) vs ps1 := EachIs.mono (fun u p h => h.2) e1
  have S := sorts_at (P := X.prog) (w := X.w) (A := X.A.in1.in1) (s0 := s) (s1 := { s1 with heap := PySem.W.sortingHeap (s1.heap.push (seqObj "list" vs.toArray 0)) s1.heap.objs.size vs }) er kp1 hal1 hk1 fun d m => by
    obtain ⟨p, hp, rfl⟩ := List.mem_map.mp m
    have := hdp p (pm1.mem_iff.mp hp)
    show X.A.units + 1 + 1 + p.2.depth < cLine
    omega
  refine wpAny_bind (wpAny_holding (wpAny_call_entry slot_list_sort ⟨_, hoL, rfl⟩ entry_list_sort (PySem.W.list_sort_vals (s := { s1 with heap := s1.heap.push (seqObj "list" vs.toArray 0) }) hoL S hvz ⟨_, rfl, ?_⟩) (args_list_sort _)))
  have rv1 : Vals (ps1.map (·.1)) vs := vals_each (EachIs.mono (fun u p h => h.1) e1)
  have out := vals_each (sorted_each hal1 rv1 (EachIs.mono (fun u p ⟨as, r⟩ => ⟨as, PyProof.Rows.Reads.keeps kp1 r⟩) er))
  have sd := sortedD_of ps1
  obtain ⟨c, hc'⟩ := sortedHeap_at (vs := vs) (out := (sortVals (dataKind (PySem.W.sortingHeap (s1.heap.push (seqObj "list" vs.toArray 0)) s1.heap.objs.size vs) (ps1.map (·.2))) false vs vs).toArray) hoL
  have hn : H s1.heap.objs.size = none := I.hok.fresh hz
  have keep : ∀ b u, s.heap.get? b = some u → (sortedHeap (s1.heap.push (seqObj "list" vs.toArray 0)) s1.heap.objs.size vs (sortVals (dataKind (PySem.W.sortingHeap (s1.heap.push (seqObj "list" vs.toArray 0)) s1.heap.objs.size vs) (ps1.map (·.2))) false vs vs).toArray).get? b = some u := fun b u e => by
    have q := k1 b u e
    have hlt := Heap.lt_size q
    rw [sortedHeap_old (Nat.ne_of_lt hlt) (by rw [size_push']; exact Nat.lt_succ_of_lt hlt)]
    exact Heap.get?_push_of_some _ q
  have hlen : ((ps1.mergeSort leD).map (·.1)).length ≤ sizeLine := by
    rw [List.length_map, sd.perm.length_eq, ← List.length_map (f := (·.1)), rv1.length]
    exact hvz
  have J : Inv X pins σ (upd H s1.heap.objs.size (.lst ((ps1.mergeSort leD).map (·.1)))) { s with heap := _, gens := s1.gens, drawn := s1.drawn, toks := s1.toks } :=
    I.call (ch := []) (Un.laid keep hz hn) (I.hok.laid keep hz ⟨hlen, _, c, out, hc'⟩) (by rw [g1]; exact I.bare) (fun _ z => nomatch z)
  have e2 : ∀ hh : Heap, ({ heap := hh, gens := s1.gens, drawn := s1.drawn, toks := s1.toks, os := s1.os } : Shared) = { s with heap := hh, gens := s1.gens, drawn := s1.drawn, toks := s1.toks } := fun hh => by rw [o1]
  refine wpAny_pure ⟨_, rfl, ?_⟩
  show EP X pins σ Q _ ({ heap := _, gens := s1.gens, drawn := s1.drawn, toks := s1.toks, os := s1.os } : Shared)
  rw [e2]
  exact ⟨.ref s1.heap.objs.size, _, J, rfl, q _ _ ⟨sd.perm.trans pm1, sd.asc⟩ hn⟩
end
end My

set_option Elab.async false
set_option maxRecDepth 100000
set_option maxHeartbeats 4000000
set_option linter.all false
/-! Rules that the clauses' laws share. -/
namespace My
open PySem L2
theorem ints_all {K : PySem.W.Frag} {H : Hp} : ∀ c : List Int, DpAll K H (c.map V.int) (c.map PyData.int)
  | [] => .nil
  | x :: c => .cons (.int x) (ints_all c)
theorem inV_ints {x : Int} : ∀ {ms : List Int}, inV (.int x) (ms.map V.int) = decide (x ∈ ms)
  | [] => by simp [inV]
  | y :: ys => by
    have ih := inV_ints (x := x) (ms := ys)
    unfold inV at ih ⊢
    rw [List.map_cons, List.any_cons, ih]
    show (y == x || decide (x ∈ ys)) = decide (x ∈ y :: ys)
    by_cases h : y = x
    · subst h
      simp
    · have h' : ¬ x = y := fun e => h e.symm
      simp [h, h']
theorem flat_ints : ∀ ms : List Int, (ms.map V.int).all flatV = true
  | [] => rfl
  | x :: ms => by rw [List.map_cons, List.all_cons, flat_ints ms] <;> rfl
/-! rules within a comprehension: the fragment named from outside -/
section
variable {X : Cx} {K : PySem.W.Frag}
theorem ix_seqK (h : X.K = K) : IxR X (rIx K) := h ▸ ix_seq
theorem ix_listK (h : X.K = K) : IxR X (rIxL K) := h ▸ ix_list
theorem ix_tupK (h : X.K = K) : IxR X (rIxT K) := h ▸ ix_tup
theorem call_len_seqK (h : X.K = K) : CallR X (.builtin "len") (fun xs H Q => ∃ p ys, xs = [.ref p] ∧ (SqL K H p ys ∨ SqT K H p ys) ∧ Q (.int ys.length) H) := h ▸ call_len_seq
theorem op_in_seqK (h : X.K = K) : OpR X (compareOp .In) (rIn K false) := h ▸ op_in_seq
theorem op_notIn_seqK (h : X.K = K) : OpR X (compareOp .NotIn) (rIn K true) := h ▸ op_notIn_seq
theorem op_neDK (h : X.K = K) (hu : X.A.units + 64 < cLine) : OpR X (compareOp .NotEq) (rNeD K) := h ▸ op_neD hu
theorem op_eqDK (h : X.K = K) (hu : X.A.units + 64 < cLine) : OpR X (compareOp .Eq) (rEqD K) := h ▸ op_eqD hu
end
section
variable {X : Cx} {tg : Expr}
/-- over a list or a tuple -/
def iSeq (K : PySem.W.Frag) (tl : TE) : TI := fun σ H R => tl σ H fun x H1 => ∃ a, x = .ref a ∧ (((∃ xs, SqL K H1 a xs) ∧ R (Itl K a) H1) ∨ ((∃ xs, SqT K H1 a xs) ∧ R (Itt K a) H1))
theorem pi_seq {l : Expr} {tl : TE} (hl : PE X l tl) : PI X tg l (iSeq X.K tl) := by
  refine ⟨fun pins s σ H R I h => ?_⟩
  refine thn (hl.run pins s σ H _ I h) fun v s1 ⟨x, H1, I1, r1, q1⟩ => ?_
  have none' : ∀ b ∈ [s1.heap.objs.size], FpOk X pins H1 b := fun b hb => by
    have e : b = s1.heap.objs.size := by simpa using hb
    rw [e]
    exact I1.fpOk (Nat.le_refl _) (I1.hok.fresh (Nat.le_refl _))
  obtain ⟨a, rfl, ⟨⟨xs, hq⟩, q⟩ | ⟨⟨xs, hq⟩, q⟩⟩ := q1
  · obtain ⟨its, _, p, _⟩ := I1.list hq
    obtain rfl : v = Value.ref a := r1
    exact wpAny_pyIter_list p.isList ⟨_, _, _, _, H1, rfl, I1.kept (t' := s1.toks) fun b o e => Heap.get?_push_of_some _ e, turn_list a _, ⟨_, Heap.get?_push_size _ rfl, rfl, rfl⟩, none', q⟩
  · obtain ⟨its, _, p, _⟩ := I1.tuple hq
    obtain rfl : v = Value.ref a := r1
    exact wpAny_pyIter_tuple (show s1.heap.IsTuple a its.toArray from p) ⟨_, _, _, _, H1, rfl, I1.kept (t' := s1.toks) fun b o e => Heap.get?_push_of_some _ e, turn_tuple a _, ⟨_, Heap.get?_push_size _ rfl, rfl, rfl⟩, none', q⟩
end
end My

set_option Elab.async false
set_option maxRecDepth 100000
set_option maxHeartbeats 4000000
set_option linter.all false
namespace My
open PySem PySem.Spec L2
theorem yesV {σ : L2.St} {H : Hp} {Q : Bool → Hp → Prop} (h : Q true H) : tYes σ H Q := h
theorem take_nextV {α : Type} {l : List α} {i : Nat} {x : α} (h : l[i]? = some x) : l.take (i + 1) = l.take i ++ [x] := by
  rw [List.take_add_one, h]
  rfl
theorem lenV {n : Nat} (h : n ≤ 1000) : n < sizeLine := Nat.lt_of_le_of_lt h (by decide)
/-- [f(x) for x in t], t a tuple -/
theorem lc_mapT {K : PySem.W.Frag} {a : Addr} {xs : List V} {k : Nat} {te : TE} {vs : List Nat} {σ : L2.St} {H1 : Hp} {D : Addr} {Qd : Hp → Prop} (f : V → V) (ha : SqT K H1 a xs) (hl : xs.length ≤ 1000) (hD : H1 D = none) (hw : ∀ x, wipe ((wipe σ vs).set k (some x)) vs = wipe σ vs)
    (he : ∀ y H2 (R : VK), y ∈ xs → Same H1 H2 → R (f y) H2 → te ((wipe σ vs).set k (some y)) H2 R)
    (hq : ∀ H2, H2 D = some (.lst (xs.map f)) → Same H1 H2 → Qd H2) :
    ∃ W : Nat → Nat → Hp → Prop, (∃ m, W 0 m (upd H1 D (.lst []))) ∧ ∀ i m H, W i m H →
      ((Itt K a).stop i H ∧ Qd H) ∨ ((Itt K a).go i H ∧ ∃ Nx : Hp → Prop, (∀ H', Nx H' → ∃ m', m' < m ∧ W (i + 1) m' H') ∧ ∀ x H', (Itt K a).yld i H x H' → gName k x (wipe σ vs) H' fun σ2 H2 => wipe σ2 vs = wipe σ vs ∧ tYes σ2 H2 fun b H3 =>
        if b = true then te σ2 H3 fun y H4 => ∃ acc, H4 D = some (.lst acc) ∧ acc.length < sizeLine ∧ Nx (upd H4 D (.lst (acc ++ [y]))) else Nx H3) := by
  refine lc_tup (K := K) (a := a) (xs := xs) (fun i H2 => H2 D = some (.lst ((xs.take i).map f)) ∧ Same H1 H2 ∧ i ≤ xs.length) ⟨upd_same, same_new hD _, Nat.zero_le _⟩ (fun i H2 _ ⟨_, s, _⟩ => sqt_mono s ha) ?_ ?_
  · rintro i y H2 hi ⟨h1, s, _⟩
    have hi' : i < xs.length := (List.getElem?_eq_some_iff.mp hi).1
    refine ⟨hw y, ?_⟩
    refine yesV ?_
    rw [if_pos rfl]
    refine he y H2 _ (List.mem_of_getElem? hi) s ⟨_, h1, ?_, ?_, fun b o hb => ?_, hi'⟩
    · rw [List.length_map, List.length_take]
      exact lenV (by omega)
    · rw [upd_same, take_nextV hi, List.map_append] <;> rfl
    · rw [upd_ne (ne_of_none hb hD)]
      exact s b o hb
  · rintro H2 ⟨h1, s, _⟩
    rw [List.take_length] at h1
    exact hq H2 h1 s
/-- [f(x) for x in xs], xs a list -/
theorem lc_mapL {K : PySem.W.Frag} {a : Addr} {xs : List V} {k : Nat} {te : TE} {vs : List Nat} {σ : L2.St} {H1 : Hp} {D : Addr} {Qd : Hp → Prop} (f : V → V) (ha : SqL K H1 a xs) (hl : xs.length ≤ 1000) (hD : H1 D = none) (hw : ∀ x, wipe ((wipe σ vs).set k (some x)) vs = wipe σ vs)
    (he : ∀ y H2 (R : VK), y ∈ xs → Same H1 H2 → R (f y) H2 → te ((wipe σ vs).set k (some y)) H2 R)
    (hq : ∀ H2, H2 D = some (.lst (xs.map f)) → Same H1 H2 → Qd H2) :
    ∃ W : Nat → Nat → Hp → Prop, (∃ m, W 0 m (upd H1 D (.lst []))) ∧ ∀ i m H, W i m H →
      ((Itl K a).stop i H ∧ Qd H) ∨ ((Itl K a).go i H ∧ ∃ Nx : Hp → Prop, (∀ H', Nx H' → ∃ m', m' < m ∧ W (i + 1) m' H') ∧ ∀ x H', (Itl K a).yld i H x H' → gName k x (wipe σ vs) H' fun σ2 H2 => wipe σ2 vs = wipe σ vs ∧ tYes σ2 H2 fun b H3 =>
        if b = true then te σ2 H3 fun y H4 => ∃ acc, H4 D = some (.lst acc) ∧ acc.length < sizeLine ∧ Nx (upd H4 D (.lst (acc ++ [y]))) else Nx H3) := by
  refine lc_list (K := K) (a := a) (xs := xs) (fun i H2 => H2 D = some (.lst ((xs.take i).map f)) ∧ Same H1 H2 ∧ i ≤ xs.length) ⟨upd_same, same_new hD _, Nat.zero_le _⟩ (fun i H2 _ ⟨_, s, _⟩ => sql_mono s ha) ?_ ?_
  · rintro i y H2 hi ⟨h1, s, _⟩
    have hi' : i < xs.length := (List.getElem?_eq_some_iff.mp hi).1
    refine ⟨hw y, ?_⟩
    refine yesV ?_
    rw [if_pos rfl]
    refine he y H2 _ (List.mem_of_getElem? hi) s ⟨_, h1, ?_, ?_, fun b o hb => ?_, hi'⟩
    · rw [List.length_map, List.length_take]
      exact lenV (by omega)
    · rw [upd_same, take_nextV hi, List.map_append] <;> rfl
    · rw [upd_ne (ne_of_none hb hD)]
      exact s b o hb
  · rintro H2 ⟨h1, s, _⟩
    rw [List.take_length] at h1
    exact hq H2 h1 s
/-- [f(x) for x in xs], where the heap may grow -/
theorem lc_mapLS {K : PySem.W.Frag} {a : Addr} {xs : List V} {k : Nat} {te : TE} {vs : List Nat} {σ : L2.St} {H1 : Hp} {D : Addr} {Qd : Hp → Prop} (f : V → V) (ha : SqL K H1 a xs) (hl : xs.length ≤ 1000) (hD : H1 D = none) (hw : ∀ x, wipe ((wipe σ vs).set k (some x)) vs = wipe σ vs)
    (he : ∀ y H2 (R : VK), y ∈ xs → Same H1 H2 → (∀ H3, Same H2 H3 → R (f y) H3) → te ((wipe σ vs).set k (some y)) H2 R)
    (hq : ∀ H2, H2 D = some (.lst (xs.map f)) → Same H1 H2 → Qd H2) :
    ∃ W : Nat → Nat → Hp → Prop, (∃ m, W 0 m (upd H1 D (.lst []))) ∧ ∀ i m H, W i m H →
      ((Itl K a).stop i H ∧ Qd H) ∨ ((Itl K a).go i H ∧ ∃ Nx : Hp → Prop, (∀ H', Nx H' → ∃ m', m' < m ∧ W (i + 1) m' H') ∧ ∀ x H', (Itl K a).yld i H x H' → gName k x (wipe σ vs) H' fun σ2 H2 => wipe σ2 vs = wipe σ vs ∧ tYes σ2 H2 fun b H3 =>
        if b = true then te σ2 H3 fun y H4 => ∃ acc, H4 D = some (.lst acc) ∧ acc.length < sizeLine ∧ Nx (upd H4 D (.lst (acc ++ [y]))) else Nx H3) := by
  refine lc_list (K := K) (a := a) (xs := xs) (fun i H2 => H2 D = some (.lst ((xs.take i).map f)) ∧ Same H1 H2 ∧ i ≤ xs.length) ⟨upd_same, same_new hD _, Nat.zero_le _⟩ (fun i H2 _ ⟨_, s, _⟩ => sql_mono s ha) ?_ ?_
  · rintro i y H2 hi ⟨h1, s, _⟩
    have hi' : i < xs.length := (List.getElem?_eq_some_iff.mp hi).1
    refine ⟨hw y, ?_⟩
    refine yesV ?_
    rw [if_pos rfl]
    refine he y H2 _ (List.mem_of_getElem? hi) s fun H3 s3 => ⟨_, s3 _ _ h1, ?_, ?_, fun b o hb => ?_, hi'⟩
    · rw [List.length_map, List.length_take]
      exact lenV (by omega)
    · rw [upd_same, take_nextV hi, List.map_append] <;> rfl
    · rw [upd_ne (ne_of_none hb hD)]
      exact s3 _ _ (s b o hb)
  · rintro H2 ⟨h1, s, _⟩
    rw [List.take_length] at h1
    exact hq H2 h1 s
end My

set_option Elab.async false
set_option maxRecDepth 100000
set_option maxHeartbeats 400000
set_option linter.all false
/-! enumerate(xs, start=1) as a loop or in a comprehension. -/
namespace My
open PySem PySem.Spec PyProof.Rows L2
theorem draws_shift {prog : Program} {w : World} {A : Around} {it : Addr} {fp : List Addr} {n : Nat} {P : Nat → Value → Prop} {St : Nat → Heap → Prop} (D : Draws prog w A it fp n P St) : Draws prog w A it fp (n + 1) (fun i x => P (i - 1) x) (fun i h => 1 ≤ i ∧ St (i - 1) h) where
  live := fun i h st => D.live _ h st.2
  frame := fun i h h' st k => ⟨st.1, D.frame _ h h' st.2 k⟩
  item := fun i s Q E hi st hQ => D.item (i - 1) s Q E (by have := st.1; omega) st.2 fun x h' tk p q r => hQ x h' tk p ⟨Nat.succ_le_succ (Nat.zero_le _), by
    have e : i + 1 - 1 = i - 1 + 1 := by have := st.1; omega
    rw [e]; exact q⟩ r
  done := fun s Q E st hE => D.done s Q E st.2 hE
/-- the list at a, each item in a new pair with its number from 1 on -/
def Ite1 (K : PySem.W.Frag) (a : Addr) : It :=
  ⟨fun i H => ∃ (xs : List V) (x : V), SqL K H a xs ∧ xs[i]? = some x, fun i H v H' => ∃ T x, v = .ref T ∧ H T = none ∧ H' = upd H T (.tup [.int ((i + 1 : Nat) : Int), x]) ∧ ∀ xs, SqL K H a xs → xs[i]? = some x, fun i H => ∃ xs : List V, SqL K H a xs ∧ xs.length = i⟩
theorem turn_enum1 {P : Program} {w : World} {K : PySem.W.Frag} {elts : List Expr} {kk : Nat} {tpos : Pos} (a e it : Addr) (hat : a ≠ it) (hae : a ≠ e) :
    Turn P w K (.Tuple elts kk tpos) (Ite1 K a) [e, it] e (fun i h => (∃ old, IsEnum h e it ((i + 1 : Nat) : Int) old) ∧ h.IsListIter it a i ∧ e ≠ it) where
  mem := by simp
  obj := fun i h st b hb => by
    obtain ⟨⟨old, he⟩, ⟨o, ho, hc, hd⟩, _⟩ := st
    have e' : b = e ∨ b = it := by simpa using hb
    rcases e' with z | z
    · rw [z]; exact ⟨_, he, fun v q => nomatch q⟩
    · rw [z]; exact ⟨o, ho, fun v q => by rw [hd] at q; cases q⟩
  keep := fun i h h' st k => let ⟨⟨old, he⟩, hi, hne⟩ := st; ⟨⟨old, k e (by simp) _ he⟩, hi.at fun o q => k it (by simp) o q, hne⟩
  item := by
    intro X hP hw hK hc i pins s σ H E I hf st hg
    subst hP hw hK
    obtain ⟨⟨old, he⟩, hit, hne⟩ := st
    obtain ⟨xs, x, hq, hx⟩ := hg
    obtain ⟨its, rv, p, hz⟩ := I.list hq
    obtain ⟨u, hu, ru⟩ := rv.get hx
    have hel : e < s.heap.objs.size := Heap.lt_size he
    have hil : it < s.heap.objs.size := by obtain ⟨_, q, _⟩ := hit; exact Heap.lt_size q
    have hiu : i < its.length := (List.getElem?_eq_some_iff.mp hu).1
    have DD := draws_shift (Draws.list (prog := X.prog) (w := X.w) (A := X.A.in1) (I.ok.hd hc) it a hat its.toArray)
    refine wpAny_pyNext_enum_itemD DD (i := i + 1) he ⟨Nat.succ_le_succ (Nat.zero_le _), hit, p.isList⟩ (by rw [List.size_toArray]; omega) hne (by simp [hne, Ne.symm hae]) fun x' h' tk px ho st' hT hsz hk => ?_
    have ex : x' = u := by
      have px' : its.toArray[i]? = some x' := px
      have : its.toArray[i]? = some u := by simpa using hu
      rw [this] at px'
      exact (Option.some.inj px').symm
    subst ex
    refine ⟨_, rfl, wpAny_letOwnedTupleGo_enum (s := { s with heap := h', toks := tk + 1 }) ho fun h'' he' sb => ?_⟩
    have hT2 : h''.get? s.heap.objs.size = some { cls := .type "tuple", data := .seq #[.int ((i + 1 : Nat) : Int) tk, x'] } := (sb.2 _ (Nat.ne_of_gt hel)).trans hT
    have new : ObjOk X.prog X.w (upd H s.heap.objs.size (.tup [.int ((i + 1 : Nat) : Int), x])) h'' s.heap.objs.size (.tup [.int ((i + 1 : Nat) : Int), x]) :=
      ⟨by show 2 ≤ sizeLine; decide, [.int ((i + 1 : Nat) : Int) tk, x'], .cons ⟨_, rfl⟩ (.cons ru .nil), ⟨_, hT2, rfl, _, rfl⟩⟩
    have I1 : Inv X pins σ (upd H s.heap.objs.size (.tup [.int ((i + 1 : Nat) : Int), x])) { s with heap := h'', toks := tk + 1 } :=
      I.turnedNew (ch := [e, it]) (fun b ob hb q => (sb.2 b (fun z => hb (by simp [z]))).trans (hk b ob (fun z => hb (by simp [z])) (fun z => hb (by simp [z])) q)) hf (Nat.le_refl _) new
    refine ⟨.ref s.heap.objs.size, _, I1, rfl, ⟨_, x, rfl, I.hok.fresh (Nat.le_refl _), rfl, fun ys hy => by rw [I.list_inj hy hq]; exact hx⟩, ⟨⟨x', ?_⟩, st'.2.1.at fun o q => (sb.2 it (Ne.symm hne)).trans q, hne⟩, fun b hb => ?_⟩
    · have e1 : ((i + 1 + 1 : Nat) : Int) = ((i + 1 : Nat) : Int) + 1 := by omega
      rw [e1]; exact he'
    · have hb' : b < s.heap.objs.size := by
        have e' : b = e ∨ b = it := by simpa using hb
        rcases e' with z | z
        · rw [z]; exact hel
        · rw [z]; exact hil
      rw [upd_ne (Nat.ne_of_lt hb')]
      exact (hf b hb).1
  done := by
    intro X hP hw hK hc i pins s σ H E I hf st hg
    subst hP hw hK
    obtain ⟨⟨old, he⟩, hit, hne⟩ := st
    obtain ⟨xs, hq, hx⟩ := hg
    obtain ⟨its, rv, p, hz⟩ := I.list hq
    obtain ⟨f0, f1, f2, f3, f4, f5⟩ := hf it (by simp)
    have hl := rv.length
    have DD := draws_shift (Draws.list (prog := X.prog) (w := X.w) (A := X.A.in1) (I.ok.hd hc) it a hat its.toArray)
    refine wpAny_pyNext_enum_endD DD he ⟨Nat.succ_le_succ (Nat.zero_le _), ?_, p.isList⟩ fun h' eb => ⟨rfl, I.turned (t' := s.toks) (fun b o hb q => eb b o hb q) f0 f1 f3 f4 f5⟩
    have ei : its.toArray.size = i := by rw [List.size_toArray]; omega
    show s.heap.IsListIter it a (its.toArray.size + 1 - 1)
    rw [ei]
    exact hit
  self := fun A i s Q E st h => let ⟨⟨_, he⟩, _⟩ := st; wpAny_pyIter_enum he h
section
variable {M : Model} {A : Around} {E : Value → Shared → Prop} {s : Shared} {env : Env}
theorem callWith_typeKwB {pos : Pos} {id : String} {first : List Value} {args : List (Bool × Sem Value)} {keywords : List (Option Str × Sem Value)} {Q : Value → Shared → Prop}
    (hplain : args.any (·.1) = false) (hkw : keywords.any (·.1.isNone) = false)
    (h : wpAny M A (evalArgs (.type id) true args keywords) (fun a s₁ => wpAny M A (call (.type id) (first ++ a.pos) a.kw) Q E s₁) E s) :
    wpAny M A (callWith pos (.type id) first args keywords) Q E s := by
  unfold callWith
  refine wpAny_bind (wpAny_holding (wpAny_mono h (fun a s₁ h₁ => wpAny_bind (wpAny_standAt ?_)) fun _ _ x => x))
  simp only [hplain, hkw, Bool.or_false]
  refine wpAny_bind (wpAny_pure ?_)
  exact wpAny_bind (wpAny_mono h₁ (fun r s₂ hr => wpAny_bind (wpAny_holding (wpAny_point (wpAny_pure hr)))) fun _ _ x => x)
theorem callWith_typeKw {pos : Pos} {id : String} {e : Expr} {rest : List Expr} {kws : List Keyword} {Q : Value → Shared → Prop}
    (h : wpAny M A (spliced (backTo pos (starEach (e :: rest) env))) (fun vs s₁ => wpAny M A (evalAll ((backToKw pos (keywordEach kws env)).map (·.2)))
      (fun kvs s₂ => wpAny M A (call (.type id) vs (((backToKw pos (keywordEach kws env)).filterMap (·.1)).zip kvs)) Q E s₂) E s₁) E s)
    (he : backTo pos (starEach (e :: rest) env) = (false, eval e env) :: backTo pos (starEach rest env))
    (hplain : (backTo pos (starEach (e :: rest) env)).any (·.1) = false)
    (hall : (backToKw pos (keywordEach kws env)).all (·.1.isSome) = true)
    (hkw : (backToKw pos (keywordEach kws env)).any (·.1.isNone) = false) :
    wpAny M A (callWith pos (.type id) [] (backTo pos (starEach (e :: rest) env)) (backToKw pos (keywordEach kws env))) Q E s := by
  refine callWith_typeKwB hplain hkw ?_
  rw [he] at h ⊢
  exact PyProof.Rows.evalArgs_kwB hall h
end
def iEnum1 (K : PySem.W.Frag) (ta : TE) : TI := fun σ H R => ta σ H fun x H1 => ∃ a xs, x = .ref a ∧ SqL K H1 a xs ∧ R (Ite1 K a) H1
theorem pi_enum1 {X : Cx} {K : PySem.W.Frag} (hK : X.K = K) {e : Expr} {ta : TE} {p pos tpos kpos : Pos} {elts : List Expr} {kk : Nat} {j : Nat} {jp : Pos} (hg : Gl X "enumerate") (hm : X.mg "enumerate" = none) (ha : PE X e ta)
    (hs : starEach [e] X.env = (false, eval e X.env) :: starEach [] X.env := by rfl) (hb : backTo pos (starEach [e] X.env) = (false, eval e X.env) :: backTo pos (starEach [] X.env) := by rfl) (hpl : (backTo pos (starEach [e] X.env)).any (·.1) = false := by rfl) :
    PI X (.Tuple elts kk tpos) (.Call (.Name "enumerate" p) [e] [⟨some "start", .Constant (.int 1) j jp, kpos⟩] pos) (iEnum1 K ta) := by
  subst hK
  refine ⟨fun pins s σ H R I h => ?_⟩
  have h' : tCons ta tNil σ H (fun vs H1 => match vs with
    | [x] => ∃ a xs, x = .ref a ∧ SqL X.K H1 a xs ∧ R (Ite1 X.K a) H1
    | _ => False) := h
  refine wpAny_Call_Name_kw (ld_blt I hg hm boot_enumerate ?_)
  refine callWith_typeKw (thn ((pa_cons ha pa_nil hs).run pos pins s σ H _ I h') fun us s1 ⟨vs, H1, I1, r1, q1⟩ => ?_) hb hpl rfl rfl
  obtain ⟨x, rfl⟩ : ∃ x, vs = [x] := by
    match vs, q1 with
    | [x], _ => exact ⟨x, rfl⟩
  obtain ⟨a, xs, rfl, hq, q⟩ := q1
  obtain rfl := Vals.ref1 r1
  refine wpAny_evalAll_cons (wpAny_bind (wpAny_Constant_int (wpAny_bind (wpAny_standAt (wpAny_pure (wpAny_evalAll_nil ?_))))))
  have I1' := I1.tok (s1.toks + 1)
  obtain ⟨its, rv, p', hz⟩ := I1'.list hq
  have hal : a < s1.heap.objs.size := by
    obtain ⟨o, ho, _⟩ := p'.isList
    exact Heap.lt_size ho
  refine enum_begins_start (begins_list a its.toArray) p'.isList (by decide) (by decide) fun h' he hit hsz hk => wpAny_pyIter_enum he ?_
  have I2 : Inv X pins σ H1 { s1 with heap := h', toks := s1.toks + 1 } := I1'.kept (t' := s1.toks + 1) hk
  refine ⟨s1.heap.objs.size + 1, [s1.heap.objs.size + 1, s1.heap.objs.size], _, _, H1, rfl, I2, turn_enum1 a (s1.heap.objs.size + 1) s1.heap.objs.size (Nat.ne_of_lt hal) (Nat.ne_of_lt (Nat.lt_succ_of_lt hal)), ⟨⟨.none, he⟩, ⟨_, hit, rfl, rfl⟩, Nat.succ_ne_self _⟩, fun b hb => ?_, q⟩
  have e' : b = s1.heap.objs.size + 1 ∨ b = s1.heap.objs.size := by simpa using hb
  have hle : s1.heap.objs.size ≤ b := by
    rcases e' with z | z
    · rw [z]; exact Nat.le_add_right _ _
    · rw [z]; exact Nat.le_refl _
  exact I1.fpOk hle (I1.hok.fresh hle)
theorem walk_enum1 {K : PySem.W.Frag} {a : Addr} {xs : List V} : Walk (Ite1 K a) xs.length (fun H => SqL K H a xs) (YPair (fun i => some (.int ((i + 1 : Nat) : Int))) (fun i => xs[i]?)) := by
  refine ⟨fun i _ hi q => ⟨xs, xs[i], q, by simp [hi]⟩, fun _ q => ⟨xs, q, rfl⟩, fun i H v H' _ q y => ?_⟩
  obtain ⟨T, x, h1, h2, h3, h4⟩ := y
  exact ⟨T, .int ((i + 1 : Nat) : Int), x, h1, h2, h3, rfl, h4 xs q⟩
end My

set_option Elab.async false
set_option maxRecDepth 100000
set_option maxHeartbeats 4000000
set_option linter.all false
/-! sorted(t, key=abs), t a tuple of whole numbers. -/
namespace PyProof.Rows
open PySem
section
variable {prog : Program} {w : World} {A : Around} {E : Value → Shared → Prop} {s : Shared} {h₀ : Heap} {L l : Addr} {m : Str → Option Value} {news : List (Addr × Obj)} {b : Bool} {vs : List Value} {Q : Value → Shared → Prop}
theorem my_sortedTup {kz : List Int} {f : Value} {kw : List (Str × Value)} (F : Fr h₀ L s.heap m) (N : News h₀ L s.heap news) (hl : IsTup s.heap l vs.toArray) (hlen : kz.length = vs.length) (hZ : vs.length ≤ sizeLine)
    (ha1 : argsOk "sorted" ⟨[.ref l], kw⟩) (ha2 : ∀ x, argsOk "list.sort" ⟨[.ref x], kw⟩) (ht : ∀ x, Builtin.«list.sort» ⟨[.ref x], kw⟩ = ksk_tree x f b)
    (turn : ∀ (i : Nat) (v : Value) (k : Int), vs[i]? = some v → kz[i]? = some k → ∀ (h : Heap) (tk : Nat) (own : List (Addr × Obj)), Fr h₀ L h m → News h₀ L h (news ++ own) →
      wpAny (model prog w) A.in1.in1 (call f [v]) (KskEnd h₀ L m (news ++ own) k { s with heap := h, toks := tk }) (fun _ _ => False) { s with heap := h, toks := tk })
    (h : ∀ D h' tk out c, Fr h₀ L h' m → News h₀ L h' ((D, seqObj "list" out c) :: news) → (∀ q ∈ news, q.1 < D) → KskOut b kz vs out.toList → Q (.ref D) { s with heap := h', toks := tk }) :
    wpAny (model prog w) A (call (.builtin "sorted") [.ref l] kw) Q E s := by
  have hZ2 := hZ
  rw [sizeLine_eq] at hZ2
  obtain ⟨o, ho, hc, n, hd⟩ := hl
  refine call_function_entry_kw kind_sorted plain_sorted entry_sorted ha1 ?_
  unfold Builtin.«sorted»
  refine wpAny_bind (m := checkCount "sorted" 1 1 _) (wpAny_pure ?_)
  refine wpAny_bind (wpAny_collect_seq l (.inr rfl) ho hc hd (fun h1 k1 => ?_) (by show vs.toArray.size ≤ _; rw [List.size_toArray]; exact hZ))
  have el : vs.toArray.toList = vs := by simp
  rw [el]
  refine wpAny_bind (wpAny_newList ?_ (by rw [sizeLine_eq]; omega))
  have hoL : (h1.push (seqObj "list" vs.toArray 0)).get? h1.objs.size = some (seqObj "list" vs.toArray 0) := Heap.get?_push_size _ rfl
  have keep : ∀ b o, s.heap.get? b = some o → (h1.push (seqObj "list" vs.toArray 0)).get? b = some o := fun b o q => Heap.get?_push_of_some _ (k1 b o q)
  have up : ∀ b o, s.heap.get? b = some o → b < h1.objs.size := fun b o q => Heap.lt_size (k1 b o q)
  obtain ⟨oL, hoL0⟩ : ∃ o, s.heap.get? L = some o := by
    obtain ⟨o, _, _, e, _⟩ := F.ns
    exact ⟨o, e⟩
  have hL : L < h1.objs.size := up L oL hoL0
  show wpAny _ _ _ _ _ { s with heap := h1.push (seqObj "list" vs.toArray 0) }
  refine wpAny_bind (wpAny_holding (wpAny_call_entry_kw slot_list_sort ⟨_, hoL, rfl⟩ entry_list_sort ?body (ha2 _)))
  case body =>
    show wpAny (model prog w) A.in1.in1 (Builtin.«list.sort» ⟨[.ref h1.objs.size], kw⟩) _ _ _
    rw [ht h1.objs.size]
    refine ksk_sortAny (s := { s with heap := h1.push (seqObj "list" vs.toArray 0) })
      (F.kept keep) (N.grown keep) hoL (Nat.ne_of_gt hL) (Heap.get?_none_of_le (Nat.le_trans F.above (Nat.le_of_lt hL)))
      (fun p hp => Nat.ne_of_lt (up _ _ (N p hp).1)) hlen hZ turn fun h' tk out c F' N' k' => ⟨_, rfl, ?_⟩
    exact wpAny_pure ⟨_, rfl, h _ h' tk out c F' N' (fun q hq => up _ _ (N q hq).1) k'⟩
end
end PyProof.Rows
namespace My
open PySem PySem.Spec PyProof.Rows L2
/-- all that stands apart from the frame and what stood at the beginning -/
def othersOf (base h : Heap) (L : Addr) : List (Addr × Obj) := (List.range h.objs.size).filterMap fun b => if b = L then none else match base.get? b with
  | some _ => none
  | none => (h.get? b).map fun o => (b, o)
theorem others_news (base h : Heap) (L : Addr) : News base L h (othersOf base h L) := fun p hp => by
  obtain ⟨b, _, e⟩ := List.mem_filterMap.mp hp
  by_cases hb : b = L
  · rw [if_pos hb] at e; cases e
  · rw [if_neg hb] at e
    cases hq : base.get? b with
    | some o => rw [hq] at e; cases e
    | none =>
      rw [hq] at e
      obtain ⟨o, ho, rfl⟩ := Option.map_eq_some_iff.mp e
      exact ⟨ho, hb, hq⟩
theorem others_mem {base h : Heap} {L b : Addr} {o : Obj} (hb : b ≠ L) (hq : base.get? b = none) (ho : h.get? b = some o) : (b, o) ∈ othersOf base h L := by
  refine List.mem_filterMap.mpr ⟨b, List.mem_range.mpr (Heap.lt_size ho), ?_⟩
  rw [if_neg hb, hq, ho]
  rfl
theorem objok_some {P : Program} {w : World} {H : Hp} {h : Heap} {a : Addr} {o : HO} (x : ObjOk P w H h a o) : ∃ ob, h.get? a = some ob := by
  cases o with
  | lst xs => obtain ⟨_, _, _, _, e⟩ := x; exact ⟨_, e⟩
  | tup xs => obtain ⟨_, _, _, ob, e, _⟩ := x; exact ⟨ob, e⟩
  | dK kvs => obtain ⟨_, _, _, _, o, _, _, e, _⟩ := x; exact ⟨_, e⟩
  | dT kvs => obtain ⟨_, _, _, _, o, _, _, e, _⟩ := x; exact ⟨_, e⟩
  | set S n => obtain ⟨o, _, _, _, e, _⟩ := x; exact ⟨_, e⟩
  | ins C dx fs => obtain ⟨_, _, _, e, _⟩ := x; exact ⟨_, e⟩
  | own y => obtain ⟨_, e⟩ := x; exact ⟨_, e⟩
  | xd fs => obtain ⟨_, ⟨_, _, _, e, _⟩, _⟩ := x; exact ⟨_, e⟩
  | rng lo hi => obtain ⟨_, _, _, e⟩ := x; exact ⟨_, e⟩
  | frz ob u => obtain ⟨e, _⟩ := x; exact ⟨_, e⟩
  | tbl ps => exact ⟨_, (show h.get? a = some _ from x)⟩
  | met f y => exact ⟨_, (show h.get? a = some (PySem.W.methodObj (.ref f) (.ref y)) from x)⟩
  | ext φ => obtain ⟨p, ⟨o, e⟩, st⟩ := x; exact ⟨o, e⟩
def rSortAbsT (K : PySem.W.Frag) : List V → Hp → VK → Prop := fun vs H Q => ∃ (a : Addr) (ns : List Int), vs = [V.ref a] ∧ SqT K H a (ns.map V.int) ∧ ∀ (ns' : List Int) (p : Addr), ns'.Perm ns → ns'.Pairwise (fun x y => (if x < 0 then -x else x) ≤ (if y < 0 then -y else y)) → H p = none → Q (.ref p) (upd H p (.lst (ns'.map V.int)))
theorem absSort_run {X : Cx} {pins : List (Addr × Obj)} {s : Shared} {σ : L2.St} {H : Hp} {a : Addr} {ns : List Int} {Q : VK} (I : Inv X pins σ H s) (hs : SqT X.K H a (ns.map V.int))
    (q : ∀ (ns' : List Int) (p : Addr), ns'.Perm ns → ns'.Pairwise (fun x y => (if x < 0 then -x else x) ≤ (if y < 0 then -y else y)) → H p = none → Q (.ref p) (upd H p (.lst (ns'.map V.int)))) :
    wpAny (model X.prog X.w) X.A (call (.builtin "sorted") [.ref a] [(Str.ofString "key", .builtin "abs")]) (EP X pins σ Q) X.xe s := by
  obtain ⟨its, rv, hl, hz⟩ := I.tuple hs
  have hi := ints_of_vals rv
  obtain ⟨m, F⟩ := I.fr
  have hlen := hi.length
  rw [List.length_map] at hz
  refine my_sortedTup (b := false) (kz := ns.map fun x => if x < 0 then -x else x) F (others_news X.base s.heap X.env.locals) hl (by rw [List.length_map, hlen]) (by omega) (ksk_s1 _ _) (fun _ => ksk_l1 _ _) (fun x => ksk_t4 "abs" x) (fun i v k hv hk h tk own F' N' => ?_) fun D h' tk out c F' N' l1 ko => ?_
  · rw [List.getElem?_map] at hk
    cases e : ns[i]? with
    | none => rw [e] at hk; simp at hk
    | some n =>
      rw [e] at hk
      cases hk
      obtain ⟨t, ht'⟩ := hi.get i n e
      rw [ht'] at hv
      cases hv
      exact call_abs_int fun u tk' => KskEnd.intro F' N' fun p hp => hp
  · obtain ⟨ps, hp, ho, hs'⟩ := ko
    have hrel : ∀ p, p ∈ (ns.map fun x => if x < 0 then -x else x).zip its → p.1 = (fun x : Int => if x < 0 then -x else x) (numOf p.2) ∧ p.2 ∈ its := by
      rw [← hi.nums, List.map_map, List.zip_map_left]
      intro p hp
      obtain ⟨⟨u, v⟩, hq, rfl⟩ := List.mem_map.mp hp
      have h1 : u = v ∧ u ∈ its := mem_zip_self hq
      refine ⟨?_, ?_⟩
      · show (fun x : Int => if x < 0 then -x else x) (numOf u) = (fun x : Int => if x < 0 then -x else x) (numOf v)
        rw [h1.1]
      · show v ∈ its
        rw [← h1.1]
        exact h1.2
    have hI : IntsAre (ps.map Prod.snd) ((ps.map Prod.snd).map numOf) := intsAre_map _ fun v hv => by
      obtain ⟨p, hp', rfl⟩ := List.mem_map.mp hv
      exact hi.all _ (hrel p (hp.mem_iff.mp hp')).2
    have hP : ((ps.map Prod.snd).map numOf).Perm ns := by
      have h1 := (hp.map Prod.snd).map numOf
      rw [List.map_snd_zip (by rw [List.length_map]; omega), hi.nums] at h1
      exact h1
    have hO : ((ps.map Prod.snd).map numOf).Pairwise (fun x y => (if x < 0 then -x else x) ≤ (if y < 0 then -y else y)) := by
      rw [List.pairwise_map, List.pairwise_map]
      refine hs'.imp_of_mem fun {p q} hp' hq' hr => ?_
      have hr' : p.1 ≤ q.1 := hr
      rw [(hrel p (hp.mem_iff.mp hp')).1, (hrel q (hp.mem_iff.mp hq')).1] at hr'
      exact hr'
    rw [← ho] at hI hP hO
    have ND := N' _ (.head _)
    have old : ∀ b o, b ≠ X.env.locals → s.heap.get? b = some o → h'.get? b = some o := fun b o hb e => by
      cases hq : X.base.get? b with
      | some o' =>
        have := F.keep b o' hq
        rw [e] at this
        cases this
        exact F'.keep b o hq
      | none => exact (N' _ (.tail _ (others_mem hb hq e))).1
    have newD : s.heap.get? D = none := by
      cases e : s.heap.get? D with
      | none => rfl
      | some o => exact absurd (l1 _ (others_mem ND.2.1 ND.2.2 e)) (Nat.lt_irrefl _)
    have hD : H D = none := by
      cases e : H D with
      | none => rfl
      | some u =>
        obtain ⟨ob, h1⟩ := objok_some (I.hok D u e)
        rw [newD] at h1
        cases h1
    have nL : ∀ b u, H b = some u → b ≠ X.env.locals := fun b u e z => by rw [z, I.free] at e; cases e
    have nD : ∀ b o, s.heap.get? b = some o → b ≠ D := fun b o e z => by rw [z, newD] at e; cases e
    have hlen2 : (((out.toList).map numOf).map V.int).length ≤ sizeLine := by rw [List.length_map, hP.length_eq]; omega
    refine ⟨.ref D, upd H D (.lst (((out.toList).map numOf).map V.int)), ?_, rfl, q _ _ hP hO hD⟩
    refine I.step (g' := s.gens) (d' := s.drawn) (ch := []) (fun b hb => nomatch hb) (fun b o hL _ _ e _ => old b o hL e) (fun b o hL _ _ e _ => ⟨o.slots, old b o hL e⟩) (fun b o _ e n => by rw [upd_ne (nD b o e)]; exact n)
      (fun b o _ e => ?_) (fun b xs e => ?_) (fun b o u e => ?_) (fun b ps e => ?_) (fun m' hm => ?_) (fun b u e => ?_) I.bare
    · by_cases hb : b = X.env.locals
      · obtain ⟨o', _, _, h1, _⟩ := F'.ns
        exact ⟨o', by rw [hb]; exact h1⟩
      · exact ⟨o, old b o hb e⟩
    · rw [upd_ne (fun z => by rw [z, hD] at e; cases e)]; exact e
    · rw [upd_ne (fun z => by rw [z, hD] at e; cases e)]; exact e
    · rw [upd_ne (fun z => by rw [z, hD] at e; cases e)]
      exact ⟨#[], by rw [e]; simp⟩
    · obtain ⟨o1, es1, ep1, a1, a2, a3, a4⟩ := hm
      obtain ⟨o2, es2, ep2, b1, b2, b3, b4⟩ := F.ns
      rw [a1] at b1
      cases b1
      rw [a2] at b2
      cases b2
      have em : m' = m := funext fun x => (a4 x).symm.trans (b4 x)
      rw [em]
      exact F'.ns
    · by_cases hb : b = D
      · rw [hb, upd_same] at e
        cases e
        rw [hb]
        refine ⟨hlen2, out.toList, c, vals_of_ints hI, ?_⟩
        have := ND.1
        simpa using this
      · rw [upd_ne hb] at e
        have nb := nL b u e
        refine (I.hok b u e).stay (fun c' v hc q' => old c' v ?_ q') (fun c' q' => ?_) fun c' xs q' => ?_
        · rcases hc with z | z
          · rw [z]; exact nb
          · exact nL c' _ z
        · rw [upd_ne (fun z => by rw [z, hD] at q'; cases q')]; exact q'
        · rw [upd_ne (fun z => by rw [z, hD] at q'; cases q')]; exact q'
def tSortAbs (K : PySem.W.Frag) (te : TE) : TE := fun σ H Q => te σ H fun x H1 => ∃ (a : Addr) (ns : List Int), x = V.ref a ∧ SqT K H1 a (ns.map V.int) ∧ ∀ (ns' : List Int) (p : Addr), ns'.Perm ns → ns'.Pairwise (fun x y => (if x < 0 then -x else x) ≤ (if y < 0 then -y else y)) → H1 p = none → Q (.ref p) (upd H1 p (.lst (ns'.map V.int)))
theorem pe_sortedAbs {X : Cx} {K : PySem.W.Frag} (hK : X.K = K) {e : Expr} {te : TE} {p p2 pos kpos : Pos} (he : PE X e te) (hg : Gl X "sorted") (hm : X.mg "sorted" = none) (hg2 : Gl X "abs") (hm2 : X.mg "abs" = none)
    (hs : starEach [e] X.env = (false, eval e X.env) :: starEach [] X.env := by rfl) (hb : backTo pos (starEach [e] X.env) = (false, eval e X.env) :: backTo pos (starEach [] X.env) := by rfl) (hpl : (backTo pos (starEach [e] X.env)).any (·.1) = false := by rfl) :
    PE X (.Call (.Name "sorted" p) [e] [⟨some "key", .Name "abs" p2, kpos⟩] pos) (tSortAbs K te) := by
  subst hK
  refine ⟨fun pins s σ H Q I h => ?_⟩
  refine wpAny_Call_Name_kw (ld_blt I hg hm boot_sorted ?_)
  have h' : tCons te tNil σ H (fun vs H1 => match vs with
    | [x] => ∃ (a : Addr) (ns : List Int), x = V.ref a ∧ SqT X.K H1 a (ns.map V.int) ∧ ∀ (ns' : List Int) (p : Addr), ns'.Perm ns → ns'.Pairwise (fun x y => (if x < 0 then -x else x) ≤ (if y < 0 then -y else y)) → H1 p = none → Q (.ref p) (upd H1 p (.lst (ns'.map V.int)))
    | _ => False) := h
  refine PyProof.Rows.callWith_kw (thn ((pa_cons he pa_nil hs).run pos pins s σ H _ I h') fun us s1 ⟨vs, H1, I1, r1, q1⟩ => ?_) hb hpl rfl rfl
  obtain ⟨x, rfl⟩ : ∃ x, vs = [x] := by
    match vs, q1 with
    | [x], _ => exact ⟨x, rfl⟩
  obtain ⟨a, ns, rfl, hs, q⟩ := q1
  obtain rfl := Vals.ref1 r1
  refine wpAny_evalAll_cons (wpAny_bind (ld_blt I1 hg2 hm2 boot_abs (wpAny_bind (wpAny_standAt (wpAny_pure (wpAny_evalAll_nil ?_))))))
  exact absSort_run I1 hs q
end My

set_option Elab.async false
set_option maxRecDepth 100000
set_option maxHeartbeats 4000000
set_option linter.all false
/-! A comprehension of new data, over whatever is walked. -/
namespace My
open PySem PySem.Spec L2
section
variable {X : Cx} {K : PySem.W.Frag}
theorem call_tuple_ofK (h : X.K = K) : CallR X (.type "tuple") (fun xs H Q => ∃ p ys, xs = [.ref p] ∧ ((SqL K H p ys ∧ ∀ l, H l = none → Q (.ref l) (upd H l (.tup ys))) ∨ (SqT K H p ys ∧ Q (.ref p) H))) := h ▸ call_tuple_of
theorem op_catTK (h : X.K = K) : OpR X (binaryOp .Add) (rCatT K) := h ▸ op_catT
theorem op_catAK (h : X.K = K) : OpR X (binaryOp .Add) (rCatA K) := h ▸ op_catA
theorem op_catK (h : X.K = K) : OpR X (binaryOp .Add) rCat := op_cat
theorem pe_fldK {e : Expr} {f : Str} {pos : Pos} {ta : TE} (h : X.K = K) (he : PE X e ta) (hb : attributeBase e f X.env (eval e X.env) = eval e X.env) : PE X (.Attribute e f pos) (tFld K ta f) := h ▸ pe_fld he hb
end
/-- W by the turn and what was made so far -/
theorem lc_gen {K : PySem.W.Frag} {J : It} {n : Nat} {G : Hp → Prop} {Y : Nat → Hp → V → Hp → Prop} (w : Walk J n G Y) {g : TG} {tt : TT} {te : TE} {vs : List Nat} {σ : L2.St} {H1 : Hp} {D : Addr} {Qd : Hp → Prop}
    (W : Nat → List PyData → Prop) (h0 : W 0 []) (hn : n ≤ 100000) (hD : H1 D = none) (hG : ∀ H, Same H1 H → G H)
    (he : ∀ i x H2 H3 ds (Nx : Hp → Prop) (Add : VK), i < n → W i ds → Same H1 H2 → H2 D ≠ none → Y i H2 x H3 → (∀ H4, Same H2 H4 → W (i + 1) ds → Nx H4) →
      (∀ v d H4, Same H2 H4 → Dp K (hide D H4) v d → W (i + 1) (ds ++ [d]) → Add v H4) → g x (wipe σ vs) H3 fun σ2 H4 => wipe σ2 vs = wipe σ vs ∧ tt σ2 H4 fun b H5 => if b = true then te σ2 H5 Add else Nx H5)
    (hq : ∀ H2 zs ds, H2 D = some (.lst zs) → DpAll K (hide D H2) zs ds → W n ds → Same H1 H2 → Qd H2) :
    ∃ W : Nat → Nat → Hp → Prop, (∃ m, W 0 m (upd H1 D (.lst []))) ∧ ∀ i m H, W i m H →
      (J.stop i H ∧ Qd H) ∨ (J.go i H ∧ ∃ Nx : Hp → Prop, (∀ H', Nx H' → ∃ m', m' < m ∧ W (i + 1) m' H') ∧ ∀ x H', J.yld i H x H' → g x (wipe σ vs) H' fun σ2 H2 => wipe σ2 vs = wipe σ vs ∧ tt σ2 H2 fun b H3 =>
        if b = true then te σ2 H3 fun y H4 => ∃ acc, H4 D = some (.lst acc) ∧ acc.length < sizeLine ∧ Nx (upd H4 D (.lst (acc ++ [y]))) else Nx H3) := by
  refine lc_it w (fun i H => ∃ zs ds, H D = some (.lst zs) ∧ DpAll K (hide D H) zs ds ∧ W i ds ∧ zs.length ≤ i ∧ Same H1 H) ⟨[], [], upd_same, .nil, h0, Nat.le_refl _, same_new hD _⟩ (fun i H _ ⟨_, _, _, _, _, _, s⟩ => hG H s) ?_ ?_
  · rintro i x H2 H3 hi ⟨zs, ds, hz, hd, hw, hl, s⟩ hy
    refine he i x H2 H3 ds _ _ hi hw s (by rw [hz]; intro z; cases z) hy (fun H4 s4 w4 => ⟨zs, ds, s4 _ _ hz, dpa_mono (hide_same s4) _ hd, w4, by omega, s.trans s4⟩) fun v d H4 s4 hv w4 => ?_
    refine ⟨zs, s4 _ _ hz, Nat.lt_of_le_of_lt (by omega : zs.length ≤ 100000) (by decide), zs ++ [v], ds ++ [d], upd_same, ?_, w4, by rw [List.length_append, List.length_singleton]; omega, ?_⟩
    · exact dpa_mono (hide_put _) _ (dpa_app (dpa_mono (hide_same s4) _ hd) (dpa_one hv))
    · intro b o hb
      rw [upd_ne (ne_of_none hb hD)]
      exact s4 _ _ (s b o hb)
  · rintro H ⟨zs, ds, hz, hd, hw, _, s⟩
    exact hq H zs ds hz hd hw s
/-- a dict comprehension over whatever is walked -/
theorem dc_it {J : It} {n : Nat} {G : Hp → Prop} {Y : Nat → Hp → V → Hp → Prop} (w : Walk J n G Y) {g : TG} {tt : TT} {tk tv : TE} {vs : List Nat} {σ : L2.St} {H1 : Hp} {D : Addr} {Qd : Hp → Prop} (Pv : Nat → Hp → Prop) (h0 : Pv 0 (upd H1 D (.dK []))) (hG : ∀ i H, i ≤ n → Pv i H → G H)
    (hs : ∀ i x H H', i < n → Pv i H → Y i H x H' → g x (wipe σ vs) H' fun σ2 H2 => wipe σ2 vs = wipe σ vs ∧ tt σ2 H2 fun b H3 =>
      if b = true then tk σ2 H3 fun y H4 => tv σ2 H4 fun z H5 => ∃ kvs k, y = kV k ∧ H5 D = some (.dK kvs) ∧ kvs.length < sizeLine ∧ Pv (i + 1) (upd H5 D (.dK (putK kvs k z))) else Pv (i + 1) H3) (hd : ∀ H, Pv n H → Qd H) :
    ∃ W : Nat → Nat → Hp → Prop, (∃ m, W 0 m (upd H1 D (.dK []))) ∧ ∀ i m H, W i m H →
      (J.stop i H ∧ Qd H) ∨ (J.go i H ∧ ∃ Nx : Hp → Prop, (∀ H', Nx H' → ∃ m', m' < m ∧ W (i + 1) m' H') ∧ ∀ x H', J.yld i H x H' → g x (wipe σ vs) H' fun σ2 H2 => wipe σ2 vs = wipe σ vs ∧ tt σ2 H2 fun b H3 =>
        if b = true then tk σ2 H3 fun y H4 => tv σ2 H4 fun z H5 => ∃ kvs k, y = kV k ∧ H5 D = some (.dK kvs) ∧ kvs.length < sizeLine ∧ Nx (upd H5 D (.dK (putK kvs k z))) else Nx H3) := by
  refine ⟨fun i m H => m = n - i ∧ i ≤ n ∧ Pv i H, ⟨n, by simp, Nat.zero_le _, h0⟩, ?_⟩
  rintro i m H ⟨rfl, hi, p⟩
  have q := hG i H hi p
  by_cases hlt : i < n
  · exact .inr ⟨w.goes i H hlt q, Pv (i + 1), fun H' p' => ⟨n - (i + 1), by omega, rfl, hlt, p'⟩, fun x H' y => hs i x H H' hlt p (w.yields i H x H' hlt q y)⟩
  · have e : i = n := by omega
    subst e
    exact .inl ⟨w.stops H q, hd H p⟩
end My

set_option Elab.async false
set_option maxRecDepth 100000
set_option maxHeartbeats 4000000
set_option linter.all false
/-! Sets of nested tuples (whole numbers, texts, None, tuples of such), fewer than 64: set(xs), sorted(set(xs)). -/
namespace My
open PySem PySem.Spec PyProof.Rows L2
abbrev NK := NestedKey
abbrev hN (w : World) (k : NK) : Int := NestedKey.hash w k
/-- the tuple at a is the key k -/
abbrev IsN (h : Heap) (k : NK) (a : Addr) : Prop := NestedIs h k (.ref a) ∧ k.depth ≤ 8
theorem IsN.keep {h h' : Heap} {k : NK} {a : Addr} (x : IsN h k a) (kp : ∀ b o, h.get? b = some o → h'.get? b = some o) : IsN h' k a := ⟨NestedIs.at (fun b o _ _ e _ => kp b o e) k _ x.1, x.2⟩
theorem IsN.but {h h' : Heap} {k : NK} {a d : Addr} {o : Obj} {es : Array (Int × Value)} {ep : Nat} {t : SetTable} (x : IsN h k a) (ho : h.get? d = some o) (hd : o.data = .set es ep t) (sb : Heap.SameBut d h h') : IsN h' k a :=
  ⟨NestedIs.at (fun b u vs n e c => (sb.2 b fun z => by
    subst z
    rw [ho] at e
    cases e
    rw [hd] at c
    cases c).trans e) k _ x.1, x.2⟩
section
variable {P : Program} {w : World}
/-- a walk that asks each item and goes on -/
theorem ask_each {A : Around} {E : Value → Shared → Prop} {s : Shared} {β : Type} {b0 : β} {body : Value → β → Sem (ForInStep β)} {Q : β → Shared → Prop} :
    ∀ (vs : List Value), (∀ v ∈ vs, ∀ (Q' : ForInStep β → Shared → Prop), Q' (.yield b0) s → (∀ b, Q b s → Q' (.done b) s) → wpAny (model P w) A (body v b0) Q' E s) → Q b0 s → wpAny (model P w) A (forIn vs b0 body) Q E s
  | [], _, h => wpAny_pure h
  | v :: vs, hb, h => by
    rw [List.forIn_cons]
    exact wpAny_bind (hb v List.mem_cons_self _ (ask_each vs (fun u hu => hb u (List.mem_cons_of_mem _ hu)) h) fun b q => wpAny_pure q)
mutual
/-- no class statement made it -/
theorem cls_key : ∀ (k : NK) (v : Value) (n : Nat) (s : Shared), NestedIs s.heap k v → k.depth ≤ n → ∀ (A : Around) (E : Value → Shared → Prop) (Q : Bool → Shared → Prop), Q false s → wpAny (model P w) A (ofAClassStatement n v) Q E s
  | .none, _, n, s, x, _, A, E, Q, h => by cases x; cases n <;> exact wpAny_pure h
  | .num i, _, n, s, x, _, A, E, Q, h => by cases x <;> cases n <;> exact wpAny_pure h
  | .text y, _, n, s, x, _, A, E, Q, h => by cases x; cases n <;> exact wpAny_pure h
  | .tup ks, _, n, s, x, hn, A, E, Q, h => by
    cases x with
    | @tup a o vs m _ ho hc hd hk =>
      simp only [NestedKey.depth] at hn
      cases n with
      | zero => omega
      | succ n =>
        have hT : s.TypeIs (.ref a) "tuple" := ⟨o, ho, hc⟩
        unfold ofAClassStatement
        refine wpAny_bind (wpAny_typeOf hT ?_)
        dsimp only
        have e : (("tuple" : String) == "tuple") = true := by decide
        simp only [e, if_true, Bool.not_true, Bool.false_eq_true, if_false]
        try refine wpAny_bind (wpAny_pure ?_)
        try simp only [Bool.not_true, Bool.false_eq_true, if_false]
        show wpAny _ _ (seqItems? (.ref a) >>= _) _ _ s
        refine wpAny_bind (wpAny_seqItems ho hd ?_)
        dsimp only
        refine wpAny_bind ?_
        show wpAny _ _ (forIn vs _ _) _ _ s
        rw [← Array.forIn_toList]
        have ih := cls_keys ks vs.toList n s hk (by omega)
        refine ask_each vs.toList (fun v hv Q' hQ _ => ?_) ?_
        case refine_2 => exact wpAny_pure h
        refine wpAny_bind (ih v hv _ _ _ ?_)
        simp only [Bool.false_eq_true, if_false]
        exact wpAny_pure hQ
theorem cls_keys : ∀ (ks : List NK) (vs : List Value) (n : Nat) (s : Shared), NestedAll s.heap ks vs → NestedKey.depthAll ks ≤ n → ∀ v ∈ vs, ∀ (A : Around) (E : Value → Shared → Prop) (Q : Bool → Shared → Prop), Q false s → wpAny (model P w) A (ofAClassStatement n v) Q E s
  | [], _, n, s, x, _, v, hv, _, _, _, _ => by cases x; cases hv
  | k :: ks, _, n, s, x, hn, v, hv, A, E, Q, h => by
    cases x with
    | cons x1 x2 =>
      simp only [NestedKey.depthAll] at hn
      rcases List.mem_cons.mp hv with e | hv
      · rw [e]; exact cls_key k _ n s x1 (by omega) A E Q h
      · exact cls_keys ks _ n s x2 (by omega) v hv A E Q h
end
mutual
/-- whether its hash is its value's: one of both answers -/
theorem val_key : ∀ (k : NK) (v : Value) (n : Nat) (s : Shared), NestedIs s.heap k v → ∀ (A : Around) (E : Value → Shared → Prop) (Q : Bool → Shared → Prop), (∀ b, Q b s) → wpAny (model P w) A (hashByValue n v) Q E s
  | .none, _, n, s, x, A, E, Q, h => by cases x; cases n <;> exact wpAny_pure (h _)
  | .num i, _, n, s, x, A, E, Q, h => by cases x <;> cases n <;> exact wpAny_pure (h _)
  | .text y, _, n, s, x, A, E, Q, h => by cases x; cases n <;> exact wpAny_pure (h _)
  | .tup ks, _, n, s, x, A, E, Q, h => by
    cases x with
    | @tup a o vs m _ ho hc hd hk =>
      cases n with
      | zero => exact wpAny_pure (h _)
      | succ n =>
        have hT : s.TypeIs (.ref a) "tuple" := ⟨o, ho, hc⟩
        unfold hashByValue
        refine wpAny_bind (wpAny_specialOf hT F.slot_tuple_hash.lookup ?_)
        show wpAny _ _ (seqItems? (.ref a) >>= _) _ _ s
        refine wpAny_bind (wpAny_seqItems ho hd ?_)
        refine wpAny_bind ?_
        show wpAny _ _ (forIn vs _ _) _ _ s
        rw [← Array.forIn_toList]
        have ih := val_keys ks vs.toList n s hk
        refine ask_each vs.toList (fun v hv Q' hQ hD => ?_) ?_
        case refine_2 => exact wpAny_pure (h _)
        refine wpAny_bind (ih v hv _ _ _ fun b => ?_)
        cases b with
        | true =>
          simp only [Bool.not_true, Bool.false_eq_true, if_false]
          exact wpAny_pure hQ
        | false =>
          simp only [Bool.not_false, if_true]
          exact wpAny_pure (hD _ (wpAny_pure (h _)))
theorem val_keys : ∀ (ks : List NK) (vs : List Value) (n : Nat) (s : Shared), NestedAll s.heap ks vs → ∀ v ∈ vs, ∀ (A : Around) (E : Value → Shared → Prop) (Q : Bool → Shared → Prop), (∀ b, Q b s) → wpAny (model P w) A (hashByValue n v) Q E s
  | [], _, n, s, x, v, hv, _, _, _, _ => by cases x; cases hv
  | k :: ks, _, n, s, x, v, hv, A, E, Q, h => by
    cases x with
    | cons x1 x2 =>
      rcases List.mem_cons.mp hv with e | hv
      · rw [e]; exact val_key k _ n s x1 A E Q h
      · exact val_keys ks _ n s x2 v hv A E Q h
end
variable {A : Around} {E : Value → Shared → Prop} {s : Shared}
/-- a search among such tuples shows nothing -/
theorem seenN {k : NK} {b : Addr} {Q : Bool → Shared → Prop} (hk : IsN s.heap k b) {ys : List Value} (hy : ∀ y ∈ ys, ∃ k' c, y = Value.ref c ∧ IsN s.heap k' c) (h : Q false s) : wpAny (model P w) A (searchCouldBeSeen (.ref b) ys) Q E s := by
  unfold searchCouldBeSeen
  refine wpAny_bind (ask_each ys (fun v hv Q' hQ _ => ?_) ?_)
  case refine_2 => exact wpAny_pure h
  obtain ⟨k', c, rfl, hc⟩ := hy v hv
  dsimp only
  by_cases hv : (b == c || (carriedByValue (.ref b) && carriedByValue (.ref c))) = true
  · exact wp_if_pos hv (wpAny_pure hQ)
  · refine wp_if_neg hv ?_
    refine wpAny_bind (quiet_key k _ 8 s hk.1 hk.2 A E _ ?_)
    simp only [Bool.not_true, Bool.false_eq_true, if_false]
    refine wpAny_bind (quiet_key k' _ 8 s hc.1 hc.2 A E _ ?_)
    simp only [Bool.not_true, Bool.false_eq_true, if_false]
    refine wpAny_bind (cls_key k _ 8 s hk.1 hk.2 A E _ ?_)
    simp only [Bool.false_eq_true, if_false]
    refine wpAny_bind (cls_key k' _ 8 s hc.1 hc.2 A E _ ?_)
    simp only [Bool.false_eq_true, if_false]
    exact wpAny_pure hQ
end
end My

set_option Elab.async false
set_option maxRecDepth 100000
set_option maxHeartbeats 4000000
set_option linter.all false
namespace My
open PySem PySem.Spec PyProof.Rows L2
abbrev rowN (w : World) (p : Addr × NK) : Int × Value := (hN w p.2, Value.ref p.1)
structure SetN (w : World) (h : Heap) (a : Addr) (L : List (Addr × NK)) (es : Array (Int × Value)) (ep : Nat) (t : SetTable) : Prop where
  ob : ∃ o, h.get? a = some o ∧ o.ExactSet ∧ o.data = .set es ep t
  rows : es.toList = L.map (rowN w)
  tab : TabOk t (L.map fun p => hN w p.2)
  nd : (L.map (·.2)).Nodup
  is_ : ∀ p ∈ L, IsN h p.2 p.1
  led : w.params.followText "set-order" = true ∨ t.led = true
  room : L.length * 5 < t.mask * 3
  few : L.length < 64
section
variable {P : Program} {w : World} {A : Around} {E : Value → Shared → Prop} {s : Shared} {a : Addr} {L : List (Addr × NK)} {es : Array (Int × Value)} {ep : Nat} {t : SetTable}
theorem rows_size (h : es.toList = L.map (rowN w)) : es.size = L.length := by
  have := congrArg List.length h
  rwa [Array.length_toList, List.length_map] at this
theorem rows_at (h : es.toList = L.map (rowN w)) {i : Nat} {p : Addr × NK} (e : L[i]? = some p) : es[i]? = some (rowN w p) := by
  rw [← Array.getElem?_toList, h, List.getElem?_map, e] <;> rfl
theorem fits_of (h1 : t.place.size = es.size) (h2 : t.dummies = #[]) (h3 : es.size ≤ t.mask) : t.fits es.size = true := by
  unfold SetTable.fits SetTable.fill
  rw [h2, Bool.and_eq_true, beq_iff_eq, decide_eq_true_eq]
  exact ⟨h1, by show t.place.size + 0 ≤ t.mask; omega⟩
theorem SetN.psz (R : SetN w s.heap a L es ep t) : t.place.size = L.length := by
  have := R.tab.sz
  rwa [List.length_map] at this
theorem SetN.fits (R : SetN w s.heap a L es ep t) : t.fits es.size = true := by
  have h1 := R.psz
  have h2 := rows_size R.rows
  have h3 := R.room
  exact fits_of (by omega) R.tab.dm (by omega)
theorem gave_not {t : SetTable} {hs : List Int} (T : TabOk t hs) : ¬ t.gaveWay = true := by
  unfold SetTable.gaveWay
  rw [mask_odd T.mok]
  decide
theorem nth_dummy (m : Nat) : ∀ (n : Nat) (p : SetTable.Probe), p.dummy = none → (nth m p n).dummy = none
  | 0, _, h => h
  | n + 1, p, h => nth_dummy m n (adv m p) (by unfold adv; split <;> exact h)
abbrev wayS (m : Nat) (g : Int) : SetTable.Probe := runAt m (SetTable.bits g % (m + 1)) (SetTable.bits g)
/-- the search, from the c-th step of its way on -/
theorem searchN (R : SetN w s.heap a L es ep t) {x : Addr} {k : NK} (hx : IsN s.heap k x) (hu : A.units + 8 < cLine) {g : Int} (hg : g = hN w k) {K : Nat} (hKf : K < 10 * SetTable.turns t.mask)
    (hK : way t.mask g K ∉ t.place.toList) (hKb : ∀ c, c < K → way t.mask g c ∈ t.place.toList) {Q : SetFound → Shared → Prop} (hin : k ∈ L.map (·.2) → Q (.there none) s) (hout : k ∉ L.map (·.2) → Q (.free (way t.mask g K) false) s) :
    ∀ (f c : Nat) (stand : Option SetTable.Probe), stand.getD (t.probeStart g) = nth t.mask (wayS t.mask g) c → c ≤ K → K - c < f → (∀ (i : Nat) p, L[i]? = some p → p.2 = k → ∃ c', c ≤ c' ∧ c' < K ∧ t.place.toList[i]? = some (way t.mask g c')) →
      wpAny (model P w) A (setSearchFrom a (.ref x) g true f stand) Q E s
  | 0, _, _, _, _, hf, _ => absurd hf (Nat.not_lt_zero _)
  | f + 1, c, stand, hst, hc, hf, hre => by
    obtain ⟨o, ho, hex, hd⟩ := R.ob
    rw [setSearchFrom_succ]
    refine wpAny_bind (wpAny_setState_of ho hd R.fits ?_)
    dsimp only
    refine wp_if_neg (gave_not R.tab) ?_
    try refine wpAny_bind (wpAny_pure ?_)
    have step : ∀ q, (nth t.mask (nth t.mask (wayS t.mask g) c) q).j = way t.mask g (c + q) := fun q => congrArg SetTable.Probe.j (nth_add t.mask c _ q).symm
    have hs : ∀ (i : Nat) p, L[i]? = some p → (es[i]?.map (fun e : Int × Value => e.1)).getD 0 = hN w p.2 := fun i p e => by rw [rows_at R.rows e] <;> rfl
    -- where a row with the key stands, it is not passed
    have late : ∀ (q : Nat), (∀ k' i', k' < q → t.place.toList[i']? = some (nth t.mask (nth t.mask (wayS t.mask g) c) k').j → (es[i']?.map (fun e : Int × Value => e.1)).getD 0 ≠ g) → ∀ (i : Nat) p, L[i]? = some p → p.2 = k → ∃ c', c + q ≤ c' ∧ c' < K ∧ t.place.toList[i]? = some (way t.mask g c') := fun q no i p e1 e2 => by
      obtain ⟨c', a1, a2, a3⟩ := hre i p e1 e2
      refine ⟨c', ?_, a2, a3⟩
      rcases Nat.lt_or_ge c' (c + q) with z | z
      · refine absurd (show (es[i]?.map (fun e : Int × Value => e.1)).getD 0 = g by rw [hs i p e1, e2, hg]) (no (c' - c) i (by omega) ?_)
        rw [step, show c + (c' - c) = c' by omega]
        exact a3
      · exact z
    rcases go_spec t R.tab.ris R.tab.dm (fun i => (es[i]?.map (fun e : Int × Value => e.1)).getD 0) g (10 * SetTable.turns t.mask) (K - c) (nth t.mask (wayS t.mask g) c) (nth_dummy _ _ _ rfl) (by omega) (fun q hq => by rw [step]; exact hKb _ (by omega)) (by rw [step, show c + (K - c) = K by omega]; exact hK) with ⟨q, i, hq, hi, hh, hno, hpr⟩ | ⟨hno, hpr⟩
    · rw [← nth_add t.mask c (wayS t.mask g) (q + 1)] at hpr
      rw [step] at hi hpr
      have hpr' : t.probe (fun i => (es[i]?.map (fun e : Int × Value => e.1)).getD 0) g (stand.getD (t.probeStart g)) = some (.candidate (way t.mask g (c + q)) i (nth t.mask (wayS t.mask g) (c + (q + 1)))) := by rw [hst]; exact hpr
      rw [hpr']
      dsimp only
      have hil : i < L.length := by
        have := (List.getElem?_eq_some_iff.mp hi).1
        rw [Array.length_toList, R.psz] at this
        exact this
      obtain ⟨p, hp⟩ : ∃ p, L[i]? = some p := ⟨_, List.getElem?_eq_getElem hil⟩
      have hm := List.mem_of_getElem? hp
      have rest : wpAny (model P w) A (searchRest a (.ref x) g true f es t (way t.mask g (c + q)) i (nth t.mask (wayS t.mask g) (c + (q + 1)))) Q E s := by
        unfold searchRest
        rw [rows_at R.rows hp]
        dsimp only
        refine wpAny_bind (wpAny_holding ((nestedKind P w).eqBool hu (R.is_ p hm) hx ?_))
        refine wpAny_bind (wpAny_setState_of ho hd R.fits ?_)
        dsimp only
        by_cases hkk : p.2 = k
        · exact wp_if_pos (by simp [hkk]) (wpAny_pure (hin (List.mem_map.mpr ⟨p, hm, hkk⟩)))
        · refine wp_if_neg (by simp [hkk]) ?_
          try refine wpAny_bind (wpAny_pure ?_)
          rw [sameMem]
          dsimp only
          have hsl : t.slot (way t.mask g (c + q)) = .live i := slot_live R.tab.ris hi
          simp only [if_true, hsl, rows_at R.rows hp]
          refine wpAny_bind (wpAny_isSame_ref_self (wpAny_bind (wpAny_pure ?_)))
          simp only [if_true]
          refine wp_if_neg (by simp [hkk]) ?_
          refine searchN R hx hu hg hKf hK hKb hin hout f (c + (q + 1)) _ rfl (by omega) (by omega) fun i0 p0 h0 hk0 => ?_
          obtain ⟨c', a1, a2, a3⟩ := late q (fun k' i' lt e => hno k' i' lt e) i0 p0 h0 hk0
          refine ⟨c', ?_, a2, a3⟩
          rcases Nat.lt_or_ge (c + q) c' with z | z
          · omega
          · have ec : c' = c + q := Nat.le_antisymm z a1
            rw [ec] at a3
            have s0 := slot_live R.tab.ris a3
            rw [hsl] at s0
            injection s0 with s0
            rw [← s0, hp] at h0
            exact absurd (by rw [Option.some.inj h0]; exact hk0) hkk
      by_cases hl : t.led = true
      · refine wp_if_neg (by simp [hl]) ?_
        try refine wpAny_bind (wpAny_pure ?_)
        exact rest
      · refine wp_if_pos (by simp [hl]) ?_
        refine wpAny_bind (seenN hx (fun y hy => ?_) ?_)
        · obtain ⟨e, he, ee⟩ := List.mem_map.mp hy
          have he1 : e ∈ es ∧ e.1 = g := by simpa using he
          have he2 : e ∈ es.toList := by simpa using he1.1
          rw [R.rows] at he2
          obtain ⟨p2, hp2, e2⟩ := List.mem_map.mp he2
          exact ⟨p2.2, p2.1, by rw [← ee, ← e2], R.is_ p2 hp2⟩
        · refine wp_if_neg (by decide) ?_
          try refine wpAny_bind (wpAny_pure ?_)
          exact rest
    · rw [step, show c + (K - c) = K by omega] at hpr
      have hpr' : t.probe (fun i => (es[i]?.map (fun e : Int × Value => e.1)).getD 0) g (stand.getD (t.probeStart g)) = some (.empty (way t.mask g K) none) := by rw [hst]; exact hpr
      rw [hpr']
      dsimp only
      refine wpAny_pure (hout fun hm => ?_)
      obtain ⟨p0, h0, hk0⟩ := List.mem_map.mp hm
      obtain ⟨i0, e0⟩ := List.getElem?_of_mem h0
      obtain ⟨c', a1, a2, a3⟩ := late (K - c) hno i0 p0 e0 hk0
      omega
theorem searchN_all (R : SetN w s.heap a L es ep t) {x : Addr} {k : NK} (hx : IsN s.heap k x) (hu : A.units + 8 < cLine) {Q : SetFound → Shared → Prop} (hin : k ∈ L.map (·.2) → Q (.there none) s)
    (hout : ∀ K, k ∉ L.map (·.2) → way t.mask (hN w k) K ∉ t.place.toList → (∀ c, c < K → way t.mask (hN w k) c ∈ t.place.toList) → Q (.free (way t.mask (hN w k) K) false) s) : wpAny (model P w) A (setSearch a (.ref x) (hN w k) true) Q E s := by
  have hroom := R.room
  obtain ⟨K, hKf, hK, hKb⟩ := R.tab.first (by rw [List.length_map]; omega) (hN w k)
  have hbig : K < 100000 := by
    have : 10 * SetTable.turns t.mask ≤ 1420 := by
      unfold SetTable.turns
      rcases R.tab.mok with e | e | e <;> omega
    omega
  unfold setSearch
  refine searchN R hx hu rfl hKf hK hKb hin (fun hn => hout K hn hK hKb) 100000 0 none rfl (Nat.zero_le _) (by omega) fun i p hp hk => ?_
  have hil : i < t.place.toList.length := by
    have := (List.getElem?_eq_some_iff.mp hp).1
    rw [Array.length_toList, R.psz]
    exact this
  have hj := List.getElem?_eq_getElem hil
  obtain ⟨c, hc, e⟩ := R.tab.before hK (show (L.map fun p => hN w p.2)[i]? = some (hN w k) by rw [List.getElem?_map, hp, ← hk] <;> rfl) hj
  exact ⟨c, Nat.zero_le _, hc, by rw [hj, e]⟩
end
end My

set_option Elab.async false
set_option maxRecDepth 100000
set_option maxHeartbeats 4000000
set_option linter.all false
namespace My
open PySem PySem.Spec PyProof.Rows L2
/-! picking rows by their numbers -/
theorem pick_map {α β : Type} (f : α → β) (L : List α) : ∀ l : List Nat, l.filterMap (fun i => (L.map f)[i]?) = (l.filterMap fun i => L[i]?).map f
  | [] => rfl
  | i :: l => by
    rw [List.filterMap_cons, List.filterMap_cons, List.getElem?_map, pick_map f L l]
    cases L[i]? <;> rfl
theorem pick_getD {α : Type} (d : α) (L : List α) : ∀ l : List Nat, (∀ i ∈ l, i < L.length) → l.filterMap (fun i => L[i]?) = l.map fun i => L.getD i d
  | [], _ => rfl
  | i :: l, h => by
    have hi := h i List.mem_cons_self
    rw [List.filterMap_cons_some (List.getElem?_eq_getElem hi), List.map_cons, pick_getD d L l fun j hj => h j (List.mem_cons_of_mem _ hj), List.getD_eq_getElem?_getD, List.getElem?_eq_getElem hi] <;> rfl
theorem pick_all {α : Type} (L : List α) : (List.range L.length).filterMap (fun i => L[i]?) = L := by
  refine List.ext_getElem? fun i => ?_
  induction L generalizing i with
  | nil => rfl
  | cons x L ih =>
    rw [List.length_cons, List.range_succ_eq_map, List.filterMap_cons_some (by rfl : (x :: L)[0]? = some x), List.filterMap_map]
    cases i with
    | zero => rfl
    | succ i => exact ih i
section
variable {P : Program} {w : World} {A : Around} {E : Value → Shared → Prop} {s : Shared} {a : Addr} {L : List (Addr × NK)} {es : Array (Int × Value)} {ep : Nat} {t : SetTable}
theorem order_rowsN {order : Array Nat} (hr : es.toList = L.map (rowN w)) (hp : order.toList.Perm (List.range L.length)) :
    ∃ L2 : List (Addr × NK), (order.filterMap (es[·]?)).toList = L2.map (rowN w) ∧ L2.Perm L ∧ (L2.map fun p => hN w p.2) = order.toList.map fun i => (es.map (·.1)).getD i 0 := by
  refine ⟨order.toList.filterMap fun i => L[i]?, ?_, ?_, ?_⟩
  · rw [Array.toList_filterMap, ← pick_map, ← hr]
    refine congrFun (congrArg _ (funext fun i => ?_)) _
    rw [Array.getElem?_toList]
  · have := hp.filterMap fun i => L[i]?
    rwa [pick_all] at this
  · rw [← pick_map (fun p : Addr × NK => hN w p.2), pick_getD 0 _ _ fun i hi => by rw [List.length_map]; exact List.mem_range.mp (hp.mem_iff.mp hi)]
    refine List.map_congr_left fun i _ => ?_
    have e : (L.map fun p => hN w p.2) = (es.map (·.1)).toList := by
      rw [Array.toList_map, hr, List.map_map] <;> rfl
    rw [e, List.getD_eq_getElem?_getD, Array.getElem?_toList, ← Array.getD_eq_getD_getElem?]
/-- the table laid anew -/
theorem relayN {o : Obj} (ho : s.heap.get? a = some o) (hex : o.ExactSet) (hd : o.data = .set es ep t) (hrows : es.toList = L.map (rowN w)) (hsz : t.place.size = es.size) (hdm : t.dummies = #[]) (hfl : es.size ≤ t.mask)
    (nd : (L.map (·.2)).Nodup) (is_ : ∀ p ∈ L, IsN s.heap p.2 p.1) (ld : w.params.followText "set-order" = true ∨ t.led = true) (few : L.length < 64) {wanted M : Nat}
    (hw : SetTable.sizeAbove wanted - 1 = M) (hM : MaskOk M) (hw2 : SetTable.sizeAbove wanted ≤ 128) (hn : L.length * 5 < M * 3) {Q : Unit → Shared → Prop}
    (hQ : ∀ h' L' es' ep' t', Heap.SameBut a s.heap h' → SetN w h' a L' es' ep' t' → L'.Perm L → Q () { s with heap := h' }) : wpAny (model P w) A (setRelay a wanted) Q E s := by
  have hsl := rows_size hrows
  obtain ⟨t', order, e, hp, T, em, el, epl, ed⟩ := relaid_ok t (hs := es.map (·.1)) (wanted := wanted) hw hM (by rw [Array.size_map, hsl]; omega)
  rw [Array.size_map, hsl] at hp
  obtain ⟨L2, r1, r2, r3⟩ := order_rowsN hrows hp
  rw [← r3] at T
  have hs2 : (order.filterMap (es[·]?)).size = es.size := by rw [rows_size r1, r2.length_eq, hsl]
  rw [setRelay_eq]
  refine wpAny_bind (wpAny_setState_of ho hd (fits_of hsz hdm hfl) ?_)
  dsimp only
  refine wp_if_neg (by rw [sizeLine_eq]; omega) ?_
  try refine wpAny_bind (wpAny_pure ?_)
  rw [e]
  dsimp only
  refine wpAny_bind ?_
  refine wp_if_neg (by rw [hs2]; simp) ?_
  try refine wpAny_bind (wpAny_pure ?_)
  refine wpAny_pure ?_
  dsimp only
  refine wpAny_storeSet_of ho hd ?_ (by rw [hs2, hsl, sizeLine_eq]; omega)
  have sb : Heap.SameBut a s.heap (s.heap.update a (Obj.putSet (order.filterMap (es[·]?)) t')) := Heap.SameBut.update ..
  refine hQ _ L2 _ (ep + 1) t' sb ⟨⟨_, store_at ho hd, ⟨hex.1, hex.2.1, hex.2.2⟩, rfl⟩, r1, T, (r2.map (·.2)).nodup_iff.mpr nd, fun p hpm => (is_ p (r2.mem_iff.mp hpm)).but ho hd sb, by rw [el]; exact ld, by rw [r2.length_eq, em]; exact hn, by rw [r2.length_eq]; exact few⟩ r2
theorem TabOk.unplain {t : SetTable} {hs : List Int} (T : TabOk t hs) : TabOk { t with plain := false } hs := ⟨T.ris, T.dm, T.sz, T.mok, T.bd, T.reach⟩
/-- one more -/
theorem addN (R : SetN w s.heap a L es ep t) {x : Addr} {k : NK} (hx : IsN s.heap k x) (hu : A.units + 8 < cLine) (hfew : L.length + 1 < 64) {Q : Bool → Shared → Prop}
    (hQ : ∀ b h' L' es' ep' t', Heap.SameBut a s.heap h' → SetN w h' a L' es' ep' t' → (k ∈ L.map (·.2) → L' = L) → (k ∉ L.map (·.2) → L'.Perm ((x, k) :: L)) → Q b { s with heap := h' }) :
    wpAny (model P w) A (setAddHashed a (.ref x) (hN w k)) Q E s := by
  obtain ⟨o, ho, hex, hd⟩ := R.ob
  have hsl := rows_size R.rows
  have hroom := R.room
  unfold setAddHashed
  refine wpAny_holding ?_
  rw [show (100000 : Nat) = 99999 + 1 from rfl, setAddHashedIn_succ]
  refine wpAny_bind (wpAny_setState_of ho hd R.fits ?_)
  dsimp only
  refine wp_if_neg (by simp [byScan, Value.scannable]) ?_
  try refine wpAny_bind (wpAny_pure ?_)
  refine wpAny_bind (searchN_all R hx hu (fun hm => ?_) fun K hm hK hb => ?_)
  · dsimp only
    exact wpAny_pure (hQ false s.heap L es ep t (Heap.SameBut.refl a s.heap) R (fun _ => rfl) fun z => absurd hm z)
  · dsimp only
    refine wpAny_bind (wpAny_setState_of ho hd R.fits ?_)
    dsimp only
    obtain ⟨q1, q2, q3, q4, q5, q6, q7, q8, q9⟩ := R.tab.put hK hb
    generalize hpt : t.put (way t.mask (hN w k) K) = pt at q1 q3 q4 q5 q6 q7 q8 q9 ⊢
    obtain ⟨t1, p⟩ := pt
    dsimp only at q1 q3 q4 q5 q6 q7 q8 q9 ⊢
    subst q1
    -- whatever becomes of the mark plain
    have main : ∀ t2 : SetTable, (t2 = t1 ∨ t2 = { t1 with plain := false }) → wpAny (model P w) A (do
        storeSet a (SetTable.insertAt es (SetTable.below t.place (way t.mask (hN w k) K)) (hN w k, Value.ref x)) t2
        if (!false && t2.tooFull) = true then setRelay a (SetTable.grown (es.size + 1))
        return true) Q E s := by
      intro t2 ht2
      have hin : (SetTable.insertAt es (SetTable.below t.place (way t.mask (hN w k) K)) (hN w k, Value.ref x)).toList = (L.take (SetTable.below t.place (way t.mask (hN w k) K)) ++ (x, k) :: L.drop (SetTable.below t.place (way t.mask (hN w k) K))).map (rowN w) := by
        rw [SetTable.toList_insertAt, R.rows, List.map_append, List.map_cons, List.map_take, List.map_drop]
      have hh : (L.take (SetTable.below t.place (way t.mask (hN w k) K)) ++ (x, k) :: L.drop (SetTable.below t.place (way t.mask (hN w k) K))).map (fun p => hN w p.2) = (L.map fun p => hN w p.2).take (SetTable.below t.place (way t.mask (hN w k) K)) ++ hN w k :: (L.map fun p => hN w p.2).drop (SetTable.below t.place (way t.mask (hN w k) K)) := by
        rw [List.map_append, List.map_cons, List.map_take, List.map_drop]
      rw [← hh] at q3
      have pm := put_perm L (SetTable.below t.place (way t.mask (hN w k) K)) (x, k)
      generalize SetTable.below t.place (way t.mask (hN w k) K) = p at q2 q3 hin pm ⊢
      have hlen : (L.take p ++ (x, k) :: L.drop p).length = L.length + 1 := pm.length_eq
      have hes := rows_size hin
      generalize SetTable.insertAt es p (hN w k, Value.ref x) = es1 at hin hes ⊢
      generalize L.take p ++ (x, k) :: L.drop p = L1 at pm hlen q3 hin hes
      have nd1 : (L1.map (·.2)).Nodup := (pm.map (·.2)).nodup_iff.mpr (by rw [List.map_cons]; exact List.nodup_cons.mpr ⟨hm, R.nd⟩)
      have T2 : TabOk t2 (L1.map fun p => hN w p.2) := by
        rcases ht2 with e | e
        · rw [e]; exact q3
        · rw [e]; exact TabOk.unplain q3
      have m2 : t2.mask = t.mask := by rcases ht2 with e | e <;> (rw [e]; exact q4)
      have l2 : t2.led = t.led := by rcases ht2 with e | e <;> (rw [e]; exact q5)
      have ld2 : w.params.followText "set-order" = true ∨ t2.led = true := by rw [l2]; exact R.led
      have f2 : t2.fill = L.length + 1 := by
        have e9 : t1.fill = L.length + 1 := by rw [q9, List.length_map]
        rcases ht2 with e | e
        · rw [e]; exact e9
        · rw [e]; exact e9
      refine wpAny_bind (wpAny_storeSet_of ho hd ?_ (by rw [hes, hlen, sizeLine_eq]; omega))
      have sb : Heap.SameBut a s.heap (s.heap.update a (Obj.putSet es1 t2)) := Heap.SameBut.update ..
      have ho1 := store_at (es' := es1) (t' := t2) ho hd
      generalize s.heap.update a (Obj.putSet es1 t2) = h1 at sb ho1 ⊢
      have is1 : ∀ p ∈ L1, IsN h1 p.2 p.1 := fun p hp => by
        rcases List.mem_cons.mp (pm.mem_iff.mp hp) with e | hp
        · rw [e]; exact hx.but ho hd sb
        · exact (R.is_ p hp).but ho hd sb
      have tf : t2.tooFull = decide ((L.length + 1) * 5 ≥ t.mask * 3) := by
        unfold SetTable.tooFull
        rw [f2, m2]
      by_cases hf : (L.length + 1) * 5 ≥ t.mask * 3
      · have hc : (!false && t2.tooFull) = true := by rw [tf, decide_eq_true hf] <;> rfl
        first
          | (refine wpAny_bind ?_; refine wp_if_pos hc ?_)
          | (refine wp_if_pos hc ?_; refine wpAny_bind ?_)
        have cases2 : (t.mask = 7 ∧ L.length = 4) ∨ (t.mask = 31 ∧ L.length = 18) := by
          rcases R.tab.mok with e | e | e
          · left; rw [e] at hf hroom; exact ⟨e, by omega⟩
          · right; rw [e] at hf hroom; exact ⟨e, by omega⟩
          · exfalso; rw [e] at hf; omega
        rw [hsl]
        have psz : t2.place.size = es1.size := by rw [T2.sz, List.length_map, hes]
        have go : ∀ M, SetTable.sizeAbove (SetTable.grown (L.length + 1)) - 1 = M → MaskOk M → SetTable.sizeAbove (SetTable.grown (L.length + 1)) ≤ 128 → (L.length + 1) * 5 < M * 3 →
            wpAny (model P w) A (setRelay a (SetTable.grown (L.length + 1))) (fun _ s' => wpAny (model P w) A (pure true) Q E s') E { s with heap := h1 } := fun M a1 a2 a3 a4 => by
          refine relayN (s := { s with heap := h1 }) ho1 ⟨hex.1, hex.2.1, hex.2.2⟩ rfl hin psz T2.dm (by rw [hes, hlen, m2]; omega) nd1 is1 ld2 (by rw [hlen]; exact hfew) a1 a2 a3 (by rw [hlen]; exact a4) ?_
          intro h2 L2 es2 ep2 t3 sb2 R2 pm2
          exact wpAny_pure (hQ true h2 L2 es2 ep2 t3 (sb.trans sb2) R2 (fun z => absurd z hm) fun _ => pm2.trans pm)
        rcases cases2 with ⟨_, e2⟩ | ⟨_, e2⟩
        · exact go 31 (by rw [e2, size_20]) (.inr (.inl rfl)) (by rw [e2, size_20]; decide) (by omega)
        · exact go 127 (by rw [e2, size_76]) (.inr (.inr rfl)) (by rw [e2, size_76]; decide) (by omega)
      · have hc : ¬ (!false && t2.tooFull) = true := by rw [tf, decide_eq_false hf]; decide
        first
          | refine wp_if_neg hc ?_
          | (refine wpAny_bind ?_; refine wp_if_neg hc ?_; refine wpAny_pure ?_)
        refine wpAny_pure (hQ true h1 L1 es1 (ep + 1) t2 sb ⟨⟨_, ho1, ⟨hex.1, hex.2.1, hex.2.2⟩, rfl⟩, hin, T2, nd1, is1, ld2, by rw [hlen, m2]; omega, by rw [hlen]; exact hfew⟩ (fun z => absurd z hm) fun _ => pm)
    by_cases hpl : t1.plain = true
    · first
        | (refine wpAny_bind ?_; refine wp_if_pos hpl ?_; refine val_key k _ 8 s hx.1 _ _ _ fun b => ?_)
        | refine wp_if_pos hpl (wpAny_bind (val_key k _ 8 s hx.1 _ _ _ fun b => ?_))
      cases b with
      | true =>
        simp only [if_true]
        exact main _ (.inl rfl)
      | false =>
        simp only [Bool.false_eq_true, if_false]
        exact main _ (.inr rfl)
    · first
        | (refine wpAny_bind ?_; refine wp_if_neg hpl ?_; refine wpAny_pure ?_)
        | refine wp_if_neg hpl (wpAny_bind (wpAny_pure ?_))
      simp only [if_true]
      exact main _ (.inl rfl)
end
end My

set_option Elab.async false
set_option maxRecDepth 100000
set_option maxHeartbeats 4000000
set_option linter.all false
namespace My
open PySem PySem.Spec PyProof.Rows L2
abbrev set0 (w : World) : Obj := { cls := .type "set", dict := none, data := .set #[] 0 (.fresh 0 0 (!w.params.followText "set-order")) }
/-- what one item more does to the set at S: T i says what the set is behind i items -/
def Adds (P : Program) (w : World) (A : Around) (h0 : Heap) (S : Addr) (n : Nat) (Pv : Nat → Value → Prop) (T : Nat → Obj → Prop) : Prop :=
  ∀ (i : Nat) (v : Value) (o : Obj) (s : Shared) (E : Value → Shared → Prop) (Q : Bool → Shared → Prop), i < n → Pv i v → s.heap.get? S = some o → T i o → (∀ b u, h0.get? b = some u → s.heap.get? b = some u) →
    (∀ b h' tk o', s.toks ≤ tk → Heap.SameBut S s.heap h' → h'.get? S = some o' → T (i + 1) o' → Q b { s with heap := h', toks := tk }) → wpAny (model P w) A (setAdd S v) Q E s
section
variable {P : Program} {w : World} {A : Around} {E : Value → Shared → Prop} {s : Shared}
theorem update_any {I : Addr} {fp wr : List Addr} {G : Array GenState → Array GenState → Prop} {n : Nat} {Pv : Nat → Value → Prop} {St : Nat → Shared → Prop} {R : Result → Shared → Prop}
    (W : WalksS P w A.in1 I fp wr G n Pv St) {S : Addr} (hSf : S ∉ fp) {T : Nat → Obj → Prop} {h0 : Heap} (hS0 : h0.get? S = none) (hw0 : ∀ b ∈ wr, h0.get? b = none) (add : Adds P w A.in1 h0 S n Pv T) :
    ∀ (k i : Nat) (s : Shared), n - i = k → i ≤ n → St i s → (∀ b o, h0.get? b = some o → s.heap.get? b = some o) → (∃ o, s.heap.get? S = some o ∧ T i o) →
      (∀ s' o, Moved (S :: wr) G s s' → s'.heap.get? S = some o → T n o → (∀ b o, h0.get? b = some o → s'.heap.get? b = some o) → R (.ok (.ret .none)) s') →
      codeAny (model P w) A (.builtin "set.update.loop" ⟨[.ref S, .ref I], []⟩) R s := by
  have hSw : S ∉ wr := fun h => hSf (W.sub _ h)
  have hsub : ∀ b ∈ wr, b ∈ S :: wr := fun b hb => List.mem_cons_of_mem _ hb
  have keepM : ∀ {s s' : Shared}, Moved wr G s s' → (∀ b o, h0.get? b = some o → s.heap.get? b = some o) → ∀ b o, h0.get? b = some o → s'.heap.get? b = some o := fun hm hkp b o e =>
    hm.heap b o (fun hb => by rw [hw0 b hb] at e; cases e) (hkp b o e)
  intro k
  induction k with
  | zero =>
    intro i s hk' hi hst hkp ⟨o, hS, hT⟩ hR
    obtain rfl : i = n := by omega
    refine codeAny_builtin F.entry_set_update_loop ?_
    rw [Around.under_plainId F.plain_set_update_loop _]
    show wpAny _ A.in1 (pyNext (.ref I) >>= _) _ _ s
    refine wpAny_bind (W.done s _ _ hst fun s' hm => ?_)
    show wpAny _ A.in1 (ret Value.none) _ _ s'
    exact wpAny_pure (hR s' o (hm.mono hsub) (hm.heap S o hSw hS) hT (keepM hm hkp))
  | succ k ih =>
    intro i s hk' hi hst hkp ⟨o, hS, hT⟩ hR
    have hlt : i < n := by omega
    refine codeAny_builtin F.entry_set_update_loop ?_
    rw [Around.under_plainId F.plain_set_update_loop _]
    show wpAny _ A.in1 (pyNext (.ref I) >>= _) _ _ s
    refine wpAny_bind (W.item i s _ _ hlt hst fun v s' hP hst' hm => ?_)
    have hkp' := keepM hm hkp
    show wpAny _ A.in1 (holding [v] (setAdd S v) >>= _) _ _ s'
    refine wpAny_bind (wpAny_holding (add i v o s' _ _ hlt hP (hm.heap S o hSw hS) hT hkp' fun b h' tk o' htk hsb hS2 hT2 => ?_))
    have hkp2 : ∀ b o, h0.get? b = some o → h'.get? b = some o := fun b o e => (hsb.2 b (fun z => by rw [z, hS0] at e; cases e)).trans (hkp' b o e)
    refine wpAny_pure ⟨plainId_quiet F.plain_set_update_loop _, ih (i + 1) _ (by omega) hlt (W.frame _ s' _ _ hst' htk fun b hb o e => ?_) hkp2 ⟨o', hS2, hT2⟩ fun s'' o2 hm'' hS'' hT'' hkp'' => ?_⟩
    · rw [hsb.2 b (fun h : b = S => hSf (by rw [← h]; exact hb))]; exact e
    · refine hR s'' o2 (Moved.trans W.gtrans ((hm.mono hsub).then_heap htk fun b o hb e => ?_) hm'') hS'' hT'' hkp''
      rw [hsb.2 b (fun h : b = S => hb (by rw [h]; exact List.mem_cons_self))]; exact e
set_option maxHeartbeats 3200000 in
/-- set(xs), xs a list -/
theorem call_set_any {l : Addr} {items : Array Value} {Q : Value → Shared → Prop} (hh : A.handled = none) (hl : s.heap.IsList l items) {T : Nat → Obj → Prop} (t0 : T 0 (set0 w))
    (add : Adds P w A.in1.in1.in1 s.heap s.heap.objs.size items.size (fun i v => items[i]? = some v) T)
    (h : ∀ (h' : Heap) (tk : Nat) (o : Obj), h'.get? s.heap.objs.size = some o → T items.size o → (∀ b o, s.heap.get? b = some o → h'.get? b = some o) → Q (.ref s.heap.objs.size) { s with heap := h', toks := tk }) :
    wpAny (model P w) A (call (.type "set") [.ref l]) Q E s := by
  obtain ⟨c, tl, hmro⟩ := F.called_set.mro
  have hmade := F.called_set.made
  have hsub := F.called_set.sub
  refine wpAny_call (codeAny_of_tree ?_)
  show wpAny _ _ (callAny (.type "set") _) _ _ _
  refine wpAny_pure ⟨Code.quiet_builtin _ (by decide +kernel), codeAny_builtin F.entry_type_call ?_⟩
  rw [Around.under_plain (weight_type_call_type "set" [.ref l] []) rfl]
  have h1 := F.called_set.notType
  have h2 := F.called_set.canCreate
  have hct := F.typeCall_set_1 (.ref l)
  repeat (any_goals (first | assumption | wp_step))
  refine codeAny_mono (code_set_led1 (.ref l) (E := E) (Q₁ := fun obj s₁ => obj = .ref s.heap.objs.size ∧ s₁ = { s with heap := s.heap.push (set0 w) }) ⟨rfl, rfl⟩) fun r s₁ hr => ?_
  cases r with
  | error e => exact hr
  | ok fl =>
    cases fl with
    | ret obj =>
      obtain ⟨rfl, rfl⟩ := hr
      have hS : (s.heap.push (set0 w)).get? s.heap.objs.size = some (set0 w) := Heap.get?_push_size _ rfl
      have hT : Shared.TypeIs { s with heap := s.heap.push (set0 w) } (.ref s.heap.objs.size) "set" := ⟨_, hS, rfl⟩
      have hli := F.called_set.init.lookup
      have hbi := F.called_set.init.bind (.ref s.heap.objs.size)
      repeat (any_goals (first | assumption | wp_step))
      refine codeAny_mono (codeAny_call_builtin (R := wants (fun r s₂ => r = .none ∧ ∃ h' tk o, s₂ = { s with heap := h', toks := tk } ∧ h'.get? s.heap.objs.size = some o ∧ T items.size o ∧ (∀ b o, s.heap.get? b = some o → h'.get? b = some o)) E)
        F.called_set.init.plain F.entry_set_init (check_set_init_1 hT ?_)) fun r₂ s₂ hr₂ => ?_
      · obtain ⟨ol, hol, hcl, nl, hdl⟩ := hl
        obtain ⟨ocls, odict, odata, oslots⟩ := ol
        simp only at hcl hdl
        subst hcl; subst hdl
        have hol' : (s.heap.push (set0 w)).get? l = some { cls := .type "list", dict := odict, data := .seq items nl, slots := oslots } := Heap.get?_push_of_some _ hol
        have hsls := F.sub_list_set
        have hslf := F.sub_list_frozenset
        have hne : (Value.type "list" == Value.type "dict") = false := by decide
        have hl1 : (s.heap.push (set0 w)).IsList l items := ⟨_, hol', rfl, nl, rfl⟩
        unfold Builtin.«set.__init__» noKeywords Builtin.Frozenset.updateFrom
        generalize hPI : pyIter = PI
        wp_walk
        subst hPI
        refine wpAny_pyIter_list hl1 ?_
        refine wpAny_bind (wpAny_runValue ?_)
        have hlS : l < s.heap.objs.size := Heap.lt_size hol
        have hh3 : A.in1.in1.in1.handled = none := by simp [hh]
        have hneI : l ≠ (s.heap.push (set0 w)).objs.size := by
          rw [Heap.size_push]; exact Nat.ne_of_lt (Nat.lt_succ_of_lt hlS)
        have hSf : s.heap.objs.size ∉ [(s.heap.push (set0 w)).objs.size, l] := by
          rw [Heap.size_push]; simp only [List.mem_cons, List.mem_singleton, List.not_mem_nil, or_false, not_or]
          exact ⟨Nat.ne_of_lt (Nat.lt_succ_self _), Nat.ne_of_gt hlS⟩
        have none_of : ∀ b, s.heap.objs.size ≤ b → s.heap.get? b = none := fun b hb => by
          cases q : s.heap.get? b with
          | none => rfl
          | some o => exact absurd (Nat.lt_of_lt_of_le (Heap.lt_size q) hb) (Nat.lt_irrefl _)
        refine update_any ((Walks.list hh3 _ l hneI items).toS) hSf (T := T) (h0 := s.heap) (none_of _ (Nat.le_refl _)) (fun b hb => none_of b (by
            rw [List.mem_singleton.mp hb, Heap.size_push]
            exact Nat.le_succ _)) ?hadd (items.size - 0) 0 _ (by omega) (Nat.zero_le _)
          ⟨⟨_, Heap.get?_push_size _ rfl, rfl, rfl⟩, (hl1.push _)⟩ (fun b o e => Heap.get?_push_of_some _ (Heap.get?_push_of_some _ e)) ⟨_, Heap.get?_push_of_some _ hS, t0⟩ ?hR
        case hadd => exact add
        case hR =>
          intro s' o hm hS' hT' hkp
          obtain ⟨h', g2, d', tk', os'⟩ := s'
          have eg : g2 = s.gens := hm.gens
          have ed : d' = s.drawn := hm.drawn
          have eo : os' = s.os := hm.os
          subst eg; subst ed; subst eo
          show wpAny _ _ _ _ _ _
          refine wpAny_pure ?_
          show wpAny _ _ (ret Value.none) _ _ _
          exact wpAny_pure ⟨rfl, h', tk', o, rfl, hS', hT', hkp⟩
      · cases r₂ with
        | error e => exact hr₂
        | ok fl₂ =>
          cases fl₂ with
          | ret r =>
            obtain ⟨rfl, h', tk, o, rfl, hS', hT', hk'⟩ := hr₂
            repeat (any_goals (first | assumption | wp_step))
            exact h _ _ _ hS' hT' hk'
          | _ => exact hr₂.elim
    | _ => exact hr.elim
end
end My

set_option Elab.async false
set_option maxRecDepth 100000
set_option maxHeartbeats 4000000
set_option linter.all false
namespace My
open PySem PySem.Spec PyProof.Rows L2
/-! ### tuples -/
structure TupT (w : World) (h0 : Heap) (ks : List (Addr × NK)) (i : Nat) (o : Obj) : Prop where
  ex : ∃ (L : List (Addr × NK)) (es : Array (Int × Value)) (ep : Nat) (t : SetTable), o.ExactSet ∧ o.data = .set es ep t ∧ es.toList = L.map (rowN w) ∧ TabOk t (L.map fun p => hN w p.2) ∧ (L.map (·.2)).Nodup ∧ (w.params.followText "set-order" = true ∨ t.led = true) ∧ L.length * 5 < t.mask * 3 ∧
    L.length ≤ i ∧ (∀ p ∈ L, p ∈ ks.take i) ∧ ∀ p ∈ ks.take i, p.2 ∈ L.map (·.2)
theorem mem_take_next {α : Type} {l : List α} {i : Nat} {x : α} (h : l[i]? = some x) {y : α} : y ∈ l.take (i + 1) ↔ y ∈ l.take i ∨ y = x := by
  rw [take_next h, List.mem_append, List.mem_singleton]
theorem led_new (w : World) : w.params.followText "set-order" = true ∨ (SetTable.fresh 0 0 (!w.params.followText "set-order")).led = true := by
  show _ ∨ (!w.params.followText "set-order") = true
  cases w.params.followText "set-order"
  · exact .inr rfl
  · exact .inl rfl
theorem tupT_new {w : World} {h0 : Heap} {ks : List (Addr × NK)} : TupT w h0 ks 0 (set0 w) :=
  ⟨[], #[], 0, _, ⟨rfl, rfl, rfl⟩, rfl, rfl, ⟨List.Pairwise.nil, rfl, rfl, .inl rfl, fun x hx => (by cases hx), fun i h j hi => (by simp at hi)⟩, List.nodup_nil, led_new w, (by show 0 * 5 < 7 * 3; decide), Nat.le_refl _, fun p h => (by cases h), fun p h => (by simp at h)⟩
theorem tupT_adds {P : Program} {w : World} {A : Around} {h0 : Heap} {S : Addr} {n : Nat} {Pv : Nat → Value → Prop} {ks : List (Addr × NK)} (hS0 : h0.get? S = none) (hn : n = ks.length) (hfew : ks.length < 64) (hval : ∀ i v, Pv i v → ∃ p, ks[i]? = some p ∧ v = .ref p.1) (hk : ∀ p ∈ ks, IsN h0 p.2 p.1) (hu : A.units + 8 < cLine) : Adds P w A h0 S n Pv (TupT w h0 ks) := by
  intro i v o s E Q hi hP hS hT kp hQ
  obtain ⟨p, hp, rfl⟩ := hval i v hP
  obtain ⟨L, es, ep, t, hex, hd, hr, tab, nd, ld, room, len, sub, all⟩ := hT.ex
  have hpm := List.mem_of_getElem? hp
  have hx : IsN s.heap p.2 p.1 := (hk p hpm).keep kp
  have R : SetN w s.heap S L es ep t := ⟨⟨o, hS, hex, hd⟩, hr, tab, nd, fun q hq => (hk q (List.mem_of_mem_take (sub q hq))).keep kp, ld, room, by omega⟩
  unfold setAdd
  refine wpAny_holding ?_
  refine wpAny_bind (pyHash_key p.2 _ A s _ hx.1 (by have := hx.2; omega) ?_)
  refine addN (s := { s with toks := s.toks + p.2.draws }) R hx hu (by omega) fun b h' L' es' ep' t' sb R' c1 c2 => ?_
  obtain ⟨o', ho', hex', hd'⟩ := R'.ob
  refine hQ b h' _ o' (Nat.le_add_right _ _) sb ho' ⟨L', es', ep', t', hex', hd', R'.rows, R'.tab, R'.nd, R'.led, R'.room, ?_⟩
  rcases Classical.em (p.2 ∈ L.map (·.2)) with c | c
  · rw [c1 c]
    refine ⟨by omega, fun q hq => (mem_take_next hp).2 (.inl (sub q hq)), fun q hq => ?_⟩
    rcases (mem_take_next hp).1 hq with z | z
    · exact all q z
    · rw [z]; exact c
  · have pm := c2 c
    refine ⟨by rw [pm.length_eq, List.length_cons]; omega, fun q hq => ?_, fun q hq => ?_⟩
    · rcases List.mem_cons.mp (pm.mem_iff.mp hq) with e | z
      · exact (mem_take_next hp).2 (.inr e)
      · exact (mem_take_next hp).2 (.inl (sub q z))
    · rw [(pm.map (·.2)).mem_iff, List.map_cons]
      rcases (mem_take_next hp).1 hq with z | z
      · exact List.mem_cons_of_mem _ (all q z)
      · rw [z]; exact List.mem_cons_self
/-! data as keys -/
mutual
theorem dp_nested {X : Cx} {pins : List (Addr × Obj)} {σ : L2.St} {H : Hp} {s : Shared} (I : Inv X pins σ H s) : ∀ (k : NK) (v : V) (u : Value), Dp X.K H v k.data → RelV v u → NestedIs s.heap k u
  | .none, _, u, h, r => by
    cases h
    cases r
    exact .none
  | .num i, _, u, h, r => by
    cases h
    obtain ⟨t, rfl⟩ := r
    exact .int _ _
  | .text x, _, u, h, r => by
    cases h
    obtain ⟨t, rfl⟩ := r
    exact .text _ _
  | .tup ks, v, u, h, r => by
    have h' : Dp X.K H v (.tuple (NestedKey.datas ks)) := h
    cases h' with
    | tup hs ha =>
      obtain rfl : u = Value.ref _ := r
      obtain ⟨its, rv, ⟨o, ho, hc, n, hd⟩, _⟩ := I.tuple hs
      exact .tup ho hc hd (by simpa using dp_nesteds I ks _ its ha rv)
theorem dp_nesteds {X : Cx} {pins : List (Addr × Obj)} {σ : L2.St} {H : Hp} {s : Shared} (I : Inv X pins σ H s) : ∀ (ks : List NK) (vs : List V) (us : List Value), DpAll X.K H vs (NestedKey.datas ks) → Vals vs us → NestedAll s.heap ks us
  | [], _, us, h, r => by
    cases h
    cases r
    exact .nil
  | k :: ks, _, us, h, r => by
    cases h with
    | cons h t =>
      cases r with
      | cons r rt => exact .cons (dp_nested I k _ _ h r) (dp_nesteds I ks _ _ t rt)
end
theorem datas_map : ∀ ks : List NK, NestedKey.datas ks = ks.map NestedKey.data
  | [] => rfl
  | k :: ks => by rw [NestedKey.datas, datas_map ks, List.map_cons]
theorem data_inj {H : Hp} {K : PySem.W.Frag} : True := trivial
def isTup : NK → Bool
  | .tup _ => true
  | _ => false
/-- set(xs), xs a list of fewer than 64 tuples -/
def rSetT (K : PySem.W.Frag) (w : World) : List V → Hp → VK → Prop := fun xs H Q => ∃ (l : Addr) (ps : List (Addr × NK)), xs = [V.ref l] ∧ SqL K H l (ps.map fun p => V.ref p.1) ∧ (∀ p ∈ ps, Dp K H (.ref p.1) p.2.data ∧ p.2.depth ≤ 8) ∧ ps.length < 64 ∧
  ∀ a (L : List (Addr × NK)), H a = none → (∀ p ∈ L, p ∈ ps) → (L.map (·.2)).Nodup → (∀ p ∈ ps, p.2 ∈ L.map (·.2)) → Q (.ref a) (upd H a (SetV w a (L.map fun p => V.ref p.1)))
theorem refs_back2 : ∀ {ks : List (Addr × NK)} {us : List Value}, Vals (ks.map fun p => V.ref p.1) us → us = ks.map fun p => Value.ref p.1
  | [], _, .nil => rfl
  | p :: ks, _, .cons r t => by
    cases r
    rw [refs_back2 t] <;> rfl
theorem vals_refs2 : ∀ (ks : List (Addr × NK)), Vals (ks.map fun p => V.ref p.1) (ks.map fun p => Value.ref p.1)
  | [] => .nil
  | p :: ks => .cons rfl (vals_refs2 ks)
section
variable {X : Cx}
theorem cr_setT (hc : X.calm = true) (hu : X.A.units + 65 < cLine) : CallR X (.type "set") (rSetT X.K X.w) := by
  intro pins s σ H xs us Q I r h
  obtain ⟨l, ps, rfl, hl, hk, hf, q⟩ := h
  obtain ⟨u, rfl, ru⟩ := vals1 r
  obtain rfl : u = Value.ref l := ru
  obtain ⟨its, rv, pl, hz⟩ := I.list hl
  have hn : H s.heap.objs.size = none := I.hok.fresh (Nat.le_refl _)
  have hits : its = ps.map fun p => Value.ref p.1 := refs_back2 rv
  have hz2 : its.toArray.size = ps.length := by rw [List.size_toArray, hits, List.length_map]
  have hk' : ∀ p ∈ ps, IsN s.heap p.2 p.1 := fun p hp => ⟨dp_nested I p.2 _ _ (hk p hp).1 rfl, (hk p hp).2⟩
  have hfresh : s.heap.get? s.heap.objs.size = none := by
    cases z : s.heap.get? s.heap.objs.size with
    | none => rfl
    | some o => exact absurd (Heap.lt_size z) (Nat.lt_irrefl _)
  refine call_set_any (P := X.prog) (w := X.w) (I.ok.hd hc) pl.isList (T := TupT X.w s.heap ps) tupT_new ?_ fun h' tk o ho hT kp => ?_
  · refine tupT_adds hfresh hz2 hf (fun i v hv => ?_) hk' (by show X.A.units + 1 + 1 + 1 + 8 < cLine; omega)
    rw [← Array.getElem?_toList, hits] at hv
    have hv' : (ps.map fun p => Value.ref p.1)[i]? = some v := by simpa using hv
    rw [List.getElem?_map] at hv'
    cases e : ps[i]? with
    | none => rw [e] at hv'; cases hv'
    | some p =>
      rw [e] at hv'
      exact ⟨p, rfl, (Option.some.inj hv').symm⟩
  · obtain ⟨L, es, ep, t, hex, hd, hr, tab, nd, ld, room, len, sub, all⟩ := hT.ex
    rw [hz2] at len sub all
    rw [List.take_length] at sub all
    have hsl := rows_size hr
    have psz : t.place.size = es.size := by rw [tab.sz, List.length_map, hsl]
    have sv : SetV0 X.w h' s.heap.objs.size (L.map fun p => V.ref p.1) := ⟨es, ep, t, ⟨o, ho, hex, hd⟩, fits_of psz tab.dm (by omega), tab.ris, ld, by omega, by
      rw [hr, List.map_map]
      exact vals_refs2 L⟩
    exact ⟨.ref s.heap.objs.size, upd H s.heap.objs.size (SetV X.w s.heap.objs.size (L.map fun p => V.ref p.1)), I.laid (t' := tk) kp (Nat.le_refl _) (setV_new sv), rfl, q _ L hn sub nd all⟩
end
/-! ### texts -/
def keyS (e : Int × Value) : Str := match e.2 with | .str x _ => x | _ => ""
def IsS (w : World) (e : Int × Value) : Prop := ∃ x tk, e = (hashStr w x, Value.str x tk)
structure TxtT (w : World) (xs : List Str) (i : Nat) (o : Obj) : Prop where
  ex : ∃ (es : Array (Int × Value)) (ep : Nat) (t : SetTable), o.ExactSet ∧ o.data = .set es ep t ∧ t.fits es.size = true ∧ Ris t.place.toList ∧ (w.params.followText "set-order" = true ∨ t.led = true) ∧ (∀ e ∈ es.toList, IsS w e) ∧ (es.toList.map keyS).Nodup ∧ (∀ x, x ∈ xs.take i ↔ x ∈ es.toList.map keyS) ∧ es.size ≤ i
theorem txtT_new {w : World} {xs : List Str} : TxtT w xs 0 (set0 w) :=
  ⟨#[], 0, _, ⟨rfl, rfl, rfl⟩, rfl, rfl, List.Pairwise.nil, led_new w, fun e he => (by simp at he), List.nodup_nil, fun x => by simp, Nat.le_refl _⟩
section
variable {P : Program} {w : World} {A : Around} {E : Value → Shared → Prop} {s : Shared}
theorem isS_elems {l : List (Int × Value)} (g : ∀ e ∈ l, IsS w e) : ElemsOf (strKind P w) l := fun e he => by
  obtain ⟨x, tk, rfl⟩ := g e he
  exact ⟨⟨x, by show Value.isStr (.str x tk) x = true; simp [Value.isStr], rfl⟩, rfl⟩
theorem isS_is {e : Int × Value} (g : IsS w e) (x : Str) : (strKind P w).is x e.2 = true ↔ keyS e = x := by
  obtain ⟨y, tk, rfl⟩ := g
  show Value.isStr (.str y tk) x = true ↔ y = x
  simp [Value.isStr]
  try exact eq_comm
theorem add_txt {S : Addr} {o : Obj} {es : Array (Int × Value)} {ep : Nat} {t : SetTable} (ho : s.heap.get? S = some o) (hex : o.ExactSet) (hd : o.data = .set es ep t) (hf : t.fits es.size = true) (hr : Ris t.place.toList) (hl : w.params.followText "set-order" = true ∨ t.led = true)
    (g : ∀ e ∈ es.toList, IsS w e) (hb : es.size + 1 < scanBound) {x : Str} {tk : Tok} {Q : Bool → Shared → Prop}
    (hQ : ∀ b h' o' es' ep' t', Heap.SameBut S s.heap h' → h'.get? S = some o' → o'.ExactSet → o'.data = .set es' ep' t' → t'.fits es'.size = true → Ris t'.place.toList → (w.params.followText "set-order" = true ∨ t'.led = true) →
      (x ∈ es.toList.map keyS → es'.toList.Perm es.toList) → (x ∉ es.toList.map keyS → es'.toList.Perm ((hashStr w x, Value.str x tk) :: es.toList)) → Q b { s with heap := h' }) :
    wpAny (model P w) A (setAddHashed S (.str x tk) (hashStr w x)) Q E s := by
  have hkey : (strKind P w).is x (.str x tk) = true := by show Value.isStr (.str x tk) x = true; simp [Value.isStr]
  have hsc : (Value.str x tk).scannable = true := rfl
  have hel : ElemsOf (strKind P w) es.toList := isS_elems g
  have hx : hashStr w x = (strKind P w).hash x := rfl
  unfold setAddHashed setAddHashedIn
  refine wpAny_holding (wpAny_bind (wpAny_setState_of ho hd hf ?_))
  dsimp only
  rw [byScan_of hsc (by omega) hel]
  simp only [↓reduceIte]
  unfold setAddByScan
  refine wpAny_bind ?_
  refine wpAny_bind (wpAny_rule ?_)
  refine wpAny_bind (wpAny_setScan_of hkey ho hd hf hel ?_)
  cases hfi : List.findIdx? (fun e => (strKind P w).is x e.2) es.toList with
  | some j =>
    dsimp only
    obtain ⟨hj, pj, _⟩ := List.findIdx?_eq_some_iff_getElem.mp hfi
    have hin : x ∈ es.toList.map keyS := List.mem_map.mpr ⟨es.toList[j], List.getElem_mem hj, (isS_is (P := P) (g _ (List.getElem_mem hj)) x).1 pj⟩
    exact wpAny_pure (wpAny_pure (hQ _ s.heap o es ep t (Heap.SameBut.refl S s.heap) ho hex hd hf hr hl (fun _ => .refl _) fun z => absurd hin z))
  | none =>
    dsimp only
    have hnx : x ∉ es.toList.map keyS := fun z => by
      obtain ⟨e, he, q⟩ := List.mem_map.mp z
      have c := List.findIdx?_eq_none_iff.mp hfi e he
      rw [(isS_is (P := P) (g e he) x).2 q] at c
      cases c
    have hgw : ∀ (b : Bool) {s₁ : Shared} {Q' : Unit → Shared → Prop}, Q' () s₁ → wpAny (model P w) A (match b with | true => rule "set.scan.the-table-gave-way" | false => pure ()) Q' E s₁ :=
      fun b s₁ Q' q => by cases b <;> first | exact wpAny_pure q | exact wpAny_rule q
    have pm := layNew_perm t es ((strKind P w).hash x) (.str x tk)
    have hf1 := layNew_fits t es ((strKind P w).hash x) (.str x tk)
    have hr1 := layNew_ris t es ((strKind P w).hash x) (.str x tk) hr
    have hl1 := layNew_led t es ((strKind P w).hash x) (.str x tk)
    rw [hx] at hQ ⊢
    generalize layNew t es ((strKind P w).hash x) (.str x tk) = Z at pm hf1 hr1 hl1 ⊢
    obtain ⟨es1, t1, wasDummy, gave⟩ := Z
    dsimp only at pm hf1 hr1 hl1 ⊢
    rw [Array.toList_push] at pm
    have pc : es1.toList.Perm (((strKind P w).hash x, Value.str x tk) :: es.toList) := pm.trans (List.perm_append_singleton _ _)
    have hsz : es1.size = es.size + 1 := by rw [← Array.length_toList, pc.length_eq, List.length_cons, Array.length_toList]
    have hled : w.params.followText "set-order" = true ∨ t1.led = true := hl.imp id fun z => by rw [hl1]; exact z
    -- what comes behind the laying, whatever the mark
    have tail : ∀ (t2 : SetTable) (R : Option Bool → Shared → Prop) (gg : Bool → Sem Unit), (∀ (b : Bool) (s₁ : Shared) (Q' : Unit → Shared → Prop), Q' () s₁ → wpAny (model P w) A (gg b) Q' E s₁) → t2.fits es1.size = true → Ris t2.place.toList → (w.params.followText "set-order" = true ∨ t2.led = true) →
        (∀ s', (∀ b, Q b s') → R (some true) s') → wpAny (model P w) A (do
        storeSet S es1 t2
        if (!wasDummy && t2.tooFull) = true then do
            gg (relayAll t2 es1 (SetTable.grown es1.size)).2.2
            storeSet S (relayAll t2 es1 (SetTable.grown es1.size)).1 (relayAll t2 es1 (SetTable.grown es1.size)).2.1
            pure (some true)
          else pure (some true)) R E s := by
      intro t2 R gg hgg f2 r2 l2 hR
      refine wpAny_bind (wpAny_storeSet_of ho hd ?_ (fits_of_scanBound (by omega)))
      have ho1 := store_at (es' := es1) (t' := t2) ho hd
      have sb1 := Heap.SameBut.update s.heap S (Obj.putSet es1 t2)
      split
      · have pm3 := relayAll_perm t2 es1 (SetTable.grown es1.size)
        have hf3 := relayAll_fits t2 es1 (SetTable.grown es1.size)
        have hr3 := relayAll_ris t2 es1 (SetTable.grown es1.size)
        have hl3 := relayAll_led t2 es1 (SetTable.grown es1.size)
        generalize relayAll t2 es1 (SetTable.grown es1.size) = Z at pm3 hf3 hr3 hl3 ⊢
        obtain ⟨es2, t3, gave2⟩ := Z
        dsimp only at pm3 hf3 hr3 hl3 ⊢
        have hsz2 : es2.size = es1.size := by rw [← Array.length_toList, pm3.length_eq, Array.length_toList]
        refine wpAny_bind (hgg _ _ _ ?_)
        refine wpAny_bind (wpAny_storeSet_of ho1 rfl ?_ (fits_of_scanBound (by omega)))
        have ho2 := store_at (es' := es2) (t' := t3) ho1 rfl
        refine wpAny_pure (hR _ fun b => ?_)
        exact hQ b _ _ es2 _ t3 (sb1.trans (Heap.SameBut.update _ S _)) ho2 ⟨hex.1, hex.2.1, hex.2.2⟩ rfl (by rw [hsz2]; first | exact hf3 | (rw [← hsz2]; exact hf3)) hr3 (l2.imp id fun z => by rw [hl3]; exact z) (fun z => absurd z hnx) fun _ => pm3.trans pc
      · exact wpAny_pure (hR _ fun b => hQ b _ _ es1 _ t2 sb1 ho1 ⟨hex.1, hex.2.1, hex.2.2⟩ rfl f2 r2 l2 (fun z => absurd z hnx) fun _ => pc)
    refine wpAny_bind (hgw _ ?_)
    split
    · refine wpAny_bind ?_
      rw [hashByValue_scannable 8 hsc]
      refine wpAny_pure ?_
      refine tail _ _ _ ?_ ?_ ?_ ?_ ?_
      · intro b s₁ Q' q; cases b <;> first | exact wpAny_pure q | exact wpAny_rule q
      · first | (split <;> first | exact hf1 | exact SetTable.fits_plain_off hf1) | exact hf1
      · first | (split <;> exact hr1) | exact hr1
      · first | (split <;> exact hled) | exact hled
      · intro s' q; dsimp only; exact wpAny_pure (q _)
    · refine wpAny_bind (wpAny_pure ?_)
      simp only [↓reduceIte]
      refine tail _ _ _ ?_ hf1 hr1 hled ?_
      · intro b s₁ Q' q; cases b <;> first | exact wpAny_pure q | exact wpAny_rule q
      · intro s' q; dsimp only; exact wpAny_pure (q _)
theorem txtT_adds {h0 : Heap} {S : Addr} {n : Nat} {Pv : Nat → Value → Prop} {xs : List Str} (hn : n = xs.length) (hfew : xs.length < 1000) (hval : ∀ i v, Pv i v → ∃ x tk, xs[i]? = some x ∧ v = .str x tk) : Adds P w A h0 S n Pv (TxtT w xs) := by
  intro i v o s E Q hi hP hS hT kp hQ
  obtain ⟨x, tk, hx, rfl⟩ := hval i v hP
  obtain ⟨es, ep, t, hex, hd, hf, hr, hl, g, nd, mem, len⟩ := hT.ex
  unfold setAdd
  refine wpAny_holding ?_
  refine wpAny_bind (wpAny_pyHash_str ?_)
  refine add_txt (s := { s with toks := s.toks + 1 }) hS hex hd hf hr hl g (by unfold scanBound; omega) fun b h' o' es' ep' t' sb ho' hex' hd' hf' hr' hl' c1 c2 => ?_
  refine hQ b h' _ o' (Nat.le_succ _) sb ho' ⟨es', ep', t', hex', hd', hf', hr', hl', ?_⟩
  rcases Classical.em (x ∈ es.toList.map keyS) with c | c
  · have pm := c1 c
    refine ⟨fun e he => g e (pm.mem_iff.mp he), (pm.map keyS).nodup_iff.mpr nd, fun y => ?_, ?_⟩
    · rw [(pm.map keyS).mem_iff, ← mem y, mem_take_next hx]
      constructor
      · rintro (z | z)
        · exact z
        · rw [z]; exact (mem x).2 c
      · exact .inl
    · rw [← Array.length_toList, pm.length_eq, Array.length_toList]; omega
  · have pm := c2 c
    have pk : (es'.toList.map keyS).Perm (x :: es.toList.map keyS) := pm.map keyS
    refine ⟨fun e he => ?_, pk.nodup_iff.mpr (List.nodup_cons.mpr ⟨c, nd⟩), fun y => ?_, ?_⟩
    · rcases List.mem_cons.mp (pm.mem_iff.mp he) with z | z
      · exact ⟨x, tk, z⟩
      · exact g e z
    · rw [pk.mem_iff, List.mem_cons, ← mem y, mem_take_next hx]
      exact Or.comm
    · rw [← Array.length_toList, pm.length_eq, List.length_cons, Array.length_toList]; omega
end
/-- set(xs), xs a list of texts -/
def rSetS (K : PySem.W.Frag) (w : World) : List V → Hp → VK → Prop := fun vs H Q => ∃ (l : Addr) (xs : List Str), vs = [V.ref l] ∧ SqL K H l (xs.map V.str) ∧ xs.length < 1000 ∧
  ∀ a (ys : List Str), H a = none → ys.Nodup → (∀ x, x ∈ ys ↔ x ∈ xs) → Q (.ref a) (upd H a (SetV w a (ys.map V.str)))
theorem vals_strs : ∀ {l : List (Int × Value)} {w : World}, (∀ e ∈ l, IsS w e) → Vals ((l.map keyS).map V.str) (l.map (·.2))
  | [], _, _ => .nil
  | e :: l, w, g => by
    obtain ⟨x, tk, h⟩ := g e List.mem_cons_self
    subst h
    exact .cons ⟨tk, rfl⟩ (vals_strs fun e he => g e (List.mem_cons_of_mem _ he))
theorem strs_at : ∀ {xs : List Str} {us : List Value}, Vals (xs.map V.str) us → ∀ (i : Nat) (v : Value), us[i]? = some v → ∃ x tk, xs[i]? = some x ∧ v = .str x tk
  | [], _, .nil, i, v, h => by simp at h
  | x :: xs, _, .cons r t, 0, v, h => by
    obtain ⟨tk, e⟩ := r
    exact ⟨x, tk, rfl, by rw [← Option.some.inj h]; exact e⟩
  | x :: xs, _, .cons r t, i + 1, v, h => strs_at t i v h
section
variable {X : Cx}
theorem cr_setS (hc : X.calm = true) : CallR X (.type "set") (rSetS X.K X.w) := by
  intro pins s σ H vs us Q I r h
  obtain ⟨l, xs, rfl, hl, hf, q⟩ := h
  obtain ⟨u, rfl, ru⟩ := vals1 r
  obtain rfl : u = Value.ref l := ru
  obtain ⟨its, rv, pl, hz⟩ := I.list hl
  have hn : H s.heap.objs.size = none := I.hok.fresh (Nat.le_refl _)
  have hz2 : its.toArray.size = xs.length := by rw [List.size_toArray, ← rv.length, List.length_map]
  refine call_set_any (P := X.prog) (w := X.w) (I.ok.hd hc) pl.isList (T := TxtT X.w xs) txtT_new (txtT_adds hz2 hf fun i v hv => strs_at rv i v (by simpa using hv)) fun h' tk o ho hT kp => ?_
  obtain ⟨es, ep, t, hex, hd, hft, hr, hl, g, nd, mem, len⟩ := hT.ex
  rw [hz2, List.take_length] at mem
  rw [hz2] at len
  have sv : SetV0 X.w h' s.heap.objs.size ((es.toList.map keyS).map V.str) := ⟨es, ep, t, ⟨o, ho, hex, hd⟩, hft, hr, hl, by omega, vals_strs g⟩
  exact ⟨.ref s.heap.objs.size, upd H s.heap.objs.size (SetV X.w s.heap.objs.size ((es.toList.map keyS).map V.str)), I.laid (t' := tk) kp (Nat.le_refl _) (setV_new sv), rfl, q _ _ hn nd fun x => (mem x).symm⟩
end
end My

set_option Elab.async false
set_option maxRecDepth 100000
set_option maxHeartbeats 4000000
set_option linter.all false
/-! Dicts whose keys are tuples, also of tuples. -/
namespace My
open PySem PySem.Spec PyProof.Rows L2
abbrev NRow := NK × Addr × V
abbrev NRows := List NRow
def NRel (p : NRow) (q : NK × Addr × Value) : Prop := p.1 = q.1 ∧ p.2.1 = q.2.1 ∧ RelV p.2.2 q.2.2
def dnP (P : Program) (w : World) (d : Addr) (xs : NRows) (h : Heap) : Prop :=
  (d == sysModules) = false ∧ ∃ vs : List (NK × Addr × Value), Paired NRel xs vs ∧ ∃ o es ep, h.get? d = some o ∧ o.ExactDict ∧ o.data = .dict es ep ∧ es.toList = vs.map (entryOfKey (nestedKind P w)) ∧ (vs.map (·.1)).Nodup
def dnO (P : Program) (w : World) (d : Addr) (xs : NRows) : HO := .ext (dnP P w d xs)
theorem dnO_ok {P : Program} {w : World} {H : Hp} {h : Heap} {d : Addr} {xs : NRows} (x : dnP P w d xs h) : ObjOk P w H h d (dnO P w d xs) := by
  obtain ⟨hd, vs, r, o, es, ep, e, c⟩ := x
  refine ⟨⟨hd, vs, r, o, es, ep, e, c⟩, ⟨o, e⟩, fun h1 h2 x k => ?_⟩
  obtain ⟨hd, vs, r, o, es, ep, e, c⟩ := x
  exact ⟨hd, vs, r, o, es, ep, k o e, c⟩
def valN (xs : NRows) (k : NK) : Option V := (xs.find? fun x => decide (x.1 = k)).map (·.2.2)
structure DN (P : Program) (w : World) (K : PySem.W.Frag) (H : Hp) (d : Addr) (xs : NRows) : Prop where
  at_ : H d = some (dnO P w d xs) ∨ (xs = [] ∧ H d = some (.dK []))
  len : xs.length ≤ sizeLine
  keys : ∀ x ∈ xs, Dp K H (.ref x.2.1) x.1.data ∧ x.1.depth ≤ 8
theorem nrel_val {k : NK} : ∀ {xs : NRows} {vs : List (NK × Addr × Value)}, Paired NRel xs vs → RelO (valN xs k) ((atKey vs k).map (·.2))
  | _, _, .nil => True.intro
  | _, _, .cons (a := p) (b := q) h t => by
    have ih := nrel_val (k := k) t
    unfold valN atKey at *
    by_cases e : p.1 = k
    · have e2 : q.1 = k := h.1.symm.trans e
      rw [List.find?_cons_of_pos (by simp [e]), List.find?_cons_of_pos (by simp [e2])]
      exact h.2.2
    · have e2 : ¬ q.1 = k := fun z => e (h.1.trans z)
      rw [List.find?_cons_of_neg (by simp [e]), List.find?_cons_of_neg (by simp [e2])]
      exact ih
theorem nrel_mem {xs : NRows} {vs : List (NK × Addr × Value)} (r : Paired NRel xs vs) : ∀ q ∈ vs, ∃ p ∈ xs, NRel p q := by
  induction r with
  | nil => intro q hq; cases hq
  | @cons p q ps qs h t ih =>
    intro z hz
    rcases List.mem_cons.mp hz with e | hz
    · exact ⟨p, .head _, by rw [e]; exact h⟩
    · obtain ⟨y, h1, h2⟩ := ih z hz
      exact ⟨y, .tail _ h1, h2⟩
section
variable {X : Cx} {pins : List (Addr × Obj)} {σ : L2.St} {H : Hp} {s : Shared} {d : Addr} {xs : NRows}
theorem dn_of (I : Inv X pins σ H s) (D : DN X.prog X.w X.K H d xs) : (d == sysModules) = false ∧ ∃ vs, Paired NRel xs vs ∧ s.heap.DictOfH (nestedKind X.prog X.w) d vs := by
  rcases D.at_ with e | ⟨rfl, e⟩
  · obtain ⟨⟨hd, vs, r, o, es, ep, h1, h2, h3, h4, h5⟩, _⟩ := (show ObjOk X.prog X.w H s.heap d (dnO X.prog X.w d xs) from I.hok d _ e)
    refine ⟨hd, vs, r, o, es, ep, h1, h2, h3, h4, fun q hq => ?_, h5⟩
    obtain ⟨p, hp, e1, e2, _⟩ := nrel_mem r q hq
    obtain ⟨k1, k2⟩ := D.keys p hp
    rw [e1, e2] at k1
    rw [e1] at k2
    exact ⟨dp_nested I q.1 _ _ k1 rfl, k2⟩
  · obtain ⟨z, hd, vs, rel, o, es, ep, h1, h2, h3, h4, h5, h6⟩ := dk_of I.hok e
    cases rel
    have e0 : es.toList = [] := by
      cases hes : es.toList with
      | nil => rfl
      | cons y ys => rw [hes] at h5; cases h5
    exact ⟨hd, [], .nil, o, es, ep, h1, h2, h3, e0, (fun q hq => by cases hq), List.nodup_nil⟩
end
section
variable {X : Cx}
/-- k not in d -/
def rNotInN (P : Program) (w : World) (K : PySem.W.Frag) : R2 := fun x y H Q => ∃ (b : Addr) (k : NK) (d : Addr) (xs : NRows), x = .ref b ∧ y = .ref d ∧ Dp K H (.ref b) k.data ∧ k.depth ≤ 8 ∧ DN P w K H d xs ∧ Q (.bl (!(valN xs k).isSome)) H
theorem op_notinN (hu : X.A.units + 65 < cLine) : OpR X (compareOp .NotIn) (rNotInN X.prog X.w X.K) := by
  intro pins s σ H x y v u Q I rx ry h
  obtain ⟨b, k, d, xs, rfl, rfl, hk, h8, D, q⟩ := h
  cases rx
  cases ry
  obtain ⟨hd, vs, r, dd⟩ := dn_of I D
  refine wpAny_notIn_heap (knd := nestedKind X.prog X.w) (k := k) (by show X.A.units + 1 + 8 < cLine; omega) ⟨dp_nested I k _ _ hk rfl, h8⟩ hd dd ?_
  have e := (nrel_val (k := k) r).isSome_eq
  rw [Option.isSome_map] at e
  rw [← e]
  exact ⟨.bl _, H, I.tok _, rfl, q⟩
/-- d[k] -/
def rIxN (P : Program) (w : World) (K : PySem.W.Frag) : R2 := fun x y H Q => ∃ (b : Addr) (k : NK) (d : Addr) (xs : NRows) (v : V), x = .ref d ∧ y = .ref b ∧ Dp K H (.ref b) k.data ∧ k.depth ≤ 8 ∧ DN P w K H d xs ∧ valN xs k = some v ∧ Q v H
theorem ix_N (hu : X.A.units + 65 < cLine) : IxR X (rIxN X.prog X.w X.K) := by
  intro value slice pins s σ H x y v u Q I rx ry h hs
  obtain ⟨b, k, d, xs, z, rfl, rfl, hk, h8, D, hv, q⟩ := h
  cases rx
  cases ry
  obtain ⟨hd, vs, r, dd⟩ := dn_of I D
  obtain ⟨w', hw, rw'⟩ := RelO.some_of (v := z) (o := (atKey vs k).map (·.2)) (by rw [← hv]; exact nrel_val r)
  obtain ⟨p, hp, rfl⟩ := Option.map_eq_some_iff.mp hw
  exact subscriptTail_builtinR (x := p.2) dd.typeIs PySem.F.slot_dict_getitem.lookup
    (wpAny_getItem_heap (knd := nestedKind X.prog X.w) (k := k) (by show X.A.units + 1 + 8 < cLine; omega) ⟨dp_nested I k _ _ hk rfl, h8⟩ dd hp ⟨rfl, z, H, I.tok _, rw', q⟩) hs
/-- d[k] = v, k not yet in d -/
def rSetN (P : Program) (w : World) (K : PySem.W.Frag) : TSet := fun o i v H Q => ∃ (b : Addr) (k : NK) (d : Addr) (xs : NRows), o = .ref d ∧ i = .ref b ∧ Dp K H (.ref b) k.data ∧ k.depth ≤ 8 ∧ DN P w K H d xs ∧ xs.length < sizeLine ∧ valN xs k = none ∧ Q (upd H d (dnO P w d (xs ++ [(k, b, v)])))
theorem set_N (hu : X.A.units + 65 < cLine) : PSet X (rSetN X.prog X.w X.K) := by
  intro pins s σ H o i v ov iv u Q I ro ri rv h
  obtain ⟨b, k, d, xs, rfl, rfl, hk, h8, D, hl, hv, q⟩ := h
  cases ro
  cases ri
  obtain ⟨hd, vs, r, dd⟩ := dn_of I D
  have hz : vs.length ≤ sizeLine := by rw [← Paired.length r]; omega
  have ek : atKey vs k = none := by
    have e := (nrel_val (k := k) r).isSome_eq
    rw [hv, Option.isSome_map] at e
    exact Option.isNone_iff_eq_none.mp (by rw [Option.isNone_iff_eq_none, ← Option.not_isSome_iff_eq_none, ← e]; decide)
  refine wpAny_setItem_heap (knd := nestedKind X.prog X.w) (k := k) (hsz := hz) (by show X.A.units + 1 + 8 < cLine; omega) ⟨dp_nested I k _ _ hk rfl, h8⟩ dd fun h' dd' hs => ?_
  rw [storedH_new ek] at dd'
  obtain ⟨o, es, ep, h1, h2, h3, h4, _, h5⟩ := dd'
  refine ⟨_, d_write I ?_ hs ⟨o, h1⟩ (dnO_ok ⟨hd, _, Paired.snoc r ⟨rfl, rfl, rv⟩, o, es, ep, h1, h2, h3, h4, h5⟩), q⟩
  rcases D.at_ with e | ⟨_, e⟩ <;> rw [e] <;> exact True.intro
end
/-! what stays -/
/-- all but the thing at d stays -/
theorem hide_upd_self {d : Addr} {H : Hp} (o : HO) : hide d (upd H d o) = hide d H := funext fun b => by
  by_cases e : b = d
  · rw [e, hide_at, hide_at]
  · rw [hide_ne e, hide_ne e, upd_ne e]
end My

set_option Elab.async false
set_option maxRecDepth 100000
set_option maxHeartbeats 4000000
set_option linter.all false
/-! Pools as data: gates, what they say of named bits. -/
namespace My
open PySem PySem.Spec PyProof.Rows L2
inductive Gt where
  | no | bit (n : NK) | both (x y : Int) | unlike (x y : Int) | chosen (c x y : Int) | most (x y z : Int)
def Gt.nk : Gt → NK
  | .no => .tup [.text "no"]
  | .bit n => .tup [.text "bit", n]
  | .both x y => .tup [.text "both", .num x, .num y]
  | .unlike x y => .tup [.text "unlike", .num x, .num y]
  | .chosen c x y => .tup [.text "chosen", .num c, .num x, .num y]
  | .most x y z => .tup [.text "most", .num x, .num y, .num z]
def Gt.parts : Gt → List Int
  | .no => []
  | .bit _ => []
  | .both x y => [x, y]
  | .unlike x y => [x, y]
  | .chosen c x y => [c, x, y]
  | .most x y z => [x, y, z]
/-- the bit of a literal, the gates' bits being bs -/
def litv (bs : List Int) (x : Int) : Int := if x % 2 = 0 then bs.getD (x / 2).toNat 0 else 1 - bs.getD (x / 2).toNat 0
abbrev Bits := NK → Int
def Gt.val (env : Bits) (bs : List Int) : Gt → Int
  | .no => 0
  | .bit n => env n
  | .both x y => if litv bs x + litv bs y ≥ 2 then 1 else 0
  | .unlike x y => if litv bs x = litv bs y then 0 else 1
  | .chosen c x y => if litv bs c = 1 then litv bs x else litv bs y
  | .most x y z => if litv bs x + litv bs y + litv bs z ≥ 2 then 1 else 0
def bitsOf (env : Bits) (gs : List Gt) : List Int := gs.foldl (fun bs g => bs ++ [g.val env bs]) []
theorem bitsOf_snoc (env : Bits) (gs : List Gt) (g : Gt) : bitsOf env (gs ++ [g]) = bitsOf env gs ++ [g.val env (bitsOf env gs)] := by
  unfold bitsOf
  rw [List.foldl_append]
  rfl
theorem snoc_cases {α : Type} (xs : List α) : xs = [] ∨ ∃ ys y, xs = ys ++ [y] := by
  rcases xs.eq_nil_or_concat with h | ⟨ys, y, h⟩
  · exact .inl h
  · exact .inr ⟨ys, y, by rw [h, List.concat_eq_append]⟩
theorem snoc_rec {α : Type} {p : List α → Prop} (h0 : p []) (h1 : ∀ xs x, p xs → p (xs ++ [x])) : ∀ xs, p xs := by
  intro xs
  have : ∀ n (xs : List α), xs.length = n → p xs := by
    intro n
    induction n with
    | zero => intro xs h; rw [List.length_eq_zero_iff.mp h]; exact h0
    | succ n ih =>
      intro xs h
      rcases snoc_cases xs with e | ⟨ys, y, e⟩
      · rw [e]; exact h0
      · rw [e] at h ⊢
        exact h1 ys y (ih ys (by rw [List.length_append, List.length_singleton] at h; omega))
  exact this _ xs rfl
theorem bitsOf_len (env : Bits) (gs : List Gt) : (bitsOf env gs).length = gs.length := by
  induction gs using snoc_rec with
  | h0 => rfl
  | h1 xs x ih => rw [bitsOf_snoc, List.length_append, List.length_append, ih]; rfl
theorem bitsOf_pre (env : Bits) (gs more : List Gt) : ∃ t, bitsOf env (gs ++ more) = bitsOf env gs ++ t := by
  induction more using snoc_rec with
  | h0 => exact ⟨[], by rw [List.append_nil, List.append_nil]⟩
  | h1 xs x ih =>
    obtain ⟨t, ht⟩ := ih
    rw [← List.append_assoc, bitsOf_snoc, ht]
    exact ⟨t ++ [x.val env (bitsOf env gs ++ t)], by rw [List.append_assoc]⟩
def okL (gs : List Gt) (x : Int) : Prop := 0 ≤ x ∧ x < 2 * (gs.length : Int)
theorem okL.mono {gs gs' : List Gt} {x : Int} (h : okL gs x) (p : gs <+: gs') : okL gs' x := ⟨h.1, by have := p.length_le; have := h.2; omega⟩
theorem litv_pre {env : Bits} {gs gs' : List Gt} {x : Int} (h : okL gs x) (p : gs <+: gs') : litv (bitsOf env gs') x = litv (bitsOf env gs) x := by
  obtain ⟨more, rfl⟩ := p
  obtain ⟨t, e⟩ := bitsOf_pre env gs more
  have hl : (x / 2).toNat < (bitsOf env gs).length := by rw [bitsOf_len]; have := h.1; have := h.2; omega
  unfold litv
  rw [e, List.getD_eq_getElem?_getD, List.getElem?_append_left hl, ← List.getD_eq_getElem?_getD]
/-- made of no constant, of no gate twice -/
structure Gt.Neat (g : Gt) : Prop where
  big : ∀ x ∈ g.parts, 2 ≤ x
  dist : g.parts.Pairwise fun x y => x / 2 ≠ y / 2
/-- gates in order -/
structure okGs (gs : List Gt) : Prop where
  first : gs[0]? = some .no
  parts : ∀ (i : Nat) (g : Gt), gs[i]? = some g → ∀ x ∈ g.parts, 0 ≤ x ∧ x < 2 * (i : Int)
  neat : ∀ (i : Nat) (g : Gt), gs[i]? = some g → g.Neat
theorem okGs.pos {gs : List Gt} (h : okGs gs) : 0 < gs.length := by
  have := h.first
  cases gs with
  | nil => cases this
  | cons g r => exact Nat.succ_pos _
theorem okGs.snoc {gs : List Gt} (h : okGs gs) {g : Gt} (hg : ∀ x ∈ g.parts, okL gs x) (hn : g.Neat) : okGs (gs ++ [g]) := by
  refine ⟨?_, fun i g' e x hx => ?_, fun i g' e => ?_⟩
  · rw [List.getElem?_append_left h.pos]
    exact h.first
  · by_cases hi : i < gs.length
    · rw [List.getElem?_append_left hi] at e
      exact h.parts i g' e x hx
    · rw [List.getElem?_append_right (by omega)] at e
      have hi2 : i = gs.length := by
        have := (List.getElem?_eq_some_iff.mp e).1
        rw [List.length_singleton] at this
        omega
      rw [hi2, Nat.sub_self] at e
      cases e
      rw [hi2]
      exact hg x hx
  · by_cases hi : i < gs.length
    · rw [List.getElem?_append_left hi] at e
      exact h.neat i g' e
    · rw [List.getElem?_append_right (by omega)] at e
      have hi2 : i = gs.length := by
        have := (List.getElem?_eq_some_iff.mp e).1
        rw [List.length_singleton] at this
        omega
      rw [hi2, Nat.sub_self] at e
      cases e
      exact hn
/-- no named bit is new -/
def NoBits (gs gs' : List Gt) : Prop := ∀ n, Gt.bit n ∈ gs' → Gt.bit n ∈ gs
theorem NoBits.refl (gs : List Gt) : NoBits gs gs := fun _ h => h
theorem NoBits.trans {a b c : List Gt} (h : NoBits a b) (k : NoBits b c) : NoBits a c := fun n m => h n (k n m)
theorem noBits_of {gs gs' : List Gt} {g : Gt} (h : gs' = gs ∨ gs' = gs ++ [g]) (hg : ∀ n, g ≠ .bit n) : NoBits gs gs' := fun n m => by
  rcases h with e | e
  · rw [e] at m; exact m
  · rw [e] at m
    rcases List.mem_append.mp m with m | m
    · exact m
    · exact absurd (List.mem_singleton.mp m).symm (hg n)
def bitEnv (env : Bits) : Prop := ∀ n, env n = 0 ∨ env n = 1
theorem getD_app {α : Type} {xs : List α} {y d : α} {i : Nat} : (xs ++ [y]).getD i d = if i < xs.length then xs.getD i d else if i = xs.length then y else d := by
  rw [List.getD_eq_getElem?_getD, List.getD_eq_getElem?_getD]
  by_cases h : i < xs.length
  · rw [if_pos h, List.getElem?_append_left h]
  · rw [if_neg h, List.getElem?_append_right (by omega)]
    by_cases h2 : i = xs.length
    · rw [if_pos h2, h2, Nat.sub_self]; rfl
    · rw [if_neg h2, List.getElem?_eq_none (by rw [List.length_singleton]; omega)]; rfl
theorem litv_bit {bs : List Int} (h : ∀ b ∈ bs, b = 0 ∨ b = 1) (x : Int) : litv bs x = 0 ∨ litv bs x = 1 := by
  have k : bs.getD (x / 2).toNat 0 = 0 ∨ bs.getD (x / 2).toNat 0 = 1 := by
    rw [List.getD_eq_getElem?_getD]
    cases e : bs[(x / 2).toNat]? with
    | none => exact .inl rfl
    | some b => exact h b (List.mem_of_getElem? e)
  unfold litv
  split <;> omega
theorem bits_bit {env : Bits} (he : bitEnv env) (gs : List Gt) : ∀ b ∈ bitsOf env gs, b = 0 ∨ b = 1 := by
  induction gs using snoc_rec with
  | h0 => intro b hb; cases hb
  | h1 xs g ih =>
    intro b hb
    rw [bitsOf_snoc] at hb
    rcases List.mem_append.mp hb with hb | hb
    · exact ih b hb
    · rw [List.mem_singleton.mp hb]
      cases g with
      | no => exact .inl rfl
      | bit n => exact he n
      | both x y => show (if _ then (1 : Int) else 0) = 0 ∨ (if _ then (1 : Int) else 0) = 1; split <;> simp
      | unlike x y => show (if _ then (0 : Int) else 1) = 0 ∨ (if _ then (0 : Int) else 1) = 1; split <;> simp
      | chosen c x y =>
        show (if litv (bitsOf env xs) c = 1 then litv (bitsOf env xs) x else litv (bitsOf env xs) y) = 0 ∨ (if litv (bitsOf env xs) c = 1 then litv (bitsOf env xs) x else litv (bitsOf env xs) y) = 1
        split
        · exact litv_bit ih x
        · exact litv_bit ih y
      | most x y z => show (if _ then (1 : Int) else 0) = 0 ∨ (if _ then (1 : Int) else 0) = 1; split <;> simp
/-- the bit of gate i -/
theorem bits_at {env : Bits} : ∀ (gs : List Gt), okGs gs → ∀ (i : Nat) (g : Gt), gs[i]? = some g → (bitsOf env gs).getD i 0 = g.val env (bitsOf env gs) := by
  have vcongr : ∀ (g : Gt) (a b : List Int), (∀ x ∈ g.parts, litv a x = litv b x) → g.val env a = g.val env b := by
    intro g a b h
    cases g with
    | no => rfl
    | bit n => rfl
    | both x y => show (if litv a x + litv a y ≥ 2 then (1 : Int) else 0) = _; rw [h x (.head _), h y (.tail _ (.head _))]; rfl
    | unlike x y => show (if litv a x = litv a y then (0 : Int) else 1) = _; rw [h x (.head _), h y (.tail _ (.head _))]; rfl
    | chosen c x y => show (if litv a c = 1 then litv a x else litv a y) = _; rw [h c (.head _), h x (.tail _ (.head _)), h y (.tail _ (.tail _ (.head _)))]; rfl
    | most x y z => show (if litv a x + litv a y + litv a z ≥ 2 then (1 : Int) else 0) = _; rw [h x (.head _), h y (.tail _ (.head _)), h z (.tail _ (.tail _ (.head _)))]; rfl
  intro gs hk i g hg
  have hi := (List.getElem?_eq_some_iff.mp hg).1
  have e : gs = gs.take i ++ ([g] ++ gs.drop (i + 1)) := by
    have hgi : gs[i] = g := (List.getElem?_eq_some_iff.mp hg).2
    conv => lhs; rw [← List.take_append_drop i gs, List.drop_eq_getElem_cons hi, hgi]
    rfl
  have hpre : gs.take i <+: gs := List.take_prefix _ _
  have hlen : (gs.take i).length = i := by rw [List.length_take]; omega
  have hparts := hk.parts i g hg
  obtain ⟨t, ht⟩ := bitsOf_pre env (gs.take i ++ [g]) (gs.drop (i + 1))
  rw [List.append_assoc, ← e] at ht
  have h1 : (bitsOf env gs).getD i 0 = g.val env (bitsOf env (gs.take i)) := by
    rw [ht, bitsOf_snoc, List.getD_eq_getElem?_getD, List.getElem?_append_left (by rw [List.length_append, bitsOf_len, hlen, List.length_singleton]; omega), ← List.getD_eq_getElem?_getD, getD_app, bitsOf_len, hlen, if_neg (Nat.lt_irrefl i), if_pos rfl]
  rw [h1]
  refine vcongr g _ _ fun x hx => (litv_pre ⟨(hparts x hx).1, by rw [hlen]; exact (hparts x hx).2⟩ hpre).symm
/-! ### literals -/
theorem xor1 (x : Int) : Builtin.bitXor x 1 = if x % 2 = 0 then x + 1 else x - 1 := by
  rw [bitXor_and, bitAnd_m1]
  split <;> omega
theorem litv_xor1 {bs : List Int} {x : Int} (h0 : 0 ≤ x) : litv bs (Builtin.bitXor x 1) = 1 - litv bs x := by
  rw [xor1]
  unfold litv
  by_cases h : x % 2 = 0
  · rw [if_pos h, if_pos h, if_neg (by omega), show (x + 1) / 2 = x / 2 by omega]
  · rw [if_neg h, if_neg h, if_pos (by omega), show (x - 1) / 2 = x / 2 by omega]
    omega
theorem okL_xor1 {gs : List Gt} {x : Int} (h : okL gs x) : okL gs (Builtin.bitXor x 1) := by
  rw [xor1]
  have := h.1
  have := h.2
  unfold okL
  split <;> omega
theorem xor_t {x t : Int} (ht : t = 0 ∨ t = 1) : Builtin.bitXor x t = if t = 0 then x else Builtin.bitXor x 1 := by
  rcases ht with h | h <;> rw [h]
  · rw [bitXor_zero, if_pos rfl]
  · rw [if_neg (by decide)]
theorem litv_xort {bs : List Int} {x t : Int} (h0 : 0 ≤ x) (ht : t = 0 ∨ t = 1) : litv bs (Builtin.bitXor x t) = if t = 0 then litv bs x else 1 - litv bs x := by
  rw [xor_t ht]
  split
  · rfl
  · exact litv_xor1 h0
theorem okL_xort {gs : List Gt} {x t : Int} (h : okL gs x) (ht : t = 0 ∨ t = 1) : okL gs (Builtin.bitXor x t) := by
  rw [xor_t ht]
  split
  · exact h
  · exact okL_xor1 h
/-- the literal without its turn -/
theorem even_of (x : Int) : Builtin.bitXor x (Builtin.bitAnd x 1) = x - x % 2 := by
  rw [bitAnd_m1, bitXor_and]
  have h : x % 2 = 0 ∨ x % 2 = 1 := by omega
  rcases h with h | h <;> rw [h]
  · rw [bitAnd_zero]; omega
  · rw [bitAnd_m1]; omega
theorem turned_of (x y : Int) : Builtin.bitAnd (Builtin.bitXor x y) 1 = (x + y) % 2 := by
  rw [bitAnd_m1, bitXor_and]
  omega
theorem litv_even {bs : List Int} (x : Int) : litv bs (x - x % 2) = if x % 2 = 0 then litv bs x else 1 - litv bs x := by
  unfold litv
  by_cases h : x % 2 = 0
  · rw [if_pos h, if_pos h, if_pos (by omega), show x - x % 2 = x by omega]
  · rw [if_neg h, if_neg h, if_pos (by omega), show (x - x % 2) / 2 = x / 2 by omega]
    omega
theorem litv_no {env : Bits} {gs : List Gt} (h : okGs gs) : litv (bitsOf env gs) 0 = 0 := by
  show (if (0 : Int) % 2 = 0 then (bitsOf env gs).getD 0 0 else 1 - (bitsOf env gs).getD 0 0) = 0
  rw [if_pos (by decide), bits_at gs h 0 .no h.first]
  rfl
theorem litv_yes {env : Bits} {gs : List Gt} (h : okGs gs) : litv (bitsOf env gs) 1 = 1 := by
  show (if (1 : Int) % 2 = 0 then (bitsOf env gs).getD 0 0 else 1 - (bitsOf env gs).getD 0 0) = 1
  rw [if_neg (by decide), bits_at gs h 0 .no h.first]
  rfl
/-- a set of gates that holds the gates of the parts, too -/
structure Cone (gs : List Gt) (xs ys : List Int) : Prop where
  asc : ys.Pairwise (· < ·)
  rng : ∀ y ∈ ys, 0 ≤ y ∧ y < (gs.length : Int)
  has : ∀ x ∈ xs, x / 2 ∈ ys
  cl : ∀ y ∈ ys, ∀ g, gs[y.toNat]? = some g → ∀ z ∈ g.parts, z / 2 ∈ ys
  pos : (∀ x ∈ xs, 2 ≤ x) → ∀ y ∈ ys, 1 ≤ y
end My

set_option Elab.async false
set_option maxRecDepth 100000
set_option maxHeartbeats 4000000
set_option linter.all false
/-! Pools in the heap. -/
namespace My
open PySem PySem.Spec PyProof.Rows L2
/-! ### all but some things stays -/
def But (A : List Addr) (H H' : Hp) : Prop := ∀ b o, b ∉ A → H b = some o → H' b = some o
theorem But.refl (A : List Addr) (H : Hp) : But A H H := fun _ _ _ h => h
theorem But.trans {A : List Addr} {H H' H'' : Hp} (h : But A H H') (k : But A H' H'') : But A H H'' := fun b o n e => k b o n (h b o n e)
theorem But.wide {A B : List Addr} {H H' : Hp} (h : But A H H') (s : ∀ a ∈ A, a ∈ B) : But B H H' := fun b o n e => h b o (fun m => n (s b m)) e
theorem But.of_same {A : List Addr} {H H' : Hp} (h : Same H H') : But A H H' := fun b o _ e => h b o e
theorem But.of_hide {d : Addr} {H H' : Hp} (h : Same (hide d H) (hide d H')) : But [d] H H' := fun b o n e => hide_le _ _ (h b o (hide_in e fun z => n (by rw [z]; exact List.mem_singleton_self d)))
theorem But.to_hide {d : Addr} {H H' : Hp} (h : But [d] H H') : Same (hide d H) (hide d H') := fun b o e => by
  obtain ⟨h1, h2⟩ := hide_some e
  exact hide_in (h b o (fun m => h1 (List.mem_singleton.mp m)) h2) h1
theorem But.new {A : List Addr} {H : Hp} {p : Addr} (h : H p = none) (o : HO) : But A H (upd H p o) := .of_same (same_new h o)
theorem But.put {A : List Addr} {H : Hp} {p : Addr} (h : p ∈ A) (o : HO) : But A H (upd H p o) := fun b u n e => by
  rw [upd_ne fun z => n (by rw [z]; exact h)]
  exact e
theorem sqt_but {K : PySem.W.Frag} {A : List Addr} {H H' : Hp} (hA : ∀ a ∈ A, Mut (H a)) (hb : But A H H') {a : Addr} {xs : List V} (h : SqT K H a xs) : SqT K H' a xs := by
  rcases h with (h | ⟨o, h⟩) | h
  · refine .inl (.inl (hb a _ (fun m => ?_) h))
    have := hA a m
    rw [h] at this
    exact this
  · refine .inl (.inr ⟨o, hb a _ (fun m => ?_) h⟩)
    have := hA a m
    rw [h] at this
    exact this
  · exact .inr h
mutual
theorem dp_but {K : PySem.W.Frag} {A : List Addr} {H H' : Hp} (hA : ∀ a ∈ A, Mut (H a)) (hb : But A H H') : ∀ (d : PyData) {v : V}, noLst d = true → Dp K H v d → Dp K H' v d
  | .none, _, _, .non => .non
  | .bool _, _, _, .bl b => .bl b
  | .int _, _, _, .int i => .int i
  | .str _, _, _, .str x => .str x
  | .list ds, _, n, _ => by cases (show false = true from n)
  | .tuple ds, _, n, .tup h hs => .tup (sqt_but hA hb h) (dpa_but hA hb ds n hs)
  | .dict _, _, _, h => by cases h
theorem dpa_but {K : PySem.W.Frag} {A : List Addr} {H H' : Hp} (hA : ∀ a ∈ A, Mut (H a)) (hb : But A H H') : ∀ (ds : List PyData) {vs : List V}, noLsts ds = true → DpAll K H vs ds → DpAll K H' vs ds
  | [], _, _, .nil => .nil
  | d :: ds, _, n, .cons h hs => by
    have n' := Bool.and_eq_true_iff.mp (show (noLst d && noLsts ds) = true from n)
    exact .cons (dp_but hA hb d n'.1 h) (dpa_but hA hb ds n'.2 hs)
end
mutual
theorem nk_noLst : ∀ k : NK, noLst k.data = true
  | .none => rfl
  | .num _ => rfl
  | .text _ => rfl
  | .tup ks => nks_noLst ks
theorem nks_noLst : ∀ ks : List NK, noLsts (NestedKey.datas ks) = true
  | [] => rfl
  | k :: ks => by
    show (noLst k.data && noLsts (NestedKey.datas ks)) = true
    rw [nk_noLst k, nks_noLst ks]
    rfl
end
/-! ### the class, a pool -/
structure PlK (K : PySem.W.Frag) (C : Addr) : Prop where
  cls : L2.Cls K C
  g : L2.NoAttr K C "gates"
  l : L2.NoAttr K C "literals"
def plFs (G D : Addr) : List (Str × V) := putF "literals" (.ref D) (putF "gates" (.ref G) [])
theorem plFs_g (G D : Addr) : (plFs G D).lookup ("gates" : Str) = some (.ref G) := by
  unfold plFs
  rw [lookup_putF, if_neg (by decide +kernel), lookup_putF, if_pos rfl]
theorem plFs_l (G D : Addr) : (plFs G D).lookup ("literals" : Str) = some (.ref D) := by
  unfold plFs
  rw [lookup_putF, if_pos rfl]
theorem plFs_no (G D : Addr) {m : Str} (h1 : ¬ m = "literals") (h2 : ¬ m = "gates") : (plFs G D).lookup m = none := by
  unfold plFs
  rw [lookup_putF, if_neg h1, lookup_putF, if_neg h2]
  rfl
/-- the literals' rows from gate i on -/
def plRows : Nat → List Gt → List Addr → NRows
  | i, g :: gs, t :: ts => (g.nk, t, .int (2 * (i : Int))) :: plRows (i + 1) gs ts
  | _, _, _ => []
theorem plRows_snoc {g : Gt} {t : Addr} : ∀ {i : Nat} {gs : List Gt} {ts : List Addr}, gs.length = ts.length → plRows i (gs ++ [g]) (ts ++ [t]) = plRows i gs ts ++ [(g.nk, t, .int (2 * ((i + gs.length : Nat) : Int)))]
  | i, [], [], _ => rfl
  | i, g' :: gs, t' :: ts, h => by
    show (g'.nk, t', V.int (2 * (i : Int))) :: plRows (i + 1) (gs ++ [g]) (ts ++ [t]) = _
    rw [plRows_snoc (by simpa using h), show i + 1 + gs.length = i + (g' :: gs).length by simp; omega]
    rfl
theorem plRows_len : ∀ {i : Nat} {gs : List Gt} {ts : List Addr}, gs.length = ts.length → (plRows i gs ts).length = gs.length
  | i, [], [], _ => rfl
  | i, g' :: gs, t' :: ts, h => by
    show (plRows (i + 1) gs ts).length + 1 = gs.length + 1
    rw [plRows_len (by simpa using h)]
theorem plRows_mem {x : NRow} : ∀ {i : Nat} {gs : List Gt} {ts : List Addr}, x ∈ plRows i gs ts → ∃ (j : Nat) (g : Gt), gs[j]? = some g ∧ ts[j]? = some x.2.1 ∧ x.1 = g.nk ∧ x.2.2 = .int (2 * ((i + j : Nat) : Int))
  | i, [], _, h => by cases h
  | i, _ :: _, [], h => by cases h
  | i, g :: gs, t :: ts, h => by
    rcases List.mem_cons.mp (show x ∈ (g.nk, t, V.int (2 * (i : Int))) :: plRows (i + 1) gs ts from h) with e | h
    · rw [e]
      exact ⟨0, g, rfl, rfl, rfl, rfl⟩
    · obtain ⟨j, g', h1, h2, h3, h4⟩ := plRows_mem h
      exact ⟨j + 1, g', by rw [List.getElem?_cons_succ]; exact h1, by rw [List.getElem?_cons_succ]; exact h2, h3, by rw [h4, show i + 1 + j = i + (j + 1) by omega]⟩
theorem plRows_has {g : Gt} : ∀ {i j : Nat} {gs : List Gt} {ts : List Addr}, gs.length = ts.length → gs[j]? = some g → ∃ x ∈ plRows i gs ts, x.1 = g.nk
  | i, j, [], _, _, h => by simp at h
  | i, j, _ :: _, [], h, _ => by simp at h
  | i, 0, g' :: gs, t :: ts, h, e => by
    rw [List.getElem?_cons_zero] at e
    cases e
    exact ⟨_, .head _, rfl⟩
  | i, j + 1, g' :: gs, t :: ts, h, e => by
    rw [List.getElem?_cons_succ] at e
    obtain ⟨x, h1, h2⟩ := plRows_has (i := i + 1) (gs := gs) (ts := ts) (by simpa using h) e
    exact ⟨x, .tail _ h1, h2⟩
def drop1 (gs : List Gt) (ts : List Addr) : NRows := plRows 1 (gs.drop 1) (ts.drop 1)
theorem Gt.nk_inj : ∀ {a b : Gt}, a.nk = b.nk → a = b := by
  intro a b h
  cases a <;> cases b <;> simp only [Gt.nk, NestedKey.tup.injEq, List.cons.injEq, NestedKey.text.injEq, NestedKey.num.injEq, and_true, reduceCtorEq, and_false, false_and, true_and] at h <;> first
    | rfl
    | (exfalso; revert h; decide +kernel)
    | (exfalso; exact absurd h.1 (by decide +kernel))
    | (obtain ⟨rfl, rfl, rfl⟩ := h; rfl)
    | (obtain ⟨rfl, rfl⟩ := h; rfl)
    | (subst h; rfl)
structure PoolAt (P : Program) (w : World) (K : PySem.W.Frag) (H : Hp) (C p G D : Addr) (gs : List Gt) : Prop where
  cl : PlK K C
  ok : okGs gs
  nd : (gs.map Gt.nk).Nodup
  len : gs.length ≤ 100000
  nm : ∀ n, Gt.bit n ∈ gs → ∃ ks, n = NestedKey.tup ks
  at_ : ∃ (dx : Addr) (ts : List Addr), H p = some (.ins C dx (plFs G D)) ∧ H G = some (.lst (ts.map V.ref)) ∧ ts.length = gs.length ∧ (∀ (i : Nat) (g : Gt) (t : Addr), gs[i]? = some g → ts[i]? = some t → Dp K H (.ref t) g.nk.data ∧ g.nk.depth ≤ 8) ∧ (H D = some (dnO P w D (drop1 gs ts)) ∨ (drop1 gs ts = [] ∧ H D = some (.dK [])))
section
variable {P : Program} {w : World} {K : PySem.W.Frag} {H H' : Hp} {C p G D : Addr} {gs : List Gt}
theorem PoolAt.mut (A : PoolAt P w K H C p G D gs) : ∀ a ∈ [G, D], Mut (H a) := by
  obtain ⟨dx, ts, h1, h2, h3, h4, h5⟩ := A.at_
  intro a ha
  rcases List.mem_cons.mp ha with e | ha
  · rw [e, h2]; exact True.intro
  · rw [List.mem_singleton.mp ha]
    rcases h5 with e | ⟨_, e⟩ <;> rw [e] <;> exact True.intro
theorem PoolAt.dn (A : PoolAt P w K H C p G D gs) {dx : Addr} {ts : List Addr} (h3 : ts.length = gs.length) (h4 : ∀ (i : Nat) (g : Gt) (t : Addr), gs[i]? = some g → ts[i]? = some t → Dp K H (.ref t) g.nk.data ∧ g.nk.depth ≤ 8) (h5 : H D = some (dnO P w D (drop1 gs ts)) ∨ (drop1 gs ts = [] ∧ H D = some (.dK []))) : DN P w K H D (drop1 gs ts) := by
  refine ⟨h5, ?_, fun x hx => ?_⟩
  · unfold drop1
    rw [plRows_len (by rw [List.length_drop, List.length_drop, h3]), List.length_drop]
    have := A.len
    exact Nat.le_trans (by omega) (show 100000 ≤ sizeLine by decide)
  · obtain ⟨j, g, e1, e2, e3, e4⟩ := plRows_mem hx
    rw [List.getElem?_drop] at e1 e2
    rw [e3]
    exact h4 _ _ _ e1 e2
/-- a pool stays while other things change -/
theorem PoolAt.keep (A : PoolAt P w K H C p G D gs) {S : List Addr} (hS : ∀ a ∈ S, Mut (H a)) (hb : But S H H') (np : p ∉ S) (nG : G ∉ S) (nD : D ∉ S) : PoolAt P w K H' C p G D gs := by
  obtain ⟨dx, ts, h1, h2, h3, h4, h5⟩ := A.at_
  refine ⟨A.cl, A.ok, A.nd, A.len, A.nm, dx, ts, hb _ _ np h1, hb _ _ nG h2, h3, fun i g t e1 e2 => ?_, ?_⟩
  · obtain ⟨k1, k2⟩ := h4 i g t e1 e2
    exact ⟨dp_but hS hb _ (nk_noLst _) k1, k2⟩
  · rcases h5 with e | ⟨e0, e⟩
    · exact .inl (hb _ _ nD e)
    · exact .inr ⟨e0, hb _ _ nD e⟩
theorem PoolAt.same (A : PoolAt P w K H C p G D gs) (s : Same H H') : PoolAt P w K H' C p G D gs := A.keep (S := []) (fun _ h => nomatch h) (.of_same s) (fun h => nomatch h) (fun h => nomatch h) (fun h => nomatch h)
end
end My


set_option Elab.async false
set_option maxRecDepth 100000
set_option maxHeartbeats 4000000
set_option linter.all false
namespace My
open PySem L2
open C8 (pss_cut)
def top (i : Nat) : Stmt := PySem.Challenge.pw_inputways_k33_clauses_of_a_literal.main.body.getD i (.Pass ⟨0, 0, 0, 0⟩)
abbrev s__law_draw : Stmt := top 10
abbrev N__law_draw : List Str := ["script", "seed", "cell"]
theorem sc__law_draw : FnScope N__law_draw ["script"] (defScope s__law_draw) := ⟨rfl, rfl, rfl, by decide +kernel, rfl, by decide +kernel, by decide +kernel⟩
abbrev s__law_take : Stmt := top 11
abbrev N__law_take : List Str := ["draw", "many", "found"]
theorem sc__law_take : FnScope N__law_take ["draw", "many"] (defScope s__law_take) := ⟨rfl, rfl, rfl, by decide +kernel, rfl, by decide +kernel, by decide +kernel⟩
abbrev s_Pool___init__ : Stmt := inClass (top 4) 0
abbrev N_Pool___init__ : List Str := ["self"]
theorem sc_Pool___init__ : FnScope N_Pool___init__ ["self"] (defScope s_Pool___init__) := ⟨rfl, rfl, rfl, by decide +kernel, rfl, by decide +kernel, by decide +kernel⟩
abbrev s_Pool_bit : Stmt := inClass (top 4) 1
abbrev N_Pool_bit : List Str := ["self", "name"]
theorem sc_Pool_bit : FnScope N_Pool_bit ["self", "name"] (defScope s_Pool_bit) := ⟨rfl, rfl, rfl, by decide +kernel, rfl, by decide +kernel, by decide +kernel⟩
abbrev s_Pool_both : Stmt := inClass (top 4) 2
abbrev N_Pool_both : List Str := ["self", "x", "y"]
theorem sc_Pool_both : FnScope N_Pool_both ["self", "x", "y"] (defScope s_Pool_both) := ⟨rfl, rfl, rfl, by decide +kernel, rfl, by decide +kernel, by decide +kernel⟩
abbrev s_Pool_either : Stmt := inClass (top 4) 3
abbrev N_Pool_either : List Str := ["self", "x", "y"]
theorem sc_Pool_either : FnScope N_Pool_either ["self", "x", "y"] (defScope s_Pool_either) := ⟨rfl, rfl, rfl, by decide +kernel, rfl, by decide +kernel, by decide +kernel⟩
abbrev s_Pool_unlike : Stmt := inClass (top 4) 4
abbrev N_Pool_unlike : List Str := ["self", "x", "y", "turned"]
theorem sc_Pool_unlike : FnScope N_Pool_unlike ["self", "x", "y"] (defScope s_Pool_unlike) := ⟨rfl, rfl, rfl, by decide +kernel, rfl, by decide +kernel, by decide +kernel⟩
abbrev s_Pool_chosen : Stmt := inClass (top 4) 5
abbrev N_Pool_chosen : List Str := ["self", "c", "x", "y", "turned"]
theorem sc_Pool_chosen : FnScope N_Pool_chosen ["self", "c", "x", "y"] (defScope s_Pool_chosen) := ⟨rfl, rfl, rfl, by decide +kernel, rfl, by decide +kernel, by decide +kernel⟩
abbrev s_Pool_literal_of : Stmt := inClass (top 4) 12
abbrev N_Pool_literal_of : List Str := ["self", "gate"]
theorem sc_Pool_literal_of : FnScope N_Pool_literal_of ["self", "gate"] (defScope s_Pool_literal_of) := ⟨rfl, rfl, rfl, by decide +kernel, rfl, by decide +kernel, by decide +kernel⟩
abbrev s_Pool_value : Stmt := inClass (top 4) 13
abbrev N_Pool_value : List Str := ["self", "literal", "bits"]
theorem sc_Pool_value : FnScope N_Pool_value ["self", "literal", "bits"] (defScope s_Pool_value) := ⟨rfl, rfl, rfl, by decide +kernel, rfl, by decide +kernel, by decide +kernel⟩
abbrev s_Pool_computed : Stmt := inClass (top 4) 15
abbrev N_Pool_computed : List Str := ["self", "literals", "bits", "found", "k", "x"]
theorem sc_Pool_computed : FnScope N_Pool_computed ["self", "literals", "bits"] (defScope s_Pool_computed) := ⟨rfl, rfl, rfl, by decide +kernel, rfl, by decide +kernel, by decide +kernel⟩
abbrev s_Pool_cone : Stmt := inClass (top 4) 16
abbrev N_Pool_cone : List Str := ["self", "literals", "seen", "found", "todo", "k", "gate", "x"]
theorem sc_Pool_cone : FnScope N_Pool_cone ["self", "literals", "seen"] (defScope s_Pool_cone) := ⟨rfl, rfl, rfl, by decide +kernel, rfl, by decide +kernel, by decide +kernel⟩
abbrev s_Pool_numbers_of : Stmt := inClass (top 4) 17
abbrev N_Pool_numbers_of : List Str := ["self", "literal", "v", "k"]
theorem sc_Pool_numbers_of : FnScope N_Pool_numbers_of ["self", "literal"] (defScope s_Pool_numbers_of) := ⟨rfl, rfl, rfl, by decide +kernel, rfl, by decide +kernel, by decide +kernel⟩
abbrev s_Pool_clauses : Stmt := inClass (top 4) 18
abbrev N_Pool_clauses : List Str := ["self", "literal", "numbers", "clauses"]
theorem sc_Pool_clauses : FnScope N_Pool_clauses ["self", "literal"] (defScope s_Pool_clauses) := ⟨rfl, rfl, rfl, by decide +kernel, rfl, by decide +kernel, by decide +kernel⟩
abbrev s_Pool_rows_of : Stmt := inClass (top 4) 19
abbrev N_Pool_rows_of : List Str := ["self", "gates", "numbers", "rows", "k", "gate", "parts", "x"]
theorem sc_Pool_rows_of : FnScope N_Pool_rows_of ["self", "gates", "numbers"] (defScope s_Pool_rows_of) := ⟨rfl, rfl, rfl, by decide +kernel, rfl, by decide +kernel, by decide +kernel⟩
abbrev s_Pool_names_of : Stmt := inClass (top 4) 20
abbrev N_Pool_names_of : List Str := ["self", "numbers", "k"]
theorem sc_Pool_names_of : FnScope N_Pool_names_of ["self", "numbers"] (defScope s_Pool_names_of) := ⟨rfl, rfl, rfl, by decide +kernel, rfl, by decide +kernel, by decide +kernel⟩
abbrev s_both_gate : Stmt := top 5
abbrev N_both_gate : List Str := ["x", "y"]
theorem sc_both_gate : FnScope N_both_gate ["x", "y"] (defScope s_both_gate) := ⟨rfl, rfl, rfl, by decide +kernel, rfl, by decide +kernel, by decide +kernel⟩
abbrev s_gate_value : Stmt := top 6
abbrev N_gate_value : List Str := ["gate", "found", "bits", "kind", "parts", "x"]
theorem sc_gate_value : FnScope N_gate_value ["gate", "found", "bits"] (defScope s_gate_value) := ⟨rfl, rfl, rfl, by decide +kernel, rfl, by decide +kernel, by decide +kernel⟩
abbrev s_signed : Stmt := top 7
abbrev N_signed : List Str := ["literal", "numbers", "number"]
theorem sc_signed : FnScope N_signed ["literal", "numbers"] (defScope s_signed) := ⟨rfl, rfl, rfl, by decide +kernel, rfl, by decide +kernel, by decide +kernel⟩
abbrev s_gate_clauses : Stmt := top 8
abbrev N_gate_clauses : List Str := ["kind", "g", "parts", "x", "y", "rows", "c", "z", "row"]
theorem sc_gate_clauses : FnScope N_gate_clauses ["kind", "g", "parts"] (defScope s_gate_clauses) := ⟨rfl, rfl, rfl, by decide +kernel, rfl, by decide +kernel, by decide +kernel⟩
abbrev s__law_less : Stmt := top 12
abbrev N__law_less : List Str := ["clauses", "literal", "found", "row", "rest", "x"]
theorem sc__law_less : FnScope N__law_less ["clauses", "literal"] (defScope s__law_less) := ⟨rfl, rfl, rfl, by decide +kernel, rfl, by decide +kernel, by decide +kernel⟩
abbrev s__law_can : Stmt := top 13
abbrev N__law_can : List Str := ["clauses", "one", "x", "literal", "rest", "row"]
theorem sc__law_can : FnScope N__law_can ["clauses"] (defScope s__law_can) := ⟨rfl, rfl, rfl, by decide +kernel, rfl, by decide +kernel, by decide +kernel⟩
abbrev s__law_is_clause : Stmt := top 14
abbrev N__law_is_clause : List Str := ["value", "most", "k"]
theorem sc__law_is_clause : FnScope N__law_is_clause ["value", "most"] (defScope s__law_is_clause) := ⟨rfl, rfl, rfl, by decide +kernel, rfl, by decide +kernel, by decide +kernel⟩
abbrev s__law_literals : Stmt := top 15
abbrev N__law_literals : List Str := ["draw", "pool", "names", "rows", "k", "x", "y", "c", "what", "name"]
theorem sc__law_literals : FnScope N__law_literals ["draw", "pool", "names"] (defScope s__law_literals) := ⟨rfl, rfl, rfl, by decide +kernel, rfl, by decide +kernel, by decide +kernel⟩
abbrev s__law_longer : Stmt := top 16
abbrev N__law_longer : List Str := ["rows", "more", "found", "row", "x"]
theorem sc__law_longer : FnScope N__law_longer ["rows", "more"] (defScope s__law_longer) := ⟨rfl, rfl, rfl, by decide +kernel, rfl, by decide +kernel, by decide +kernel⟩
abbrev s__law_rows : Stmt := top 17
abbrev N__law_rows : List Str := ["many", "found", "k"]
theorem sc__law_rows : FnScope N__law_rows ["many"] (defScope s__law_rows) := ⟨rfl, rfl, rfl, by decide +kernel, rfl, by decide +kernel, by decide +kernel⟩
abbrev s_law : Stmt := top 18
abbrev N_law : List Str := ["script", "draw", "pool", "names", "rows", "literal", "clauses", "told", "variables", "bits", "look", "given", "row", "k", "name", "variable"]
theorem sc_law : FnScope N_law ["script"] (defScope s_law) := ⟨rfl, rfl, rfl, by decide +kernel, rfl, by decide +kernel, by decide +kernel⟩
/-- what the top binds: built-ins that are not shadowed -/
structure Txt (K : PySem.W.Frag) (mg : Str → Option Value) : Prop where
  m_abs : mg "abs" = none
  m_bool : mg "bool" = none
  m_dict : mg "dict" = none
  m_enumerate : mg "enumerate" = none
  m_int : mg "int" = none
  m_isinstance : mg "isinstance" = none
  m_len : mg "len" = none
  m_list : mg "list" = none
  m_max : mg "max" = none
  m_min : mg "min" = none
  m_range : mg "range" = none
  m_set : mg "set" = none
  m_sorted : mg "sorted" = none
  m_sum : mg "sum" = none
  m_tuple : mg "tuple" = none
section
variable {P : Program} {w : World} {K : PySem.W.Frag} {mg : Str → Option Value} {base : Heap} {f : Addr} {fd : FuncData}
theorem ok__law_take (T : Txt K mg) (D : Def K mg "_law_take" ["draw", "many"] s__law_take f fd) : Own P w K mg base "_law_take" ["draw", "many"] 1 spTake := by
  refine ⟨f, fd, D.mg, D.fn.kp, D.bd, D.fn.ok sc__law_take (fun vs H Q E h => ?_) (fun cdv A outer s H vs Q E hr h => ?_)⟩
  · obtain ⟨d, L, m, rfl, _⟩ := h
    rfl
  · obtain ⟨d, L, m, rfl, hm0, hm1, hD, q⟩ := h
    obtain ⟨ns, at_, left, seed, h1, h2, hdL, hpos, ha, hl, hs, hs2⟩ := hD
    refine ⟨_, (pss_cut (ps_if (pt_cmpR op_eq (pe_ix ix_list (pv 0) pe_int (fun _ _ => rfl)) pe_int (nomark _)) (pss_cons (ps_asg (pe_op op_add (pe_ix ix_list (pv 0) pe_int (fun _ _ => rfl)) pe_int) (pg_sub (pv 0) pe_int set_list))
      (pss_cut (ps_if (pt_cmpR op_lt (pe_ix ix_list (pv 0) pe_int (fun _ _ => rfl)) (pe_callB call_len_seq (by rfl) T.m_len (by decide +kernel) (pa_cons (pe_ix ix_list (pv 0) pe_int (fun _ _ => rfl)) pa_nil)) (nomark _)) (pss_one (ps_asg (pe_ix ix_list (pe_ix ix_list (pv 0) pe_int (fun _ _ => rfl)) (pe_ix ix_list (pv 0) pe_int (fun _ _ => rfl)) (fun _ _ => rfl)) (pg_sub (pv 0) pe_int set_list))) pss_nil)
      (pss_one (ps_if (pt_cmpR op_eq (pe_ix ix_list (pv 0) pe_int (fun _ _ => rfl)) pe_int (nomark _)) (pss_cons (ps_asg (pe_op op_mod (pe_callTy call_int1 (by rfl) T.m_int (by decide +kernel) (pa_cons (pe_op op_add (pe_op op_mul (pe_ix ix_list (pv 0) pe_int (fun _ _ => rfl)) pe_int) pe_int) pa_nil)) pe_int) (pg_sub (pv 0) pe_int set_list))
      (pss_one (ps_asg (pe_ix ix_list (pv 0) pe_int (fun _ _ => rfl)) (pg_sub (pv 0) pe_int set_list)))) pss_nil)))) pss_nil)
      (pss_cons (ps_set (i := 2) sc__law_take.nd rfl (Or.inl rfl) (pe_op op_mod (pe_callTy call_int1 (by rfl) T.m_int (by decide +kernel) (pa_cons (pe_ix ix_list (pv 0) pe_int (fun _ _ => rfl)) pa_nil)) (pv 1)))
      (pss_cons (ps_asg (pe_op op_fdiv (pe_ix ix_list (pv 0) pe_int (fun _ _ => rfl)) (pv 1)) (pg_sub (pv 0) pe_int set_list))
      (pss_one (ps_ret (pv 2)))))), ?_⟩
    refine ⟨fun σ' H' => σ' = [some (.ref d), some (.int m), none] ∧ DrawAt H' d L ∧ Same (hide d H) (hide d H'), ?_, ?_⟩
    · refine ⟨_, rfl, d, _, _, _, rfl, rfl, SqL.of h1, rfl, rfl, _, rfl, ite2 (fun c => ?_) (fun c => ?_)⟩
      · refine ⟨_, rfl, d, _, _, _, rfl, rfl, SqL.of h1, rfl, _, _, rfl, rfl, _, rfl, d, _, _, _, rfl, rfl, h1, rfl, ?_⟩
        refine ⟨fun σ' H' => σ' = [some (.ref d), some (.int m), none] ∧ (∃ l2, 0 ≤ l2 ∧ H' d = some (.lst [.ref L, .int (at_ + 1), .int l2, .int seed])) ∧ H' L = some (.lst (ns.map V.int)) ∧ Same (hide d H) (hide d H'), ?_, ?_⟩
        · have g1 : (upd H d (.lst ([.ref L, .int at_, .int left, .int seed].set 1 (.int (at_ + 1))))) L = some (.lst (ns.map V.int)) := by rw [upd_ne hdL.symm]; exact h2
          refine ⟨_, rfl, d, _, _, _, rfl, rfl, SqL.of upd_same, rfl, _, rfl, d, _, _, _, rfl, rfl, SqL.of upd_same, rfl, L, _, rfl, .inl (SqL.of g1), _, _, rfl, rfl, _, rfl, ite2 (fun e => ?_) (fun e => ?_)⟩
          · have e' : at_ + 1 < ((ns.map V.int).length : Int) := of_decide_eq_true e
            rw [List.length_map] at e'
            obtain ⟨z, hz, ez⟩ := atI_get (ns := ns) (k := at_ + 1) (by omega) e'
            refine ⟨_, rfl, d, _, _, _, rfl, rfl, SqL.of upd_same, rfl, _, rfl, d, _, _, _, rfl, rfl, SqL.of upd_same, rfl, L, _, _, _, rfl, rfl, SqL.of g1, ez, _, rfl, d, _, _, _, rfl, rfl, upd_same, rfl, ?_⟩
            exact ⟨rfl, ⟨z, hpos z hz, upd_same⟩, by rw [upd_ne hdL.symm]; exact g1, (hide_put _).trans (hide_put _)⟩
          · exact ⟨rfl, ⟨left, hl, upd_same⟩, g1, hide_put _⟩
        · rintro σ' H' ⟨rfl, ⟨l2, hl2, k1⟩, k2, kb⟩
          refine ⟨_, rfl, d, _, _, _, rfl, rfl, SqL.of k1, rfl, rfl, _, rfl, ite2 (fun e => ?_) (fun e => ?_)⟩
          · refine ⟨_, rfl, d, _, _, _, rfl, rfl, SqL.of k1, rfl, _, _, rfl, rfl, .inl ⟨by omega, by omega⟩, _, _, rfl, rfl, .inl ⟨_, rfl, _, _, rfl, rfl, (by show (0 : Int) < 2147483647; decide), _, rfl, d, _, _, _, rfl, rfl, k1, rfl, ?_⟩⟩
            refine ⟨_, rfl, d, _, _, _, rfl, rfl, SqL.of upd_same, rfl, _, rfl, d, _, _, _, rfl, rfl, upd_same, rfl, ?_⟩
            have p0 : 0 ≤ (seed * 48271 + 11) % 2147483647 := Int.emod_nonneg _ (by decide)
            have p1 : (seed * 48271 + 11) % 2147483647 < 2147483647 := Int.emod_lt_of_pos _ (by decide)
            exact ⟨rfl, ⟨ns, at_ + 1, _, _, upd_same, by rw [upd_ne hdL.symm, upd_ne hdL.symm]; exact k2, hdL, hpos, by omega, p0, p0, p1⟩, (kb.trans (hide_put _)).trans (hide_put _)⟩
          · exact ⟨rfl, ⟨ns, at_ + 1, l2, seed, k1, k2, hdL, hpos, by omega, hl2, hs, hs2⟩, kb⟩
      · exact ⟨rfl, ⟨ns, at_, left, seed, h1, h2, hdL, hpos, ha, hl, hs, hs2⟩, Same.refl _⟩
    · rintro σ' H' ⟨rfl, ⟨ns, at_, left, seed, h1, h2, hdL, hpos, ha, hl, hs, hs2⟩, kb⟩
      refine ⟨_, rfl, d, _, _, _, rfl, rfl, SqL.of h1, rfl, .inl ⟨_, rfl, _, rfl, _, _, rfl, rfl, hm0, ?_⟩⟩
      refine ⟨_, rfl, d, _, _, _, rfl, rfl, SqL.of h1, rfl, _, rfl, _, _, rfl, rfl, ⟨hm0, hm1⟩, _, rfl, d, _, _, _, rfl, rfl, h1, rfl, ?_⟩
      refine ⟨_, rfl, ?_⟩
      exact q _ _ (Int.emod_nonneg _ (by omega)) (Int.emod_lt_of_pos _ hm0) ⟨ns, at_, _, seed, upd_same, by rw [upd_ne hdL.symm]; exact h2, hdL, hpos, ha, Int.ediv_nonneg hl (by omega), hs, hs2⟩ (kb.trans (hide_put _))
theorem ok__law_draw (T : Txt K mg) (D : Def K mg "_law_draw" ["script"] s__law_draw f fd) : Own P w K mg base "_law_draw" ["script"] 1 (spDraw K) := by
  refine ⟨f, fd, D.mg, D.fn.kp, D.bd, D.fn.ok sc__law_draw (fun vs H Q E h => ?_) (fun cdv A outer s H vs Q E hr h => ?_)⟩
  · obtain ⟨a, ns, rfl, _⟩ := h
    rfl
  · obtain ⟨a, ns, rfl, hS, h63, q⟩ := h
    refine ⟨_, (pss_cons (ps_set (i := 1) sc__law_draw.nd rfl (Or.inl rfl) pe_int)
      (pss_cons (ps_for PassesOwn.never rfl (pi_list (pv 0)) (pg_name (i := 2) sc__law_draw.nd rfl (Or.inl rfl)) (pss_one (ps_set (i := 1) sc__law_draw.nd rfl (Or.inl rfl) (pe_op op_mod (pe_callTy call_int1 (by rfl) T.m_int (by decide +kernel) (pa_cons (pe_op op_add (pe_op op_add (pe_op op_mul (pv 1) pe_int) (pe_op op_mod (pe_callB call_abs (by rfl) T.m_abs (by decide +kernel) (pa_cons (pe_callTy call_int1 (by rfl) T.m_int (by decide +kernel) (pa_cons (pv 2) pa_nil)) pa_nil)) pe_int)) pe_int) pa_nil)) pe_int))))
      (pss_one (ps_ret (pe_lst (pa_cons (pe_lc (own := [("cell", 2)]) (g := gName 2) (tt := tYes) rfl sc__law_draw.nd (pi_list (pv 0)) (blkOk_by (N := N__law_draw) (sc := defScope s__law_draw) (own := [("cell", 2)]) (by decide +kernel)) (fun _ _ _ _ _ => (pg_name (i := 2) sc__law_draw.nd rfl (Or.inl rfl))) (fun _ _ _ _ _ => pts_nil) (fun _ _ _ _ _ => (pe_callB call_abs (by rfl) T.m_abs (by decide +kernel) (pa_cons (pe_callTy call_int1 (by rfl) T.m_int (by decide +kernel) (pa_cons (pv 2) pa_nil)) pa_nil)))) (pa_cons (pe_un un_neg pe_int) (pa_cons pe_int (pa_cons (pv 1) pa_nil))))))))), ?_⟩
    refine ⟨_, rfl, a, rfl, ⟨_, hS⟩, for_list (K := K) (a := a) (xs := ns.map V.int) (fun i σ H' => ∃ (sd : Int) (v : Option V), σ = [some (.ref a), some (.int sd), v] ∧ Same H H' ∧ 0 ≤ sd ∧ sd < 2147483647)
      ⟨7, none, rfl, Same.refl H, by decide, by decide⟩ (fun i σ H' _ ⟨_, _, _, e, _⟩ => e.seq hS) ?_ ?_⟩
    · rintro i y σ H' hi ⟨sd, v, rfl, e, s0, s1⟩
      obtain ⟨z, rfl, _⟩ := map_at hi
      refine ⟨_, rfl, _, _, rfl, rfl, .inl ⟨by omega, by omega⟩, _, rfl, .inl ⟨_, rfl, _, rfl, _, _, rfl, rfl, (by show (0 : Int) < 65521; decide), _, _, rfl, rfl, _, _, rfl, rfl, .inl ⟨_, rfl, _, _, rfl, rfl, (by show (0 : Int) < 2147483647; decide), ?_⟩⟩⟩
      exact ⟨_, _, rfl, e, Int.emod_nonneg _ (by decide), Int.emod_lt_of_pos _ (by decide)⟩
    · rintro σ H' ⟨sd, v, rfl, e, s0, s1⟩
      refine ⟨_, rfl, a, rfl, ⟨_, e.seq hS⟩, fun D hD => lc_list (K := K) (a := a) (xs := ns.map V.int) (fun i H2 => ∃ ms : List Int, H2 D = some (.lst (ms.map V.int)) ∧ ms.length = i ∧ (∀ z, z ∈ ms → 0 ≤ z) ∧ (∀ b o, H' b = some o → H2 b = some o) ∧ i ≤ ns.length)
        ⟨[], upd_same, rfl, (fun z hz => by cases hz), same_new hD _, Nat.zero_le _⟩ (fun i H2 _ ⟨_, _, _, _, s, _⟩ => Same.seq s (e.seq hS)) ?_ ?_⟩
      · rintro i y H2 hi ⟨ms, hm, hml, hm0, s, _⟩
        obtain ⟨z, rfl, hz⟩ := map_at hi
        have hi' : i < ns.length := (List.getElem?_eq_some_iff.mp hz).1
        refine ⟨rfl, yes2 ?_⟩
        refine ⟨_, rfl, .inl ⟨_, rfl, _, rfl, _, hm, by rw [List.length_map]; exact small1000 (by omega), ms ++ [if z < 0 then -z else z], ?_, by rw [List.length_append, hml]; rfl, ?_, ?_, hi'⟩⟩
        · rw [upd_same, List.map_append]
          all_goals rfl
        · intro u hu
          rcases List.mem_append.mp hu with hu | hu
          · exact hm0 u hu
          · rw [List.mem_singleton] at hu
            rw [hu]
            split <;> omega
        · intro b o hb
          rw [upd_ne (ne_of_none hb hD)]
          exact s b o hb
      · rintro H2 ⟨ms, hm, hml, hm0, s, _⟩
        refine ⟨_, rfl, _, rfl, by show 4 ≤ sizeLine; decide, fun l hl => ?_⟩
        have nDl : D ≠ l := ne_of_none hm hl
        refine q l D _ (Same.free (e.trans s) hl) (Same.free e hD) ((e.trans s).trans (same_new hl _)) ⟨ms, -1, 0, sd, upd_same, by rw [upd_ne nDl]; exact hm, nDl.symm, hm0, by omega, by omega, s0, s1⟩
end
end My

set_option linter.all false
namespace My
open PySem L2
theorem room65 {A : Around} {k : Nat} (hr : Room k A) : A.units + 65 < cLine := by have := hr.un; omega
end My


set_option Elab.async false
set_option maxRecDepth 100000
set_option maxHeartbeats 4000000
set_option linter.all false
namespace My
open PySem L2
open C8 (pss_cut)
/-- a method of the text -/
structure DefM (K : PySem.W.Frag) (C : Addr) (x qx : Str) (ps : List Str) (st : Stmt) (f : Addr) (fd : FuncData) : Prop where
  fn : Fun K x qx st f fd
  bd : Binds K fd ps []
  me : Meth K C x f
def OwnM (P : Program) (w : World) (K : PySem.W.Frag) (mg : Str → Option Value) (base : Heap) (C : Addr) (x : Str) (ps : List Str) (k : Nat) (sp : Sp) : Prop :=
  ∃ (f : Addr) (fd : FuncData), Meth K C x f ∧ Binds K fd ps [] ∧ FnOk P w K mg base CX0 k f fd ps sp
def spMade (P : Program) (w : World) (K : PySem.W.Frag) (C : Addr) : Sp := fun vs H Q _ => ∃ (p G D t : Addr) (gs : List Gt) (g : Gt), vs = [.ref p, .ref t] ∧ PoolAt P w K H C p G D gs ∧ Dp K H (.ref t) g.nk.data ∧ g.nk.depth ≤ 8 ∧ g ≠ .no ∧ (∀ n, g = .bit n → ∃ ks, n = NestedKey.tup ks) ∧ (∀ x ∈ g.parts, okL gs x) ∧ g.Neat ∧ gs.length < 100000 ∧
  ∀ H' gs' (j : Nat), PoolAt P w K H' C p G D gs' → But [G, D] H H' → gs <+: gs' → gs'.length ≤ gs.length + 1 ∧ (gs' = gs ∨ gs' = gs ++ [g]) → gs'[j]? = some g → Q (.int (2 * (j : Int))) H'
section
variable {P : Program} {w : World} {K : PySem.W.Frag} {mg : Str → Option Value} {base : Heap} {f C : Addr} {fd : FuncData}
theorem valN_app {xs : NRows} {k : NK} {b : Addr} {v : V} (h : valN xs k = none) : valN (xs ++ [(k, b, v)]) k = some v := by
  unfold valN at *
  rw [List.find?_append, Option.map_eq_none_iff.mp h]
  rw [List.find?_cons_of_pos (by simp)]
  rfl
theorem valN_some {xs : NRows} {k : NK} {v : V} (h : valN xs k = some v) : ∃ x ∈ xs, x.1 = k ∧ x.2.2 = v := by
  unfold valN at h
  obtain ⟨x, h1, h2⟩ := Option.map_eq_some_iff.mp h
  exact ⟨x, List.mem_of_find?_eq_some h1, of_decide_eq_true (List.find?_some (p := fun (x : NRow) => decide (x.1 = k)) h1), h2⟩
theorem valN_none {xs : NRows} {k : NK} (h : valN xs k = none) : ∀ x ∈ xs, x.1 ≠ k := by
  unfold valN at h
  intro x hx e
  have := List.find?_eq_none.mp (Option.map_eq_none_iff.mp h) x hx
  exact this (decide_eq_true e)
theorem ok_literal_of (T : Txt K mg) (PK : PlK K C) (D : DefM K C "literal_of" "Pool.literal_of" ["self", "gate"] s_Pool_literal_of f fd) : OwnM P w K mg base C "literal_of" ["self", "gate"] 1 (spMade P w K C) := by
  refine ⟨f, fd, D.me, D.bd, D.fn.ok sc_Pool_literal_of (fun vs H Q E h => ?_) (fun cdv A outer s H vs Q E hr h => ?_)⟩
  · obtain ⟨p, G, D', t, gs, g, rfl, _⟩ := h
    rfl
  · obtain ⟨p, G, D', t, gs, g, rfl, A0, ht, h8, hno, hnm, hpa, hne, hl, q⟩ := h
    obtain ⟨dx, ts, h1, h2, h3, h4, h5⟩ := A0.at_
    have DN0 := A0.dn (dx := dx) h3 h4 h5
    refine ⟨_, (pss_cut (ps_if (pt_cmpR (op_notinN (room65 hr)) (pv 1) (pe_fld (pv 0) (by rfl)) (by rfl)) (pss_cons (ps_asg (pe_op op_mul pe_int (pe_callB call_len_seq (by rfl) T.m_len (by decide +kernel) (pa_cons (pe_fld (pv 0) (by rfl)) pa_nil))) (pg_sub (pe_fld (pv 0) (by rfl)) (pv 1) (set_N (room65 hr))))
      (pss_one (ps_expr (pe_bm PySem.F.plainAttrs_list PySem.F.slot_list_append PySem.F.type_list_append mt_append (pe_fld (pv 0) (by rfl)) (pa_cons (pv 1) pa_nil))))) pss_nil)
      (pss_one (ps_ret (pe_ix (ix_N (room65 hr)) (pe_fld (pv 0) (by rfl)) (pv 1) (fun _ _ => rfl))))), ?_⟩
    refine ⟨fun σ' H' => ∃ (gs' : List Gt) (ts' : List Addr) (j : Nat), σ' = [some (.ref p), some (.ref t)] ∧ PoolAt P w K H' C p G D' gs' ∧ But [G, D'] H H' ∧ gs <+: gs' ∧ (gs'.length ≤ gs.length + 1 ∧ (gs' = gs ∨ gs' = gs ++ [g])) ∧ gs'[j]? = some g ∧ H' p = some (.ins C dx (plFs G D')) ∧ DN P w K H' D' (drop1 gs' ts') ∧ valN (drop1 gs' ts') g.nk = some (.int (2 * (j : Int))), ?_, ?_⟩
    · refine ⟨_, rfl, _, rfl, p, C, dx, _, _, rfl, h1, PK.cls, PK.l, plFs_l _ _, t, g.nk, D', _, rfl, rfl, ht, h8, DN0, _, rfl, ?_⟩
      cases hv : valN (drop1 gs ts) g.nk with
      | some v =>
        refine iteF ?_
        obtain ⟨x, hx, e1, e2⟩ := valN_some hv
        obtain ⟨j, g', k1, k2, k3, k4⟩ := plRows_mem hx
        have eg : g' = g := Gt.nk_inj (k3.symm.trans e1)
        rw [List.getElem?_drop] at k1
        rw [eg] at k1
        refine ⟨gs, ts, 1 + j, rfl, A0, .refl _ _, List.prefix_refl _, ⟨Nat.le_succ _, .inl rfl⟩, k1, h1, DN0, ?_⟩
        rw [hv, ← e2, k4]
      | none =>
        refine iteT ?_
        have nDp : p ≠ D' := by
          rcases h5 with e | ⟨_, e⟩ <;> exact ne_of h1 e (by intro z; cases z)
        have nDG : G ≠ D' := by
          rcases h5 with e | ⟨_, e⟩ <;> exact ne_of h2 e (by intro z; cases z)
        have npG : p ≠ G := ne_of h1 h2 (by intro z; cases z)
        have hlen : (ts.map V.ref).length = gs.length := by rw [List.length_map, h3]
        have hz : (drop1 gs ts).length < sizeLine := by
          unfold drop1
          rw [plRows_len (by rw [List.length_drop, List.length_drop, h3]), List.length_drop]
          exact Nat.lt_of_lt_of_le (by omega) (show 100000 ≤ sizeLine by decide)
        refine ⟨_, rfl, p, C, dx, _, _, rfl, h1, PK.cls, PK.g, plFs_g _ _, G, _, rfl, .inl (SqL.of h2), _, _, rfl, rfl, .inl ⟨by omega, by omega⟩, ?_⟩
        refine ⟨_, rfl, p, C, dx, _, _, rfl, h1, PK.cls, PK.l, plFs_l _ _, _, rfl, t, g.nk, D', _, rfl, rfl, ht, h8, DN0, hz, hv, ?_⟩
        refine ⟨_, rfl, p, C, dx, _, _, rfl, (by rw [upd_ne nDp]; exact h1), PK.cls, PK.g, plFs_g _ _, .inl ⟨rfl, _, SqL.of (by rw [upd_ne nDG]; exact h2)⟩, _, rfl, G, _, _, rfl, rfl, (by rw [upd_ne nDG]; exact h2), by rw [hlen]; exact Nat.lt_of_lt_of_le hl (by decide), ?_⟩
        have hb : But [G, D'] H (upd (upd H D' (dnO P w D' (drop1 gs ts ++ [(g.nk, t, .int (2 * (((ts.map V.ref).length : Nat) : Int)))]))) G (.lst (ts.map V.ref ++ [.ref t]))) := (But.put (.tail _ (.head _)) _).trans (But.put (.head _) _)
        have ep : (upd (upd H D' (dnO P w D' (drop1 gs ts ++ [(g.nk, t, .int (2 * (((ts.map V.ref).length : Nat) : Int)))]))) G (.lst (ts.map V.ref ++ [.ref t]))) p = some (.ins C dx (plFs G D')) := by rw [upd_ne npG, upd_ne nDp]; exact h1
        have pos := A0.ok.pos
        have er : drop1 (gs ++ [g]) (ts ++ [t]) = drop1 gs ts ++ [(g.nk, t, .int (2 * (((ts.map V.ref).length : Nat) : Int)))] := by
          unfold drop1
          rw [List.drop_append_of_le_length (by omega), List.drop_append_of_le_length (by omega), plRows_snoc (by rw [List.length_drop, List.length_drop, h3]), List.length_drop, hlen, show 1 + (gs.length - 1) = gs.length by omega]
        have h4' : ∀ (i : Nat) (g' : Gt) (t' : Addr), (gs ++ [g])[i]? = some g' → (ts ++ [t])[i]? = some t' → Dp K (upd (upd H D' (dnO P w D' (drop1 gs ts ++ [(g.nk, t, .int (2 * (((ts.map V.ref).length : Nat) : Int)))]))) G (.lst (ts.map V.ref ++ [.ref t]))) (.ref t') g'.nk.data ∧ g'.nk.depth ≤ 8 := by
          intro i g' t' e1 e2
          by_cases hi : i < gs.length
          · rw [List.getElem?_append_left hi] at e1
            rw [List.getElem?_append_left (by omega)] at e2
            obtain ⟨k1, k2⟩ := h4 i g' t' e1 e2
            exact ⟨dp_but A0.mut hb _ (nk_noLst _) k1, k2⟩
          · have hi2 : i = gs.length := by
              have := (List.getElem?_eq_some_iff.mp e1).1
              rw [List.length_append, List.length_singleton] at this
              omega
            rw [hi2, List.getElem?_append_right (Nat.le_refl _), Nat.sub_self] at e1
            rw [hi2, ← h3, List.getElem?_append_right (Nat.le_refl _), Nat.sub_self] at e2
            cases e1
            cases e2
            exact ⟨dp_but A0.mut hb _ (nk_noLst _) ht, h8⟩
        have h5' : (upd (upd H D' (dnO P w D' (drop1 gs ts ++ [(g.nk, t, .int (2 * (((ts.map V.ref).length : Nat) : Int)))]))) G (.lst (ts.map V.ref ++ [.ref t]))) D' = some (dnO P w D' (drop1 (gs ++ [g]) (ts ++ [t]))) := by rw [upd_ne nDG.symm, upd_same, er]
        have A1 : PoolAt P w K (upd (upd H D' (dnO P w D' (drop1 gs ts ++ [(g.nk, t, .int (2 * (((ts.map V.ref).length : Nat) : Int)))]))) G (.lst (ts.map V.ref ++ [.ref t]))) C p G D' (gs ++ [g]) := by
          refine ⟨PK, A0.ok.snoc hpa hne, ?_, by rw [List.length_append, List.length_singleton]; omega, (fun n hn => (List.mem_append.mp hn).elim (fun h => A0.nm n h) fun h => hnm n (List.mem_singleton.mp h).symm), dx, ts ++ [t], ep, by rw [upd_same, List.map_append]; rfl, by rw [List.length_append, List.length_append, h3]; rfl, h4', .inl h5'⟩
          rw [List.map_append, List.nodup_append]
          refine ⟨A0.nd, (by simp), fun k hk k' hk' e => ?_⟩
          rw [List.mem_singleton.mp hk'] at e
          obtain ⟨g2, hg2, rfl⟩ := List.mem_map.mp hk
          have eg := Gt.nk_inj e
          rw [eg] at hg2
          obtain ⟨i, hi⟩ := List.getElem?_of_mem hg2
          cases i with
          | zero =>
            rw [A0.ok.first] at hi
            cases hi
            exact hno rfl
          | succ i =>
            obtain ⟨x, hx, ex⟩ := plRows_has (g := g) (i := 1) (j := i) (gs := gs.drop 1) (ts := ts.drop 1) (by rw [List.length_drop, List.length_drop, h3]) (by rw [List.getElem?_drop, Nat.add_comm]; exact hi)
            exact valN_none hv x hx ex
        refine ⟨gs ++ [g], ts ++ [t], gs.length, rfl, A1, hb, List.prefix_append _ _, ⟨by rw [List.length_append]; exact Nat.le_refl _, .inr rfl⟩, by rw [List.getElem?_append_right (Nat.le_refl _), Nat.sub_self]; rfl, ep, A1.dn (dx := dx) (by rw [List.length_append, List.length_append, h3]; rfl) h4' (.inl h5'), ?_⟩
        rw [er, valN_app hv, hlen]
    · rintro σ' H' ⟨gs', ts', j, rfl, A, hb, hp, hl', hj, h1', DN1, hv⟩
      exact ⟨_, rfl, p, C, dx, _, _, rfl, h1', PK.cls, PK.l, plFs_l _ _, _, rfl, t, g.nk, D', _, _, rfl, rfl, dp_but A0.mut hb _ (nk_noLst _) ht, h8, DN1, hv, q H' gs' j A hb hp hl' hj⟩
end
end My

set_option Elab.async false
set_option maxRecDepth 100000
set_option maxHeartbeats 4000000
set_option linter.all false
/-! Plain values as data: what asks them. -/
namespace My
open PySem PySem.Spec PyProof.Rows L2
mutual
/-- texts are not long -/
def short : PyData → Bool
  | .str x => decide (x.length ≤ 1000)
  | .list ds => decide (ds.length ≤ 1000) && shorts ds
  | .tuple ds => decide (ds.length ≤ 1000) && shorts ds
  | _ => true
def shorts : List PyData → Bool
  | [] => true
  | d :: ds => short d && shorts ds
end
theorem shorts_of : ∀ {ds : List PyData}, shorts ds = true → ∀ d ∈ ds, short d = true
  | x :: xs, h, d, hm => by
    have h' := Bool.and_eq_true_iff.mp (show (short x && shorts xs) = true from h)
    rcases List.mem_cons.mp hm with e | hm
    · rw [e]; exact h'.1
    · exact shorts_of h'.2 d hm
def okD (d : PyData) : Prop := d.canLay0 = true ∧ d.depth ≤ 60 ∧ short d = true
theorem okD.sh {d : PyData} (h : okD d) : SeqAt.shaped d = true := by
  show (d.canLay0 && decide (d.depth ≤ 64)) = true
  rw [h.1, decide_eq_true (by have := h.2.1; omega)] <;> rfl
theorem okAll_of : ∀ {ds : List PyData} {n : Nat}, PyData.canLayAll0 ds = true → PyData.depthAll ds ≤ n → ∀ d ∈ ds, d.canLay0 = true ∧ d.depth ≤ n
  | [], _, _, _, d, h => by cases h
  | x :: xs, n, h, hd, d, hm => by
    simp only [PyData.canLayAll0, Bool.and_eq_true] at h
    simp only [PyData.depthAll] at hd
    rcases List.mem_cons.mp hm with e | hm
    · rw [e]; exact ⟨h.1, by omega⟩
    · exact okAll_of h.2 (by omega) d hm
theorem okD_tlen {ds : List PyData} (h : okD (.tuple ds)) : ds.length ≤ 1000 := of_decide_eq_true (Bool.and_eq_true_iff.mp (show (decide (ds.length ≤ 1000) && shorts ds) = true from h.2.2)).1
theorem okD_tup {ds : List PyData} (h : okD (.tuple ds)) : ∀ d ∈ ds, okD d := fun d hd => by
  obtain ⟨h1, h2, h3⟩ := h
  have h3 := (Bool.and_eq_true_iff.mp (show (decide (ds.length ≤ 1000) && shorts ds) = true from h3)).2
  simp only [PyData.canLay0] at h1
  simp only [PyData.depth] at h2
  have := okAll_of (n := 59) h1 (by omega) d hd
  exact ⟨this.1, by omega, shorts_of h3 d hd⟩
theorem okD_lst {ds : List PyData} (h : okD (.list ds)) : ∀ d ∈ ds, okD d := fun d hd => by
  obtain ⟨h1, h2, h3⟩ := h
  have h3 := (Bool.and_eq_true_iff.mp (show (decide (ds.length ≤ 1000) && shorts ds) = true from h3)).2
  simp only [PyData.canLay0] at h1
  simp only [PyData.depth] at h2
  have := okAll_of (n := 59) h1 (by omega) d hd
  exact ⟨this.1, by omega, shorts_of h3 d hd⟩
theorem okD_int (i : Int) : okD (.int i) := ⟨rfl, by simp [PyData.depth], rfl⟩
theorem okD_nil : okD (.tuple []) := ⟨rfl, by decide, rfl⟩
theorem okD_nilL : okD (.list []) := ⟨rfl, by decide, rfl⟩
/-! isinstance -/
def tyN : PyData → String
  | .none => "NoneType"
  | .bool _ => "bool"
  | .int _ => "int"
  | .str _ => "str"
  | .list _ => "list"
  | .tuple _ => "tuple"
  | .dict _ => "dict"
theorem ty_dp {K : PySem.W.Frag} {H : Hp} {v : V} {d : PyData} (h : Dp K H v d) : TyX K H v (.type (tyN d)) := by
  cases h with
  | non => exact .base .non
  | bl b => exact .base (.bl b)
  | int i => exact .base (.int i)
  | str x => exact .base (.str x)
  | lst hs ha =>
    rcases hs with (h | ⟨o, h⟩) | ⟨o, its, n, hk, hc, hd, hs, hz, r⟩
    · exact .base (.lst h)
    · exact .base (.frz h)
    · exact .kList hk hc
  | tup hs ha =>
    rcases hs with (h | ⟨o, h⟩) | ⟨o, its, n, hk, hc, hs, hz, r⟩
    · exact .base (.tup h)
    · exact .fTuple h
    · exact .kTuple hk hc
def isI : PyData → Bool
  | .int _ => true
  | .bool _ => true
  | _ => false
def isB : PyData → Bool
  | .bool _ => true
  | _ => false
def isS : PyData → Bool
  | .str _ => true
  | _ => false
def isT : PyData → Bool
  | .tuple _ => true
  | _ => false
def isL : PyData → Bool
  | .list _ => true
  | _ => false
theorem kit_I : ∀ d : PyData, kitB (tyN d) "int" = some (isI d)
  | .none => (by decide +kernel : kitB "NoneType" "int" = some false)
  | .bool _ => (by decide +kernel : kitB "bool" "int" = some true)
  | .int _ => (by decide +kernel : kitB "int" "int" = some true)
  | .str _ => (by decide +kernel : kitB "str" "int" = some false)
  | .list _ => (by decide +kernel : kitB "list" "int" = some false)
  | .tuple _ => (by decide +kernel : kitB "tuple" "int" = some false)
  | .dict _ => (by decide +kernel : kitB "dict" "int" = some false)
theorem kit_B : ∀ d : PyData, kitB (tyN d) "bool" = some (isB d)
  | .none => (by decide +kernel : kitB "NoneType" "bool" = some false)
  | .bool _ => (by decide +kernel : kitB "bool" "bool" = some true)
  | .int _ => (by decide +kernel : kitB "int" "bool" = some false)
  | .str _ => (by decide +kernel : kitB "str" "bool" = some false)
  | .list _ => (by decide +kernel : kitB "list" "bool" = some false)
  | .tuple _ => (by decide +kernel : kitB "tuple" "bool" = some false)
  | .dict _ => (by decide +kernel : kitB "dict" "bool" = some false)
theorem kit_S : ∀ d : PyData, kitB (tyN d) "str" = some (isS d)
  | .none => (by decide +kernel : kitB "NoneType" "str" = some false)
  | .bool _ => (by decide +kernel : kitB "bool" "str" = some false)
  | .int _ => (by decide +kernel : kitB "int" "str" = some false)
  | .str _ => (by decide +kernel : kitB "str" "str" = some true)
  | .list _ => (by decide +kernel : kitB "list" "str" = some false)
  | .tuple _ => (by decide +kernel : kitB "tuple" "str" = some false)
  | .dict _ => (by decide +kernel : kitB "dict" "str" = some false)
theorem kit_T : ∀ d : PyData, kitB (tyN d) "tuple" = some (isT d)
  | .none => (by decide +kernel : kitB "NoneType" "tuple" = some false)
  | .bool _ => (by decide +kernel : kitB "bool" "tuple" = some false)
  | .int _ => (by decide +kernel : kitB "int" "tuple" = some false)
  | .str _ => (by decide +kernel : kitB "str" "tuple" = some false)
  | .list _ => (by decide +kernel : kitB "list" "tuple" = some false)
  | .tuple _ => (by decide +kernel : kitB "tuple" "tuple" = some true)
  | .dict _ => (by decide +kernel : kitB "dict" "tuple" = some false)
theorem kit_L : ∀ d : PyData, kitB (tyN d) "list" = some (isL d)
  | .none => (by decide +kernel : kitB "NoneType" "list" = some false)
  | .bool _ => (by decide +kernel : kitB "bool" "list" = some false)
  | .int _ => (by decide +kernel : kitB "int" "list" = some false)
  | .str _ => (by decide +kernel : kitB "str" "list" = some false)
  | .list _ => (by decide +kernel : kitB "list" "list" = some true)
  | .tuple _ => (by decide +kernel : kitB "tuple" "list" = some false)
  | .dict _ => (by decide +kernel : kitB "dict" "list" = some false)
/-- isinstance(x, T), x data, T a built-in type -/
def rIsiD (K : PySem.W.Frag) : List V → Hp → VK → Prop := fun xs H Q => ∃ (v : V) (d : PyData) (T : String) (b : Bool), xs = [v, .ty T] ∧ Dp K H v d ∧ kitB (tyN d) T = some b ∧ Q (.bl b) H
section
variable {X : Cx}
theorem cr_isiD : CallR X (.builtin "isinstance") (rIsiD X.K) := by
  intro pins s σ H xs us Q I r h
  obtain ⟨v, d, T, b, rfl, hd, hk, q⟩ := h
  exact call_isi pins s σ H _ us Q I r ⟨v, .ty T, .type (tyN d), .type T, b, rfl, .ty T, ty_dp hd, kit_ty hk, q⟩
theorem cr_isiDK {K : PySem.W.Frag} (h : X.K = K) : CallR X (.builtin "isinstance") (rIsiD K) := h ▸ cr_isiD
/-! in: lists and tuples of data -/
def rInDD (K : PySem.W.Frag) (neg : Bool) : R2 := fun x y H Q => ∃ (d : PyData) (ds : List PyData), Dp K H x d ∧ (Dp K H y (.list ds) ∨ Dp K H y (.tuple ds)) ∧ okD d ∧ okD (.list ds) ∧ Q (.bl (if neg then !ds.any fun z => PyData.eqv z d else ds.any fun z => PyData.eqv z d)) H
theorem room_in2 {A : Around} {d : PyData} {ds : List PyData} (hd : okD d) (hu : A.units + 65 < cLine) : A.units + 1 + min (PyData.depthAll ds) d.depth < cLine := by
  have h1 := hd.2.1
  have h2 : min (PyData.depthAll ds) d.depth ≤ d.depth := Nat.min_le_right _ _
  omega
theorem op_inDD (hu : X.A.units + 65 < cLine) : OpR X (compareOp .In) (rInDD X.K false) := by
  intro pins s σ H x y v u Q I rx ry h
  obtain ⟨d, ds, hd, he, sd, se, q⟩ := h
  obtain ⟨as, r1⟩ := Dp.reads I d x v hd rx
  have lay : PyData.canLayAll0 ds = true := by have := se.1; simpa only [PyData.canLay0] using this
  rcases he with he | he
  · obtain ⟨bs, r2⟩ := Dp.reads I (.list ds) y u he ry
    exact SeqAt.in_list_reads r2 r1 lay sd.1 (room_in2 sd hu) ⟨.bl _, H, I, rfl, q⟩
  · obtain ⟨bs, r2⟩ := Dp.reads I (.tuple ds) y u he ry
    exact SeqAt.in_tuple_reads r2 r1 lay sd.1 (room_in2 sd hu) ⟨.bl _, H, I, rfl, q⟩
theorem op_notInDD (hu : X.A.units + 65 < cLine) : OpR X (compareOp .NotIn) (rInDD X.K true) := by
  intro pins s σ H x y v u Q I rx ry h
  obtain ⟨d, ds, hd, he, sd, se, q⟩ := h
  obtain ⟨as, r1⟩ := Dp.reads I d x v hd rx
  have lay : PyData.canLayAll0 ds = true := by have := se.1; simpa only [PyData.canLay0] using this
  rcases he with he | he
  · obtain ⟨bs, r2⟩ := Dp.reads I (.list ds) y u he ry
    exact SeqAt.notIn_list_reads r2 r1 lay sd.1 (room_in2 sd hu) ⟨.bl _, H, I, rfl, q⟩
  · obtain ⟨bs, r2⟩ := Dp.reads I (.tuple ds) y u he ry
    exact SeqAt.notIn_tuple_reads r2 r1 lay sd.1 (room_in2 sd hu) ⟨.bl _, H, I, rfl, q⟩
end
/-! texts among data -/
def isX (x : Str) : PyData → Bool
  | .str y => decide (x = y)
  | _ => false
theorem eqv_strL (x : Str) (d : PyData) : PyData.eqv (.str x) d = isX x d := by
  cases d with
  | str y =>
    show (x == y) = decide (x = y)
    by_cases h : x = y
    · rw [h]; simp
    · rw [decide_eq_false h]; exact beq_eq_false_iff_ne.mpr h
  | _ => rfl
theorem eqv_strR (x : Str) (d : PyData) : PyData.eqv d (.str x) = isX x d := by
  cases d with
  | str y =>
    show (y == x) = decide (x = y)
    by_cases h : x = y
    · rw [h]; simp
    · rw [decide_eq_false h]; exact beq_eq_false_iff_ne.mpr fun e => h e.symm
  | _ => rfl
theorem isX_iff {x : Str} {d : PyData} : isX x d = true ↔ d = .str x := by
  cases d with
  | str y =>
    show decide (x = y) = true ↔ _
    rw [decide_eq_true_eq]
    exact ⟨fun e => by rw [e], fun e => by injection e with e; exact e.symm⟩
  | _ => exact ⟨fun e => (by cases (show false = true from e)), fun e => by cases e⟩
def inX (xs : List Str) (d : PyData) : Bool := xs.any fun x => isX x d
theorem any_strs (xs : List Str) (d : PyData) : ((xs.map PyData.str).any fun z => PyData.eqv z d) = inX xs d := by
  unfold inX
  rw [List.any_map]
  exact congrArg (fun f => xs.any f) (funext fun x => eqv_strL x d)
/-! whole numbers among data -/
def bw (lo hi : Int) : PyData → Bool
  | .int n => decide (lo ≤ n ∧ n ≤ hi)
  | _ => false
def isRow (n : Int) : PyData → Bool
  | .tuple ds => decide ((ds.length : Int) = n)
  | _ => false
theorem bw_iff {lo hi : Int} {d : PyData} : bw lo hi d = true ↔ ∃ n, d = .int n ∧ lo ≤ n ∧ n ≤ hi := by
  cases d with
  | int n => exact ⟨fun e => ⟨n, rfl, of_decide_eq_true e⟩, fun ⟨m, e, h⟩ => by cases e; exact decide_eq_true h⟩
  | _ => exact ⟨fun e => (by cases (show false = true from e)), fun ⟨n, e, _⟩ => by cases e⟩
theorem isRow_iff {n : Int} {d : PyData} : isRow n d = true ↔ ∃ ds, d = .tuple ds ∧ (ds.length : Int) = n := by
  cases d with
  | tuple ds => exact ⟨fun e => ⟨ds, rfl, of_decide_eq_true e⟩, fun ⟨es, e, h⟩ => by cases e; exact decide_eq_true h⟩
  | _ => exact ⟨fun e => (by cases (show false = true from e)), fun ⟨n, e, _⟩ => by cases e⟩
/-- item i of a tuple -/
def rowAt (d : PyData) (i : Nat) : PyData := match d with
  | .tuple ds => ds.getD i .none
  | _ => .none
theorem dp_row2 {K : PySem.W.Frag} {H : Hp} {v : V} {d : PyData} (h : Dp K H v d) (r : isRow 2 d = true) : ∃ t a b x y, v = .ref t ∧ d = .tuple [x, y] ∧ SqT K H t [a, b] ∧ Dp K H a x ∧ Dp K H b y := by
  obtain ⟨ds, rfl, hl⟩ := isRow_iff.1 r
  match ds, hl with
  | [x, y], _ =>
    obtain ⟨t, us, rfl, ht, hts⟩ := dp_tup h
    cases hts with
    | cons h1 r1 =>
      cases r1 with
      | cons h2 r2 =>
        cases r2
        exact ⟨t, _, _, x, y, rfl, rfl, ht, h1, h2⟩
  | [], h => exact absurd h (by decide)
  | [_], h => exact absurd h (by simp)
  | _ :: _ :: _ :: r, h => exact absurd h (by simp only [List.length_cons]; omega)
theorem dp_row3 {K : PySem.W.Frag} {H : Hp} {v : V} {d : PyData} (h : Dp K H v d) (r : isRow 3 d = true) : ∃ t a b c x y z, v = .ref t ∧ d = .tuple [x, y, z] ∧ SqT K H t [a, b, c] ∧ Dp K H a x ∧ Dp K H b y ∧ Dp K H c z := by
  obtain ⟨ds, rfl, hl⟩ := isRow_iff.1 r
  match ds, hl with
  | [x, y, z], _ =>
    obtain ⟨t, us, rfl, ht, hts⟩ := dp_tup h
    cases hts with
    | cons h1 r1 =>
      cases r1 with
      | cons h2 r2 =>
        cases r2 with
        | cons h3 r3 =>
          cases r3
          exact ⟨t, _, _, _, x, y, z, rfl, rfl, ht, h1, h2, h3⟩
  | [], h => exact absurd h (by decide)
  | [_], h => exact absurd h (by simp)
  | [_, _], h => exact absurd h (by simp)
  | _ :: _ :: _ :: _ :: r, h => exact absurd h (by simp only [List.length_cons]; omega)
def ConI (mg : Str → Option Value) (x : Str) (n : Int) : Prop := ∃ t, mg x = some (.int n t)
def ConS (mg : Str → Option Value) (x y : Str) : Prop := ∃ t, mg x = some (.str y t)
end My


set_option Elab.async false
set_option maxRecDepth 100000
set_option maxHeartbeats 4000000
set_option linter.all false
namespace My
open PySem L2
open C8 (pss_cut)
def fB (a b : Int) : Int := if a + b ≥ 2 then 1 else 0
def fE (a b : Int) : Int := if a + b ≥ 1 then 1 else 0
def fU (a b : Int) : Int := if a = b then 0 else 1
def fC (c a b : Int) : Int := if c = 1 then a else b
/-- what a call that makes a literal leaves -/
def Res (P : Program) (w : World) (K : PySem.W.Frag) (C p G D : Addr) (gs : List Gt) (H : Hp) (m : Nat) (φ : Bits → Int) (Q : VK) : Prop :=
  ∀ (H' : Hp) (gs' : List Gt) (r : Int), PoolAt P w K H' C p G D gs' → But [G, D] H H' → gs <+: gs' → gs'.length ≤ gs.length + m ∧ NoBits gs gs' → okL gs' r → (∀ env, bitEnv env → litv (bitsOf env gs') r = φ env) → Q (.int r) H'
def ResO (P : Program) (w : World) (K : PySem.W.Frag) (C p G D : Addr) (gs : List Gt) (H : Hp) (m : Nat) (φ : Bits → Int) (Q : VK) : Prop :=
  ∀ (H' : Hp) (gs' : List Gt) (r : Int), PoolAt P w K H' C p G D gs' → But [G, D] H H' → gs <+: gs' → gs'.length ≤ gs.length + m → okL gs' r → (∀ env, bitEnv env → litv (bitsOf env gs') r = φ env) → Q (.int r) H'
def sp2 (P : Program) (w : World) (K : PySem.W.Frag) (C : Addr) (m : Nat) (f : Int → Int → Int) : Sp := fun vs H Q _ => ∃ (p G D : Addr) (gs : List Gt) (x y : Int), vs = [.ref p, .int x, .int y] ∧ PoolAt P w K H C p G D gs ∧ okL gs x ∧ okL gs y ∧ gs.length + m ≤ 100000 ∧
  Res P w K C p G D gs H m (fun env => f (litv (bitsOf env gs) x) (litv (bitsOf env gs) y)) Q
def spBit (P : Program) (w : World) (K : PySem.W.Frag) (C : Addr) : Sp := fun vs H Q _ => ∃ (p G D t : Addr) (gs : List Gt) (n : NK), vs = [.ref p, .ref t] ∧ PoolAt P w K H C p G D gs ∧ Dp K H (.ref t) n.data ∧ n.depth ≤ 7 ∧ gs.length + 1 ≤ 100000 ∧
  ∀ H' gs' (j : Nat), PoolAt P w K H' C p G D gs' → But [G, D] H H' → gs <+: gs' → gs'.length ≤ gs.length + 1 ∧ (∀ m, Gt.bit m ∈ gs' → Gt.bit m ∈ gs ∨ m = n) → gs'[j]? = some (.bit n) → Q (.int (2 * (j : Int))) H'
section
variable {P : Program} {w : World} {K : PySem.W.Frag} {mg : Str → Option Value} {base : Heap} {f C : Addr} {fd : FuncData}
theorem lit_gate {gs : List Gt} (h : okGs gs) {j : Nat} {g : Gt} (hj : gs[j]? = some g) (env : Bits) : litv (bitsOf env gs) (2 * (j : Int)) = g.val env (bitsOf env gs) := by
  unfold litv
  rw [if_pos (by omega), show (2 * (j : Int) / 2).toNat = j by omega]
  exact bits_at gs h j g hj
theorem okL_gate {gs : List Gt} {j : Nat} {g : Gt} (hj : gs[j]? = some g) : okL gs (2 * (j : Int)) := by
  have := (List.getElem?_eq_some_iff.mp hj).1
  unfold okL
  omega
theorem both_depth (x y : Int) : (Gt.both x y).nk.depth ≤ 8 := by simp only [Gt.nk, NestedKey.depth, NestedKey.depthAll]; decide
theorem unlike_depth (x y : Int) : (Gt.unlike x y).nk.depth ≤ 8 := by simp only [Gt.nk, NestedKey.depth, NestedKey.depthAll]; decide
theorem chosen_depth (c x y : Int) : (Gt.chosen c x y).nk.depth ≤ 8 := by simp only [Gt.nk, NestedKey.depth, NestedKey.depthAll]; decide
theorem ref_tup {K : PySem.W.Frag} {H : Hp} {t : Addr} {n : NK} (h : Dp K H (.ref t) n.data) : ∃ ks, n = NestedKey.tup ks := by
  cases n with
  | tup ks => exact ⟨ks, rfl⟩
  | none => cases h
  | num z => cases h
  | text z => cases h
theorem int_of {x y : Int} (h : decide (V.int x = V.int y) = true) : x = y := by
  have := of_decide_eq_true h
  injection this
theorem ok_bit (T : Txt K mg) (PK : PlK K C) (D : DefM K C "bit" "Pool.bit" ["self", "name"] s_Pool_bit f fd) (O1 : OwnM P w K mg base C "literal_of" ["self", "gate"] 1 (spMade P w K C)) : OwnM P w K mg base C "bit" ["self", "name"] 2 (spBit P w K C) := by
  obtain ⟨fliteral_of, fdliteral_of, Mliteral_of, bliteral_of, Gliteral_of⟩ := O1
  refine ⟨f, fd, D.me, D.bd, D.fn.ok sc_Pool_bit (fun vs H Q E h => ?_) (fun cdv A outer s H vs Q E hr h => ?_)⟩
  · obtain ⟨p, G, D', t, gs, n, rfl, _⟩ := h
    rfl
  · obtain ⟨p, G, D', t, gs, n, rfl, A0, ht, h8, hl, q⟩ := h
    obtain ⟨dx, ts, h1, _⟩ := A0.at_
    refine ⟨_, (pss_one (ps_ret (pe_meth (pv 0) PK.cls Mliteral_of Gliteral_of (hr.mono (by omega)) bliteral_of .nil pass0 (pa_cons (pe_tup (pa_cons pe_str (pa_cons (pv 1) pa_nil))) pa_nil)))), ?_⟩
    refine ⟨_, rfl, p, dx, _, rfl, h1, plFs_no _ _ (by decide +kernel) (by decide +kernel), _, rfl, by show 2 ≤ sizeLine; decide, fun g hg => ?_⟩
    have sn := same_new hg (.tup [.str "bit", .ref t])
    exact ⟨p, G, D', g, gs, .bit n, rfl, A0.same sn, .tup (SqT.of upd_same) (.cons (.str _) (.cons (dp_mono sn _ ht) .nil)), by simp only [Gt.nk, NestedKey.depth, NestedKey.depthAll]; omega, (by intro z; cases z), (fun m e => by cases e; exact ref_tup ht), (fun x hx => nomatch hx), ⟨(fun x hx => nomatch hx), .nil⟩, by omega, fun H' gs' j A1 hb hp hle hj => q H' gs' j A1 ((But.of_same sn).trans hb) hp ⟨hle.1, fun m hm => by
      rcases hle.2 with e | e
      · rw [e] at hm; exact .inl hm
      · rw [e] at hm
        rcases List.mem_append.mp hm with h | h
        · exact .inl h
        · have := List.mem_singleton.mp h
          injection this with this
          exact .inr this⟩ hj⟩
def spBothG : Sp := fun vs H Q _ => ∃ x y : Int, vs = [.int x, .int y] ∧ x ≤ y ∧ ∀ g, H g = none → Q (.ref g) (upd H g (.tup [.str "both", .int x, .int y]))
theorem ok_both_gate (T : Txt K mg) (D : Def K mg "both_gate" ["x", "y"] s_both_gate f fd) : Own P w K mg base "both_gate" ["x", "y"] 1 spBothG := by
  refine ⟨f, fd, D.mg, D.fn.kp, D.bd, D.fn.ok sc_both_gate (fun vs H Q E h => ?_) (fun cdv A outer s H vs Q E hr h => ?_)⟩
  · obtain ⟨x, y, rfl, _⟩ := h
    rfl
  · obtain ⟨x, y, rfl, hxy, q⟩ := h
    refine ⟨_, (pss_one (ps_ret (pe_tup (pa_cons pe_str (pa_cons (pe_callB (call_min2 rfl) (by rfl) T.m_min (by decide +kernel) (pa_cons (pv 0) (pa_cons (pv 1) pa_nil))) (pa_cons (pe_callB (call_max2 rfl) (by rfl) T.m_max (by decide +kernel) (pa_cons (pv 0) (pa_cons (pv 1) pa_nil))) pa_nil)))))), ?_⟩
    have e1 : (if y < x then y else x) = x := if_neg (by omega)
    have e2 : (if y > x then y else x) = y := by split <;> omega
    refine ⟨_, rfl, _, rfl, x, y, rfl, _, rfl, _, rfl, x, y, rfl, by show 3 ≤ sizeLine; decide, fun g hg => ?_⟩
    rw [e1, e2]
    exact q g hg
theorem is_int {x y : Int} (h : x = y) : decide (V.int x = V.int y) = true := decide_eq_true (by rw [h])
theorem ne2 {x y : Int} (h0 : ¬ x = 0) (h1 : ¬ x = Builtin.bitXor y 1) (h2 : ¬ x = 1) (h3 : ¬ x = y) (hx : 0 ≤ x) (hxy : x ≤ y) : (Gt.both x y).Neat := by
  rw [xor1] at h1
  refine ⟨fun z hz => ?_, ?_⟩
  · rcases List.mem_cons.mp hz with e | hz
    · omega
    · rw [List.mem_singleton.mp hz]; omega
  · show List.Pairwise _ [x, y]
    refine .cons (fun z hz => ?_) (.cons (fun z hz => (nomatch hz)) .nil)
    rw [List.mem_singleton.mp hz]
    split at h1 <;> omega
theorem ne2u {x y : Int} (h0 : ¬ x = 0) (h3 : ¬ x = y) (hx : 0 ≤ x) (hxy : x ≤ y) (ex : x % 2 = 0) (ey : y % 2 = 0) : (Gt.unlike x y).Neat := by
  refine ⟨fun z hz => ?_, ?_⟩
  · rcases List.mem_cons.mp hz with e | hz
    · omega
    · rw [List.mem_singleton.mp hz]; omega
  · show List.Pairwise _ [x, y]
    refine .cons (fun z hz => ?_) (.cons (fun z hz => (nomatch hz)) .nil)
    rw [List.mem_singleton.mp hz]
    omega
theorem ok_both (T : Txt K mg) (PK : PlK K C) (C1 : ConI mg "NO" 0) (C2 : ConI mg "YES" 1) (D : DefM K C "both" "Pool.both" ["self", "x", "y"] s_Pool_both f fd) (O1 : OwnM P w K mg base C "literal_of" ["self", "gate"] 1 (spMade P w K C)) (O2 : Own P w K mg base "both_gate" ["x", "y"] 1 spBothG) : OwnM P w K mg base C "both" ["self", "x", "y"] 2 (sp2 P w K C 1 fB) := by
  obtain ⟨fliteral_of, fdliteral_of, Mliteral_of, bliteral_of, Gliteral_of⟩ := O1
  obtain ⟨fboth_gate, fdboth_gate, mboth_gate, kboth_gate, bboth_gate, Gboth_gate⟩ := O2
  obtain ⟨t_NO, c_NO⟩ := C1
  obtain ⟨t_YES, c_YES⟩ := C2
  refine ⟨f, fd, D.me, D.bd, D.fn.ok sc_Pool_both (fun vs H Q E h => ?_) (fun cdv A outer s H vs Q E hr h => ?_)⟩
  · obtain ⟨p, G, D', gs, x, y, rfl, _⟩ := h
    rfl
  · obtain ⟨p, G, D', gs, x0, y0, rfl, A0, hx0, hy0, hl, q0⟩ := h
    obtain ⟨dx, ts, h1, _⟩ := A0.at_
    have no := fun env => litv_no (env := env) A0.ok
    have yes := fun env => litv_yes (env := env) A0.ok
    refine ⟨_, (pss_cut (ps_if (pt_cmpR op_gt (pv 1) (pv 2) (nomark _)) (pss_one (ps_par (i := 1) (j := 2) rfl sc_Pool_both.nd rfl rfl (by decide) rfl rfl (pa_cons (pv 2) (pa_cons (pv 1) pa_nil)) (by rfl))) pss_nil)
      (pss_cons (ps_if (PW.pt (pw_or (pt_cmpR op_eq (pv 1) (pe_glob (v := .int 0) (u := .int 0 t_NO) (by rfl) c_NO ⟨t_NO, rfl⟩) (nomark _)) (pw_or1 (pt_cmpR op_eq (pv 1) (pe_op op_xor (pv 2) pe_int) (nomark _))))) (pss_one (ps_ret (pe_glob (v := .int 0) (u := .int 0 t_NO) (by rfl) c_NO ⟨t_NO, rfl⟩))) pss_nil)
      (pss_cons (ps_if (PW.pt (pw_or (pt_cmpR op_eq (pv 1) (pe_glob (v := .int 1) (u := .int 1 t_YES) (by rfl) c_YES ⟨t_YES, rfl⟩) (nomark _)) (pw_or1 (pt_cmpR op_eq (pv 1) (pv 2) (nomark _))))) (pss_one (ps_ret (pv 2))) pss_nil)
      (pss_one (ps_ret (pe_meth (pv 0) PK.cls Mliteral_of Gliteral_of (hr.mono (by omega)) bliteral_of .nil pass0 (pa_cons (pe_call Gboth_gate (hr.mono (by omega)) rfl mboth_gate kboth_gate bboth_gate .nil pass0 (pa_cons (pv 1) (pa_cons (pv 2) pa_nil))) pa_nil))))))), ?_⟩
    refine ⟨fun σ' H' => H' = H ∧ ∃ x y, σ' = [some (.ref p), some (.int x), some (.int y)] ∧ okL gs x ∧ okL gs y ∧ x ≤ y ∧ Res P w K C p G D' gs H 1 (fun env => fB (litv (bitsOf env gs) x) (litv (bitsOf env gs) y)) Q, ?_, ?_⟩
    · refine ⟨_, rfl, _, rfl, _, _, rfl, rfl, _, rfl, ite2 (fun c => ?_) (fun c => ?_)⟩
      · refine ⟨_, rfl, _, rfl, _, _, rfl, rfl, _, _, rfl, hy0, hx0, by have := of_decide_eq_true c; omega, fun H' gs' r k1 k2 k3 k4 k5 k6 => q0 H' gs' r k1 k2 k3 k4 k5 fun env he => ?_⟩
        rw [k6 env he]
        show fB _ _ = fB _ _
        unfold fB
        rw [Int.add_comm]
      · exact ⟨rfl, _, _, rfl, hx0, hy0, by have : ¬ (x0 > y0) := fun z => c (decide_eq_true z); omega, q0⟩
    · rintro σ' H' ⟨rfl, x, y, rfl, hx, hy, hxy, q⟩
      have lb : ∀ env z, bitEnv env → litv (bitsOf env gs) z = 0 ∨ litv (bitsOf env gs) z = 1 := fun env z he => litv_bit (bits_bit he gs) z
      have rno : (∀ env, bitEnv env → fB (litv (bitsOf env gs) x) (litv (bitsOf env gs) y) = 0) → Q (.int 0) H' := fun h0 => q H' gs 0 A0 (.refl _ _) (List.prefix_refl _) ⟨Nat.le_succ _, .refl _⟩ ⟨Int.le_refl _, by have := A0.ok.pos; omega⟩ fun env he => by rw [no env]; exact (h0 env he).symm
      have ry : (∀ env, bitEnv env → fB (litv (bitsOf env gs) x) (litv (bitsOf env gs) y) = litv (bitsOf env gs) y) → Q (.int y) H' := fun h0 => q H' gs y A0 (.refl _ _) (List.prefix_refl _) ⟨Nat.le_succ _, .refl _⟩ hy fun env he => (h0 env he).symm
      refine ⟨_, rfl, rfl, _, rfl, ite2 (fun c => ?_) (fun c1 => ?_)⟩
      · have e : x = 0 := int_of c
        refine iteT ?_
        exact rno fun env he => by
          rw [e, no env]
          have := lb env y he
          unfold fB
          rw [if_neg (by omega)]
      · refine ⟨_, rfl, _, rfl, _, _, rfl, rfl, rfl, _, rfl, ite2 (fun c => ?_) (fun c2 => ?_)⟩
        · have e : x = Builtin.bitXor y 1 := int_of c
          exact rno fun env he => by
            rw [e, litv_xor1 hy.1]
            have := lb env y he
            unfold fB
            rw [if_neg (by omega)]
        · refine ⟨_, rfl, rfl, _, rfl, ite2 (fun c => ?_) (fun c3 => ?_)⟩
          · have e : x = 1 := int_of c
            refine iteT ?_
            exact ⟨_, rfl, ry fun env he => by
              rw [e, yes env]
              have := lb env y he
              unfold fB
              split <;> omega⟩
          · refine ⟨_, rfl, _, rfl, rfl, _, rfl, ite2 (fun c => ?_) (fun c4 => ?_)⟩
            · have e : x = y := int_of c
              exact ⟨_, rfl, ry fun env he => by
                rw [e]
                have := lb env y he
                unfold fB
                split <;> omega⟩
            · refine ⟨_, rfl, p, dx, _, rfl, h1, plFs_no _ _ (by decide +kernel) (by decide +kernel), _, rfl, _, rfl, x, y, rfl, hxy, fun g hg => ?_⟩
              have sn := same_new hg (.tup [.str "both", .int x, .int y])
              refine ⟨p, G, D', g, gs, .both x y, rfl, A0.same sn, .tup (SqT.of upd_same) (.cons (.str _) (.cons (.int _) (.cons (.int _) .nil))), both_depth x y, (by intro z; cases z), (fun m e => by cases e), (fun z hz => ?_), ne2 (fun e => c1 (is_int e)) (fun e => c2 (is_int e)) (fun e => c3 (is_int e)) (fun e => c4 (is_int e)) hx.1 hxy, by omega, fun H2 gs' j A1 hb hp hle hj => ?_⟩
              · rcases List.mem_cons.mp hz with e | hz
                · rw [e]; exact hx
                · rw [List.mem_singleton.mp hz]; exact hy
              · refine q H2 gs' _ A1 ((But.of_same sn).trans hb) hp ⟨hle.1, noBits_of hle.2 (by intro n z; cases z)⟩ (okL_gate hj) fun env he => ?_
                rw [lit_gate A1.ok hj env]
                show (if litv (bitsOf env gs') x + litv (bitsOf env gs') y ≥ 2 then (1 : Int) else 0) = _
                rw [litv_pre hx hp, litv_pre hy hp]
                rfl
theorem ok_either (T : Txt K mg) (PK : PlK K C) (D : DefM K C "either" "Pool.either" ["self", "x", "y"] s_Pool_either f fd) (O1 : OwnM P w K mg base C "both" ["self", "x", "y"] 2 (sp2 P w K C 1 fB)) : OwnM P w K mg base C "either" ["self", "x", "y"] 3 (sp2 P w K C 1 fE) := by
  obtain ⟨fboth, fdboth, Mboth, bboth, Gboth⟩ := O1
  refine ⟨f, fd, D.me, D.bd, D.fn.ok sc_Pool_either (fun vs H Q E h => ?_) (fun cdv A outer s H vs Q E hr h => ?_)⟩
  · obtain ⟨p, G, D', gs, x, y, rfl, _⟩ := h
    rfl
  · obtain ⟨p, G, D', gs, x, y, rfl, A0, hx, hy, hl, q⟩ := h
    obtain ⟨dx, ts, h1, _⟩ := A0.at_
    refine ⟨_, (pss_one (ps_ret (pe_op op_xor (pe_meth (pv 0) PK.cls Mboth Gboth (hr.mono (by omega)) bboth .nil pass0 (pa_cons (pe_op op_xor (pv 1) pe_int) (pa_cons (pe_op op_xor (pv 2) pe_int) pa_nil))) pe_int))), ?_⟩
    refine ⟨_, rfl, p, dx, _, rfl, h1, plFs_no _ _ (by decide +kernel) (by decide +kernel), _, rfl, _, _, rfl, rfl, _, rfl, _, _, rfl, rfl, p, G, D', gs, _, _, rfl, A0, okL_xor1 hx, okL_xor1 hy, hl, fun H' gs' r k1 k2 k3 k4 k5 k6 => ?_⟩
    refine ⟨_, _, rfl, rfl, q H' gs' _ k1 k2 k3 k4 (okL_xor1 k5) fun env he => ?_⟩
    rw [litv_xor1 k5.1, k6 env he]
    show 1 - fB (litv (bitsOf env gs) (Builtin.bitXor x 1)) (litv (bitsOf env gs) (Builtin.bitXor y 1)) = _
    rw [litv_xor1 hx.1, litv_xor1 hy.1]
    have lx := litv_bit (bits_bit he gs) x
    have ly := litv_bit (bits_bit he gs) y
    show 1 - fB _ _ = fE _ _
    unfold fB fE
    split <;> split <;> omega
theorem fU_turn {a b : Int} (ha : a = 0 ∨ a = 1) (hb : b = 0 ∨ b = 1) (s t : Int) : fU (if s % 2 = 0 then a else 1 - a) (if t % 2 = 0 then b else 1 - b) = if (s + t) % 2 = 0 then fU a b else 1 - fU a b := by
  unfold fU
  rcases ha with rfl | rfl <;> rcases hb with rfl | rfl <;> (split <;> split <;> split <;> simp <;> omega)
theorem litv_parts {bs : List Int} (x : Int) : litv bs x = if x % 2 = 0 then litv bs (x - x % 2) else 1 - litv bs (x - x % 2) := by
  rw [litv_even]
  split <;> omega
theorem ok_unlike (T : Txt K mg) (PK : PlK K C) (C1 : ConI mg "NO" 0) (D : DefM K C "unlike" "Pool.unlike" ["self", "x", "y"] s_Pool_unlike f fd) (O1 : OwnM P w K mg base C "literal_of" ["self", "gate"] 1 (spMade P w K C)) : OwnM P w K mg base C "unlike" ["self", "x", "y"] 2 (sp2 P w K C 1 fU) := by
  obtain ⟨fliteral_of, fdliteral_of, Mliteral_of, bliteral_of, Gliteral_of⟩ := O1
  obtain ⟨t_NO, c_NO⟩ := C1
  refine ⟨f, fd, D.me, D.bd, D.fn.ok sc_Pool_unlike (fun vs H Q E h => ?_) (fun cdv A outer s H vs Q E hr h => ?_)⟩
  · obtain ⟨p, G, D', gs, x, y, rfl, _⟩ := h
    rfl
  · obtain ⟨p, G, D', gs, x0, y0, rfl, A0, hx0, hy0, hl, q0⟩ := h
    obtain ⟨dx, ts, h1, _⟩ := A0.at_
    have no := fun env => litv_no (env := env) A0.ok
    have yes := fun env => litv_yes (env := env) A0.ok
    have hX : okL gs (x0 - x0 % 2) := by have := hx0.1; have := hx0.2; unfold okL; omega
    have hY : okL gs (y0 - y0 % 2) := by have := hy0.1; have := hy0.2; unfold okL; omega
    obtain ⟨tn, htn⟩ : ∃ tn, tn = (x0 + y0) % 2 := ⟨_, rfl⟩
    have ht : tn = 0 ∨ tn = 1 := by omega
    refine ⟨_, (pss_cons (ps_set (i := 3) sc_Pool_unlike.nd rfl (Or.inl rfl) (pe_op op_and (pe_op op_xor (pv 1) (pv 2)) pe_int))
      (pss_cons (ps_set (i := 1) sc_Pool_unlike.nd rfl (Or.inl rfl) (pe_op op_xor (pv 1) (pe_op op_and (pv 1) pe_int)))
      (pss_cons (ps_set (i := 2) sc_Pool_unlike.nd rfl (Or.inl rfl) (pe_op op_xor (pv 2) (pe_op op_and (pv 2) pe_int)))
      (pss_cut (ps_if (pt_cmpR op_gt (pv 1) (pv 2) (nomark _)) (pss_one (ps_par (i := 1) (j := 2) rfl sc_Pool_unlike.nd rfl rfl (by decide) rfl rfl (pa_cons (pv 2) (pa_cons (pv 1) pa_nil)) (by rfl))) pss_nil)
      (pss_cons (ps_if (pt_cmpR op_eq (pv 1) (pv 2) (nomark _)) (pss_one (ps_ret (pv 3))) pss_nil)
      (pss_cons (ps_if (pt_cmpR op_eq (pv 1) (pe_glob (v := .int 0) (u := .int 0 t_NO) (by rfl) c_NO ⟨t_NO, rfl⟩) (nomark _)) (pss_one (ps_ret (pe_op op_xor (pv 2) (pv 3)))) pss_nil)
      (pss_one (ps_ret (pe_op op_xor (pe_meth (pv 0) PK.cls Mliteral_of Gliteral_of (hr.mono (by omega)) bliteral_of .nil pass0 (pa_cons (pe_tup (pa_cons pe_str (pa_cons (pv 1) (pa_cons (pv 2) pa_nil)))) pa_nil)) (pv 3)))))))))), ?_⟩
    refine ⟨_, rfl, _, rfl, _, _, rfl, rfl, _, _, rfl, rfl, ?_⟩
    refine ⟨_, rfl, _, rfl, _, _, rfl, rfl, _, _, rfl, rfl, ?_⟩
    refine ⟨_, rfl, _, rfl, _, _, rfl, rfl, _, _, rfl, rfl, ?_⟩
    dsimp only
    rw [turned_of, even_of, even_of, ← htn]
    refine ⟨fun σ' H' => H' = H ∧ ∃ x y, σ' = [some (.ref p), some (.int x), some (.int y), some (.int tn)] ∧ okL gs x ∧ okL gs y ∧ x ≤ y ∧ x % 2 = 0 ∧ y % 2 = 0 ∧ Res P w K C p G D' gs H 1 (fun env => if tn = 0 then fU (litv (bitsOf env gs) x) (litv (bitsOf env gs) y) else 1 - fU (litv (bitsOf env gs) x) (litv (bitsOf env gs) y)) Q, ?_, ?_⟩
    · have q1 : Res P w K C p G D' gs H 1 (fun env => if tn = 0 then fU (litv (bitsOf env gs) (x0 - x0 % 2)) (litv (bitsOf env gs) (y0 - y0 % 2)) else 1 - fU (litv (bitsOf env gs) (x0 - x0 % 2)) (litv (bitsOf env gs) (y0 - y0 % 2))) Q := fun H' gs' r k1 k2 k3 k4 k5 k6 => q0 H' gs' r k1 k2 k3 k4 k5 fun env he => by
        rw [k6 env he, htn]
        show _ = fU (litv (bitsOf env gs) x0) (litv (bitsOf env gs) y0)
        rw [litv_parts x0, litv_parts y0, fU_turn (litv_bit (bits_bit he gs) _) (litv_bit (bits_bit he gs) _)]
      refine ⟨_, rfl, _, rfl, _, _, rfl, rfl, _, rfl, ite2 (fun c => ?_) (fun c => ?_)⟩
      · refine ⟨_, rfl, _, rfl, _, _, rfl, rfl, _, _, rfl, hY, hX, by have := of_decide_eq_true c; omega, by omega, by omega, fun H' gs' r k1 k2 k3 k4 k5 k6 => q1 H' gs' r k1 k2 k3 k4 k5 fun env he => ?_⟩
        rw [k6 env he]
        have e : ∀ a b : Int, fU a b = fU b a := fun a b => by unfold fU; split <;> split <;> omega
        show (if tn = 0 then fU (litv (bitsOf env gs) (y0 - y0 % 2)) (litv (bitsOf env gs) (x0 - x0 % 2)) else 1 - fU (litv (bitsOf env gs) (y0 - y0 % 2)) (litv (bitsOf env gs) (x0 - x0 % 2))) = _
        rw [e (litv (bitsOf env gs) (y0 - y0 % 2))]
      · exact ⟨rfl, _, _, rfl, hX, hY, by have : ¬ (x0 - x0 % 2 > y0 - y0 % 2) := fun z => c (decide_eq_true z); omega, by omega, by omega, q1⟩
    · rintro σ' H' ⟨rfl, x, y, rfl, hx, hy, hxy, evx, evy, q⟩
      refine ⟨_, rfl, _, rfl, rfl, _, rfl, ite2 (fun c => ?_) (fun c1 => ?_)⟩
      · have e : x = y := int_of c
        refine ⟨_, rfl, q H' gs tn A0 (.refl _ _) (List.prefix_refl _) ⟨Nat.le_succ _, .refl _⟩ ?_ fun env he => ?_⟩
        · have := A0.ok.pos
          unfold okL
          omega
        · have z : ∀ a : Int, fU a a = 0 := fun a => by unfold fU; rw [if_pos rfl]
          show _ = if tn = 0 then fU (litv (bitsOf env gs) x) (litv (bitsOf env gs) y) else 1 - fU (litv (bitsOf env gs) x) (litv (bitsOf env gs) y)
          rw [e, z]
          rcases ht with h | h <;> rw [h]
          · rw [no env, if_pos rfl]
          · rw [yes env, if_neg (by decide)]; rfl
      · refine ⟨_, rfl, rfl, _, rfl, ite2 (fun c => ?_) (fun c2 => ?_)⟩
        · have e : x = 0 := int_of c
          refine ⟨_, rfl, _, rfl, _, _, rfl, rfl, q H' gs _ A0 (.refl _ _) (List.prefix_refl _) ⟨Nat.le_succ _, .refl _⟩ (okL_xort hy ht) fun env he => ?_⟩
          rw [litv_xort hy.1 ht]
          show _ = if tn = 0 then fU (litv (bitsOf env gs) x) (litv (bitsOf env gs) y) else 1 - fU (litv (bitsOf env gs) x) (litv (bitsOf env gs) y)
          have := litv_bit (bits_bit he gs) y
          have eU : fU (litv (bitsOf env gs) x) (litv (bitsOf env gs) y) = litv (bitsOf env gs) y := by
            rw [e, no env]
            unfold fU
            split <;> omega
          rw [eU]
        · refine ⟨_, rfl, p, dx, _, rfl, h1, plFs_no _ _ (by decide +kernel) (by decide +kernel), _, rfl, _, rfl, by show 3 ≤ sizeLine; decide, fun g hg => ?_⟩
          have sn := same_new hg (.tup [.str "unlike", .int x, .int y])
          refine ⟨p, G, D', g, gs, .unlike x y, rfl, A0.same sn, .tup (SqT.of upd_same) (.cons (.str _) (.cons (.int _) (.cons (.int _) .nil))), unlike_depth x y, (by intro z; cases z), (fun m e => by cases e), (fun z hz => ?_), ne2u (fun e => c2 (is_int e)) (fun e => c1 (is_int e)) hx.1 hxy evx evy, by omega, fun H2 gs' j A1 hb hp hle hj => ?_⟩
          · rcases List.mem_cons.mp hz with e | hz
            · rw [e]; exact hx
            · rw [List.mem_singleton.mp hz]; exact hy
          · refine ⟨_, rfl, _, _, rfl, rfl, q H2 gs' _ A1 ((But.of_same sn).trans hb) hp ⟨hle.1, noBits_of hle.2 (by intro n z; cases z)⟩ (okL_xort (okL_gate hj) ht) fun env he => ?_⟩
            rw [litv_xort (by omega) ht, lit_gate A1.ok hj env]
            show (if tn = 0 then (if litv (bitsOf env gs') x = litv (bitsOf env gs') y then (0 : Int) else 1) else 1 - (if litv (bitsOf env gs') x = litv (bitsOf env gs') y then (0 : Int) else 1)) = _
            rw [litv_pre hx hp, litv_pre hy hp]
            rfl
end
end My


set_option Elab.async false
set_option maxRecDepth 100000
set_option maxHeartbeats 4000000
set_option linter.all false
namespace My
open PySem L2 PyProof.Rows
open C8 (pss_cut)
theorem xor_half {x c : Int} (hx : 0 ≤ x) (hc : 0 ≤ c) (h : x / 2 = c / 2) : Builtin.bitXor x c = if x = c then 0 else 1 := by
  rw [Bits.bitXor_pp hx hc]
  have hn : x.toNat / 2 = c.toNat / 2 := by omega
  have h1 : (x.toNat ^^^ c.toNat) / 2 = 0 := by rw [Nat.xor_div_two, hn, Nat.xor_self]
  have h2 : (Builtin.bitXor x c) % 2 = (x + c) % 2 := by rw [bitXor_and]; omega
  rw [Bits.bitXor_pp hx hc] at h2
  split <;> omega
def sp3 (P : Program) (w : World) (K : PySem.W.Frag) (C : Addr) (m : Nat) (f : Int → Int → Int → Int) : Sp := fun vs H Q _ => ∃ (p G D : Addr) (gs : List Gt) (c x y : Int), vs = [.ref p, .int c, .int x, .int y] ∧ PoolAt P w K H C p G D gs ∧ okL gs c ∧ okL gs x ∧ okL gs y ∧ gs.length + m ≤ 100000 ∧
  Res P w K C p G D gs H m (fun env => f (litv (bitsOf env gs) c) (litv (bitsOf env gs) x) (litv (bitsOf env gs) y)) Q
theorem even_c {c : Int} (h : ¬ (Builtin.bitAnd c 1 != 0) = true) : c % 2 = 0 := by
  rw [bitAnd_m1] at h
  by_cases z : c % 2 = 0
  · exact z
  · exact absurd (by simpa using z) h
theorem even_x {c : Int} (h : (Builtin.bitAnd c 1 != 0) = true) : Builtin.bitXor c 1 % 2 = 0 := by
  rw [bitAnd_m1] at h
  have h : ¬ c % 2 = 0 := by simpa using h
  rw [xor1]
  split <;> omega
theorem ne3 {c x y t : Int} (c0 : ¬ c = 0) (ce : c % 2 = 0) (hc : 0 ≤ c) (hx : 0 ≤ x) (hy : 0 ≤ y) (hxc : x = 0 ∨ x = 1 ∨ x / 2 ≠ c / 2) (hyc : y = 0 ∨ y = 1 ∨ y / 2 ≠ c / 2) (x0 : ¬ x = 0) (x1 : ¬ x = 1) (y0 : ¬ y = 0) (y1 : ¬ y = 1) (hxy : x / 2 ≠ y / 2) (ht : t = 0 ∨ t = 1) : (Gt.chosen c (Builtin.bitXor x t) (Builtin.bitXor y t)).Neat := by
  have h : ∀ z : Int, Builtin.bitXor z t = z ∨ (Builtin.bitXor z t = if z % 2 = 0 then z + 1 else z - 1) := fun z => by
    rw [xor_t ht]
    split
    · exact .inl rfl
    · exact .inr (xor1 z)
  have hh : ∀ z : Int, Builtin.bitXor z t / 2 = z / 2 := fun z => by
    rcases h z with e | e <;> rw [e]
    split <;> omega
  have hb : ∀ z : Int, 2 ≤ z → 2 ≤ Builtin.bitXor z t := fun z hz => by
    have := hh z
    omega
  refine ⟨fun z hz => ?_, ?_⟩
  · rcases List.mem_cons.mp hz with e | hz
    · omega
    · rcases List.mem_cons.mp hz with e | hz
      · rw [e]; exact hb x (by omega)
      · rw [List.mem_singleton.mp hz]; exact hb y (by omega)
  · show List.Pairwise _ [c, Builtin.bitXor x t, Builtin.bitXor y t]
    refine .cons (fun z hz => ?_) (.cons (fun z hz => ?_) (.cons (fun z hz => (nomatch hz)) .nil))
    · rcases List.mem_cons.mp hz with e | hz
      · rw [e, hh]; omega
      · rw [List.mem_singleton.mp hz, hh]; omega
    · rw [List.mem_singleton.mp hz, hh, hh]; exact hxy
section
variable {P : Program} {w : World} {K : PySem.W.Frag} {mg : Str → Option Value} {base : Heap} {f C : Addr} {fd : FuncData}
theorem Res.imp {p G D : Addr} {gs : List Gt} {H : Hp} {m : Nat} {φ ψ : Bits → Int} {Q : VK} (r : Res P w K C p G D gs H m φ Q) (h : ∀ env, bitEnv env → ψ env = φ env) : Res P w K C p G D gs H m ψ Q := fun H' gs' r' k1 k2 k3 k4 k5 k6 => r H' gs' r' k1 k2 k3 k4 k5 fun env he => by rw [k6 env he, h env he]
theorem Res.here {p G D : Addr} {gs : List Gt} {H : Hp} {m : Nat} {φ : Bits → Int} {Q : VK} (r : Res P w K C p G D gs H m φ Q) (A : PoolAt P w K H C p G D gs) {x : Int} (hx : okL gs x) (h : ∀ env, bitEnv env → litv (bitsOf env gs) x = φ env) : Q (.int x) H :=
  r H gs x A (.refl _ _) (List.prefix_refl _) ⟨Nat.le_add_right _ _, .refl _⟩ hx h
theorem ok_chosen (T : Txt K mg) (PK : PlK K C) (C1 : ConI mg "NO" 0) (C2 : ConI mg "YES" 1) (D : DefM K C "chosen" "Pool.chosen" ["self", "c", "x", "y"] s_Pool_chosen f fd) (O1 : OwnM P w K mg base C "literal_of" ["self", "gate"] 1 (spMade P w K C)) (O2 : OwnM P w K mg base C "both" ["self", "x", "y"] 2 (sp2 P w K C 1 fB)) (O3 : OwnM P w K mg base C "either" ["self", "x", "y"] 3 (sp2 P w K C 1 fE)) (O4 : OwnM P w K mg base C "unlike" ["self", "x", "y"] 2 (sp2 P w K C 1 fU)) :
    OwnM P w K mg base C "chosen" ["self", "c", "x", "y"] 4 (sp3 P w K C 1 fC) := by
  obtain ⟨fliteral_of, fdliteral_of, Mliteral_of, bliteral_of, Gliteral_of⟩ := O1
  obtain ⟨fboth, fdboth, Mboth, bboth, Gboth⟩ := O2
  obtain ⟨feither, fdeither, Meither, beither, Geither⟩ := O3
  obtain ⟨funlike, fdunlike, Munlike, bunlike, Gunlike⟩ := O4
  obtain ⟨t_NO, c_NO⟩ := C1
  obtain ⟨t_YES, c_YES⟩ := C2
  refine ⟨f, fd, D.me, D.bd, D.fn.ok sc_Pool_chosen (fun vs H Q E h => ?_) (fun cdv A outer s H vs Q E hr h => ?_)⟩
  · obtain ⟨p, G, D', gs, c, x, y, rfl, _⟩ := h
    rfl
  · obtain ⟨p, G, D', gs, c0, x0, y0, rfl, A0, hc0, hx0, hy0, hl, q0⟩ := h
    obtain ⟨dx, ts, h1, _⟩ := A0.at_
    have no := fun env => litv_no (env := env) A0.ok
    have yes := fun env => litv_yes (env := env) A0.ok
    have lb : ∀ env z, bitEnv env → litv (bitsOf env gs) z = 0 ∨ litv (bitsOf env gs) z = 1 := fun env z he => litv_bit (bits_bit he gs) z
    have okno : okL gs 0 := by have := A0.ok.pos; unfold okL; omega
    have okyes : okL gs 1 := by have := A0.ok.pos; unfold okL; omega
    have meth : ∀ {m : Str}, ¬ m = "literals" → ¬ m = "gates" → (plFs G D').lookup m = none := fun a b => plFs_no _ _ a b
    refine ⟨_, (pss_cut (ps_if (pt_truth (pe_op op_and (pv 1) pe_int) (by intro _; rfl)) (pss_one (ps_par3 (i := 1) (j := 2) (l := 3) rfl sc_Pool_chosen.nd rfl rfl rfl (by decide) (by decide) (by decide) rfl rfl rfl (pa_cons (pe_op op_xor (pv 1) pe_int) (pa_cons (pv 3) (pa_cons (pv 2) pa_nil))) (by rfl))) pss_nil)
      (pss_cons (ps_if (PW.pt (pw_or (pt_cmpR op_eq (pv 1) (pe_glob (v := .int 0) (u := .int 0 t_NO) (by rfl) c_NO ⟨t_NO, rfl⟩) (nomark _)) (pw_or1 (pt_cmpR op_eq (pv 2) (pv 3) (nomark _))))) (pss_one (ps_ret (pv 3))) pss_nil)
      (pss_cut (ps_if (pt_cmpR op_eq (pe_op op_shr (pv 2) pe_int) (pe_op op_shr (pv 1) pe_int) (nomark _)) (pss_one (ps_set (i := 2) sc_Pool_chosen.nd rfl (Or.inl rfl) (pe_op op_xor (pe_op op_xor (pv 2) (pv 1)) pe_int))) pss_nil)
      (pss_cut (ps_if (pt_cmpR op_eq (pe_op op_shr (pv 3) pe_int) (pe_op op_shr (pv 1) pe_int) (nomark _)) (pss_one (ps_set (i := 3) sc_Pool_chosen.nd rfl (Or.inl rfl) (pe_op op_xor (pv 3) (pv 1)))) pss_nil)
      (pss_cons (ps_if (pt_cmpR op_eq (pv 2) (pe_op op_xor (pv 3) pe_int) (nomark _)) (pss_one (ps_ret (pe_meth (pv 0) PK.cls Munlike Gunlike (hr.mono (by omega)) bunlike .nil pass0 (pa_cons (pv 1) (pa_cons (pv 3) pa_nil))))) pss_nil)
      (pss_cons (ps_if (pt_cmpR op_eq (pv 2) (pe_glob (v := .int 0) (u := .int 0 t_NO) (by rfl) c_NO ⟨t_NO, rfl⟩) (nomark _)) (pss_one (ps_ret (pe_meth (pv 0) PK.cls Mboth Gboth (hr.mono (by omega)) bboth .nil pass0 (pa_cons (pe_op op_xor (pv 1) pe_int) (pa_cons (pv 3) pa_nil))))) pss_nil)
      (pss_cons (ps_if (pt_cmpR op_eq (pv 2) (pe_glob (v := .int 1) (u := .int 1 t_YES) (by rfl) c_YES ⟨t_YES, rfl⟩) (nomark _)) (pss_one (ps_ret (pe_meth (pv 0) PK.cls Meither Geither (hr.mono (by omega)) beither .nil pass0 (pa_cons (pv 1) (pa_cons (pv 3) pa_nil))))) pss_nil)
      (pss_cons (ps_if (pt_cmpR op_eq (pv 3) (pe_glob (v := .int 0) (u := .int 0 t_NO) (by rfl) c_NO ⟨t_NO, rfl⟩) (nomark _)) (pss_one (ps_ret (pe_meth (pv 0) PK.cls Mboth Gboth (hr.mono (by omega)) bboth .nil pass0 (pa_cons (pv 1) (pa_cons (pv 2) pa_nil))))) pss_nil)
      (pss_cons (ps_if (pt_cmpR op_eq (pv 3) (pe_glob (v := .int 1) (u := .int 1 t_YES) (by rfl) c_YES ⟨t_YES, rfl⟩) (nomark _)) (pss_one (ps_ret (pe_meth (pv 0) PK.cls Meither Geither (hr.mono (by omega)) beither .nil pass0 (pa_cons (pe_op op_xor (pv 1) pe_int) (pa_cons (pv 2) pa_nil))))) pss_nil)
      (pss_cons (ps_set (i := 4) sc_Pool_chosen.nd rfl (Or.inl rfl) (pe_op op_and (pv 2) pe_int))
      (pss_one (ps_ret (pe_op op_xor (pe_meth (pv 0) PK.cls Mliteral_of Gliteral_of (hr.mono (by omega)) bliteral_of .nil pass0 (pa_cons (pe_tup (pa_cons pe_str (pa_cons (pv 1) (pa_cons (pe_op op_xor (pv 2) (pv 4)) (pa_cons (pe_op op_xor (pv 3) (pv 4)) pa_nil))))) pa_nil)) (pv 4)))))))))))))), ?_⟩
    refine ⟨fun σ' H' => H' = H ∧ ∃ c x y, σ' = [some (.ref p), some (.int c), some (.int x), some (.int y), none] ∧ okL gs c ∧ okL gs x ∧ okL gs y ∧ c % 2 = 0 ∧ Res P w K C p G D' gs H 1 (fun env => fC (litv (bitsOf env gs) c) (litv (bitsOf env gs) x) (litv (bitsOf env gs) y)) Q, ?_, ?_⟩
    · refine ⟨_, rfl, _, _, rfl, rfl, _, rfl, ite2 (fun c => ?_) (fun c => ?_)⟩
      · refine ⟨_, rfl, _, _, rfl, rfl, _, rfl, _, rfl, _, _, _, rfl, rfl, _, _, _, rfl, okL_xor1 hc0, hy0, hx0, even_x c, q0.imp fun env he => ?_⟩
        show fC _ _ _ = fC _ _ _
        rw [litv_xor1 hc0.1]
        have := lb env c0 he
        unfold fC
        split <;> split <;> omega
      · exact ⟨rfl, _, _, _, rfl, hc0, hx0, hy0, even_c c, q0⟩
    · rintro σ' H1 ⟨e0, c, x, y, rfl, hc, hx, hy, hce, q⟩
      subst e0
      refine ⟨_, rfl, rfl, _, rfl, ite2 (fun b => ?_) (fun b1 => ?_)⟩
      · have e : c = 0 := int_of b
        refine iteT ?_
        exact ⟨_, rfl, q.here A0 hy fun env he => by
          show _ = fC _ _ _
          rw [e, no env]
          rfl⟩
      refine ⟨_, rfl, _, rfl, rfl, _, rfl, ite2 (fun b => ?_) (fun b2 => ?_)⟩
      · have e : x = y := int_of b
        exact ⟨_, rfl, q.here A0 hy fun env he => by
          show _ = fC _ _ _
          rw [e]
          unfold fC
          split <;> rfl⟩
      refine ⟨fun σ' H' => H' = H1 ∧ ∃ x', σ' = [some (.ref p), some (.int c), some (.int x'), some (.int y), none] ∧ okL gs x' ∧ (x' = 0 ∨ x' = 1 ∨ (x' = x ∧ x / 2 ≠ c / 2)) ∧ Res P w K C p G D' gs H1 1 (fun env => fC (litv (bitsOf env gs) c) (litv (bitsOf env gs) x') (litv (bitsOf env gs) y)) Q, ?_, ?_⟩
      · refine ⟨_, rfl, _, _, rfl, rfl, (by show (0 : Int) ≤ 1; decide), _, rfl, _, _, rfl, rfl, (by show (0 : Int) ≤ 1; decide), rfl, _, rfl, ite2 (fun b => ?_) (fun b => ?_)⟩
        · have e : x / 2 = c / 2 := int_of b
          refine ⟨_, rfl, _, rfl, _, _, rfl, rfl, _, _, rfl, rfl, rfl, _, rfl, ?_, ?_, ?_⟩
          · rw [xor_half hx.1 hc.1 e]
            split
            · exact okyes
            · exact okno
          · rw [xor_half hx.1 hc.1 e]
            split
            · exact .inr (.inl rfl)
            · exact .inl rfl
          · refine q.imp fun env he => ?_
            show fC _ (litv _ (Builtin.bitXor (Builtin.bitXor x c) 1)) _ = fC _ _ _
            rw [xor_half hx.1 hc.1 e]
            by_cases h : x = c
            · rw [if_pos h, h, show Builtin.bitXor 0 1 = 1 from rfl, yes env]
              unfold fC
              split
              · omega
              · rfl
            · have ex : x = Builtin.bitXor c 1 := by rw [xor1]; split <;> omega
              rw [if_neg h, ex, litv_xor1 hc.1, show Builtin.bitXor 1 1 = 0 from rfl, no env]
              unfold fC
              split
              · omega
              · rfl
        · exact ⟨rfl, _, rfl, hx, .inr (.inr ⟨rfl, fun e => b (is_int e)⟩), q⟩
      rintro σ' H2 ⟨e0, x', rfl, hx', hxc, q⟩
      subst e0
      have hxne : ¬ x = y := fun e => b2 (is_int e)
      obtain ⟨xo, hxo⟩ : ∃ xo, xo = x := ⟨_, rfl⟩
      rw [← hxo] at hxne hxc
      clear hxo hx
      have hx := hx'
      clear hx'
      obtain ⟨x, hxq⟩ : ∃ z, z = x' := ⟨_, rfl⟩
      subst hxq
      refine ⟨fun σ' H' => H' = H2 ∧ ∃ y', σ' = [some (.ref p), some (.int c), some (.int x), some (.int y'), none] ∧ okL gs y' ∧ (y' = 0 ∨ y' = 1 ∨ (y' = y ∧ y / 2 ≠ c / 2)) ∧ Res P w K C p G D' gs H2 1 (fun env => fC (litv (bitsOf env gs) c) (litv (bitsOf env gs) x) (litv (bitsOf env gs) y')) Q, ?_, ?_⟩
      · refine ⟨_, rfl, _, _, rfl, rfl, (by show (0 : Int) ≤ 1; decide), _, rfl, _, _, rfl, rfl, (by show (0 : Int) ≤ 1; decide), rfl, _, rfl, ite2 (fun b => ?_) (fun b => ?_)⟩
        · have e : y / 2 = c / 2 := int_of b
          refine ⟨_, rfl, _, rfl, _, _, rfl, rfl, rfl, _, rfl, ?_, ?_, ?_⟩
          · rw [xor_half hy.1 hc.1 e]
            split
            · exact okno
            · exact okyes
          · rw [xor_half hy.1 hc.1 e]
            split
            · exact .inl rfl
            · exact .inr (.inl rfl)
          · refine q.imp fun env he => ?_
            show fC _ _ (litv _ (Builtin.bitXor y c)) = fC _ _ _
            rw [xor_half hy.1 hc.1 e]
            have := lb env c he
            by_cases h : y = c
            · rw [if_pos h, h, no env]
              unfold fC
              split
              · rfl
              · omega
            · have ex : y = Builtin.bitXor c 1 := by rw [xor1]; split <;> omega
              rw [if_neg h, ex, litv_xor1 hc.1, yes env]
              unfold fC
              split
              · rfl
              · omega
        · exact ⟨rfl, _, rfl, hy, .inr (.inr ⟨rfl, fun e => b (is_int e)⟩), q⟩
      rintro σ' H3 ⟨e0, y', rfl, hy', hyc, q⟩
      subst e0
      obtain ⟨yo, hyo⟩ : ∃ yo, yo = y := ⟨_, rfl⟩
      rw [← hyo] at hxne hyc
      clear hyo hy
      have hy := hy'
      clear hy'
      obtain ⟨y, hyq⟩ : ∃ z, z = y' := ⟨_, rfl⟩
      subst hyq
      refine ⟨_, rfl, _, rfl, _, _, rfl, rfl, rfl, _, rfl, ite2 (fun b => ?_) (fun b3 => ?_)⟩
      · have e : x = Builtin.bitXor y 1 := int_of b
        refine ⟨_, rfl, p, dx, _, rfl, h1, meth (by decide +kernel) (by decide +kernel), _, rfl, _, rfl, p, G, D', gs, _, _, rfl, A0, hc, hy, hl, q.imp fun env he => ?_⟩
        show fU _ _ = fC _ _ _
        rw [e, litv_xor1 hy.1]
        have := lb env c he
        have := lb env y he
        unfold fU fC
        split <;> split <;> omega
      refine ⟨_, rfl, rfl, _, rfl, ite2 (fun b => ?_) (fun b4 => ?_)⟩
      · have e : x = 0 := int_of b
        refine ⟨_, rfl, p, dx, _, rfl, h1, meth (by decide +kernel) (by decide +kernel), _, rfl, _, _, rfl, rfl, _, rfl, p, G, D', gs, _, _, rfl, A0, okL_xor1 hc, hy, hl, q.imp fun env he => ?_⟩
        show fB _ _ = fC _ _ _
        rw [e, no env, litv_xor1 hc.1]
        have := lb env c he
        have := lb env y he
        unfold fB fC
        split <;> split <;> omega
      refine ⟨_, rfl, rfl, _, rfl, ite2 (fun b => ?_) (fun b5 => ?_)⟩
      · have e : x = 1 := int_of b
        refine ⟨_, rfl, p, dx, _, rfl, h1, meth (by decide +kernel) (by decide +kernel), _, rfl, _, rfl, p, G, D', gs, _, _, rfl, A0, hc, hy, hl, q.imp fun env he => ?_⟩
        show fE _ _ = fC _ _ _
        rw [e, yes env]
        have := lb env c he
        have := lb env y he
        unfold fE fC
        split <;> split <;> omega
      refine ⟨_, rfl, rfl, _, rfl, ite2 (fun b => ?_) (fun b6 => ?_)⟩
      · have e : y = 0 := int_of b
        refine ⟨_, rfl, p, dx, _, rfl, h1, meth (by decide +kernel) (by decide +kernel), _, rfl, _, rfl, p, G, D', gs, _, _, rfl, A0, hc, hx, hl, q.imp fun env he => ?_⟩
        show fB _ _ = fC _ _ _
        rw [e, no env]
        have := lb env c he
        have := lb env x he
        unfold fB fC
        split <;> split <;> omega
      refine ⟨_, rfl, rfl, _, rfl, ite2 (fun b => ?_) (fun b7 => ?_)⟩
      · have e : y = 1 := int_of b
        refine ⟨_, rfl, p, dx, _, rfl, h1, meth (by decide +kernel) (by decide +kernel), _, rfl, _, _, rfl, rfl, _, rfl, p, G, D', gs, _, _, rfl, A0, okL_xor1 hc, hx, hl, q.imp fun env he => ?_⟩
        show fE _ _ = fC _ _ _
        rw [e, yes env, litv_xor1 hc.1]
        have := lb env c he
        have := lb env x he
        unfold fE fC
        split <;> split <;> omega
      refine ⟨_, rfl, _, _, rfl, rfl, ?_⟩
      have ht : Builtin.bitAnd x 1 = 0 ∨ Builtin.bitAnd x 1 = 1 := by rw [bitAnd_m1]; omega
      refine ⟨_, rfl, p, dx, _, rfl, h1, meth (by decide +kernel) (by decide +kernel), _, rfl, _, rfl, _, rfl, _, _, rfl, rfl, _, rfl, _, rfl, _, _, rfl, rfl, by show 4 ≤ sizeLine; decide, fun g hg => ?_⟩
      have hneat : (Gt.chosen c (Builtin.bitXor x (Builtin.bitAnd x 1)) (Builtin.bitXor y (Builtin.bitAnd x 1))).Neat := by
        have x0 : ¬ x = 0 := fun e => b4 (is_int e)
        have x1' : ¬ x = 1 := fun e => b5 (is_int e)
        have y0' : ¬ y = 0 := fun e => b6 (is_int e)
        have y1' : ¬ y = 1 := fun e => b7 (is_int e)
        have b3' : ¬ x = Builtin.bitXor y 1 := fun e => b3 (is_int e)
        rw [xor1] at b3'
        have c0' : ¬ c = 0 := fun e => b1 (is_int e)
        obtain ⟨rfl, hxc⟩ : x = xo ∧ xo / 2 ≠ c / 2 := by
          rcases hxc with e | e | e
          · exact absurd e x0
          · exact absurd e x1'
          · exact e
        obtain ⟨rfl, hyc⟩ : y = yo ∧ yo / 2 ≠ c / 2 := by
          rcases hyc with e | e | e
          · exact absurd e y0'
          · exact absurd e y1'
          · exact e
        refine ne3 c0' hce hc.1 hx.1 hy.1 (.inr (.inr hxc)) (.inr (.inr hyc)) x0 x1' y0' y1' ?_ ht
        split at b3' <;> omega
      have sn := same_new hg (.tup [.str "chosen", .int c, .int (Builtin.bitXor x (Builtin.bitAnd x 1)), .int (Builtin.bitXor y (Builtin.bitAnd x 1))])
      refine ⟨p, G, D', g, gs, .chosen c (Builtin.bitXor x (Builtin.bitAnd x 1)) (Builtin.bitXor y (Builtin.bitAnd x 1)), rfl, A0.same sn, .tup (SqT.of upd_same) (.cons (.str _) (.cons (.int _) (.cons (.int _) (.cons (.int _) .nil)))), chosen_depth _ _ _, (by intro z; cases z), (fun m e => by cases e), (fun z hz => ?_), hneat, by omega, fun H4 gs' j A1 hb hp hle hj => ?_⟩
      · rcases List.mem_cons.mp hz with e | hz
        · rw [e]; exact hc
        · rcases List.mem_cons.mp hz with e | hz
          · rw [e]; exact okL_xort hx ht
          · rw [List.mem_singleton.mp hz]; exact okL_xort hy ht
      · refine ⟨_, rfl, _, _, rfl, rfl, q H4 gs' _ A1 ((But.of_same sn).trans hb) hp ⟨hle.1, noBits_of hle.2 (by intro n z; cases z)⟩ (okL_xort (okL_gate hj) ht) fun env he => ?_⟩
        rw [litv_xort (by omega) ht, lit_gate A1.ok hj env]
        show (if Builtin.bitAnd x 1 = 0 then (if litv (bitsOf env gs') c = 1 then litv (bitsOf env gs') (Builtin.bitXor x (Builtin.bitAnd x 1)) else litv (bitsOf env gs') (Builtin.bitXor y (Builtin.bitAnd x 1))) else 1 - (if litv (bitsOf env gs') c = 1 then litv (bitsOf env gs') (Builtin.bitXor x (Builtin.bitAnd x 1)) else litv (bitsOf env gs') (Builtin.bitXor y (Builtin.bitAnd x 1)))) = fC _ _ _
        rw [litv_xort hx.1 ht, litv_xort hy.1 ht, litv_pre hc hp, litv_pre hx hp, litv_pre hy hp]
        unfold fC
        rcases ht with h | h <;> rw [h]
        · rw [if_pos rfl, if_pos rfl, if_pos rfl]
        · have n1 : ¬ (1 : Int) = 0 := by decide
          rw [if_neg n1, if_neg n1, if_neg n1]
          split <;> omega
end
end My

set_option Elab.async false
set_option maxRecDepth 100000
set_option maxHeartbeats 4000000
set_option linter.all false
namespace My
open PySem PySem.Spec PyProof.Rows L2
theorem RelO.getD' {o : Option V} {p : Option Value} {d : V} {r : Value} (h : RelO o p) (hd : RelV d r) : RelV (o.getD d) (p.getD r) := h.getD hd
/-- d.get(k, x) -/
def tGetN (P : Program) (w : World) (K : PySem.W.Frag) (td ty tx : TE) : TE := fun σ H Q => td σ H fun x H1 => ∃ (a : Addr) (xs : NRows), x = .ref a ∧ DN P w K H1 a xs ∧ ty σ H1 fun y H2 => tx σ H2 fun z H3 => ∃ (b : Addr) (k : NK) (xs : NRows), y = .ref b ∧ Dp K H3 (.ref b) k.data ∧ k.depth ≤ 8 ∧ DN P w K H3 a xs ∧ Q ((valN xs k).getD z) H3
section
variable {X : Cx} {o e f : Expr} {apos cpos : Pos} {td ty tx : TE}
theorem pe_getN (hu : X.A.units + 65 < cLine) (ho : PE X o td) (he : PE X e ty) (hf : PE X f tx) (m : M2 X o "get" apos e f cpos) : PE X (.Call (.Attribute o "get" apos) [e, f] [] cpos) (tGetN X.prog X.w X.K td ty tx) := by
  refine ⟨fun pins s σ H Q I h => ?_⟩
  refine wpAny_Call_method m.base m.few m.line PySem.F.plainAttrs_dict PySem.F.slot_dict_get PySem.F.type_dict_get (thn (ho.run pins s σ H _ I h) fun u s1 ⟨x, H1, I1, rx, a, xs, ex, D1, q1⟩ => ?_)
  subst ex
  obtain rfl : u = Value.ref a := rx
  obtain ⟨hd1, vs1, r1, dd1⟩ := dn_of I1 D1
  refine ⟨dd1.typeIs, fun b q => ?_, ?_⟩
  · cases q
    obtain ⟨ob, _, _, h1, h2, _⟩ := dd1
    exact ⟨ob, h1, h2.2.1⟩
  rw [m.trees]
  refine Calls.callWith_builtin rfl (Calls.evalArgs_plain (Calls.spliced_cons (thn (he.run pins s1 σ H1 _ I1 q1) fun iv s2 ⟨y, H2, I2, ry, q2⟩ =>
    Calls.spliced_cons (thn (hf.run pins s2 σ H2 _ I2 q2) fun fv s3 ⟨z, H3, I3, rz, b, k, ys, ey, hk, h8, D3, q3⟩ => Calls.spliced_nil ?_))))
  subst ey
  obtain rfl : iv = Value.ref b := ry
  obtain ⟨hd, vs, r, dd⟩ := dn_of I3 D3
  refine call_meetsIn PySem.F.slot_dict_get dd.typeIs PySem.F.entry_dict_get (PySem.F.args_dict_get_3 _ _ _) (meetsH_dict_get_default (nestedKind X.prog X.w) a b hd fv) ⟨(by show X.A.units + 1 + 8 < cLine; omega), k, vs, ⟨dp_nested I3 k _ _ hk rfl, h8⟩, dd, ?_⟩
  exact ⟨_, H3, I3.tok _, RelO.getD' (nrel_val r) rz, q3⟩
end
end My


set_option Elab.async false
set_option maxRecDepth 100000
set_option maxHeartbeats 4000000
set_option linter.all false
namespace My
open PySem L2 PyProof.Rows
open C8 (pss_cut)
def envOf (rows : NRows) : Bits := fun n => match valN rows n with
  | some (.int b) => b
  | _ => 0
structure BitsAt (P : Program) (w : World) (K : PySem.W.Frag) (H : Hp) (a : Addr) (rows : NRows) : Prop where
  dn : DN P w K H a rows
  bit : ∀ x ∈ rows, ∃ b, x.2.2 = .int b ∧ (b = 0 ∨ b = 1)
theorem envOf_bit {P : Program} {w : World} {K : PySem.W.Frag} {H : Hp} {a : Addr} {rows : NRows} (h : BitsAt P w K H a rows) : bitEnv (envOf rows) := fun n => by
  unfold envOf
  cases e : valN rows n with
  | none => exact .inl rfl
  | some v =>
    obtain ⟨x, hx, _, ev⟩ := valN_some e
    obtain ⟨b, eb, hb⟩ := h.bit x hx
    rw [← ev, eb]
    exact hb
theorem envOf_get {P : Program} {w : World} {K : PySem.W.Frag} {H : Hp} {a : Addr} {rows : NRows} (h : BitsAt P w K H a rows) (n : NK) : (valN rows n).getD (.int 0) = .int (envOf rows n) := by
  unfold envOf
  cases e : valN rows n with
  | none => rfl
  | some v =>
    obtain ⟨x, hx, _, ev⟩ := valN_some e
    obtain ⟨b, eb, hb⟩ := h.bit x hx
    rw [← ev, eb]
    rfl
def kindS : Gt → Str
  | .no => "no"
  | .bit _ => "bit"
  | .both _ _ => "both"
  | .unlike _ _ => "unlike"
  | .chosen _ _ _ => "chosen"
  | .most _ _ _ => "most"
def Gt.isBit : Gt → Bool
  | .bit _ => true
  | _ => false
theorem dp_nil {K : PySem.W.Frag} {H : Hp} {vs : List V} (h : DpAll K H vs []) : vs = [] := by cases h; rfl
theorem gt_seq {K : PySem.W.Frag} {H : Hp} {t : Addr} : ∀ {g : Gt}, g.isBit = false → Dp K H (.ref t) g.nk.data → SqT K H t (.str (kindS g) :: g.parts.map V.int) := by
  have hints : ∀ (zs : List Int) (vs : List V), DpAll K H vs (NestedKey.datas (zs.map NestedKey.num)) → vs = zs.map V.int := by
    intro zs
    induction zs with
    | nil => intro vs h; exact dp_nil h
    | cons z zs ih =>
      intro vs h
      cases h with
      | cons h1 h2 =>
        cases h1
        rw [ih _ h2]
        rfl
  have gen : ∀ (x : Str) (zs : List Int), Dp K H (.ref t) (NestedKey.data (.tup (.text x :: zs.map NestedKey.num))) → SqT K H t (.str x :: zs.map V.int) := by
    intro x zs h
    cases h with
    | tup hs ha =>
      cases ha with
      | cons h1 h2 =>
        cases h1
        rw [← hints zs _ h2]
        exact hs
  intro g hg h
  cases g with
  | bit n => cases hg
  | no => exact gen "no" [] h
  | both x y => exact gen "both" [x, y] h
  | unlike x y => exact gen "unlike" [x, y] h
  | chosen c x y => exact gen "chosen" [c, x, y] h
  | most x y z => exact gen "most" [x, y, z] h
theorem bit_seq {K : PySem.W.Frag} {H : Hp} {t : Addr} {n : NK} (h : Dp K H (.ref t) (Gt.bit n).nk.data) : ∃ v, SqT K H t [.str "bit", v] ∧ Dp K H v n.data := by
  cases (show Dp K H (.ref t) (.tuple [.str "bit", n.data]) from h) with
  | tup hs ha =>
    cases ha with
    | cons h1 h2 =>
      cases h1
      cases h2 with
      | cons h3 h4 =>
        cases h4
        exact ⟨_, hs, h3⟩
theorem at0' {α : Type} {x : α} {xs : List α} : atI (x :: xs) 0 = some x := atI_nat (j := 0) rfl
theorem hu_of {k : Nat} {A : Around} (hr : Room k A) : A.units + 1 < cLine := by
  have := room65 hr
  omega
theorem cut_from1 (xs : List V) : cutV xs (some 1) none = xs.drop 1 := by
  unfold cutV
  rw [HT.sIx_none]
  have e1 : HT.sIx xs.length 0 (some 1) = min 1 xs.length := by
    show (if (1 : Int) < 0 then ((1 : Int) + (xs.length : Int)).toNat else min (1 : Int).toNat xs.length) = min 1 xs.length
    rw [if_neg (by decide)] <;> rfl
  rw [e1]
  by_cases h : 1 ≤ xs.length
  · rw [Nat.min_eq_left h, List.take_of_length_le (by rw [List.length_drop]; exact Nat.le_refl _)]
  · have h0 : xs = [] := List.length_eq_zero_iff.mp (by omega)
    rw [h0]
    rfl
theorem not_whole (x : V) (xs : List V) (hi : Option Int) : ¬ (HT.sIx (x :: xs).length 0 (some 1) = 0 ∧ HT.sIx (x :: xs).length (x :: xs).length hi = (x :: xs).length) := fun h => by
  have e1 : HT.sIx (x :: xs).length 0 (some 1) = min 1 (x :: xs).length := by
    show (if (1 : Int) < 0 then ((1 : Int) + ((x :: xs).length : Int)).toNat else min (1 : Int).toNat (x :: xs).length) = min 1 (x :: xs).length
    rw [if_neg (by decide)] <;> rfl
  rw [e1, List.length_cons] at h
  omega
theorem getD_bit {bs : List Int} (h : ∀ b ∈ bs, b = 0 ∨ b = 1) (i : Nat) : bs.getD i 0 = 0 ∨ bs.getD i 0 = 1 := by
  rw [List.getD_eq_getElem?_getD]
  cases e : bs[i]? with
  | none => exact .inl rfl
  | some b => exact h b (List.mem_of_getElem? e)
theorem litv_xor {bs : List Int} (h : ∀ b ∈ bs, b = 0 ∨ b = 1) (x : Int) : Builtin.bitXor (bs.getD (x / 2).toNat 0) (Builtin.bitAnd x 1) = litv bs x := by
  rw [bitAnd_m1]
  unfold litv
  have hb := getD_bit h (x / 2).toNat
  by_cases e : x % 2 = 0
  · rw [e, if_pos rfl, bitXor_zero]
  · rw [if_neg e, show x % 2 = 1 by omega, xor1]
    rcases hb with b | b <;> rw [b] <;> decide
def litV (bs : List Int) : V → V
  | .int x => .int (litv bs x)
  | v => v
theorem litV_map (bs : List Int) (xs : List Int) : (xs.map V.int).map (litV bs) = (xs.map (litv bs)).map V.int := by
  rw [List.map_map, List.map_map]
  rfl
theorem kind_no {g : Gt} (h : g.isBit = false) : ¬ (decide (V.str (kindS g) = V.str "bit") = true) := by
  cases g with
  | bit n => cases h
  | no => show ¬ (decide (V.str "no" = V.str "bit") = true); decide +kernel
  | both x y => show ¬ (decide (V.str "both" = V.str "bit") = true); decide +kernel
  | unlike x y => show ¬ (decide (V.str "unlike" = V.str "bit") = true); decide +kernel
  | chosen c x y => show ¬ (decide (V.str "chosen" = V.str "bit") = true); decide +kernel
  | most x y z => show ¬ (decide (V.str "most" = V.str "bit") = true); decide +kernel
theorem xor_bits {a b : Int} (ha : a = 0 ∨ a = 1) (hb : b = 0 ∨ b = 1) : Builtin.bitXor a b = if a = b then 0 else 1 := by
  rcases ha with rfl | rfl <;> rcases hb with rfl | rfl <;> decide +kernel
/-- the bits of the parts are known -/
def FoundAt (H : Hp) (F : Addr) (kvs : List (Key × V)) (bs : List Int) (xs : List Int) : Prop := H F = some (.dK kvs) ∧ ∀ x ∈ xs, 0 ≤ x ∧ valV kvs (.inl (x / 2)) = some (.int (bs.getD (x / 2).toNat 0))
def spGV (P : Program) (w : World) (K : PySem.W.Frag) : Sp := fun vs H Q _ => ∃ (t F a : Addr) (g : Gt) (kvs : List (Key × V)) (bs : List Int) (rows : NRows), vs = [.ref t, .ref F, .ref a] ∧ Dp K H (.ref t) g.nk.data ∧ g.nk.depth ≤ 8 ∧ (∀ n, g = .bit n → ∃ ks, n = NestedKey.tup ks) ∧ FoundAt H F kvs bs g.parts ∧ (∀ b ∈ bs, b = 0 ∨ b = 1) ∧ BitsAt P w K H a rows ∧ ∀ H', Same H H' → Q (.int (g.val (envOf rows) bs)) H'
section
variable {P : Program} {w : World} {K : PySem.W.Frag} {mg : Str → Option Value} {base : Heap} {f C : Addr} {fd : FuncData}
theorem ok_gate_value (T : Txt K mg) (D : Def K mg "gate_value" ["gate", "found", "bits"] s_gate_value f fd) : Own P w K mg base "gate_value" ["gate", "found", "bits"] 1 (spGV P w K) := by
  refine ⟨f, fd, D.mg, D.fn.kp, D.bd, D.fn.ok sc_gate_value (fun vs H Q E h => ?_) (fun cdv A outer s H vs Q E hr h => ?_)⟩
  · obtain ⟨t, F, a, g, kvs, bs, rows, rfl, _⟩ := h
    rfl
  · obtain ⟨t, F, a, g, kvs, bs, rows, rfl, ht, h8, hnm, hF, hbs, hB, q⟩ := h
    have hu := hu_of hr
    refine ⟨_, (pss_cons (ps_set (i := 3) sc_gate_value.nd rfl (Or.inl rfl) (pe_ix ix_tup (pv 0) pe_int (fun _ _ => rfl)))
      (pss_cons (ps_if (pt_cmpR op_eq (pv 3) pe_str (nomark _)) (pss_one (ps_ret (pe_getN (room65 hr) (pv 2) (pe_ix ix_tup (pv 0) pe_int (fun _ _ => rfl)) pe_int ⟨rfl, rfl, rfl, rfl⟩))) pss_nil)
      (pss_cons (ps_setLc (i := 4) (own := [("x", 5)]) (g := gName 5) (tt := tYes) rfl sc_gate_value.nd rfl rfl (sw_true rfl rfl rfl (by decide +kernel)) (pi_tup (pe_slice sl_tup (pv 0) (po_some pe_int) po_none)) (blkOk_by (N := N_gate_value) (sc := defScope s_gate_value) (own := [("x", 5)]) (by decide +kernel)) (fun _ _ _ _ _ => (pg_name (i := 5) sc_gate_value.nd rfl (Or.inl rfl))) (fun _ _ _ _ _ => pts_nil) (fun _ _ _ _ _ => (pe_op op_xor (pe_dget hu (pv 1) (pe_op op_shr (pv 5) pe_int) (fun _ _ => rfl)) (pe_op op_and (pv 5) pe_int))))
      (pss_cons (ps_if (pt_cmpR op_eq (pv 3) pe_str (nomark _)) (pss_one (ps_ret (pe_op op_xor (pe_ix ix_list (pv 4) pe_int (fun _ _ => rfl)) (pe_ix ix_list (pv 4) pe_int (fun _ _ => rfl))))) pss_nil)
      (pss_cons (ps_if (pt_cmpR op_eq (pv 3) pe_str (nomark _)) (pss_one (ps_ret (pe_ifExp (pt_cmpR op_eq (pe_ix ix_list (pv 4) pe_int (fun _ _ => rfl)) pe_int (nomark _)) (pe_ix ix_list (pv 4) pe_int (fun _ _ => rfl)) (pe_ix ix_list (pv 4) pe_int (fun _ _ => rfl))))) pss_nil)
      (pss_one (ps_ret (pe_ifExp (pt_cmpR op_ge (pe_callB (cr_sum rfl) (by rfl) T.m_sum (by decide +kernel) (pa_cons (pv 4) pa_nil)) pe_int (nomark _)) pe_int pe_int)))))))), ?_⟩
    cases hb : g.isBit with
    | true =>
      obtain ⟨n, rfl⟩ : ∃ n, g = .bit n := by
        cases g with
        | bit n => exact ⟨n, rfl⟩
        | _ => cases hb
      obtain ⟨v, hs, hv⟩ := bit_seq ht
      obtain ⟨ks, rfl⟩ := hnm n rfl
      obtain ⟨b, rfl⟩ : ∃ b, v = .ref b := by cases hv; exact ⟨_, rfl⟩
      refine ⟨_, rfl, t, _, _, _, rfl, rfl, hs, rfl, ?_⟩
      refine ⟨_, rfl, rfl, _, rfl, ite2 (fun _ => ?_) (fun c => absurd (decide_eq_true rfl) c)⟩
      refine ⟨_, rfl, a, rows, rfl, hB.dn, _, rfl, t, _, _, _, rfl, rfl, hs, rfl, b, _, rows, rfl, hv, ?_, hB.dn, ?_⟩
      · simp only [Gt.nk, NestedKey.depth, NestedKey.depthAll] at h8 ⊢
        omega
      · rw [envOf_get hB]
        exact q H (Same.refl _)
    | false =>
      have hs := gt_seq hb ht
      refine ⟨_, rfl, t, _, _, _, rfl, rfl, hs, at0', ?_⟩
      refine ⟨_, rfl, rfl, _, rfl, ite2 (fun c => absurd c (kind_no hb)) (fun _ => ?_)⟩
      refine ⟨_, rfl, _, rfl, t, _, rfl, hs, not_whole _ _ _, fun p hp => ?_⟩
      rw [cut_from1]
      have s1 := same_new hp (.tup ((V.str (kindS g) :: g.parts.map V.int).drop 1))
      have hlen : ((V.str (kindS g) :: g.parts.map V.int).drop 1).length ≤ 1000 := by
        show (g.parts.map V.int).length ≤ 1000
        rw [List.length_map]
        cases g <;> (simp only [Gt.parts, List.length_cons, List.length_nil]; omega)
      refine ⟨p, rfl, ⟨_, SqT.of upd_same⟩, fun D1 hD1 => lc_mapT (litV bs) (SqT.of upd_same) hlen hD1 (fun _ => rfl) (fun y H2 R hy s2 r => ?_) fun H1 h1 s2 => ?_⟩
      · obtain ⟨x, hx, rfl⟩ := List.mem_map.mp (show y ∈ g.parts.map V.int from hy)
        obtain ⟨x0, hv⟩ := hF.2 x hx
        have hF2 := s2 _ _ (s1 _ _ hF.1)
        refine ⟨_, rfl, _, rfl, _, _, rfl, rfl, (by show (0 : Int) ≤ 1; decide), F, _, rfl, (by rw [← hv]; show DGet H2 F (V.int (x / 2)) _; exact DGet.k (k := .inl (x / 2)) hF2), _, rfl, _, _, rfl, rfl, _, _, rfl, rfl, ?_⟩
        show R (V.int (Builtin.bitXor (bs.getD (x / 2).toNat 0) (Builtin.bitAnd x 1))) H2
        rw [litv_xor hbs]
        exact r
      · rw [show (V.str (kindS g) :: g.parts.map V.int).drop 1 = g.parts.map V.int from rfl, litV_map] at h1
        have sA := s1.trans s2
        have lb := fun x => litv_bit hbs x
        have h1L := SqL.of (K := K) h1
        cases g with
        | bit n => cases hb
        | no =>
          refine ⟨_, rfl, rfl, _, rfl, ite2 (fun c => absurd c (by show ¬ (decide (V.str "no" = V.str "unlike") = true); decide +kernel)) (fun _ => ?_)⟩
          refine ⟨_, rfl, rfl, _, rfl, ite2 (fun c => absurd c (by show ¬ (decide (V.str "no" = V.str "chosen") = true); decide +kernel)) (fun _ => ?_)⟩
          exact ⟨_, rfl, D1, _, rfl, h1L, _, _, rfl, rfl, _, rfl, q H1 sA⟩
        | both x y =>
          refine ⟨_, rfl, rfl, _, rfl, ite2 (fun c => absurd c (by show ¬ (decide (V.str "both" = V.str "unlike") = true); decide +kernel)) (fun _ => ?_)⟩
          refine ⟨_, rfl, rfl, _, rfl, ite2 (fun c => absurd c (by show ¬ (decide (V.str "both" = V.str "chosen") = true); decide +kernel)) (fun _ => ?_)⟩
          refine ⟨_, rfl, D1, _, rfl, h1L, _, _, rfl, rfl, _, rfl, ?_⟩
          have hq := q H1 sA
          have e : Gt.val (envOf rows) bs (.both x y) = if litv bs x + litv bs y ≥ 2 then 1 else 0 := rfl
          rw [e] at hq
          refine ite2 (fun c => ?_) (fun c => ?_)
          · have c : (2 : Int) ≤ litv bs x + (litv bs y + 0) := of_decide_eq_true c
            rw [if_pos (by omega)] at hq
            exact hq
          · rw [if_neg (fun z => c (decide_eq_true (by show (2 : Int) ≤ litv bs x + (litv bs y + 0); omega)))] at hq
            exact hq
        | unlike x y =>
          refine ⟨_, rfl, rfl, _, rfl, ite2 (fun _ => ?_) (fun c => absurd (decide_eq_true rfl) c)⟩
          refine ⟨_, rfl, D1, _, _, _, rfl, rfl, h1L, rfl, _, rfl, D1, _, _, _, rfl, rfl, h1L, rfl, _, _, rfl, rfl, ?_⟩
          have hq := q H1 sA
          have e : Gt.val (envOf rows) bs (.unlike x y) = Builtin.bitXor (litv bs x) (litv bs y) := by
            rw [xor_bits (lb x) (lb y)]
            rfl
          rw [e] at hq
          exact hq
        | chosen c x y =>
          refine ⟨_, rfl, rfl, _, rfl, ite2 (fun c => absurd c (by show ¬ (decide (V.str "chosen" = V.str "unlike") = true); decide +kernel)) (fun _ => ?_)⟩
          refine ⟨_, rfl, rfl, _, rfl, ite2 (fun _ => ?_) (fun c => absurd (decide_eq_true rfl) c)⟩
          have hq := q H1 sA
          have e : Gt.val (envOf rows) bs (.chosen c x y) = if litv bs c = 1 then litv bs x else litv bs y := rfl
          rw [e] at hq
          refine ⟨_, rfl, D1, _, _, _, rfl, rfl, h1L, rfl, rfl, _, rfl, ite2 (fun b => ?_) (fun b => ?_)⟩
          · rw [if_pos (int_of b)] at hq
            exact ⟨_, rfl, D1, _, _, _, rfl, rfl, h1L, rfl, hq⟩
          · rw [if_neg (fun z => b (decide_eq_true (by rw [z])))] at hq
            exact ⟨_, rfl, D1, _, _, _, rfl, rfl, h1L, rfl, hq⟩
        | most x y z =>
          refine ⟨_, rfl, rfl, _, rfl, ite2 (fun c => absurd c (by show ¬ (decide (V.str "most" = V.str "unlike") = true); decide +kernel)) (fun _ => ?_)⟩
          refine ⟨_, rfl, rfl, _, rfl, ite2 (fun c => absurd c (by show ¬ (decide (V.str "most" = V.str "chosen") = true); decide +kernel)) (fun _ => ?_)⟩
          refine ⟨_, rfl, D1, _, rfl, h1L, _, _, rfl, rfl, _, rfl, ?_⟩
          have hq := q H1 sA
          have e : Gt.val (envOf rows) bs (.most x y z) = if litv bs x + litv bs y + litv bs z ≥ 2 then 1 else 0 := rfl
          rw [e] at hq
          refine ite2 (fun c => ?_) (fun c => ?_)
          · have c : (2 : Int) ≤ litv bs x + (litv bs y + (litv bs z + 0)) := of_decide_eq_true c
            rw [if_pos (by omega)] at hq
            exact hq
          · rw [if_neg (fun e => c (decide_eq_true (by show (2 : Int) ≤ litv bs x + (litv bs y + (litv bs z + 0)); omega)))] at hq
            exact hq
end
end My

set_option Elab.async false
set_option maxRecDepth 100000
set_option maxHeartbeats 4000000
set_option linter.all false
/-! A literal's clauses: what they say. -/
namespace My
open PySem PySem.Spec PyProof.Rows L2
def numY (ys : List Int) (y : Int) : Int := (ys.idxOf y : Int) + 1
def sgn (ys : List Int) (x : Int) : Int := if x % 2 = 0 then numY ys (x / 2) else -numY ys (x / 2)
theorem numY_pos (ys : List Int) (y : Int) : 1 ≤ numY ys y := by unfold numY; omega
theorem numY_le {ys : List Int} {y : Int} (h : y ∈ ys) : numY ys y ≤ ys.length := by
  have := List.idxOf_lt_length_of_mem h
  unfold numY
  omega
theorem numY_inj {ys : List Int} {y z : Int} (hy : y ∈ ys) (hz : z ∈ ys) (h : numY ys y = numY ys z) : y = z := by
  have e : ys.idxOf y = ys.idxOf z := by unfold numY at h; omega
  have h1 : ys[ys.idxOf y]'(List.idxOf_lt_length_of_mem hy) = y := List.getElem_idxOf _
  have h2 : ys[ys.idxOf z]'(List.idxOf_lt_length_of_mem hz) = z := List.getElem_idxOf _
  rw [← h1, ← h2]
  congr 1
theorem sgn_ne (ys : List Int) (x : Int) : sgn ys x ≠ 0 := by
  have := numY_pos ys (x / 2)
  unfold sgn
  split <;> omega
def rawG : Gt → Int → List Int → List (List Int)
  | .both _ _, v, [x, y] => [[x, -v], [y, -v], [-x, -y, v]]
  | .unlike _ _, v, [x, y] => [[x, y, -v], [-x, -y, -v], [-x, y, v], [x, -y, v]]
  | .chosen _ _ _, v, [c, x, y] => [[-c, -x, v], [-c, x, -v], [c, -y, v], [c, y, -v], [-x, -y, v], [x, y, -v]]
  | .most _ _ _, v, [x, y, z] => [[-x, -y, v], [-x, -z, v], [-y, -z, v], [x, y, -v], [x, z, -v], [y, z, -v]]
  | _, _, _ => []
theorem keeps_nil {A : Int → Bool} : MC.Keeps A [] := fun c h => nomatch h
theorem keeps_cons {A : Int → Bool} {c : List Int} {cs : List (List Int)} : MC.Keeps A (c :: cs) ↔ (∃ x ∈ c, MC.lit A x = true) ∧ MC.Keeps A cs :=
  ⟨fun h => ⟨h c (.head _), fun d hd => h d (.tail _ hd)⟩, fun ⟨h1, h2⟩ d hd => by
    rcases List.mem_cons.mp hd with e | e
    · rw [e]; exact h1
    · exact h2 d e⟩
theorem keeps_app {A : Int → Bool} {cs ds : List (List Int)} : MC.Keeps A (cs ++ ds) ↔ MC.Keeps A cs ∧ MC.Keeps A ds :=
  ⟨fun h => ⟨fun c hc => h c (List.mem_append_left _ hc), fun c hc => h c (List.mem_append_right _ hc)⟩, fun ⟨h1, h2⟩ c hc => (List.mem_append.mp hc).elim (h1 c) (h2 c)⟩
theorem ex1 {A : Int → Bool} {a : Int} : (∃ x ∈ [a], MC.lit A x = true) ↔ MC.lit A a = true := by simp
theorem ex2 {A : Int → Bool} {a b : Int} : (∃ x ∈ [a, b], MC.lit A x = true) ↔ (MC.lit A a || MC.lit A b) = true := by simp
theorem ex3 {A : Int → Bool} {a b c : Int} : (∃ x ∈ [a, b, c], MC.lit A x = true) ↔ (MC.lit A a || MC.lit A b || MC.lit A c) = true := by simp [or_assoc]
theorem keeps_both {A : Int → Bool} {x y v : Int} (hx : x ≠ 0) (hy : y ≠ 0) (hv : v ≠ 0) : MC.Keeps A [[x, -v], [y, -v], [-x, -y, v]] ↔ MC.lit A v = (MC.lit A x && MC.lit A y) := by
  simp only [keeps_cons, ex2, ex3, MC.lit_neg hx, MC.lit_neg hy, MC.lit_neg hv]
  generalize MC.lit A x = a
  generalize MC.lit A y = b
  generalize MC.lit A v = c
  have := @keeps_nil A
  cases a <;> cases b <;> cases c <;> simp [this]
theorem keeps_unlike {A : Int → Bool} {x y v : Int} (hx : x ≠ 0) (hy : y ≠ 0) (hv : v ≠ 0) : MC.Keeps A [[x, y, -v], [-x, -y, -v], [-x, y, v], [x, -y, v]] ↔ MC.lit A v = (MC.lit A x != MC.lit A y) := by
  simp only [keeps_cons, ex2, ex3, MC.lit_neg hx, MC.lit_neg hy, MC.lit_neg hv]
  generalize MC.lit A x = a
  generalize MC.lit A y = b
  generalize MC.lit A v = c
  have := @keeps_nil A
  cases a <;> cases b <;> cases c <;> simp [this]
theorem keeps_chosen {A : Int → Bool} {c x y v : Int} (hc : c ≠ 0) (hx : x ≠ 0) (hy : y ≠ 0) (hv : v ≠ 0) : MC.Keeps A [[-c, -x, v], [-c, x, -v], [c, -y, v], [c, y, -v], [-x, -y, v], [x, y, -v]] ↔ MC.lit A v = (if MC.lit A c = true then MC.lit A x else MC.lit A y) := by
  simp only [keeps_cons, ex2, ex3, MC.lit_neg hx, MC.lit_neg hy, MC.lit_neg hv, MC.lit_neg hc]
  generalize MC.lit A x = a
  generalize MC.lit A y = b
  generalize MC.lit A v = u
  generalize MC.lit A c = d
  have := @keeps_nil A
  cases a <;> cases b <;> cases u <;> cases d <;> simp [this]
theorem keeps_most {A : Int → Bool} {x y z v : Int} (hx : x ≠ 0) (hy : y ≠ 0) (hz : z ≠ 0) (hv : v ≠ 0) : MC.Keeps A [[-x, -y, v], [-x, -z, v], [-y, -z, v], [x, y, -v], [x, z, -v], [y, z, -v]] ↔ MC.lit A v = (MC.lit A x && MC.lit A y || MC.lit A x && MC.lit A z || MC.lit A y && MC.lit A z) := by
  simp only [keeps_cons, ex2, ex3, MC.lit_neg hx, MC.lit_neg hy, MC.lit_neg hv, MC.lit_neg hz]
  generalize MC.lit A x = a
  generalize MC.lit A y = b
  generalize MC.lit A v = u
  generalize MC.lit A z = d
  have := @keeps_nil A
  cases a <;> cases b <;> cases u <;> cases d <;> simp [this]
/-- a literal's item is true where the literal is 1 -/
def Agree (A : Int → Bool) (ys : List Int) (bs : List Int) (y : Int) : Prop := A (numY ys y) = decide (bs.getD y.toNat 0 = 1)
theorem lit_num {A : Int → Bool} {ys : List Int} {y : Int} : MC.lit A (numY ys y) = A (numY ys y) := by
  have := numY_pos ys y
  unfold MC.lit
  rw [if_pos (by omega)]
theorem lit_sgn {A : Int → Bool} {ys bs : List Int} (hb : ∀ b ∈ bs, b = 0 ∨ b = 1) {x : Int} (h : Agree A ys bs (x / 2)) : MC.lit A (sgn ys x) = decide (litv bs x = 1) := by
  unfold sgn litv
  have hp := numY_pos ys (x / 2)
  have g : bs.getD (x / 2).toNat 0 = 0 ∨ bs.getD (x / 2).toNat 0 = 1 := by
    rw [List.getD_eq_getElem?_getD]
    cases e : bs[(x / 2).toNat]? with
    | none => exact .inl rfl
    | some b => exact hb b (List.mem_of_getElem? e)
  by_cases e : x % 2 = 0
  · rw [if_pos e, if_pos e, lit_num]
    exact h
  · rw [if_neg e, if_neg e, MC.lit_neg (by omega), lit_num, h]
    rcases g with g | g <;> rw [g] <;> decide
def Gt.plain : Gt → Bool
  | .no => false
  | .bit _ => false
  | _ => true
theorem keeps_gate {A : Int → Bool} {ys bs : List Int} {env : Bits} (hb : ∀ b ∈ bs, b = 0 ∨ b = 1) {g : Gt} (hg : g.plain = true) {y : Int} (hp : ∀ z ∈ g.parts, Agree A ys bs (z / 2)) : MC.Keeps A (rawG g (numY ys y) (g.parts.map (sgn ys))) ↔ A (numY ys y) = decide (g.val env bs = 1) := by
  have hv : numY ys y ≠ 0 := by have := numY_pos ys y; omega
  have lb : ∀ x, litv bs x = 0 ∨ litv bs x = 1 := fun x => litv_bit hb x
  cases g with
  | no => cases hg
  | bit n => cases hg
  | both a b =>
    show MC.Keeps A [[sgn ys a, -numY ys y], [sgn ys b, -numY ys y], [-sgn ys a, -sgn ys b, numY ys y]] ↔ A (numY ys y) = decide ((if litv bs a + litv bs b ≥ 2 then (1 : Int) else 0) = 1)
    rw [keeps_both (sgn_ne _ _) (sgn_ne _ _) hv, lit_num, lit_sgn hb (hp a (.head _)), lit_sgn hb (hp b (.tail _ (.head _)))]
    rcases lb a with e | e <;> rcases lb b with e' | e' <;> rw [e, e'] <;> simp
  | unlike a b =>
    show MC.Keeps A [[sgn ys a, sgn ys b, -numY ys y], [-sgn ys a, -sgn ys b, -numY ys y], [-sgn ys a, sgn ys b, numY ys y], [sgn ys a, -sgn ys b, numY ys y]] ↔ A (numY ys y) = decide ((if litv bs a = litv bs b then (0 : Int) else 1) = 1)
    rw [keeps_unlike (sgn_ne _ _) (sgn_ne _ _) hv, lit_num, lit_sgn hb (hp a (.head _)), lit_sgn hb (hp b (.tail _ (.head _)))]
    rcases lb a with e | e <;> rcases lb b with e' | e' <;> rw [e, e'] <;> simp
  | chosen c a b =>
    show MC.Keeps A [[-sgn ys c, -sgn ys a, numY ys y], [-sgn ys c, sgn ys a, -numY ys y], [sgn ys c, -sgn ys b, numY ys y], [sgn ys c, sgn ys b, -numY ys y], [-sgn ys a, -sgn ys b, numY ys y], [sgn ys a, sgn ys b, -numY ys y]] ↔ A (numY ys y) = decide ((if litv bs c = 1 then litv bs a else litv bs b) = 1)
    rw [keeps_chosen (sgn_ne _ _) (sgn_ne _ _) (sgn_ne _ _) hv, lit_num, lit_sgn hb (hp c (.head _)), lit_sgn hb (hp a (.tail _ (.head _))), lit_sgn hb (hp b (.tail _ (.tail _ (.head _))))]
    rcases lb c with e0 | e0 <;> rcases lb a with e | e <;> rcases lb b with e' | e' <;> rw [e0, e, e'] <;> simp
  | most a b c =>
    show MC.Keeps A [[-sgn ys a, -sgn ys b, numY ys y], [-sgn ys a, -sgn ys c, numY ys y], [-sgn ys b, -sgn ys c, numY ys y], [sgn ys a, sgn ys b, -numY ys y], [sgn ys a, sgn ys c, -numY ys y], [sgn ys b, sgn ys c, -numY ys y]] ↔ A (numY ys y) = decide ((if litv bs a + litv bs b + litv bs c ≥ 2 then (1 : Int) else 0) = 1)
    rw [keeps_most (sgn_ne _ _) (sgn_ne _ _) (sgn_ne _ _) hv, lit_num, lit_sgn hb (hp a (.head _)), lit_sgn hb (hp b (.tail _ (.head _))), lit_sgn hb (hp c (.tail _ (.tail _ (.head _))))]
    rcases lb c with e0 | e0 <;> rcases lb a with e | e <;> rcases lb b with e' | e' <;> rw [e0, e, e'] <;> simp
/-- the clauses of a gate, before each is sorted -/
def rawY (gs : List Gt) (ys : List Int) (y : Int) : List (List Int) :=
  match gs[y.toNat]? with
  | some g => rawG g (numY ys y) (g.parts.map (sgn ys))
  | none => []
def rawOf (gs : List Gt) (ys zs : List Int) : List (List Int) := zs.flatMap (rawY gs ys)
def nmsOf (gs : List Gt) (ys zs : List Int) : List (NK × Int) := zs.filterMap fun (y : Int) => match (gs[y.toNat]? : Option Gt) with
  | some (Gt.bit n) => some (n, numY ys y)
  | _ => none
theorem mem_nms {gs : List Gt} {ys zs : List Int} {n : NK} {v : Int} : (n, v) ∈ nmsOf gs ys zs ↔ ∃ y ∈ zs, gs[y.toNat]? = some (.bit n) ∧ v = numY ys y := by
  unfold nmsOf
  rw [List.mem_filterMap]
  constructor
  · rintro ⟨y, hy, e⟩
    refine ⟨y, hy, ?_⟩
    split at e
    · rename_i m hm
      cases e
      exact ⟨hm, rfl⟩
    · cases e
  · rintro ⟨y, hy, e, rfl⟩
    exact ⟨y, hy, by rw [e]⟩
theorem agree_all {A : Int → Bool} {gs : List Gt} {ys : List Int} {env : Bits} {x : Int} (hk : okGs gs) (he : bitEnv env) (C : Cone gs [x] ys) (h1 : ∀ y ∈ ys, 1 ≤ y) (nd : (gs.map Gt.nk).Nodup)
    (hraw : MC.Keeps A (rawOf gs ys ys)) (hn : ∀ n v, (n, v) ∈ nmsOf gs ys ys → (A v = true ↔ env n = 1)) : ∀ (k : Nat) (y : Int), y.toNat = k → y ∈ ys → Agree A ys (bitsOf env gs) y := by
  intro k
  induction k using Nat.strongRecOn with
  | ind k ih =>
    intro y hyk hy
    have ry := C.rng y hy
    obtain ⟨g, hg⟩ : ∃ g, gs[y.toNat]? = some g := ⟨gs[y.toNat]'(by omega), List.getElem?_eq_getElem (by omega)⟩
    have hv := bits_at (env := env) gs hk y.toNat g hg
    have hb := bits_bit he gs
    unfold Agree
    rw [hv]
    cases hpl : g.plain with
    | true =>
      refine (keeps_gate hb hpl fun z hz => ?_).1 fun c hc => hraw c (List.mem_flatMap.mpr ⟨y, hy, ?_⟩)
      · have hp := hk.parts y.toNat g hg z hz
        exact ih (z / 2).toNat (by omega) (z / 2) rfl (C.cl y hy g hg z hz)
      · unfold rawY
        rw [hg]
        exact hc
    | false =>
      cases g with
      | bit n =>
        have := hn n (numY ys y) (mem_nms.2 ⟨y, hy, hg, rfl⟩)
        show A (numY ys y) = decide (env n = 1)
        by_cases e : env n = 1
        · rw [decide_eq_true e, this.2 e]
        · rw [decide_eq_false e]
          cases e2 : A (numY ys y) with
          | false => rfl
          | true => exact absurd (this.1 e2) e
      | no =>
        exfalso
        have h0 := hk.first
        have := h1 y hy
        have e1 : (gs.map Gt.nk)[y.toNat]? = some Gt.no.nk := by rw [List.getElem?_map, hg]; rfl
        have e2 : (gs.map Gt.nk)[0]? = some Gt.no.nk := by rw [List.getElem?_map, h0]; rfl
        have := (List.getElem?_inj (by have := (List.getElem?_eq_some_iff.mp e1).1; omega) nd).mp (e1.trans e2.symm)
        omega
      | both a b => cases hpl
      | unlike a b => cases hpl
      | chosen a b c => cases hpl
      | most a b c => cases hpl
theorem ts_iff {gs : List Gt} {ys : List Int} {env : Bits} {x : Int} (hk : okGs gs) (he : bitEnv env) (C : Cone gs [x] ys) (h1 : ∀ y ∈ ys, 1 ≤ y) (nd : (gs.map Gt.nk).Nodup) :
    (∃ A, MC.Keeps A (rawOf gs ys ys ++ [[sgn ys x]]) ∧ ∀ n v, (n, v) ∈ nmsOf gs ys ys → (A v = true ↔ env n = 1)) ↔ litv (bitsOf env gs) x = 1 := by
  have hb := bits_bit he gs
  have hx := C.has x (List.mem_singleton_self x)
  constructor
  · rintro ⟨A, hA, hn⟩
    obtain ⟨h2, h3⟩ := keeps_app.1 hA
    have ag := agree_all hk he C h1 nd h2 hn _ _ rfl hx
    have := ex1.1 (keeps_cons.1 h3).1
    rw [lit_sgn hb ag] at this
    exact of_decide_eq_true this
  · intro hl
    have ex : ∀ y ∈ ys, ys.getD (numY ys y - 1).toNat 0 = y := fun y hy => by
      have hi := List.idxOf_lt_length_of_mem hy
      rw [show (numY ys y - 1).toNat = ys.idxOf y by unfold numY; omega, List.getD_eq_getElem?_getD, List.getElem?_eq_getElem hi]
      exact List.getElem_idxOf hi
    obtain ⟨A, hA⟩ : ∃ A : Int → Bool, A = fun v => decide ((bitsOf env gs).getD (ys.getD (v - 1).toNat 0).toNat 0 = 1) := ⟨_, rfl⟩
    have ag : ∀ y ∈ ys, Agree A ys (bitsOf env gs) y := fun y hy => by
      unfold Agree
      rw [hA]
      dsimp only
      rw [ex y hy]
    refine ⟨A, keeps_app.2 ⟨fun c hc => ?_, keeps_cons.2 ⟨ex1.2 ?_, keeps_nil⟩⟩, fun n v hm => ?_⟩
    · obtain ⟨y, hy, hc⟩ := List.mem_flatMap.mp hc
      unfold rawY at hc
      cases hg : gs[y.toNat]? with
      | none => rw [hg] at hc; cases hc
      | some g =>
        rw [hg] at hc
        cases hpl : g.plain with
        | true =>
          refine (keeps_gate (env := env) hb hpl fun z hz => ag _ (C.cl y hy g hg z hz)).2 ?_ c hc
          rw [← bits_at gs hk y.toNat g hg]
          exact ag y hy
        | false =>
          cases g with
          | no => cases hc
          | bit n => cases hc
          | both a b => cases hpl
          | unlike a b => cases hpl
          | chosen a b c => cases hpl
          | most a b c => cases hpl
    · rw [lit_sgn hb (ag _ hx)]
      exact decide_eq_true hl
    · obtain ⟨y, hy, hg, rfl⟩ := mem_nms.1 hm
      have := ag y hy
      unfold Agree at this
      rw [bits_at gs hk y.toNat _ hg] at this
      rw [this]
      show decide (env n = 1) = true ↔ env n = 1
      simp
end My

set_option Elab.async false
set_option maxRecDepth 100000
set_option maxHeartbeats 4000000
set_option linter.all false
/-! Clauses as data. -/
namespace My
open PySem PySem.Spec PyProof.Rows L2
def ab (z : Int) : Int := if z < 0 then -z else z
theorem ab_neg (z : Int) : ab (-z) = ab z := by
  unfold ab
  split <;> split <;> omega
theorem ab_eq {x y : Int} (h : ab x = ab y) : x = y ∨ x = -y := by
  unfold ab at h
  split at h <;> split at h <;> omega
def clD (c : List Int) : PyData := .tuple (c.map PyData.int)
/-- a tuple more -/
theorem row_add {K : PySem.W.Frag} {H : Hp} {us : List V} {ds : List PyData} {t : Addr} {c : List Int} (A : DpAll K H us ds) (ht : H t = none) : DpAll K (upd H t (.tup (c.map V.int))) (us ++ [.ref t]) (ds ++ [clD c]) :=
  dpa_app (dpa_mono (same_new ht _) _ A) (dpa_one (.tup (SqT.of upd_same) (ints_all _)))
def SortedAs (raw c : List Int) : Prop := c.Perm raw ∧ c.Pairwise fun x y => ab x ≤ ab y
inductive All2 {α β : Type} (R : α → β → Prop) : List α → List β → Prop where
  | nil : All2 R [] []
  | cons {a b as bs} : R a b → All2 R as bs → All2 R (a :: as) (b :: bs)
theorem All2.app {α β : Type} {R : α → β → Prop} {as as' : List α} {bs bs' : List β} (h : All2 R as bs) (k : All2 R as' bs') : All2 R (as ++ as') (bs ++ bs') := by
  induction h with
  | nil => exact k
  | cons h _ ih => exact .cons h ih
theorem All2.len {α β : Type} {R : α → β → Prop} {as : List α} {bs : List β} (h : All2 R as bs) : as.length = bs.length := by
  induction h with
  | nil => rfl
  | cons _ _ ih => rw [List.length_cons, List.length_cons, ih]
theorem All2.mem {α β : Type} {R : α → β → Prop} {as : List α} {bs : List β} (h : All2 R as bs) {b : β} (hb : b ∈ bs) : ∃ a ∈ as, R a b := by
  induction h with
  | nil => cases hb
  | cons h _ ih =>
    rcases List.mem_cons.mp hb with e | e
    · exact ⟨_, List.mem_cons_self, by rw [e]; exact h⟩
    · obtain ⟨a, ha, r⟩ := ih e
      exact ⟨a, List.mem_cons_of_mem _ ha, r⟩
theorem All2.memL {α β : Type} {R : α → β → Prop} {as : List α} {bs : List β} (h : All2 R as bs) {a : α} (ha : a ∈ as) : ∃ b ∈ bs, R a b := by
  induction h with
  | nil => cases ha
  | cons h _ ih =>
    rcases List.mem_cons.mp ha with e | e
    · exact ⟨_, List.mem_cons_self, by rw [e]; exact h⟩
    · obtain ⟨b, hb, r⟩ := ih e
      exact ⟨b, List.mem_cons_of_mem _ hb, r⟩
theorem mapK_val {f : Int → V} {ys : List Int} {k : Int} (h : k ∈ ys) : valV (ys.map fun y => ((Sum.inl y : Key), f y)) (.inl k) = some (f k) := by
  induction ys with
  | nil => cases h
  | cons y ys ih =>
    unfold valV at *
    rw [List.map_cons]
    by_cases e : y = k
    · rw [List.find?_cons_of_pos (by simp [e]), e]
      rfl
    · rw [List.find?_cons_of_neg (by simp [e])]
      exact ih ((List.mem_cons.mp h).resolve_left fun z => e z.symm)
theorem mapK_no {f : Int → V} {ys : List Int} {k : Int} (h : k ∉ ys) : valV (ys.map fun y => ((Sum.inl y : Key), f y)) (.inl k) = none := by
  induction ys with
  | nil => rfl
  | cons y ys ih =>
    unfold valV at *
    rw [List.map_cons, List.find?_cons_of_neg (by simp; exact fun e => h (by rw [e]; exact List.mem_cons_self))]
    exact ih fun m => h (List.mem_cons_of_mem _ m)
theorem mapK_put {f : Int → V} {ys : List Int} {k : Int} (h : k ∉ ys) : putK (ys.map fun y => ((Sum.inl y : Key), f y)) (.inl k) (f k) = (ys ++ [k]).map fun y => ((Sum.inl y : Key), f y) := by
  have e := mapK_no (f := f) h
  unfold putK
  rw [valV_any, e, List.map_append]
  rfl
def numK (ys : List Int) : List (Key × V) := ys.map fun y => (Sum.inl y, V.int (numY ys y))
theorem num_val {ys : List Int} {k : Int} (h : k ∈ ys) : valV (numK ys) (.inl k) = some (.int (numY ys k)) := mapK_val h
theorem truth1 (x : Int) : (!decide (Builtin.bitAnd x 1 = 0)) = decide (x % 2 ≠ 0) := by
  rw [bitAnd_m1]
  by_cases h : x % 2 = 0 <;> simp [h]
theorem ints_of {K : PySem.W.Frag} {H : Hp} : ∀ {c : List Int} {us : List V}, DpAll K H us (c.map PyData.int) → us = c.map V.int
  | [], _, .nil => rfl
  | x :: c, _, .cons a b => by
    cases dp_int a
    rw [ints_of b] <;> rfl
theorem dpa_atC {K : PySem.W.Frag} {H : Hp} {xs : List V} {cs : List (List Int)} {i : Nat} {v : V} (h : DpAll K H xs (cs.map clD)) (e : xs[i]? = some v) : ∃ c t, cs[i]? = some c ∧ v = .ref t ∧ SqT K H t (c.map V.int) := by
  obtain ⟨d, hd, hv⟩ := dpa_get h e
  rw [List.getElem?_map] at hd
  cases hc : cs[i]? with
  | none => rw [hc] at hd; cases hd
  | some c =>
    rw [hc] at hd
    obtain rfl := Option.some.inj hd
    obtain ⟨t, us, rfl, ht, hts⟩ := dp_tup (show Dp K H v (.tuple (c.map PyData.int)) from hv)
    rw [ints_of hts] at ht
    exact ⟨c, t, rfl, rfl, ht⟩
end My

set_option Elab.async false
set_option maxRecDepth 100000
set_option maxHeartbeats 4000000
set_option linter.all false
/-! Helpers of the clauses' laws. -/
namespace My
open PySem L2
theorem take_filter {α : Type} {c : List α} {i : Nat} {x : α} {p : α → Bool} (h : c[i]? = some x) : (c.take (i + 1)).filter p = (c.take i).filter p ++ (if p x = true then [x] else []) := by
  rw [take_next h, List.filter_append, List.filter_cons, List.filter_nil]
theorem filt_tup {K : PySem.W.Frag} {a : Addr} {c : List Int} {k : Nat} {tt : TT} {vs : List Nat} {σ : L2.St} {H1 : Hp} {D : Addr} {Qd : Hp → Prop} (p : Int → Bool) (ha : SqT K H1 a (c.map V.int)) (hl : c.length ≤ 100) (hD : H1 D = none) (hw : ∀ x, wipe ((wipe σ vs).set k (some (V.int x))) vs = wipe σ vs)
    (hv : ∀ x H2 (R : VK), R (.int x) H2 → tVar k ((wipe σ vs).set k (some (V.int x))) H2 R) (ht : ∀ x H2 (R : Bool → Hp → Prop), x ∈ c → Same H1 H2 → R (p x) H2 → tt ((wipe σ vs).set k (some (V.int x))) H2 R)
    (hq : ∀ H2, H2 D = some (.lst ((c.filter p).map V.int)) → Same H1 H2 → Qd H2) :
    ∃ W : Nat → Nat → Hp → Prop, (∃ m, W 0 m (upd H1 D (.lst []))) ∧ ∀ i m H, W i m H →
      ((Itt K a).stop i H ∧ Qd H) ∨ ((Itt K a).go i H ∧ ∃ Nx : Hp → Prop, (∀ H', Nx H' → ∃ m', m' < m ∧ W (i + 1) m' H') ∧ ∀ x H', (Itt K a).yld i H x H' → gName k x (wipe σ vs) H' fun σ2 H2 => wipe σ2 vs = wipe σ vs ∧ tt σ2 H2 fun b H3 =>
        if b = true then tVar k σ2 H3 fun y H4 => ∃ acc, H4 D = some (.lst acc) ∧ acc.length < sizeLine ∧ Nx (upd H4 D (.lst (acc ++ [y]))) else Nx H3) := by
  refine lc_tup (K := K) (a := a) (xs := c.map V.int) (fun i H2 => H2 D = some (.lst (((c.take i).filter p).map V.int)) ∧ Same H1 H2 ∧ i ≤ c.length) ⟨upd_same, same_new hD _, Nat.zero_le _⟩ (fun i H2 _ ⟨_, s, _⟩ => sqt_mono s ha) ?_ ?_
  · rintro i y H2 hi ⟨h1, s, _⟩
    obtain ⟨x, rfl, hx⟩ := map_at hi
    have hi' : i < c.length := (List.getElem?_eq_some_iff.mp hx).1
    refine ⟨hw x, ht x H2 _ (List.mem_of_getElem? hx) s ?_⟩
    cases hp : p x with
    | false =>
      rw [if_neg (by decide)]
      exact ⟨by rw [take_filter hx, hp]; simpa using h1, s, hi'⟩
    | true =>
      rw [if_pos rfl]
      refine hv x H2 _ ⟨_, h1, ?_, ?_, fun b o hb => ?_, hi'⟩
      · have := List.length_filter_le p (c.take i)
        rw [List.length_take] at this
        rw [List.length_map]
        exact small1000 (by omega)
      · rw [upd_same, take_filter hx, hp, if_pos rfl, List.map_append] <;> rfl
      · rw [upd_ne (ne_of_none hb hD)]
        exact s b o hb
  · rintro H2 ⟨h1, s, _⟩
    rw [List.length_map, List.take_length] at h1
    exact hq H2 h1 s
theorem filt_list {K : PySem.W.Frag} {a : Addr} {c : List Int} {k : Nat} {tt : TT} {vs : List Nat} {σ : L2.St} {H1 : Hp} {D : Addr} {Qd : Hp → Prop} (p : Int → Bool) (ha : SqL K H1 a (c.map V.int)) (hl : c.length ≤ 100) (hD : H1 D = none) (hw : ∀ x, wipe ((wipe σ vs).set k (some (V.int x))) vs = wipe σ vs)
    (hv : ∀ x H2 (R : VK), R (.int x) H2 → tVar k ((wipe σ vs).set k (some (V.int x))) H2 R) (ht : ∀ x H2 (R : Bool → Hp → Prop), x ∈ c → Same H1 H2 → R (p x) H2 → tt ((wipe σ vs).set k (some (V.int x))) H2 R)
    (hq : ∀ H2, H2 D = some (.lst ((c.filter p).map V.int)) → Same H1 H2 → Qd H2) :
    ∃ W : Nat → Nat → Hp → Prop, (∃ m, W 0 m (upd H1 D (.lst []))) ∧ ∀ i m H, W i m H →
      ((Itl K a).stop i H ∧ Qd H) ∨ ((Itl K a).go i H ∧ ∃ Nx : Hp → Prop, (∀ H', Nx H' → ∃ m', m' < m ∧ W (i + 1) m' H') ∧ ∀ x H', (Itl K a).yld i H x H' → gName k x (wipe σ vs) H' fun σ2 H2 => wipe σ2 vs = wipe σ vs ∧ tt σ2 H2 fun b H3 =>
        if b = true then tVar k σ2 H3 fun y H4 => ∃ acc, H4 D = some (.lst acc) ∧ acc.length < sizeLine ∧ Nx (upd H4 D (.lst (acc ++ [y]))) else Nx H3) := by
  refine lc_list (K := K) (a := a) (xs := c.map V.int) (fun i H2 => H2 D = some (.lst (((c.take i).filter p).map V.int)) ∧ Same H1 H2 ∧ i ≤ c.length) ⟨upd_same, same_new hD _, Nat.zero_le _⟩ (fun i H2 _ ⟨_, s, _⟩ => sql_mono s ha) ?_ ?_
  · rintro i y H2 hi ⟨h1, s, _⟩
    obtain ⟨x, rfl, hx⟩ := map_at hi
    have hi' : i < c.length := (List.getElem?_eq_some_iff.mp hx).1
    refine ⟨hw x, ht x H2 _ (List.mem_of_getElem? hx) s ?_⟩
    cases hp : p x with
    | false =>
      rw [if_neg (by decide)]
      exact ⟨by rw [take_filter hx, hp]; simpa using h1, s, hi'⟩
    | true =>
      rw [if_pos rfl]
      refine hv x H2 _ ⟨_, h1, ?_, ?_, fun b o hb => ?_, hi'⟩
      · have := List.length_filter_le p (c.take i)
        rw [List.length_take] at this
        rw [List.length_map]
        exact small1000 (by omega)
      · rw [upd_same, take_filter hx, hp, if_pos rfl, List.map_append] <;> rfl
      · rw [upd_ne (ne_of_none hb hD)]
        exact s b o hb
  · rintro H2 ⟨h1, s, _⟩
    rw [List.length_map, List.take_length] at h1
    exact hq H2 h1 s
theorem lay_ints : ∀ c : List Int, PyData.canLayAll0 (c.map PyData.int) = true
  | [] => rfl
  | x :: c => by
    rw [List.map_cons]
    simp only [PyData.canLayAll0, PyData.canLay0, Bool.true_and]
    exact lay_ints c
theorem dep_ints : ∀ c : List Int, PyData.depthAll (c.map PyData.int) = 0
  | [] => rfl
  | x :: c => by
    rw [List.map_cons]
    simp only [PyData.depthAll, PyData.depth]
    rw [dep_ints c]
    rfl
theorem shp_ints (c : List Int) : SeqAt.shaped (.list (c.map PyData.int)) = true := by
  show (PyData.canLay0 (.list (c.map PyData.int)) && decide (PyData.depth (.list (c.map PyData.int)) ≤ 64)) = true
  simp only [PyData.canLay0, PyData.depth, dep_ints, lay_ints]
  rfl
theorem shp_intsT (c : List Int) : SeqAt.shaped (.tuple (c.map PyData.int)) = true := by
  show (PyData.canLay0 (.tuple (c.map PyData.int)) && decide (PyData.depth (.tuple (c.map PyData.int)) ≤ 64)) = true
  simp only [PyData.canLay0, PyData.depth, dep_ints, lay_ints]
  rfl
theorem eqv_nilI (c : List Int) : PyData.eqv (.list (c.map PyData.int)) (.list []) = decide (c = []) := by
  cases c with
  | nil => rfl
  | cons a r => rfl
end My


set_option Elab.async false
set_option maxRecDepth 100000
set_option maxHeartbeats 4000000
set_option linter.all false
namespace My
open PySem L2
open C8 (pss_cut)
def lsD (c : List Int) : PyData := .list (c.map PyData.int)
/-- a clause as a tuple or as a list -/
def gcD (b : Bool) (c : List Int) : PyData := if b = true then clD c else lsD c
theorem dpa_atG {K : PySem.W.Frag} {H : Hp} {xs : List V} {b : Bool} {cs : List (List Int)} {i : Nat} {v : V} (h : DpAll K H xs (cs.map (gcD b))) (e : xs[i]? = some v) : ∃ c t, cs[i]? = some c ∧ v = .ref t ∧ (SqL K H t (c.map V.int) ∨ SqT K H t (c.map V.int)) := by
  obtain ⟨d, hd, hv⟩ := dpa_get h e
  rw [List.getElem?_map] at hd
  cases hc : cs[i]? with
  | none => rw [hc] at hd; cases hd
  | some c =>
    rw [hc] at hd
    obtain rfl := Option.some.inj hd
    cases b with
    | true =>
      obtain ⟨t, us, rfl, ht, hts⟩ := dp_tup (show Dp K H v (.tuple (c.map PyData.int)) from hv)
      rw [ints_of hts] at ht
      exact ⟨c, t, rfl, rfl, .inr ht⟩
    | false =>
      obtain ⟨t, us, rfl, ht, hts⟩ := dp_lst (show Dp K H v (.list (c.map PyData.int)) from hv)
      rw [ints_of hts] at ht
      exact ⟨c, t, rfl, rfl, .inl ht⟩
theorem less_snoc (cs : List (List Int)) (c : List Int) (l : Int) : MC.less (cs ++ [c]) l = MC.less cs l ++ (if l ∈ c then [] else [MC.rest l c]) := by
  unfold MC.less
  rw [List.filter_append, List.map_append]
  by_cases h : l ∈ c
  · rw [if_pos h, List.filter_cons_of_neg (by simpa using h)] <;> rfl
  · rw [if_neg h, List.filter_cons_of_pos (by simpa using h)] <;> rfl
theorem less_len (cs : List (List Int)) (l : Int) : (MC.less cs l).length ≤ cs.length := by
  unfold MC.less
  rw [List.length_map]
  exact List.length_filter_le _ _
theorem ne_is (x l : Int) : (!decide (V.int x = V.int (-l))) = decide (x ≠ -l) := by
  by_cases h : x = -l
  · rw [decide_eq_true (by rw [h]), decide_eq_false (fun n => n h)] <;> rfl
  · rw [decide_eq_false (fun e => h (V.int.inj e)), decide_eq_true h] <;> rfl
def spLess (K : PySem.W.Frag) : Sp := fun vs H Q _ => ∃ (a : Addr) (l : Int) (xs : List V) (b : Bool) (cs : List (List Int)), vs = [.ref a, .int l] ∧ SqL K H a xs ∧ DpAll K H xs (cs.map (gcD b)) ∧ (∀ c ∈ cs, c.length ≤ 100) ∧ cs.length ≤ 100000 ∧
  (MC.Bare cs l → ∀ H', Same H H' → Q .non H') ∧ (¬ MC.Bare cs l → ∀ p ys H', Same H H' → SqL K H' p ys → DpAll K H' ys ((MC.less cs l).map (gcD false)) → Q (.ref p) H')
section
variable {P : Program} {w : World} {K : PySem.W.Frag} {mg : Str → Option Value} {base : Heap} {f : Addr} {fd : FuncData}
theorem ok__law_less (T : Txt K mg) (D : Def K mg "_law_less" ["clauses", "literal"] s__law_less f fd) : Own P w K mg base "_law_less" ["clauses", "literal"] 1 (spLess K) := by
  refine ⟨f, fd, D.mg, D.fn.kp, D.bd, D.fn.ok sc__law_less (fun vs H Q E h => ?_) (fun cdv A outer s H vs Q E hr h => ?_)⟩
  · obtain ⟨a, l, xs, b, cs, rfl, _⟩ := h
    rfl
  · obtain ⟨a, l, xs, b, cs, rfl, hS, hA, hcl, hlen, qb, q⟩ := h
    have hxl : xs.length = cs.length := by rw [dpa_len hA, List.length_map]
    refine ⟨_, (pss_cons (ps_set (i := 2) sc__law_less.nd rfl (Or.inl rfl) (pe_lst pa_nil))
      (pss_cons (ps_for PassesOwn.never rfl (pi_list (pv 0)) (pg_name (i := 3) sc__law_less.nd rfl (Or.inl rfl)) (pss_one (ps_if (pt_cmpR op_notIn_seq (pv 1) (pv 3) (by rfl)) (pss_cons (ps_setLc (i := 4) (own := [("x", 5)]) (g := gName 5) rfl sc__law_less.nd rfl rfl (sw_true rfl rfl rfl (by decide +kernel)) (pi_seq (pv 3)) (blkOk_by (N := N__law_less) (sc := defScope s__law_less) (own := [("x", 5)]) (by decide +kernel)) (fun _ _ _ _ _ => (pg_name (i := 5) sc__law_less.nd rfl (Or.inl rfl))) (fun _ _ _ _ _ => (pts_one (pt_cmpR op_ne (pv 5) (pe_un un_neg (pv 1)) (nomark _)))) (fun _ _ _ _ _ => (pv 5)))
      (pss_cons (ps_if (pt_cmpR (op_eqD hr.units) (pv 4) (pe_lst pa_nil) (nomark _)) (pss_one (ps_ret pe_non)) pss_nil)
      (pss_one (ps_expr (pe_bm PySem.F.plainAttrs_list PySem.F.slot_list_append PySem.F.type_list_append mt_append (pv 2) (pa_cons (pv 4) pa_nil)))))) pss_nil)))
      (pss_one (ps_ret (pv 2))))), ?_⟩
    refine ⟨by show 0 ≤ sizeLine; decide, fun F hF => ?_⟩
    refine ⟨_, rfl, a, rfl, ⟨_, sql_mono (same_new hF _) hS⟩, for_list (K := K) (a := a) (xs := xs) (fun i σ' H' => ∃ (ys : List V) (o3 o4 : Option V), σ' = [some (.ref a), some (.int l), some (.ref F), o3, o4, none] ∧ H' F = some (.lst ys) ∧ DpAll K (hide F H') ys ((MC.less (cs.take i) l).map (gcD false)) ∧ Same H H' ∧ ¬ MC.Bare (cs.take i) l ∧ i ≤ cs.length)
      ⟨[], none, none, rfl, upd_same, .nil, same_new hF _, fun ⟨c, hc, _⟩ => (by simp at hc), Nat.zero_le _⟩ (fun i σ' H' _ ⟨_, _, _, _, _, _, s, _⟩ => sql_mono s hS) ?_ ?_⟩
    · rintro i y σ' H' hi ⟨ys, o3, o4, rfl, hFl, hall, sm, nb, _⟩
      have hi' : i < cs.length := by rw [← hxl]; exact (List.getElem?_eq_some_iff.mp hi).1
      obtain ⟨c, t, hc, rfl, ht⟩ := dpa_atG (dpa_mono sm _ hA) hi
      have hcm := List.mem_of_getElem? hc
      have tk : cs.take (i + 1) = cs.take i ++ [c] := take_next hc
      have hlys : ys.length ≤ 100000 := by
        have := dpa_len hall
        rw [List.length_map] at this
        have h2 := less_len (cs.take i) l
        rw [List.length_take] at h2
        omega
      refine ⟨_, rfl, _, rfl, t, _, rfl, ht, rfl, flat_ints c, _, rfl, ite2 (fun k1 => ?_) (fun k1 => ?_)⟩
      · have nl : l ∉ c := by
          have k1 : (!inV (.int l) (c.map V.int)) = true := k1
          rw [inV_ints] at k1
          simpa using k1
        -- the rest
        have rest : ∀ (D1 : Addr) (H4 : Hp), H' D1 = none → H4 D1 = some (.lst ((c.filter fun x => decide (x ≠ -l)).map V.int)) → Same H' H4 → ∀ (H5 : Hp), Same H4 H5 → H5 D1 = some (.lst ((c.filter fun x => decide (x ≠ -l)).map V.int)) → D1 ≠ F ∧
            (c.filter (fun x => decide (x ≠ -l)) ≠ [] → ∃ (ys' : List V), H5 F = some (.lst ys) ∧ ys.length < sizeLine ∧ (∃ (ys' : List V) (o3 o4 : Option V), ([some (.ref a), some (.int l), some (.ref F), some (.ref t), some (.ref D1), none] : L2.St) = [some (.ref a), some (.int l), some (.ref F), o3, o4, none] ∧ (upd H5 F (.lst (ys ++ [.ref D1]))) F = some (.lst ys') ∧ DpAll K (hide F (upd H5 F (.lst (ys ++ [.ref D1])))) ys' ((MC.less (cs.take (i + 1)) l).map (gcD false)) ∧ Same H (upd H5 F (.lst (ys ++ [.ref D1]))) ∧ ¬ MC.Bare (cs.take (i + 1)) l ∧ i + 1 ≤ cs.length)) := fun D1 H4 hD1 h4 s4 H5 s5 h5 => by
          have ne : D1 ≠ F := fun e => by rw [e, hFl] at hD1; cases hD1
          refine ⟨ne, fun hne => ⟨ys, s5 _ _ (s4 _ _ hFl), by rw [sizeLine_eq]; omega, ys ++ [.ref D1], _, _, rfl, upd_same, ?_, fun b o hb => ?_, ?_, hi'⟩⟩
          · have e2 : Same (hide F H') (hide F (upd H5 F (.lst (ys ++ [.ref D1])))) := (hide_same (s4.trans s5)).trans (hide_put _)
            rw [tk, less_snoc, if_neg nl, List.map_append]
            refine dpa_app (dpa_mono e2 _ hall) (dpa_one (.lst (SqL.of ?_) (ints_all _)))
            rw [hide_ne ne, upd_ne ne, h5]
            rfl
          · rw [upd_ne (ne_of_none hb hF)]
            exact s5 _ _ (s4 _ _ (sm b o hb))
          · rw [tk]
            rintro ⟨d, hd, h1, h2⟩
            rcases List.mem_append.mp hd with h | h
            · exact nb ⟨d, h, h1, h2⟩
            · rw [List.mem_singleton.mp h] at h2
              exact hne h2
        refine ⟨_, rfl, t, rfl, ht.elim (fun ht => .inl ⟨⟨_, ht⟩, fun D1 hD1 => filt_list (fun x => decide (x ≠ -l)) ht (hcl c hcm) hD1 (fun _ => rfl) (fun x H4 R r => ⟨_, rfl, r⟩) (fun x H4 R hx s4 r => ⟨_, rfl, _, rfl, _, rfl, rfl, _, rfl, by rw [ne_is]; exact r⟩) fun H4 h4 s4 => ?_⟩)
          (fun ht => .inr ⟨⟨_, ht⟩, fun D1 hD1 => filt_tup (fun x => decide (x ≠ -l)) ht (hcl c hcm) hD1 (fun _ => rfl) (fun x H4 R r => ⟨_, rfl, r⟩) (fun x H4 R hx s4 r => ⟨_, rfl, _, rfl, _, rfl, rfl, _, rfl, by rw [ne_is]; exact r⟩) fun H4 h4 s4 => ?_⟩)⟩
        all_goals
          refine ⟨_, rfl, by show 0 ≤ sizeLine; decide, fun e0 he0 => ?_⟩
          have s5 := same_new he0 (.lst [])
          have h5 := s5 _ _ h4
          obtain ⟨ne, fin⟩ := rest D1 H4 hD1 h4 s4 _ s5 h5
          refine ⟨_, .list [], .lst (SqL.of h5) (ints_all _), .lst (SqL.of upd_same) .nil, shp_ints _, by rfl, _, rfl, ite2 (fun k2 => ?_) (fun k2 => ?_)⟩
          · have e : decide (c.filter (fun x => decide (x ≠ -l)) = []) = true := by rw [← eqv_nilI]; exact k2
            exact qb ⟨c, hcm, nl, of_decide_eq_true e⟩ _ ((sm.trans s4).trans s5)
          · obtain ⟨ys', h6, h7, h8⟩ := fin fun e => k2 (by rw [eqv_nilI]; exact decide_eq_true e)
            exact ⟨_, rfl, .inl ⟨rfl, _, SqL.of h6⟩, _, rfl, F, _, _, rfl, rfl, h6, h7, h8⟩
      · have il : l ∈ c := by
          have k1 : ¬ (!inV (.int l) (c.map V.int)) = true := k1
          rw [inV_ints] at k1
          simpa using k1
        refine ⟨ys, _, _, rfl, hFl, by rw [tk, less_snoc, if_pos il, List.append_nil]; exact hall, sm, ?_, hi'⟩
        rw [tk]
        rintro ⟨d, hd, h1, h2⟩
        rcases List.mem_append.mp hd with h | h
        · exact nb ⟨d, h, h1, h2⟩
        · rw [List.mem_singleton.mp h] at h1
          exact h1 il
    · rintro σ' H' ⟨ys, o3, o4, rfl, hFl, hall, sm, nb, _⟩
      rw [hxl, List.take_length] at hall nb
      exact ⟨_, rfl, q nb F ys H' sm (SqL.of hFl) (dpa_mono hide_le _ hall)⟩
end
end My


set_option Elab.async false
set_option maxRecDepth 100000
set_option maxHeartbeats 4000000
set_option linter.all false
namespace My
open PySem L2
open C8 (pss_cut)
/-- while, by a word that knows its measure -/
theorem while_w {c : TT} {tb : TS} {D : Ends} {σ : L2.St} {H : Hp} (Pv : Nat → L2.St → Hp → Prop) (h0 : ∃ m, Pv m σ H)
    (hs : ∀ m σ H, Pv m σ H → c σ H fun b H1 => if b = true then tb { D with nx := fun σ' H' => ∃ m', m' < m ∧ Pv m' σ' H', ct := fun σ' H' => ∃ m', m' < m ∧ Pv m' σ' H', bk := D.nx } σ H1 else D.nx σ H1)
    (mono : ∀ σ H Q Q', (∀ b H1, Q b H1 → Q' b H1) → c σ H Q → c σ H Q') : tWhile c tb D σ H := by
  refine ⟨Pv, h0, fun m σ H p => mono σ H _ _ (fun b H1 q => ?_) (hs m σ H p)⟩
  cases b with
  | true => exact ⟨_, fun σ' H' h => h, q⟩
  | false => exact q
def one1 : List Int → Option Int
  | [x] => some x
  | _ => none
def ones (cs : List (List Int)) : List Int := cs.filterMap one1
theorem mem_ones {cs : List (List Int)} {x : Int} : x ∈ ones cs ↔ [x] ∈ cs := by
  unfold ones
  rw [List.mem_filterMap]
  constructor
  · rintro ⟨c, hc, e⟩
    match c, e with
    | [y], e => rw [← Option.some.inj (show some y = some x from e)]; exact hc
  · intro h
    exact ⟨[x], h, rfl⟩
theorem ones_snoc (cs : List (List Int)) (c : List Int) : ones (cs ++ [c]) = ones cs ++ (match one1 c with | some x => [x] | none => []) := by
  unfold ones
  rw [List.filterMap_append]
  cases h : one1 c with
  | none => rw [List.filterMap_cons_none h] <;> rfl
  | some x => rw [List.filterMap_cons_some h] <;> rfl
theorem one1_len {c : List Int} : c.length = 1 ↔ ∃ x, c = [x] := by
  constructor
  · intro h
    match c, h with
    | [x], _ => exact ⟨x, rfl⟩
  · rintro ⟨x, rfl⟩
    rfl
theorem one1_no {c : List Int} (h : c.length ≠ 1) : one1 c = none := by
  match c, h with
  | [], _ => rfl
  | [x], h => exact absurd rfl h
  | x :: y :: r, _ => rfl
theorem ones_len (cs : List (List Int)) : (ones cs).length ≤ cs.length := List.length_filterMap_le _ _
theorem ones_lt {cs : List (List Int)} {l : Int} (h : l ∈ ones cs) : (MC.less cs l).length < cs.length := by
  have hm := mem_ones.1 h
  unfold MC.less
  rw [List.length_map]
  have : (cs.filter fun c => decide (l ∉ c)).length < cs.length := by
    refine Nat.lt_of_le_of_ne (List.length_filter_le _ _) fun e => ?_
    have := List.length_filter_eq_length_iff.mp e [l] hm
    simp at this
  exact this
theorem lay_gc (b : Bool) (c : List Int) : PyData.canLay0 (gcD b c) = true := by
  cases b
  · show PyData.canLay0 (.list (c.map PyData.int)) = true
    simp only [PyData.canLay0, lay_ints]
  · show PyData.canLay0 (.tuple (c.map PyData.int)) = true
    simp only [PyData.canLay0, lay_ints]
theorem dep_gc (b : Bool) (c : List Int) : PyData.depth (gcD b c) ≤ 1 := by
  cases b
  · show PyData.depth (.list (c.map PyData.int)) ≤ 1
    simp only [PyData.depth, dep_ints]
    decide
  · show PyData.depth (.tuple (c.map PyData.int)) ≤ 1
    simp only [PyData.depth, dep_ints]
    decide
theorem lay_gcs (b : Bool) : ∀ cs : List (List Int), PyData.canLayAll0 (cs.map (gcD b)) = true
  | [] => rfl
  | c :: cs => by
    rw [List.map_cons]
    simp only [PyData.canLayAll0, lay_gc, Bool.true_and]
    exact lay_gcs b cs
theorem dep_gcs (b : Bool) : ∀ cs : List (List Int), PyData.depthAll (cs.map (gcD b)) ≤ 1
  | [] => Nat.zero_le _
  | c :: cs => by
    rw [List.map_cons]
    simp only [PyData.depthAll]
    have h1 := dep_gc b c
    have h2 := dep_gcs b cs
    omega
theorem shp_gcs (b : Bool) (cs : List (List Int)) : SeqAt.shaped (.list (cs.map (gcD b))) = true := by
  have h := dep_gcs b cs
  show (PyData.canLay0 (.list (cs.map (gcD b))) && decide (PyData.depth (.list (cs.map (gcD b))) ≤ 64)) = true
  rw [Bool.and_eq_true]
  refine ⟨by simp only [PyData.canLay0]; exact lay_gcs b cs, decide_eq_true ?_⟩
  simp only [PyData.depth]
  omega
theorem any_lst (b : Bool) : ∀ cs : List (List Int), ((cs.map (gcD b)).any fun z => PyData.eqv z (.list [])) = (!b && decide ([] ∈ cs))
  | [] => by cases b <;> rfl
  | c :: cs => by
    rw [List.map_cons, List.any_cons, any_lst b cs]
    cases b with
    | true =>
      have e : PyData.eqv (gcD true c) (.list []) = false := by cases c <;> rfl
      rw [e] <;> rfl
    | false =>
      cases c with
      | nil => simp [gcD, lsD, PyData.eqv, PyData.eqvAll]
      | cons x r => simp [gcD, lsD, PyData.eqv, PyData.eqvAll]
theorem any_tup (b : Bool) : ∀ cs : List (List Int), ((cs.map (gcD b)).any fun z => PyData.eqv z (.tuple [])) = (b && decide ([] ∈ cs))
  | [] => by cases b <;> rfl
  | c :: cs => by
    rw [List.map_cons, List.any_cons, any_tup b cs]
    cases b with
    | false =>
      have e : PyData.eqv (gcD false c) (.tuple []) = false := by cases c <;> rfl
      rw [e] <;> rfl
    | true =>
      cases c with
      | nil => simp [gcD, clD, PyData.eqv, PyData.eqvAll]
      | cons x r => simp [gcD, clD, PyData.eqv, PyData.eqvAll]
theorem eqv_nilG (b : Bool) (cs : List (List Int)) : PyData.eqv (.list (cs.map (gcD b))) (.list []) = decide (cs = []) := by
  cases cs with
  | nil => rfl
  | cons a r => rfl
/-- clauses as a list of clauses stands -/
structure CsAt (K : PySem.W.Frag) (H : Hp) (a : Addr) (xs : List V) (b : Bool) (cs : List (List Int)) : Prop where
  sq : SqL K H a xs
  all : DpAll K H xs (cs.map (gcD b))
  nz : MC.Nz cs
  len : ∀ c ∈ cs, c.length ≤ 100
  many : cs.length ≤ 100000
theorem CsAt.mono {K : PySem.W.Frag} {H H' : Hp} {a : Addr} {xs : List V} {b : Bool} {cs : List (List Int)} (C : CsAt K H a xs b cs) (s : Same H H') : CsAt K H' a xs b cs := ⟨sql_mono s C.sq, dpa_mono s _ C.all, C.nz, C.len, C.many⟩
theorem CsAt.dp {K : PySem.W.Frag} {H : Hp} {a : Addr} {xs : List V} {b : Bool} {cs : List (List Int)} (C : CsAt K H a xs b cs) : Dp K H (.ref a) (.list (cs.map (gcD b))) := .lst C.sq C.all
theorem CsAt.xl {K : PySem.W.Frag} {H : Hp} {a : Addr} {xs : List V} {b : Bool} {cs : List (List Int)} (C : CsAt K H a xs b cs) : xs.length = cs.length := by rw [dpa_len C.all, List.length_map]
theorem CsAt.less {K : PySem.W.Frag} {H H' : Hp} {a p : Addr} {xs ys : List V} {b : Bool} {cs : List (List Int)} {l : Int} (C : CsAt K H a xs b cs) (h1 : SqL K H' p ys) (h2 : DpAll K H' ys ((MC.less cs l).map (gcD false))) : CsAt K H' p ys false (MC.less cs l) :=
  ⟨h1, h2, MC.nz_less C.nz, fun d hd => by
    obtain ⟨c, hc, _, rfl⟩ := MC.mem_less.1 hd
    exact Nat.le_trans (List.length_filter_le _ _) (C.len c hc), Nat.le_trans (less_len _ _) C.many⟩
/-- [row[0] for row in clauses if len(row) == 1] -/
theorem lc_ones {K : PySem.W.Frag} {a : Addr} {xs : List V} {b : Bool} {cs : List (List Int)} {k : Nat} {tt : TT} {te : TE} {vs : List Nat} {σ : L2.St} {H1 : Hp} {D : Addr} {Qd : Hp → Prop} (C : CsAt K H1 a xs b cs) (hD : H1 D = none) (hw : ∀ x, wipe ((wipe σ vs).set k (some x)) vs = wipe σ vs)
    (ht : ∀ (t : Addr) (c : List Int) H2 (R : Bool → Hp → Prop), (SqL K H2 t (c.map V.int) ∨ SqT K H2 t (c.map V.int)) → R (decide (c.length = 1)) H2 → tt ((wipe σ vs).set k (some (.ref t))) H2 R)
    (he : ∀ (t : Addr) (x : Int) H2 (R : VK), (SqL K H2 t [V.int x] ∨ SqT K H2 t [V.int x]) → R (.int x) H2 → te ((wipe σ vs).set k (some (.ref t))) H2 R)
    (hq : ∀ H2, H2 D = some (.lst ((ones cs).map V.int)) → Same H1 H2 → Qd H2) :
    ∃ W : Nat → Nat → Hp → Prop, (∃ m, W 0 m (upd H1 D (.lst []))) ∧ ∀ i m H, W i m H →
      ((Itl K a).stop i H ∧ Qd H) ∨ ((Itl K a).go i H ∧ ∃ Nx : Hp → Prop, (∀ H', Nx H' → ∃ m', m' < m ∧ W (i + 1) m' H') ∧ ∀ x H', (Itl K a).yld i H x H' → gName k x (wipe σ vs) H' fun σ2 H2 => wipe σ2 vs = wipe σ vs ∧ tt σ2 H2 fun b H3 =>
        if b = true then te σ2 H3 fun y H4 => ∃ acc, H4 D = some (.lst acc) ∧ acc.length < sizeLine ∧ Nx (upd H4 D (.lst (acc ++ [y]))) else Nx H3) := by
  refine lc_list (K := K) (a := a) (xs := xs) (fun i H2 => H2 D = some (.lst ((ones (cs.take i)).map V.int)) ∧ Same H1 H2 ∧ i ≤ cs.length) ⟨upd_same, same_new hD _, Nat.zero_le _⟩ (fun i H2 _ ⟨_, s, _⟩ => sql_mono s C.sq) ?_ ?_
  · rintro i y H2 hi ⟨h1, s, _⟩
    have hi' : i < cs.length := by rw [← C.xl]; exact (List.getElem?_eq_some_iff.mp hi).1
    obtain ⟨c, t, hc, rfl, htt⟩ := dpa_atG (dpa_mono s _ C.all) hi
    refine ⟨hw _, ht t c H2 _ htt ?_⟩
    by_cases h : c.length = 1
    · obtain ⟨x, rfl⟩ := one1_len.1 h
      rw [if_pos (decide_eq_true h)]
      refine he t x H2 _ htt ⟨_, h1, ?_, ?_, fun b o hb => ?_, hi'⟩
      · have h2 := ones_len (cs.take i)
        have h3 := C.many
        rw [List.length_take] at h2
        rw [List.length_map, sizeLine_eq]
        omega
      · rw [upd_same, take_next hc, ones_snoc, List.map_append] <;> rfl
      · rw [upd_ne (ne_of_none hb hD)]
        exact s b o hb
    · rw [if_neg (by rw [decide_eq_false h]; decide)]
      exact ⟨by rw [take_next hc, ones_snoc, one1_no h, List.append_nil]; exact h1, s, hi'⟩
  · rintro H2 ⟨h1, s, _⟩
    rw [C.xl, List.take_length] at h1
    exact hq H2 h1 s
def spCan (K : PySem.W.Frag) (m : Nat) : Sp := fun vs H Q _ => ∃ (k : Nat) (a : Addr) (xs : List V) (b : Bool) (cs : List (List Int)), m = k + 1 ∧ vs = [.ref a] ∧ CsAt K H a xs b cs ∧ MC.Vin k cs ∧ ∀ bb H', (bb = true ↔ MC.Sat cs) → Same H H' → Q (.bl bb) H'
end My


set_option Elab.async false
set_option maxRecDepth 100000
set_option maxHeartbeats 4000000
set_option linter.all false
namespace My
open PySem L2
open C8 (pss_cut)
theorem len_one (c : List Int) : decide (V.int ((c.map V.int).length : Int) = V.int 1) = decide (c.length = 1) := by
  rw [List.length_map]
  by_cases h : c.length = 1
  · rw [decide_eq_true h, h] <;> rfl
  · rw [decide_eq_false h]
    exact decide_eq_false fun e => h (by have := V.int.inj e; omega)
section
variable {P : Program} {w : World} {K : PySem.W.Frag} {mg : Str → Option Value} {base : Heap} {f : Addr} {fd : FuncData}
theorem ok__law_can0 (D : Def K mg "_law_can" ["clauses"] s__law_can f fd) : Own P w K mg base "_law_can" ["clauses"] 1 (spCan K 0) :=
  ⟨f, fd, D.mg, D.fn.kp, D.bd, fn_never fun vs H Q E ⟨k, a, xs, b, cs, e, _⟩ => by cases e⟩
theorem ok__law_can1 {m : Nat} (T : Txt K mg) (D : Def K mg "_law_can" ["clauses"] s__law_can f fd) (O1 : Own P w K mg base "_law_less" ["clauses", "literal"] 1 (spLess K)) (O2 : Own P w K mg base "_law_can" ["clauses"] (m + 1) (spCan K m)) : Own P w K mg base "_law_can" ["clauses"] (m + 2) (spCan K (m + 1)) := by
  obtain ⟨f_law_less, fd_law_less, m_law_less, k_law_less, b_law_less, G_law_less⟩ := O1
  obtain ⟨f_law_can, fd_law_can, m_law_can, k_law_can, b_law_can, G_law_can⟩ := O2
  refine ⟨f, fd, D.mg, D.fn.kp, D.bd, D.fn.ok sc__law_can (fun vs H Q E h => ?_) (fun cdv A outer s H vs Q E hr h => ?_)⟩
  · obtain ⟨k, a, xs, b, cs, _, rfl, _⟩ := h
    rfl
  · obtain ⟨k, a, xs, b, cs, ek, rfl, C, V0, q⟩ := h
    obtain rfl : m = k := by omega
    refine ⟨_, (pss_cons (ps_if (PW.pt (pw_or (pt_cmpR (op_inD (room65 hr)) (pe_lst pa_nil) (pv 0) (by rfl)) (pw_or1 (pt_cmpR (op_inD (room65 hr)) (pe_tup pa_nil) (pv 0) (by rfl))))) (pss_one (ps_ret pe_bl)) pss_nil)
      (pss_cons (ps_setLc (i := 1) (own := [("row", 5)]) (g := gName 5) rfl sc__law_can.nd rfl rfl (sw_true rfl rfl rfl (by decide +kernel)) (pi_list (pv 0)) (blkOk_by (N := N__law_can) (sc := defScope s__law_can) (own := [("row", 5)]) (by decide +kernel)) (fun _ _ _ _ _ => (pg_name (i := 5) sc__law_can.nd rfl (Or.inl rfl))) (fun _ _ _ _ _ => (pts_one (pt_cmpR op_eq (pe_callB (call_len_seqK (K := K) rfl) (by rfl) T.m_len (by decide +kernel) (pa_cons (pv 5) pa_nil)) pe_int (nomark _)))) (fun _ _ _ _ _ => (pe_ix (ix_seqK (K := K) rfl) (pv 5) pe_int (fun _ _ => rfl))))
      (pss_cons (ps_while PassesOwn.never (pt_cmpR (op_neD hr.units) (pv 1) (pe_lst pa_nil) (nomark _)) (pss_cons (ps_set (i := 0) sc__law_can.nd rfl (Or.inl rfl) (pe_call G_law_less (hr.mono (by omega)) rfl m_law_less k_law_less b_law_less .nil pass0 (pa_cons (pv 0) (pa_cons (pe_ix ix_list (pv 1) pe_int (fun _ _ => rfl)) pa_nil))))
      (pss_cons (ps_if (pt_cmpR op_isN (pv 0) pe_non (nomark _)) (pss_one (ps_ret pe_bl)) pss_nil)
      (pss_one (ps_setLc (i := 1) (own := [("row", 5)]) (g := gName 5) rfl sc__law_can.nd rfl rfl (sw_true rfl rfl rfl (by decide +kernel)) (pi_list (pv 0)) (blkOk_by (N := N__law_can) (sc := defScope s__law_can) (own := [("row", 5)]) (by decide +kernel)) (fun _ _ _ _ _ => (pg_name (i := 5) sc__law_can.nd rfl (Or.inl rfl))) (fun _ _ _ _ _ => (pts_one (pt_cmpR op_eq (pe_callB (call_len_seqK (K := K) rfl) (by rfl) T.m_len (by decide +kernel) (pa_cons (pv 5) pa_nil)) pe_int (nomark _)))) (fun _ _ _ _ _ => (pe_ix (ix_seqK (K := K) rfl) (pv 5) pe_int (fun _ _ => rfl))))))))
      (pss_cons (ps_if (pt_cmpR (op_eqD hr.units) (pv 0) (pe_lst pa_nil) (nomark _)) (pss_one (ps_ret pe_bl)) pss_nil)
      (pss_cons (ps_set (i := 2) sc__law_can.nd rfl (Or.inl rfl) (pe_ix ix_seq (pe_ix ix_list (pv 0) pe_int (fun _ _ => rfl)) pe_int (fun _ _ => rfl)))
      (pss_cons (ps_for PassesOwn.never rfl (pi_list (pe_lst (pa_cons (pv 2) (pa_cons (pe_un un_neg (pv 2)) pa_nil)))) (pg_name (i := 3) sc__law_can.nd rfl (Or.inl rfl)) (pss_cons (ps_set (i := 4) sc__law_can.nd rfl (Or.inl rfl) (pe_call G_law_less (hr.mono (by omega)) rfl m_law_less k_law_less b_law_less .nil pass0 (pa_cons (pv 0) (pa_cons (pv 3) pa_nil))))
      (pss_one (ps_if (PW.pt (pw_and (pt_cmpR op_notN (pv 4) pe_non (nomark _)) (pw_and1 (pt_val (pe_call G_law_can (hr.mono (by omega)) rfl m_law_can k_law_can b_law_can .nil pass0 (pa_cons (pv 4) pa_nil)))))) (pss_one (ps_ret pe_bl)) pss_nil))))
      (pss_one (ps_ret pe_bl)))))))), ?_⟩
    refine ⟨by show 0 ≤ sizeLine; decide, fun e0 he0 => ?_⟩
    have s1 := same_new he0 (.lst [])
    refine ⟨_, rfl, .list [], _, .lst (SqL.of upd_same) .nil, (C.mono s1).dp, by rfl, shp_gcs b cs, _, rfl, ite2 (fun c1 => ?_) (fun c1 => ?_)⟩
    · rw [any_lst] at c1
      have := (Bool.and_eq_true_iff.mp c1).2
      exact q false _ ⟨fun e => (by cases e), fun h => absurd h (MC.not_sat_empty (of_decide_eq_true this))⟩ s1
    refine ⟨by show 0 ≤ sizeLine; decide, fun e1 he1 => ?_⟩
    have s2 := s1.trans (same_new he1 (.tup []))
    refine ⟨_, rfl, .tuple [], _, .tup (SqT.of upd_same) .nil, (C.mono s2).dp, by rfl, shp_gcs b cs, _, rfl, ite2 (fun c2 => ?_) (fun c2 => ?_)⟩
    · rw [any_tup] at c2
      have := (Bool.and_eq_true_iff.mp c2).2
      exact q false _ ⟨fun e => (by cases e), fun h => absurd h (MC.not_sat_empty (of_decide_eq_true this))⟩ s2
    have ne : [] ∉ cs := fun h => by
      rw [any_lst] at c1
      rw [any_tup] at c2
      cases b
      · exact c1 (by rw [decide_eq_true h] <;> rfl)
      · exact c2 (by rw [decide_eq_true h] <;> rfl)
    have C2 := C.mono s2
    refine ⟨_, rfl, a, rfl, ⟨_, C2.sq⟩, fun D1 hD1 => lc_ones C2 hD1 (fun _ => rfl) (fun t c H4 R htt r => ?_) (fun t x H4 R htt r => ?_) fun H3 h3 s3 => ?_⟩
    · exact ⟨_, rfl, t, _, rfl, htt, rfl, _, rfl, by rw [len_one]; exact r⟩
    · exact ⟨_, rfl, htt.elim (fun h => .inl ⟨t, _, 0, .int x, rfl, rfl, h, rfl, r⟩) fun h => .inr (.inl ⟨t, _, 0, .int x, rfl, rfl, h, rfl, r⟩)⟩
    · refine while_w (fun n σ' H' => ∃ (a' o1 : Addr) (xs' : List V) (b' : Bool) (cs' : List (List Int)), σ' = [some (.ref a'), some (.ref o1), none, none, none, none] ∧ CsAt K H' a' xs' b' cs' ∧ MC.Vin m cs' ∧ [] ∉ cs' ∧ (MC.Sat cs' ↔ MC.Sat cs) ∧ H' o1 = some (.lst ((ones cs').map V.int)) ∧ Same H H' ∧ n = cs'.length)
        ⟨_, a, D1, xs, b, cs, rfl, C2.mono s3, V0, ne, Iff.rfl, h3, s2.trans s3, rfl⟩ ?_ ?_
      · rintro n σ4 H4 ⟨a', o1, xs', b', cs', rfl, C4, V4, ne4, sat4, h4, s4, rfl⟩
        refine ⟨_, rfl, by show 0 ≤ sizeLine; decide, fun e2 he2 => ?_⟩
        have s5 := same_new he2 (.lst [])
        have h5 := s5 _ _ h4
        refine ⟨_, .list [], .lst (SqL.of h5) (ints_all _), .lst (SqL.of upd_same) .nil, shp_ints _, by rfl, _, rfl, ite2 (fun c3 => ?_) (fun c3 => ?_)⟩
        · have no : ones cs' ≠ [] := fun e => by
            have c3 : (!PyData.eqv (.list ((ones cs').map PyData.int)) (.list [])) = true := c3
            rw [eqv_nilI, decide_eq_true e] at c3
            cases c3
          obtain ⟨l, r, el⟩ := List.exists_cons_of_ne_nil no
          have hl : l ∈ ones cs' := by rw [el]; exact List.mem_cons_self
          have hlm := mem_ones.1 hl
          have l0 : l ≠ 0 := C4.nz [l] hlm l (List.mem_singleton.mpr rfl)
          have C5 := C4.mono s5
          obtain ⟨k', _, Vk⟩ := MC.vin_less V4 hlm (.inl (List.mem_singleton.mpr rfl))
          have satl : MC.Sat (MC.less cs' l) ↔ MC.Sat cs := (MC.sat_unit l0 hlm).symm.trans sat4
          refine ⟨_, rfl, _, rfl, o1, _, 0, .int l, rfl, rfl, SqL.of h5, by rw [el]; exact atI_nat (xs := (l :: r).map V.int) (j := 0) rfl, a', l, xs', b', cs', rfl, C5.sq, C5.all, C5.len, C5.many, fun ba H6 s6 => ?_, fun nba p ys H6 s6 h6 h7 => ?_⟩
          · refine ⟨_, rfl, rfl, _, rfl, ite2 (fun _ => ?_) (fun c4 => absurd (decide_eq_true rfl) c4)⟩
            exact q false _ ⟨fun e => (by cases e), fun h => absurd (satl.2 h) (MC.not_sat_empty (MC.bare_iff.1 ba))⟩ ((s4.trans s5).trans s6)
          · have C6 := C5.less h6 h7
            refine ⟨_, rfl, rfl, _, rfl, ite2 (fun c4 => by cases of_decide_eq_true c4) (fun _ => ?_)⟩
            refine ⟨_, rfl, p, rfl, ⟨_, C6.sq⟩, fun D2 hD2 => lc_ones C6 hD2 (fun _ => rfl) (fun t c H4 R htt r => ?_) (fun t x H4 R htt r => ?_) fun H7 h8 s7 => ?_⟩
            · exact ⟨_, rfl, t, _, rfl, htt, rfl, _, rfl, by rw [len_one]; exact r⟩
            · exact ⟨_, rfl, htt.elim (fun h => .inl ⟨t, _, 0, .int x, rfl, rfl, h, rfl, r⟩) fun h => .inr (.inl ⟨t, _, 0, .int x, rfl, rfl, h, rfl, r⟩)⟩
            · refine ⟨_, ones_lt hl, p, D2, ys, false, MC.less cs' l, rfl, C6.mono s7, ?_, fun h => nba (MC.bare_iff.2 h), satl, h8, ((s4.trans s5).trans s6).trans s7, rfl⟩
              obtain ⟨vs, hv1, hv2⟩ := Vk
              exact ⟨vs, by omega, hv2⟩
        · have no : ones cs' = [] := by
            have c3 : ¬ (!PyData.eqv (.list ((ones cs').map PyData.int)) (.list [])) = true := c3
            rw [eqv_nilI] at c3
            simpa using c3
          -- all of it
          refine ⟨_, rfl, by show 0 ≤ sizeLine; decide, fun e3 he3 => ?_⟩
          have s6 := s5.trans (same_new he3 (.lst []))
          have C6 := C4.mono s6
          refine ⟨_, .list [], C6.dp, .lst (SqL.of upd_same) .nil, shp_gcs b' cs', by rfl, _, rfl, ite2 (fun c4 => ?_) (fun c4 => ?_)⟩
          · rw [eqv_nilG] at c4
            refine q true _ ⟨fun _ => sat4.1 ?_, fun _ => rfl⟩ (s4.trans s6)
            rw [of_decide_eq_true c4]
            exact MC.sat_nil
          · have hne : cs' ≠ [] := fun e => c4 (by rw [eqv_nilG]; exact decide_eq_true e)
            obtain ⟨c0, r0, ec0⟩ := List.exists_cons_of_ne_nil hne
            have c0m : c0 ∈ cs' := by rw [ec0]; exact List.mem_cons_self
            have c0n : c0 ≠ [] := fun e => ne4 (by rw [← e]; exact c0m)
            obtain ⟨x, r1, ex⟩ := List.exists_cons_of_ne_nil c0n
            have xm : x ∈ c0 := by rw [ex]; exact List.mem_cons_self
            have x0 : x ≠ 0 := C4.nz c0 c0m x xm
            have xlen : 0 < xs'.length := by rw [C4.xl, ec0]; exact Nat.succ_pos _
            obtain ⟨c0', t, hc0, et, htt⟩ := dpa_atG C6.all (List.getElem?_eq_getElem xlen)
            have ec : c0' = c0 := by
              rw [ec0] at hc0
              exact (Option.some.inj hc0).symm
            rw [ec, ex] at htt
            have at0 : atI xs' 0 = some (.ref t) := by rw [← et]; exact atI_nat (xs := xs') (j := 0) (List.getElem?_eq_getElem xlen)
            have at1 : atI ((x :: r1).map V.int) 0 = some (.int x) := atI_nat (xs := (x :: r1).map V.int) (j := 0) rfl
            refine ⟨_, rfl, a', _, 0, .ref t, rfl, rfl, C6.sq, at0, htt.elim (fun h => .inl ⟨t, _, 0, .int x, rfl, rfl, h, at1, ?_⟩) fun h => .inr (.inl ⟨t, _, 0, .int x, rfl, rfl, h, at1, ?_⟩)⟩
            all_goals
              refine ⟨_, rfl, _, rfl, _, rfl, by show 2 ≤ sizeLine; decide, fun p2 hp2 => ?_⟩
              have s7 := s6.trans (same_new hp2 (.lst [.int x, .int (-x)]))
              refine ⟨p2, rfl, ⟨_, SqL.of upd_same⟩, for_list (K := K) (a := p2) (xs := [.int x, .int (-x)]) (fun i σ' H' => ∃ (o3 o4 : Option V), σ' = [some (.ref a'), some (.ref o1), some (.int x), o3, o4, none] ∧ Same (upd (upd H4 e2 (.lst [])) e3 (.lst [])) H' ∧ H' p2 = some (.lst [.int x, .int (-x)]) ∧ (1 ≤ i → ¬ MC.Sat (MC.less cs' x)) ∧ (2 ≤ i → ¬ MC.Sat (MC.less cs' (-x))))
                ⟨none, none, rfl, same_new hp2 _, upd_same, fun h => absurd h (by omega), fun h => absurd h (by omega)⟩ (fun i σ' H' _ ⟨_, _, _, _, h, _⟩ => SqL.of h) ?_ ?_⟩
              · rintro i y σ' H8 hi ⟨o3, o4, rfl, s8, hp8, n1, n2⟩
                obtain ⟨lt, rfl, hlt⟩ : ∃ lt, y = V.int lt ∧ ((i = 0 ∧ lt = x) ∨ (i = 1 ∧ lt = -x)) := by
                  match i, hi with
                  | 0, hi => exact ⟨x, (Option.some.inj hi).symm, .inl ⟨rfl, rfl⟩⟩
                  | 1, hi => exact ⟨-x, (Option.some.inj hi).symm, .inr ⟨rfl, rfl⟩⟩
                  | i + 2, hi => exact absurd hi (by simp)
                have ltm : lt ∈ c0 ∨ -lt ∈ c0 := by
                  rcases hlt with ⟨_, e⟩ | ⟨_, e⟩
                  · left; rw [e]; exact xm
                  · right; rw [e, Int.neg_neg]; exact xm
                have lt0 : lt ≠ 0 := by rcases hlt with ⟨_, e⟩ | ⟨_, e⟩ <;> omega
                have C8 := C6.mono s8
                obtain ⟨k', ek', Vk⟩ := MC.vin_less V4 c0m ltm
                -- the side is closed
                have shut : ∀ H9, Same H8 H9 → ¬ MC.Sat (MC.less cs' lt) → ∀ o4', ∃ (o3 o4 : Option V), ([some (.ref a'), some (.ref o1), some (.int x), some (.int lt), o4', none] : L2.St) = [some (.ref a'), some (.ref o1), some (.int x), o3, o4, none] ∧ Same (upd (upd H4 e2 (.lst [])) e3 (.lst [])) H9 ∧ H9 p2 = some (.lst [.int x, .int (-x)]) ∧ (1 ≤ i + 1 → ¬ MC.Sat (MC.less cs' x)) ∧ (2 ≤ i + 1 → ¬ MC.Sat (MC.less cs' (-x))) := fun H9 s9 ns o4' => by
                  refine ⟨_, o4', rfl, s8.trans s9, s9 _ _ hp8, fun _ => ?_, fun h => ?_⟩
                  · rcases hlt with ⟨_, e⟩ | ⟨ei, _⟩
                    · rw [← e]; exact ns
                    · exact n1 (by omega)
                  · rcases hlt with ⟨ei, _⟩ | ⟨_, e⟩
                    · omega
                    · rw [← e]; exact ns
                refine ⟨_, rfl, _, rfl, a', lt, xs', b', cs', rfl, C8.sq, C8.all, C8.len, C8.many, fun ba H9 s9 => ?_, fun nba p ys H9 s9 h6 h7 => ?_⟩
                · refine ⟨_, rfl, rfl, _, rfl, ite2 (fun c5 => absurd c5 (by decide)) (fun _ => ?_)⟩
                  exact shut H9 s9 (MC.not_sat_empty (MC.bare_iff.1 ba)) _
                · have C9 := C8.less h6 h7
                  refine ⟨_, rfl, rfl, _, rfl, ite2 (fun _ => ?_) (fun c5 => absurd (by rfl) c5)⟩
                  refine ⟨_, rfl, k', p, ys, false, MC.less cs' lt, ek', rfl, C9, Vk, fun bb H10 hbb s10 => ?_⟩
                  refine ⟨bb, rfl, ?_⟩
                  cases bb with
                  | true => exact q true _ ⟨fun _ => sat4.1 (MC.sat_less_of lt0 (hbb.1 rfl)), fun _ => rfl⟩ ((((s4.trans s6).trans s8).trans s9).trans s10)
                  | false => exact shut H10 (s9.trans s10) (fun h => by cases hbb.2 h) _
              · rintro σ' H8 ⟨o3, o4, rfl, s8, _, n1, n2⟩
                refine q false _ ⟨fun e => (by cases e), fun h => ?_⟩ ((s4.trans s6).trans s8)
                rcases (MC.sat_split x0).1 (sat4.2 h) with z | z
                · exact absurd z (n1 (by show 1 ≤ 2; decide))
                · exact absurd z (n2 (by show 2 ≤ 2; decide))
      · rintro σ2 H2 Q1 Q2 imp ⟨v, h1, hz, h2⟩
        exact ⟨v, h1, hz, fun p hp => by
          obtain ⟨d, e, g1, g2, g3, g4, k, g5, g6⟩ := h2 p hp
          exact ⟨d, e, g1, g2, g3, g4, k, g5, imp _ _ g6⟩⟩
theorem ok__law_can (T : Txt K mg) (D : Def K mg "_law_can" ["clauses"] s__law_can f fd) (O1 : Own P w K mg base "_law_less" ["clauses", "literal"] 1 (spLess K)) : ∀ m, Own P w K mg base "_law_can" ["clauses"] (m + 1) (spCan K m)
  | 0 => ok__law_can0 D
  | m + 1 => ok__law_can1 T D O1 (ok__law_can T D O1 m)
end
end My


set_option Elab.async false
set_option maxRecDepth 100000
set_option maxHeartbeats 4000000
set_option linter.all false
namespace My
open PySem L2 PyProof.Rows
open C8 (pss_cut)
structure IsCl (m : Int) (c : List Int) : Prop where
  rng : ∀ z ∈ c, 1 ≤ ab z ∧ ab z ≤ m
  asc : c.Pairwise fun x y => ab x < ab y
  len : c.length ≤ 100
def spIsC (K : PySem.W.Frag) : Sp := fun vs H Q _ => ∃ (t : Addr) (m : Int) (c : List Int), vs = [.ref t, .int m] ∧ SqT K H t (c.map V.int) ∧ IsCl m c ∧ Q (.bl true) H
theorem flat2_len (cs : List (List Int)) : (cs.flatMap fun c => [c ++ [0], c ++ [1]]).length = 2 * cs.length := by
  induction cs with
  | nil => rfl
  | cons c cs ih =>
    rw [List.flatMap_cons, List.length_append, ih]
    show 2 + 2 * cs.length = 2 * (cs.length + 1)
    omega
def spLonger (K : PySem.W.Frag) : Sp := fun vs H Q _ => ∃ (a b : Addr) (xs : List V) (cs : List (List Int)), vs = [.ref a, .ref b] ∧ SqL K H a xs ∧ DpAll K H xs (cs.map clD) ∧ SqL K H b [.int 0, .int 1] ∧ cs.length ≤ 100 ∧ (∀ c ∈ cs, c.length ≤ 100) ∧
  ∀ H' r zs, Same H H' → SqL K H' r zs → DpAll K H' zs ((cs.flatMap fun c => [c ++ [0], c ++ [1]]).map clD) → Q (.ref r) H'
def allBits : Nat → List (List Int)
  | 0 => [[]]
  | n + 1 => (allBits n).flatMap fun c => [c ++ [0], c ++ [1]]
theorem allBits_mem : ∀ {n : Nat} {c : List Int}, c ∈ allBits n → c.length = n ∧ ∀ b ∈ c, b = 0 ∨ b = 1
  | 0, c, h => by
    rw [List.mem_singleton.mp h]
    exact ⟨rfl, fun b h => nomatch h⟩
  | n + 1, c, h => by
    obtain ⟨d, hd, hc⟩ := List.mem_flatMap.mp h
    obtain ⟨h1, h2⟩ := allBits_mem hd
    have : c = d ++ [0] ∨ c = d ++ [1] := by simpa using hc
    rcases this with e | e <;> rw [e] <;> refine ⟨by rw [List.length_append, h1]; rfl, fun b hb => ?_⟩ <;> rcases List.mem_append.mp hb with m | m
    · exact h2 b m
    · exact .inl (List.mem_singleton.mp m)
    · exact h2 b m
    · exact .inr (List.mem_singleton.mp m)
theorem allBits_len : ∀ n : Nat, n ≤ 6 → (allBits n).length ≤ 100
  | 0, _ => by decide
  | 1, _ => by decide
  | 2, _ => by decide
  | 3, _ => by decide
  | 4, _ => by decide
  | 5, _ => by decide
  | 6, _ => by decide
  | n + 7, h => by omega
def spRowsL (K : PySem.W.Frag) : Sp := fun vs H Q _ => ∃ (n : Nat), vs = [.int n] ∧ n ≤ 5 ∧ ∀ H' r zs, Same H H' → SqL K H' r zs → DpAll K H' zs ((allBits n).map clD) → Q (.ref r) H'
section
variable {P : Program} {w : World} {K : PySem.W.Frag} {mg : Str → Option Value} {base : Heap} {f C : Addr} {fd : FuncData}
theorem ok_is_clause (T : Txt K mg) (D : Def K mg "_law_is_clause" ["value", "most"] s__law_is_clause f fd) : Own P w K mg base "_law_is_clause" ["value", "most"] 1 (spIsC K) := by
  refine ⟨f, fd, D.mg, D.fn.kp, D.bd, D.fn.ok sc__law_is_clause (fun vs H Q E h => ?_) (fun cdv A outer s H vs Q E hr h => ?_)⟩
  · obtain ⟨t, m, c, rfl, _⟩ := h
    rfl
  · obtain ⟨t, m, c, rfl, ht, hc, q⟩ := h
    refine ⟨_, (pss_cons (ps_if (pt_not (pt_val (pe_callB cr_isiD (by rfl) T.m_isinstance (by decide +kernel) (pa_cons (pv 0) (pa_cons (pe_bltn (v := .ty "tuple") (u := .type "tuple") (by rfl) T.m_tuple (by decide +kernel) (by rfl)) pa_nil))))) (pss_one (ps_ret pe_bl)) pss_nil)
      (pss_cons (ps_for PassesOwn.never rfl (pi_range1 (by rfl) T.m_range (pa_cons (pe_callB call_len_seq (by rfl) T.m_len (by decide +kernel) (pa_cons (pv 0) pa_nil)) pa_nil)) (pg_name (i := 2) sc__law_is_clause.nd rfl (Or.inl rfl)) (pss_cons (ps_if (pt_cut (PW.pt (pw_or (pt_not (pt_val (pe_callB cr_isiD (by rfl) T.m_isinstance (by decide +kernel) (pa_cons (pe_ix ix_tup (pv 0) (pv 2) (fun _ _ => rfl)) (pa_cons (pe_bltn (v := .ty "int") (u := .type "int") (by rfl) T.m_int (by decide +kernel) (by rfl)) pa_nil))))) (pw_or (pt_val (pe_callB cr_isiD (by rfl) T.m_isinstance (by decide +kernel) (pa_cons (pe_ix ix_tup (pv 0) (pv 2) (fun _ _ => rfl)) (pa_cons (pe_bltn (v := .ty "bool") (u := .type "bool") (by rfl) T.m_bool (by decide +kernel) (by rfl)) pa_nil)))) (pw_or1 (pt_not (pt_chain op_le op_le pe_int (pe_callB call_abs (by rfl) T.m_abs (by decide +kernel) (pa_cons (pe_ix ix_tup (pv 0) (pv 2) (fun _ _ => rfl)) pa_nil)) (pv 1)))))))) (pss_one (ps_ret pe_bl)) pss_nil)
      (pss_one (ps_if (pt_cut (PW.pt (pw_and (pt_cmpR op_gt (pv 2) pe_int (nomark _)) (pw_and1 (pt_cmpR op_le (pe_callB call_abs (by rfl) T.m_abs (by decide +kernel) (pa_cons (pe_ix ix_tup (pv 0) (pv 2) (fun _ _ => rfl)) pa_nil)) (pe_callB call_abs (by rfl) T.m_abs (by decide +kernel) (pa_cons (pe_ix ix_tup (pv 0) (pe_op op_sub (pv 2) pe_int) (fun _ _ => rfl)) pa_nil)) (nomark _)))))) (pss_one (ps_ret pe_bl)) pss_nil))))
      (pss_one (ps_ret pe_bl)))), ?_⟩
    have hd : Dp K H (.ref t) (clD c) := .tup ht (ints_all _)
    refine ⟨_, rfl, .ref t, clD c, "tuple", true, rfl, hd, kit_T (clD c), true, rfl, iteF ?_⟩
    refine ⟨_, rfl, t, _, rfl, .inr ht, ?_⟩
    have hcl := hc.len
    refine ⟨_, rfl, by rw [List.length_map]; omega, by rw [List.length_map]; omega, for_range (fun i σ' H' => ∃ o2, σ' = [some (.ref t), some (.int m), o2] ∧ H' = H) ⟨none, rfl, rfl⟩ ?_ ?_⟩
    · rintro i σ' H' hi ⟨o2, rfl, rfl⟩
      rw [List.length_map] at hi
      obtain ⟨z, hz⟩ : ∃ z, c[i]? = some z := ⟨c[i], List.getElem?_eq_getElem hi⟩
      have hat : atI (c.map V.int) (0 + (i : Int)) = some (.int z) := by
        rw [Int.zero_add]
        exact atI_nat (by rw [List.getElem?_map, hz]; rfl)
      have rz := hc.rng z (List.mem_of_getElem? hz)
      refine cut_same false ?_ (iteF ?_)
      · refine ⟨_, rfl, _, rfl, t, _, _, _, rfl, rfl, ht, hat, .int z, .int z, "int", true, rfl, .int z, kit_I (.int z), true, rfl, iteF ?_⟩
        refine ⟨_, rfl, _, rfl, t, _, _, _, rfl, rfl, ht, hat, .int z, .int z, "bool", false, rfl, .int z, kit_B (.int z), false, rfl, iteF ?_⟩
        refine ⟨_, rfl, _, rfl, t, _, _, _, rfl, rfl, ht, hat, z, rfl, ?_⟩
        refine ⟨_, _, rfl, rfl, _, rfl, ?_⟩
        rw [if_pos (show decide (1 ≤ if z < 0 then -z else z) = true from decide_eq_true rz.1)]
        refine ⟨_, rfl, _, _, rfl, rfl, _, rfl, ?_⟩
        refine ⟨?_, rfl⟩
        show (!decide ((if z < 0 then -z else z) ≤ m)) = false
        rw [decide_eq_true (show (if z < 0 then -z else z) ≤ m from rz.2)]
        rfl
      · refine cut_same false ?_ (iteF ?_)
        · refine ⟨_, rfl, _, _, rfl, rfl, ?_⟩
          refine ⟨_, rfl, ite2 (fun b => ?_) (fun b => ⟨rfl, rfl⟩)⟩
          have b : (0 : Int) < 0 + (i : Int) := of_decide_eq_true b
          obtain ⟨y, hy⟩ : ∃ y, c[i - 1]? = some y := ⟨c[i - 1], List.getElem?_eq_getElem (by omega)⟩
          have hat2 : atI (c.map V.int) (0 + (i : Int) - 1) = some (.int y) := by
            rw [show 0 + (i : Int) - 1 = ((i - 1 : Nat) : Int) by omega]
            exact atI_nat (by rw [List.getElem?_map, hy]; rfl)
          have lt : ab y < ab z := by
            have h1 := (List.getElem?_eq_some_iff.mp hy)
            have h2 := (List.getElem?_eq_some_iff.mp hz)
            have := List.pairwise_iff_getElem.mp hc.asc (i - 1) i h1.1 h2.1 (by omega)
            rw [h1.2, h2.2] at this
            exact this
          refine ⟨_, rfl, _, rfl, t, _, _, _, rfl, rfl, ht, hat, z, rfl, _, rfl, _, rfl, _, _, rfl, rfl, t, _, _, _, rfl, rfl, ht, hat2, y, rfl, _, _, rfl, rfl, _, rfl, ?_⟩
          exact ⟨decide_eq_false (show ¬ (ab z ≤ ab y) by omega), rfl⟩
        · exact ⟨_, rfl, rfl⟩
    · rintro σ' H' ⟨o2, rfl, rfl⟩
      exact q
theorem ok_longer (T : Txt K mg) (D : Def K mg "_law_longer" ["rows", "more"] s__law_longer f fd) : Own P w K mg base "_law_longer" ["rows", "more"] 1 (spLonger K) := by
  refine ⟨f, fd, D.mg, D.fn.kp, D.bd, D.fn.ok sc__law_longer (fun vs H Q E h => ?_) (fun cdv A outer s H vs Q E hr h => ?_)⟩
  · obtain ⟨a, b, xs, cs, rfl, _⟩ := h
    rfl
  · obtain ⟨a, b, xs, cs, rfl, ha, hxs, hb, hl, hl1, q⟩ := h
    have hxl : xs.length = cs.length := by rw [dpa_len hxs, List.length_map]
    refine ⟨_, (pss_cons (ps_set (i := 2) sc__law_longer.nd rfl (Or.inl rfl) (pe_lst pa_nil))
      (pss_cons (ps_for PassesOwn.never rfl (pi_list (pv 0)) (pg_name (i := 3) sc__law_longer.nd rfl (Or.inr rfl)) (pss_one (ps_set (i := 2) sc__law_longer.nd rfl (Or.inl rfl) (pe_op op_cat (pv 2) (pe_lc (own := [("x", 4)]) (g := gName 4) (tt := tYes) rfl sc__law_longer.nd (pi_list (pv 1)) (blkOk_by (N := N__law_longer) (sc := defScope s__law_longer) (own := [("x", 4)]) (by decide +kernel)) (fun _ _ _ _ _ => (pg_name (i := 4) sc__law_longer.nd rfl (Or.inl rfl))) (fun _ _ _ _ _ => pts_nil) (fun _ _ _ _ _ => (pe_op (op_catAK (K := K) rfl) (pv 3) (pe_tup (pa_cons (pv 4) pa_nil)))))))))
      (pss_one (ps_ret (pv 2))))), ?_⟩
    refine ⟨by show 0 ≤ sizeLine; decide, fun F hF => ?_⟩
    have s1 := same_new hF (.lst [])
    refine ⟨_, rfl, a, rfl, ⟨_, sql_mono s1 ha⟩, for_list (K := K) (a := a) (xs := xs) (fun i σ' H' => ∃ (F : Addr) (zs : List V) (o3 : Option V), σ' = [some (.ref a), some (.ref b), some (.ref F), o3, none] ∧ H' F = some (.lst zs) ∧ DpAll K H' zs (((cs.take i).flatMap fun c => [c ++ [0], c ++ [1]]).map clD) ∧ Same H H')
      ⟨F, [], none, rfl, upd_same, .nil, s1⟩ (fun i σ' H' _ ⟨_, _, _, _, _, _, s⟩ => sql_mono s ha) ?_ ?_⟩
    · rintro i y σ' H' hi ⟨F, zs, o3, rfl, hF, hzs, sm⟩
      obtain ⟨c, t, hc, rfl, ht⟩ := dpa_atC (dpa_mono sm _ hxs) hi
      refine ⟨_, rfl, _, rfl, b, rfl, ⟨_, sql_mono sm hb⟩, fun D1 hD1 => lc_gen (K := K) (walk_list (K := K) (a := b) (xs := [.int 0, .int 1])) (fun i ds => ds = ([c ++ [0], c ++ [1]].take i).map clD) rfl (by show 2 ≤ 100000; decide) hD1 (fun H3 s3 => sql_mono (sm.trans s3) hb) (fun i x H2 H3 ds Nx Add hi hw s2 hne hy hNx hAdd => ?_) fun H2 zs2 ds hz hd hw s2 => ?_⟩
      · obtain ⟨rfl, hx⟩ := hy
        obtain ⟨z, rfl, hz⟩ : ∃ z, x = V.int z ∧ [c ++ [0], c ++ [1]][i]? = some (c ++ [z]) := by
          match i, hx with
          | 0, hx => cases hx; exact ⟨0, rfl, rfl⟩
          | 1, hx => cases hx; exact ⟨1, rfl, rfl⟩
        subst hw
        refine ⟨rfl, yesV ?_⟩
        rw [if_pos rfl]
        refine ⟨_, rfl, _, rfl, by show 1 ≤ sizeLine; decide, fun u hu => ?_⟩
        have s3 := same_new hu (.tup [.int z])
        have htl := sqt_mono (s2.trans s3) ht
        have hW : (([c ++ [0], c ++ [1]].take i).map clD) ++ [clD (c ++ [z])] = ([c ++ [0], c ++ [1]].take (i + 1)).map clD := by
          rw [take_nextV hz, List.map_append]
          rfl
        have nu : ∀ (H9 : Hp) (p : Addr), H9 p = none → Same H3 H9 → p ≠ D1 := fun H9 p hp s9 e => by
          cases q9 : H3 D1 with
          | none => exact hne q9
          | some o => rw [← e] at q9; rw [s9 _ _ q9] at hp; cases hp
        refine ⟨t, u, _, _, rfl, rfl, htl, SqT.of upd_same, ?_, fun e => ?_, fun _ e => (by cases e), fun e _ p hp => ?_⟩
        · have := hl1 c (List.mem_of_getElem? hc)
          rw [List.length_map]
          exact Nat.le_trans (show c.length + 1 ≤ 101 by omega) (by decide)
        · have ec : c = [] := by cases c with
            | nil => rfl
            | cons a r => cases e
          refine hAdd _ (clD (c ++ [z])) _ s3 (.tup (SqT.of (xs := [.int z]) (by rw [hide_ne (nu _ _ hu (Same.refl _)), upd_same])) (by rw [ec]; exact ints_all [z])) hW
        · refine hAdd _ (clD (c ++ [z])) _ (s3.trans (same_new hp _)) (.tup (SqT.of (xs := c.map V.int ++ [.int z]) (by rw [hide_ne (nu _ _ hp s3), upd_same])) ?_) hW
          have := ints_all (K := K) (H := hide D1 (upd (upd H3 u (.tup [.int z])) p (.tup (c.map V.int ++ [.int z])))) (c ++ [z])
          rw [List.map_append] at this
          exact this
      · subst hw
        have hz2 : zs2.length = 2 := by rw [dpa_len hd]; rfl
        refine ⟨F, D1, zs, zs2, rfl, rfl, s2 _ _ hF, hz, ?_, fun p hp => ⟨p, _, _, rfl, upd_same, ?_, (sm.trans s2).trans (same_new hp _)⟩⟩
        · have h1 := dpa_len hzs
          rw [List.length_map, flat2_len, List.length_take] at h1
          exact Nat.le_trans (show zs.length + zs2.length ≤ 202 by omega) (by decide)
        · rw [take_nextV hc, List.flatMap_append, List.map_append]
          refine dpa_app (dpa_mono (s2.trans (same_new hp _)) _ hzs) (dpa_mono (same_new hp _) _ (dpa_mono hide_le _ hd))
    · rintro σ' H' ⟨F, zs, o3, rfl, hF, hzs, sm⟩
      rw [hxl, List.take_length] at hzs
      exact ⟨_, rfl, q H' F zs sm (SqL.of hF) hzs⟩
theorem ok_rowsL (T : Txt K mg) (D : Def K mg "_law_rows" ["many"] s__law_rows f fd) (O1 : Own P w K mg base "_law_longer" ["rows", "more"] 1 (spLonger K)) : Own P w K mg base "_law_rows" ["many"] 2 (spRowsL K) := by
  obtain ⟨f_law_longer, fd_law_longer, m_law_longer, k_law_longer, b_law_longer, G_law_longer⟩ := O1
  refine ⟨f, fd, D.mg, D.fn.kp, D.bd, D.fn.ok sc__law_rows (fun vs H Q E h => ?_) (fun cdv A outer s H vs Q E hr h => ?_)⟩
  · obtain ⟨n, rfl, _⟩ := h
    rfl
  · obtain ⟨n, rfl, hn, q⟩ := h
    refine ⟨_, (pss_cons (ps_set (i := 1) sc__law_rows.nd rfl (Or.inl rfl) (pe_lst (pa_cons (pe_tup pa_nil) pa_nil)))
      (pss_cons (ps_for PassesOwn.never rfl (pi_range1 (by rfl) T.m_range (pa_cons (pv 0) pa_nil)) (pg_name (i := 2) sc__law_rows.nd rfl (Or.inl rfl)) (pss_one (ps_set (i := 1) sc__law_rows.nd rfl (Or.inl rfl) (pe_call G_law_longer (hr.mono (by omega)) rfl m_law_longer k_law_longer b_law_longer .nil pass0 (pa_cons (pv 1) (pa_cons (pe_lst (pa_cons pe_int (pa_cons pe_int pa_nil))) pa_nil))))))
      (pss_one (ps_ret (pv 1))))), ?_⟩
    refine ⟨by show 0 ≤ sizeLine; decide, fun t ht => ⟨by show 1 ≤ sizeLine; decide, fun F hF => ?_⟩⟩
    have s1 := (same_new ht (.tup [])).trans (same_new hF (.lst [.ref t]))
    refine ⟨_, rfl, n, rfl, by omega, by omega, for_range (fun i σ' H' => ∃ (F : Addr) (zs : List V) (o2 : Option V), σ' = [some (.int n), some (.ref F), o2] ∧ SqL K H' F zs ∧ DpAll K H' zs ((allBits i).map clD) ∧ Same H H') ⟨F, [.ref t], none, rfl, SqL.of upd_same, .cons (.tup (SqT.of (same_new hF _ _ _ upd_same)) .nil) .nil, s1⟩ ?_ ?_⟩
    · rintro i σ' H' hi ⟨F, zs, o2, rfl, hF, hzs, sm⟩
      refine ⟨_, rfl, by show 2 ≤ sizeLine; decide, fun l hl => ?_⟩
      have s2 := same_new hl (.lst [.int 0, .int 1])
      refine ⟨F, l, zs, allBits i, rfl, sql_mono s2 hF, dpa_mono s2 _ hzs, SqL.of upd_same, allBits_len i (by omega), fun c hc => by rw [(allBits_mem hc).1]; omega, fun H2 r us s3 hr2 hus => ?_⟩
      exact ⟨r, us, _, rfl, hr2, hus, (sm.trans s2).trans s3⟩
    · rintro σ' H' ⟨F, zs, o2, rfl, hF, hzs, sm⟩
      exact ⟨_, rfl, q H' F zs sm hF hzs⟩
end
end My


set_option Elab.async false
set_option maxRecDepth 100000
set_option maxHeartbeats 4000000
set_option linter.all false
namespace My
open PySem L2 PyProof.Rows
open C8 (pss_cut)
def seenK (ys : List Int) : List (Key × V) := ys.map fun y => (Sum.inl y, V.bl true)
theorem seen_val (ys : List Int) (k : Int) : (valV (seenK ys) (.inl k)).isSome = decide (k ∈ ys) := by
  unfold seenK
  induction ys with
  | nil => rfl
  | cons y ys ih =>
    unfold valV at *
    rw [List.map_cons]
    by_cases h : y = k
    · rw [List.find?_cons_of_pos (by simp [h]), decide_eq_true (by rw [h]; exact List.mem_cons_self)]
      rfl
    · rw [List.find?_cons_of_neg (by simp [h]), ih]
      by_cases h2 : k ∈ ys
      · rw [decide_eq_true h2, decide_eq_true (List.mem_cons_of_mem _ h2)]
      · rw [decide_eq_false h2, decide_eq_false (fun m => (List.mem_cons.mp m).elim (fun e => h e.symm) h2)]
theorem seen_put {ys : List Int} {k : Int} (h : k ∉ ys) : putK (seenK ys) (.inl k) (.bl true) = seenK (ys ++ [k]) := by
  have e := seen_val ys k
  rw [decide_eq_false h] at e
  unfold putK
  rw [valV_any, e]
  unfold seenK
  rw [List.map_append]
  rfl
def halfV : V → V
  | .int x => .int (x / 2)
  | v => v
theorem halfV_map (xs : List Int) : (xs.map V.int).map halfV = (xs.map fun x => x / 2).map V.int := by
  rw [List.map_map, List.map_map]
  rfl
structure CI (gs : List Gt) (xs : List Int) (H0 H' : Hp) (S T F : Addr) (ys ts : List Int) : Prop where
  s : Same H0 H'
  sS : H' S = some (.dK (seenK ys))
  sT : H' T = some (.lst (ts.map V.int))
  sF : H' F = some (.lst (ys.map V.int))
  nTF : T ≠ F
  fS : H0 S = none
  fT : H0 T = none
  fF : H0 F = none
  nd : ys.Nodup
  ry : ∀ y ∈ ys, 0 ≤ y ∧ y < (gs.length : Int)
  rt : ∀ y ∈ ts, 0 ≤ y ∧ y < (gs.length : Int)
  has : ∀ x ∈ xs, x / 2 ∈ ys ∨ x / 2 ∈ ts
  cl : ∀ y ∈ ys, ∀ g, gs[y.toNat]? = some g → ∀ z ∈ g.parts, z / 2 ∈ ys ∨ z / 2 ∈ ts
  len : ts.length ≤ 100 + 3 * ys.length
  pos : (∀ x ∈ xs, 2 ≤ x) → (∀ y ∈ ys, 1 ≤ y) ∧ ∀ y ∈ ts, 1 ≤ y
theorem few_of {ys : List Int} {n : Nat} (nd : ys.Nodup) (h : ∀ y ∈ ys, 0 ≤ y ∧ y < (n : Int)) : ys.length ≤ n := by
  have := List.Nodup.length_le_of_subset (l₂ := (List.range n).map fun (i : Nat) => (i : Int)) nd fun y hy => List.mem_map.mpr ⟨y.toNat, List.mem_range.mpr (by have := h y hy; omega), by have := h y hy; omega⟩
  rw [List.length_map, List.length_range] at this
  exact this
theorem parts_len (g : Gt) : g.parts.length ≤ 3 := by cases g <;> simp [Gt.parts]
def spCone (P : Program) (w : World) (K : PySem.W.Frag) (C : Addr) : Sp := fun vs H Q _ => ∃ (H0 : Hp) (p G D l S : Addr) (gs : List Gt) (xs : List Int), vs = [.ref p, .ref l, .ref S] ∧ Same H0 H ∧ H0 S = none ∧ H S = some (.dK []) ∧ PoolAt P w K H0 C p G D gs ∧ SqL K H0 l (xs.map V.int) ∧ (∀ x ∈ xs, okL gs x) ∧ xs.length ≤ 100 ∧ gs.length ≤ 10000 ∧
  ∀ H' r ys, Same H0 H' → H' r = some (.lst (ys.map V.int)) → Cone gs xs ys → Q (.ref r) H'
section
variable {P : Program} {w : World} {K : PySem.W.Frag} {mg : Str → Option Value} {base : Heap} {f C : Addr} {fd : FuncData}
theorem ok_cone (T : Txt K mg) (PK : PlK K C) (D : DefM K C "cone" "Pool.cone" ["self", "literals", "seen"] s_Pool_cone f fd) : OwnM P w K mg base C "cone" ["self", "literals", "seen"] 1 (spCone P w K C) := by
  refine ⟨f, fd, D.me, D.bd, D.fn.ok sc_Pool_cone (fun vs H Q E h => ?_) (fun cdv A outer s H9 vs Q E hr h => ?_)⟩
  · obtain ⟨H0, p, G, D', l, S, gs, xs, rfl, _⟩ := h
    rfl
  · obtain ⟨H, p, G, D', l, S, gs, xs, rfl, s1, hS, hS1, A0, hl, hx, hxl, h64, q⟩ := h
    obtain ⟨dx, ts0, h1, h2, h3, h4, h5⟩ := A0.at_
    have hu := hu_of hr
    refine ⟨_, (pss_cons (ps_set (i := 3) sc_Pool_cone.nd rfl (Or.inl rfl) (pe_lst pa_nil))
      (pss_cons (ps_setLc (i := 4) (own := [("x", 7)]) (g := gName 7) (tt := tYes) rfl sc_Pool_cone.nd rfl rfl (sw_true rfl rfl rfl (by decide +kernel)) (pi_list (pv 1)) (blkOk_by (N := N_Pool_cone) (sc := defScope s_Pool_cone) (own := [("x", 7)]) (by decide +kernel)) (fun _ _ _ _ _ => (pg_name (i := 7) sc_Pool_cone.nd rfl (Or.inl rfl))) (fun _ _ _ _ _ => pts_nil) (fun _ _ _ _ _ => (pe_op op_shr (pv 7) pe_int)))
      (pss_cons (ps_while PassesOwn.never (pt_cmpR op_gt (pe_callB call_len_seq (by rfl) T.m_len (by decide +kernel) (pa_cons (pv 4) pa_nil)) pe_int (nomark _)) (pss_cons (ps_set (i := 5) sc_Pool_cone.nd rfl (Or.inl rfl) (pe_bm0 PySem.F.plainAttrs_list PySem.F.slot_list_pop PySem.F.type_list_pop mt_pop (pv 4)))
      (pss_one (ps_if (pt_cmp (pc_dnotin hu (pv 5) (pv 2))) (pss_cons (ps_dput hu (pv 2) (pv 5) pe_bl rfl)
      (pss_cons (ps_expr (pe_bm PySem.F.plainAttrs_list PySem.F.slot_list_append PySem.F.type_list_append mt_append (pv 3) (pa_cons (pv 5) pa_nil)))
      (pss_cons (ps_set (i := 6) sc_Pool_cone.nd rfl (Or.inl rfl) (pe_ix ix_list (pe_fld (pv 0) (by rfl)) (pv 5) (fun _ _ => rfl)))
      (pss_one (ps_if (pt_cmpR op_ne (pe_ix ix_tup (pv 6) pe_int (fun _ _ => rfl)) pe_str (nomark _)) (pss_one (ps_expr (pe_bm PySem.F.plainAttrs_list PySem.F.slot_list_extend PySem.F.type_list_extend mt_extend (pv 4) (pa_cons (pe_lc (own := [("x", 7)]) (g := gName 7) (tt := tYes) rfl sc_Pool_cone.nd (pi_tup (pe_slice sl_tup (pv 6) (po_some pe_int) po_none)) (blkOk_by (N := N_Pool_cone) (sc := defScope s_Pool_cone) (own := [("x", 7)]) (by decide +kernel)) (fun _ _ _ _ _ => (pg_name (i := 7) sc_Pool_cone.nd rfl (Or.inl rfl))) (fun _ _ _ _ _ => pts_nil) (fun _ _ _ _ _ => (pe_op op_shr (pv 7) pe_int))) pa_nil)))) pss_nil))))) pss_nil))))
      (pss_one (ps_ret (pe_callB cr_sortedI (by rfl) T.m_sorted (by decide +kernel) (pa_cons (pv 3) pa_nil))))))), ?_⟩
    have hN : ∀ x ∈ xs.map (fun x => x / 2), 0 ≤ x ∧ x < (gs.length : Int) := fun x hm => by
      obtain ⟨z, hz, rfl⟩ := List.mem_map.mp hm
      have := (hx z hz).1
      have := (hx z hz).2
      omega
    refine ⟨by show 0 ≤ sizeLine; decide, fun F hF => ?_⟩
    have s0 := same_new hF (.lst [])
    have sF := s1.trans s0
    refine ⟨_, rfl, l, rfl, ⟨_, sql_mono sF hl⟩, fun TD hTD => lc_mapL halfV (sql_mono sF hl) (by rw [List.length_map]; omega) hTD (fun _ => rfl) (fun y H2 R hy s2 r => ?_) fun H1 h1' s2 => ?_⟩
    · obtain ⟨x, hx', rfl⟩ := List.mem_map.mp hy
      exact ⟨_, rfl, _, _, rfl, rfl, (by show (0 : Int) ≤ 1; decide), r⟩
    rw [halfV_map] at h1'
    have fT : H TD = none := by
      cases e : H TD with
      | none => rfl
      | some u =>
        rw [sF _ _ e] at hTD
        cases hTD
    have fF : H F = none := by
      cases e : H F with
      | none => rfl
      | some u =>
        rw [s1 _ _ e] at hF
        cases hF
    have nTF : TD ≠ F := fun e => by rw [e, upd_same] at hTD; cases hTD
    have I0 : CI gs xs H H1 S TD F [] (xs.map fun x => x / 2) := ⟨sF.trans s2, s2 _ _ (s0 _ _ hS1), h1', s2 _ _ upd_same, nTF, hS, fT, fF, List.nodup_nil, (fun y hy => nomatch hy), hN, (fun x hx => .inr (List.mem_map.mpr ⟨x, hx, rfl⟩)), (fun y hy => nomatch hy), by rw [List.length_map]; omega, fun h => ⟨(fun y hy => nomatch hy), fun y hy => by obtain ⟨z, hz, rfl⟩ := List.mem_map.mp hy; have := h z hz; omega⟩⟩
    refine ⟨fun m σ' H' => ∃ (ys ts : List Int) (o4 o5 : Option V), σ' = [some (.ref p), some (.ref l), some (.ref S), some (.ref F), some (.ref TD), o4, o5, none] ∧ CI gs xs H H' S TD F ys ts ∧ m = 4 * (gs.length - ys.length) + ts.length, ⟨_, [], _, none, none, rfl, I0, rfl⟩, ?_⟩
    rintro m σ' H' ⟨ys, ts, o4, o5, rfl, I, rfl⟩
    have nST : S ≠ TD := ne_of I.sS I.sT (by intro z; cases z)
    have nSF : S ≠ F := ne_of I.sS I.sF (by intro z; cases z)
    refine ⟨_, rfl, TD, _, rfl, .inl (SqL.of I.sT), _, _, rfl, rfl, _, rfl, ite2 (fun c => ?_) (fun c => ?_)⟩
    · have c : (0 : Int) < ((ts.map V.int).length : Int) := of_decide_eq_true c
      rw [List.length_map] at c
      obtain ⟨t1, k, rfl⟩ : ∃ t1 k, ts = t1 ++ [k] := by
        rcases snoc_cases ts with e | e
        · rw [e] at c; exact absurd c (by decide)
        · exact e
      have rk := I.rt k (List.mem_append_right _ (List.mem_singleton_self k))
      refine ⟨fun σ2 H2 => ∃ (ys2 ts2 : List Int) (o4 o5 : Option V), σ2 = [some (.ref p), some (.ref l), some (.ref S), some (.ref F), some (.ref TD), o4, o5, none] ∧ CI gs xs H H2 S TD F ys2 ts2 ∧ 4 * (gs.length - ys2.length) + ts2.length < 4 * (gs.length - ys.length) + (t1 ++ [k]).length, fun σ2 H2 ⟨ys2, ts2, o4, o5, e1, e2, e3⟩ => ⟨_, e3, ys2, ts2, o4, o5, e1, e2, rfl⟩, ?_⟩
      have hdl : ((t1 ++ [k]).map V.int).dropLast = t1.map V.int := by rw [List.map_append]; exact List.dropLast_concat
      refine ⟨_, rfl, .inl ⟨rfl, _, SqL.of I.sT⟩, TD, _, .int k, rfl, rfl, I.sT, ?_, ?_⟩
      · rw [List.map_append, List.length_append]
        show (t1.map V.int ++ [V.int k])[(t1.map V.int).length + 1 - 1]? = _
        rw [List.getElem?_append_right (by omega), show (t1.map V.int).length + 1 - 1 - (t1.map V.int).length = 0 by omega]
        rfl
      rw [hdl]
      have sA : Same H (upd H' TD (.lst (t1.map V.int))) := fun b o hb => by
        rw [upd_ne (ne_of_none hb I.fT)]
        exact I.s b o hb
      have sFA : (upd H' TD (.lst (t1.map V.int))) F = some (.lst (ys.map V.int)) := by rw [upd_ne nTF.symm]; exact I.sF
      have sSA : (upd H' TD (.lst (t1.map V.int))) S = some (.dK (seenK ys)) := by rw [upd_ne nST]; exact I.sS
      refine ⟨_, rfl, _, rfl, S, _, rfl, DGet.k (k := .inl k) sSA, _, rfl, ?_⟩
      rw [seen_val]
      by_cases hk : k ∈ ys
      · rw [decide_eq_true hk]
        refine iteF ?_
        refine ⟨ys, t1, _, _, rfl, ⟨sA, sSA, upd_same, sFA, nTF, I.fS, I.fT, I.fF, I.nd, I.ry, fun y hy => I.rt y (List.mem_append_left _ hy), fun x hx => ?_, fun y hy g hg z hz => ?_, by have := I.len; rw [List.length_append] at this; omega, fun h => ⟨(I.pos h).1, fun y hy => (I.pos h).2 y (List.mem_append_left _ hy)⟩⟩, by rw [List.length_append, List.length_singleton]; omega⟩
        · rcases I.has x hx with h | h
          · exact .inl h
          · rcases List.mem_append.mp h with h | h
            · exact .inr h
            · rw [List.mem_singleton.mp h]; exact .inl hk
        · rcases I.cl y hy g hg z hz with h | h
          · exact .inl h
          · rcases List.mem_append.mp h with h | h
            · exact .inr h
            · rw [List.mem_singleton.mp h]; exact .inl hk
      · rw [decide_eq_false hk]
        refine iteT ?_
        have ysl := few_of I.nd I.ry
        have nd2 : (ys ++ [k]).Nodup := by
          rw [List.nodup_append]
          exact ⟨I.nd, by simp, fun a ha b hb e => hk (by rw [← List.mem_singleton.mp hb, ← e]; exact ha)⟩
        have ry2 : ∀ y ∈ ys ++ [k], 0 ≤ y ∧ y < (gs.length : Int) := fun y hy => by
          rcases List.mem_append.mp hy with h | h
          · exact I.ry y h
          · rw [List.mem_singleton.mp h]; exact rk
        have ysl2 := few_of nd2 ry2
        rw [List.length_append, List.length_singleton] at ysl2
        refine ⟨_, rfl, _, rfl, S, _, rfl, DPut.k (k := .inl k) sSA (by unfold seenK; rw [List.length_map]; exact Nat.lt_of_le_of_lt (Nat.le_trans ysl h64) (by decide)), ?_⟩
        rw [seen_put hk]
        have sB0 : Same H (upd (upd H' TD (.lst (t1.map V.int))) S (.dK (seenK (ys ++ [k])))) := fun b o hb => by
          rw [upd_ne (ne_of_none hb I.fS)]
          exact sA b o hb
        have sFB0 : (upd (upd H' TD (.lst (t1.map V.int))) S (.dK (seenK (ys ++ [k])))) F = some (.lst (ys.map V.int)) := by rw [upd_ne nSF.symm]; exact sFA
        refine ⟨_, rfl, .inl ⟨rfl, _, SqL.of sFB0⟩, _, rfl, F, _, _, rfl, rfl, sFB0, by rw [List.length_map]; exact Nat.lt_of_le_of_lt (Nat.le_trans ysl h64) (by decide), ?_⟩
        have eF : ys.map V.int ++ [V.int k] = (ys ++ [k]).map V.int := by rw [List.map_append]; rfl
        rw [eF]
        have sB : Same H (upd (upd (upd H' TD (.lst (t1.map V.int))) S (.dK (seenK (ys ++ [k])))) F (.lst ((ys ++ [k]).map V.int))) := fun b o hb => by
          rw [upd_ne (ne_of_none hb I.fF)]
          exact sB0 b o hb
        have sSB : (upd (upd (upd H' TD (.lst (t1.map V.int))) S (.dK (seenK (ys ++ [k])))) F (.lst ((ys ++ [k]).map V.int))) S = some (.dK (seenK (ys ++ [k]))) := by rw [upd_ne nSF]; exact upd_same
        have sTB : (upd (upd (upd H' TD (.lst (t1.map V.int))) S (.dK (seenK (ys ++ [k])))) F (.lst ((ys ++ [k]).map V.int))) TD = some (.lst (t1.map V.int)) := by rw [upd_ne nTF, upd_ne nST.symm]; exact upd_same
        have sFB : (upd (upd (upd H' TD (.lst (t1.map V.int))) S (.dK (seenK (ys ++ [k])))) F (.lst ((ys ++ [k]).map V.int))) F = some (.lst ((ys ++ [k]).map V.int)) := upd_same
        obtain ⟨g, hg⟩ : ∃ g, gs[k.toNat]? = some g := ⟨gs[k.toNat]'(by omega), List.getElem?_eq_getElem (by omega)⟩
        obtain ⟨t, htk⟩ : ∃ t, ts0[k.toNat]? = some t := ⟨ts0[k.toNat]'(by omega), List.getElem?_eq_getElem (by omega)⟩
        obtain ⟨hd, _⟩ := h4 _ g t hg htk
        have hdB := dp_mono sB _ hd
        have hat : atI (ts0.map V.ref) k = some (.ref t) := by
          have e := atI_nat (xs := ts0.map V.ref) (j := k.toNat) (v := .ref t) (by rw [List.getElem?_map, htk]; rfl)
          rw [show ((k.toNat : Nat) : Int) = k by omega] at e
          exact e
        refine ⟨_, rfl, p, C, dx, _, _, rfl, sB _ _ h1, PK.cls, PK.g, plFs_g _ _, _, rfl, G, _, k, _, rfl, rfl, SqL.of (sB _ _ h2), hat, ?_⟩
        have cl2 : ∀ (more : List Int), (∀ z ∈ g.parts, z / 2 ∈ more) → ∀ y ∈ ys ++ [k], ∀ g', gs[y.toNat]? = some g' → ∀ z ∈ g'.parts, z / 2 ∈ ys ++ [k] ∨ z / 2 ∈ t1 ++ more := fun more hm y hy g' hg' z hz => by
          rcases List.mem_append.mp hy with h | h
          · rcases I.cl y h g' hg' z hz with h | h
            · exact .inl (List.mem_append_left _ h)
            · rcases List.mem_append.mp h with h | h
              · exact .inr (List.mem_append_left _ h)
              · exact .inl (List.mem_append_right _ h)
          · rw [List.mem_singleton.mp h, hg] at hg'
            cases hg'
            exact .inr (List.mem_append_right _ (hm z hz))
        have has2 : ∀ (more : List Int), ∀ x ∈ xs, x / 2 ∈ ys ++ [k] ∨ x / 2 ∈ t1 ++ more := fun more x hx => by
          rcases I.has x hx with h | h
          · exact .inl (List.mem_append_left _ h)
          · rcases List.mem_append.mp h with h | h
            · exact .inr (List.mem_append_left _ h)
            · exact .inl (List.mem_append_right _ h)
        have pos2 : ∀ (more ts2 : List Int), (∀ y ∈ ts2, y ∈ t1 ∨ y ∈ more) → (∀ y ∈ more, 1 ≤ y) → (∀ x ∈ xs, 2 ≤ x) → (∀ y ∈ ys ++ [k], 1 ≤ y) ∧ ∀ y ∈ ts2, 1 ≤ y := fun more ts2 h1 h2 h => by
          obtain ⟨p1, p2⟩ := I.pos h
          refine ⟨fun y hy => ?_, fun y hy => ?_⟩
          · rcases List.mem_append.mp hy with m | m
            · exact p1 y m
            · rw [List.mem_singleton.mp m]; exact p2 k (List.mem_append_right _ (List.mem_singleton_self k))
          · rcases h1 y hy with m | m
            · exact p2 y (List.mem_append_left _ m)
            · exact h2 y m
        have hlen := I.len
        rw [List.length_append, List.length_singleton] at hlen
        cases hb : g.isBit with
        | true =>
          obtain ⟨n, rfl⟩ : ∃ n, g = .bit n := by
            cases g with
            | bit n => exact ⟨n, rfl⟩
            | _ => cases hb
          obtain ⟨v, hs, hv⟩ := bit_seq hdB
          refine ⟨_, rfl, t, _, _, _, rfl, rfl, hs, rfl, rfl, _, rfl, ite2 (fun c => absurd c (by show ¬ ((!decide (V.str "bit" = V.str "bit")) = true); decide +kernel)) (fun _ => ?_)⟩
          refine ⟨ys ++ [k], t1, _, _, rfl, ⟨sB, sSB, sTB, sFB, nTF, I.fS, I.fT, I.fF, nd2, ry2, fun y hy => I.rt y (List.mem_append_left _ hy), fun x hx => ?_, fun y hy g hg z hz => ?_, by rw [List.length_append]; omega, pos2 [] t1 (fun y hy => .inl hy) (fun y hy => nomatch hy)⟩, by rw [List.length_append, List.length_append, List.length_singleton]; omega⟩
          · have := has2 [] x hx
            rw [List.append_nil] at this
            exact this
          · have := cl2 [] (fun z hz => nomatch hz) y hy g hg z hz
            rw [List.append_nil] at this
            exact this
        | false =>
          have hs := gt_seq hb hdB
          refine ⟨_, rfl, t, _, _, _, rfl, rfl, hs, at0', rfl, _, rfl, ite2 (fun _ => ?_) (fun c => absurd (by show (!decide (V.str (kindS g) = V.str "bit")) = true; rw [Bool.not_eq_true'] ; exact Bool.eq_false_iff.mpr (kind_no hb)) c)⟩
          refine ⟨_, rfl, .inl ⟨rfl, _, SqL.of sTB⟩, _, rfl, _, rfl, t, _, rfl, hs, not_whole _ _ _, fun p2 hp2 => ?_⟩
          rw [cut_from1]
          have sC := same_new hp2 (.tup ((V.str (kindS g) :: g.parts.map V.int).drop 1))
          have hl3 := parts_len g
          refine ⟨p2, rfl, ⟨_, SqT.of upd_same⟩, fun D1 hD1 => lc_mapT halfV (SqT.of upd_same) (by show (g.parts.map V.int).length ≤ 1000; rw [List.length_map]; omega) hD1 (fun _ => rfl) (fun y H2 R hy s2 r => ?_) fun H3 h3' s3 => ?_⟩
          · obtain ⟨x, hx, rfl⟩ := List.mem_map.mp (show y ∈ g.parts.map V.int from hy)
            exact ⟨_, rfl, _, _, rfl, rfl, (by show (0 : Int) ≤ 1; decide), r⟩
          rw [show (V.str (kindS g) :: g.parts.map V.int).drop 1 = g.parts.map V.int from rfl, halfV_map] at h3'
          have sD := (sC.trans s3)
          refine ⟨TD, D1, _, _, rfl, rfl, sD _ _ sTB, h3', ?_, ?_⟩
          · rw [List.length_map, List.length_map, List.length_map]
            exact Nat.le_trans (by omega) (show 40000 ≤ sizeLine by decide)
          have sE : Same H (upd H3 TD (.lst (t1.map V.int ++ (g.parts.map fun x => x / 2).map V.int))) := fun b o hb => by
            rw [upd_ne (ne_of_none hb I.fT)]
            exact sD _ _ (sB b o hb)
          refine ⟨ys ++ [k], t1 ++ g.parts.map (fun x => x / 2), _, _, rfl, ⟨sE, by rw [upd_ne nST]; exact sD _ _ sSB, by rw [upd_same, List.map_append], by rw [upd_ne nTF.symm]; exact sD _ _ sFB, nTF, I.fS, I.fT, I.fF, nd2, ry2, fun y hy => ?_, has2 _, cl2 _ (fun z hz => List.mem_map.mpr ⟨z, hz, rfl⟩), by rw [List.length_append, List.length_append, List.length_map, List.length_singleton]; omega, pos2 (g.parts.map fun x => x / 2) _ (fun y hy => (List.mem_append.mp hy).imp id id) (fun y hy => by obtain ⟨z, hz, rfl⟩ := List.mem_map.mp hy; have := (A0.ok.neat _ g hg).big z hz; omega)⟩, ?_⟩
          · rcases List.mem_append.mp hy with h | h
            · exact I.rt y (List.mem_append_left _ h)
            · obtain ⟨z, hz, rfl⟩ := List.mem_map.mp h
              have := A0.ok.parts _ g hg z hz
              omega
          · rw [List.length_append, List.length_append, List.length_append, List.length_map, List.length_singleton]
            omega
    · have c : ¬ (0 : Int) < ((ts.map V.int).length : Int) := fun z => c (decide_eq_true z)
      rw [List.length_map] at c
      have e0 : ts = [] := List.length_eq_zero_iff.mp (by omega)
      rw [e0] at I
      have ysl := few_of I.nd I.ry
      refine ⟨_, rfl, F, ys, rfl, SqL.of I.sF, fun zs r pm asc hr' => ?_⟩
      refine q _ r zs (I.s.trans (same_new hr' _)) upd_same ⟨?_, fun y hy => I.ry y (pm.mem_iff.mp hy), fun x hx => ?_, fun y hy g hg z hz => ?_, fun h y hy => (I.pos h).1 y (pm.mem_iff.mp hy)⟩
      · have ndz : zs.Nodup := pm.nodup_iff.mpr I.nd
        exact (asc.and ndz).imp fun {a b} h => by have := h.1; have := h.2; omega
      · rcases I.has x hx with h | h
        · exact pm.mem_iff.mpr h
        · cases h
      · rcases I.cl y (pm.mem_iff.mp hy) g hg z hz with h | h
        · exact pm.mem_iff.mpr h
        · cases h
end
end My


set_option Elab.async false
set_option maxRecDepth 100000
set_option maxHeartbeats 4000000
set_option linter.all false
namespace My
open PySem L2 PyProof.Rows
open C8 (pss_cut)
def foundK (bs : List Int) (ys : List Int) : List (Key × V) := ys.map fun y => (Sum.inl y, V.int (bs.getD y.toNat 0))
theorem found_val {bs ys : List Int} {k : Int} (h : k ∈ ys) : valV (foundK bs ys) (.inl k) = some (.int (bs.getD k.toNat 0)) := by
  unfold foundK
  induction ys with
  | nil => cases h
  | cons y ys ih =>
    unfold valV at *
    rw [List.map_cons]
    by_cases e : y = k
    · rw [List.find?_cons_of_pos (by simp [e]), e]
      rfl
    · rw [List.find?_cons_of_neg (by simp [e])]
      exact ih ((List.mem_cons.mp h).resolve_left fun z => e z.symm)
theorem found_no {bs ys : List Int} {k : Int} (h : k ∉ ys) : valV (foundK bs ys) (.inl k) = none := by
  unfold foundK
  induction ys with
  | nil => rfl
  | cons y ys ih =>
    unfold valV at *
    rw [List.map_cons, List.find?_cons_of_neg (by simp; exact fun e => h (by rw [e]; exact List.mem_cons_self))]
    exact ih fun m => h (List.mem_cons_of_mem _ m)
theorem found_put {bs ys : List Int} {k : Int} (h : k ∉ ys) : putK (foundK bs ys) (.inl k) (.int (bs.getD k.toNat 0)) = foundK bs (ys ++ [k]) := by
  have e := found_no (bs := bs) h
  unfold putK
  rw [valV_any, e]
  unfold foundK
  rw [List.map_append]
  rfl
def spComp (P : Program) (w : World) (K : PySem.W.Frag) (C : Addr) : Sp := fun vs H Q _ => ∃ (p G D l a : Addr) (gs : List Gt) (xs : List Int) (rows : NRows), vs = [.ref p, .ref l, .ref a] ∧ PoolAt P w K H C p G D gs ∧ SqL K H l (xs.map V.int) ∧ (∀ x ∈ xs, okL gs x) ∧ xs.length ≤ 100 ∧ gs.length ≤ 10000 ∧ BitsAt P w K H a rows ∧
  ∀ H' r, Same H H' → H' r = some (.lst ((xs.map (litv (bitsOf (envOf rows) gs))).map V.int)) → Q (.ref r) H'
def spVal (P : Program) (w : World) (K : PySem.W.Frag) (C : Addr) : Sp := fun vs H Q _ => ∃ (p G D a : Addr) (gs : List Gt) (x : Int) (rows : NRows), vs = [.ref p, .int x, .ref a] ∧ PoolAt P w K H C p G D gs ∧ okL gs x ∧ gs.length ≤ 10000 ∧ BitsAt P w K H a rows ∧
  ∀ H', Same H H' → Q (.int (litv (bitsOf (envOf rows) gs) x)) H'
theorem BitsAt.keep {P : Program} {w : World} {K : PySem.W.Frag} {H H' : Hp} {a : Addr} {rows : NRows} (B : BitsAt P w K H a rows) {S : List Addr} (hS : ∀ a ∈ S, Mut (H a)) (hb : But S H H') (na : a ∉ S) : BitsAt P w K H' a rows := by
  refine ⟨⟨?_, B.dn.len, fun x hx => ?_⟩, B.bit⟩
  · rcases B.dn.at_ with e | ⟨e0, e⟩
    · exact .inl (hb _ _ na e)
    · exact .inr ⟨e0, hb _ _ na e⟩
  · obtain ⟨k1, k2⟩ := B.dn.keys x hx
    exact ⟨dp_but hS hb _ (nk_noLst _) k1, k2⟩
theorem BitsAt.same {P : Program} {w : World} {K : PySem.W.Frag} {H H' : Hp} {a : Addr} {rows : NRows} (B : BitsAt P w K H a rows) (s : Same H H') : BitsAt P w K H' a rows := B.keep (S := []) (fun _ h => nomatch h) (.of_same s) (fun h => nomatch h)
section
variable {P : Program} {w : World} {K : PySem.W.Frag} {mg : Str → Option Value} {base : Heap} {f C : Addr} {fd : FuncData}
theorem ok_computed (T : Txt K mg) (PK : PlK K C) (D : DefM K C "computed" "Pool.computed" ["self", "literals", "bits"] s_Pool_computed f fd) (O1 : OwnM P w K mg base C "cone" ["self", "literals", "seen"] 1 (spCone P w K C)) (O2 : Own P w K mg base "gate_value" ["gate", "found", "bits"] 1 (spGV P w K)) : OwnM P w K mg base C "computed" ["self", "literals", "bits"] 2 (spComp P w K C) := by
  obtain ⟨fcone, fdcone, Mcone, bcone, Gcone⟩ := O1
  obtain ⟨fgate_value, fdgate_value, mgate_value, kgate_value, bgate_value, Ggate_value⟩ := O2
  refine ⟨f, fd, D.me, D.bd, D.fn.ok sc_Pool_computed (fun vs H Q E h => ?_) (fun cdv A outer s H vs Q E hr h => ?_)⟩
  · obtain ⟨p, G, D', l, a, gs, xs, rows, rfl, _⟩ := h
    rfl
  · obtain ⟨p, G, D', l, a, gs, xs, rows, rfl, A0, hl, hx, hxl, h64, hB, q⟩ := h
    obtain ⟨dx, ts0, h1, h2, h3, h4, h5⟩ := A0.at_
    have hu := hu_of hr
    have hbits := bits_bit (envOf_bit hB) gs
    refine ⟨_, (pss_cons (ps_set (i := 3) sc_Pool_computed.nd rfl (Or.inr rfl) pe_dnewK)
      (pss_cons (ps_for PassesOwn.never rfl (pi_list (pe_meth (pv 0) PK.cls Mcone Gcone (hr.mono (by omega)) bcone .nil pass0 (pa_cons (pv 1) (pa_cons pe_dnewK pa_nil)))) (pg_name (i := 4) sc_Pool_computed.nd rfl (Or.inl rfl)) (pss_one (ps_dput hu (pv 3) (pv 4) (pe_call Ggate_value (hr.mono (by omega)) rfl mgate_value kgate_value bgate_value .nil pass0 (pa_cons (pe_ix ix_list (pe_fld (pv 0) (by rfl)) (pv 4) (fun _ _ => rfl)) (pa_cons (pv 3) (pa_cons (pv 2) pa_nil)))) rfl)))
      (pss_one (ps_ret (pe_lc (own := [("x", 5)]) (g := gName 5) (tt := tYes) rfl sc_Pool_computed.nd (pi_list (pv 1)) (blkOk_by (N := N_Pool_computed) (sc := defScope s_Pool_computed) (own := [("x", 5)]) (by decide +kernel)) (fun _ _ _ _ _ => (pg_name (i := 5) sc_Pool_computed.nd rfl (Or.inl rfl))) (fun _ _ _ _ _ => pts_nil) (fun _ _ _ _ _ => (pe_op op_xor (pe_dget hu (pv 3) (pe_op op_shr (pv 5) pe_int) (fun _ _ => rfl)) (pe_op op_and (pv 5) pe_int)))))))), ?_⟩
    refine fun F hF => ?_
    have s1 := same_new hF (.dK [])
    refine ⟨_, rfl, p, dx, _, rfl, s1 _ _ h1, plFs_no _ _ (by decide +kernel) (by decide +kernel), _, rfl, fun S hS => ⟨upd H F (.dK []), p, G, D', l, S, gs, xs, rfl, same_new hS _, hS, upd_same, A0.same s1, sql_mono s1 hl, hx, hxl, h64, fun H2 r ys s2 hr2 hC => ?_⟩⟩
    have nd : ys.Nodup := hC.asc.imp fun {a b} h => by omega
    have ysl := few_of nd hC.rng
    have fF : ∀ b o, H b = some o → b ≠ F := fun b o e => ne_of_none e hF
    have hFr : F ≠ r := by
      intro e
      have := s2 _ _ (upd_same : upd H F (.dK []) F = _)
      rw [e, hr2] at this
      cases this
    refine ⟨r, rfl, ⟨_, SqL.of hr2⟩, for_list (K := K) (a := r) (xs := ys.map V.int) (fun i σ' H' => ∃ o4, σ' = [some (.ref p), some (.ref l), some (.ref a), some (.ref F), o4, none] ∧ Same H H' ∧ H' r = some (.lst (ys.map V.int)) ∧ H' F = some (.dK (foundK (bitsOf (envOf rows) gs) (ys.take i)))) ⟨none, rfl, s1.trans s2, hr2, s2 _ _ upd_same⟩ (fun i σ' H' _ ⟨_, _, _, h, _⟩ => SqL.of h) ?_ ?_⟩
    · rintro i y σ' H' hi ⟨o4, rfl, s3, hr3, hF3⟩
      obtain ⟨k, hk, rfl⟩ : ∃ k, ys[i]? = some k ∧ y = .int k := by
        rw [List.getElem?_map] at hi
        cases e : ys[i]? with
        | none => rw [e] at hi; cases hi
        | some k => rw [e] at hi; exact ⟨k, rfl, (Option.some.inj hi).symm⟩
      have hkm := List.mem_of_getElem? hk
      have rk := hC.rng k hkm
      obtain ⟨g, hg⟩ : ∃ g, gs[k.toNat]? = some g := ⟨gs[k.toNat]'(by omega), List.getElem?_eq_getElem (by omega)⟩
      obtain ⟨t, htk⟩ : ∃ t, ts0[k.toNat]? = some t := ⟨ts0[k.toNat]'(by omega), List.getElem?_eq_getElem (by omega)⟩
      obtain ⟨hd, hd8⟩ := h4 _ g t hg htk
      have hat : atI (ts0.map V.ref) k = some (.ref t) := by
        have e := atI_nat (xs := ts0.map V.ref) (j := k.toNat) (v := .ref t) (by rw [List.getElem?_map, htk]; rfl)
        rw [show ((k.toNat : Nat) : Int) = k by omega] at e
        exact e
      have hknot : k ∉ ys.take i := fun m => by
        obtain ⟨j, hj⟩ := List.getElem?_of_mem m
        have hji : j < i := by
          have := (List.getElem?_eq_some_iff.mp hj).1
          rw [List.length_take] at this
          omega
        rw [List.getElem?_take_of_lt hji] at hj
        have := (List.getElem?_inj (by have := (List.getElem?_eq_some_iff.mp hk).1; omega) nd).mp (hj.trans hk.symm)
        omega
      refine ⟨_, rfl, p, C, dx, _, _, rfl, s3 _ _ h1, PK.cls, PK.g, plFs_g _ _, _, rfl, G, _, k, _, rfl, rfl, SqL.of (s3 _ _ h2), hat, _, rfl, _, rfl, ?_⟩
      refine ⟨t, F, a, g, _, bitsOf (envOf rows) gs, rows, rfl, dp_mono s3 _ hd, hd8, (fun n e => A0.nm n (by rw [← e]; exact List.mem_of_getElem? hg)), ⟨hF3, fun z hz => ?_⟩, hbits, hB.same s3, fun H4 s4 => ?_⟩
      · have hp := A0.ok.parts _ g hg z hz
        refine ⟨hp.1, found_val ?_⟩
        have hm := hC.cl k hkm g hg z hz
        obtain ⟨j, hj⟩ := List.getElem?_of_mem hm
        refine List.mem_of_getElem? (i := j) ?_
        have hji : j < i := by
          rcases Nat.lt_or_ge j i with h | h
          · exact h
          · exfalso
            have hj' := (List.getElem?_eq_some_iff.mp hj)
            have hk' := (List.getElem?_eq_some_iff.mp hk)
            rcases Nat.eq_or_lt_of_le h with e | h
            · subst e
              rw [hk] at hj
              have := Option.some.inj hj
              omega
            · have := List.pairwise_iff_getElem.mp hC.asc i j hk'.1 hj'.1 h
              rw [hk'.2, hj'.2] at this
              omega
        rw [List.getElem?_take_of_lt hji]
        exact hj
      · rw [← bits_at gs A0.ok k.toNat g hg]
        have hil := (List.getElem?_eq_some_iff.mp hk).1
        refine ⟨_, rfl, _, rfl, F, _, rfl, DPut.k (k := .inl k) (s4 _ _ hF3) (by unfold foundK; rw [List.length_map, List.length_take]; exact Nat.lt_of_le_of_lt (show min i ys.length ≤ 10000 by omega) (by decide)), ?_⟩
        rw [found_put hknot]
        refine ⟨_, rfl, fun b o e => ?_, ?_, ?_⟩
        · rw [upd_ne (fF b o e)]
          exact s4 _ _ (s3 b o e)
        · rw [upd_ne hFr.symm]
          exact s4 _ _ hr3
        · rw [upd_same, ← take_nextV hk]
    · rintro σ' H' ⟨o4, rfl, s3, hr3, hF3⟩
      rw [List.length_map, List.take_length] at hF3
      refine ⟨_, rfl, l, rfl, ⟨_, sql_mono s3 hl⟩, fun D1 hD1 => lc_mapL (litV (bitsOf (envOf rows) gs)) (sql_mono s3 hl) (by rw [List.length_map]; omega) hD1 (fun _ => rfl) (fun y H2 R hy s4 rr => ?_) fun H5 h5' s5 => ?_⟩
      · obtain ⟨x, hx', rfl⟩ := List.mem_map.mp hy
        refine ⟨_, rfl, _, rfl, _, _, rfl, rfl, (by show (0 : Int) ≤ 1; decide), F, _, rfl, (by rw [← found_val (bs := bitsOf (envOf rows) gs) (hC.has x hx')]; show DGet H2 F (V.int (x / 2)) _; exact DGet.k (k := .inl (x / 2)) (s4 _ _ hF3)), _, rfl, _, _, rfl, rfl, _, _, rfl, rfl, ?_⟩
        show R (V.int (Builtin.bitXor ((bitsOf (envOf rows) gs).getD (x / 2).toNat 0) (Builtin.bitAnd x 1))) H2
        rw [litv_xor hbits]
        exact rr
      · rw [litV_map] at h5'
        exact q _ D1 (s3.trans s5) h5'
theorem ok_value (T : Txt K mg) (PK : PlK K C) (D : DefM K C "value" "Pool.value" ["self", "literal", "bits"] s_Pool_value f fd) (O1 : OwnM P w K mg base C "computed" ["self", "literals", "bits"] 2 (spComp P w K C)) : OwnM P w K mg base C "value" ["self", "literal", "bits"] 3 (spVal P w K C) := by
  obtain ⟨fcomputed, fdcomputed, Mcomputed, bcomputed, Gcomputed⟩ := O1
  refine ⟨f, fd, D.me, D.bd, D.fn.ok sc_Pool_value (fun vs H Q E h => ?_) (fun cdv A outer s H vs Q E hr h => ?_)⟩
  · obtain ⟨p, G, D', a, gs, x, rows, rfl, _⟩ := h
    rfl
  · obtain ⟨p, G, D', a, gs, x, rows, rfl, A0, hx, h64, hB, q⟩ := h
    obtain ⟨dx, ts0, h1, _⟩ := A0.at_
    refine ⟨_, (pss_one (ps_ret (pe_ix ix_list (pe_meth (pv 0) PK.cls Mcomputed Gcomputed (hr.mono (by omega)) bcomputed .nil pass0 (pa_cons (pe_lst (pa_cons (pv 1) pa_nil)) (pa_cons (pv 2) pa_nil))) pe_int (fun _ _ => rfl)))), ?_⟩
    refine ⟨_, rfl, p, dx, _, rfl, h1, plFs_no _ _ (by decide +kernel) (by decide +kernel), _, rfl, by show 1 ≤ sizeLine; decide, fun l hl => ?_⟩
    have s1 := same_new hl (.lst [.int x])
    refine ⟨_, rfl, p, G, D', l, a, gs, [x], rows, rfl, A0.same s1, SqL.of upd_same, (fun z hz => by rw [List.mem_singleton.mp hz]; exact hx), (by show 1 ≤ 100; decide), h64, hB.same s1, fun H' r s2 hr2 => ?_⟩
    exact ⟨r, _, _, _, rfl, rfl, SqL.of hr2, rfl, q H' (s1.trans s2)⟩
end
end My


set_option Elab.async false
set_option maxRecDepth 100000
set_option maxHeartbeats 4000000
set_option linter.all false
namespace My
open PySem L2 PyProof.Rows
open C8 (pss_cut)
structure DefM0 (K : PySem.W.Frag) (x qx : Str) (ps : List Str) (st : Stmt) (f : Addr) (fd : FuncData) : Prop where
  fn : Fun K x qx st f fd
  bd : Binds K fd ps []
def OwnC (P : Program) (w : World) (K : PySem.W.Frag) (mg : Str → Option Value) (base : Heap) (x : Str) (C : Addr) (ps : List Str) (k : Nat) (sp : Sp) : Prop :=
  ∃ (f : Addr) (fd : FuncData), mg x = some (.ref C) ∧ Mk K C f ∧ Binds K fd ps [] ∧ FnOk P w K mg base CX0 k f fd ps sp
def spInit (P : Program) (w : World) (K : PySem.W.Frag) (C : Addr) : Sp := fun vs H Q _ => ∃ (p dx : Addr), vs = [.ref p] ∧ H p = some (.ins C dx []) ∧ ∀ H' G D, PoolAt P w K H' C p G D [.no] → But [p] H H' → H G = none → H D = none → Q .non H'
theorem okGs_no : okGs [.no] := ⟨rfl, fun i g h x hx => by
  cases i with
  | zero => cases h; cases hx
  | succ i => simp at h, fun i g h => by
  cases i with
  | zero => cases h; exact ⟨(fun x hx => nomatch hx), .nil⟩
  | succ i => simp at h⟩
section
variable {P : Program} {w : World} {K : PySem.W.Frag} {mg : Str → Option Value} {base : Heap} {f C : Addr} {fd : FuncData}
theorem ok_Pool (PK : PlK K C) (D : DefM0 K "__init__" "Pool.__init__" ["self"] s_Pool___init__ f fd) (M : Mk K C f) (mC : mg "Pool" = some (.ref C)) : OwnC P w K mg base "Pool" C ["self"] 1 (spInit P w K C) := by
  refine ⟨f, fd, mC, M, D.bd, D.fn.ok sc_Pool___init__ (fun vs H Q E h => ?_) (fun cdv A outer s H vs Q E hr h => ?_)⟩
  · obtain ⟨p, dx, rfl, _⟩ := h
    rfl
  · obtain ⟨p, dx, rfl, hp, q⟩ := h
    refine ⟨_, (pss_cons (ps_fld (pv 0) (pe_lst (pa_cons (pe_tup (pa_cons pe_str pa_nil)) pa_nil)) rfl)
      (pss_one (ps_fld (pv 0) pe_dnewK rfl))), ?_⟩
    refine ⟨by show 1 ≤ sizeLine; decide, fun t ft => ?_⟩
    refine ⟨by show 1 ≤ sizeLine; decide, fun G fG => ?_⟩
    have st := same_new ft (.tup [.str "no"])
    have sG := same_new fG (.lst [.ref t])
    refine ⟨_, rfl, p, C, dx, [], rfl, sG _ _ (st _ _ hp), PK.cls, PK.g, by show 0 < 1000; decide, ?_⟩
    refine fun D' fD => ?_
    have nGp : G ≠ p := (ne_of_none (st _ _ hp) fG).symm
    have ntp : t ≠ p := (ne_of_none hp ft).symm
    have gT : (upd (upd H t (.tup [.str "no"])) G (.lst [.ref t])) t = some (.tup [.str "no"]) := sG _ _ upd_same
    have nDp : D' ≠ p := (ne_of_none (upd_same) fD).symm
    have nDG : D' ≠ G := (ne_of_none (show (upd (upd (upd H t (.tup [.str "no"])) G (.lst [.ref t])) p _) G = some (.lst [.ref t]) by rw [upd_ne nGp]; exact upd_same) fD).symm
    have nDt : D' ≠ t := (ne_of_none (show (upd (upd (upd H t (.tup [.str "no"])) G (.lst [.ref t])) p _) t = some (.tup [.str "no"]) by rw [upd_ne ntp]; exact gT) fD).symm
    refine ⟨_, rfl, p, C, dx, _, rfl, by rw [upd_ne nDp.symm]; exact upd_same, PK.cls, PK.l, by show 1 < 1000; decide, ?_⟩
    refine q _ G D' ⟨PK, okGs_no, by simp, by show 1 ≤ 100000; decide, (fun n hn => by cases (List.mem_singleton.mp hn)), dx, [t], upd_same, by rw [upd_ne nGp, upd_ne nDG.symm, upd_ne nGp]; exact upd_same, rfl, fun i g t' e1 e2 => ?_, .inr ⟨rfl, by rw [upd_ne nDp]; exact upd_same⟩⟩ (fun b o n e => ?_) ?_ ?_
    · cases i with
      | zero =>
        cases e1
        cases e2
        refine ⟨.tup (SqT.of (by rw [upd_ne ntp, upd_ne nDt.symm, upd_ne ntp]; exact gT)) (.cons (.str _) .nil), by decide⟩
      | succ i => simp at e1
    · have hbp : b ≠ p := fun z => n (by rw [z]; exact .head _)
      have h1 := sG _ _ (st _ _ e)
      rw [upd_ne hbp, upd_ne (ne_of_none (show (upd (upd (upd H t (.tup [.str "no"])) G (.lst [.ref t])) p _) b = some o by rw [upd_ne hbp]; exact h1) fD), upd_ne hbp]
      exact h1
    · cases e : H G with
      | none => rfl
      | some u => rw [st _ _ e] at fG; cases fG
    · cases e : H D' with
      | none => rfl
      | some u =>
        have h1 := sG _ _ (st _ _ e)
        have : (upd (upd (upd H t (.tup [.str "no"])) G (.lst [.ref t])) p (.ins C dx (putF "gates" (.ref G) []))) D' = some u := by rw [upd_ne nDp]; exact h1
        rw [fD] at this
        cases this
end
end My


set_option Elab.async false
set_option maxRecDepth 100000
set_option maxHeartbeats 4000000
set_option linter.all false
namespace My
open PySem L2 PyProof.Rows
open C8 (pss_cut)
theorem DrawAt.but {S : List Addr} {H H' : Hp} {d L : Addr} (h : DrawAt H d L) (b : But S H H') (nd : d ∉ S) (nL : L ∉ S) : DrawAt H' d L := by
  obtain ⟨ns, a, l, s, h1, h2, r⟩ := h
  exact ⟨ns, a, l, s, b _ _ nd h1, b _ _ nL h2, r⟩
structure Apart (d L p G D : Addr) : Prop where
  dp : d ≠ p
  dG : d ≠ G
  dD : d ≠ D
  Lp : L ≠ p
  LG : L ≠ G
  LD : L ≠ D
theorem PoolAt.apart {P : Program} {w : World} {K : PySem.W.Frag} {H : Hp} {C p G D d L : Addr} {gs : List Gt} (A : PoolAt P w K H C p G D gs) (h : DrawAt H d L) : Apart d L p G D := by
  obtain ⟨ns, a, l, s, h1, h2, _⟩ := h
  obtain ⟨dx, ts, k1, k2, k3, _, k5⟩ := A.at_
  have pos := A.ok.pos
  have hts : ∃ t tr, ts = t :: tr := by
    cases ts with
    | nil => rw [List.length_nil] at k3; omega
    | cons t tr => exact ⟨t, tr, rfl⟩
  obtain ⟨t, tr, rfl⟩ := hts
  refine ⟨ne_of h1 k1 (by intro z; cases z), ?_, ?_, ne_of h2 k1 (by intro z; cases z), ?_, ?_⟩
  · refine ne_of h1 k2 fun z => ?_
    have z := HO.lst.inj z
    cases tr with
    | nil => simp at z
    | cons t2 tr => simp at z
  · rcases k5 with e | ⟨_, e⟩ <;> exact ne_of h1 e (by intro z; cases z)
  · refine ne_of h2 k2 fun z => ?_
    have z := HO.lst.inj z
    cases ns with
    | nil => simp at z
    | cons n nr => simp at z
  · rcases k5 with e | ⟨_, e⟩ <;> exact ne_of h2 e (by intro z; cases z)
theorem nkd_noLst : ∀ nks : List NK, noLsts (nks.map NestedKey.data) = true
  | [] => rfl
  | k :: ks => by
    show (noLst k.data && noLsts (ks.map NestedKey.data)) = true
    rw [nk_noLst, nkd_noLst ks]
    rfl
def spLits (P : Program) (w : World) (K : PySem.W.Frag) (C : Addr) : Sp := fun vs H Q _ => ∃ (d L p G D n : Addr) (gs : List Gt) (ts : List V) (nks : List NK), vs = [.ref d, .ref p, .ref n] ∧ DrawAt H d L ∧ PoolAt P w K H C p G D gs ∧ H n = some (.lst ts) ∧ DpAll K H ts (nks.map NestedKey.data) ∧ (∀ k ∈ nks, k.depth ≤ 7 ∧ isTup k = true) ∧ nks.length ≤ 4 ∧ gs.length ≤ 10 ∧ n ∉ [d, G, D] ∧ (∀ m, Gt.bit m ∈ gs → m ∈ nks) ∧
  ∀ H' R gs' xs, DrawAt H' d L → PoolAt P w K H' C p G D gs' → But [d, G, D] H H' → H R = none → gs'.length ≤ gs.length + 12 → H' R = some (.lst (xs.map V.int)) → (∀ x ∈ xs, okL gs' x) → xs ≠ [] → xs.length ≤ 20 → (∀ m, Gt.bit m ∈ gs' → m ∈ nks) → Q (.ref R) H'
section
variable {P : Program} {w : World} {K : PySem.W.Frag} {mg : Str → Option Value} {base : Heap} {f C : Addr} {fd : FuncData}
theorem ok_literals (T : Txt K mg) (PK : PlK K C) (C1 : ConI mg "NO" 0) (C2 : ConI mg "YES" 1) (D : Def K mg "_law_literals" ["draw", "pool", "names"] s__law_literals f fd) (O1 : Own P w K mg base "_law_take" ["draw", "many"] 1 spTake)
    (O4 : OwnM P w K mg base C "both" ["self", "x", "y"] 2 (sp2 P w K C 1 fB)) (O5 : OwnM P w K mg base C "either" ["self", "x", "y"] 3 (sp2 P w K C 1 fE)) (O6 : OwnM P w K mg base C "unlike" ["self", "x", "y"] 2 (sp2 P w K C 1 fU)) (O7 : OwnM P w K mg base C "chosen" ["self", "c", "x", "y"] 4 (sp3 P w K C 1 fC)) (O8 : OwnM P w K mg base C "bit" ["self", "name"] 2 (spBit P w K C)) :
    Own P w K mg base "_law_literals" ["draw", "pool", "names"] 5 (spLits P w K C) := by
  obtain ⟨f_law_take, fd_law_take, m_law_take, k_law_take, b_law_take, G_law_take⟩ := O1
  obtain ⟨fboth, fdboth, Mboth, bboth, Gboth⟩ := O4
  obtain ⟨feither, fdeither, Meither, beither, Geither⟩ := O5
  obtain ⟨funlike, fdunlike, Munlike, bunlike, Gunlike⟩ := O6
  obtain ⟨fchosen, fdchosen, Mchosen, bchosen, Gchosen⟩ := O7
  obtain ⟨fbit, fdbit, Mbit, bbit, Gbit⟩ := O8
  obtain ⟨t_NO, c_NO⟩ := C1
  obtain ⟨t_YES, c_YES⟩ := C2
  refine ⟨f, fd, D.mg, D.fn.kp, D.bd, D.fn.ok sc__law_literals (fun vs H Q E h => ?_) (fun cdv A outer s H vs Q E hr h => ?_)⟩
  · obtain ⟨d, L, p, G, D', n, gs, ts, nks, rfl, _⟩ := h
    rfl
  · obtain ⟨d, L, p, G, D', n, gs, ts, nks, rfl, hD, A0, hn, hts, h7, hnl, hgl, nn, hbits, q⟩ := h
    have ap := A0.apart hD
    have htl : ts.length = nks.length := by rw [dpa_len hts, List.length_map]
    refine ⟨_, (pss_cons (ps_set (i := 3) sc__law_literals.nd rfl (Or.inl rfl) (pe_op op_cat (pe_lc (own := [("name", 9)]) (g := gName 9) (tt := tYes) rfl sc__law_literals.nd (pi_list (pv 2)) (blkOk_by (N := N__law_literals) (sc := defScope s__law_literals) (own := [("name", 9)]) (by decide +kernel)) (fun _ _ _ _ _ => (pg_name (i := 9) sc__law_literals.nd rfl (Or.inl rfl))) (fun _ _ _ _ _ => pts_nil) (fun _ _ _ _ _ => (pe_meth (pv 1) PK.cls Mbit Gbit (hr.mono (by omega)) bbit .nil pass0 (pa_cons (pv 9) pa_nil)))) (pe_lst (pa_cons (pe_glob (v := .int 0) (u := .int 0 t_NO) (by rfl) c_NO ⟨t_NO, rfl⟩) (pa_cons (pe_glob (v := .int 1) (u := .int 1 t_YES) (by rfl) c_YES ⟨t_YES, rfl⟩) pa_nil)))))
      (pss_cons (ps_for PassesOwn.never rfl (pi_range1 (by rfl) T.m_range (pa_cons (pe_call G_law_take (hr.mono (by omega)) rfl m_law_take k_law_take b_law_take .nil pass0 (pa_cons (pv 0) (pa_cons pe_int pa_nil))) pa_nil)) (pg_name (i := 4) sc__law_literals.nd rfl (Or.inl rfl)) (pss_cons (ps_set (i := 5) sc__law_literals.nd rfl (Or.inl rfl) (pe_op op_xor (pe_ix ix_list (pv 3) (pe_call G_law_take (hr.mono (by omega)) rfl m_law_take k_law_take b_law_take .nil pass0 (pa_cons (pv 0) (pa_cons (pe_callB call_len_seq (by rfl) T.m_len (by decide +kernel) (pa_cons (pv 3) pa_nil)) pa_nil))) (fun _ _ => rfl)) (pe_call G_law_take (hr.mono (by omega)) rfl m_law_take k_law_take b_law_take .nil pass0 (pa_cons (pv 0) (pa_cons pe_int pa_nil)))))
      (pss_cons (ps_set (i := 6) sc__law_literals.nd rfl (Or.inl rfl) (pe_op op_xor (pe_ix ix_list (pv 3) (pe_call G_law_take (hr.mono (by omega)) rfl m_law_take k_law_take b_law_take .nil pass0 (pa_cons (pv 0) (pa_cons (pe_callB call_len_seq (by rfl) T.m_len (by decide +kernel) (pa_cons (pv 3) pa_nil)) pa_nil))) (fun _ _ => rfl)) (pe_call G_law_take (hr.mono (by omega)) rfl m_law_take k_law_take b_law_take .nil pass0 (pa_cons (pv 0) (pa_cons pe_int pa_nil)))))
      (pss_cons (ps_set (i := 7) sc__law_literals.nd rfl (Or.inl rfl) (pe_op op_xor (pe_ix ix_list (pv 3) (pe_call G_law_take (hr.mono (by omega)) rfl m_law_take k_law_take b_law_take .nil pass0 (pa_cons (pv 0) (pa_cons (pe_callB call_len_seq (by rfl) T.m_len (by decide +kernel) (pa_cons (pv 3) pa_nil)) pa_nil))) (fun _ _ => rfl)) (pe_call G_law_take (hr.mono (by omega)) rfl m_law_take k_law_take b_law_take .nil pass0 (pa_cons (pv 0) (pa_cons pe_int pa_nil)))))
      (pss_cons (ps_set (i := 8) sc__law_literals.nd rfl (Or.inl rfl) (pe_call G_law_take (hr.mono (by omega)) rfl m_law_take k_law_take b_law_take .nil pass0 (pa_cons (pv 0) (pa_cons pe_int pa_nil))))
      (pss_one (ps_if (pt_cmpR op_eq (pv 8) pe_int (nomark _)) (pss_one (ps_expr (pe_bm PySem.F.plainAttrs_list PySem.F.slot_list_append PySem.F.type_list_append mt_append (pv 3) (pa_cons (pe_meth (pv 1) PK.cls Mboth Gboth (hr.mono (by omega)) bboth .nil pass0 (pa_cons (pv 5) (pa_cons (pv 6) pa_nil))) pa_nil)))) (pss_one (ps_if (pt_cmpR op_eq (pv 8) pe_int (nomark _)) (pss_one (ps_expr (pe_bm PySem.F.plainAttrs_list PySem.F.slot_list_append PySem.F.type_list_append mt_append (pv 3) (pa_cons (pe_meth (pv 1) PK.cls Meither Geither (hr.mono (by omega)) beither .nil pass0 (pa_cons (pv 5) (pa_cons (pv 6) pa_nil))) pa_nil)))) (pss_one (ps_if (pt_cmpR op_eq (pv 8) pe_int (nomark _)) (pss_one (ps_expr (pe_bm PySem.F.plainAttrs_list PySem.F.slot_list_append PySem.F.type_list_append mt_append (pv 3) (pa_cons (pe_meth (pv 1) PK.cls Munlike Gunlike (hr.mono (by omega)) bunlike .nil pass0 (pa_cons (pv 5) (pa_cons (pv 6) pa_nil))) pa_nil)))) (pss_one (ps_expr (pe_bm PySem.F.plainAttrs_list PySem.F.slot_list_append PySem.F.type_list_append mt_append (pv 3) (pa_cons (pe_meth (pv 1) PK.cls Mchosen Gchosen (hr.mono (by omega)) bchosen .nil pass0 (pa_cons (pv 7) (pa_cons (pv 5) (pa_cons (pv 6) pa_nil)))) pa_nil)))))))))))))))
      (pss_one (ps_ret (pv 3))))), ?_⟩
    refine ⟨_, rfl, n, rfl, ⟨_, SqL.of hn⟩, fun R0 hR0 => ?_⟩
    have nR : ∀ b o, H b = some o → b ≠ R0 := fun b o e => ne_of_none e hR0
    obtain ⟨hmG, hmD⟩ : Mut (H G) ∧ Mut (H D') := ⟨A0.mut G (.head _), A0.mut D' (.tail _ (.head _))⟩
    have nRG : R0 ∉ [G, D'] := fun m => by
      rcases List.mem_cons.mp m with e | m
      · rw [← e, hR0] at hmG; exact hmG
      · rw [← List.mem_singleton.mp m, hR0] at hmD; exact hmD
    refine lc_list (K := K) (a := n) (xs := ts) (fun i H' => ∃ (gs' : List Gt) (zs : List Int), PoolAt P w K H' C p G D' gs' ∧ But [G, D'] H H' ∧ gs <+: gs' ∧ gs'.length ≤ gs.length + i ∧ H' R0 = some (.lst (zs.map V.int)) ∧ zs.length = i ∧ (∀ z ∈ zs, okL gs' z) ∧ ∀ m, Gt.bit m ∈ gs' → m ∈ nks)
      ⟨gs, [], A0.same (same_new hR0 _), .of_same (same_new hR0 _), List.prefix_refl _, Nat.le_refl _, upd_same, rfl, (fun z hz => nomatch hz), hbits⟩ (fun i H' _ ⟨_, _, _, b, _⟩ => SqL.of (b _ _ ?_ hn)) ?_ ?_
    · exact fun m => nn (List.mem_cons_of_mem _ m)
    · rintro i x H1 hi ⟨gs1, zs, A1, b1, pg1, lg1, hR1, lz, okz, hb1⟩
      have hil := (List.getElem?_eq_some_iff.mp hi).1
      obtain ⟨dd, hdd, hdp⟩ := dpa_get hts hi
      obtain ⟨nk, hnk, rfl⟩ : ∃ nk, nks[i]? = some nk ∧ nk.data = dd := by
        rw [List.getElem?_map] at hdd
        cases e : nks[i]? with
        | none => rw [e] at hdd; cases hdd
        | some k => rw [e] at hdd; exact ⟨k, rfl, Option.some.inj hdd⟩
      have hnm := List.mem_of_getElem? hnk
      have hdp1 := dp_but A0.mut b1 _ (nk_noLst nk) hdp
      refine ⟨rfl, yesV ?_⟩
      rw [if_pos rfl]
      obtain ⟨dx1, ts1, hp1, _⟩ := A1.at_
      have hxr : ∃ t, x = .ref t := by
        have ht := (h7 nk hnm).2
        cases nk with
        | tup ks => cases hdp1; exact ⟨_, rfl⟩
        | _ => cases ht
      obtain ⟨t, rfl⟩ := hxr
      refine ⟨_, rfl, p, dx1, _, rfl, hp1, plFs_no _ _ (by decide +kernel) (by decide +kernel), _, rfl, p, G, D', t, gs1, nk, rfl, A1, hdp1, (h7 nk hnm).1, by omega, fun H2 gs2 j A2 b2 pg2 lg2 hj => ?_⟩
      have hR2 := b2 _ _ nRG hR1
      have mutR : ∀ a ∈ [R0], Mut (H2 a) := fun a ha => by rw [List.mem_singleton.mp ha, hR2]; exact True.intro
      have bR : But [R0] H2 (upd H2 R0 (.lst (zs.map V.int ++ [.int (2 * (j : Int))]))) := .put (.head _) _
      have n1 : ∀ {b : Addr}, b ≠ R0 → b ∉ [R0] := fun h m => h (List.mem_singleton.mp m)
      obtain ⟨dx2, ts2, hp2, _⟩ := A2.at_
      have npR : p ≠ R0 := ne_of hp2 hR2 (by intro z; cases z)
      have nGR : G ≠ R0 := fun e => nRG (by rw [← e]; exact .head _)
      have nDR : D' ≠ R0 := fun e => nRG (by rw [← e]; exact .tail _ (.head _))
      have hjl := (List.getElem?_eq_some_iff.mp hj).1
      refine ⟨zs.map V.int, hR2, by rw [List.length_map, lz]; exact Nat.lt_of_lt_of_le (show i < 4 by omega) (by decide), gs2, zs ++ [2 * (j : Int)], A2.keep mutR bR (n1 npR) (n1 nGR) (n1 nDR), fun z o n' e => by rw [upd_ne (nR _ _ e)]; exact b2 _ _ n' (b1 _ _ n' e), pg1.trans pg2, by omega, by rw [upd_same, List.map_append]; rfl, by rw [List.length_append, List.length_singleton, lz], fun z hz => ?_, fun m hm => ?_⟩
      · rcases List.mem_append.mp hz with h | h
        · exact (okz z h).mono pg2
        · rw [List.mem_singleton.mp h]
          exact ⟨by omega, by omega⟩
      · rcases lg2.2 m hm with h | h
        · exact hb1 m h
        · rw [h]; exact hnm
    · rintro H1 ⟨gs1, zs, A1, b1, pg1, lg1, hR1, lz, okz, hb1⟩
      refine ⟨by show 2 ≤ sizeLine; decide, fun l hl => ⟨R0, l, _, _, rfl, rfl, same_new hl _ _ _ hR1, upd_same, by rw [List.length_map, lz]; exact Nat.le_trans (show ts.length + 2 ≤ 6 by omega) (by decide), fun R hR => ?_⟩⟩
      have sl := same_new hl (.lst [.int 0, .int 1])
      have sR := same_new hR (.lst (zs.map V.int ++ [V.int 0, V.int 1]))
      have s13 := sl.trans sR
      obtain ⟨H3, eH3⟩ : ∃ H3, H3 = upd (upd H1 l (.lst [.int 0, .int 1])) R (.lst (zs.map V.int ++ [V.int 0, V.int 1])) := ⟨_, rfl⟩
      rw [← eH3] at s13 ⊢
      have hRn : H1 R = none := by
        cases e : H1 R with
        | none => rfl
        | some o => rw [sl _ _ e] at hR; cases hR
      have dGD : d ∉ [G, D'] := fun m => by
        rcases List.mem_cons.mp m with e | m
        · exact ap.dG e
        · exact ap.dD (List.mem_singleton.mp m)
      have LGD : L ∉ [G, D'] := fun m => by
        rcases List.mem_cons.mp m with e | m
        · exact ap.LG e
        · exact ap.LD (List.mem_singleton.mp m)
      have D1 := hD.but b1 dGD LGD
      have D3 := D1.mono s13
      have A3 := A1.same s13
      have b3 : But [d, G, D'] H H3 := (b1.trans (.of_same s13)).wide fun a ha => List.mem_cons_of_mem _ ha
      have hR3 : H3 R = some (.lst ((zs ++ [0, 1]).map V.int)) := by rw [eH3, upd_same, List.map_append]; rfl
      have ndR : d ≠ R := by obtain ⟨u, hu⟩ := D1.at; exact ne_of_none hu hRn
      have nLR : L ≠ R := by obtain ⟨u, hu⟩ := D1.cells; exact ne_of_none hu hRn
      have nRS : R ∉ [d, G, D'] := fun m => by
        obtain ⟨hmG1, hmD1⟩ : Mut (H1 G) ∧ Mut (H1 D') := ⟨A1.mut G (.head _), A1.mut D' (.tail _ (.head _))⟩
        rcases List.mem_cons.mp m with e | m
        · exact ndR e.symm
        · rcases List.mem_cons.mp m with e | m
          · rw [← e, hRn] at hmG1; exact hmG1
          · rw [← List.mem_singleton.mp m, hRn] at hmD1; exact hmD1
      have hRH : H R = none := by
        cases e : H R with
        | none => rfl
        | some o =>
          have := b1 _ _ (fun m => nRS (List.mem_cons_of_mem _ m)) e
          rw [hRn] at this
          cases this
      have ok01 : ∀ z ∈ zs ++ [0, 1], okL gs1 z := fun z hz => by
        have := A1.ok.pos
        rcases List.mem_append.mp hz with h | h
        · exact okz z h
        · rcases List.mem_cons.mp h with e | e
          · rw [e]; exact ⟨by omega, by omega⟩
          · rw [List.mem_singleton.mp e]; exact ⟨by omega, by omega⟩
      refine ⟨_, rfl, d, L, 8, rfl, by decide, by decide, D3, fun v H4 v0 v1 D4 s4 => ?_⟩
      obtain ⟨m, rfl⟩ : ∃ m : Nat, v = m := ⟨v.toNat, by omega⟩
      have mutd : ∀ {H : Hp}, DrawAt H d L → ∀ a ∈ [d], Mut (H a) := fun {H} Dx a ha => by
        obtain ⟨ns, at_, left, seed, e1, _⟩ := Dx
        rw [List.mem_singleton.mp ha, e1]; exact True.intro
      have nd1 : ∀ {b : Addr}, b ≠ d → b ∉ [d] := fun h m => h (List.mem_singleton.mp m)
      have A4 := A3.keep (mutd D3) (But.of_hide s4) (nd1 ap.dp.symm) (nd1 ap.dG.symm) (nd1 ap.dD.symm)
      have hR4 := But.of_hide s4 _ _ (nd1 ndR.symm) hR3
      have w1 : ∀ {Ha Hb : Hp}, But [d] Ha Hb → But [d, G, D'] Ha Hb := fun h => h.wide fun a ha => by rw [List.mem_singleton.mp ha]; exact .head _
      have w2 : ∀ {Ha Hb : Hp}, But [G, D'] Ha Hb → But [d, G, D'] Ha Hb := fun h => h.wide fun a ha => List.mem_cons_of_mem _ ha
      refine ⟨m, rfl, by omega, by omega, for_range (lo := 0) (n := m) (fun i σ' H' => ∃ (gs' : List Gt) (xs : List Int) (o4 o5 o6 o7 o8 : Option V), σ' = [some (.ref d), some (.ref p), some (.ref n), some (.ref R), o4, o5, o6, o7, o8, none] ∧ DrawAt H' d L ∧ PoolAt P w K H' C p G D' gs' ∧ But [d, G, D'] H H' ∧ gs'.length ≤ gs1.length + i ∧ H' R = some (.lst (xs.map V.int)) ∧ (∀ x ∈ xs, okL gs' x) ∧ xs.length = ts.length + 2 + i ∧ ∀ m, Gt.bit m ∈ gs' → m ∈ nks)
        ⟨gs1, zs ++ [0, 1], none, none, none, none, none, rfl, D4, A4, b3.trans (w1 (But.of_hide s4)), Nat.le_refl _, hR4, ok01, by rw [List.length_append, lz]; rfl, hb1⟩ ?_ ?_⟩
      · rintro i σ' H5 hi ⟨gs5, xs, o4, o5, o6, o7, o8, rfl, D5, A5, b5, lg5, hR5, okx, lx, hb5⟩
        have lx0 : 0 < xs.length := by omega
        have hR5' : ∀ {H : Hp}, But [d] H5 H → H R = some (.lst (xs.map V.int)) := fun b => b _ _ (nd1 ndR.symm) hR5
        have bb5 : But [d] H5 H5 := But.refl _ _
        refine ⟨_, rfl, _, rfl, _, rfl, R, _, rfl, .inl (SqL.of (hR5' bb5)), d, L, _, rfl, by rw [List.length_map]; omega, by rw [List.length_map]; omega, D5, fun vx H6 p0x p1x D6 s6 => ?_⟩
        rw [List.length_map] at p1x
        have bb6 := bb5.trans (But.of_hide s6)
        obtain ⟨zx, hzx, ezx⟩ := atI_get (ns := xs) p0x p1x
        refine ⟨R, _, _, _, rfl, rfl, SqL.of (hR5' bb6), ezx, _, rfl, d, L, 2, rfl, by decide, by decide, D6, fun tx H7 q0x q1x D7 s7 => ?_⟩
        have bb7 := bb6.trans (But.of_hide s7)
        have kkx := okL_xort (okx zx hzx) (show tx = 0 ∨ tx = 1 by omega)
        refine ⟨_, _, rfl, rfl, ?_⟩
        refine ⟨_, rfl, _, rfl, _, rfl, R, _, rfl, .inl (SqL.of (hR5' bb7)), d, L, _, rfl, by rw [List.length_map]; omega, by rw [List.length_map]; omega, D7, fun vy H8 p0y p1y D8 s8 => ?_⟩
        rw [List.length_map] at p1y
        have bb8 := bb7.trans (But.of_hide s8)
        obtain ⟨zy, hzy, ezy⟩ := atI_get (ns := xs) p0y p1y
        refine ⟨R, _, _, _, rfl, rfl, SqL.of (hR5' bb8), ezy, _, rfl, d, L, 2, rfl, by decide, by decide, D8, fun ty H9 q0y q1y D9 s9 => ?_⟩
        have bb9 := bb8.trans (But.of_hide s9)
        have kky := okL_xort (okx zy hzy) (show ty = 0 ∨ ty = 1 by omega)
        refine ⟨_, _, rfl, rfl, ?_⟩
        refine ⟨_, rfl, _, rfl, _, rfl, R, _, rfl, .inl (SqL.of (hR5' bb9)), d, L, _, rfl, by rw [List.length_map]; omega, by rw [List.length_map]; omega, D9, fun vc H10 p0c p1c D10 s10 => ?_⟩
        rw [List.length_map] at p1c
        have bb10 := bb9.trans (But.of_hide s10)
        obtain ⟨zc, hzc, ezc⟩ := atI_get (ns := xs) p0c p1c
        refine ⟨R, _, _, _, rfl, rfl, SqL.of (hR5' bb10), ezc, _, rfl, d, L, 2, rfl, by decide, by decide, D10, fun tc H11 q0c q1c D11 s11 => ?_⟩
        have bb11 := bb10.trans (But.of_hide s11)
        have kkc := okL_xort (okx zc hzc) (show tc = 0 ∨ tc = 1 by omega)
        refine ⟨_, _, rfl, rfl, ?_⟩
        refine ⟨_, rfl, d, L, 4, rfl, by decide, by decide, D11, fun what H12 w0 w1' D12 s12 => ?_⟩
        have bb12 := bb11.trans (But.of_hide s12)
        have A12 := A5.keep (mutd D5) bb12 (nd1 ap.dp.symm) (nd1 ap.dG.symm) (nd1 ap.dD.symm)
        obtain ⟨dx12, ts12, hp12, _⟩ := A12.at_
        have hR12 := hR5' bb12
        have glen : gs5.length + 1 ≤ 100000 := by omega
        have ap12 := A12.apart D12
        have fin : ∀ (H13 : Hp) (gs13 : List Gt) (r : Int) (p4 p5 p6 p7 p8 : Option V), PoolAt P w K H13 C p G D' gs13 → But [G, D'] H12 H13 → gs5 <+: gs13 → gs13.length ≤ gs5.length + 1 ∧ NoBits gs5 gs13 → okL gs13 r →
            ∃ (l : Addr) (us : List V) (v : V), V.ref R = .ref l ∧ [V.int r] = [v] ∧ H13 l = some (.lst us) ∧ us.length < sizeLine ∧ ∃ (gs' : List Gt) (xs : List Int) (o4 o5 o6 o7 o8 : Option V), ([some (.ref d), some (.ref p), some (.ref n), some (.ref R), p4, p5, p6, p7, p8, none] : L2.St) = [some (.ref d), some (.ref p), some (.ref n), some (.ref R), o4, o5, o6, o7, o8, none] ∧ DrawAt (upd H13 l (.lst (us ++ [v]))) d L ∧ PoolAt P w K (upd H13 l (.lst (us ++ [v]))) C p G D' gs' ∧ But [d, G, D'] H (upd H13 l (.lst (us ++ [v]))) ∧ gs'.length ≤ gs1.length + (i + 1) ∧ (upd H13 l (.lst (us ++ [v]))) R = some (.lst (xs.map V.int)) ∧ (∀ x ∈ xs, okL gs' x) ∧ xs.length = ts.length + 2 + (i + 1) ∧ ∀ m, Gt.bit m ∈ gs' → m ∈ nks := by
          intro H13 gs13 r p4 p5 p6 p7 p8 A13 b13 pg13 lg13 okr
          have nRS2 : R ∉ [G, D'] := fun m => nRS (List.mem_cons_of_mem _ m)
          have hR13 := b13 _ _ nRS2 hR12
          have mutR : ∀ a ∈ [R], Mut (H13 a) := fun a ha => by rw [List.mem_singleton.mp ha, hR13]; exact True.intro
          have bR : But [R] H13 (upd H13 R (.lst (xs.map V.int ++ [.int r]))) := .put (.head _) _
          have n1 : ∀ {b : Addr}, b ≠ R → b ∉ [R] := fun h m => h (List.mem_singleton.mp m)
          obtain ⟨dx13, ts13, hp13, _⟩ := A13.at_
          have npR : p ≠ R := ne_of hp13 hR13 (by intro z; cases z)
          have nGR : G ≠ R := fun e => nRS2 (by rw [← e]; exact .head _)
          have nDR : D' ≠ R := fun e => nRS2 (by rw [← e]; exact .tail _ (.head _))
          refine ⟨R, _, _, rfl, rfl, hR13, by rw [List.length_map, lx]; exact Nat.lt_of_le_of_lt (show ts.length + 2 + i ≤ 20 by omega) (by decide), gs13, xs ++ [r], _, _, _, _, _, rfl, (D12.but b13 dGD LGD).put _ ndR nLR, A13.keep mutR bR (n1 npR) (n1 nGR) (n1 nDR), fun b o n' e => ?_, by omega, by rw [upd_same, List.map_append]; rfl, fun x hx => ?_, by rw [List.length_append, List.length_singleton]; omega, fun m hm => hb5 m (lg13.2 m hm)⟩
          · rw [upd_ne (ne_of_none e hRH)]
            exact w2 b13 _ _ n' (w1 bb12 _ _ n' (b5 _ _ n' e))
          · rcases List.mem_append.mp hx with h | h
            · exact (okx x h).mono pg13
            · rw [List.mem_singleton.mp h]; exact okr
        refine ⟨_, rfl, rfl, _, rfl, ite2 (fun _ => ?_) (fun _ => ?_)⟩
        · exact ⟨_, rfl, .inl ⟨rfl, _, SqL.of hR12⟩, _, rfl, p, dx12, _, rfl, hp12, plFs_no _ _ (by decide +kernel) (by decide +kernel), _, rfl, _, rfl, p, G, D', gs5, _, _, rfl, A12, kkx, kky, glen, fun H13 gs13 r A13 b13 pg13 lg13 okr13 sem13 => fin H13 gs13 r _ _ _ _ _ A13 b13 pg13 lg13 okr13⟩
        refine ⟨_, rfl, rfl, _, rfl, ite2 (fun _ => ?_) (fun _ => ?_)⟩
        · exact ⟨_, rfl, .inl ⟨rfl, _, SqL.of hR12⟩, _, rfl, p, dx12, _, rfl, hp12, plFs_no _ _ (by decide +kernel) (by decide +kernel), _, rfl, _, rfl, p, G, D', gs5, _, _, rfl, A12, kkx, kky, glen, fun H13 gs13 r A13 b13 pg13 lg13 okr13 sem13 => fin H13 gs13 r _ _ _ _ _ A13 b13 pg13 lg13 okr13⟩
        refine ⟨_, rfl, rfl, _, rfl, ite2 (fun _ => ?_) (fun _ => ?_)⟩
        · exact ⟨_, rfl, .inl ⟨rfl, _, SqL.of hR12⟩, _, rfl, p, dx12, _, rfl, hp12, plFs_no _ _ (by decide +kernel) (by decide +kernel), _, rfl, _, rfl, p, G, D', gs5, _, _, rfl, A12, kkx, kky, glen, fun H13 gs13 r A13 b13 pg13 lg13 okr13 sem13 => fin H13 gs13 r _ _ _ _ _ A13 b13 pg13 lg13 okr13⟩
        · exact ⟨_, rfl, .inl ⟨rfl, _, SqL.of hR12⟩, _, rfl, p, dx12, _, rfl, hp12, plFs_no _ _ (by decide +kernel) (by decide +kernel), _, rfl, _, rfl, _, rfl, p, G, D', gs5, _, _, _, rfl, A12, kkc, kkx, kky, glen, fun H13 gs13 r A13 b13 pg13 lg13 okr13 sem13 => fin H13 gs13 r _ _ _ _ _ A13 b13 pg13 lg13 okr13⟩
      · rintro σ' H5 ⟨gs5, xs, o4, o5, o6, o7, o8, rfl, D5, A5, b5, lg5, hR5, okx, lx, hb5⟩
        exact ⟨_, rfl, q H5 R gs5 xs D5 A5 b5 hRH (by omega) hR5 okx (fun e => by rw [e] at lx; simp at lx; omega) (by omega) hb5⟩
end
end My


set_option Elab.async false
set_option maxRecDepth 100000
set_option maxHeartbeats 4000000
set_option linter.all false
namespace My
open PySem L2 PyProof.Rows
open C8 (pss_cut)
def spSigned (K : PySem.W.Frag) : Sp := fun vs H Q _ => ∃ (N : Addr) (ys : List Int) (x : Int), vs = [.int x, .ref N] ∧ Rd H N (.dK (numK ys)) ∧ x / 2 ∈ ys ∧ Q (.int (sgn ys x)) H
def spGC (K : PySem.W.Frag) : Sp := fun vs H Q _ => ∃ (p : Addr) (g : Gt) (v : Int) (ps : List Int), vs = [.str (kindS g), .int v, .ref p] ∧ SqL K H p (ps.map V.int) ∧ ps.length = g.parts.length ∧ g.plain = true ∧
  ∀ r zs cs H', Same H H' → H' r = some (.lst zs) → DpAll K H' zs (cs.map clD) → All2 SortedAs (rawG g v ps) cs → Q (.ref r) H'
theorem rawG_len (g : Gt) (v : Int) (ps : List Int) : (rawG g v ps).length ≤ 6 := by
  unfold rawG
  split <;> simp
section
variable {P : Program} {w : World} {K : PySem.W.Frag} {mg : Str → Option Value} {base : Heap} {f C : Addr} {fd : FuncData}
theorem ok_signed (T : Txt K mg) (D : Def K mg "signed" ["literal", "numbers"] s_signed f fd) : Own P w K mg base "signed" ["literal", "numbers"] 1 (spSigned K) := by
  refine ⟨f, fd, D.mg, D.fn.kp, D.bd, D.fn.ok sc_signed (fun vs H Q E h => ?_) (fun cdv A outer s H vs Q E hr h => ?_)⟩
  · obtain ⟨N, ys, x, rfl, _⟩ := h
    rfl
  · obtain ⟨N, ys, x, rfl, hN, hx, q⟩ := h
    have hu := hu_of hr
    refine ⟨_, (pss_cons (ps_set (i := 2) sc_signed.nd rfl (Or.inl rfl) (pe_dget hu (pv 1) (pe_op op_shr (pv 0) pe_int) (fun _ _ => rfl)))
      (pss_one (ps_ret (pe_ifExp (pt_truth (pe_op op_and (pv 0) pe_int) (by intro _; rfl)) (pe_un un_neg (pv 2)) (pv 2))))), ?_⟩
    refine ⟨_, rfl, _, rfl, _, _, rfl, rfl, (by show (0 : Int) ≤ 1; decide), N, _, rfl, (by rw [← num_val hx]; exact .inl ⟨_, .inl (x / 2), hN, rfl, rfl⟩), ?_⟩
    refine ⟨_, rfl, _, _, rfl, rfl, ?_⟩
    refine ⟨_, rfl, ite2 (fun c => ?_) (fun c => ?_)⟩
    · have c : (Builtin.bitAnd x 1 != 0) = true := c
      rw [bitAnd_m1] at c
      have c' : x % 2 ≠ 0 := by simpa using c
      have e : sgn ys x = -numY ys (x / 2) := by unfold sgn; rw [if_neg c']
      rw [e] at q
      exact ⟨_, rfl, _, rfl, q⟩
    · have c : ¬ (Builtin.bitAnd x 1 != 0) = true := c
      rw [bitAnd_m1] at c
      have c' : x % 2 = 0 := by simpa using c
      have e : sgn ys x = numY ys (x / 2) := by unfold sgn; rw [if_pos c']
      rw [e] at q
      exact ⟨_, rfl, q⟩
theorem ok_gate_clauses (T : Txt K mg) (D : Def K mg "gate_clauses" ["kind", "g", "parts"] s_gate_clauses f fd) : Own P w K mg base "gate_clauses" ["kind", "g", "parts"] 1 (spGC K) := by
  refine ⟨f, fd, D.mg, D.fn.kp, D.bd, D.fn.ok sc_gate_clauses (fun vs H Q E h => ?_) (fun cdv A outer s H vs Q E hr h => ?_)⟩
  · obtain ⟨p, g, v, ps, rfl, _⟩ := h
    rfl
  · obtain ⟨p, g, v, ps, rfl, hp, hpl, hg, q⟩ := h
    refine ⟨_, (pss_cut (ps_if (pt_cmpR op_eq (pv 0) pe_str (nomark _)) (pss_cons (ps_asg (pv 2) (pg_unl (by rfl) (pgs_cons (pg_name (i := 3) sc_gate_clauses.nd rfl (Or.inl rfl)) (pgs_cons (pg_name (i := 4) sc_gate_clauses.nd rfl (Or.inl rfl)) pgs_nil))))
      (pss_one (ps_set (i := 5) sc_gate_clauses.nd rfl (Or.inl rfl) (pe_lst (pa_cons (pe_tup (pa_cons (pv 3) (pa_cons (pe_un un_neg (pv 1)) pa_nil))) (pa_cons (pe_tup (pa_cons (pv 4) (pa_cons (pe_un un_neg (pv 1)) pa_nil))) (pa_cons (pe_tup (pa_cons (pe_un un_neg (pv 3)) (pa_cons (pe_un un_neg (pv 4)) (pa_cons (pv 1) pa_nil)))) pa_nil))))))) (pss_one (ps_if (pt_cmpR op_eq (pv 0) pe_str (nomark _)) (pss_cons (ps_asg (pv 2) (pg_unl (by rfl) (pgs_cons (pg_name (i := 3) sc_gate_clauses.nd rfl (Or.inl rfl)) (pgs_cons (pg_name (i := 4) sc_gate_clauses.nd rfl (Or.inl rfl)) pgs_nil))))
      (pss_one (ps_set (i := 5) sc_gate_clauses.nd rfl (Or.inl rfl) (pe_lst (pa_cons (pe_tup (pa_cons (pv 3) (pa_cons (pv 4) (pa_cons (pe_un un_neg (pv 1)) pa_nil)))) (pa_cons (pe_tup (pa_cons (pe_un un_neg (pv 3)) (pa_cons (pe_un un_neg (pv 4)) (pa_cons (pe_un un_neg (pv 1)) pa_nil)))) (pa_cons (pe_tup (pa_cons (pe_un un_neg (pv 3)) (pa_cons (pv 4) (pa_cons (pv 1) pa_nil)))) (pa_cons (pe_tup (pa_cons (pv 3) (pa_cons (pe_un un_neg (pv 4)) (pa_cons (pv 1) pa_nil)))) pa_nil)))))))) (pss_one (ps_if (pt_cmpR op_eq (pv 0) pe_str (nomark _)) (pss_cons (ps_asg (pv 2) (pg_unl (by rfl) (pgs_cons (pg_name (i := 6) sc_gate_clauses.nd rfl (Or.inl rfl)) (pgs_cons (pg_name (i := 3) sc_gate_clauses.nd rfl (Or.inl rfl)) (pgs_cons (pg_name (i := 4) sc_gate_clauses.nd rfl (Or.inl rfl)) pgs_nil)))))
      (pss_one (ps_set (i := 5) sc_gate_clauses.nd rfl (Or.inl rfl) (pe_lst (pa_cons (pe_tup (pa_cons (pe_un un_neg (pv 6)) (pa_cons (pe_un un_neg (pv 3)) (pa_cons (pv 1) pa_nil)))) (pa_cons (pe_tup (pa_cons (pe_un un_neg (pv 6)) (pa_cons (pv 3) (pa_cons (pe_un un_neg (pv 1)) pa_nil)))) (pa_cons (pe_tup (pa_cons (pv 6) (pa_cons (pe_un un_neg (pv 4)) (pa_cons (pv 1) pa_nil)))) (pa_cons (pe_tup (pa_cons (pv 6) (pa_cons (pv 4) (pa_cons (pe_un un_neg (pv 1)) pa_nil)))) (pa_cons (pe_tup (pa_cons (pe_un un_neg (pv 3)) (pa_cons (pe_un un_neg (pv 4)) (pa_cons (pv 1) pa_nil)))) (pa_cons (pe_tup (pa_cons (pv 3) (pa_cons (pv 4) (pa_cons (pe_un un_neg (pv 1)) pa_nil)))) pa_nil)))))))))) (pss_cons (ps_asg (pv 2) (pg_unl (by rfl) (pgs_cons (pg_name (i := 3) sc_gate_clauses.nd rfl (Or.inl rfl)) (pgs_cons (pg_name (i := 4) sc_gate_clauses.nd rfl (Or.inl rfl)) (pgs_cons (pg_name (i := 7) sc_gate_clauses.nd rfl (Or.inl rfl)) pgs_nil)))))
      (pss_one (ps_set (i := 5) sc_gate_clauses.nd rfl (Or.inl rfl) (pe_lst (pa_cons (pe_tup (pa_cons (pe_un un_neg (pv 3)) (pa_cons (pe_un un_neg (pv 4)) (pa_cons (pv 1) pa_nil)))) (pa_cons (pe_tup (pa_cons (pe_un un_neg (pv 3)) (pa_cons (pe_un un_neg (pv 7)) (pa_cons (pv 1) pa_nil)))) (pa_cons (pe_tup (pa_cons (pe_un un_neg (pv 4)) (pa_cons (pe_un un_neg (pv 7)) (pa_cons (pv 1) pa_nil)))) (pa_cons (pe_tup (pa_cons (pv 3) (pa_cons (pv 4) (pa_cons (pe_un un_neg (pv 1)) pa_nil)))) (pa_cons (pe_tup (pa_cons (pv 3) (pa_cons (pv 7) (pa_cons (pe_un un_neg (pv 1)) pa_nil)))) (pa_cons (pe_tup (pa_cons (pv 4) (pa_cons (pv 7) (pa_cons (pe_un un_neg (pv 1)) pa_nil)))) pa_nil)))))))))))))))
      (pss_one (ps_ret (pe_lc (own := [("row", 8)]) (g := gName 8) (tt := tYes) rfl sc_gate_clauses.nd (pi_list (pv 5)) (blkOk_by (N := N_gate_clauses) (sc := defScope s_gate_clauses) (own := [("row", 8)]) (by decide +kernel)) (fun _ _ _ _ _ => (pg_name (i := 8) sc_gate_clauses.nd rfl (Or.inl rfl))) (fun _ _ _ _ _ => pts_nil) (fun _ _ _ _ _ => (pe_callTy (call_tuple_ofK (K := K) rfl) (by rfl) T.m_tuple (by decide +kernel) (pa_cons (pe_sortedAbs (K := K) rfl (pv 8) (by rfl) T.m_sorted (by rfl) T.m_abs) pa_nil))))))), ?_⟩
    refine ⟨fun σ' H' => ∃ (R : Addr) (us : List V) (o3 o4 o6 o7 : Option V), σ' = [some (.str (kindS g)), some (.int v), some (.ref p), o3, o4, some (.ref R), o6, o7, none] ∧ H' R = some (.lst us) ∧ DpAll K H' us ((rawG g v ps).map clD) ∧ Same H H', ?_, ?_⟩
    · cases g with
      | no => cases hg
      | bit n => cases hg
      | both a b =>
        obtain ⟨x, y, rfl⟩ : ∃ x y, ps = [x, y] := by
          match ps, hpl with
          | [x, y], _ => exact ⟨x, y, rfl⟩
        refine ⟨_, rfl, rfl, _, rfl, ite2 (fun _ => ?_) (fun c => absurd (decide_eq_true rfl) c)⟩
        refine ⟨_, rfl, p, _, rfl, hp, rfl, _, _, rfl, _, _, rfl, rfl, ?_⟩
        have A0 : DpAll K H [] ([] : List PyData) := .nil
        refine ⟨_, rfl, _, rfl, _, rfl, by show 2 ≤ sizeLine; decide, fun t0 ht0 => ?_⟩
        have A1 := row_add (c := [x, -v]) A0 ht0
        have s1 : Same H _ := same_new ht0 (.tup [V.int (x), V.int (-v)])
        refine ⟨_, rfl, _, rfl, _, rfl, by show 2 ≤ sizeLine; decide, fun t1 ht1 => ?_⟩
        have A2 := row_add (c := [y, -v]) A1 ht1
        have s2 : Same H _ := s1.trans (same_new ht1 (.tup [V.int (y), V.int (-v)]))
        refine ⟨_, rfl, _, rfl, _, rfl, _, rfl, _, rfl, by show 3 ≤ sizeLine; decide, fun t2 ht2 => ?_⟩
        have A3 := row_add (c := [-x, -y, v]) A2 ht2
        have s3 : Same H _ := s2.trans (same_new ht2 (.tup [V.int (-x), V.int (-y), V.int (v)]))
        refine ⟨by show 3 ≤ sizeLine; decide, fun R hR => ?_⟩
        exact ⟨R, _, _, _, _, _, rfl, upd_same, dpa_mono (same_new hR _) _ A3, s3.trans (same_new hR _)⟩
      | unlike a b =>
        obtain ⟨x, y, rfl⟩ : ∃ x y, ps = [x, y] := by
          match ps, hpl with
          | [x, y], _ => exact ⟨x, y, rfl⟩
        refine ⟨_, rfl, rfl, _, rfl, ite2 (fun c => absurd c (by show ¬ (decide (V.str "unlike" = V.str "both") = true); decide +kernel)) (fun _ => ?_)⟩
        refine ⟨_, rfl, rfl, _, rfl, ite2 (fun _ => ?_) (fun c => absurd (decide_eq_true rfl) c)⟩
        refine ⟨_, rfl, p, _, rfl, hp, rfl, _, _, rfl, _, _, rfl, rfl, ?_⟩
        have A0 : DpAll K H [] ([] : List PyData) := .nil
        refine ⟨_, rfl, _, rfl, _, rfl, _, rfl, by show 3 ≤ sizeLine; decide, fun t0 ht0 => ?_⟩
        have A1 := row_add (c := [x, y, -v]) A0 ht0
        have s1 : Same H _ := same_new ht0 (.tup [V.int (x), V.int (y), V.int (-v)])
        refine ⟨_, rfl, _, rfl, _, rfl, _, rfl, _, rfl, _, rfl, by show 3 ≤ sizeLine; decide, fun t1 ht1 => ?_⟩
        have A2 := row_add (c := [-x, -y, -v]) A1 ht1
        have s2 : Same H _ := s1.trans (same_new ht1 (.tup [V.int (-x), V.int (-y), V.int (-v)]))
        refine ⟨_, rfl, _, rfl, _, rfl, _, rfl, by show 3 ≤ sizeLine; decide, fun t2 ht2 => ?_⟩
        have A3 := row_add (c := [-x, y, v]) A2 ht2
        have s3 : Same H _ := s2.trans (same_new ht2 (.tup [V.int (-x), V.int (y), V.int (v)]))
        refine ⟨_, rfl, _, rfl, _, rfl, _, rfl, by show 3 ≤ sizeLine; decide, fun t3 ht3 => ?_⟩
        have A4 := row_add (c := [x, -y, v]) A3 ht3
        have s4 : Same H _ := s3.trans (same_new ht3 (.tup [V.int (x), V.int (-y), V.int (v)]))
        refine ⟨by show 4 ≤ sizeLine; decide, fun R hR => ?_⟩
        exact ⟨R, _, _, _, _, _, rfl, upd_same, dpa_mono (same_new hR _) _ A4, s4.trans (same_new hR _)⟩
      | chosen a b d =>
        obtain ⟨c, x, y, rfl⟩ : ∃ c x y, ps = [c, x, y] := by
          match ps, hpl with
          | [c, x, y], _ => exact ⟨c, x, y, rfl⟩
        refine ⟨_, rfl, rfl, _, rfl, ite2 (fun c => absurd c (by show ¬ (decide (V.str "chosen" = V.str "both") = true); decide +kernel)) (fun _ => ?_)⟩
        refine ⟨_, rfl, rfl, _, rfl, ite2 (fun c => absurd c (by show ¬ (decide (V.str "chosen" = V.str "unlike") = true); decide +kernel)) (fun _ => ?_)⟩
        refine ⟨_, rfl, rfl, _, rfl, ite2 (fun _ => ?_) (fun c => absurd (decide_eq_true rfl) c)⟩
        refine ⟨_, rfl, p, _, rfl, hp, rfl, _, _, rfl, _, _, rfl, _, _, rfl, rfl, ?_⟩
        have A0 : DpAll K H [] ([] : List PyData) := .nil
        refine ⟨_, rfl, _, rfl, _, rfl, _, rfl, _, rfl, by show 3 ≤ sizeLine; decide, fun t0 ht0 => ?_⟩
        have A1 := row_add (c := [-c, -x, v]) A0 ht0
        have s1 : Same H _ := same_new ht0 (.tup [V.int (-c), V.int (-x), V.int (v)])
        refine ⟨_, rfl, _, rfl, _, rfl, _, rfl, _, rfl, by show 3 ≤ sizeLine; decide, fun t1 ht1 => ?_⟩
        have A2 := row_add (c := [-c, x, -v]) A1 ht1
        have s2 : Same H _ := s1.trans (same_new ht1 (.tup [V.int (-c), V.int (x), V.int (-v)]))
        refine ⟨_, rfl, _, rfl, _, rfl, _, rfl, by show 3 ≤ sizeLine; decide, fun t2 ht2 => ?_⟩
        have A3 := row_add (c := [c, -y, v]) A2 ht2
        have s3 : Same H _ := s2.trans (same_new ht2 (.tup [V.int (c), V.int (-y), V.int (v)]))
        refine ⟨_, rfl, _, rfl, _, rfl, _, rfl, by show 3 ≤ sizeLine; decide, fun t3 ht3 => ?_⟩
        have A4 := row_add (c := [c, y, -v]) A3 ht3
        have s4 : Same H _ := s3.trans (same_new ht3 (.tup [V.int (c), V.int (y), V.int (-v)]))
        refine ⟨_, rfl, _, rfl, _, rfl, _, rfl, _, rfl, by show 3 ≤ sizeLine; decide, fun t4 ht4 => ?_⟩
        have A5 := row_add (c := [-x, -y, v]) A4 ht4
        have s5 : Same H _ := s4.trans (same_new ht4 (.tup [V.int (-x), V.int (-y), V.int (v)]))
        refine ⟨_, rfl, _, rfl, _, rfl, _, rfl, by show 3 ≤ sizeLine; decide, fun t5 ht5 => ?_⟩
        have A6 := row_add (c := [x, y, -v]) A5 ht5
        have s6 : Same H _ := s5.trans (same_new ht5 (.tup [V.int (x), V.int (y), V.int (-v)]))
        refine ⟨by show 6 ≤ sizeLine; decide, fun R hR => ?_⟩
        exact ⟨R, _, _, _, _, _, rfl, upd_same, dpa_mono (same_new hR _) _ A6, s6.trans (same_new hR _)⟩
      | most a b d =>
        obtain ⟨x, y, z, rfl⟩ : ∃ x y z, ps = [x, y, z] := by
          match ps, hpl with
          | [x, y, z], _ => exact ⟨x, y, z, rfl⟩
        refine ⟨_, rfl, rfl, _, rfl, ite2 (fun c => absurd c (by show ¬ (decide (V.str "most" = V.str "both") = true); decide +kernel)) (fun _ => ?_)⟩
        refine ⟨_, rfl, rfl, _, rfl, ite2 (fun c => absurd c (by show ¬ (decide (V.str "most" = V.str "unlike") = true); decide +kernel)) (fun _ => ?_)⟩
        refine ⟨_, rfl, rfl, _, rfl, ite2 (fun c => absurd c (by show ¬ (decide (V.str "most" = V.str "chosen") = true); decide +kernel)) (fun _ => ?_)⟩
        refine ⟨_, rfl, p, _, rfl, hp, rfl, _, _, rfl, _, _, rfl, _, _, rfl, rfl, ?_⟩
        have A0 : DpAll K H [] ([] : List PyData) := .nil
        refine ⟨_, rfl, _, rfl, _, rfl, _, rfl, _, rfl, by show 3 ≤ sizeLine; decide, fun t0 ht0 => ?_⟩
        have A1 := row_add (c := [-x, -y, v]) A0 ht0
        have s1 : Same H _ := same_new ht0 (.tup [V.int (-x), V.int (-y), V.int (v)])
        refine ⟨_, rfl, _, rfl, _, rfl, _, rfl, _, rfl, by show 3 ≤ sizeLine; decide, fun t1 ht1 => ?_⟩
        have A2 := row_add (c := [-x, -z, v]) A1 ht1
        have s2 : Same H _ := s1.trans (same_new ht1 (.tup [V.int (-x), V.int (-z), V.int (v)]))
        refine ⟨_, rfl, _, rfl, _, rfl, _, rfl, _, rfl, by show 3 ≤ sizeLine; decide, fun t2 ht2 => ?_⟩
        have A3 := row_add (c := [-y, -z, v]) A2 ht2
        have s3 : Same H _ := s2.trans (same_new ht2 (.tup [V.int (-y), V.int (-z), V.int (v)]))
        refine ⟨_, rfl, _, rfl, _, rfl, _, rfl, by show 3 ≤ sizeLine; decide, fun t3 ht3 => ?_⟩
        have A4 := row_add (c := [x, y, -v]) A3 ht3
        have s4 : Same H _ := s3.trans (same_new ht3 (.tup [V.int (x), V.int (y), V.int (-v)]))
        refine ⟨_, rfl, _, rfl, _, rfl, _, rfl, by show 3 ≤ sizeLine; decide, fun t4 ht4 => ?_⟩
        have A5 := row_add (c := [x, z, -v]) A4 ht4
        have s5 : Same H _ := s4.trans (same_new ht4 (.tup [V.int (x), V.int (z), V.int (-v)]))
        refine ⟨_, rfl, _, rfl, _, rfl, _, rfl, by show 3 ≤ sizeLine; decide, fun t5 ht5 => ?_⟩
        have A6 := row_add (c := [y, z, -v]) A5 ht5
        have s6 : Same H _ := s5.trans (same_new ht5 (.tup [V.int (y), V.int (z), V.int (-v)]))
        refine ⟨by show 6 ≤ sizeLine; decide, fun R hR => ?_⟩
        exact ⟨R, _, _, _, _, _, rfl, upd_same, dpa_mono (same_new hR _) _ A6, s6.trans (same_new hR _)⟩
    · rintro σ' H' ⟨R, us, o3, o4, o6, o7, rfl, hR, hus, s1⟩
      refine ⟨_, rfl, R, rfl, ⟨_, SqL.of hR⟩, fun D1 hD1 => lc_gen (K := K) (walk_list (K := K) (a := R) (xs := us)) (fun i ds => ∃ cs, ds = cs.map clD ∧ All2 SortedAs ((rawG g v ps).take i) cs) ⟨[], rfl, .nil⟩ ?_ hD1 (fun H3 s3 => SqL.of (s3 _ _ hR)) (fun i x H2 H3 ds Nx Add hi hw s2 hne hy hNx hAdd => ?_) fun H2 zs ds hz hd hw s2 => ?_⟩
      · rw [dpa_len hus, List.length_map]
        exact Nat.le_trans (rawG_len g v ps) (by decide)
      · obtain ⟨rfl, hx⟩ := hy
        obtain ⟨cs, rfl, hcs⟩ := hw
        obtain ⟨c, t, hc, rfl, ht⟩ := dpa_atC (dpa_mono s2 _ hus) hx
        refine ⟨rfl, yesV ?_⟩
        rw [if_pos rfl]
        refine ⟨_, rfl, t, c, rfl, ht, fun c' p' pm pw hp' => ⟨p', _, rfl, .inl ⟨SqL.of upd_same, fun l hl => ?_⟩⟩⟩
        have s4 := (same_new hp' (.lst (c'.map V.int))).trans (same_new hl (.tup (c'.map V.int)))
        have nl : l ≠ D1 := fun e => by
          cases q : H3 D1 with
          | none => exact hne q
          | some o =>
            have := same_new hp' (.lst (c'.map V.int)) _ _ q
            rw [← e, hl] at this
            cases this
        refine hAdd _ (clD c') _ s4 (.tup (SqT.of ?_) (ints_all _)) ⟨cs ++ [c'], by rw [List.map_append]; rfl, ?_⟩
        · rw [hide_ne nl, upd_same]
        · rw [take_nextV hc]
          exact hcs.app (.cons ⟨pm, pw⟩ .nil)
      · obtain ⟨cs, rfl, hcs⟩ := hw
        rw [List.take_of_length_le (by rw [dpa_len hus, List.length_map]; exact Nat.le_refl _)] at hcs
        exact q D1 zs cs H2 (s1.trans s2) hz (dpa_mono hide_le _ hd) hcs
end
end My


set_option Elab.async false
set_option maxRecDepth 100000
set_option maxHeartbeats 4000000
set_option linter.all false
namespace My
open PySem L2 PyProof.Rows
open C8 (pss_cut)
theorem numY_at {ys : List Int} (nd : ys.Nodup) {i : Nat} {y : Int} (h : ys[i]? = some y) : numY ys y = (i : Int) + 1 := by
  have hi := (List.getElem?_eq_some_iff.mp h).1
  have hy := List.mem_of_getElem? h
  have hj := List.idxOf_lt_length_of_mem hy
  have e : ys[ys.idxOf y]? = some y := by rw [List.getElem?_eq_getElem hj]; exact congrArg some (List.getElem_idxOf hj)
  have := (List.getElem?_inj hj nd).mp (e.trans h.symm)
  unfold numY
  omega
def spNumbers (P : Program) (w : World) (K : PySem.W.Frag) (C : Addr) : Sp := fun vs H Q _ => ∃ (p G D : Addr) (gs : List Gt) (x : Int), vs = [.ref p, .int x] ∧ PoolAt P w K H C p G D gs ∧ okL gs x ∧ gs.length ≤ 10000 ∧
  ∀ H' N ys, Same H H' → H N = none → H' N = some (.dK (numK ys)) → Cone gs [x] ys → Q (.ref N) H'
section
variable {P : Program} {w : World} {K : PySem.W.Frag} {mg : Str → Option Value} {base : Heap} {f C : Addr} {fd : FuncData}
theorem ok_numbers_of (T : Txt K mg) (PK : PlK K C) (D : DefM K C "numbers_of" "Pool.numbers_of" ["self", "literal"] s_Pool_numbers_of f fd) (O1 : OwnM P w K mg base C "cone" ["self", "literals", "seen"] 1 (spCone P w K C)) : OwnM P w K mg base C "numbers_of" ["self", "literal"] 2 (spNumbers P w K C) := by
  obtain ⟨fcone, fdcone, Mcone, bcone, Gcone⟩ := O1
  refine ⟨f, fd, D.me, D.bd, D.fn.ok sc_Pool_numbers_of (fun vs H Q E h => ?_) (fun cdv A outer s H vs Q E hr h => ?_)⟩
  · obtain ⟨p, G, D', gs, x, rfl, _⟩ := h
    rfl
  · obtain ⟨p, G, D', gs, x, rfl, A0, hx, h64, q⟩ := h
    obtain ⟨dx, ts0, h1, h2, h3, h4, h5⟩ := A0.at_
    have hu := hu_of hr
    refine ⟨_, (pss_one (ps_ret (pe_dc (own := [("v", 2), ("k", 3)]) (g := gTup K 2 (gCons (gName 2) (gCons (gName 3) gNil))) (tt := tYes) rfl sc_Pool_numbers_of.nd (pi_enum1 rfl (by rfl) T.m_enumerate (pe_meth (pv 0) PK.cls Mcone Gcone (hr.mono (by omega)) bcone .nil pass0 (pa_cons (pe_lst (pa_cons (pv 1) pa_nil)) (pa_cons pe_dnewK pa_nil)))) (blkOk_by (N := N_Pool_numbers_of) (sc := defScope s_Pool_numbers_of) (own := [("v", 2), ("k", 3)]) (by decide +kernel)) (fun _ _ _ _ _ => (pg_tup (by rfl) (pgs_cons (pg_name (i := 2) sc_Pool_numbers_of.nd rfl (Or.inl rfl)) (pgs_cons (pg_name (i := 3) sc_Pool_numbers_of.nd rfl (Or.inl rfl)) pgs_nil)))) (fun _ _ _ _ _ => pts_nil) (fun _ _ _ _ _ => (pv 3)) (fun _ _ _ _ _ => (pv 2))))), ?_⟩
    refine ⟨_, rfl, p, dx, _, rfl, h1, plFs_no _ _ (by decide +kernel) (by decide +kernel), _, rfl, by show 1 ≤ sizeLine; decide, fun l hl => ?_⟩
    have s1 := same_new hl (.lst [.int x])
    refine fun S hS => ⟨_, p, G, D', l, S, gs, [x], rfl, same_new hS _, hS, upd_same, A0.same s1, SqL.of upd_same, (fun z hz => by rw [List.mem_singleton.mp hz]; exact hx), (by show 1 ≤ 100; decide), h64, fun H2 r ys s2 hr2 hC => ?_⟩
    have nd : ys.Nodup := hC.asc.imp fun {a b} h => by omega
    have ysl := few_of nd hC.rng
    have sA := s1.trans s2
    refine ⟨r, _, rfl, SqL.of hr2, fun N hN => dc_it (walk_enum1 (K := K) (a := r) (xs := ys.map V.int)) (fun i H3 => H3 N = some (.dK ((ys.take i).map fun y => ((Sum.inl y : Key), V.int (numY ys y)))) ∧ Same H2 H3) ⟨upd_same, same_new hN _⟩ (fun i H3 _ ⟨_, s3⟩ => SqL.of (s3 _ _ hr2)) (fun i y H3 H4 hi ⟨hN3, s3⟩ hy => ?_) (fun H3 ⟨hN3, s3⟩ => ?_)⟩
    · obtain ⟨T', a, b, rfl, hT, rfl, ha, hb⟩ := hy
      obtain rfl := (Option.some.inj ha).symm
      obtain ⟨k, rfl, hk⟩ := map_at hb
      have hil : i < ys.length := (List.getElem?_eq_some_iff.mp hk).1
      have sT := same_new hT (.tup [.int ((i + 1 : Nat) : Int), .int k])
      have nTN : T' ≠ N := fun e => by rw [e, hN3] at hT; cases hT
      have hknot : k ∉ ys.take i := fun m => by
        obtain ⟨j, hj⟩ := List.getElem?_of_mem m
        have hji : j < i := by
          have := (List.getElem?_eq_some_iff.mp hj).1
          rw [List.length_take] at this
          omega
        rw [List.getElem?_take_of_lt hji] at hj
        have := (List.getElem?_inj (by omega) nd).mp (hj.trans hk.symm)
        omega
      refine ⟨T', _, rfl, SqT.of upd_same, rfl, _, _, rfl, _, _, rfl, rfl, rfl, yesV ?_⟩
      rw [if_pos rfl]
      refine ⟨_, rfl, _, rfl, _, .inl k, rfl, sT _ _ hN3, ?_, ?_, ?_⟩
      · rw [List.length_map, List.length_take]
        exact Nat.lt_of_le_of_lt (show min i ys.length ≤ 10000 by omega) (by decide)
      · rw [upd_same, take_nextV hk, ← mapK_put (f := fun y => V.int (numY ys y)) hknot, numY_at nd hk]
        rfl
      · intro b o hb
        rw [upd_ne (ne_of_none hb hN)]
        exact sT _ _ (s3 b o hb)
    · rw [List.length_map, List.take_length] at hN3
      refine q H3 N ys (sA.trans s3) ?_ hN3 hC
      cases e : H N with
      | none => rfl
      | some o => rw [sA _ _ e] at hN; cases hN
end
end My


set_option Elab.async false
set_option maxRecDepth 100000
set_option maxHeartbeats 4000000
set_option linter.all false
namespace My
open PySem L2 PyProof.Rows
open C8 (pss_cut)
/-- the numbers of a cone, in a dict that is new -/
structure NumAt (P : Program) (w : World) (K : PySem.W.Frag) (H0 H : Hp) (C p G D N : Addr) (gs : List Gt) (x : Int) (ys : List Int) : Prop where
  old : Same H0 H
  new : H0 N = none
  at_ : H N = some (.dK (numK ys))
  pool : PoolAt P w K H0 C p G D gs
  cone : Cone gs [x] ys
  pos : ∀ y ∈ ys, 1 ≤ y
  few : gs.length ≤ 10000
theorem NumAt.nd {P : Program} {w : World} {K : PySem.W.Frag} {H0 H : Hp} {C p G D N : Addr} {gs : List Gt} {x : Int} {ys : List Int} (A : NumAt P w K H0 H C p G D N gs x ys) : ys.Nodup := A.cone.asc.imp fun {a b} h => by omega
theorem NumAt.len {P : Program} {w : World} {K : PySem.W.Frag} {H0 H : Hp} {C p G D N : Addr} {gs : List Gt} {x : Int} {ys : List Int} (A : NumAt P w K H0 H C p G D N gs x ys) : ys.length ≤ 10000 := Nat.le_trans (few_of A.nd A.cone.rng) A.few
theorem NumAt.notNo {P : Program} {w : World} {K : PySem.W.Frag} {H0 H : Hp} {C p G D N : Addr} {gs : List Gt} {x : Int} {ys : List Int} (A : NumAt P w K H0 H C p G D N gs x ys) {y : Int} (hy : y ∈ ys) {g : Gt} (hg : gs[y.toNat]? = some g) : g ≠ .no := fun e => by
  subst e
  have h0 := A.pool.ok.first
  have := A.pos y hy
  have e1 : (gs.map Gt.nk)[y.toNat]? = some Gt.no.nk := by rw [List.getElem?_map, hg]; rfl
  have e2 : (gs.map Gt.nk)[0]? = some Gt.no.nk := by rw [List.getElem?_map, h0]; rfl
  have := (List.getElem?_inj (by have := (List.getElem?_eq_some_iff.mp e1).1; omega) A.pool.nd).mp (e1.trans e2.symm)
  omega
theorem plain_of {g : Gt} (h : g.isBit = false) (k : g ≠ .no) : g.plain = true := by
  cases g with
  | no => exact absurd rfl k
  | bit n => cases h
  | both a b => rfl
  | unlike a b => rfl
  | chosen a b c => rfl
  | most a b c => rfl
def sgnV (ys : List Int) : V → V
  | .int x => .int (sgn ys x)
  | v => v
theorem sgnV_map (ys xs : List Int) : (xs.map V.int).map (sgnV ys) = (xs.map (sgn ys)).map V.int := by
  rw [List.map_map, List.map_map]
  rfl
theorem rawOf_snoc {gs : List Gt} {ys zs : List Int} {y : Int} : rawOf gs ys (zs ++ [y]) = rawOf gs ys zs ++ rawY gs ys y := by
  unfold rawOf
  rw [List.flatMap_append, List.flatMap_cons, List.flatMap_nil, List.append_nil]
theorem rawY_len (gs : List Gt) (ys : List Int) (y : Int) : (rawY gs ys y).length ≤ 6 := by
  unfold rawY
  split
  · exact rawG_len _ _ _
  · decide
theorem rawOf_len (gs : List Gt) (ys : List Int) : ∀ zs : List Int, (rawOf gs ys zs).length ≤ 6 * zs.length := by
  intro zs
  induction zs with
  | nil => exact Nat.le_refl _
  | cons z zs ih =>
    have := rawY_len gs ys z
    unfold rawOf at ih ⊢
    rw [List.flatMap_cons, List.length_append, List.length_cons]
    omega
theorem hide_updN {H : Hp} {N R : Addr} {o : HO} (nRN : R ≠ N) : hide R (upd H N o) = upd (hide R H) N o := funext fun b => by
  by_cases z : b = N
  · rw [z, hide_ne nRN.symm, upd_same, upd_same]
  · rw [upd_ne z]
    by_cases z2 : b = R
    · rw [z2]
      unfold hide
      rw [if_pos rfl, if_pos rfl]
    · rw [hide_ne z2, hide_ne z2, upd_ne z]
mutual
theorem dp_thru {K : PySem.W.Frag} {H H' : Hp} (h : ∀ t xs, SqT K H t xs → SqT K H' t xs) : ∀ (d : PyData) {v : V}, noLst d = true → Dp K H v d → Dp K H' v d
  | .none, _, _, .non => .non
  | .bool _, _, _, .bl b => .bl b
  | .int _, _, _, .int i => .int i
  | .str _, _, _, .str x => .str x
  | .list ds, _, n, _ => by cases (show false = true from n)
  | .tuple ds, _, n, .tup k hs => .tup (h _ _ k) (dpa_thru h ds n hs)
  | .dict _, _, _, h => by cases h
theorem dpa_thru {K : PySem.W.Frag} {H H' : Hp} (h : ∀ t xs, SqT K H t xs → SqT K H' t xs) : ∀ (ds : List PyData) {vs : List V}, noLsts ds = true → DpAll K H vs ds → DpAll K H' vs ds
  | [], _, _, .nil => .nil
  | d :: ds, _, n, .cons a hs => by
    have n' := Bool.and_eq_true_iff.mp (show (noLst d && noLsts ds) = true from n)
    exact .cons (dp_thru h d n'.1 a) (dpa_thru h ds n'.2 hs)
end
theorem sqt_unlock {K : PySem.W.Frag} {H : Hp} {N : Addr} {o : Obj} {kvs : List (Key × V)} {u : HO} (h : H N = some (.frz o (.dK kvs))) (t : Addr) (xs : List V) (k : SqT K H t xs) : SqT K (upd H N u) t xs := by
  rcases k with (k | ⟨o', k⟩) | k
  · exact .inl (.inl (by rw [upd_ne fun z => by rw [z, h] at k; cases k]; exact k))
  · exact .inl (.inr ⟨o', by rw [upd_ne fun z => by rw [z, h] at k; cases k]; exact k⟩)
  · exact .inr k
theorem ints_noLst : ∀ c : List Int, noLsts (c.map PyData.int) = true
  | [] => rfl
  | x :: c => by
    show (noLst (.int x) && noLsts (c.map PyData.int)) = true
    rw [ints_noLst c]
    rfl
theorem cls_noLst : ∀ cs : List (List Int), noLsts (cs.map clD) = true
  | [] => rfl
  | c :: cs => by
    show (noLst (clD c) && noLsts (cs.map clD)) = true
    rw [cls_noLst cs, show noLst (clD c) = noLsts (c.map PyData.int) from rfl, ints_noLst c]
    rfl
def spRows (P : Program) (w : World) (K : PySem.W.Frag) (C : Addr) : Sp := fun vs H Q _ => ∃ (H0 : Hp) (p G D N : Addr) (gs : List Gt) (x : Int) (ys : List Int), vs = [.ref p, .ref N, .ref N] ∧ NumAt P w K H0 H C p G D N gs x ys ∧
  ∀ H' R zs cs, Same H H' → H R = none → H' R = some (.lst zs) → DpAll K (hide R H') zs (cs.map clD) → All2 SortedAs (rawOf gs ys ys) cs → Q (.ref R) H'
section
variable {P : Program} {w : World} {K : PySem.W.Frag} {mg : Str → Option Value} {base : Heap} {f C : Addr} {fd : FuncData}
theorem ok_rows_of (T : Txt K mg) (PK : PlK K C) (D : DefM K C "rows_of" "Pool.rows_of" ["self", "gates", "numbers"] s_Pool_rows_of f fd) (O1 : Own P w K mg base "signed" ["literal", "numbers"] 1 (spSigned K)) (O2 : Own P w K mg base "gate_clauses" ["kind", "g", "parts"] 1 (spGC K)) : OwnM P w K mg base C "rows_of" ["self", "gates", "numbers"] 2 (spRows P w K C) := by
  obtain ⟨fsigned, fdsigned, msigned, ksigned, bsigned, Gsigned⟩ := O1
  obtain ⟨fgate_clauses, fdgate_clauses, mgate_clauses, kgate_clauses, bgate_clauses, Ggate_clauses⟩ := O2
  refine ⟨f, fd, D.me, D.bd, D.fn.ok sc_Pool_rows_of (fun vs H Q E h => ?_) (fun cdv A outer s H vs Q E hr h => ?_)⟩
  · obtain ⟨H0, p, G, D', N, gs, x, ys, rfl, _⟩ := h
    rfl
  · obtain ⟨H0, p, G, D', N, gs, x, ys, rfl, A0, q⟩ := h
    obtain ⟨dx, ts0, h1, h2, h3, h4, h5⟩ := A0.pool.at_
    have hu := hu_of hr
    have nd := A0.nd
    have ysl := A0.len
    refine ⟨_, (pss_cons (ps_set (i := 3) sc_Pool_rows_of.nd rfl (Or.inl rfl) (pe_lst pa_nil))
      (pss_cons (ps_lock (ps_for PassesOwn.never rfl (pi_keys (pv 1)) (pg_name (i := 4) sc_Pool_rows_of.nd rfl (Or.inl rfl)) (pss_cons (ps_set (i := 5) sc_Pool_rows_of.nd rfl (Or.inl rfl) (pe_ix ix_list (pe_fld (pv 0) (by rfl)) (pv 4) (fun _ _ => rfl)))
      (pss_one (ps_if (pt_cmpR op_ne (pe_ix ix_tup (pv 5) pe_int (fun _ _ => rfl)) pe_str (nomark _)) (pss_cons (ps_setLc (i := 6) (own := [("x", 7)]) (g := gName 7) (tt := tYes) rfl sc_Pool_rows_of.nd rfl rfl (sw_true rfl rfl rfl (by decide +kernel)) (pi_tup (pe_slice sl_tup (pv 5) (po_some pe_int) po_none)) (blkOk_by (N := N_Pool_rows_of) (sc := defScope s_Pool_rows_of) (own := [("x", 7)]) (by decide +kernel)) (fun _ _ _ _ _ => (pg_name (i := 7) sc_Pool_rows_of.nd rfl (Or.inl rfl))) (fun _ _ _ _ _ => pts_nil) (fun _ _ _ _ _ => (pe_call Gsigned (hr.mono (by omega)) rfl msigned ksigned bsigned .nil pass0 (pa_cons (pv 7) (pa_cons (pv 2) pa_nil)))))
      (pss_one (ps_expr (pe_bm PySem.F.plainAttrs_list PySem.F.slot_list_extend PySem.F.type_list_extend mt_extend (pv 3) (pa_cons (pe_call Ggate_clauses (hr.mono (by omega)) rfl mgate_clauses kgate_clauses bgate_clauses .nil pass0 (pa_cons (pe_ix ix_tup (pv 5) pe_int (fun _ _ => rfl)) (pa_cons (pe_dget hu (pv 2) (pv 4) (fun _ _ => rfl)) (pa_cons (pv 6) pa_nil)))) pa_nil))))) pss_nil)))))
      (pss_one (ps_ret (pv 3))))), ?_⟩
    refine ⟨by show 0 ≤ sizeLine; decide, fun R hR => ?_⟩
    have s1 := same_new hR (.lst [])
    have nRN : R ≠ N := fun e => by rw [e, A0.at_] at hR; cases hR
    have hN1 := s1 _ _ A0.at_
    refine ⟨N, _, hN1, True.intro, fun od => ?_⟩
    have hN2 : (upd (upd H R (.lst [])) N (.frz od (.dK (numK ys)))) N = some (.frz od (.dK (numK ys))) := upd_same
    have sO : Same H0 (upd (upd H R (.lst [])) N (.frz od (.dK (numK ys)))) := fun b o hb => by
      rw [upd_ne (ne_of_none hb A0.new)]
      exact s1 _ _ (A0.old b o hb)
    refine ⟨_, rfl, N, od, rfl, .inl ⟨numK ys, hN2, for_it (walk_keys (d := N) (o := od) (kvs := numK ys)) (fun i σ' H' => ∃ (zs : List V) (cs : List (List Int)) (o4 o5 o6 : Option V), σ' = [some (.ref p), some (.ref N), some (.ref N), some (.ref R), o4, o5, o6, none] ∧ H' N = some (.frz od (.dK (numK ys))) ∧ H' R = some (.lst zs) ∧ DpAll K (hide R H') zs (cs.map clD) ∧ All2 SortedAs (rawOf gs ys (ys.take i)) cs ∧ (∀ b o, b ≠ N → H b = some o → H' b = some o))
      ⟨[], [], none, none, none, rfl, hN2, by rw [upd_ne nRN]; exact upd_same, .nil, .nil, fun b o n e => by rw [upd_ne n]; exact s1 b o e⟩ (fun i σ' H' _ ⟨_, _, _, _, _, _, h, _⟩ => h) ?_ ?_⟩⟩
    · rintro i y σ' H' H2 hi ⟨zs, cs, o4, o5, o6, rfl, hN', hR', hzs, hcs, s2⟩ ⟨rfl, k0, v, hk0, rfl⟩
      obtain ⟨k, hk, rfl, rfl⟩ : ∃ k, ys[i]? = some k ∧ k0 = Sum.inl k ∧ v = V.int (numY ys k) := by
        unfold numK at hk0
        rw [List.getElem?_map] at hk0
        cases e : ys[i]? with
        | none => rw [e] at hk0; cases hk0
        | some k => rw [e] at hk0; cases hk0; exact ⟨k, rfl, rfl, rfl⟩
      have hkm := List.mem_of_getElem? hk
      have rk := A0.cone.rng k hkm
      obtain ⟨g, hg⟩ : ∃ g, gs[k.toNat]? = some g := ⟨gs[k.toNat]'(by omega), List.getElem?_eq_getElem (by omega)⟩
      obtain ⟨t, htk⟩ : ∃ t, ts0[k.toNat]? = some t := ⟨ts0[k.toNat]'(by omega), List.getElem?_eq_getElem (by omega)⟩
      obtain ⟨hd, hd8⟩ := h4 _ g t hg htk
      have hat : atI (ts0.map V.ref) k = some (.ref t) := by
        have e := atI_nat (xs := ts0.map V.ref) (j := k.toNat) (v := .ref t) (by rw [List.getElem?_map, htk]; rfl)
        rw [show ((k.toNat : Nat) : Int) = k by omega] at e
        exact e
      have s3 : Same H0 H2 := fun b o e => s2 b o (ne_of_none e A0.new) (A0.old b o e)
      have hdB := dp_mono s3 _ hd
      refine ⟨_, rfl, p, C, dx, _, _, rfl, s3 _ _ h1, PK.cls, PK.g, plFs_g _ _, _, rfl, G, _, k, _, rfl, rfl, SqL.of (s3 _ _ h2), hat, ?_⟩
      cases hb : g.isBit with
      | true =>
        obtain ⟨n, rfl⟩ : ∃ n, g = .bit n := by
          cases g with
          | bit n => exact ⟨n, rfl⟩
          | _ => cases hb
        obtain ⟨v, hs, hv⟩ := bit_seq hdB
        refine ⟨_, rfl, t, _, _, _, rfl, rfl, hs, rfl, rfl, _, rfl, ite2 (fun c => absurd c (by show ¬ ((!decide (V.str "bit" = V.str "bit")) = true); decide +kernel)) (fun _ => ?_)⟩
        refine ⟨zs, cs, _, _, _, rfl, hN', hR', hzs, ?_, s2⟩
        rw [take_nextV hk, rawOf_snoc, show rawY gs ys k = [] by unfold rawY; rw [hg]; rfl, List.append_nil]
        exact hcs
      | false =>
        have hpl := plain_of hb (A0.notNo hkm hg)
        have hs := gt_seq hb hdB
        refine ⟨_, rfl, t, _, _, _, rfl, rfl, hs, at0', rfl, _, rfl, ite2 (fun _ => ?_) (fun c => absurd (by show (!decide (V.str (kindS g) = V.str "bit")) = true; rw [Bool.not_eq_true'] ; exact Bool.eq_false_iff.mpr (kind_no hb)) c)⟩
        refine ⟨_, rfl, _, rfl, t, _, rfl, hs, not_whole _ _ _, fun p2 hp2 => ?_⟩
        rw [cut_from1]
        have sC := same_new hp2 (.tup ((V.str (kindS g) :: g.parts.map V.int).drop 1))
        have hl3 := parts_len g
        refine ⟨p2, rfl, ⟨_, SqT.of upd_same⟩, fun D1 hD1 => lc_mapT (sgnV ys) (SqT.of upd_same) (by show (g.parts.map V.int).length ≤ 1000; rw [List.length_map]; omega) hD1 (fun _ => rfl) (fun y H3 R3 hy s4 r => ?_) fun H3 h3' s4 => ?_⟩
        · obtain ⟨z, hz, rfl⟩ := List.mem_map.mp (show y ∈ g.parts.map V.int from hy)
          exact ⟨_, rfl, _, rfl, N, ys, z, rfl, .inr ⟨od, s4 _ _ (sC _ _ hN')⟩, A0.cone.cl k hkm g hg z hz, r⟩
        rw [show (V.str (kindS g) :: g.parts.map V.int).drop 1 = g.parts.map V.int from rfl, sgnV_map] at h3'
        have sD := sC.trans s4
        have hN3 := sD _ _ hN'
        refine ⟨_, rfl, .inl ⟨rfl, _, SqL.of (sD _ _ hR')⟩, _, rfl, t, _, _, _, rfl, rfl, sqt_mono sD hs, at0', _, rfl, _, rfl, N, _, rfl, (by rw [← num_val hkm]; exact .inl ⟨_, .inl k, .inr ⟨od, hN3⟩, rfl, rfl⟩), _, rfl, ?_⟩
        refine ⟨D1, g, numY ys k, g.parts.map (sgn ys), rfl, SqL.of h3', by rw [List.length_map], hpl, fun r zs2 cs2 H4 s5 hr4 hz2 hc2 => ?_⟩
        have sE := sD.trans s5
        have l1 : zs.length ≤ 60000 := by
          have h1 := dpa_len hzs
          have h2 := hcs.len
          have h3 := rawOf_len gs ys (ys.take i)
          rw [List.length_map] at h1
          rw [List.length_take] at h3
          omega
        have l2 : zs2.length ≤ 6 := by
          have h1 := dpa_len hz2
          have h2 := hc2.len
          have h3 := rawG_len g (numY ys k) (g.parts.map (sgn ys))
          rw [List.length_map] at h1
          omega
        refine ⟨R, r, _, _, rfl, rfl, sE _ _ hR', hr4, ?_, ?_⟩
        · first
          | exact Nat.lt_of_le_of_lt (show zs.length + zs2.length ≤ 60006 by omega) (by decide)
          | exact Nat.le_trans (show zs.length + zs2.length ≤ 60006 by omega) (by decide)
        have hz3 : DpAll K (hide R H4) zs2 (cs2.map clD) := dpa_but (A := [R]) (fun a ha => by rw [List.mem_singleton.mp ha, sE _ _ hR']; exact True.intro) (fun b o n e => hide_in e fun z => n (by rw [z]; exact List.mem_singleton_self R)) _ (cls_noLst cs2) hz2
        refine ⟨zs ++ zs2, cs ++ cs2, _, _, _, rfl, by rw [upd_ne nRN.symm]; exact sE _ _ hN', upd_same, ?_, ?_, fun b o n e => ?_⟩
        · rw [List.map_append]
          exact dpa_mono (hide_put _) _ (dpa_app (dpa_mono (hide_same sE) _ hzs) hz3)
        · rw [take_nextV hk, rawOf_snoc]
          refine hcs.app ?_
          rw [show rawY gs ys k = rawG g (numY ys k) (g.parts.map (sgn ys)) by unfold rawY; rw [hg]]
          exact hc2
        · rw [upd_ne (ne_of_none e hR)]
          exact sE _ _ (s2 b o n e)
    · rintro σ' H' ⟨zs, cs, o4, o5, o6, rfl, hN', hR', hzs, hcs, s2⟩
      rw [show (numK ys).length = ys.length by unfold numK; rw [List.length_map], List.take_length] at hcs
      refine ⟨hN', _, rfl, q _ R zs cs (fun b o e => ?_) hR ?_ ?_ hcs⟩
      · by_cases z : b = N
        · rw [z, upd_same, ← e, z, A0.at_]
        · rw [upd_ne z]
          exact s2 b o z e
      · rw [upd_ne nRN]
        exact hR'
      · have e := hide_updN (H := H') (o := .dK (numK ys)) nRN
        rw [e]
        exact dpa_thru (sqt_unlock (by rw [hide_ne nRN.symm]; exact hN')) _ (cls_noLst cs) hzs
end
end My


set_option Elab.async false
set_option maxRecDepth 100000
set_option maxHeartbeats 4000000
set_option linter.all false
namespace My
open PySem L2 PyProof.Rows
open C8 (pss_cut)
/-- a name with its number -/
def nvD (x : NK × Int) : PyData := .tuple [x.1.data, .int x.2]
theorem nvs_noLst : ∀ xs : List (NK × Int), noLsts (xs.map nvD) = true
  | [] => rfl
  | x :: xs => by
    show (noLst (nvD x) && noLsts (xs.map nvD)) = true
    rw [nvs_noLst xs, show noLst (nvD x) = (noLst x.1.data && (true && true)) from rfl, nk_noLst]
    rfl
def nm1 (ys : List Int) (y : Int) : Gt → List (NK × Int)
  | .bit n => [(n, numY ys y)]
  | _ => []
theorem nms_snoc {gs : List Gt} {ys zs : List Int} {y : Int} {g : Gt} (hg : gs[y.toNat]? = some g) : nmsOf gs ys (zs ++ [y]) = nmsOf gs ys zs ++ nm1 ys y g := by
  unfold nmsOf
  rw [List.filterMap_append]
  congr 1
  show List.filterMap _ [y] = _
  simp only [List.filterMap_cons, List.filterMap_nil, hg]
  cases g <;> rfl
def spNames (P : Program) (w : World) (K : PySem.W.Frag) (C : Addr) : Sp := fun vs H Q _ => ∃ (H0 : Hp) (p G D N : Addr) (gs : List Gt) (x : Int) (ys : List Int), vs = [.ref p, .ref N] ∧ NumAt P w K H0 H C p G D N gs x ys ∧
  ∀ H' R zs, Same H H' → H R = none → H' R = some (.lst zs) → DpAll K (hide R H') zs ((nmsOf gs ys ys).map nvD) → Q (.ref R) H'
section
variable {P : Program} {w : World} {K : PySem.W.Frag} {mg : Str → Option Value} {base : Heap} {f C : Addr} {fd : FuncData}
theorem ok_names_of (T : Txt K mg) (PK : PlK K C) (D : DefM K C "names_of" "Pool.names_of" ["self", "numbers"] s_Pool_names_of f fd) : OwnM P w K mg base C "names_of" ["self", "numbers"] 2 (spNames P w K C) := by
  refine ⟨f, fd, D.me, D.bd, D.fn.ok sc_Pool_names_of (fun vs H Q E h => ?_) (fun cdv A outer s H vs Q E hr h => ?_)⟩
  · obtain ⟨H0, p, G, D', N, gs, x, ys, rfl, _⟩ := h
    rfl
  · obtain ⟨H0, p, G, D', N, gs, x, ys, rfl, A0, q⟩ := h
    obtain ⟨dx, ts0, h1, h2, h3, h4, h5⟩ := A0.pool.at_
    have hu := hu_of hr
    have nd := A0.nd
    have ysl := A0.len
    refine ⟨_, (pss_one (ps_ret (pe_lock (pe_lc (own := [("k", 2)]) (g := gName 2) rfl sc_Pool_names_of.nd (pi_keys (pv 1)) (blkOk_by (N := N_Pool_names_of) (sc := defScope s_Pool_names_of) (own := [("k", 2)]) (by decide +kernel)) (fun _ _ _ _ _ => (pg_name (i := 2) sc_Pool_names_of.nd rfl (Or.inl rfl))) (fun _ _ _ _ _ => (pts_one (pt_cmpR op_eq (pe_ix (ix_tupK (K := K) rfl) (pe_ix (ix_listK (K := K) rfl) (pe_fldK (K := K) rfl (pv 0) (by rfl)) (pv 2) (fun _ _ => rfl)) pe_int (fun _ _ => rfl)) pe_str (nomark _)))) (fun _ _ _ _ _ => (pe_tup (pa_cons (pe_ix (ix_tupK (K := K) rfl) (pe_ix (ix_listK (K := K) rfl) (pe_fldK (K := K) rfl (pv 0) (by rfl)) (pv 2) (fun _ _ => rfl)) pe_int (fun _ _ => rfl)) (pa_cons (pe_dget hu (pv 1) (pv 2) (fun _ _ => rfl)) pa_nil)))))))), ?_⟩
    refine ⟨N, _, A0.at_, True.intro, fun od => ?_⟩
    obtain ⟨H1, eH1⟩ : ∃ H1, H1 = upd H N (.frz od (.dK (numK ys))) := ⟨_, rfl⟩
    have hN1 : H1 N = some (.frz od (.dK (numK ys))) := by rw [eH1]; exact upd_same
    have sO : Same H0 H1 := fun b o hb => by
      rw [eH1, upd_ne (ne_of_none hb A0.new)]
      exact A0.old b o hb
    rw [← eH1]
    refine ⟨_, rfl, N, od, rfl, .inl ⟨numK ys, hN1, fun D1 hD1 => lc_gen (K := K) (walk_keys (d := N) (o := od) (kvs := numK ys)) (fun i ds => ds = (nmsOf gs ys (ys.take i)).map nvD) rfl (by unfold numK; rw [List.length_map]; omega) hD1 (fun H2 s2 => s2 _ _ hN1) (fun i y H2 H3 ds Nx Add hi hw s2 hne hy hNx hAdd => ?_) (fun H2 zs ds hz hd hw s2 => ?_)⟩⟩
    · obtain ⟨rfl, k0, v, hk0, rfl⟩ := hy
      obtain ⟨k, hk, rfl, rfl⟩ : ∃ k, ys[i]? = some k ∧ k0 = Sum.inl k ∧ v = V.int (numY ys k) := by
        unfold numK at hk0
        rw [List.getElem?_map] at hk0
        cases e : ys[i]? with
        | none => rw [e] at hk0; cases hk0
        | some k => rw [e] at hk0; cases hk0; exact ⟨k, rfl, rfl, rfl⟩
      have hkm := List.mem_of_getElem? hk
      have rk := A0.cone.rng k hkm
      obtain ⟨g, hg⟩ : ∃ g, gs[k.toNat]? = some g := ⟨gs[k.toNat]'(by omega), List.getElem?_eq_getElem (by omega)⟩
      obtain ⟨t, htk⟩ : ∃ t, ts0[k.toNat]? = some t := ⟨ts0[k.toNat]'(by omega), List.getElem?_eq_getElem (by omega)⟩
      obtain ⟨hd, hd8⟩ := h4 _ g t hg htk
      have hat : atI (ts0.map V.ref) k = some (.ref t) := by
        have e := atI_nat (xs := ts0.map V.ref) (j := k.toNat) (v := .ref t) (by rw [List.getElem?_map, htk]; rfl)
        rw [show ((k.toNat : Nat) : Int) = k by omega] at e
        exact e
      have s3 : Same H0 H3 := sO.trans s2
      have hdB := dp_mono s3 _ hd
      refine ⟨rfl, ?_⟩
      have hsn := nms_snoc (ys := ys) (zs := ys.take i) hg
      rw [← take_nextV hk] at hsn
      cases hb : g.isBit with
      | true =>
        obtain ⟨n, rfl⟩ : ∃ n, g = .bit n := by
          cases g with
          | bit n => exact ⟨n, rfl⟩
          | _ => cases hb
        obtain ⟨v, hs0, hv0⟩ := bit_seq hd
        have hs := sqt_mono s3 hs0
        refine ⟨_, rfl, p, C, dx, _, _, rfl, s3 _ _ h1, PK.cls, PK.g, plFs_g _ _, _, rfl, G, _, k, _, rfl, rfl, SqL.of (s3 _ _ h2), hat, t, _, _, _, rfl, rfl, hs, rfl, rfl, _, rfl, ite2 (fun _ => ?_) (fun c => absurd (by show decide (V.str "bit" = V.str "bit") = true; decide +kernel) c)⟩
        refine ⟨_, rfl, p, C, dx, _, _, rfl, s3 _ _ h1, PK.cls, PK.g, plFs_g _ _, _, rfl, G, _, k, _, rfl, rfl, SqL.of (s3 _ _ h2), hat, t, _, _, _, rfl, rfl, hs, rfl, _, rfl, _, rfl, N, _, rfl, (by rw [← num_val hkm]; exact .inl ⟨_, .inl k, .inr ⟨od, s2 _ _ hN1⟩, rfl, rfl⟩), by show 2 ≤ sizeLine; decide, fun l hl => ?_⟩
        have s4 := same_new hl (.tup [v, .int (numY ys k)])
        have nl : l ≠ D1 := fun e => hne (by rw [← e]; exact hl)
        refine hAdd _ (nvD (n, numY ys k)) _ s4 (.tup (SqT.of (by rw [hide_ne nl, upd_same])) (.cons ?_ (.cons (.int _) .nil))) (by rw [hsn, hw, List.map_append]; rfl)
        have sH : Same H0 (hide D1 (upd H3 l (.tup [v, .int (numY ys k)]))) := fun b o e => hide_in (s4 _ _ (s3 b o e)) fun z => by
          rw [← z, sO b o e] at hD1
          cases hD1
        exact dp_mono sH _ hv0
      | false =>
        have hpl := plain_of hb (A0.notNo hkm hg)
        have hs := gt_seq hb hdB
        refine ⟨_, rfl, p, C, dx, _, _, rfl, s3 _ _ h1, PK.cls, PK.g, plFs_g _ _, _, rfl, G, _, k, _, rfl, rfl, SqL.of (s3 _ _ h2), hat, t, _, _, _, rfl, rfl, hs, at0', rfl, _, rfl, ite2 (fun c => absurd c (kind_no hb)) (fun _ => ?_)⟩
        refine hNx _ (Same.refl _) ?_
        rw [hsn, show nm1 ys k g = [] from (by cases g <;> first | rfl | (cases hb)), List.append_nil]
        exact hw
    · subst hw
      rw [show (numK ys).length = ys.length by unfold numK; rw [List.length_map], List.take_length] at hd
      have hND : D1 ≠ N := fun e => by rw [e, hN1] at hD1; cases hD1
      have hNe : hide D1 (upd H2 N (.dK (numK ys))) = upd (hide D1 H2) N (.dK (numK ys)) := hide_updN hND
      refine ⟨s2 _ _ hN1, q _ D1 zs (fun b o e => ?_) ?_ (by rw [upd_ne hND]; exact hz) ?_⟩
      · by_cases z : b = N
        · rw [z, upd_same, ← e, z, A0.at_]
        · rw [upd_ne z]
          exact s2 b o (by rw [eH1, upd_ne z]; exact e)
      · rw [eH1, upd_ne hND] at hD1
        exact hD1
      · rw [hNe]
        exact dpa_thru (sqt_unlock (by rw [hide_ne hND.symm]; exact s2 _ _ hN1)) _ (nvs_noLst _) hd
end
end My

set_option Elab.async false
set_option maxRecDepth 100000
set_option maxHeartbeats 4000000
set_option linter.all false
/-! What clauses of a literal are. -/
namespace My
open PySem PySem.Spec PyProof.Rows L2
structure GoodC (m : Int) (c : List Int) : Prop where
  nz : ∀ z ∈ c, z ≠ 0
  le : ∀ z ∈ c, ab z ≤ m
  dist : c.Pairwise fun x y => ab x ≠ ab y
  len : c.length ≤ 3
theorem ab_num (ys : List Int) (y : Int) : ab (numY ys y) = numY ys y := by
  have := numY_pos ys y
  unfold ab
  rw [if_neg (by omega)]
theorem ab_sgn (ys : List Int) (x : Int) : ab (sgn ys x) = numY ys (x / 2) := by
  unfold sgn
  split
  · exact ab_num _ _
  · rw [ab_neg, ab_num]
theorem good2 {m x y : Int} (hx : x ≠ 0) (hy : y ≠ 0) (lx : ab x ≤ m) (ly : ab y ≤ m) (d : ab x ≠ ab y) : GoodC m [x, y] := by
  refine ⟨fun z hz => ?_, fun z hz => ?_, ?_, by show 2 ≤ 3; decide⟩
  · rcases List.mem_cons.mp hz with e | e
    · omega
    · rw [List.mem_singleton] at e; omega
  · rcases List.mem_cons.mp hz with e | e
    · rw [e]; exact lx
    · rw [List.mem_singleton.mp e]; exact ly
  · exact List.pairwise_cons.mpr ⟨fun z hz => by rw [List.mem_singleton.mp hz]; exact d, List.pairwise_singleton _ _⟩
theorem good3 {m x y v : Int} (hx : x ≠ 0) (hy : y ≠ 0) (hv : v ≠ 0) (lx : ab x ≤ m) (ly : ab y ≤ m) (lv : ab v ≤ m) (d1 : ab x ≠ ab y) (d2 : ab x ≠ ab v) (d3 : ab y ≠ ab v) : GoodC m [x, y, v] := by
  have G := good2 hy hv ly lv d3
  refine ⟨fun z hz => ?_, fun z hz => ?_, ?_, by show 3 ≤ 3; decide⟩
  · rcases List.mem_cons.mp hz with e | e
    · omega
    · exact G.nz z e
  · rcases List.mem_cons.mp hz with e | e
    · rw [e]; exact lx
    · exact G.le z e
  · refine List.pairwise_cons.mpr ⟨fun z hz => ?_, G.dist⟩
    rcases List.mem_cons.mp hz with e | e
    · rw [e]; exact d1
    · rw [List.mem_singleton.mp e]; exact d2
theorem neg_nz {x : Int} (h : x ≠ 0) : -x ≠ 0 := by omega
theorem raw_good {m v : Int} {g : Gt} {ps : List Int} (hv : v ≠ 0) (lv : ab v ≤ m) (hp : ∀ z ∈ ps, z ≠ 0 ∧ ab z ≤ m ∧ ab z ≠ ab v) (hd : ps.Pairwise fun x y => ab x ≠ ab y) : ∀ c ∈ rawG g v ps, GoodC m c := by
  have two : ∀ {x y : Int}, ps = [x, y] → (x ≠ 0 ∧ ab x ≤ m ∧ ab x ≠ ab v) ∧ (y ≠ 0 ∧ ab y ≤ m ∧ ab y ≠ ab v) ∧ ab x ≠ ab y := fun {x y} e => by
    subst e
    exact ⟨hp x (.head _), hp y (.tail _ (.head _)), (List.pairwise_cons.mp hd).1 y (.head _)⟩
  have three : ∀ {x y z : Int}, ps = [x, y, z] → (x ≠ 0 ∧ ab x ≤ m ∧ ab x ≠ ab v) ∧ (y ≠ 0 ∧ ab y ≤ m ∧ ab y ≠ ab v) ∧ (z ≠ 0 ∧ ab z ≤ m ∧ ab z ≠ ab v) ∧ ab x ≠ ab y ∧ ab x ≠ ab z ∧ ab y ≠ ab z := fun {x y z} e => by
    subst e
    have h := List.pairwise_cons.mp hd
    exact ⟨hp x (.head _), hp y (.tail _ (.head _)), hp z (.tail _ (.tail _ (.head _))), h.1 y (.head _), h.1 z (.tail _ (.head _)), (List.pairwise_cons.mp h.2).1 z (.head _)⟩
  unfold rawG
  intro c hc
  split at hc
  · obtain ⟨⟨a1, a2, a3⟩, ⟨b1, b2, b3⟩, d⟩ := two rfl
    have vv := neg_nz hv
    simp only [List.mem_cons, List.not_mem_nil, or_false] at hc
    rcases hc with rfl | rfl | rfl
    · exact good2 a1 vv a2 (by rw [ab_neg]; exact lv) (by rw [ab_neg]; exact a3)
    · exact good2 b1 vv b2 (by rw [ab_neg]; exact lv) (by rw [ab_neg]; exact b3)
    · exact good3 (neg_nz a1) (neg_nz b1) hv (by rw [ab_neg]; exact a2) (by rw [ab_neg]; exact b2) lv (by rw [ab_neg, ab_neg]; exact d) (by rw [ab_neg]; exact a3) (by rw [ab_neg]; exact b3)
  · obtain ⟨⟨a1, a2, a3⟩, ⟨b1, b2, b3⟩, d⟩ := two rfl
    have vv := neg_nz hv
    simp only [List.mem_cons, List.not_mem_nil, or_false] at hc
    rcases hc with rfl | rfl | rfl | rfl <;> (first
      | exact good3 a1 b1 vv a2 b2 (by rw [ab_neg]; exact lv) d (by rw [ab_neg]; exact a3) (by rw [ab_neg]; exact b3)
      | exact good3 (neg_nz a1) (neg_nz b1) vv (by rw [ab_neg]; exact a2) (by rw [ab_neg]; exact b2) (by rw [ab_neg]; exact lv) (by rw [ab_neg, ab_neg]; exact d) (by rw [ab_neg, ab_neg]; exact a3) (by rw [ab_neg, ab_neg]; exact b3)
      | exact good3 (neg_nz a1) b1 hv (by rw [ab_neg]; exact a2) b2 lv (by rw [ab_neg]; exact d) (by rw [ab_neg]; exact a3) b3
      | exact good3 a1 (neg_nz b1) hv a2 (by rw [ab_neg]; exact b2) lv (by rw [ab_neg]; exact d) a3 (by rw [ab_neg]; exact b3))
  · obtain ⟨⟨a1, a2, a3⟩, ⟨b1, b2, b3⟩, ⟨e1, e2, e3⟩, d1, d2, d3⟩ := three rfl
    simp only [List.mem_cons, List.not_mem_nil, or_false] at hc
    rcases hc with rfl | rfl | rfl | rfl | rfl | rfl <;> refine good3 ?_ ?_ ?_ ?_ ?_ ?_ ?_ ?_ ?_ <;> (try simp only [ab_neg]) <;> omega
  · obtain ⟨⟨a1, a2, a3⟩, ⟨b1, b2, b3⟩, ⟨e1, e2, e3⟩, d1, d2, d3⟩ := three rfl
    simp only [List.mem_cons, List.not_mem_nil, or_false] at hc
    rcases hc with rfl | rfl | rfl | rfl | rfl | rfl <;> refine good3 ?_ ?_ ?_ ?_ ?_ ?_ ?_ ?_ ?_ <;> (try simp only [ab_neg]) <;> omega
  · cases hc
theorem raws_good {gs : List Gt} {ys : List Int} {x : Int} (hk : okGs gs) (C : Cone gs [x] ys) : ∀ c ∈ rawOf gs ys ys, GoodC ys.length c := by
  intro c hc
  obtain ⟨y, hy, hc⟩ := List.mem_flatMap.mp hc
  unfold rawY at hc
  split at hc
  · rename_i g hg
    have hp := numY_pos ys y
    have ry := C.rng y hy
    refine raw_good (by omega) (by rw [ab_num]; exact numY_le hy) (fun z hz => ?_) ?_ c hc
    · obtain ⟨a, ha, rfl⟩ := List.mem_map.mp hz
      have hm := C.cl y hy g hg a ha
      have hpa := hk.parts _ g hg a ha
      refine ⟨sgn_ne _ _, by rw [ab_sgn]; exact numY_le hm, fun e => ?_⟩
      rw [ab_sgn, ab_num] at e
      have := numY_inj hm hy e
      omega
    · refine List.pairwise_map.mpr ?_
      refine (hk.neat _ g hg).dist.imp_of_mem fun {a b} ha hb h e => ?_
      rw [ab_sgn, ab_sgn] at e
      exact h (numY_inj (C.cl y hy g hg a ha) (C.cl y hy g hg b hb) e)
  · cases hc
theorem sorted_good {m : Int} {r c : List Int} (h : SortedAs r c) (G : GoodC m r) : GoodC m c ∧ c.Pairwise fun x y => ab x < ab y := by
  obtain ⟨pm, pw⟩ := h
  have d : c.Pairwise fun x y => ab x ≠ ab y := (pm.pairwise_iff fun {a b} h => Ne.symm h).mpr G.dist
  exact ⟨⟨fun z hz => G.nz z (pm.mem_iff.mp hz), fun z hz => G.le z (pm.mem_iff.mp hz), d, by rw [pm.length_eq]; exact G.len⟩, (pw.and d).imp fun {a b} h => by have := h.1; have := h.2; omega⟩
theorem keeps_sorted {A : Int → Bool} {rs cs : List (List Int)} (h : All2 SortedAs rs cs) : MC.Keeps A rs ↔ MC.Keeps A cs := by
  constructor
  · intro k c hc
    obtain ⟨r, hr, pm, _⟩ := h.mem hc
    obtain ⟨z, hz, e⟩ := k r hr
    exact ⟨z, pm.mem_iff.mpr hz, e⟩
  · intro k r hr
    obtain ⟨c, hc, pm, _⟩ := h.memL hr
    obtain ⟨z, hz, e⟩ := k c hc
    exact ⟨z, pm.mem_iff.mp hz, e⟩
theorem nms_dist {gs : List Gt} {ys : List Int} {x : Int} (C : Cone gs [x] ys) (nd : (gs.map Gt.nk).Nodup) : (nmsOf gs ys ys).Pairwise fun a b => a.1 ≠ b.1 ∧ a.2 ≠ b.2 := by
  unfold nmsOf
  have h0 : ys.Pairwise fun a b => a ∈ ys ∧ b ∈ ys ∧ a ≠ b := C.asc.imp_of_mem fun {a b} ha hb h => ⟨ha, hb, by omega⟩
  refine List.Pairwise.filterMap _ (fun a b ⟨ha, hb, hab⟩ u hu v hv => ?_) h0
  have au : ∃ n, gs[a.toNat]? = some (.bit n) ∧ u = (n, numY ys a) := by
    split at hu
    · rename_i n hn; exact ⟨n, hn, (Option.some.inj hu).symm⟩
    · cases hu
  have bv : ∃ n, gs[b.toNat]? = some (.bit n) ∧ v = (n, numY ys b) := by
    split at hv
    · rename_i n hn; exact ⟨n, hn, (Option.some.inj hv).symm⟩
    · cases hv
  obtain ⟨n, hn, rfl⟩ := au
  obtain ⟨n', hn', rfl⟩ := bv
  refine ⟨fun e => ?_, fun e => hab (numY_inj ha hb e)⟩
  have e : n = n' := e
  subst e
  have ra := C.rng a ha
  have rb := C.rng b hb
  have e1 : (gs.map Gt.nk)[a.toNat]? = some (Gt.bit n).nk := by rw [List.getElem?_map, hn]; rfl
  have e2 : (gs.map Gt.nk)[b.toNat]? = some (Gt.bit n).nk := by rw [List.getElem?_map, hn']; rfl
  have := (List.getElem?_inj (by have := (List.getElem?_eq_some_iff.mp e1).1; omega) nd).mp (e1.trans e2.symm)
  omega
/-- the clauses and the named bits that are told of a literal -/
structure CLOk (gs : List Gt) (x : Int) (cs : List (List Int)) (nms : List (NK × Int)) (m : Nat) : Prop where
  mean : ∀ env, bitEnv env → ((∃ A, MC.Keeps A cs ∧ ∀ n v, (n, v) ∈ nms → (A v = true ↔ env n = 1)) ↔ litv (bitsOf env gs) x = 1)
  good : ∀ c ∈ cs, GoodC m c ∧ c.Pairwise fun x y => ab x < ab y
  dist : nms.Pairwise fun a b => a.1 ≠ b.1 ∧ a.2 ≠ b.2
  nums : ∀ n v, (n, v) ∈ nms → 1 ≤ v ∧ v ≤ m ∧ Gt.bit n ∈ gs
  few : m ≤ gs.length
  many : cs.length ≤ 6 * m + 1
theorem clok_yes {gs : List Gt} (hk : okGs gs) : CLOk gs 1 [] [] 0 :=
  ⟨fun env he => ⟨fun _ => litv_yes hk, fun _ => ⟨fun _ => true, keeps_nil, fun n v h => (nomatch h)⟩⟩, fun c h => (nomatch h), List.Pairwise.nil, fun n v h => (nomatch h), Nat.zero_le _, Nat.zero_le _⟩
theorem clok_no {gs : List Gt} (hk : okGs gs) : CLOk gs 0 [[]] [] 0 := by
  refine ⟨fun env he => ⟨fun ⟨A, h, _⟩ => ?_, fun h => ?_⟩, fun c h => ?_, .nil, fun n v h => (nomatch h), Nat.zero_le _, Nat.le_refl _⟩
  · obtain ⟨z, hz, _⟩ := h [] (.head _)
    cases hz
  · rw [litv_no hk] at h
    cases h
  · rw [List.mem_singleton.mp h]
    exact ⟨⟨fun z h => (nomatch h), fun z h => (nomatch h), .nil, by decide⟩, .nil⟩
theorem clok_of {gs : List Gt} {ys : List Int} {x : Int} {cs : List (List Int)} (hk : okGs gs) (nd : (gs.map Gt.nk).Nodup) (C : Cone gs [x] ys) (h1 : ∀ y ∈ ys, 1 ≤ y) (hcs : All2 SortedAs (rawOf gs ys ys) cs) (hml : (rawOf gs ys ys).length ≤ 6 * ys.length) (few : ys.length ≤ gs.length) : CLOk gs x (cs ++ [[sgn ys x]]) (nmsOf gs ys ys) ys.length := by
  have ndy : ys.Nodup := C.asc.imp fun {a b} h => by omega
  refine ⟨fun env he => ?_, fun c hc => ?_, nms_dist C nd, fun n v h => ?_, few, ?_⟩
  · rw [← ts_iff hk he C h1 nd]
    constructor
    · rintro ⟨A, hA, hn⟩
      obtain ⟨k1, k2⟩ := keeps_app.1 hA
      exact ⟨A, keeps_app.2 ⟨(keeps_sorted hcs).2 k1, k2⟩, hn⟩
    · rintro ⟨A, hA, hn⟩
      obtain ⟨k1, k2⟩ := keeps_app.1 hA
      exact ⟨A, keeps_app.2 ⟨(keeps_sorted hcs).1 k1, k2⟩, hn⟩
  · rcases List.mem_append.mp hc with h | h
    · obtain ⟨r, hr, s⟩ := hcs.mem h
      exact sorted_good s (raws_good hk C r hr)
    · rw [List.mem_singleton.mp h]
      refine ⟨⟨fun z hz => ?_, fun z hz => ?_, List.pairwise_singleton _ _, by show 1 ≤ 3; decide⟩, List.pairwise_singleton _ _⟩
      · rw [List.mem_singleton.mp hz]; exact sgn_ne _ _
      · rw [List.mem_singleton.mp hz, ab_sgn]; exact numY_le (C.has x (.head _))
  · obtain ⟨y, hy, hg, rfl⟩ := mem_nms.1 h
    exact ⟨numY_pos _ _, numY_le hy, List.mem_of_getElem? hg⟩
  · have := hcs.len
    rw [List.length_append, List.length_singleton]
    omega
end My


set_option Elab.async false
set_option maxRecDepth 100000
set_option maxHeartbeats 4000000
set_option linter.all false
namespace My
open PySem L2 PyProof.Rows
open C8 (pss_cut)
structure ClsAt (K : PySem.W.Frag) (H : Hp) (r : Addr) (cs : List (List Int)) (nms : List (NK × Int)) : Prop where
  at_ : ∃ a b xs us, SqT K H r [.ref a, .ref b] ∧ SqT K H a xs ∧ DpAll K H xs (cs.map clD) ∧ SqT K H b us ∧ DpAll K H us (nms.map nvD)
def spClauses (P : Program) (w : World) (K : PySem.W.Frag) (C : Addr) : Sp := fun vs H Q _ => ∃ (p G D : Addr) (gs : List Gt) (x : Int), vs = [.ref p, .int x] ∧ PoolAt P w K H C p G D gs ∧ okL gs x ∧ gs.length ≤ 10000 ∧
  ∀ H' r cs nms m, Same H H' → ClsAt K H' r cs nms → CLOk gs x cs nms m → Q (.ref r) H'
section
variable {P : Program} {w : World} {K : PySem.W.Frag} {mg : Str → Option Value} {base : Heap} {f C : Addr} {fd : FuncData}
theorem ok_clauses (T : Txt K mg) (PK : PlK K C) (C1 : ConI mg "NO" 0) (C2 : ConI mg "YES" 1) (D : DefM K C "clauses" "Pool.clauses" ["self", "literal"] s_Pool_clauses f fd) (O1 : OwnM P w K mg base C "numbers_of" ["self", "literal"] 2 (spNumbers P w K C)) (O2 : OwnM P w K mg base C "rows_of" ["self", "gates", "numbers"] 2 (spRows P w K C)) (O3 : OwnM P w K mg base C "names_of" ["self", "numbers"] 2 (spNames P w K C)) (O4 : Own P w K mg base "signed" ["literal", "numbers"] 1 (spSigned K)) : OwnM P w K mg base C "clauses" ["self", "literal"] 3 (spClauses P w K C) := by
  obtain ⟨fnumbers_of, fdnumbers_of, Mnumbers_of, bnumbers_of, Gnumbers_of⟩ := O1
  obtain ⟨frows_of, fdrows_of, Mrows_of, brows_of, Grows_of⟩ := O2
  obtain ⟨fnames_of, fdnames_of, Mnames_of, bnames_of, Gnames_of⟩ := O3
  obtain ⟨fsigned, fdsigned, msigned, ksigned, bsigned, Gsigned⟩ := O4
  obtain ⟨t_NO, c_NO⟩ := C1
  obtain ⟨t_YES, c_YES⟩ := C2
  refine ⟨f, fd, D.me, D.bd, D.fn.ok sc_Pool_clauses (fun vs H Q E h => ?_) (fun cdv A outer s H vs Q E hr h => ?_)⟩
  · obtain ⟨p, G, D', gs, x, rfl, _⟩ := h
    rfl
  · obtain ⟨p, G, D', gs, x, rfl, A0, hx, h64, q⟩ := h
    obtain ⟨dx, ts0, h1, h2, h3, h4, h5⟩ := A0.at_
    have hu := hu_of hr
    refine ⟨_, (pss_cons (ps_if (pt_cmpR op_eq (pv 1) (pe_glob (v := .int 1) (u := .int 1 t_YES) (by rfl) c_YES ⟨t_YES, rfl⟩) (nomark _)) (pss_one (ps_ret (pe_tup (pa_cons (pe_tup pa_nil) (pa_cons (pe_tup pa_nil) pa_nil))))) pss_nil)
      (pss_cons (ps_if (pt_cmpR op_eq (pv 1) (pe_glob (v := .int 0) (u := .int 0 t_NO) (by rfl) c_NO ⟨t_NO, rfl⟩) (nomark _)) (pss_one (ps_ret (pe_tup (pa_cons (pe_tup (pa_cons (pe_tup pa_nil) pa_nil)) (pa_cons (pe_tup pa_nil) pa_nil))))) pss_nil)
      (pss_cons (ps_set (i := 2) sc_Pool_clauses.nd rfl (Or.inl rfl) (pe_meth (pv 0) PK.cls Mnumbers_of Gnumbers_of (hr.mono (by omega)) bnumbers_of .nil pass0 (pa_cons (pv 1) pa_nil)))
      (pss_cons (ps_set (i := 3) sc_Pool_clauses.nd rfl (Or.inl rfl) (pe_meth (pv 0) PK.cls Mrows_of Grows_of (hr.mono (by omega)) brows_of .nil pass0 (pa_cons (pv 2) (pa_cons (pv 2) pa_nil))))
      (pss_cons (ps_expr (pe_bm PySem.F.plainAttrs_list PySem.F.slot_list_append PySem.F.type_list_append mt_append (pv 3) (pa_cons (pe_tup (pa_cons (pe_call Gsigned (hr.mono (by omega)) rfl msigned ksigned bsigned .nil pass0 (pa_cons (pv 1) (pa_cons (pv 2) pa_nil))) pa_nil)) pa_nil)))
      (pss_one (ps_ret (pe_tup (pa_cons (pe_callTy call_tuple_of (by rfl) T.m_tuple (by decide +kernel) (pa_cons (pv 3) pa_nil)) (pa_cons (pe_callTy call_tuple_of (by rfl) T.m_tuple (by decide +kernel) (pa_cons (pe_meth (pv 0) PK.cls Mnames_of Gnames_of (hr.mono (by omega)) bnames_of .nil pass0 (pa_cons (pv 2) pa_nil)) pa_nil)) pa_nil)))))))))), ?_⟩
    have nilC : ∀ (H : Hp), DpAll K H [] (([] : List (List Int)).map clD) := fun _ => .nil
    have nilN : ∀ (H : Hp), DpAll K H [] (([] : List (NK × Int)).map nvD) := fun _ => .nil
    refine ⟨_, rfl, rfl, _, rfl, ite2 (fun c => ?_) (fun c => ?_)⟩
    · have e : x = 1 := int_of c
      subst e
      refine ⟨by show 0 ≤ sizeLine; decide, fun a ha => ⟨by show 0 ≤ sizeLine; decide, fun b hb => ⟨by show 2 ≤ sizeLine; decide, fun r hr' => ?_⟩⟩⟩
      have s1 := same_new ha (.tup [])
      have s2 := same_new hb (.tup [])
      have s3 := same_new hr' (.tup [.ref a, .ref b])
      exact q _ r [] [] 0 ((s1.trans s2).trans s3) ⟨a, b, [], [], SqT.of upd_same, SqT.of (s3 _ _ (s2 _ _ upd_same)), nilC _, SqT.of (s3 _ _ upd_same), nilN _⟩ (clok_yes A0.ok)
    have c1 : x ≠ 1 := fun e => c (decide_eq_true (by rw [e]))
    refine ⟨_, rfl, rfl, _, rfl, ite2 (fun c => ?_) (fun c => ?_)⟩
    · have e : x = 0 := int_of c
      subst e
      refine ⟨by show 0 ≤ sizeLine; decide, fun t ht => ⟨by show 1 ≤ sizeLine; decide, fun a ha => ⟨by show 0 ≤ sizeLine; decide, fun b hb => ⟨by show 2 ≤ sizeLine; decide, fun r hr' => ?_⟩⟩⟩⟩
      have s0 := same_new ht (.tup [])
      have s1 := same_new ha (.tup [.ref t])
      have s2 := same_new hb (.tup [])
      have s3 := same_new hr' (.tup [.ref a, .ref b])
      exact q _ r [[]] [] 0 (((s0.trans s1).trans s2).trans s3) ⟨a, b, [.ref t], [], SqT.of upd_same, SqT.of (s3 _ _ (s2 _ _ upd_same)), .cons (.tup (SqT.of (s3 _ _ (s2 _ _ (s1 _ _ upd_same)))) .nil) .nil, SqT.of (s3 _ _ upd_same), nilN _⟩ (clok_no A0.ok)
    have c0 : x ≠ 0 := fun e => c (decide_eq_true (by rw [e]))
    have x2 : 2 ≤ x := by have := hx.1; omega
    refine ⟨_, rfl, p, dx, _, rfl, h1, plFs_no _ _ (by decide +kernel) (by decide +kernel), _, rfl, p, G, D', gs, x, rfl, A0, hx, h64, fun H1 N ys s1 hNn hN hC => ?_⟩
    have NA : NumAt P w K H H1 C p G D' N gs x ys := ⟨s1, hNn, hN, A0, hC, hC.pos fun z hz => by rw [List.mem_singleton.mp hz]; exact x2, h64⟩
    refine ⟨_, rfl, p, dx, _, rfl, s1 _ _ h1, plFs_no _ _ (by decide +kernel) (by decide +kernel), _, rfl, _, rfl, H, p, G, D', N, gs, x, ys, rfl, NA, fun H2 R zs cs s2 hRn hR hz hcs => ?_⟩
    have hN2 := s2 _ _ hN
    have hl60 : zs.length ≤ 60000 := by
      have e1 := dpa_len hz
      have e2 := hcs.len
      have e3 := rawOf_len gs ys ys
      have e4 := NA.len
      rw [List.length_map] at e1
      omega
    refine ⟨_, rfl, .inl ⟨rfl, _, SqL.of hR⟩, _, rfl, _, rfl, N, ys, x, rfl, .inl hN2, hC.has x (.head _), by show 1 ≤ sizeLine; decide, fun t ht => ?_⟩
    have s3 := same_new ht (.tup [.int (sgn ys x)])
    have nRt : R ≠ t := fun e => by rw [e, ht] at hR; cases hR
    refine ⟨R, _, _, rfl, rfl, s3 _ _ hR, Nat.lt_of_le_of_lt hl60 (by decide), ?_⟩
    obtain ⟨H4, eH4⟩ : ∃ H4, H4 = upd (upd H2 t (.tup [.int (sgn ys x)])) R (.lst (zs ++ [.ref t])) := ⟨_, rfl⟩
    have s4 : Same H1 H4 := fun b o e => by
      rw [eH4, upd_ne (ne_of_none e hRn)]
      exact s3 _ _ (s2 b o e)
    have hR4 : H4 R = some (.lst (zs ++ [.ref t])) := by rw [eH4]; exact upd_same
    have hz4 : DpAll K H4 (zs ++ [.ref t]) ((cs ++ [[sgn ys x]]).map clD) := by
      refine dpa_mono (hide_le (d := R)) _ ?_
      rw [List.map_append]
      refine dpa_app ?_ (dpa_one (.tup (SqT.of ?_) (ints_all [sgn ys x])))
      · rw [eH4]
        exact dpa_mono ((hide_same s3).trans (hide_put _)) _ hz
      · rw [hide_ne nRt.symm, eH4, upd_ne nRt.symm]
        exact upd_same
    rw [← eH4]
    have NA4 : NumAt P w K H H4 C p G D' N gs x ys := ⟨s1.trans s4, hNn, s4 _ _ hN, A0, hC, NA.pos, h64⟩
    refine ⟨_, rfl, R, _, rfl, .inl ⟨SqL.of hR4, fun a ha => ?_⟩⟩
    have s5 := same_new ha (.tup (zs ++ [.ref t]))
    refine ⟨_, rfl, p, dx, _, rfl, s5 _ _ (s4 _ _ (s1 _ _ h1)), plFs_no _ _ (by decide +kernel) (by decide +kernel), _, rfl, H, p, G, D', N, gs, x, ys, rfl, ⟨NA4.old.trans s5, hNn, s5 _ _ NA4.at_, A0, hC, NA.pos, h64⟩, fun H6 S us s6 hSn hS hus => ?_⟩
    refine ⟨S, _, rfl, .inl ⟨SqL.of hS, fun b hb => ⟨by show 2 ≤ sizeLine; decide, fun r hr' => ?_⟩⟩⟩
    have s7 := same_new hb (.tup us)
    have s8 := same_new hr' (.tup [.ref a, .ref b])
    refine q _ r (cs ++ [[sgn ys x]]) (nmsOf gs ys ys) ys.length (((((s1.trans s4).trans s5).trans s6).trans s7).trans s8) ⟨a, b, zs ++ [.ref t], us, SqT.of upd_same, SqT.of (s8 _ _ (s7 _ _ (s6 _ _ upd_same))), dpa_mono (((s5.trans s6).trans s7).trans s8) _ hz4, SqT.of (s8 _ _ upd_same), dpa_mono (s7.trans s8) _ (dpa_mono hide_le _ hus)⟩ (clok_of A0.ok A0.nd hC NA.pos hcs (rawOf_len gs ys ys) (few_of NA.nd hC.rng))
end
end My

set_option Elab.async false
set_option maxRecDepth 100000
set_option maxHeartbeats 4000000
set_option linter.all false
/-! dict(pairs), the keys tuples; len of a set. -/
namespace My
open PySem PySem.Spec PyProof.Rows L2
theorem storedAll_new : ∀ (ps acc : List (NK × Addr × Value)), ((acc ++ ps).map (·.1)).Nodup → storedAllH acc ps = acc ++ ps
  | [], acc, _ => by rw [List.append_nil]; rfl
  | p :: ps, acc, h => by
    have hno : atKey acc p.1 = none := by
      unfold atKey
      cases e : acc.find? _ with
      | none => rfl
      | some q =>
        exfalso
        have h1 := List.mem_of_find?_eq_some e
        have h2 := List.find?_some e
        have h2 : q.1 = p.1 := by simpa using h2
        rw [List.map_append, List.map_cons, List.nodup_append] at h
        exact h.2.2 q.1 (List.mem_map.mpr ⟨q, h1, rfl⟩) p.1 (.head _) h2
    show storedAllH (storedH acc p.1 p.2.1 p.2.2) ps = _
    rw [storedH_new hno]
    have := storedAll_new ps (acc ++ [(p.1, p.2.1, p.2.2)]) (by rw [List.append_assoc]; exact h)
    rw [this, List.append_assoc]
    rfl
/-- the rows of a list of pairs -/
def PairRow (K : PySem.W.Frag) (H : Hp) (t : Addr) (x : NRow) : Prop := SqT K H t [.ref x.2.1, x.2.2] ∧ Dp K H (.ref x.2.1) x.1.data ∧ x.1.depth ≤ 8
section
variable {X : Cx}
theorem rows_pairs {pins : List (Addr × Obj)} {σ : L2.St} {H : Hp} {s : Shared} (I : Inv X pins σ H s) : ∀ {ts : List Addr} {xs : NRows}, Paired (PairRow X.K H) ts xs →
    ∃ vs : List (NK × Addr × Value), Paired NRel xs vs ∧ vs.length = ts.length ∧ (∀ (j : Nat) (q : NK × Addr × Value), vs[j]? = some q → ∃ b, ts[j]? = some b ∧ s.heap.IsTuple b #[.ref q.2.1, q.2.2]) ∧ ∀ q ∈ vs, NestedIs s.heap q.1 (.ref q.2.1) ∧ q.1.depth ≤ 8
  | _, _, .nil => ⟨[], .nil, rfl, fun j q e => by simp at e, fun q h => nomatch h⟩
  | _, _, .cons (a := t) (b := x) h r => by
    obtain ⟨vs, r1, hl, hp, hk⟩ := rows_pairs I r
    obtain ⟨its, rv, ht, _⟩ := I.tuple h.1
    obtain ⟨u, y, ei, ru, ry⟩ := vals2 rv
    subst ei
    cases ru
    refine ⟨(x.1, x.2.1, y) :: vs, .cons ⟨rfl, rfl, ry⟩ r1, by rw [List.length_cons, List.length_cons, hl], fun j q e => ?_, fun q hq => ?_⟩
    · cases j with
      | zero =>
        have e' : (x.1, x.2.1, y) = q := Option.some.inj e
        subst e'
        exact ⟨t, rfl, ht⟩
      | succ j =>
        obtain ⟨b, e1, e2⟩ := hp j q (by simpa using e)
        exact ⟨b, by simpa using e1, e2⟩
    · rcases List.mem_cons.mp hq with e | e
      · rw [e]
        exact ⟨dp_nested I x.1 _ _ h.2.1 rfl, h.2.2⟩
      · exact hk q e
theorem paired_keys {xs : NRows} {vs : List (NK × Addr × Value)} (r : Paired NRel xs vs) : vs.map (·.1) = xs.map (·.1) := by
  induction r with
  | nil => rfl
  | cons h _ ih => rw [List.map_cons, List.map_cons, ih, h.1]
/-- dict(xs) of a list of pairs (key, value), no key twice -/
def rDictN (K : PySem.W.Frag) (P : Program) (w : World) : List V → Hp → VK → Prop := fun xs H Q => ∃ (a : Addr) (ts : List Addr) (rows : NRows), xs = [V.ref a] ∧ SqL K H a (ts.map V.ref) ∧ Paired (PairRow K H) ts rows ∧ (rows.map (·.1)).Nodup ∧
  ∀ d, H d = none → Q (.ref d) (upd H d (dnO P w d rows))
theorem call_dictN {K : PySem.W.Frag} (hK : X.K = K) (hcalm : X.calm = true) (hu : X.A.units + 65 < cLine) : CallR X (.type "dict") (rDictN K X.prog X.w) := by
  subst hK
  intro pins s σ H xs us Q I r q
  obtain ⟨a, ts, rows, ex, hq, hp, hnd, q⟩ := q
  subst ex
  obtain ⟨u, eu, rx⟩ := vals1 r
  subst eu
  cases rx
  obtain ⟨its, rv, pl, hz⟩ := I.list hq
  have ei := refs_at rv
  subst ei
  rw [List.length_map] at hz
  obtain ⟨vs, rel, hl, hpr, hkk⟩ := rows_pairs I hp
  obtain ⟨o, n, ho, hc, hd, hdat⟩ := pl
  have hndv : (vs.map (·.1)).Nodup := by rw [paired_keys rel]; exact hnd
  have hst := storedAll_new vs [] hndv
  have hat : ∀ j, j < vs.length → ts[j]? = some (ts.getD j 0) := fun j hj => by
    rw [List.getD_eq_getElem?_getD, List.getElem?_eq_getElem (by omega)]
    rfl
  obtain ⟨prs, eprs⟩ : ∃ prs : List (Value × Value), prs = vs.map fun q => (Value.ref q.2.1, q.2.2) := ⟨_, rfl⟩
  have lprs : prs.length = vs.length := by rw [eprs, List.length_map]
  have ok1 : PairItems s.heap (ts.map Value.ref).toArray (fun j => ts.getD j 0) prs := by
    refine ⟨by rw [List.size_toArray, List.length_map, lprs, hl], fun j k v e => ?_⟩
    rw [eprs, List.getElem?_map] at e
    cases hq' : vs[j]? with
    | none => rw [hq'] at e; cases e
    | some q' =>
      rw [hq'] at e
      obtain ⟨b, e1, e2⟩ := hpr j q' hq'
      have e3 := hat j (List.getElem?_eq_some_iff.mp hq').1
      rw [e3] at e1
      cases e1
      cases e
      refine ⟨by simp [List.getD_eq_getElem?_getD] at e3 ⊢; rw [e3]; rfl, .inl e2⟩
  have hc1 : PairsHaveH (nestedKind X.prog X.w) prs.length (PairRel prs) vs := by
    refine ⟨lprs.symm, fun i key v e => ?_⟩
    have e : prs[i]? = some (key, v) := e
    rw [eprs, List.getElem?_map] at e
    cases hq' : vs[i]? with
    | none => rw [hq'] at e; cases e
    | some q' =>
      rw [hq'] at e
      cases e
      exact ⟨q'.1, q'.2.1, rfl, rfl⟩
  have hs1 : KeysStay (nestedKind X.prog X.w) s.heap s.heap.objs.size [] vs := fun h' hk x hx => by
    obtain ⟨k1, k2⟩ := hkk x hx
    exact ⟨NestedIs.at (fun b o us n' e _ => hk b o (Nat.ne_of_lt (Heap.lt_size e)) (fun z => nomatch z) e) _ _ k1, k2⟩
  refine call_dict_pairsH (PairArg.list a (ts.map Value.ref).toArray (fun j => ts.getD j 0) prs) (I.ok.hd hcalm) (by show X.A.units + 1 + 1 + 8 < cLine; omega) ⟨⟨o, n, ho, hc, hd, hdat⟩, ok1⟩ hc1 hs1 (by omega) fun h' tk hd' k => ?_
  · rw [hst, List.nil_append] at hd'
    have k' : ∀ b o, s.heap.get? b = some o → h'.get? b = some o := fun b o e => k b o (fun z => nomatch z) e
    have hm : (s.heap.objs.size == sysModules) = false := beq_eq_false_iff_ne.mpr (Nat.ne_of_gt I.big)
    obtain ⟨o', es, ep, g1, g2, g3, g4, _, g5⟩ := hd'
    exact ⟨.ref s.heap.objs.size, upd H s.heap.objs.size (dnO X.prog X.w s.heap.objs.size rows), I.laid (t' := tk) k' (Nat.le_refl _) (dnO_ok ⟨hm, vs, rel, o', es, ep, g1, g2, g3, g4, g5⟩), rfl, q _ (I.hok.fresh (Nat.le_refl _))⟩
/-- len of a set -/
theorem call_lenV : CallR X (.builtin "len") (fun xs H Q => ∃ (p : Addr) (vs : List V), xs = [.ref p] ∧ H p = some (SetV X.w p vs) ∧ Q (.int vs.length) H) := by
  intro pins s σ H xs us Q I r q
  obtain ⟨p, vs, rfl, hp, q⟩ := q
  obtain ⟨u, rfl, ru⟩ := vals1 r
  obtain rfl : u = Value.ref p := ru
  have R : SetV0 X.w s.heap p vs := (I.hok p _ hp).1
  obtain ⟨es, ep, t, ⟨o, ho, hex, hd⟩, hf, _, _, hz, rv⟩ := R.ex
  have hl : es.size = vs.length := by
    have := rv.length
    rw [List.length_map] at this
    simpa using this.symm
  exact call_len_set ho hex hd hf (by omega) ⟨.int vs.length, H, I.tok _, ⟨_, by rw [hl]⟩, q⟩
end
end My


set_option Elab.async false
set_option maxRecDepth 100000
set_option maxHeartbeats 4000000
set_option linter.all false
namespace My
open PySem L2 PyProof.Rows
open C8 (pss_cut)
section
variable {X : Cx} {K : PySem.W.Frag}
theorem op_notInDD3 (h : X.K = K) (hu : X.A.units + 65 < cLine) : OpR X (compareOp .NotIn) (rInDD K true) := h ▸ op_notInDD hu
theorem ix_NK {P : Program} {w : World} (hP : X.prog = P) (hw : X.w = w) (h : X.K = K) (hu : X.A.units + 65 < cLine) : IxR X (rIxN P w K) := hP ▸ hw ▸ h ▸ ix_N hu
end
def nkL : List NK := [.tup [.num 1, .num 0], .tup [.num 1, .num 1], .tup [.text "cell", .text "a", .num 2], .tup [.num 4]]
theorem nkL_ok : ∀ k ∈ nkL, k.depth ≤ 7 ∧ isTup k = true := by
  intro k hk
  simp only [nkL, List.mem_cons, List.not_mem_nil, or_false] at hk
  rcases hk with rfl | rfl | rfl | rfl <;> exact ⟨by decide, rfl⟩
theorem nkL_okD : ∀ k ∈ nkL, okD k.data := by
  intro k hk
  simp only [nkL, List.mem_cons, List.not_mem_nil, or_false] at hk
  rcases hk with rfl | rfl | rfl | rfl <;> exact ⟨by decide +kernel, by decide +kernel, by decide +kernel⟩
def nksOf (v : Nat) : List NK := nkL.take (3 + v)
theorem nks_okD {v : Nat} (h : v < 2) : okD (.list ((nksOf v).map NestedKey.data)) := by
  match v, h with
  | 0, _ => exact ⟨by decide +kernel, by decide +kernel, by decide +kernel⟩
  | 1, _ => exact ⟨by decide +kernel, by decide +kernel, by decide +kernel⟩
theorem nks_any {v : Nat} (h : v < 2) {m : NK} (hm : m ∈ nksOf v) : ((nksOf v).map NestedKey.data).any (fun z => PyData.eqv z m.data) = true := by
  match v, h with
  | 0, _ =>
    have : ∀ m ∈ nksOf 0, ((nksOf 0).map NestedKey.data).any (fun z => PyData.eqv z m.data) = true := by
      intro m hm
      simp only [nksOf, nkL, List.take, List.mem_cons, List.not_mem_nil, or_false] at hm
      rcases hm with rfl | rfl | rfl <;> decide +kernel
    exact this m hm
  | 1, _ =>
    have : ∀ m ∈ nksOf 1, ((nksOf 1).map NestedKey.data).any (fun z => PyData.eqv z m.data) = true := by
      intro m hm
      simp only [nksOf, nkL, List.take, List.mem_cons, List.not_mem_nil, or_false] at hm
      rcases hm with rfl | rfl | rfl | rfl <;> decide +kernel
    exact this m hm
theorem nks_nodup {v : Nat} (h : v < 2) : (nksOf v).Nodup := by
  match v, h with
  | 0, _ => decide +kernel
  | 1, _ => decide +kernel
/-- what is given of the named bits -/
def givC (env : Bits) (x : NK × Int) : List Int := [if env x.1 = 1 then x.2 else -x.2]
theorem lit_pos {A : Int → Bool} {v : Int} (h : 1 ≤ v) : MC.lit A v = A v := by
  unfold MC.lit
  rw [if_pos (by omega)]
theorem sat_given {env : Bits} {gs : List Gt} {x : Int} {cs : List (List Int)} {nms : List (NK × Int)} {m : Nat} (O : CLOk gs x cs nms m) (he : bitEnv env) : MC.Sat (cs ++ nms.map (givC env)) ↔ litv (bitsOf env gs) x = 1 := by
  rw [← O.mean env he]
  unfold MC.Sat
  have key : ∀ A, MC.Keeps A (nms.map (givC env)) ↔ ∀ n v, (n, v) ∈ nms → (A v = true ↔ env n = 1) := fun A => by
    constructor
    · intro h n v hm
      have hv := (O.nums n v hm).1
      have h1 := ex1.1 (h _ (List.mem_map.mpr ⟨(n, v), hm, rfl⟩))
      dsimp only at h1
      split at h1
      · rename_i e
        rw [lit_pos hv] at h1
        exact ⟨fun _ => e, fun _ => h1⟩
      · rename_i e
        rw [MC.lit_neg (by omega), lit_pos hv] at h1
        exact ⟨fun a => (by rw [a] at h1; cases h1), fun a => absurd a e⟩
    · intro h c hc
      obtain ⟨⟨n, v⟩, hm, rfl⟩ := List.mem_map.mp hc
      have hv := (O.nums n v hm).1
      refine ex1.2 ?_
      dsimp only
      split
      · rename_i e
        rw [lit_pos hv]
        exact (h n v hm).2 e
      · rename_i e
        rw [MC.lit_neg (by omega), lit_pos hv]
        cases q : A v with
        | false => rfl
        | true => exact absurd ((h n v hm).1 q) e
  exact ⟨fun ⟨A, hA⟩ => by
    obtain ⟨h1, h2⟩ := keeps_app.1 hA
    exact ⟨A, h1, (key A).1 h2⟩, fun ⟨A, h1, h2⟩ => ⟨A, keeps_app.2 ⟨h1, (key A).2 h2⟩⟩⟩
theorem ab_le_mem {m : Nat} {z : Int} (h : z ≠ 0) (hz : ab z ≤ m) : z ∈ ((List.range m).map fun (i : Nat) => (i : Int) + 1) ∨ -z ∈ ((List.range m).map fun (i : Nat) => (i : Int) + 1) := by
  unfold ab at hz
  split at hz
  · right
    exact List.mem_map.mpr ⟨(-z - 1).toNat, List.mem_range.mpr (by omega), by omega⟩
  · left
    exact List.mem_map.mpr ⟨(z - 1).toNat, List.mem_range.mpr (by omega), by omega⟩
theorem vin_given {env : Bits} {gs : List Gt} {x : Int} {cs : List (List Int)} {nms : List (NK × Int)} {m k : Nat} (O : CLOk gs x cs nms m) (hk : m ≤ k) : MC.Vin k (cs ++ nms.map (givC env)) := by
  refine ⟨(List.range m).map fun (i : Nat) => (i : Int) + 1, by rw [List.length_map, List.length_range]; exact hk, fun c hc z hz => ?_⟩
  rcases List.mem_append.mp hc with h | h
  · have G := (O.good c h).1
    exact ab_le_mem (G.nz z hz) (G.le z hz)
  · obtain ⟨⟨n, v⟩, hm, rfl⟩ := List.mem_map.mp h
    obtain ⟨h1, h2, _⟩ := O.nums n v hm
    have e : z = if env n = 1 then v else -v := List.mem_singleton.mp hz
    refine ab_le_mem ?_ ?_ <;> rw [e] <;> split
    · omega
    · omega
    · unfold ab; rw [if_neg (by omega)]; exact h2
    · rw [ab_neg]; unfold ab; rw [if_neg (by omega)]; exact h2
theorem few_nums {gs : List Gt} {x : Int} {cs : List (List Int)} {nms : List (NK × Int)} {m : Nat} (O : CLOk gs x cs nms m) : nms.length ≤ m := by
  have nd : (nms.map fun y => y.2 - 1).Nodup := List.pairwise_map.mpr (O.dist.imp fun {a b} h e => h.2 (by omega))
  have := few_of (n := m) nd fun y hy => by
    obtain ⟨⟨n, v⟩, hm, rfl⟩ := List.mem_map.mp hy
    have := O.nums n v hm
    dsimp only
    omega
  rw [List.length_map] at this
  exact this
theorem dpa_atN {K : PySem.W.Frag} {H : Hp} {xs : List V} {nms : List (NK × Int)} {i : Nat} {v : V} (h : DpAll K H xs (nms.map nvD)) (e : xs[i]? = some v) : ∃ y t nv, nms[i]? = some y ∧ v = .ref t ∧ SqT K H t [nv, .int y.2] ∧ Dp K H nv y.1.data := by
  obtain ⟨d, hd, hv⟩ := dpa_get h e
  rw [List.getElem?_map] at hd
  cases hc : nms[i]? with
  | none => rw [hc] at hd; cases hd
  | some y =>
    rw [hc] at hd
    obtain rfl := Option.some.inj hd
    obtain ⟨t, us, rfl, ht, hts⟩ := dp_tup (show Dp K H v (.tuple [y.1.data, .int y.2]) from hv)
    cases hts with
    | cons h1 h2 =>
      cases h2 with
      | cons h3 h4 =>
        cases h4
        cases h3
        exact ⟨y, t, _, rfl, rfl, ht, h1⟩
theorem refs_of {K : PySem.W.Frag} {H : Hp} : ∀ {nks : List NK} {zs : List V}, DpAll K H zs (nks.map NestedKey.data) → (∀ k ∈ nks, isTup k = true ∧ k.depth ≤ 8) → ∃ ps : List (Addr × NK), zs = ps.map (fun p => V.ref p.1) ∧ ps.map (·.2) = nks ∧ ∀ p ∈ ps, Dp K H (.ref p.1) p.2.data ∧ p.2.depth ≤ 8
  | [], _, .nil, _ => ⟨[], rfl, rfl, fun p h => nomatch h⟩
  | k :: nks, _, .cons h r, ht => by
    obtain ⟨ps, rfl, h2, h3⟩ := refs_of r fun k hk => ht k (List.mem_cons_of_mem _ hk)
    obtain ⟨hk1, hk2⟩ := ht k List.mem_cons_self
    cases k with
    | tup ks =>
      cases h with
      | tup a b => exact ⟨(_, .tup ks) :: ps, rfl, by rw [List.map_cons, h2], fun p hp => by
          rcases List.mem_cons.mp hp with e | e
          · rw [e]; exact ⟨.tup a b, hk2⟩
          · exact h3 p e⟩
    | _ => cases hk1
theorem len_set {ps L : List (Addr × NK)} {nks : List NK} (h2 : ps.map (·.2) = nks) (nd : nks.Nodup) (hL : ∀ p ∈ L, p ∈ ps) (hn : (L.map (·.2)).Nodup) (ha : ∀ p ∈ ps, p.2 ∈ L.map (·.2)) : L.length = nks.length := by
  have e : (L.map (·.2)).Perm nks := (List.perm_ext_iff_of_nodup hn nd).mpr fun k => ⟨fun h => by
    obtain ⟨p, hp, rfl⟩ := List.mem_map.mp h
    rw [← h2]
    exact List.mem_map.mpr ⟨p, hL p hp, rfl⟩, fun h => by
    rw [← h2] at h
    obtain ⟨p, hp, rfl⟩ := List.mem_map.mp h
    exact ha p hp⟩
  have := e.length_eq
  rw [List.length_map] at this
  exact this
theorem rows_of_pairs {K : PySem.W.Frag} {H : Hp} : ∀ {prs : List (NK × Int)} {zs : List V}, DpAll K H zs (prs.map nvD) → (∀ p ∈ prs, isTup p.1 = true ∧ p.1.depth ≤ 8) → ∃ (ta : List Addr) (rows : NRows), zs = ta.map V.ref ∧ Paired (PairRow K H) ta rows ∧ (rows.map fun r => (r.1, r.2.2)) = prs.map fun p => (p.1, V.int p.2)
  | [], _, .nil, _ => ⟨[], [], rfl, .nil, rfl⟩
  | (k, b) :: prs, _, .cons h r, ht => by
    obtain ⟨ta, rows, rfl, h2, h3⟩ := rows_of_pairs r fun p hp => ht p (List.mem_cons_of_mem _ hp)
    obtain ⟨hk1, hk2⟩ := ht (k, b) List.mem_cons_self
    obtain ⟨t, us, rfl, hs, hts⟩ := dp_tup (show Dp K H _ (.tuple [k.data, .int b]) from h)
    cases hts with
    | cons g1 g2 =>
      cases g2 with
      | cons g3 g4 =>
        cases g4
        cases g3
        cases k with
        | tup ks =>
          cases g1 with
          | tup a c => exact ⟨t :: ta, (.tup ks, _, .int b) :: rows, rfl, .cons ⟨hs, .tup a c, hk2⟩ h2, by rw [List.map_cons, h3]; rfl⟩
        | _ => cases hk1
theorem paired_mem {K : PySem.W.Frag} {H : Hp} {ta : List Addr} {rows : NRows} (h : Paired (PairRow K H) ta rows) : ∀ r ∈ rows, Dp K H (.ref r.2.1) r.1.data ∧ r.1.depth ≤ 8 := by
  induction h with
  | nil => intro r hr; cases hr
  | cons a _ ih =>
    intro r hr
    rcases List.mem_cons.mp hr with e | e
    · rw [e]; exact a.2
    · exact ih r e
theorem val_in {P : Program} {w : World} {K : PySem.W.Frag} {H : Hp} {a : Addr} {rows : NRows} (B : BitsAt P w K H a rows) {n : NK} (h : n ∈ rows.map (·.1)) : valN rows n = some (.int (envOf rows n)) := by
  have e := envOf_get B n
  cases q : valN rows n with
  | none =>
    exfalso
    obtain ⟨r, hr, rfl⟩ := List.mem_map.mp h
    unfold valN at q
    rw [Option.map_eq_none_iff, List.find?_eq_none] at q
    exact q r hr (by simp)
  | some v =>
    rw [q] at e
    rw [← e]
    rfl
def spLaw (K : PySem.W.Frag) : Sp := fun vs H Q _ => ∃ (a : Addr) (ns : List Int), vs = [.ref a] ∧ SqL K H a (ns.map V.int) ∧ ns.length ≤ 63 ∧ ∀ H', Q (.bl true) H'
section
variable {P : Program} {w : World} {K : PySem.W.Frag} {mg : Str → Option Value} {base : Heap} {f C : Addr} {fd : FuncData}
theorem ok_law (T : Txt K mg) (PK : PlK K C) (C1 : ConI mg "NO" 0) (C2 : ConI mg "YES" 1) (D : Def K mg "law" ["script"] s_law f fd) (O0 : Own P w K mg base "_law_draw" ["script"] 1 (spDraw K)) (O1 : Own P w K mg base "_law_take" ["draw", "many"] 1 spTake) (O2 : OwnC P w K mg base "Pool" C ["self"] 1 (spInit P w K C))
    (O3 : Own P w K mg base "_law_literals" ["draw", "pool", "names"] 5 (spLits P w K C)) (O4 : OwnM P w K mg base C "clauses" ["self", "literal"] 3 (spClauses P w K C)) (O5 : OwnM P w K mg base C "value" ["self", "literal", "bits"] 3 (spVal P w K C)) (O6 : Own P w K mg base "_law_is_clause" ["value", "most"] 1 (spIsC K)) (O7 : Own P w K mg base "_law_rows" ["many"] 2 (spRowsL K)) (O8 : Own P w K mg base "_law_can" ["clauses"] 15 (spCan K 14)) :
    FnOk P w K mg base CX0 16 f fd ["script"] (spLaw K) := by
  obtain ⟨t_NO, c_NO⟩ := C1
  obtain ⟨t_YES, c_YES⟩ := C2
  obtain ⟨f_law_draw, fd_law_draw, m_law_draw, k_law_draw, b_law_draw, G_law_draw⟩ := O0
  obtain ⟨f_law_take, fd_law_take, m_law_take, k_law_take, b_law_take, G_law_take⟩ := O1
  obtain ⟨fPool, fdPool, mPool, MPool, bPool, GPool⟩ := O2
  obtain ⟨f_law_literals, fd_law_literals, m_law_literals, k_law_literals, b_law_literals, G_law_literals⟩ := O3
  obtain ⟨fclauses, fdclauses, Mclauses, bclauses, Gclauses⟩ := O4
  obtain ⟨fvalue, fdvalue, Mvalue, bvalue, Gvalue⟩ := O5
  obtain ⟨f_law_is_clause, fd_law_is_clause, m_law_is_clause, k_law_is_clause, b_law_is_clause, G_law_is_clause⟩ := O6
  obtain ⟨f_law_rows, fd_law_rows, m_law_rows, k_law_rows, b_law_rows, G_law_rows⟩ := O7
  obtain ⟨f_law_can, fd_law_can, m_law_can, k_law_can, b_law_can, G_law_can⟩ := O8
  refine D.fn.ok sc_law (fun vs H Q E h => ?_) (fun cdv A outer s H vs Q E hr h => ?_)
  · obtain ⟨a, ns, rfl, _⟩ := h
    rfl
  · obtain ⟨a, ns, rfl, hS, h63, q⟩ := h
    refine ⟨_, (pss_cons (ps_set (i := 1) sc_law.nd rfl (Or.inl rfl) (pe_call G_law_draw (hr.mono (by omega)) rfl m_law_draw k_law_draw b_law_draw .nil pass0 (pa_cons (pv 0) pa_nil)))
      (pss_cons (ps_set (i := 2) sc_law.nd rfl (Or.inl rfl) (pe_make0 MPool GPool (hr.mono (by omega)) (by rfl) mPool bPool .nil pass0))
      (pss_cons (ps_set (i := 3) sc_law.nd rfl (Or.inr rfl) (pe_slice sl_list (pe_lst (pa_cons (pe_tup (pa_cons pe_int (pa_cons pe_int pa_nil))) (pa_cons (pe_tup (pa_cons pe_int (pa_cons pe_int pa_nil))) (pa_cons (pe_tup (pa_cons pe_str (pa_cons pe_str (pa_cons pe_int pa_nil)))) (pa_cons (pe_tup (pa_cons pe_int pa_nil)) pa_nil))))) po_none (po_some (pe_op op_add pe_int (pe_call G_law_take (hr.mono (by omega)) rfl m_law_take k_law_take b_law_take .nil pass0 (pa_cons (pv 1) (pa_cons pe_int pa_nil)))))))
      (pss_cons (ps_set (i := 4) sc_law.nd rfl (Or.inl rfl) (pe_call G_law_literals (hr.mono (by omega)) rfl m_law_literals k_law_literals b_law_literals .nil pass0 (pa_cons (pv 1) (pa_cons (pv 2) (pa_cons (pv 3) pa_nil)))))
      (pss_cons (ps_for PassesOwn.never rfl (pi_list (pe_lst (pa_cons (pe_op op_xor (pe_ix ix_list (pv 4) (pe_op op_sub (pe_callB call_len_seq (by rfl) T.m_len (by decide +kernel) (pa_cons (pv 4) pa_nil)) pe_int) (fun _ _ => rfl)) (pe_call G_law_take (hr.mono (by omega)) rfl m_law_take k_law_take b_law_take .nil pass0 (pa_cons (pv 1) (pa_cons pe_int pa_nil)))) (pa_cons (pe_ix ix_list (pv 4) (pe_call G_law_take (hr.mono (by omega)) rfl m_law_take k_law_take b_law_take .nil pass0 (pa_cons (pv 1) (pa_cons (pe_callB call_len_seq (by rfl) T.m_len (by decide +kernel) (pa_cons (pv 4) pa_nil)) pa_nil))) (fun _ _ => rfl)) (pa_cons (pe_glob (v := .int 0) (u := .int 0 t_NO) (by rfl) c_NO ⟨t_NO, rfl⟩) (pa_cons (pe_glob (v := .int 1) (u := .int 1 t_YES) (by rfl) c_YES ⟨t_YES, rfl⟩) pa_nil)))))) (pg_name (i := 5) sc_law.nd rfl (Or.inl rfl)) (pss_cons (ps_asg (pe_meth (pv 2) PK.cls Mclauses Gclauses (hr.mono (by omega)) bclauses .nil pass0 (pa_cons (pv 5) pa_nil)) (pg_tup (by rfl) (pgs_cons (pg_name (i := 6) sc_law.nd rfl (Or.inl rfl)) (pgs_cons (pg_name (i := 7) sc_law.nd rfl (Or.inl rfl)) pgs_nil))))
      (pss_cons (ps_if (pt_cut (PW.pt (pw_or (pt_not (pt_val (pe_callB cr_isiD (by rfl) T.m_isinstance (by decide +kernel) (pa_cons (pv 6) (pa_cons (pe_bltn (v := .ty "tuple") (u := .type "tuple") (by rfl) T.m_tuple (by decide +kernel) (by rfl)) pa_nil))))) (pw_or1 (pt_not (pt_val (pe_callB cr_isiD (by rfl) T.m_isinstance (by decide +kernel) (pa_cons (pv 7) (pa_cons (pe_bltn (v := .ty "tuple") (u := .type "tuple") (by rfl) T.m_tuple (by decide +kernel) (by rfl)) pa_nil))))))))) (pss_one (ps_ret pe_bl)) pss_nil)
      (pss_cons (ps_if (pt_cmpR (op_neD hr.units) (pe_lc (own := [("row", 12)]) (g := gName 12) rfl sc_law.nd (pi_tup (pv 6)) (blkOk_by (N := N_law) (sc := defScope s_law) (own := [("row", 12)]) (by decide +kernel)) (fun _ _ _ _ _ => (pg_name (i := 12) sc_law.nd rfl (Or.inl rfl))) (fun _ _ _ _ _ => (pts_one (pt_not (pt_val (pe_call G_law_is_clause (hr.mono (by omega)) rfl m_law_is_clause k_law_is_clause b_law_is_clause .nil pass0 (pa_cons (pv 12) (pa_cons pe_int pa_nil))))))) (fun _ _ _ _ _ => (pv 12))) (pe_lst pa_nil) (nomark _)) (pss_one (ps_ret pe_bl)) pss_nil)
      (pss_cons (ps_setLc (i := 8) (own := [("row", 12)]) (g := gName 12) (tt := tYes) rfl sc_law.nd rfl rfl (sw_true rfl rfl rfl (by decide +kernel)) (pi_tup (pv 7)) (blkOk_by (N := N_law) (sc := defScope s_law) (own := [("row", 12)]) (by decide +kernel)) (fun _ _ _ _ _ => (pg_name (i := 12) sc_law.nd rfl (Or.inl rfl))) (fun _ _ _ _ _ => pts_nil) (fun _ _ _ _ _ => (pe_ix (ix_tupK (K := K) rfl) (pv 12) pe_int (fun _ _ => rfl))))
      (pss_cons (ps_if (pt_cut (PW.pt (pw_or (pt_cmpR op_ne (pe_lenSetI rfl (by rfl) T.m_len (by rfl) T.m_set (pv 8)) (pe_callB call_len_seq (by rfl) T.m_len (by decide +kernel) (pa_cons (pv 8) pa_nil)) (nomark _)) (pw_or1 (pt_cmpR op_ne (pe_callB call_lenV (by rfl) T.m_len (by decide +kernel) (pa_cons (pe_callTy (cr_setT rfl (room65 hr)) (by rfl) T.m_set (by decide +kernel) (pa_cons (pe_lc (own := [("row", 12)]) (g := gName 12) (tt := tYes) rfl sc_law.nd (pi_tup (pv 7)) (blkOk_by (N := N_law) (sc := defScope s_law) (own := [("row", 12)]) (by decide +kernel)) (fun _ _ _ _ _ => (pg_name (i := 12) sc_law.nd rfl (Or.inl rfl))) (fun _ _ _ _ _ => pts_nil) (fun _ _ _ _ _ => (pe_ix (ix_tupK (K := K) rfl) (pv 12) pe_int (fun _ _ => rfl)))) pa_nil)) pa_nil)) (pe_callB call_len_seq (by rfl) T.m_len (by decide +kernel) (pa_cons (pv 7) pa_nil)) (nomark _)))))) (pss_one (ps_ret pe_bl)) pss_nil)
      (pss_cons (ps_if (pt_cmpR (op_neD hr.units) (pe_lc (own := [("row", 12)]) (g := gName 12) rfl sc_law.nd (pi_tup (pv 7)) (blkOk_by (N := N_law) (sc := defScope s_law) (own := [("row", 12)]) (by decide +kernel)) (fun _ _ _ _ _ => (pg_name (i := 12) sc_law.nd rfl (Or.inl rfl))) (fun _ _ _ _ _ => (pts_one (pt_cut (PW.pt (pw_or (pt_cmpR (op_notInDD3 (K := K) rfl (room65 hr)) (pe_ix (ix_tupK (K := K) rfl) (pv 12) pe_int (fun _ _ => rfl)) (pv 3) (by rfl)) (pw_or1 (pt_cmpR op_lt (pe_ix (ix_tupK (K := K) rfl) (pv 12) pe_int (fun _ _ => rfl)) pe_int (nomark _)))))))) (fun _ _ _ _ _ => (pv 12))) (pe_lst pa_nil) (nomark _)) (pss_one (ps_ret pe_bl)) pss_nil)
      (pss_one (ps_for PassesOwn.never rfl (pi_list (pe_call G_law_rows (hr.mono (by omega)) rfl m_law_rows k_law_rows b_law_rows .nil pass0 (pa_cons (pe_callB call_len_seq (by rfl) T.m_len (by decide +kernel) (pa_cons (pv 3) pa_nil)) pa_nil))) (pg_name (i := 9) sc_law.nd rfl (Or.inr rfl)) (pss_cons (ps_set (i := 10) sc_law.nd rfl (Or.inr rfl) (pe_callTy (call_dictN (K := K) rfl rfl (room65 hr)) (by rfl) T.m_dict (by decide +kernel) (pa_cons (pe_lc (own := [("k", 13)]) (g := gName 13) (tt := tYes) rfl sc_law.nd (pi_range1 (by rfl) T.m_range (pa_cons (pe_callB call_len_seq (by rfl) T.m_len (by decide +kernel) (pa_cons (pv 3) pa_nil)) pa_nil)) (blkOk_by (N := N_law) (sc := defScope s_law) (own := [("k", 13)]) (by decide +kernel)) (fun _ _ _ _ _ => (pg_name (i := 13) sc_law.nd rfl (Or.inl rfl))) (fun _ _ _ _ _ => pts_nil) (fun _ _ _ _ _ => (pe_tup (pa_cons (pe_ix (ix_listK (K := K) rfl) (pv 3) (pv 13) (fun _ _ => rfl)) (pa_cons (pe_ix (ix_tupK (K := K) rfl) (pv 9) (pv 13) (fun _ _ => rfl)) pa_nil))))) pa_nil)))
      (pss_cons (ps_setLc (i := 11) (own := [("name", 14), ("variable", 15)]) (g := gTup K 2 (gCons (gName 14) (gCons (gName 15) gNil))) (tt := tYes) rfl sc_law.nd rfl rfl (sw_true rfl rfl rfl (by decide +kernel)) (pi_tup (pv 7)) (blkOk_by (N := N_law) (sc := defScope s_law) (own := [("name", 14), ("variable", 15)]) (by decide +kernel)) (fun _ _ _ _ _ => (pg_tup (by rfl) (pgs_cons (pg_name (i := 14) sc_law.nd rfl (Or.inl rfl)) (pgs_cons (pg_name (i := 15) sc_law.nd rfl (Or.inl rfl)) pgs_nil)))) (fun _ _ _ _ _ => pts_nil) (fun _ _ _ _ _ => (pe_ifExp (pt_cmpR op_eq (pe_ix (ix_NK (P := P) (w := w) (K := K) rfl rfl rfl (room65 hr)) (pv 10) (pv 14) (fun _ _ => rfl)) pe_int (nomark _)) (pe_tup (pa_cons (pv 15) pa_nil)) (pe_tup (pa_cons (pe_un un_neg (pv 15)) pa_nil)))))
      (pss_one (ps_if (pt_cmpR op_ne (pe_call G_law_can (hr.mono (by omega)) rfl m_law_can k_law_can b_law_can .nil pass0 (pa_cons (pe_op op_cat (pe_callTy call_list_of (by rfl) T.m_list (by decide +kernel) (pa_cons (pv 6) pa_nil)) (pv 11)) pa_nil)) (pe_cmpR op_eq (pe_meth (pv 2) PK.cls Mvalue Gvalue (hr.mono (by omega)) bvalue .nil pass0 (pa_cons (pv 5) (pa_cons (pv 10) pa_nil))) pe_int (nomark _)) (nomark _)) (pss_one (ps_ret pe_bl)) pss_nil)))))))))))))
      (pss_one (ps_ret pe_bl))))))), ?_⟩
    refine ⟨_, rfl, a, ns, rfl, hS, h63, fun d L H1 hd0 hL0 e1 hD1 => ?_⟩
    intro p dx fp fdx ndx
    have sI : Same H1 (upd (upd H1 dx (.own p)) p (.ins C dx [])) := fun b o e => by
      rw [upd_ne (ne_of_none e fp), upd_ne (ne_of_none e fdx)]
      exact e
    have D2 := hD1.mono sI
    refine ⟨p, dx, rfl, upd_same, fun H3 G D' A3 b3 fG fD => ⟨rfl, ?_⟩⟩
    have n1 : ∀ {b c : Addr}, b ≠ c → b ∉ [c] := fun h m => h (List.mem_singleton.mp m)
    have D3 : DrawAt H3 d L := D2.but b3 (n1 (by obtain ⟨u, hu⟩ := hD1.at; exact ne_of_none hu fp)) (n1 (by obtain ⟨u, hu⟩ := hD1.cells; exact ne_of_none hu fp))
    have A0d := A3.apart D3
    refine ⟨by show 2 ≤ sizeLine; decide, fun t1 ft1 => ⟨by show 2 ≤ sizeLine; decide, fun t2 ft2 => ⟨by show 3 ≤ sizeLine; decide, fun t3 ft3 => ⟨by show 1 ≤ sizeLine; decide, fun t4 ft4 => ⟨by show 4 ≤ sizeLine; decide, fun l4 fl4 => ?_⟩⟩⟩⟩⟩
    have B1 : DpAll K (upd H3 t1 (.tup [.int 1, .int 0])) [.ref t1] [NestedKey.data (.tup [.num 1, .num 0])] := dpa_one (.tup (SqT.of upd_same) (.cons (.int _) (.cons (.int _) .nil)))
    have B2 := dpa_app (dpa_mono (same_new ft2 (.tup [.int 1, .int 1])) _ B1) (dpa_one (d := NestedKey.data (.tup [.num 1, .num 1])) (.tup (SqT.of upd_same) (.cons (.int _) (.cons (.int _) .nil))))
    have B3 := dpa_app (dpa_mono (same_new ft3 (.tup [.str "cell", .str "a", .int 2])) _ B2) (dpa_one (d := NestedKey.data (.tup [.text "cell", .text "a", .num 2])) (.tup (SqT.of upd_same) (.cons (.str _) (.cons (.str _) (.cons (.int _) .nil)))))
    have B4 := dpa_app (dpa_mono (same_new ft4 (.tup [.int 4])) _ B3) (dpa_one (d := NestedKey.data (.tup [.num 4])) (.tup (SqT.of upd_same) (.cons (.int _) .nil)))
    have s34 : Same H3 (upd (upd (upd (upd (upd H3 t1 (.tup [.int 1, .int 0])) t2 (.tup [.int 1, .int 1])) t3 (.tup [.str "cell", .str "a", .int 2])) t4 (.tup [.int 4])) l4 (.lst [.ref t1, .ref t2, .ref t3, .ref t4])) := ((((same_new ft1 _).trans (same_new ft2 _)).trans (same_new ft3 _)).trans (same_new ft4 _)).trans (same_new fl4 _)
    have B5 : DpAll K (upd (upd (upd (upd (upd H3 t1 (.tup [.int 1, .int 0])) t2 (.tup [.int 1, .int 1])) t3 (.tup [.str "cell", .str "a", .int 2])) t4 (.tup [.int 4])) l4 (.lst [.ref t1, .ref t2, .ref t3, .ref t4])) [.ref t1, .ref t2, .ref t3, .ref t4] (nkL.map NestedKey.data) := dpa_mono (same_new fl4 _) _ B4
    obtain ⟨H4, eH4⟩ : ∃ H4, H4 = upd (upd (upd (upd (upd H3 t1 (.tup [.int 1, .int 0])) t2 (.tup [.int 1, .int 1])) t3 (.tup [.str "cell", .str "a", .int 2])) t4 (.tup [.int 4])) l4 (.lst [.ref t1, .ref t2, .ref t3, .ref t4]) := ⟨_, rfl⟩
    have hl4 : H4 l4 = some (.lst [.ref t1, .ref t2, .ref t3, .ref t4]) := by rw [eH4]; exact upd_same
    rw [← eH4] at s34 B5 ⊢
    have D4 := D3.mono s34
    have A4 := A3.same s34
    refine ⟨_, rfl, d, L, 2, rfl, by decide, by decide, D4, fun v H5 v0 v1 D5 s5 => ⟨_, _, rfl, rfl, ?_⟩⟩
    obtain ⟨vn, rfl⟩ : ∃ m : Nat, v = m := ⟨v.toNat, by omega⟩
    have hvn : vn < 2 := by omega
    have nd1 : ∀ {b : Addr}, b ≠ d → b ∉ [d] := fun h m => h (List.mem_singleton.mp m)
    have mutd : ∀ {H : Hp}, DrawAt H d L → ∀ a ∈ [d], Mut (H a) := fun {H} Dx a ha => by
      obtain ⟨ns, at_, left, seed, e1, _⟩ := Dx
      rw [List.mem_singleton.mp ha, e1]; exact True.intro
    have A5 := A4.keep (mutd D4) (But.of_hide s5) (nd1 A0d.dp.symm) (nd1 A0d.dG.symm) (nd1 A0d.dD.symm)
    have nl4 : l4 ≠ d := fun e => by
      obtain ⟨u, hu⟩ := D3.at
      have := ((((same_new ft1 (.tup [.int 1, .int 0])).trans (same_new ft2 (.tup [.int 1, .int 1]))).trans (same_new ft3 (.tup [.str "cell", .str "a", .int 2]))).trans (same_new ft4 (.tup [.int 4]))) _ _ hu
      rw [← e, fl4] at this
      cases this
    have hl5 := But.of_hide s5 _ _ (nd1 nl4) hl4
    have B6 := dpa_but (mutd D4) (But.of_hide s5) _ (nkd_noLst nkL) B5
    refine ⟨3 + (vn : Int), rfl, l4, _, rfl, SqL.of hl5, fun n hn => ?_⟩
    obtain ⟨ts, ets⟩ : ∃ ts, ts = ([V.ref t1, .ref t2, .ref t3, .ref t4] : List V).take (3 + vn) := ⟨_, rfl⟩
    have ecut : cutV ([V.ref t1, .ref t2, .ref t3, .ref t4] : List V) none (some (3 + (vn : Int))) = ts := by
      rw [ets]
      match vn, hvn with
      | 0, _ => rfl
      | 1, _ => rfl
    rw [ecut]
    have sn := same_new hn (.lst ts)
    have B7 : DpAll K (upd H5 n (.lst ts)) ts ((nksOf vn).map NestedKey.data) := by
      have := dpa_take (3 + vn) B6
      rw [← ets] at this
      rw [nksOf, List.map_take]
      exact dpa_mono sn _ this
    have D6 := D5.mono sn
    have A6 := A5.same sn
    have nn : n ∉ [d, G, D'] := fun m => by
      obtain ⟨hmG1, hmD1⟩ : Mut (H5 G) ∧ Mut (H5 D') := ⟨A5.mut G (.head _), A5.mut D' (.tail _ (.head _))⟩
      rcases List.mem_cons.mp m with e | m
      · obtain ⟨u, hu⟩ := D5.at
        rw [← e, hn] at hu; cases hu
      · rcases List.mem_cons.mp m with e | m
        · rw [← e, hn] at hmG1; exact hmG1
        · rw [← List.mem_singleton.mp m, hn] at hmD1; exact hmD1
    have hnk4 : (nksOf vn).length = 3 + vn := by
      match vn, hvn with
      | 0, _ => rfl
      | 1, _ => rfl
    have htsl : ts.length = 3 + vn := by rw [dpa_len B7, List.length_map, hnk4]
    refine ⟨_, rfl, _, rfl, _, rfl, d, L, p, G, D', n, [.no], ts, nksOf vn, rfl, D6, A6, upd_same, B7, fun k hk => nkL_ok k (List.mem_of_mem_take hk), by omega, by decide, nn, fun m hm => (by cases List.mem_singleton.mp hm), fun H7 R gs xs D7 A7 b7 hRn lg hR okx hne hlx hb => ?_⟩
    have lg : gs.length ≤ 13 := lg
    have hn7 : H7 n = some (.lst ts) := b7 _ _ nn upd_same
    have mut6 : ∀ a ∈ [d, G, D'], Mut ((upd H5 n (.lst ts)) a) := by
      intro a ha
      rcases List.mem_cons.mp ha with e | ha
      · rw [e]; exact mutd D6 d (.head _)
      · exact A6.mut a ha
    have B8 := dpa_but mut6 b7 _ (nkd_noLst _) B7
    have hx0 : 0 < xs.length := List.length_pos_iff.mpr hne
    have ndR : d ≠ R := by obtain ⟨u, hu⟩ := D6.at; exact ne_of_none hu hRn
    have ndn : n ≠ d := fun e => nn (by rw [e]; exact .head _)
    obtain ⟨zl, hzl, ezl⟩ := atI_get (ns := xs) (k := (xs.length : Int) - 1) (by omega) (by omega)
    refine ⟨_, rfl, _, rfl, R, _, rfl, .inl (SqL.of hR), _, _, rfl, rfl, R, _, _, _, rfl, rfl, SqL.of hR, by rw [List.length_map]; exact ezl, ?_⟩
    refine ⟨_, rfl, d, L, 2, rfl, by decide, by decide, D7, fun tv H8 q0 q1 D8 s8 => ⟨_, _, rfl, rfl, ?_⟩⟩
    have hR8 := But.of_hide s8 _ _ (nd1 ndR.symm) hR
    refine ⟨_, rfl, _, rfl, _, rfl, R, _, rfl, .inl (SqL.of hR8), d, L, _, rfl, by rw [List.length_map]; omega, by rw [List.length_map]; omega, D8, fun kv H9 k0 k1 D9 s9 => ?_⟩
    rw [List.length_map] at k1
    obtain ⟨zk, hzk, ezk⟩ := atI_get (ns := xs) k0 k1
    have b79 := (But.of_hide s8).trans (But.of_hide s9)
    have hR9 := b79 _ _ (nd1 ndR.symm) hR
    have hn9 := b79 _ _ (nd1 ndn) hn7
    have B9 := dpa_but (mutd D7) b79 _ (nkd_noLst _) B8
    have A9 := A7.keep (mutd D7) b79 (nd1 A0d.dp.symm) (nd1 A0d.dG.symm) (nd1 A0d.dD.symm)
    refine ⟨R, _, _, _, rfl, rfl, SqL.of hR9, ezk, ?_⟩
    refine ⟨by show 4 ≤ sizeLine; decide, fun l hl => ?_⟩
    obtain ⟨ys, eys⟩ : ∃ ys : List Int, ys = [Builtin.bitXor zl tv, zk, 0, 1] := ⟨_, rfl⟩
    have okys : ∀ y ∈ ys, okL gs y := fun y hy => by
      have := A7.ok.pos
      rw [eys] at hy
      simp only [List.mem_cons, List.not_mem_nil, or_false] at hy
      rcases hy with rfl | rfl | rfl | rfl
      · exact okL_xort (okx _ hzl) (by omega)
      · exact okx _ hzk
      · exact ⟨by omega, by omega⟩
      · exact ⟨by omega, by omega⟩
    have s10 := same_new hl (.lst (ys.map V.int))
    obtain ⟨H10, eH10⟩ : ∃ H10, H10 = upd H9 l (.lst (ys.map V.int)) := ⟨_, rfl⟩
    rw [← eH10] at s10
    have hl10 : H10 l = some (.lst (ys.map V.int)) := by rw [eH10]; exact upd_same
    have eu : upd H9 l (.lst [V.int (Builtin.bitXor zl tv), V.int zk, V.int 0, V.int 1]) = H10 := by rw [eH10, eys]; rfl
    have A10 := A9.same s10
    have hn10 := s10 _ _ hn9
    have B10 := dpa_mono s10 _ B9
    refine ⟨l, rfl, ⟨_, SqL.of (by rw [eu]; exact hl10)⟩, for_list (K := K) (a := l) (xs := ys.map V.int) (fun i σ' H' => ∃ (o5 o6 o7 o8 o9 o10 o11 : Option V), σ' = [some (.ref a), some (.ref d), some (.ref p), some (.ref n), some (.ref R), o5, o6, o7, o8, o9, o10, o11, none, none, none, none] ∧ Same H10 H') ⟨none, none, none, none, none, none, none, rfl, by rw [eu]; exact Same.refl _⟩ (fun i σ' H' _ ⟨_, _, _, _, _, _, _, _, s⟩ => SqL.of (s _ _ hl10)) ?_ ?_⟩
    · rintro i y σ' H11 hi ⟨o5, o6, o7, o8, o9, o10, o11, rfl, s11⟩
      obtain ⟨x, rfl, hx⟩ := map_at hi
      have okX := okys x (List.mem_of_getElem? hx)
      have A11 := A10.same s11
      obtain ⟨dx11, ts11, hp11, _⟩ := A11.at_
      refine ⟨_, rfl, p, dx11, _, rfl, hp11, plFs_no _ _ (by decide +kernel) (by decide +kernel), _, rfl, p, G, D', gs, x, rfl, A11, okX, by omega, fun H12 r cs nms m s12 CA OC => ?_⟩
      obtain ⟨ca, cb, cxs, cus, hr, hca, hcx, hcb, hcu⟩ := CA.at_
      refine ⟨r, _, rfl, hr, rfl, _, _, rfl, _, _, rfl, rfl, ?_⟩
      have dC : Dp K H12 (.ref ca) (.tuple (cs.map clD)) := .tup hca hcx
      have dT : Dp K H12 (.ref cb) (.tuple (nms.map nvD)) := .tup hcb hcu
      refine cut_same false ?_ (iteF ?_)
      · refine ⟨_, rfl, .ref ca, _, "tuple", true, rfl, dC, kit_T _, true, rfl, iteF ?_⟩
        exact ⟨_, rfl, .ref cb, _, "tuple", true, rfl, dT, kit_T _, true, rfl, rfl, rfl⟩
      have hcl : ∀ c ∈ cs, IsCl 9999 c := fun c hc => by
        obtain ⟨G1, G2⟩ := OC.good c hc
        have := OC.few
        refine ⟨fun z hz => ⟨?_, ?_⟩, G2, by have := G1.len; omega⟩
        · have := G1.nz z hz
          unfold ab
          split <;> omega
        · have := G1.le z hz
          omega
      have many : cs.length ≤ 100 := by have := OC.many; have := OC.few; omega
      have nmsl : nms.length ≤ 13 := by
        have e := few_nums OC
        have := OC.few
        omega
      refine ⟨_, rfl, ca, rfl, ⟨_, hca⟩, fun D1 hD1 => lc_gen (K := K) (walk_tup (K := K) (a := ca) (xs := cxs)) (fun i ds => ds = []) rfl (by rw [dpa_len hcx, List.length_map]; omega) hD1 (fun H2 s2 => sqt_mono s2 hca) (fun i x H2 H3 ds Nx Add hi hw s2 hne hy hNx hAdd => ?_) (fun H13 zs ds hz hd hw s13 => ?_)⟩
      · obtain ⟨rfl, hx⟩ := hy
        obtain ⟨c, t, hc, rfl, ht⟩ := dpa_atC (dpa_mono s2 _ hcx) hx
        refine ⟨rfl, _, rfl, t, 9999, c, rfl, ht, hcl c (List.mem_of_getElem? hc), true, rfl, ?_⟩
        exact hNx _ (Same.refl _) hw
      subst hw
      obtain rfl := dp_nil hd
      refine ⟨by show 0 ≤ sizeLine; decide, fun e0 he0 => ?_⟩
      have se0 := same_new he0 (.lst [])
      refine ⟨.list [], .list [], .lst (SqL.of (se0 _ _ hz)) .nil, .lst (SqL.of upd_same) .nil, by rfl, by rfl, _, rfl, ite2 (fun c => absurd c (by decide +kernel)) (fun _ => ?_)⟩
      have s1213 := s13.trans se0
      have hcb13 := sqt_mono s1213 hcb
      have hcu13 := dpa_mono s1213 _ hcu
      have hvn1 : ∀ n v, (n, v) ∈ nms → n ∈ nksOf vn := fun n v hm => hb n (OC.nums n v hm).2.2
      refine ⟨_, rfl, cb, rfl, ⟨_, hcb13⟩, fun V1 hV1 => lc_gen (K := K) (walk_tup (K := K) (a := cb) (xs := cus)) (fun i ds => ds = (nms.take i).map fun y => PyData.int y.2) rfl (by rw [dpa_len hcu, List.length_map]; omega) hV1 (fun H2 s2 => sqt_mono s2 hcb13) (fun i x H2 H3 ds Nx Add hi hw s2 hne hy hNx hAdd => ?_) (fun H14 zs1 ds hz1 hd1 hw s14 => ?_)⟩
      · obtain ⟨rfl, hx⟩ := hy
        obtain ⟨y, t, nv, hyi, rfl, ht, hnv⟩ := dpa_atN (dpa_mono s2 _ hcu13) hx
        refine ⟨rfl, yesV ?_⟩
        rw [if_pos rfl]
        exact ⟨_, rfl, t, _, _, _, rfl, rfl, ht, rfl, hAdd _ (.int y.2) _ (Same.refl _) (.int _) (by rw [hw, take_nextV hyi, List.map_append]; rfl)⟩
      have ezs1 : zs1 = (nms.map (·.2)).map V.int := by
        rw [hw, dpa_len hcu, List.length_map, List.take_length, show (nms.map fun y => PyData.int y.2) = (nms.map (·.2)).map PyData.int by rw [List.map_map]; rfl] at hd1
        exact ints_of hd1
      rw [ezs1] at hz1
      have s1214 := s1213.trans s14
      have hcb14 := sqt_mono s1214 hcb
      have hcu14 := dpa_mono s1214 _ hcu
      have hcl14 : cus.length = nms.length := by rw [dpa_len hcu, List.length_map]
      have ndv : (nms.map (·.2)).Nodup := List.pairwise_map.mpr (OC.dist.imp fun {a b} h => h.2)
      have ndn : (nms.map (·.1)).Nodup := List.pairwise_map.mpr (OC.dist.imp fun {a b} h => h.1)
      refine ⟨fun b H1 => b = false ∧ Same H14 H1, ?_, ?_⟩
      · refine ⟨_, rfl, V1, nms.map (·.2), rfl, SqL.of hz1, by rw [List.length_map]; omega, ndv, ?_⟩
        refine ⟨_, rfl, V1, _, rfl, .inl (SqL.of hz1), rfl, _, rfl, ite2 (fun c => absurd c (by simp)) (fun _ => ?_)⟩
        refine ⟨_, rfl, cb, rfl, ⟨_, hcb14⟩, fun N1 hN1 => lc_gen (K := K) (walk_tup (K := K) (a := cb) (xs := cus)) (fun i ds => ds = (nms.take i).map fun y => y.1.data) rfl (by omega) hN1 (fun H2 s2 => sqt_mono s2 hcb14) (fun i x H2 H3 ds Nx Add hi hw s2 hne hy hNx hAdd => ?_) (fun Hn zs2 ds hz2 hd2 hw2 sn2 => ?_)⟩
        · obtain ⟨rfl, hx⟩ := hy
          have sH : Same H14 (hide N1 H3) := fun b o e => hide_in (s2 b o e) fun z => by rw [← z, e] at hN1; cases hN1
          obtain ⟨y, t, nv, hyi, e1, ht, hnv⟩ := dpa_atN (dpa_mono sH _ hcu14) hx
          subst e1
          refine ⟨rfl, yesV ?_⟩
          rw [if_pos rfl]
          exact ⟨_, rfl, t, _, _, _, rfl, rfl, sqt_mono hide_le ht, rfl, hAdd _ y.1.data _ (Same.refl _) hnv (by rw [hw, take_nextV hyi, List.map_append]; rfl)⟩
        rw [hw2, hcl14, List.take_length, show (nms.map fun y => y.1.data) = (nms.map (·.1)).map NestedKey.data by rw [List.map_map]; rfl] at hd2
        obtain ⟨ps, rfl, hps, hpd⟩ := refs_of (dpa_mono hide_le _ hd2) fun k hk => by
          obtain ⟨⟨n, v⟩, hm, rfl⟩ := List.mem_map.mp hk
          obtain ⟨k1, k2⟩ := nkL_ok n (List.mem_of_mem_take (hvn1 n v hm))
          exact ⟨k2, by dsimp only; omega⟩
        have pl : ps.length = nms.length := by
          have := congrArg List.length hps
          rw [List.length_map, List.length_map] at this
          exact this
        refine ⟨N1, ps, rfl, SqL.of hz2, hpd, by omega, fun sa Ls hsa hLs hLn hLa => ?_⟩
        have lL : Ls.length = nms.length := by
          have := len_set hps ndn hLs hLn hLa
          rw [List.length_map] at this
          exact this
        have ss := sn2.trans (same_new hsa (SetV w sa (Ls.map fun p => V.ref p.1)))
        refine ⟨sa, _, rfl, upd_same, _, rfl, cb, _, rfl, .inr (sqt_mono ss hcb14), rfl, _, rfl, ?_, ss⟩
        show (!decide (V.int (((Ls.map fun p => V.ref p.1).length : Nat) : Int) = V.int (cus.length : Int))) = false
        rw [List.length_map, lL, hcl14, decide_eq_true rfl]
        rfl
      · rintro b H15 ⟨rfl, s15⟩
        refine iteF ?_
        have s1215 := s1214.trans s15
        have s1015 : Same H10 H15 := (s11.trans s12).trans s1215
        have hcb15 := sqt_mono s1215 hcb
        have hcu15 := dpa_mono s1215 _ hcu
        have hn15 := s1015 _ _ hn10
        have B15 := dpa_mono s1015 _ B10
        have dN : Dp K H15 (.ref n) (.list ((nksOf vn).map NestedKey.data)) := .lst (SqL.of hn15) B15
        refine ⟨_, rfl, cb, rfl, ⟨_, hcb15⟩, fun D2 hD2 => lc_gen (K := K) (walk_tup (K := K) (a := cb) (xs := cus)) (fun i ds => ds = []) rfl (by omega) hD2 (fun H2 s2 => sqt_mono s2 hcb15) (fun i x H2 H3 ds Nx Add hi hw s2 hne hy hNx hAdd => ?_) (fun H16 zs ds hz hd hw s16 => ?_)⟩
        · obtain ⟨rfl, hx⟩ := hy
          obtain ⟨y, t, nv, hyi, rfl, ht, hnv⟩ := dpa_atN (dpa_mono s2 _ hcu15) hx
          have hym := List.mem_of_getElem? hyi
          have hyn := hvn1 y.1 y.2 hym
          have hy1 := (OC.nums y.1 y.2 hym).1
          refine ⟨rfl, cut_same false ?_ ?_⟩
          · refine ⟨_, rfl, t, _, _, _, rfl, rfl, ht, rfl, _, rfl, y.1.data, _, hnv, .inl (dp_mono s2 _ dN), nkL_okD _ (List.mem_of_mem_take hyn), nks_okD hvn, _, rfl, ?_⟩
            rw [nks_any hvn hyn]
            refine iteF ?_
            refine ⟨_, rfl, t, _, _, _, rfl, rfl, ht, rfl, _, _, rfl, rfl, _, rfl, decide_eq_false (by omega), rfl⟩
          · rw [if_neg (by decide)]
            exact hNx _ (Same.refl _) hw
        subst hw
        obtain rfl := dp_nil hd
        refine ⟨by show 0 ≤ sizeLine; decide, fun e1 he1 => ?_⟩
        have se1 := same_new he1 (.lst [])
        refine ⟨.list [], .list [], .lst (SqL.of (se1 _ _ hz)) .nil, .lst (SqL.of upd_same) .nil, by rfl, by rfl, _, rfl, ite2 (fun c => absurd c (by decide +kernel)) (fun _ => ?_)⟩
        have s1016 := s1015.trans (s16.trans se1)
        have s1216 := s1215.trans (s16.trans se1)
        have hn16 := s1016 _ _ hn10
        refine ⟨_, rfl, n, _, rfl, .inl (SqL.of hn16), 3 + vn, by rw [htsl]; rfl, by omega, fun H17 br bz s17 hbr hbz => ?_⟩
        have s1017 := s1016.trans s17
        have s1217 := s1216.trans s17
        refine ⟨br, rfl, ⟨_, hbr⟩, for_list (K := K) (a := br) (xs := bz) (fun i σ' H' => ∃ (o9 o10 o11 : Option V), σ' = [some (.ref a), some (.ref d), some (.ref p), some (.ref n), some (.ref R), some (.int x), some (.ref ca), some (.ref cb), some (.ref V1), o9, o10, o11, none, none, none, none] ∧ Same H17 H') ⟨o9, o10, o11, rfl, Same.refl _⟩ (fun i σ' H' _ ⟨_, _, _, _, s⟩ => sql_mono s hbr) ?_ ?_⟩
        · rintro i y σ' H18 hi ⟨o9, o10, o11, rfl, s18⟩
          obtain ⟨c, t, hc, rfl, ht⟩ := dpa_atC (dpa_mono s18 _ hbz) hi
          obtain ⟨hcl1, hcb1⟩ := allBits_mem (List.mem_of_getElem? hc)
          have s1018 := s1017.trans s18
          have s1218 := s1217.trans s18
          have hn18 := s1018 _ _ hn10
          have B18 := dpa_mono s1018 _ B10
          obtain ⟨prs, eprs⟩ : ∃ prs, prs = (nksOf vn).zip c := ⟨_, rfl⟩
          have prl : prs.length = 3 + vn := by rw [eprs, List.length_zip, hnk4, hcl1, Nat.min_self]
          refine ⟨_, rfl, n, _, rfl, .inl (SqL.of hn18), 3 + vn, by rw [htsl]; rfl, by omega, by omega, fun D3 hD3 => lc_gen (K := K) (walk_range (lo := 0) (n := 3 + vn)) (fun i ds => ds = (prs.take i).map nvD) rfl (by omega) hD3 (fun H2 s2 => True.intro) (fun i y H2 H3 ds Nx Add hi hw s2 hne hy hNx hAdd => ?_) (fun H19 zs ds hz hd hw s19 => ?_)⟩
          · obtain ⟨rfl, rfl⟩ := hy
            have hi3 : i < 3 + vn := hi
            obtain ⟨nv, hnv⟩ : ∃ nv, ts[i]? = some nv := ⟨ts[i]'(by omega), List.getElem?_eq_getElem (by omega)⟩
            obtain ⟨bv, hbv⟩ : ∃ bv, c[i]? = some bv := ⟨c[i]'(by omega), List.getElem?_eq_getElem (by omega)⟩
            obtain ⟨nk, hnk⟩ : ∃ nk, (nksOf vn)[i]? = some nk := ⟨(nksOf vn)[i]'(by omega), List.getElem?_eq_getElem (by omega)⟩
            obtain ⟨dd, hdd, hdv⟩ := dpa_get B18 hnv
            rw [List.getElem?_map, hnk] at hdd
            obtain rfl := Option.some.inj hdd
            have hpi : prs[i]? = some (nk, bv) := by rw [eprs, List.getElem?_zip_eq_some]; exact ⟨hnk, hbv⟩
            have hatn : atI ts (0 + (i : Int)) = some nv := by rw [Int.zero_add]; exact atI_nat hnv
            have hatb : atI (c.map V.int) (0 + (i : Int)) = some (.int bv) := by rw [Int.zero_add]; exact atI_nat (by rw [List.getElem?_map, hbv]; rfl)
            refine ⟨rfl, yesV ?_⟩
            rw [if_pos rfl]
            refine ⟨_, rfl, _, rfl, n, _, _, _, rfl, rfl, SqL.of (s2 _ _ hn18), hatn, _, rfl, _, rfl, t, _, _, _, rfl, rfl, sqt_mono s2 ht, hatb, by show 2 ≤ sizeLine; decide, fun u hu => ?_⟩
            have su := same_new hu (.tup [nv, .int bv])
            have nu : u ≠ D3 := fun e => hne (by rw [← e]; exact hu)
            have sH : Same H18 (hide D3 (upd H3 u (.tup [nv, .int bv]))) := fun b o e => hide_in (su _ _ (s2 b o e)) fun z => by rw [← z, e] at hD3; cases hD3
            refine hAdd _ (nvD (nk, bv)) _ su (.tup (SqT.of (xs := [nv, .int bv]) (by rw [hide_ne nu, upd_same])) (.cons (dp_mono sH _ hdv) (.cons (.int _) .nil))) ?_
            rw [hw, take_nextV hpi, List.map_append]
            rfl
          rw [hw, ← prl, List.take_length] at hd
          obtain ⟨ta, rows, rfl, hpr, hrows⟩ := rows_of_pairs (dpa_mono hide_le _ hd) fun q hq => by
            rw [eprs] at hq
            obtain ⟨k1, k2⟩ := nkL_ok q.1 (List.mem_of_mem_take (List.of_mem_zip (show (q.1, q.2) ∈ _ from hq)).1)
            exact ⟨k2, by omega⟩
          have hkeys : rows.map (·.1) = nksOf vn := by
            have := congrArg (List.map Prod.fst) hrows
            rw [List.map_map, List.map_map] at this
            rw [show rows.map (·.1) = rows.map (Prod.fst ∘ fun r => (r.1, r.2.2)) from rfl, this, show (prs.map (Prod.fst ∘ fun p => (p.1, V.int p.2))) = prs.map Prod.fst from rfl, eprs, List.map_fst_zip (by omega)]
          refine ⟨D3, ta, rows, rfl, SqL.of hz, hpr, by rw [hkeys]; exact nks_nodup hvn, fun dk hdk => ?_⟩
          have sdk := same_new hdk (dnO P w dk rows)
          obtain ⟨H20, eH20⟩ : ∃ H20, H20 = upd H19 dk (dnO P w dk rows) := ⟨_, rfl⟩
          have s1820 : Same H18 H20 := by rw [eH20]; exact s19.trans sdk
          have hdk20 : H20 dk = some (dnO P w dk rows) := by rw [eH20]; exact upd_same
          have rl : rows.length = 3 + vn := by rw [← List.length_map (f := (·.1)), hkeys, hnk4]
          have BA : BitsAt P w K H20 dk rows := ⟨⟨.inl hdk20, by rw [rl]; exact Nat.le_trans (show 3 + vn ≤ 4 by omega) (by decide), fun r hr => by
            obtain ⟨k1, k2⟩ := paired_mem hpr r hr
            exact ⟨by rw [eH20]; exact dp_mono sdk _ k1, k2⟩⟩, fun r hr => by
            have hm : (r.1, r.2.2) ∈ prs.map fun p => (p.1, V.int p.2) := by
              rw [← hrows]
              exact List.mem_map.mpr ⟨r, hr, rfl⟩
            obtain ⟨q0, hq0, e0⟩ := List.mem_map.mp hm
            have e2 : V.int q0.2 = r.2.2 := (Prod.mk.inj e0).2
            rw [eprs] at hq0
            exact ⟨q0.2, e2.symm, hcb1 q0.2 (List.of_mem_zip (show (q0.1, q0.2) ∈ _ from hq0)).2⟩⟩
          have hbe : bitEnv (envOf rows) := envOf_bit BA
          obtain ⟨env, eenv⟩ : ∃ env, env = envOf rows := ⟨_, rfl⟩
          have s1220 := s1218.trans s1820
          have hcb20 := sqt_mono s1220 hcb
          have hcu20 := dpa_mono s1220 _ hcu
          show gName 10 _ _ (upd H19 dk (dnO P w dk rows)) _
          rw [← eH20]
          refine ⟨_, rfl, cb, rfl, ⟨_, hcb20⟩, fun G1 hG1 => lc_gen (K := K) (walk_tup (K := K) (a := cb) (xs := cus)) (fun i ds => ds = (nms.take i).map fun y => clD (givC env y)) rfl (by omega) hG1 (fun H2 s2 => sqt_mono s2 hcb20) (fun i x H2 H3 ds Nx Add hi hw s2 hne hy hNx hAdd => ?_) (fun H21 gz ds hgz hgd hgw s21 => ?_)⟩
          · obtain ⟨rfl, hx⟩ := hy
            obtain ⟨y, ty, nv, hyi, rfl, hty, hnv⟩ := dpa_atN (dpa_mono s2 _ hcu20) hx
            have hym := List.mem_of_getElem? hyi
            have hyn := hvn1 y.1 y.2 hym
            obtain ⟨ky, kt⟩ := nkL_ok y.1 (List.mem_of_mem_take hyn)
            obtain ⟨na, rfl⟩ : ∃ na, nv = .ref na := by
              obtain ⟨y1, y2⟩ := y
              cases y1 with
              | tup ks => cases hnv; exact ⟨_, rfl⟩
              | _ => cases kt
            have BA3 := BA.same s2
            have hval := val_in BA3 (n := y.1) (by rw [hkeys]; exact hyn)
            refine ⟨ty, _, rfl, hty, rfl, _, _, rfl, _, _, rfl, rfl, rfl, yesV ?_⟩
            rw [if_pos rfl]
            refine ⟨_, rfl, _, rfl, na, y.1, dk, rows, _, rfl, rfl, hnv, by omega, BA3.dn, hval, rfl, _, rfl, ?_⟩
            have addg : ∀ (z : Int) (u : Addr), givC env y = [z] → H3 u = none → Add (.ref u) (upd H3 u (.tup [.int z])) := fun z u ez hu => by
              have nu : u ≠ G1 := fun e => hne (by rw [← e]; exact hu)
              exact hAdd _ (clD (givC env y)) _ (same_new hu _) (by rw [ez]; exact .tup (SqT.of (xs := [.int z]) (by rw [hide_ne nu, upd_same])) (ints_all [z])) (by rw [hw, take_nextV hyi, List.map_append]; rfl)
            refine ite2 (fun c => ?_) (fun c => ?_)
            · have c : envOf rows y.1 = 1 := int_of c
              exact ⟨_, rfl, by show 1 ≤ sizeLine; decide, fun u hu => addg _ u (by unfold givC; rw [eenv, if_pos c]) hu⟩
            · have c : ¬ envOf rows y.1 = 1 := fun e => c (decide_eq_true (by rw [e]))
              exact ⟨_, rfl, _, rfl, by show 1 ≤ sizeLine; decide, fun u hu => addg _ u (by unfold givC; rw [eenv, if_neg c]) hu⟩
          rw [hgw, hcl14, List.take_length] at hgd
          have s1221 := s1220.trans s21
          have hca21 := sqt_mono s1221 hca
          have hcx21 := dpa_mono s1221 _ hcx
          have gl : gz.length = nms.length := by rw [dpa_len hgd, List.length_map]
          have cl : cxs.length = cs.length := by rw [dpa_len hcx, List.length_map]
          refine ⟨_, rfl, ca, cxs, rfl, .inr hca21, fun l1 hl1 => ?_⟩
          have sl1 := same_new hl1 (.lst cxs)
          refine ⟨_, rfl, l1, G1, cxs, gz, rfl, rfl, upd_same, sl1 _ _ hgz, Nat.le_trans (show cxs.length + gz.length ≤ 200 by omega) (by decide), fun pc hpc => ?_⟩
          have spc := same_new hpc (.lst (cxs ++ gz))
          have s1222 := (s1221.trans sl1).trans spc
          have hall : DpAll K (upd (upd H21 l1 (.lst cxs)) pc (.lst (cxs ++ gz))) (cxs ++ gz) ((cs ++ nms.map (givC env)).map (gcD true)) := by
            rw [show ((cs ++ nms.map (givC env)).map (gcD true)) = cs.map clD ++ nms.map fun y => clD (givC env y) by rw [List.map_append, List.map_map]; rfl]
            exact dpa_app (dpa_mono (sl1.trans spc) _ hcx21) (dpa_mono (sl1.trans spc) _ (dpa_mono hide_le _ hgd))
          have hnz : MC.Nz (cs ++ nms.map (givC env)) := fun c hc z hz => by
            rcases List.mem_append.mp hc with h | h
            · exact (OC.good c h).1.nz z hz
            · obtain ⟨⟨n', v'⟩, hm', rfl⟩ := List.mem_map.mp h
              have h1 := (OC.nums n' v' hm').1
              have e : z = if env n' = 1 then v' else -v' := List.mem_singleton.mp hz
              rw [e]
              split <;> omega
          have hlen : ∀ c ∈ cs ++ nms.map (givC env), c.length ≤ 100 := fun c hc => by
            rcases List.mem_append.mp hc with h | h
            · have := (OC.good c h).1.len; omega
            · obtain ⟨y', _, rfl⟩ := List.mem_map.mp h
              show 1 ≤ 100
              decide
          have hmv : m ≤ 13 := Nat.le_trans OC.few lg
          refine ⟨13, pc, cxs ++ gz, true, cs ++ nms.map (givC env), rfl, rfl, ⟨SqL.of upd_same, hall, hnz, hlen, by rw [List.length_append, List.length_map]; omega⟩, vin_given OC hmv, fun bb H23 hbb s23 => ?_⟩
          have s1223 := s1222.trans s23
          have s2023 : Same H20 H23 := ((s21.trans sl1).trans spc).trans s23
          have A23 := (A11.same s12).same s1223
          obtain ⟨dx23, ts23, hp23, _⟩ := A23.at_
          refine ⟨_, rfl, p, dx23, _, rfl, hp23, plFs_no _ _ (by decide +kernel) (by decide +kernel), _, rfl, _, rfl, p, G, D', dk, gs, x, rows, rfl, A23, okX, by omega, BA.same s2023, fun H24 s24 => ?_⟩
          have hsat : bb = decide (litv (bitsOf (envOf rows) gs) x = 1) := by
            rw [sat_given OC (by rw [eenv]; exact hbe), eenv] at hbb
            cases bb with
            | true => exact (decide_eq_true (hbb.1 rfl)).symm
            | false => exact (decide_eq_false fun e => by have := hbb.2 e; cases this).symm
          have edec : decide (V.int (litv (bitsOf (envOf rows) gs) x) = V.int 1) = bb := by
            rw [hsat]
            by_cases e : litv (bitsOf (envOf rows) gs) x = 1
            · rw [decide_eq_true e, decide_eq_true (by rw [e])]
            · rw [decide_eq_false e, decide_eq_false (fun h => e (V.int.inj h))]
          refine ⟨rfl, rfl, _, rfl, ite2 (fun c => ?_) (fun _ => ?_)⟩
          · exfalso
            have c : (!decide (V.bl bb = V.bl (decide (V.int (litv (bitsOf (envOf rows) gs) x) = V.int 1)))) = true := c
            rw [edec, decide_eq_true rfl] at c
            cases c
          · exact ⟨_, _, _, rfl, (s1820.trans s2023 |>.trans s24 |> s18.trans)⟩
        · rintro σ' H' ⟨o9, o10, o11, rfl, s18⟩
          exact ⟨_, _, _, _, _, _, _, rfl, s1017.trans s18⟩
    · rintro σ' H' ⟨o5, o6, o7, o8, o9, o10, o11, rfl, s11⟩
      exact q _
end
end My

set_option Elab.async false
set_option maxRecDepth 100000
set_option maxHeartbeats 8000000
set_option linter.all false
namespace My
open PySem L2
theorem all_mk {l : PySem.W.OpenLaw} {w : World} {K : PySem.W.Frag} {h : Heap} {mg : Str → Option Value} {fa : Addr} (X : K.In h) (G : h.Ns mainGlobals mg) (hfa : mg "law" = some (.ref fa))
    {f0 : Addr} {od0 an0 : Option Addr} {sl0 : Array (Option Value)} {oc0 kV0 dc0 pm0 cd0 ct0 : Value}
    (a0 : PySem.W.nsIn K mainGlobals "both_gate" = some (some (.ref f0))) (l0 : K.lookup f0 = some ⟨oc0, od0, .func (PySem.W.fnOf "both_gate" "both_gate" (defArgs s_both_gate) (defBody s_both_gate) (defScope s_both_gate) .none kV0 dc0 pm0 an0 cd0 ct0), sl0⟩) (c0 : PySem.W.codeIn K cd0 "both_gate" = true) (k0 : PySem.W.keepIn K (.ref f0) = true)
    {f1 : Addr} {od1 an1 : Option Addr} {sl1 : Array (Option Value)} {oc1 kV1 dc1 pm1 cd1 ct1 : Value}
    (a1 : PySem.W.nsIn K mainGlobals "gate_value" = some (some (.ref f1))) (l1 : K.lookup f1 = some ⟨oc1, od1, .func (PySem.W.fnOf "gate_value" "gate_value" (defArgs s_gate_value) (defBody s_gate_value) (defScope s_gate_value) .none kV1 dc1 pm1 an1 cd1 ct1), sl1⟩) (c1 : PySem.W.codeIn K cd1 "gate_value" = true) (k1 : PySem.W.keepIn K (.ref f1) = true)
    {f2 : Addr} {od2 an2 : Option Addr} {sl2 : Array (Option Value)} {oc2 kV2 dc2 pm2 cd2 ct2 : Value}
    (a2 : PySem.W.nsIn K mainGlobals "signed" = some (some (.ref f2))) (l2 : K.lookup f2 = some ⟨oc2, od2, .func (PySem.W.fnOf "signed" "signed" (defArgs s_signed) (defBody s_signed) (defScope s_signed) .none kV2 dc2 pm2 an2 cd2 ct2), sl2⟩) (c2 : PySem.W.codeIn K cd2 "signed" = true) (k2 : PySem.W.keepIn K (.ref f2) = true)
    {f3 : Addr} {od3 an3 : Option Addr} {sl3 : Array (Option Value)} {oc3 kV3 dc3 pm3 cd3 ct3 : Value}
    (a3 : PySem.W.nsIn K mainGlobals "gate_clauses" = some (some (.ref f3))) (l3 : K.lookup f3 = some ⟨oc3, od3, .func (PySem.W.fnOf "gate_clauses" "gate_clauses" (defArgs s_gate_clauses) (defBody s_gate_clauses) (defScope s_gate_clauses) .none kV3 dc3 pm3 an3 cd3 ct3), sl3⟩) (c3 : PySem.W.codeIn K cd3 "gate_clauses" = true) (k3 : PySem.W.keepIn K (.ref f3) = true)
    {f4 : Addr} {od4 an4 : Option Addr} {sl4 : Array (Option Value)} {oc4 kV4 dc4 pm4 cd4 ct4 : Value}
    (a4 : PySem.W.nsIn K mainGlobals "_law_draw" = some (some (.ref f4))) (l4 : K.lookup f4 = some ⟨oc4, od4, .func (PySem.W.fnOf "_law_draw" "_law_draw" (defArgs s__law_draw) (defBody s__law_draw) (defScope s__law_draw) .none kV4 dc4 pm4 an4 cd4 ct4), sl4⟩) (c4 : PySem.W.codeIn K cd4 "_law_draw" = true) (k4 : PySem.W.keepIn K (.ref f4) = true)
    {f5 : Addr} {od5 an5 : Option Addr} {sl5 : Array (Option Value)} {oc5 kV5 dc5 pm5 cd5 ct5 : Value}
    (a5 : PySem.W.nsIn K mainGlobals "_law_take" = some (some (.ref f5))) (l5 : K.lookup f5 = some ⟨oc5, od5, .func (PySem.W.fnOf "_law_take" "_law_take" (defArgs s__law_take) (defBody s__law_take) (defScope s__law_take) .none kV5 dc5 pm5 an5 cd5 ct5), sl5⟩) (c5 : PySem.W.codeIn K cd5 "_law_take" = true) (k5 : PySem.W.keepIn K (.ref f5) = true)
    {f6 : Addr} {od6 an6 : Option Addr} {sl6 : Array (Option Value)} {oc6 kV6 dc6 pm6 cd6 ct6 : Value}
    (a6 : PySem.W.nsIn K mainGlobals "_law_less" = some (some (.ref f6))) (l6 : K.lookup f6 = some ⟨oc6, od6, .func (PySem.W.fnOf "_law_less" "_law_less" (defArgs s__law_less) (defBody s__law_less) (defScope s__law_less) .none kV6 dc6 pm6 an6 cd6 ct6), sl6⟩) (c6 : PySem.W.codeIn K cd6 "_law_less" = true) (k6 : PySem.W.keepIn K (.ref f6) = true)
    {f7 : Addr} {od7 an7 : Option Addr} {sl7 : Array (Option Value)} {oc7 kV7 dc7 pm7 cd7 ct7 : Value}
    (a7 : PySem.W.nsIn K mainGlobals "_law_can" = some (some (.ref f7))) (l7 : K.lookup f7 = some ⟨oc7, od7, .func (PySem.W.fnOf "_law_can" "_law_can" (defArgs s__law_can) (defBody s__law_can) (defScope s__law_can) .none kV7 dc7 pm7 an7 cd7 ct7), sl7⟩) (c7 : PySem.W.codeIn K cd7 "_law_can" = true) (k7 : PySem.W.keepIn K (.ref f7) = true)
    {f8 : Addr} {od8 an8 : Option Addr} {sl8 : Array (Option Value)} {oc8 kV8 dc8 pm8 cd8 ct8 : Value}
    (a8 : PySem.W.nsIn K mainGlobals "_law_is_clause" = some (some (.ref f8))) (l8 : K.lookup f8 = some ⟨oc8, od8, .func (PySem.W.fnOf "_law_is_clause" "_law_is_clause" (defArgs s__law_is_clause) (defBody s__law_is_clause) (defScope s__law_is_clause) .none kV8 dc8 pm8 an8 cd8 ct8), sl8⟩) (c8 : PySem.W.codeIn K cd8 "_law_is_clause" = true) (k8 : PySem.W.keepIn K (.ref f8) = true)
    {f9 : Addr} {od9 an9 : Option Addr} {sl9 : Array (Option Value)} {oc9 kV9 dc9 pm9 cd9 ct9 : Value}
    (a9 : PySem.W.nsIn K mainGlobals "_law_literals" = some (some (.ref f9))) (l9 : K.lookup f9 = some ⟨oc9, od9, .func (PySem.W.fnOf "_law_literals" "_law_literals" (defArgs s__law_literals) (defBody s__law_literals) (defScope s__law_literals) .none kV9 dc9 pm9 an9 cd9 ct9), sl9⟩) (c9 : PySem.W.codeIn K cd9 "_law_literals" = true) (k9 : PySem.W.keepIn K (.ref f9) = true)
    {f10 : Addr} {od10 an10 : Option Addr} {sl10 : Array (Option Value)} {oc10 kV10 dc10 pm10 cd10 ct10 : Value}
    (a10 : PySem.W.nsIn K mainGlobals "_law_longer" = some (some (.ref f10))) (l10 : K.lookup f10 = some ⟨oc10, od10, .func (PySem.W.fnOf "_law_longer" "_law_longer" (defArgs s__law_longer) (defBody s__law_longer) (defScope s__law_longer) .none kV10 dc10 pm10 an10 cd10 ct10), sl10⟩) (c10 : PySem.W.codeIn K cd10 "_law_longer" = true) (k10 : PySem.W.keepIn K (.ref f10) = true)
    {f11 : Addr} {od11 an11 : Option Addr} {sl11 : Array (Option Value)} {oc11 kV11 dc11 pm11 cd11 ct11 : Value}
    (a11 : PySem.W.nsIn K mainGlobals "_law_rows" = some (some (.ref f11))) (l11 : K.lookup f11 = some ⟨oc11, od11, .func (PySem.W.fnOf "_law_rows" "_law_rows" (defArgs s__law_rows) (defBody s__law_rows) (defScope s__law_rows) .none kV11 dc11 pm11 an11 cd11 ct11), sl11⟩) (c11 : PySem.W.codeIn K cd11 "_law_rows" = true) (k11 : PySem.W.keepIn K (.ref f11) = true)
    {f12 : Addr} {od12 an12 : Option Addr} {sl12 : Array (Option Value)} {oc12 kV12 dc12 pm12 cd12 ct12 : Value}
    (a12 : PySem.W.nsIn K mainGlobals "law" = some (some (.ref f12))) (l12 : K.lookup f12 = some ⟨oc12, od12, .func (PySem.W.fnOf "law" "law" (defArgs s_law) (defBody s_law) (defScope s_law) .none kV12 dc12 pm12 an12 cd12 ct12), sl12⟩) (c12 : PySem.W.codeIn K cd12 "law" = true) (k12 : PySem.W.keepIn K (.ref f12) = true)
    {t_NO : Tok} (i_NO : PySem.W.nsIn K mainGlobals "NO" = some (some (.int 0 t_NO)))
    {t_YES : Tok} (i_YES : PySem.W.nsIn K mainGlobals "YES" = some (some (.int 1 t_YES)))
    {C : Addr} (aC : PySem.W.nsIn K mainGlobals "Pool" = some (some (.ref C)))
    {mf0 : Addr} {mod0 man0 : Option Addr} {msl0 : Array (Option Value)} {moc0 mkV0 mdc0 mpm0 mcd0 mct0 : Value}
    (ma0 : PySem.W.findIn K (.ref C) "__init__" = some (some (.ref mf0))) (mi0 : PySem.W.isFn K (.ref mf0) = true) (ml0 : K.lookup mf0 = some ⟨moc0, mod0, .func (PySem.W.fnOf "__init__" "Pool.__init__" (defArgs s_Pool___init__) (defBody s_Pool___init__) (defScope s_Pool___init__) .none mkV0 mdc0 mpm0 man0 mcd0 mct0), msl0⟩) (mc0 : PySem.W.codeIn K mcd0 "Pool.__init__" = true) (mk0 : PySem.W.keepIn K (.ref mf0) = true)
    {mf1 : Addr} {mod1 man1 : Option Addr} {msl1 : Array (Option Value)} {moc1 mkV1 mdc1 mpm1 mcd1 mct1 : Value}
    (ma1 : PySem.W.findIn K (.ref C) "bit" = some (some (.ref mf1))) (mi1 : PySem.W.isFn K (.ref mf1) = true) (ml1 : K.lookup mf1 = some ⟨moc1, mod1, .func (PySem.W.fnOf "bit" "Pool.bit" (defArgs s_Pool_bit) (defBody s_Pool_bit) (defScope s_Pool_bit) .none mkV1 mdc1 mpm1 man1 mcd1 mct1), msl1⟩) (mc1 : PySem.W.codeIn K mcd1 "Pool.bit" = true) (mk1 : PySem.W.keepIn K (.ref mf1) = true)
    {mf2 : Addr} {mod2 man2 : Option Addr} {msl2 : Array (Option Value)} {moc2 mkV2 mdc2 mpm2 mcd2 mct2 : Value}
    (ma2 : PySem.W.findIn K (.ref C) "both" = some (some (.ref mf2))) (mi2 : PySem.W.isFn K (.ref mf2) = true) (ml2 : K.lookup mf2 = some ⟨moc2, mod2, .func (PySem.W.fnOf "both" "Pool.both" (defArgs s_Pool_both) (defBody s_Pool_both) (defScope s_Pool_both) .none mkV2 mdc2 mpm2 man2 mcd2 mct2), msl2⟩) (mc2 : PySem.W.codeIn K mcd2 "Pool.both" = true) (mk2 : PySem.W.keepIn K (.ref mf2) = true)
    {mf3 : Addr} {mod3 man3 : Option Addr} {msl3 : Array (Option Value)} {moc3 mkV3 mdc3 mpm3 mcd3 mct3 : Value}
    (ma3 : PySem.W.findIn K (.ref C) "either" = some (some (.ref mf3))) (mi3 : PySem.W.isFn K (.ref mf3) = true) (ml3 : K.lookup mf3 = some ⟨moc3, mod3, .func (PySem.W.fnOf "either" "Pool.either" (defArgs s_Pool_either) (defBody s_Pool_either) (defScope s_Pool_either) .none mkV3 mdc3 mpm3 man3 mcd3 mct3), msl3⟩) (mc3 : PySem.W.codeIn K mcd3 "Pool.either" = true) (mk3 : PySem.W.keepIn K (.ref mf3) = true)
    {mf4 : Addr} {mod4 man4 : Option Addr} {msl4 : Array (Option Value)} {moc4 mkV4 mdc4 mpm4 mcd4 mct4 : Value}
    (ma4 : PySem.W.findIn K (.ref C) "unlike" = some (some (.ref mf4))) (mi4 : PySem.W.isFn K (.ref mf4) = true) (ml4 : K.lookup mf4 = some ⟨moc4, mod4, .func (PySem.W.fnOf "unlike" "Pool.unlike" (defArgs s_Pool_unlike) (defBody s_Pool_unlike) (defScope s_Pool_unlike) .none mkV4 mdc4 mpm4 man4 mcd4 mct4), msl4⟩) (mc4 : PySem.W.codeIn K mcd4 "Pool.unlike" = true) (mk4 : PySem.W.keepIn K (.ref mf4) = true)
    {mf5 : Addr} {mod5 man5 : Option Addr} {msl5 : Array (Option Value)} {moc5 mkV5 mdc5 mpm5 mcd5 mct5 : Value}
    (ma5 : PySem.W.findIn K (.ref C) "chosen" = some (some (.ref mf5))) (mi5 : PySem.W.isFn K (.ref mf5) = true) (ml5 : K.lookup mf5 = some ⟨moc5, mod5, .func (PySem.W.fnOf "chosen" "Pool.chosen" (defArgs s_Pool_chosen) (defBody s_Pool_chosen) (defScope s_Pool_chosen) .none mkV5 mdc5 mpm5 man5 mcd5 mct5), msl5⟩) (mc5 : PySem.W.codeIn K mcd5 "Pool.chosen" = true) (mk5 : PySem.W.keepIn K (.ref mf5) = true)
    {mf6 : Addr} {mod6 man6 : Option Addr} {msl6 : Array (Option Value)} {moc6 mkV6 mdc6 mpm6 mcd6 mct6 : Value}
    (ma6 : PySem.W.findIn K (.ref C) "literal_of" = some (some (.ref mf6))) (mi6 : PySem.W.isFn K (.ref mf6) = true) (ml6 : K.lookup mf6 = some ⟨moc6, mod6, .func (PySem.W.fnOf "literal_of" "Pool.literal_of" (defArgs s_Pool_literal_of) (defBody s_Pool_literal_of) (defScope s_Pool_literal_of) .none mkV6 mdc6 mpm6 man6 mcd6 mct6), msl6⟩) (mc6 : PySem.W.codeIn K mcd6 "Pool.literal_of" = true) (mk6 : PySem.W.keepIn K (.ref mf6) = true)
    {mf7 : Addr} {mod7 man7 : Option Addr} {msl7 : Array (Option Value)} {moc7 mkV7 mdc7 mpm7 mcd7 mct7 : Value}
    (ma7 : PySem.W.findIn K (.ref C) "value" = some (some (.ref mf7))) (mi7 : PySem.W.isFn K (.ref mf7) = true) (ml7 : K.lookup mf7 = some ⟨moc7, mod7, .func (PySem.W.fnOf "value" "Pool.value" (defArgs s_Pool_value) (defBody s_Pool_value) (defScope s_Pool_value) .none mkV7 mdc7 mpm7 man7 mcd7 mct7), msl7⟩) (mc7 : PySem.W.codeIn K mcd7 "Pool.value" = true) (mk7 : PySem.W.keepIn K (.ref mf7) = true)
    {mf8 : Addr} {mod8 man8 : Option Addr} {msl8 : Array (Option Value)} {moc8 mkV8 mdc8 mpm8 mcd8 mct8 : Value}
    (ma8 : PySem.W.findIn K (.ref C) "computed" = some (some (.ref mf8))) (mi8 : PySem.W.isFn K (.ref mf8) = true) (ml8 : K.lookup mf8 = some ⟨moc8, mod8, .func (PySem.W.fnOf "computed" "Pool.computed" (defArgs s_Pool_computed) (defBody s_Pool_computed) (defScope s_Pool_computed) .none mkV8 mdc8 mpm8 man8 mcd8 mct8), msl8⟩) (mc8 : PySem.W.codeIn K mcd8 "Pool.computed" = true) (mk8 : PySem.W.keepIn K (.ref mf8) = true)
    {mf9 : Addr} {mod9 man9 : Option Addr} {msl9 : Array (Option Value)} {moc9 mkV9 mdc9 mpm9 mcd9 mct9 : Value}
    (ma9 : PySem.W.findIn K (.ref C) "cone" = some (some (.ref mf9))) (mi9 : PySem.W.isFn K (.ref mf9) = true) (ml9 : K.lookup mf9 = some ⟨moc9, mod9, .func (PySem.W.fnOf "cone" "Pool.cone" (defArgs s_Pool_cone) (defBody s_Pool_cone) (defScope s_Pool_cone) .none mkV9 mdc9 mpm9 man9 mcd9 mct9), msl9⟩) (mc9 : PySem.W.codeIn K mcd9 "Pool.cone" = true) (mk9 : PySem.W.keepIn K (.ref mf9) = true)
    {mf10 : Addr} {mod10 man10 : Option Addr} {msl10 : Array (Option Value)} {moc10 mkV10 mdc10 mpm10 mcd10 mct10 : Value}
    (ma10 : PySem.W.findIn K (.ref C) "numbers_of" = some (some (.ref mf10))) (mi10 : PySem.W.isFn K (.ref mf10) = true) (ml10 : K.lookup mf10 = some ⟨moc10, mod10, .func (PySem.W.fnOf "numbers_of" "Pool.numbers_of" (defArgs s_Pool_numbers_of) (defBody s_Pool_numbers_of) (defScope s_Pool_numbers_of) .none mkV10 mdc10 mpm10 man10 mcd10 mct10), msl10⟩) (mc10 : PySem.W.codeIn K mcd10 "Pool.numbers_of" = true) (mk10 : PySem.W.keepIn K (.ref mf10) = true)
    {mf11 : Addr} {mod11 man11 : Option Addr} {msl11 : Array (Option Value)} {moc11 mkV11 mdc11 mpm11 mcd11 mct11 : Value}
    (ma11 : PySem.W.findIn K (.ref C) "clauses" = some (some (.ref mf11))) (mi11 : PySem.W.isFn K (.ref mf11) = true) (ml11 : K.lookup mf11 = some ⟨moc11, mod11, .func (PySem.W.fnOf "clauses" "Pool.clauses" (defArgs s_Pool_clauses) (defBody s_Pool_clauses) (defScope s_Pool_clauses) .none mkV11 mdc11 mpm11 man11 mcd11 mct11), msl11⟩) (mc11 : PySem.W.codeIn K mcd11 "Pool.clauses" = true) (mk11 : PySem.W.keepIn K (.ref mf11) = true)
    {mf12 : Addr} {mod12 man12 : Option Addr} {msl12 : Array (Option Value)} {moc12 mkV12 mdc12 mpm12 mcd12 mct12 : Value}
    (ma12 : PySem.W.findIn K (.ref C) "rows_of" = some (some (.ref mf12))) (mi12 : PySem.W.isFn K (.ref mf12) = true) (ml12 : K.lookup mf12 = some ⟨moc12, mod12, .func (PySem.W.fnOf "rows_of" "Pool.rows_of" (defArgs s_Pool_rows_of) (defBody s_Pool_rows_of) (defScope s_Pool_rows_of) .none mkV12 mdc12 mpm12 man12 mcd12 mct12), msl12⟩) (mc12 : PySem.W.codeIn K mcd12 "Pool.rows_of" = true) (mk12 : PySem.W.keepIn K (.ref mf12) = true)
    {mf13 : Addr} {mod13 man13 : Option Addr} {msl13 : Array (Option Value)} {moc13 mkV13 mdc13 mpm13 mcd13 mct13 : Value}
    (ma13 : PySem.W.findIn K (.ref C) "names_of" = some (some (.ref mf13))) (mi13 : PySem.W.isFn K (.ref mf13) = true) (ml13 : K.lookup mf13 = some ⟨moc13, mod13, .func (PySem.W.fnOf "names_of" "Pool.names_of" (defArgs s_Pool_names_of) (defBody s_Pool_names_of) (defScope s_Pool_names_of) .none mkV13 mdc13 mpm13 man13 mcd13 mct13), msl13⟩) (mc13 : PySem.W.codeIn K mcd13 "Pool.names_of" = true) (mk13 : PySem.W.keepIn K (.ref mf13) = true)
    (pg : PySem.W.plainGet K C Str.empty = true) (hd : PySem.W.hasDictIn K C = true) (po : PySem.W.plainOver K C = true) (sa : PySem.W.findIn K (.ref C) "__setattr__" = some (some (.builtin "object.__setattr__"))) (mk : PySem.W.makesIn K C = true) (kc : PySem.W.keepIn K (.ref C) = true)
    (nG : PySem.W.findIn K (.ref C) "gates" = some none) (nL : PySem.W.findIn K (.ref C) "literals" = some none)
    (z_abs : PySem.W.nsIn K mainGlobals "abs" = some none)
    (z_bool : PySem.W.nsIn K mainGlobals "bool" = some none)
    (z_dict : PySem.W.nsIn K mainGlobals "dict" = some none)
    (z_enumerate : PySem.W.nsIn K mainGlobals "enumerate" = some none)
    (z_int : PySem.W.nsIn K mainGlobals "int" = some none)
    (z_isinstance : PySem.W.nsIn K mainGlobals "isinstance" = some none)
    (z_len : PySem.W.nsIn K mainGlobals "len" = some none)
    (z_list : PySem.W.nsIn K mainGlobals "list" = some none)
    (z_max : PySem.W.nsIn K mainGlobals "max" = some none)
    (z_min : PySem.W.nsIn K mainGlobals "min" = some none)
    (z_range : PySem.W.nsIn K mainGlobals "range" = some none)
    (z_set : PySem.W.nsIn K mainGlobals "set" = some none)
    (z_sorted : PySem.W.nsIn K mainGlobals "sorted" = some none)
    (z_sum : PySem.W.nsIn K mainGlobals "sum" = some none)
    (z_tuple : PySem.W.nsIn K mainGlobals "tuple" = some none)
    : ∃ fd : FuncData, (∀ (s : Shared) (v : Value), BindsTo s fd ⟨[v], []⟩ [("script", v)]) ∧ ∀ base : Heap, K.In base → base.Ns mainGlobals mg → FnOk l.prog w K mg base CX0 16 fa fd ["script"] (spLaw K) := by
  have e := hfa.symm.trans (PySem.W.mg_of X G a12)
  have T : Txt K mg := ⟨PySem.W.mg_none_of X G z_abs, PySem.W.mg_none_of X G z_bool, PySem.W.mg_none_of X G z_dict, PySem.W.mg_none_of X G z_enumerate, PySem.W.mg_none_of X G z_int, PySem.W.mg_none_of X G z_isinstance, PySem.W.mg_none_of X G z_len, PySem.W.mg_none_of X G z_list, PySem.W.mg_none_of X G z_max, PySem.W.mg_none_of X G z_min, PySem.W.mg_none_of X G z_range, PySem.W.mg_none_of X G z_set, PySem.W.mg_none_of X G z_sorted, PySem.W.mg_none_of X G z_sum, PySem.W.mg_none_of X G z_tuple⟩
  have C_NO : ConI mg "NO" 0 := ⟨t_NO, PySem.W.mg_of X G i_NO⟩
  have C_YES : ConI mg "YES" 1 := ⟨t_YES, PySem.W.mg_of X G i_YES⟩
  let fd_both_gate : FuncData := PySem.W.fnOf "both_gate" "both_gate" (defArgs s_both_gate) (defBody s_both_gate) (defScope s_both_gate) .none kV0 dc0 pm0 an0 cd0 ct0
  have D_both_gate : Def K mg "both_gate" ["x", "y"] s_both_gate f0 fd_both_gate := ⟨fun_mk (st := s_both_gate) l0 c0 k0, PySem.W.mg_of X G a0, (fun_mk (st := s_both_gate) l0 c0 k0).binds (ps := ["x", "y"]) fun _ _ _ _ _ _ us hl => match us, hl with | [_, _], _ => rfl⟩
  let fd_gate_value : FuncData := PySem.W.fnOf "gate_value" "gate_value" (defArgs s_gate_value) (defBody s_gate_value) (defScope s_gate_value) .none kV1 dc1 pm1 an1 cd1 ct1
  have D_gate_value : Def K mg "gate_value" ["gate", "found", "bits"] s_gate_value f1 fd_gate_value := ⟨fun_mk (st := s_gate_value) l1 c1 k1, PySem.W.mg_of X G a1, (fun_mk (st := s_gate_value) l1 c1 k1).binds (ps := ["gate", "found", "bits"]) fun _ _ _ _ _ _ us hl => match us, hl with | [_, _, _], _ => rfl⟩
  let fd_signed : FuncData := PySem.W.fnOf "signed" "signed" (defArgs s_signed) (defBody s_signed) (defScope s_signed) .none kV2 dc2 pm2 an2 cd2 ct2
  have D_signed : Def K mg "signed" ["literal", "numbers"] s_signed f2 fd_signed := ⟨fun_mk (st := s_signed) l2 c2 k2, PySem.W.mg_of X G a2, (fun_mk (st := s_signed) l2 c2 k2).binds (ps := ["literal", "numbers"]) fun _ _ _ _ _ _ us hl => match us, hl with | [_, _], _ => rfl⟩
  let fd_gate_clauses : FuncData := PySem.W.fnOf "gate_clauses" "gate_clauses" (defArgs s_gate_clauses) (defBody s_gate_clauses) (defScope s_gate_clauses) .none kV3 dc3 pm3 an3 cd3 ct3
  have D_gate_clauses : Def K mg "gate_clauses" ["kind", "g", "parts"] s_gate_clauses f3 fd_gate_clauses := ⟨fun_mk (st := s_gate_clauses) l3 c3 k3, PySem.W.mg_of X G a3, (fun_mk (st := s_gate_clauses) l3 c3 k3).binds (ps := ["kind", "g", "parts"]) fun _ _ _ _ _ _ us hl => match us, hl with | [_, _, _], _ => rfl⟩
  let fd__law_draw : FuncData := PySem.W.fnOf "_law_draw" "_law_draw" (defArgs s__law_draw) (defBody s__law_draw) (defScope s__law_draw) .none kV4 dc4 pm4 an4 cd4 ct4
  have D__law_draw : Def K mg "_law_draw" ["script"] s__law_draw f4 fd__law_draw := ⟨fun_mk (st := s__law_draw) l4 c4 k4, PySem.W.mg_of X G a4, (fun_mk (st := s__law_draw) l4 c4 k4).binds (ps := ["script"]) fun _ _ _ _ _ _ us hl => match us, hl with | [_], _ => rfl⟩
  let fd__law_take : FuncData := PySem.W.fnOf "_law_take" "_law_take" (defArgs s__law_take) (defBody s__law_take) (defScope s__law_take) .none kV5 dc5 pm5 an5 cd5 ct5
  have D__law_take : Def K mg "_law_take" ["draw", "many"] s__law_take f5 fd__law_take := ⟨fun_mk (st := s__law_take) l5 c5 k5, PySem.W.mg_of X G a5, (fun_mk (st := s__law_take) l5 c5 k5).binds (ps := ["draw", "many"]) fun _ _ _ _ _ _ us hl => match us, hl with | [_, _], _ => rfl⟩
  let fd__law_less : FuncData := PySem.W.fnOf "_law_less" "_law_less" (defArgs s__law_less) (defBody s__law_less) (defScope s__law_less) .none kV6 dc6 pm6 an6 cd6 ct6
  have D__law_less : Def K mg "_law_less" ["clauses", "literal"] s__law_less f6 fd__law_less := ⟨fun_mk (st := s__law_less) l6 c6 k6, PySem.W.mg_of X G a6, (fun_mk (st := s__law_less) l6 c6 k6).binds (ps := ["clauses", "literal"]) fun _ _ _ _ _ _ us hl => match us, hl with | [_, _], _ => rfl⟩
  let fd__law_can : FuncData := PySem.W.fnOf "_law_can" "_law_can" (defArgs s__law_can) (defBody s__law_can) (defScope s__law_can) .none kV7 dc7 pm7 an7 cd7 ct7
  have D__law_can : Def K mg "_law_can" ["clauses"] s__law_can f7 fd__law_can := ⟨fun_mk (st := s__law_can) l7 c7 k7, PySem.W.mg_of X G a7, (fun_mk (st := s__law_can) l7 c7 k7).binds (ps := ["clauses"]) fun _ _ _ _ _ _ us hl => match us, hl with | [_], _ => rfl⟩
  let fd__law_is_clause : FuncData := PySem.W.fnOf "_law_is_clause" "_law_is_clause" (defArgs s__law_is_clause) (defBody s__law_is_clause) (defScope s__law_is_clause) .none kV8 dc8 pm8 an8 cd8 ct8
  have D__law_is_clause : Def K mg "_law_is_clause" ["value", "most"] s__law_is_clause f8 fd__law_is_clause := ⟨fun_mk (st := s__law_is_clause) l8 c8 k8, PySem.W.mg_of X G a8, (fun_mk (st := s__law_is_clause) l8 c8 k8).binds (ps := ["value", "most"]) fun _ _ _ _ _ _ us hl => match us, hl with | [_, _], _ => rfl⟩
  let fd__law_literals : FuncData := PySem.W.fnOf "_law_literals" "_law_literals" (defArgs s__law_literals) (defBody s__law_literals) (defScope s__law_literals) .none kV9 dc9 pm9 an9 cd9 ct9
  have D__law_literals : Def K mg "_law_literals" ["draw", "pool", "names"] s__law_literals f9 fd__law_literals := ⟨fun_mk (st := s__law_literals) l9 c9 k9, PySem.W.mg_of X G a9, (fun_mk (st := s__law_literals) l9 c9 k9).binds (ps := ["draw", "pool", "names"]) fun _ _ _ _ _ _ us hl => match us, hl with | [_, _, _], _ => rfl⟩
  let fd__law_longer : FuncData := PySem.W.fnOf "_law_longer" "_law_longer" (defArgs s__law_longer) (defBody s__law_longer) (defScope s__law_longer) .none kV10 dc10 pm10 an10 cd10 ct10
  have D__law_longer : Def K mg "_law_longer" ["rows", "more"] s__law_longer f10 fd__law_longer := ⟨fun_mk (st := s__law_longer) l10 c10 k10, PySem.W.mg_of X G a10, (fun_mk (st := s__law_longer) l10 c10 k10).binds (ps := ["rows", "more"]) fun _ _ _ _ _ _ us hl => match us, hl with | [_, _], _ => rfl⟩
  let fd__law_rows : FuncData := PySem.W.fnOf "_law_rows" "_law_rows" (defArgs s__law_rows) (defBody s__law_rows) (defScope s__law_rows) .none kV11 dc11 pm11 an11 cd11 ct11
  have D__law_rows : Def K mg "_law_rows" ["many"] s__law_rows f11 fd__law_rows := ⟨fun_mk (st := s__law_rows) l11 c11 k11, PySem.W.mg_of X G a11, (fun_mk (st := s__law_rows) l11 c11 k11).binds (ps := ["many"]) fun _ _ _ _ _ _ us hl => match us, hl with | [_], _ => rfl⟩
  let fd_law : FuncData := PySem.W.fnOf "law" "law" (defArgs s_law) (defBody s_law) (defScope s_law) .none kV12 dc12 pm12 an12 cd12 ct12
  have D_law : Def K mg "law" ["script"] s_law f12 fd_law := ⟨fun_mk (st := s_law) l12 c12 k12, PySem.W.mg_of X G a12, (fun_mk (st := s_law) l12 c12 k12).binds (ps := ["script"]) fun _ _ _ _ _ _ us hl => match us, hl with | [_], _ => rfl⟩
  let fd_Pool___init__ : FuncData := PySem.W.fnOf "__init__" "Pool.__init__" (defArgs s_Pool___init__) (defBody s_Pool___init__) (defScope s_Pool___init__) .none mkV0 mdc0 mpm0 man0 mcd0 mct0
  have D_Pool___init__ : DefM0 K "__init__" "Pool.__init__" ["self"] s_Pool___init__ mf0 fd_Pool___init__ := ⟨fun_mk (st := s_Pool___init__) ml0 mc0 mk0, (fun_mk (st := s_Pool___init__) ml0 mc0 mk0).binds (ps := ["self"]) fun _ _ _ _ _ _ us hl => match us, hl with | [_], _ => rfl⟩
  have MC : Mk K C mf0 := ⟨mk, ma0, mi0, kc⟩
  let fd_Pool_bit : FuncData := PySem.W.fnOf "bit" "Pool.bit" (defArgs s_Pool_bit) (defBody s_Pool_bit) (defScope s_Pool_bit) .none mkV1 mdc1 mpm1 man1 mcd1 mct1
  have D_Pool_bit : DefM K C "bit" "Pool.bit" ["self", "name"] s_Pool_bit mf1 fd_Pool_bit := ⟨fun_mk (st := s_Pool_bit) ml1 mc1 mk1, (fun_mk (st := s_Pool_bit) ml1 mc1 mk1).binds (ps := ["self", "name"]) fun _ _ _ _ _ _ us hl => match us, hl with | [_, _], _ => rfl, ⟨ma1, mi1, mk1⟩⟩
  let fd_Pool_both : FuncData := PySem.W.fnOf "both" "Pool.both" (defArgs s_Pool_both) (defBody s_Pool_both) (defScope s_Pool_both) .none mkV2 mdc2 mpm2 man2 mcd2 mct2
  have D_Pool_both : DefM K C "both" "Pool.both" ["self", "x", "y"] s_Pool_both mf2 fd_Pool_both := ⟨fun_mk (st := s_Pool_both) ml2 mc2 mk2, (fun_mk (st := s_Pool_both) ml2 mc2 mk2).binds (ps := ["self", "x", "y"]) fun _ _ _ _ _ _ us hl => match us, hl with | [_, _, _], _ => rfl, ⟨ma2, mi2, mk2⟩⟩
  let fd_Pool_either : FuncData := PySem.W.fnOf "either" "Pool.either" (defArgs s_Pool_either) (defBody s_Pool_either) (defScope s_Pool_either) .none mkV3 mdc3 mpm3 man3 mcd3 mct3
  have D_Pool_either : DefM K C "either" "Pool.either" ["self", "x", "y"] s_Pool_either mf3 fd_Pool_either := ⟨fun_mk (st := s_Pool_either) ml3 mc3 mk3, (fun_mk (st := s_Pool_either) ml3 mc3 mk3).binds (ps := ["self", "x", "y"]) fun _ _ _ _ _ _ us hl => match us, hl with | [_, _, _], _ => rfl, ⟨ma3, mi3, mk3⟩⟩
  let fd_Pool_unlike : FuncData := PySem.W.fnOf "unlike" "Pool.unlike" (defArgs s_Pool_unlike) (defBody s_Pool_unlike) (defScope s_Pool_unlike) .none mkV4 mdc4 mpm4 man4 mcd4 mct4
  have D_Pool_unlike : DefM K C "unlike" "Pool.unlike" ["self", "x", "y"] s_Pool_unlike mf4 fd_Pool_unlike := ⟨fun_mk (st := s_Pool_unlike) ml4 mc4 mk4, (fun_mk (st := s_Pool_unlike) ml4 mc4 mk4).binds (ps := ["self", "x", "y"]) fun _ _ _ _ _ _ us hl => match us, hl with | [_, _, _], _ => rfl, ⟨ma4, mi4, mk4⟩⟩
  let fd_Pool_chosen : FuncData := PySem.W.fnOf "chosen" "Pool.chosen" (defArgs s_Pool_chosen) (defBody s_Pool_chosen) (defScope s_Pool_chosen) .none mkV5 mdc5 mpm5 man5 mcd5 mct5
  have D_Pool_chosen : DefM K C "chosen" "Pool.chosen" ["self", "c", "x", "y"] s_Pool_chosen mf5 fd_Pool_chosen := ⟨fun_mk (st := s_Pool_chosen) ml5 mc5 mk5, (fun_mk (st := s_Pool_chosen) ml5 mc5 mk5).binds (ps := ["self", "c", "x", "y"]) fun _ _ _ _ _ _ us hl => match us, hl with | [_, _, _, _], _ => rfl, ⟨ma5, mi5, mk5⟩⟩
  let fd_Pool_literal_of : FuncData := PySem.W.fnOf "literal_of" "Pool.literal_of" (defArgs s_Pool_literal_of) (defBody s_Pool_literal_of) (defScope s_Pool_literal_of) .none mkV6 mdc6 mpm6 man6 mcd6 mct6
  have D_Pool_literal_of : DefM K C "literal_of" "Pool.literal_of" ["self", "gate"] s_Pool_literal_of mf6 fd_Pool_literal_of := ⟨fun_mk (st := s_Pool_literal_of) ml6 mc6 mk6, (fun_mk (st := s_Pool_literal_of) ml6 mc6 mk6).binds (ps := ["self", "gate"]) fun _ _ _ _ _ _ us hl => match us, hl with | [_, _], _ => rfl, ⟨ma6, mi6, mk6⟩⟩
  let fd_Pool_value : FuncData := PySem.W.fnOf "value" "Pool.value" (defArgs s_Pool_value) (defBody s_Pool_value) (defScope s_Pool_value) .none mkV7 mdc7 mpm7 man7 mcd7 mct7
  have D_Pool_value : DefM K C "value" "Pool.value" ["self", "literal", "bits"] s_Pool_value mf7 fd_Pool_value := ⟨fun_mk (st := s_Pool_value) ml7 mc7 mk7, (fun_mk (st := s_Pool_value) ml7 mc7 mk7).binds (ps := ["self", "literal", "bits"]) fun _ _ _ _ _ _ us hl => match us, hl with | [_, _, _], _ => rfl, ⟨ma7, mi7, mk7⟩⟩
  let fd_Pool_computed : FuncData := PySem.W.fnOf "computed" "Pool.computed" (defArgs s_Pool_computed) (defBody s_Pool_computed) (defScope s_Pool_computed) .none mkV8 mdc8 mpm8 man8 mcd8 mct8
  have D_Pool_computed : DefM K C "computed" "Pool.computed" ["self", "literals", "bits"] s_Pool_computed mf8 fd_Pool_computed := ⟨fun_mk (st := s_Pool_computed) ml8 mc8 mk8, (fun_mk (st := s_Pool_computed) ml8 mc8 mk8).binds (ps := ["self", "literals", "bits"]) fun _ _ _ _ _ _ us hl => match us, hl with | [_, _, _], _ => rfl, ⟨ma8, mi8, mk8⟩⟩
  let fd_Pool_cone : FuncData := PySem.W.fnOf "cone" "Pool.cone" (defArgs s_Pool_cone) (defBody s_Pool_cone) (defScope s_Pool_cone) .none mkV9 mdc9 mpm9 man9 mcd9 mct9
  have D_Pool_cone : DefM K C "cone" "Pool.cone" ["self", "literals", "seen"] s_Pool_cone mf9 fd_Pool_cone := ⟨fun_mk (st := s_Pool_cone) ml9 mc9 mk9, (fun_mk (st := s_Pool_cone) ml9 mc9 mk9).binds (ps := ["self", "literals", "seen"]) fun _ _ _ _ _ _ us hl => match us, hl with | [_, _, _], _ => rfl, ⟨ma9, mi9, mk9⟩⟩
  let fd_Pool_numbers_of : FuncData := PySem.W.fnOf "numbers_of" "Pool.numbers_of" (defArgs s_Pool_numbers_of) (defBody s_Pool_numbers_of) (defScope s_Pool_numbers_of) .none mkV10 mdc10 mpm10 man10 mcd10 mct10
  have D_Pool_numbers_of : DefM K C "numbers_of" "Pool.numbers_of" ["self", "literal"] s_Pool_numbers_of mf10 fd_Pool_numbers_of := ⟨fun_mk (st := s_Pool_numbers_of) ml10 mc10 mk10, (fun_mk (st := s_Pool_numbers_of) ml10 mc10 mk10).binds (ps := ["self", "literal"]) fun _ _ _ _ _ _ us hl => match us, hl with | [_, _], _ => rfl, ⟨ma10, mi10, mk10⟩⟩
  let fd_Pool_clauses : FuncData := PySem.W.fnOf "clauses" "Pool.clauses" (defArgs s_Pool_clauses) (defBody s_Pool_clauses) (defScope s_Pool_clauses) .none mkV11 mdc11 mpm11 man11 mcd11 mct11
  have D_Pool_clauses : DefM K C "clauses" "Pool.clauses" ["self", "literal"] s_Pool_clauses mf11 fd_Pool_clauses := ⟨fun_mk (st := s_Pool_clauses) ml11 mc11 mk11, (fun_mk (st := s_Pool_clauses) ml11 mc11 mk11).binds (ps := ["self", "literal"]) fun _ _ _ _ _ _ us hl => match us, hl with | [_, _], _ => rfl, ⟨ma11, mi11, mk11⟩⟩
  let fd_Pool_rows_of : FuncData := PySem.W.fnOf "rows_of" "Pool.rows_of" (defArgs s_Pool_rows_of) (defBody s_Pool_rows_of) (defScope s_Pool_rows_of) .none mkV12 mdc12 mpm12 man12 mcd12 mct12
  have D_Pool_rows_of : DefM K C "rows_of" "Pool.rows_of" ["self", "gates", "numbers"] s_Pool_rows_of mf12 fd_Pool_rows_of := ⟨fun_mk (st := s_Pool_rows_of) ml12 mc12 mk12, (fun_mk (st := s_Pool_rows_of) ml12 mc12 mk12).binds (ps := ["self", "gates", "numbers"]) fun _ _ _ _ _ _ us hl => match us, hl with | [_, _, _], _ => rfl, ⟨ma12, mi12, mk12⟩⟩
  let fd_Pool_names_of : FuncData := PySem.W.fnOf "names_of" "Pool.names_of" (defArgs s_Pool_names_of) (defBody s_Pool_names_of) (defScope s_Pool_names_of) .none mkV13 mdc13 mpm13 man13 mcd13 mct13
  have D_Pool_names_of : DefM K C "names_of" "Pool.names_of" ["self", "numbers"] s_Pool_names_of mf13 fd_Pool_names_of := ⟨fun_mk (st := s_Pool_names_of) ml13 mc13 mk13, (fun_mk (st := s_Pool_names_of) ml13 mc13 mk13).binds (ps := ["self", "numbers"]) fun _ _ _ _ _ _ us hl => match us, hl with | [_, _], _ => rfl, ⟨ma13, mi13, mk13⟩⟩
  have PK : PlK K C := ⟨⟨pg, hd, po, sa⟩, nG, nL⟩
  have mC := PySem.W.mg_of X G aC
  cases e
  exact ⟨fd_law, fun s v => .of_eq rfl, fun base _ _ => by
    have o_lit := ok_literal_of (P := l.prog) (w := w) (base := base) T PK D_Pool_literal_of
    have o_bg := ok_both_gate (P := l.prog) (w := w) (base := base) T D_both_gate
    have o_bit := ok_bit (P := l.prog) (w := w) (base := base) T PK D_Pool_bit o_lit
    have o_both := ok_both (P := l.prog) (w := w) (base := base) T PK C_NO C_YES D_Pool_both o_lit o_bg
    have o_either := ok_either (P := l.prog) (w := w) (base := base) T PK D_Pool_either o_both
    have o_unlike := ok_unlike (P := l.prog) (w := w) (base := base) T PK C_NO D_Pool_unlike o_lit
    have o_chosen := ok_chosen (P := l.prog) (w := w) (base := base) T PK C_NO C_YES D_Pool_chosen o_lit o_both o_either o_unlike
    have o_gv := ok_gate_value (P := l.prog) (w := w) (base := base) T D_gate_value
    have o_cone := ok_cone (P := l.prog) (w := w) (base := base) T PK D_Pool_cone
    have o_comp := ok_computed (P := l.prog) (w := w) (base := base) T PK D_Pool_computed o_cone o_gv
    have o_val := ok_value (P := l.prog) (w := w) (base := base) T PK D_Pool_value o_comp
    have o_pool := ok_Pool (P := l.prog) (w := w) (base := base) PK D_Pool___init__ MC mC
    have o_sig := ok_signed (P := l.prog) (w := w) (base := base) T D_signed
    have o_gc := ok_gate_clauses (P := l.prog) (w := w) (base := base) T D_gate_clauses
    have o_num := ok_numbers_of (P := l.prog) (w := w) (base := base) T PK D_Pool_numbers_of o_cone
    have o_rows := ok_rows_of (P := l.prog) (w := w) (base := base) T PK D_Pool_rows_of o_sig o_gc
    have o_names := ok_names_of (P := l.prog) (w := w) (base := base) T PK D_Pool_names_of
    have o_cls := ok_clauses (P := l.prog) (w := w) (base := base) T PK C_NO C_YES D_Pool_clauses o_num o_rows o_names o_sig
    have l_draw := ok__law_draw (P := l.prog) (w := w) (base := base) T D__law_draw
    have l_take := ok__law_take (P := l.prog) (w := w) (base := base) T D__law_take
    have l_less := ok__law_less (P := l.prog) (w := w) (base := base) T D__law_less
    have l_can := ok__law_can (P := l.prog) (w := w) (base := base) T D__law_can l_less 14
    have l_isc := ok_is_clause (P := l.prog) (w := w) (base := base) T D__law_is_clause
    have l_longer := ok_longer (P := l.prog) (w := w) (base := base) T D__law_longer
    have l_rows := ok_rowsL (P := l.prog) (w := w) (base := base) T D__law_rows l_longer
    have l_lits := ok_literals (P := l.prog) (w := w) (base := base) T PK C_NO C_YES D__law_literals l_take o_both o_either o_unlike o_chosen o_bit
    exact ok_law T PK C_NO C_YES D_law l_draw l_take o_pool l_lits o_cls o_val l_isc l_rows l_can⟩
theorem walk {l : PySem.W.OpenLaw} {q : Program} {loose : List Str} {XP : (Str → Option Value) → Heap → Prop} {YP : World → Heap → Prop} {d : DefRec} {K : Params → PySem.W.Frag} (hn : l.most = some 63) (hdf : d.params.defaults = [])
    (hY : ∀ (w : World) (h : Heap), YP w h → (K w.params).In h)
    (F : ∀ (w : World) (mg : Str → Option Value) (fa : Addr) (h : Heap), (K w.params).In h → h.Ns mainGlobals mg → mg d.name = some (.ref fa) →
      ∃ fd : FuncData, (∀ (s : Shared) (u : Value), BindsTo s fd ⟨[u], []⟩ [("script", u)]) ∧ ∀ base : Heap, (K w.params).In base → base.Ns mainGlobals mg → FnOk l.prog w (K w.params) mg base CX0 16 fa fd ["script"] (spLaw (K w.params))) :
    PySem.W.WalkO q loose XP YP l.row.toRowW d [] (fun f vs => PySem.call f vs) :=
  L2.walk_of (n := 63) (k := 16) (x := "script") (CX := fun _ => CX0) (sp := fun w => spLaw (K w.params)) hn (by decide) hdf ⟨rfl, by decide, by decide⟩ hY F (fun _ _ a ns hl _ hS => ⟨a, ns, rfl, hS, hl, fun _ => rfl⟩) fun _ _ _ _ _ z => z
end My

open PySem PySem.W PyProof.Rows in
set_option maxRecDepth 100000 in
set_option maxHeartbeats 0 in
theorem PySem.Challenge.cw_inputways_k33_clauses_of_a_literal_holds : PySem.Challenge.rw_inputways_k33_clauses_of_a_literal.Holds := by
  w_on; o_law; k_head; (case hw => w_witness2)
  k_fill
  refine My.walk (l := PySem.Challenge.rw_inputways_k33_clauses_of_a_literal) rfl rfl (fun w h Y => PySem.W.kIn_of Y) ?F
  case F =>
    intro w mg fa h KX G hmg
    refine' My.all_mk KX G hmg ?a0 ?l0 ?c0 ?k0 ?a1 ?l1 ?c1 ?k1 ?a2 ?l2 ?c2 ?k2 ?a3 ?l3 ?c3 ?k3 ?a4 ?l4 ?c4 ?k4 ?a5 ?l5 ?c5 ?k5 ?a6 ?l6 ?c6 ?k6 ?a7 ?l7 ?c7 ?k7 ?a8 ?l8 ?c8 ?k8 ?a9 ?l9 ?c9 ?k9 ?a10 ?l10 ?c10 ?k10 ?a11 ?l11 ?c11 ?k11 ?a12 ?l12 ?c12 ?k12 ?i_NO ?i_YES ?aC ?ma0 ?mi0 ?ml0 ?mc0 ?mk0 ?ma1 ?mi1 ?ml1 ?mc1 ?mk1 ?ma2 ?mi2 ?ml2 ?mc2 ?mk2 ?ma3 ?mi3 ?ml3 ?mc3 ?mk3 ?ma4 ?mi4 ?ml4 ?mc4 ?mk4 ?ma5 ?mi5 ?ml5 ?mc5 ?mk5 ?ma6 ?mi6 ?ml6 ?mc6 ?mk6 ?ma7 ?mi7 ?ml7 ?mc7 ?mk7 ?ma8 ?mi8 ?ml8 ?mc8 ?mk8 ?ma9 ?mi9 ?ml9 ?mc9 ?mk9 ?ma10 ?mi10 ?ml10 ?mc10 ?mk10 ?ma11 ?mi11 ?ml11 ?mc11 ?mk11 ?ma12 ?mi12 ?ml12 ?mc12 ?mk12 ?ma13 ?mi13 ?ml13 ?mc13 ?mk13 ?pg ?hd ?po ?sa ?mk ?kc ?nG ?nL ?z_abs ?z_bool ?z_dict ?z_enumerate ?z_int ?z_isinstance ?z_len ?z_list ?z_max ?z_min ?z_range ?z_set ?z_sorted ?z_sum ?z_tuple
    (case a0 => k_is)
    (case l0 => k_is)
    (case c0 => k_is)
    (case k0 => k_is)
    (case a1 => k_is)
    (case l1 => k_is)
    (case c1 => k_is)
    (case k1 => k_is)
    (case a2 => k_is)
    (case l2 => k_is)
    (case c2 => k_is)
    (case k2 => k_is)
    (case a3 => k_is)
    (case l3 => k_is)
    (case c3 => k_is)
    (case k3 => k_is)
    (case a4 => k_is)
    (case l4 => k_is)
    (case c4 => k_is)
    (case k4 => k_is)
    (case a5 => k_is)
    (case l5 => k_is)
    (case c5 => k_is)
    (case k5 => k_is)
    (case a6 => k_is)
    (case l6 => k_is)
    (case c6 => k_is)
    (case k6 => k_is)
    (case a7 => k_is)
    (case l7 => k_is)
    (case c7 => k_is)
    (case k7 => k_is)
    (case a8 => k_is)
    (case l8 => k_is)
    (case c8 => k_is)
    (case k8 => k_is)
    (case a9 => k_is)
    (case l9 => k_is)
    (case c9 => k_is)
    (case k9 => k_is)
    (case a10 => k_is)
    (case l10 => k_is)
    (case c10 => k_is)
    (case k10 => k_is)
    (case a11 => k_is)
    (case l11 => k_is)
    (case c11 => k_is)
    (case k11 => k_is)
    (case a12 => k_is)
    (case l12 => k_is)
    (case c12 => k_is)
    (case k12 => k_is)
    (case i_NO => k_is)
    (case i_YES => k_is)
    (case aC => k_is)
    (case ma0 => k_is)
    (case mi0 => k_is)
    (case ml0 => k_is)
    (case mc0 => k_is)
    (case mk0 => k_is)
    (case ma1 => k_is)
    (case mi1 => k_is)
    (case ml1 => k_is)
    (case mc1 => k_is)
    (case mk1 => k_is)
    (case ma2 => k_is)
    (case mi2 => k_is)
    (case ml2 => k_is)
    (case mc2 => k_is)
    (case mk2 => k_is)
    (case ma3 => k_is)
    (case mi3 => k_is)
    (case ml3 => k_is)
    (case mc3 => k_is)
    (case mk3 => k_is)
    (case ma4 => k_is)
    (case mi4 => k_is)
    (case ml4 => k_is)
    (case mc4 => k_is)
    (case mk4 => k_is)
    (case ma5 => k_is)
    (case mi5 => k_is)
    (case ml5 => k_is)
    (case mc5 => k_is)
    (case mk5 => k_is)
    (case ma6 => k_is)
    (case mi6 => k_is)
    (case ml6 => k_is)
    (case mc6 => k_is)
    (case mk6 => k_is)
    (case ma7 => k_is)
    (case mi7 => k_is)
    (case ml7 => k_is)
    (case mc7 => k_is)
    (case mk7 => k_is)
    (case ma8 => k_is)
    (case mi8 => k_is)
    (case ml8 => k_is)
    (case mc8 => k_is)
    (case mk8 => k_is)
    (case ma9 => k_is)
    (case mi9 => k_is)
    (case ml9 => k_is)
    (case mc9 => k_is)
    (case mk9 => k_is)
    (case ma10 => k_is)
    (case mi10 => k_is)
    (case ml10 => k_is)
    (case mc10 => k_is)
    (case mk10 => k_is)
    (case ma11 => k_is)
    (case mi11 => k_is)
    (case ml11 => k_is)
    (case mc11 => k_is)
    (case mk11 => k_is)
    (case ma12 => k_is)
    (case mi12 => k_is)
    (case ml12 => k_is)
    (case mc12 => k_is)
    (case mk12 => k_is)
    (case ma13 => k_is)
    (case mi13 => k_is)
    (case ml13 => k_is)
    (case mc13 => k_is)
    (case mk13 => k_is)
    (case pg => k_is)
    (case hd => k_is)
    (case po => k_is)
    (case sa => k_is)
    (case mk => k_is)
    (case kc => k_is)
    (case nG => k_is)
    (case nL => k_is)
    (case z_abs => k_is)
    (case z_bool => k_is)
    (case z_dict => k_is)
    (case z_enumerate => k_is)
    (case z_int => k_is)
    (case z_isinstance => k_is)
    (case z_len => k_is)
    (case z_list => k_is)
    (case z_max => k_is)
    (case z_min => k_is)
    (case z_range => k_is)
    (case z_set => k_is)
    (case z_sorted => k_is)
    (case z_sum => k_is)
    (case z_tuple => k_is)
