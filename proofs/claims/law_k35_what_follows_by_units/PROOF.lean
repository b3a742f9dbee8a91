import PyProof.Rows.All
import Wide.All
import OpenK.AllK
import Wide.FinOn
import HandS.Base
import HandS.Call
import HandS.List
import HandS.Comp
import HandS.Ends
import HandS.Dict
import HandS.Iter
import HandS.Words
import HandS.IsInst
import HandS.Codes
import HandS.Text
import HandS.TupSets
import KE.SortCalls
import HandS.Deep
import HandS.Rev
import KE.KeyNested
import HandS.SetIn
import KE.KDictKeyed
import HandS.Small
import PyProof.Rows.BitMore
import KE.BitLaws
import HandS.More
import HandS.Walk
import KE.GoesEnumKw
import PyProof.Draws
import HandS.SortKw
import KE.KSortKeyAny
import PyProof.TupleOfSeq
import HandS.DictComp
import HandS.TupAny
import HandS.SetBool
import HandS.Strs
import HandS.Flow
import PyProof.DelItemList
import PySem.Challenge.RW_inputways_k35_what_follows_by_units
set_option Elab.async false
set_option maxRecDepth 100000
set_option maxHeartbeats 4000000
set_option linter.all false
namespace My
open PySem L2
open C8 (pss_cut)
/-! ### a def of the text, as the top has written it; a def that keeps a promise -/
structure Def (K : PySem.W.Frag) (mg : Str → Option Value) (x : Str) (ps : List Str) (st : Stmt) (f : Addr) (fd : FuncData) : Prop where
  fn : Fun K x x st f fd
  mg : mg x = some (.ref f)
  bd : Binds K fd ps []
def Own (P : Program) (w : World) (K : PySem.W.Frag) (mg : Str → Option Value) (base : Heap) (x : Str) (ps : List Str) (k : Nat) (sp : Sp) : Prop :=
  ∃ (f : Addr) (fd : FuncData), mg x = some (.ref f) ∧ PySem.W.keepIn K (.ref f) = true ∧ Binds K fd ps [] ∧ FnOk P w K mg base CX0 k f fd ps sp
/-- a def whose promise nobody can ask for -/
theorem fn_never {P : Program} {w : World} {K : PySem.W.Frag} {mg : Str → Option Value} {base : Heap} {k : Nat} {f : Addr} {fd : FuncData} {ps : List Str} {sp : Sp} (no : ∀ vs H Q E, ¬ sp vs H Q E) : FnOk P w K mg base CX0 k f fd ps sp :=
  ⟨fun vs H Q E h => absurd h (no vs H Q E), fun A outer s H args us vs Q E _ _ _ _ h => absurd h (no vs H Q E)⟩
/-- a constant of the top: a tuple of these -/
def Con (K : PySem.W.Frag) (mg : Str → Option Value) (x : Str) (xs : List V) : Prop :=
  ∃ (a : Addr) (od : Option Addr) (its : Array Value) (n : Nat) (sl : Array (Option Value)), mg x = some (.ref a) ∧ K.lookup a = some ⟨.type "tuple", od, .seq its n, sl⟩ ∧ its.size ≤ sizeLine ∧ Vals xs its.toList
theorem con_seq {K : PySem.W.Frag} {H : Hp} {a : Addr} {od : Option Addr} {its : Array Value} {n : Nat} {sl : Array (Option Value)} {xs : List V} (l : K.lookup a = some ⟨.type "tuple", od, .seq its n, sl⟩) (s : its.size ≤ sizeLine) (v : Vals xs its.toList) : SqT K H a xs :=
  .inr ⟨_, its, n, l, rfl, rfl, s, v⟩

/-! ### small words -/
theorem same_new {H : Hp} {p : Addr} (h : H p = none) (o : HO) : Same H (upd H p o) := fun b u q => by rw [upd_ne (ne_of_none q h)]; exact q
theorem streq {a b : Str} (c : decide (V.str a = V.str b) = true) : a = b := V.str.inj (of_decide_eq_true c)
theorem strne {a b : Str} (c : ¬ decide (V.str a = V.str b) = true) : a ≠ b := fun e => c (by rw [e]; exact decide_eq_true rfl)
theorem inteq {a b : Int} (c : decide (V.int a = V.int b) = true) : a = b := V.int.inj (of_decide_eq_true c)
theorem intne {a b : Int} (c : ¬ decide (V.int a = V.int b) = true) : a ≠ b := fun e => c (by rw [e]; exact decide_eq_true rfl)
theorem toI {Q : V → Hp → Prop} {H : Hp} {a b : Int} (e : a = b) (q : Q (.int b) H) : Q (.int a) H := by rw [e]; exact q
theorem toB {Q : V → Hp → Prop} {H : Hp} {a b : Bool} (e : a = b) (q : Q (.bl b) H) : Q (.bl a) H := by rw [e]; exact q
theorem inS {x : Str} : ∀ {xs : List Str}, inV (.str x) (xs.map V.str) = decide (x ∈ xs)
  | [] => by simp [inV]
  | y :: ys => by
    have ih := inS (x := x) (xs := ys)
    unfold inV at ih ⊢
    rw [List.map_cons, List.any_cons, ih]
    show (y == x || decide (x ∈ ys)) = decide (x ∈ y :: ys)
    by_cases h : y = x
    · subst h
      simp
    · have h' : ¬ x = y := fun e => h e.symm
      simp [h, h']
theorem atI_get {ns : List Int} {k : Int} (h0 : 0 ≤ k) (h : k < (ns.length : Int)) : ∃ z : Int, z ∈ ns ∧ atI (ns.map V.int) k = some (.int z) := by
  have hk : k.toNat < ns.length := by omega
  have ek : k = ((k.toNat : Nat) : Int) := by omega
  have q : atI (ns.map V.int) ((k.toNat : Nat) : Int) = some (.int ns[k.toNat]) := atI_nat (by rw [List.getElem?_map, List.getElem?_eq_getElem hk] <;> rfl)
  rw [← ek] at q
  exact ⟨_, List.getElem_mem hk, q⟩
/-- an item in bounds -/
theorem atI_in {xs : List V} {k : Int} (h0 : 0 ≤ k) (h : k < (xs.length : Int)) : ∃ v : V, atI xs k = some v ∧ xs[k.toNat]? = some v ∧ v ∈ xs := by
  have hk : k.toNat < xs.length := by omega
  have ek : k = ((k.toNat : Nat) : Int) := by omega
  have q : atI xs ((k.toNat : Nat) : Int) = some xs[k.toNat] := atI_nat (List.getElem?_eq_getElem hk)
  rw [← ek] at q
  exact ⟨_, q, List.getElem?_eq_getElem hk, List.getElem_mem hk⟩
theorem map_at {ns : List Int} {i : Nat} {y : V} (hi : (ns.map V.int)[i]? = some y) : ∃ z, y = V.int z ∧ ns[i]? = some z := by
  rw [List.getElem?_map] at hi
  cases e : ns[i]? with
  | none =>
    rw [e] at hi
    cases hi
  | some z =>
    rw [e] at hi
    exact ⟨z, (Option.some.inj hi).symm, rfl⟩
theorem yes2 {σ : L2.St} {H : Hp} {A B : Hp → Prop} (h : A H) : tYes σ H (fun b H3 => if b = true then A H3 else B H3) := iteT (A := A H) (B := B H) h
theorem small {n : Nat} (h : n ≤ 1000) : n ≤ sizeLine := Nat.le_of_lt (small1000 h)

/-! ### a heap without one object -/
def hide (d : Addr) (H : Hp) : Hp := fun b => if b = d then none else H b
theorem hide_at {d : Addr} {H : Hp} : hide d H d = none := if_pos rfl
theorem hide_ne {d b : Addr} {H : Hp} (h : b ≠ d) : hide d H b = H b := if_neg h
theorem hide_some {d b : Addr} {H : Hp} {o : HO} (h : hide d H b = some o) : b ≠ d ∧ H b = some o := by
  unfold hide at h
  by_cases e : b = d
  · rw [if_pos e] at h
    cases h
  · rw [if_neg e] at h
    exact ⟨e, h⟩
theorem hide_le {d : Addr} {H : Hp} : Same (hide d H) H := fun b o h => (hide_some h).2
theorem hide_new {d p : Addr} {H : Hp} (hp : H p = none) (o : HO) : Same (hide d H) (hide d (upd H p o)) := fun b u h => by
  obtain ⟨h1, h2⟩ := hide_some h
  rw [hide_ne h1, upd_ne (ne_of_none h2 hp)]
  exact h2
theorem hide_put {d : Addr} {H : Hp} (o : HO) : Same (hide d H) (hide d (upd H d o)) := fun b u h => by
  obtain ⟨h1, h2⟩ := hide_some h
  rw [hide_ne h1, upd_ne h1]
  exact h2
theorem hide_same {d : Addr} {H H' : Hp} (e : Same H H') : Same (hide d H) (hide d H') := fun b u h => by
  obtain ⟨h1, h2⟩ := hide_some h
  rw [hide_ne h1]
  exact e b u h2
/-- what stands apart from d and is tracked, is tracked without d -/
theorem hide_in {d b : Addr} {H : Hp} {o : HO} (h : H b = some o) (hb : b ≠ d) : hide d H b = some o := by rw [hide_ne hb]; exact h
/-- a new object behind the draw -/
theorem hide_upd {d p : Addr} {H : Hp} {o u : HO} (hd : H d = some u) (hp : H p = none) : hide d (upd H p o) p = some o := by
  rw [hide_ne (fun e => by rw [e, hd] at hp; cases hp), upd_same]

/-! ### sequences and data in a heap that has grown -/
theorem rd_mono {H H' : Hp} {a : Addr} {u : HO} (e : Same H H') (h : Rd H a u) : Rd H' a u := by
  rcases h with h | ⟨o, h⟩
  · exact .inl (e _ _ h)
  · exact .inr ⟨o, e _ _ h⟩
theorem sqt_mono {K : PySem.W.Frag} {H H' : Hp} {a : Addr} {xs : List V} (e : Same H H') (h : SqT K H a xs) : SqT K H' a xs := by
  rcases h with h | h
  · exact .inl (rd_mono e h)
  · exact .inr h
theorem sql_mono {K : PySem.W.Frag} {H H' : Hp} {a : Addr} {xs : List V} (e : Same H H') (h : SqL K H a xs) : SqL K H' a xs := e.seq h
mutual
theorem dp_mono {K : PySem.W.Frag} {H H' : Hp} (e : Same H H') : ∀ (d : PyData) {v : V}, Dp K H v d → Dp K H' v d
  | .none, _, .non => .non
  | .bool _, _, .bl b => .bl b
  | .int _, _, .int i => .int i
  | .str _, _, .str x => .str x
  | .list ds, _, .lst h hs => .lst (sql_mono e h) (dpa_mono e ds hs)
  | .tuple ds, _, .tup h hs => .tup (sqt_mono e h) (dpa_mono e ds hs)
  | .dict _, _, h => by cases h
theorem dpa_mono {K : PySem.W.Frag} {H H' : Hp} (e : Same H H') : ∀ (ds : List PyData) {vs : List V}, DpAll K H vs ds → DpAll K H' vs ds
  | [], _, .nil => .nil
  | d :: ds, _, .cons h hs => .cons (dp_mono e d h) (dpa_mono e ds hs)
end
section
variable {K : PySem.W.Frag} {H : Hp}
theorem dpa_len : ∀ {vs : List V} {ds : List PyData}, DpAll K H vs ds → vs.length = ds.length
  | _, _, .nil => rfl
  | _, _, .cons _ t => by rw [List.length_cons, List.length_cons, dpa_len t]
theorem dpa_get : ∀ {vs : List V} {ds : List PyData} {i : Nat} {v : V}, DpAll K H vs ds → vs[i]? = some v → ∃ d, ds[i]? = some d ∧ Dp K H v d
  | _, _, _, _, .nil, e => by cases e
  | _, _, 0, _, .cons h _, e => by
    cases e
    exact ⟨_, rfl, h⟩
  | _, _, i + 1, _, .cons _ t, e => dpa_get (i := i) t e
theorem dpa_app : ∀ {vs us : List V} {ds es : List PyData}, DpAll K H vs ds → DpAll K H us es → DpAll K H (vs ++ us) (ds ++ es)
  | _, _, _, _, .nil, h => h
  | _, _, _, _, .cons a t, h => .cons a (dpa_app t h)
theorem dpa_one {v : V} {d : PyData} (h : Dp K H v d) : DpAll K H [v] [d] := .cons h .nil
theorem dpa_take : ∀ {vs : List V} {ds : List PyData} (n : Nat), DpAll K H vs ds → DpAll K H (vs.take n) (ds.take n)
  | _, _, 0, _ => .nil
  | _, _, _ + 1, .nil => .nil
  | _, _, n + 1, .cons h t => .cons h (dpa_take n t)
theorem dpa_drop : ∀ {vs : List V} {ds : List PyData} (n : Nat), DpAll K H vs ds → DpAll K H (vs.drop n) (ds.drop n)
  | _, _, 0, h => h
  | _, _, _ + 1, .nil => .nil
  | _, _, n + 1, .cons _ t => dpa_drop n t
theorem dpa_map {α : Type} (f : α → V) (g : α → PyData) (h : ∀ x, Dp K H (f x) (g x)) : ∀ l : List α, DpAll K H (l.map f) (l.map g)
  | [] => .nil
  | x :: xs => .cons (h x) (dpa_map f g h xs)
/-- a tuple that is data: its items -/
theorem dp_tup {v : V} {ds : List PyData} (h : Dp K H v (.tuple ds)) : ∃ a xs, v = .ref a ∧ SqT K H a xs ∧ DpAll K H xs ds := by
  cases h with
  | tup hs ha => exact ⟨_, _, rfl, hs, ha⟩
theorem dp_lst {v : V} {ds : List PyData} (h : Dp K H v (.list ds)) : ∃ a xs, v = .ref a ∧ SqL K H a xs ∧ DpAll K H xs ds := by
  cases h with
  | lst hs ha => exact ⟨_, _, rfl, hs, ha⟩
theorem dp_int {v : V} {i : Int} (h : Dp K H v (.int i)) : v = .int i := by cases h; rfl
theorem dp_str {v : V} {x : Str} (h : Dp K H v (.str x)) : v = .str x := by cases h; rfl
theorem dp_bool {v : V} {b : Bool} (h : Dp K H v (.bool b)) : v = .bl b := by cases h; rfl
theorem dp_none {v : V} (h : Dp K H v .none) : v = .non := by cases h; rfl
end

/-! ### a draw: the cells, the place, what is left of the cell, the seed -/
def DrawAt (H : Hp) (d L : Addr) : Prop := ∃ (ns : List Int) (at_ left seed : Int), H d = some (.lst [.ref L, .int at_, .int left, .int seed]) ∧ H L = some (.lst (ns.map V.int)) ∧ d ≠ L ∧ (∀ z, z ∈ ns → 0 ≤ z) ∧ -1 ≤ at_ ∧ 0 ≤ left ∧ 0 ≤ seed ∧ seed < 2147483647
theorem DrawAt.mono {H H' : Hp} {d L : Addr} (h : DrawAt H d L) (e : Same H H') : DrawAt H' d L := by
  obtain ⟨ns, a, l, s, h1, h2, r⟩ := h
  exact ⟨ns, a, l, s, e _ _ h1, e _ _ h2, r⟩
theorem DrawAt.at {H : Hp} {d L : Addr} (h : DrawAt H d L) : ∃ u, H d = some u := by
  obtain ⟨ns, a, l, s, h1, _⟩ := h
  exact ⟨_, h1⟩
theorem DrawAt.cells {H : Hp} {d L : Addr} (h : DrawAt H d L) : ∃ u, H L = some u := by
  obtain ⟨ns, a, l, s, _, h1, _⟩ := h
  exact ⟨_, h1⟩
/-- a new object is no draw -/
theorem DrawAt.new {H : Hp} {d L p : Addr} {o : HO} (h : DrawAt H d L) (hp : H p = none) : DrawAt (upd H p o) d L := h.mono (same_new hp o)
theorem DrawAt.ne {H : Hp} {d L p : Addr} (h : DrawAt H d L) (hp : H p = none) : d ≠ p := by
  obtain ⟨u, hu⟩ := h.at
  exact ne_of_none hu hp
theorem DrawAt.neL {H : Hp} {d L p : Addr} (h : DrawAt H d L) (hp : H p = none) : L ≠ p := by
  obtain ⟨u, hu⟩ := h.cells
  exact ne_of_none hu hp
/-- an object apart from the draw may change -/
theorem DrawAt.put {H : Hp} {d L p : Addr} (o : HO) (h : DrawAt H d L) (h1 : d ≠ p) (h2 : L ≠ p) : DrawAt (upd H p o) d L := by
  obtain ⟨ns, a, l, s, g1, g2, r⟩ := h
  exact ⟨ns, a, l, s, by rw [upd_ne h1]; exact g1, by rw [upd_ne h2]; exact g2, r⟩
theorem DrawAt.in {H : Hp} {d L p : Addr} {o : HO} (h : DrawAt H d L) (hp : H p = none) : hide d (upd H p o) p = some o := by
  obtain ⟨u, hu⟩ := h.at
  exact hide_upd hu hp

/-! ### a word between a test, an expression, and what follows -/
def tCutT (t : TT) : TT := fun σ H Q => ∃ Mid : Bool → Hp → Prop, t σ H Mid ∧ ∀ b H', Mid b H' → Q b H'
theorem pt_cut {X : Cx} {e : Expr} {t : TT} (h : PT X e t) : PT X e (tCutT t) := ⟨fun pins s σ H Q I ⟨Mid, h1, h2⟩ => thn (h.run pins s σ H Mid I h1) fun b s' ⟨H', I', q⟩ => ⟨H', I', h2 b H' q⟩⟩
def tCutE (t : TE) : TE := fun σ H Q => ∃ Mid : V → Hp → Prop, t σ H Mid ∧ ∀ v H', Mid v H' → Q v H'
theorem pe_cut {X : Cx} {e : Expr} {t : TE} (h : PE X e t) : PE X e (tCutE t) := ⟨fun pins s σ H Q I ⟨Mid, h1, h2⟩ => thn (h.run pins s σ H Mid I h1) fun u s' ⟨v, H', I', r, q⟩ => ⟨v, H', I', r, h2 v H' q⟩⟩
/-- a test that leaves the heap as it is and says b -/
theorem cut_same {t : TT} {σ : L2.St} {H : Hp} {Q : Bool → Hp → Prop} (b : Bool) (h : t σ H fun c H' => c = b ∧ H' = H) (q : Q b H) : tCutT t σ H Q :=
  ⟨_, h, fun c H' ⟨e1, e2⟩ => by rw [e1, e2]; exact q⟩
theorem cutE_same {t : TE} {σ : L2.St} {H : Hp} {Q : V → Hp → Prop} (v : V) (h : t σ H fun c H' => c = v ∧ H' = H) (q : Q v H) : tCutE t σ H Q :=
  ⟨_, h, fun c H' ⟨e1, e2⟩ => by rw [e1, e2]; exact q⟩
/-- a dict's key, written: the first, the second, the third .. -/
theorem get_k {H : Hp} {a : Addr} {kvs : List (Key × V)} {x : Str} {v : V} (e : H a = some (.dK kvs)) (g : valV kvs (Sum.inr x : Key) = some v) : DGet H a (.str x) (some v) := by
  have q := DGet.k (k := (Sum.inr x : Key)) e
  rw [g] at q
  exact q
/-- a new tuple of data behind the draw -/
theorem dp_new {K : PySem.W.Frag} {H : Hp} {d L p : Addr} {xs : List V} {ds : List PyData} (D : DrawAt H d L) (hp : H p = none) (h : DpAll K (hide d H) xs ds) : Dp K (hide d (upd H p (.tup xs))) (.ref p) (.tuple ds) :=
  .tup (SqT.of (D.in hp)) (dpa_mono (hide_new hp _) _ h)

/-! ### a list that grows apart from the data -/
mutual
def noLst : PyData → Bool
  | .none => true
  | .bool _ => true
  | .int _ => true
  | .str _ => true
  | .list _ => false
  | .tuple ds => noLsts ds
  | .dict _ => false
def noLsts : List PyData → Bool
  | [] => true
  | d :: ds => noLst d && noLsts ds
end
theorem sqt_hide {K : PySem.W.Frag} {H : Hp} {D a : Addr} {ys xs : List V} (hD : H D = some (.lst ys)) (h : SqT K H a xs) : SqT K (hide D H) a xs := by
  rcases h with (h | ⟨o, h⟩) | h
  · exact .inl (.inl (hide_in h (ne_of h hD (by intro z; cases z))))
  · exact .inl (.inr ⟨o, hide_in h (ne_of h hD (by intro z; cases z))⟩)
  · exact .inr h
mutual
theorem dp_hide {K : PySem.W.Frag} {H : Hp} {D : Addr} {ys : List V} (hD : H D = some (.lst ys)) : ∀ (d : PyData) {v : V}, noLst d = true → Dp K H v d → Dp K (hide D H) v d
  | .none, _, _, .non => .non
  | .bool _, _, _, .bl b => .bl b
  | .int _, _, _, .int i => .int i
  | .str _, _, _, .str x => .str x
  | .list ds, _, n, _ => by cases (show false = true from n)
  | .tuple ds, _, n, .tup h hs => .tup (sqt_hide hD h) (dpa_hide hD ds n hs)
  | .dict _, _, _, h => by cases h
theorem dpa_hide {K : PySem.W.Frag} {H : Hp} {D : Addr} {ys : List V} (hD : H D = some (.lst ys)) : ∀ (ds : List PyData) {vs : List V}, noLsts ds = true → DpAll K H vs ds → DpAll K (hide D H) vs ds
  | [], _, _, .nil => .nil
  | d :: ds, _, n, .cons h hs => by
    have n' := Bool.and_eq_true_iff.mp (show (noLst d && noLsts ds) = true from n)
    exact .cons (dp_hide hD d n'.1 h) (dpa_hide hD ds n'.2 hs)
end
theorem noLsts_map {α : Type} {g : α → PyData} (h : ∀ x, noLst (g x) = true) : ∀ l : List α, noLsts (l.map g) = true
  | [] => rfl
  | x :: xs => by
    show (noLst (g x) && noLsts (xs.map g)) = true
    rw [h x, noLsts_map h xs]
    rfl
/-- the new list of a comprehension, D, behind the draw at d: what stands in it so far, as data -/
structure Grows (K : PySem.W.Frag) (H0 H : Hp) (d L D : Addr) (vs : List V) (ds : List PyData) : Prop where
  at_ : H D = some (.lst vs)
  all : DpAll K (hide D (hide d H)) vs ds
  dr : DrawAt H d L
  old : Same (hide d H0) (hide d H)
  nd : d ≠ D
  nL : L ≠ D
  fr : hide d H0 D = none
theorem Grows.start {K : PySem.W.Frag} {H : Hp} {d L D : Addr} (h : DrawAt H d L) (hD : H D = none) : Grows K H (upd H D (.lst [])) d L D [] [] :=
  ⟨upd_same, .nil, h.new hD, hide_new hD _, h.ne hD, h.neL hD, by rw [hide_ne (h.ne hD).symm]; exact hD⟩
/-- what a call leaves -/
theorem Grows.step {K : PySem.W.Frag} {H0 H H' : Hp} {d L D : Addr} {vs : List V} {ds : List PyData} (g : Grows K H0 H d L D vs ds) (h : DrawAt H' d L) (e : Same (hide d H) (hide d H')) : Grows K H0 H' d L D vs ds :=
  ⟨hide_le _ _ (e _ _ (hide_in g.at_ g.nd.symm)), dpa_mono (hide_same e) _ g.all, h, g.old.trans e, g.nd, g.nL, g.fr⟩
theorem Grows.push {K : PySem.W.Frag} {H0 H : Hp} {d L D : Addr} {vs : List V} {ds : List PyData} {v : V} {x : PyData} (g : Grows K H0 H d L D vs ds) (n : noLst x = true) (h : Dp K (hide d H) v x) : Grows K H0 (upd H D (.lst (vs ++ [v]))) d L D (vs ++ [v]) (ds ++ [x]) := by
  have h' := dp_hide (hide_in g.at_ g.nd.symm) x n h
  have e : Same (hide D (hide d H)) (hide D (hide d (upd H D (.lst (vs ++ [v]))))) := fun b o hb => by
    obtain ⟨h1, h2⟩ := hide_some hb
    obtain ⟨h3, h4⟩ := hide_some h2
    rw [hide_ne h1, hide_ne h3, upd_ne h1]
    exact h4
  refine ⟨upd_same, dpa_mono e _ (dpa_app g.all (dpa_one h')), g.dr.put _ g.nd g.nL, fun b o hb => ?_, g.nd, g.nL, g.fr⟩
  have hbD : b ≠ D := ne_of_none hb g.fr
  obtain ⟨h3, h4⟩ := hide_some (g.old _ _ hb)
  rw [hide_ne h3, upd_ne hbD]
  exact h4
theorem Grows.data {K : PySem.W.Frag} {H0 H : Hp} {d L D : Addr} {vs : List V} {ds : List PyData} (g : Grows K H0 H d L D vs ds) : DpAll K (hide d H) vs ds := dpa_mono hide_le _ g.all

/-! ### promises of the drawing -/
def spTop : Sp := fun vs H Q _ => ∃ n : Nat, vs = [.int n] ∧ n ≤ 1000 ∧ Q (.int (2 ^ n - 1)) H
def spDraw (K : PySem.W.Frag) : Sp := fun vs H Q _ => ∃ (a : Addr) (ns : List Int), vs = [.ref a] ∧ SqL K H a (ns.map V.int) ∧ ns.length ≤ 63 ∧ ∀ d L H', H d = none → H L = none → Same H H' → DrawAt H' d L → Q (.ref d) H'
def spTake : Sp := fun vs H Q _ => ∃ (d L : Addr) (m : Int), vs = [.ref d, .int m] ∧ 0 < m ∧ m < 1073741824 ∧ DrawAt H d L ∧ ∀ v H', 0 ≤ v → v < m → DrawAt H' d L → Same (hide d H) (hide d H') → Q (.int v) H'
def spWord : Sp := fun vs H Q _ => ∃ (d L : Addr) (n : Nat), vs = [.ref d, .int n] ∧ n ≤ 16 ∧ DrawAt H d L ∧ ∀ v H', 0 ≤ v → v < 2 ^ n → DrawAt H' d L → Same (hide d H) (hide d H') → Q (.int v) H'
def opsL : List V := [.str "add", .str "sub", .str "mul", .str "and", .str "or", .str "xor", .str "shl", .str "shr", .str "less", .str "equal"]
def opsS : List Str := ["add", "sub", "mul", "and", "or", "xor", "shl", "shr", "less", "equal"]
def spOps : Sp := fun vs H Q _ => vs = [] ∧ ∀ p H', H p = none → Same H H' → H' p = some (.lst opsL) → Q (.ref p) H'
end My

set_option autoImplicit false
/-! Clauses, pure: what units give, fillings. -/
namespace MC
open Classical
abbrev Cl := List Int
/-- the bit of an item -/
def lit (A : Int → Bool) (x : Int) : Bool := if 0 < x then A x else !A (-x)
def Keeps (A : Int → Bool) (cs : List Cl) : Prop := ∀ c ∈ cs, ∃ x ∈ c, lit A x = true
def Sat (cs : List Cl) : Prop := ∃ A, Keeps A cs
def Nz (cs : List Cl) : Prop := ∀ c ∈ cs, ∀ x ∈ c, x ≠ 0
theorem lit_neg {A : Int → Bool} {x : Int} (h : x ≠ 0) : lit A (-x) = !lit A x := by
  unfold lit
  by_cases c : 0 < x
  · have c2 : ¬ 0 < -x := by omega
    rw [if_pos c, if_neg c2, Int.neg_neg]
  · have c2 : 0 < -x := by omega
    rw [if_neg c, if_pos c2, Bool.not_not]
def rest (l : Int) (c : Cl) : Cl := c.filter fun x => decide (x ≠ -l)
def less (cs : List Cl) (l : Int) : List Cl := (cs.filter fun c => decide (l ∉ c)).map (rest l)
theorem mem_less {cs : List Cl} {l : Int} {d : Cl} : d ∈ less cs l ↔ ∃ c ∈ cs, l ∉ c ∧ rest l c = d := by
  unfold less
  rw [List.mem_map]
  constructor
  · rintro ⟨c, h, e⟩
    obtain ⟨h1, h2⟩ := List.mem_filter.mp h
    exact ⟨c, h1, of_decide_eq_true h2, e⟩
  · rintro ⟨c, h1, h2, e⟩
    exact ⟨c, List.mem_filter.mpr ⟨h1, decide_eq_true h2⟩, e⟩
theorem mem_rest {l x : Int} {c : Cl} : x ∈ rest l c ↔ x ∈ c ∧ x ≠ -l := by
  unfold rest
  rw [List.mem_filter]
  exact ⟨fun ⟨a, b⟩ => ⟨a, of_decide_eq_true b⟩, fun ⟨a, b⟩ => ⟨a, decide_eq_true b⟩⟩
theorem nz_less {cs : List Cl} {l : Int} (h : Nz cs) : Nz (less cs l) := fun d hd x hx => by
  obtain ⟨c, hc, _, rfl⟩ := mem_less.1 hd
  exact h c hc x (mem_rest.1 hx).1
theorem keeps_less {A : Int → Bool} {cs : List Cl} {l : Int} (hl : l ≠ 0) (h : Keeps A cs) (t : lit A l = true) : Keeps A (less cs l) := fun d hd => by
  obtain ⟨c, hc, _, rfl⟩ := mem_less.1 hd
  obtain ⟨x, hx, tx⟩ := h c hc
  refine ⟨x, mem_rest.2 ⟨hx, fun e => ?_⟩, tx⟩
  rw [e, lit_neg hl, t] at tx
  cases tx
def put (A : Int → Bool) (l : Int) : Int → Bool := fun v => if v = l then true else if v = -l then false else A v
theorem lit_put {A : Int → Bool} {l : Int} (hl : l ≠ 0) : lit (put A l) l = true := by
  unfold lit put
  by_cases c : 0 < l
  · rw [if_pos c, if_pos rfl]
  · rw [if_neg c, if_neg (by omega), if_pos rfl] <;> rfl
theorem lit_put_ne {A : Int → Bool} {l x : Int} (h1 : x ≠ l) (h2 : x ≠ -l) : lit (put A l) x = lit A x := by
  unfold lit put
  by_cases c : 0 < x
  · rw [if_pos c, if_pos c, if_neg h1, if_neg h2]
  · rw [if_neg c, if_neg c, if_neg (by omega), if_neg (by omega)]
theorem keeps_put {A : Int → Bool} {cs : List Cl} {l : Int} (hl : l ≠ 0) (h : Keeps A (less cs l)) : Keeps (put A l) cs := fun c hc => by
  by_cases m : l ∈ c
  · exact ⟨l, m, lit_put hl⟩
  · obtain ⟨x, hx, tx⟩ := h _ (mem_less.2 ⟨c, hc, m, rfl⟩)
    obtain ⟨x1, x2⟩ := mem_rest.1 hx
    have x3 : x ≠ l := fun e => m (by rw [← e]; exact x1)
    exact ⟨x, x1, by rw [lit_put_ne x3 x2]; exact tx⟩
theorem sat_less_of {cs : List Cl} {l : Int} (hl : l ≠ 0) (h : Sat (less cs l)) : Sat cs := by
  obtain ⟨A, h⟩ := h
  exact ⟨_, keeps_put hl h⟩
theorem sat_unit {cs : List Cl} {l : Int} (hl : l ≠ 0) (m : [l] ∈ cs) : Sat cs ↔ Sat (less cs l) := by
  refine ⟨fun ⟨A, h⟩ => ⟨A, keeps_less hl h ?_⟩, sat_less_of hl⟩
  obtain ⟨x, hx, t⟩ := h _ m
  rw [List.mem_singleton] at hx
  rw [← hx]
  exact t
theorem sat_split {cs : List Cl} {l : Int} (hl : l ≠ 0) : Sat cs ↔ Sat (less cs l) ∨ Sat (less cs (-l)) := by
  refine ⟨fun ⟨A, h⟩ => ?_, fun h => h.elim (sat_less_of hl) (sat_less_of (by omega))⟩
  cases t : lit A l with
  | true => exact .inl ⟨A, keeps_less hl h t⟩
  | false => exact .inr ⟨A, keeps_less (by omega) h (by rw [lit_neg hl, t] <;> rfl)⟩
theorem not_sat_empty {cs : List Cl} (h : [] ∈ cs) : ¬ Sat cs := fun ⟨A, k⟩ => by
  obtain ⟨x, hx, _⟩ := k _ h
  cases hx
theorem sat_nil : Sat [] := ⟨fun _ => true, fun c h => by cases h⟩
/-- some row is left empty -/
def Bare (cs : List Cl) (l : Int) : Prop := ∃ c ∈ cs, l ∉ c ∧ rest l c = []
theorem bare_iff {cs : List Cl} {l : Int} : Bare cs l ↔ [] ∈ less cs l := by
  rw [mem_less]
  exact Iff.rfl
/-! the variables: the law takes one at a time -/
def vars (cs : List Cl) : List Int := ((cs.flatten).map fun x => if 0 < x then x else -x).eraseDups
def Vin (n : Nat) (cs : List Cl) : Prop := ∃ vs : List Int, vs.length ≤ n ∧ ∀ c ∈ cs, ∀ x ∈ c, (x ∈ vs ∨ -x ∈ vs)
theorem vin_less {n : Nat} {cs : List Cl} {l : Int} {c0 : Cl} (h : Vin n cs) (hc : c0 ∈ cs) (m : l ∈ c0 ∨ -l ∈ c0) : ∃ k, n = k + 1 ∧ Vin k (less cs l) := by
  obtain ⟨vs, hl, hv⟩ := h
  have hm : l ∈ vs ∨ -l ∈ vs := by
    rcases m with m | m
    · exact hv c0 hc l m
    · rcases hv c0 hc _ m with z | z
      · exact .inr z
      · rw [Int.neg_neg] at z; exact .inl z
  have key : ∀ w : Int, w ∈ vs → (w = l ∨ w = -l) → ∃ k, n = k + 1 ∧ Vin k (less cs l) := fun w hw ew => by
    have hlen := List.length_erase_of_mem hw
    have hp : 0 < vs.length := List.length_pos_of_mem hw
    refine ⟨n - 1, by omega, vs.erase w, by omega, fun d hd x hx => ?_⟩
    obtain ⟨c, hc, hn, rfl⟩ := mem_less.1 hd
    obtain ⟨x1, x2⟩ := mem_rest.1 hx
    have x3 : x ≠ l := fun e => hn (by rw [← e]; exact x1)
    rcases hv c hc x x1 with z | z
    · exact .inl ((List.mem_erase_of_ne (by omega)).2 z)
    · exact .inr ((List.mem_erase_of_ne (by omega)).2 z)
  rcases hm with h | h
  · exact key l h (.inl rfl)
  · exact key _ h (.inr rfl)
/-! units -/
inductive Forced (cs : List Cl) (row : Cl) : Int → Prop
  | start {x : Int} : x ∈ row → Forced cs row (-x)
  | unit {c : Cl} {l : Int} : c ∈ cs → l ∈ c → (∀ x ∈ c, x ≠ l → Forced cs row (-x)) → Forced cs row l
def Conf (cs : List Cl) (row : Cl) : Prop := ∃ c ∈ cs, ∀ x ∈ c, Forced cs row (-x)
theorem forced_mono {cs ds : List Cl} {row : Cl} (h : ∀ c, c ∈ cs → c ∈ ds) {x : Int} (f : Forced cs row x) : Forced ds row x := by
  induction f with
  | start m => exact .start m
  | unit hc hl _ ih => exact .unit (h _ hc) hl ih
theorem conf_mono {cs ds : List Cl} {row : Cl} (h : ∀ c, c ∈ cs → c ∈ ds) (f : Conf cs row) : Conf ds row := by
  obtain ⟨c, hc, k⟩ := f
  exact ⟨c, h c hc, fun x hx => forced_mono h (k x hx)⟩
theorem forced_true {cs : List Cl} {row : Cl} {A : Int → Bool} (nz : Nz cs) (_nr : ∀ x ∈ row, x ≠ 0) (k : Keeps A cs) (r : ∀ x ∈ row, lit A (-x) = true) {x : Int} (f : Forced cs row x) : lit A x = true := by
  induction f with
  | start m => exact r _ m
  | @unit c l hc hl _ ih =>
    obtain ⟨x, hx, t⟩ := k c hc
    by_cases e : x = l
    · rw [← e]; exact t
    · have := ih x hx e
      rw [lit_neg (nz c hc x hx), t] at this
      cases this
theorem conf_unsat {cs : List Cl} {row : Cl} (nz : Nz cs) (nr : ∀ x ∈ row, x ≠ 0) (f : Conf cs row) : ¬ Sat (cs ++ row.map fun x => [-x]) := fun ⟨A, k⟩ => by
  obtain ⟨c, hc, h⟩ := f
  have k1 : Keeps A cs := fun c hc => k c (List.mem_append_left _ hc)
  have r : ∀ x ∈ row, lit A (-x) = true := fun x hx => by
    obtain ⟨y, hy, t⟩ := k [-x] (List.mem_append_right _ (List.mem_map.mpr ⟨x, hx, rfl⟩))
    rw [List.mem_singleton] at hy
    rw [← hy]; exact t
  obtain ⟨x, hx, t⟩ := k1 c hc
  have := forced_true nz nr k1 r (h x hx)
  rw [lit_neg (nz c hc x hx), t] at this
  cases this
/-! a set of given items that is closed -/
theorem conf_of {cs : List Cl} {row : Cl} {g : Int → Prop} (sound : ∀ x, g x → Forced cs row x) {c : Cl} (hc : c ∈ cs) (all : ∀ x ∈ c, g (-x)) : Conf cs row := ⟨c, hc, fun x hx => sound _ (all x hx)⟩
theorem not_conf {cs : List Cl} {row : Cl} {g : Int → Prop} (st : ∀ x ∈ row, g (-x)) (two : ∀ x, g x → ¬ g (-x)) (cl : ∀ c ∈ cs, (∃ x ∈ c, g x) ∨ ∃ x ∈ c, ∃ y ∈ c, x ≠ y ∧ ¬ g (-x) ∧ ¬ g (-y)) : ¬ Conf cs row := by
  have all : ∀ x, Forced cs row x → g x := by
    intro x f
    induction f with
    | start m => exact st _ m
    | @unit c l hc hl _ ih =>
      rcases cl c hc with ⟨x, hx, gx⟩ | ⟨x, hx, y, hy, ne, nx, ny⟩
      · by_cases e : x = l
        · rw [← e]; exact gx
        · exact absurd (ih x hx e) (two x gx)
      · by_cases e : x = l
        · exact absurd (ih y hy (fun z => ne (e.trans z.symm))) ny
        · exact absurd (ih x hx e) nx
  rintro ⟨c, hc, h⟩
  rcases cl c hc with ⟨x, hx, gx⟩ | ⟨x, hx, _, _, _, nx, _⟩
  · exact two x gx (all _ (h x hx))
  · exact nx (all _ (h x hx))
end MC

set_option Elab.async false
set_option maxRecDepth 100000
set_option maxHeartbeats 4000000
set_option linter.all false
/-! sorted(xs), of a list or of a set, the items alike data of any depth. -/
namespace My
open PySem PySem.Spec PyProof.Rows L2
open PySem.W (EachIs alike dataLt dataKind keyToks SortsAt AllAlike Sortable sortVals)
abbrev leD (p q : V × PyData) : Bool := PySem.W.sortLe (PyProof.Rows.listOrd PyProof.Rows.itemOrd) false (fun p : V × PyData => keyToks p.2) p q
theorem leD_lt {p q : V × PyData} : leD p q = !dataLt q.2 p.2 := rfl
/-- values and what they read as -/
def Twos (K : PySem.W.Frag) (H : Hp) (ps : List (V × PyData)) : Prop := ∀ p ∈ ps, Dp K H p.1 p.2
theorem twos_of {K : PySem.W.Frag} {H : Hp} : ∀ {xs : List V} {ds : List PyData}, DpAll K H xs ds → ∃ ps : List (V × PyData), ps.map (·.1) = xs ∧ ps.map (·.2) = ds ∧ Twos K H ps
  | _, _, .nil => ⟨[], rfl, rfl, fun p h => by cases h⟩
  | _, _, .cons (v := v) (d := d) h t => by
    obtain ⟨ps, h1, h2, h3⟩ := twos_of t
    refine ⟨(v, d) :: ps, by rw [List.map_cons, h1], by rw [List.map_cons, h2], fun p hp => ?_⟩
    rcases List.mem_cons.mp hp with e | hp
    · rw [e]; exact h
    · exact h3 p hp
theorem Twos.all {K : PySem.W.Frag} {H : Hp} : ∀ {ps : List (V × PyData)}, Twos K H ps → DpAll K H (ps.map (·.1)) (ps.map (·.2))
  | [], _ => .nil
  | p :: ps, h => .cons (h p List.mem_cons_self) (Twos.all fun q hq => h q (List.mem_cons_of_mem _ hq))
theorem each_vals : ∀ {ps : List (V × PyData)} {us : List Value}, Vals (ps.map (·.1)) us → EachIs (fun u (p : V × PyData) => RelV p.1 u) us ps
  | [], _, .nil => .nil
  | p :: ps, _, .cons r t => .cons r (each_vals t)
theorem vals_each : ∀ {ps : List (V × PyData)} {us : List Value}, EachIs (fun u (p : V × PyData) => RelV p.1 u) us ps → Vals (ps.map (·.1)) us
  | _, _, .nil => .nil
  | _, _, .cons r t => .cons r (vals_each t)
theorem each_snd {R : Value → PyData → Prop} : ∀ {us : List Value} {ps : List (V × PyData)}, EachIs (fun u (p : V × PyData) => R u p.2) us ps → EachIs R us (ps.map (·.2))
  | _, _, .nil => .nil
  | _, _, .cons r t => .cons r (each_snd t)
/-- what sorting gives -/
structure SortedD (ps qs : List (V × PyData)) : Prop where
  perm : qs.Perm ps
  asc : qs.Pairwise fun p q => dataLt q.2 p.2 = false
theorem sortedD_of (ps : List (V × PyData)) : SortedD ps (ps.mergeSort leD) where
  perm := List.mergeSort_perm _ _
  asc := by
    have := PySem.W.sort_pairwise (PySem.W.sortLe_total (PyProof.Rows.listOrd PyProof.Rows.itemOrd) false fun p : V × PyData => keyToks p.2) ps
    refine List.Pairwise.imp (fun {p q} h => ?_) this
    have h' : (!dataLt q.2 p.2) = true := h
    cases e : dataLt q.2 p.2 with
    | false => rfl
    | true => rw [e] at h'; cases h'
section
variable {X : Cx} {pins : List (Addr × Obj)} {σ : L2.St} {H : Hp} {s : Shared}
theorem reads_each (I : Inv X pins σ H s) : ∀ {ps : List (V × PyData)} {us : List Value}, Twos X.K H ps → Vals (ps.map (·.1)) us → EachIs (fun u (p : V × PyData) => ∃ as, Reads s.heap u p.2 as) us ps
  | [], _, _, .nil => .nil
  | p :: ps, _, h, .cons r t => .cons (Dp.reads I p.2 p.1 _ (h p List.mem_cons_self) r) (reads_each I (fun q hq => h q (List.mem_cons_of_mem _ hq)) t)
/-- the sorted values, told -/
theorem sorted_each {h : Heap} {ps : List (V × PyData)} {us : List Value} (hal : AllAlike (ps.map (·.2))) (r : Vals (ps.map (·.1)) us) (e : EachIs (fun u (p : V × PyData) => ∃ as, Reads h u p.2 as) us ps) : EachIs (fun u (p : V × PyData) => RelV p.1 u) (sortVals (dataKind h (ps.map (·.2))) false us us) (ps.mergeSort leD) := by
  refine PySem.W.sortVals_each (κ := dataKind h (ps.map (·.2))) (fun p : V × PyData => keyToks p.2) (each_vals r) ?_
  have key : ∀ {qs : List (V × PyData)} {us : List Value}, (∀ q ∈ qs, q ∈ ps) → EachIs (fun u (p : V × PyData) => ∃ as, Reads h u p.2 as) us qs → EachIs (fun v (b : V × PyData) => (dataKind h (ps.map (·.2))).keyOf v = some (keyToks b.2)) us qs := by
    intro qs us hq e
    induction e with
    | nil => exact .nil
    | @cons u p us qs h1 _ ih =>
      obtain ⟨as, h1⟩ := h1
      exact .cons (PySem.W.dataKind_some hal (List.mem_map.mpr ⟨p, hq p List.mem_cons_self, rfl⟩) h1) (ih fun q m => hq q (List.mem_cons_of_mem _ m))
  exact key (fun q m => m) e
theorem sorts_at {P : Program} {w : World} {A : Around} {s0 s1 : Shared} {ps : List (V × PyData)} {us : List Value} (e : EachIs (fun u (p : V × PyData) => ∃ as, Reads s0.heap u p.2 as) us ps) (kp : ∀ b o, s0.heap.get? b = some o → s1.heap.get? b = some o) (hal : AllAlike (ps.map (·.2))) (hk : Sortable (ps.map (·.2))) (hu : ∀ d, d ∈ ps.map (·.2) → A.units + d.depth < cLine) :
    SortsAt P w A s1 (dataKind s1.heap (ps.map (·.2))) us := by
  refine SortsAt.data (each_snd (R := fun u d => ∃ as, Reads s1.heap u d as) ?_) hal hk hu
  exact EachIs.mono (fun u p ⟨as, r⟩ => ⟨as, PyProof.Rows.Reads.keeps kp r⟩) e
/-- sorted(xs), xs a list -/
def rSortedD (K : PySem.W.Frag) : List V → Hp → VK → Prop := fun vs H Q => ∃ (a : Addr) (ps : List (V × PyData)), vs = [V.ref a] ∧ SqL K H a (ps.map (·.1)) ∧ Twos K H ps ∧ AllAlike (ps.map (·.2)) ∧ Sortable (ps.map (·.2)) ∧ (∀ p ∈ ps, p.2.depth ≤ 60) ∧
  ∀ qs p, SortedD ps qs → H p = none → Q (.ref p) (upd H p (.lst (qs.map (·.1))))
theorem cr_sortedD (hu : X.A.units + 64 < cLine) : CallR X (.builtin "sorted") (rSortedD X.K) := by
  intro pins s σ H vs us Q I r h
  obtain ⟨a, ps, rfl, hs, hd, hal, hk, hdp, q⟩ := h
  obtain ⟨its, rv, hl, hz⟩ := I.list hs
  obtain ⟨u, rfl, ru⟩ := vals1 r
  obtain rfl : u = Value.ref a := ru
  have e0 := reads_each I hd rv
  have kp1 : ∀ b o, s.heap.get? b = some o → (PySem.W.sortingHeap (PySem.W.copyHeap s.heap its) (s.heap.objs.size + 1) its).get? b = some o := fun b o e => PySem.W.sorting_copy_old e
  have S := sorts_at (P := X.prog) (w := X.w) (A := X.A.in1.in1) (s0 := s) (s1 := { s with heap := PySem.W.sortingHeap (PySem.W.copyHeap s.heap its) (s.heap.objs.size + 1) its }) e0 kp1 hal hk fun d m => by
    obtain ⟨p, hp, rfl⟩ := List.mem_map.mp m
    have := hdp p hp
    show X.A.units + 1 + 1 + p.2.depth < cLine
    omega
  refine PySem.W.sorted_vals hl.isList S (by rw [← rv.length]; exact hz) ?_
  have e1 : EachIs (fun u (p : V × PyData) => ∃ as, Reads (PySem.W.sortingHeap (PySem.W.copyHeap s.heap its) (s.heap.objs.size + 1) its) u p.2 as) its ps := EachIs.mono (fun u p ⟨as, r⟩ => ⟨as, PyProof.Rows.Reads.keeps kp1 r⟩) e0
  have out := vals_each (sorted_each hal rv e1)
  have hperm := (sortedD_of ps).perm
  obtain ⟨ep, he'⟩ := sortedAll_at s.heap its (sortVals (dataKind (PySem.W.sortingHeap (PySem.W.copyHeap s.heap its) (s.heap.objs.size + 1) its) (ps.map (·.2))) false its its).toArray
  refine ⟨.ref _, upd H (s.heap.objs.size + 1) (.lst ((ps.mergeSort leD).map (·.1))), I.laid (t' := s.toks) (fun _ _ => sortedAll_old) (Nat.le_succ _) ⟨?_, _, ep, out, he'⟩, rfl, q _ _ (sortedD_of ps) (I.hok.fresh (Nat.le_succ _))⟩
  rw [List.length_map, hperm.length_eq, ← List.length_map (f := (·.1))]
  exact hz
/-! ### a set, its values -/
structure SetV0 (w : World) (h : Heap) (a : Addr) (vs : List V) : Prop where
  ex : ∃ (es : Array (Int × Value)) (ep : Nat) (t : SetTable), (∃ o, h.get? a = some o ∧ o.ExactSet ∧ o.data = .set es ep t) ∧ t.fits es.size = true ∧ Ris t.place.toList ∧ (w.params.followText "set-order" = true ∨ t.led = true) ∧ es.size < 2000 ∧ Vals vs (es.toList.map (·.2))
def SetV (w : World) (a : Addr) (vs : List V) : HO := .ext fun h => SetV0 w h a vs
theorem setV_new {P : Program} {w : World} {H : Hp} {h : Heap} {a : Addr} {vs : List V} (R : SetV0 w h a vs) : ObjOk P w H h a (SetV w a vs) := by
  have ⟨es, ep, t, ⟨o, ho, r⟩, q⟩ := R.ex
  refine ⟨R, ⟨o, ho⟩, fun h1 h2 p k => ?_⟩
  have ⟨es', ep', t', ⟨o', ho', r'⟩, q'⟩ := SetV0.ex p
  exact ⟨es', ep', t', ⟨o', k o' ho', r'⟩, q'⟩
end
theorem each_perm {α β : Type} {R : α → β → Prop} : ∀ {us us' : List α}, us'.Perm us → ∀ {bs : List β}, EachIs R us bs → ∃ bs', EachIs R us' bs' ∧ bs'.Perm bs := by
  intro us us' p
  induction p with
  | nil => intro bs h; exact ⟨bs, h, .refl _⟩
  | cons x _ ih =>
    intro bs h
    cases h with
    | cons r t =>
      obtain ⟨bs', e, pm⟩ := ih t
      exact ⟨_ :: bs', .cons r e, pm.cons _⟩
  | swap x y l =>
    intro bs h
    cases h with
    | cons r t =>
      cases t with
      | cons r2 t2 => exact ⟨_, .cons r2 (.cons r t2), .swap _ _ _⟩
  | trans _ _ ih1 ih2 =>
    intro bs h
    obtain ⟨b2, e2, p2⟩ := ih2 h
    obtain ⟨b1, e1, p1⟩ := ih1 e2
    exact ⟨b1, e1, p1.trans p2⟩
section
variable {X : Cx}
/-- sorted(xs), xs a set -/
def rSortedS (K : PySem.W.Frag) (w : World) : List V → Hp → VK → Prop := fun vs H Q => ∃ (a : Addr) (ps : List (V × PyData)), vs = [V.ref a] ∧ H a = some (SetV w a (ps.map (·.1))) ∧ Twos K H ps ∧ AllAlike (ps.map (·.2)) ∧ Sortable (ps.map (·.2)) ∧ (∀ p ∈ ps, p.2.depth ≤ 60) ∧
  ∀ qs p, SortedD ps qs → H p = none → Q (.ref p) (upd H p (.lst (qs.map (·.1))))
theorem cr_sortedS (hc : X.calm = true) (hu : X.A.units + 64 < cLine) : CallR X (.builtin "sorted") (rSortedS X.K X.w) := by
  intro pins s σ H vs us Q I r h
  obtain ⟨a, ps, rfl, ha, hd, hal, hk, hdp, q⟩ := h
  have R : SetV0 X.w s.heap a (ps.map (·.1)) := (I.hok a _ ha).1
  obtain ⟨es, ep, t, ⟨o, ho, hex, hdt⟩, hf, hr, hl, hsz, rv⟩ := R.ex
  obtain ⟨u, rfl, ru⟩ := vals1 r
  obtain rfl : u = Value.ref a := ru
  have e0 := reads_each I hd rv
  refine Calls.call_function_entry kind_sorted plain_sorted entry_sorted (args_sorted1 _) ?_
  unfold Builtin.«sorted»
  refine wpAny_bind (m := checkCount "sorted" 1 1 _) (wpAny_pure ?_)
  refine wpAny_bind (collect_set (A := X.A.in1) (I.ok.hd hc) ⟨o, ho, hex.1, hdt⟩ hf (by unfold scanBound; omega) hr hl fun s1 vs k1 hz g1 o1 pm => ?_)
  obtain ⟨ps1, e1, pm1⟩ := each_perm pm (R := fun u (p : V × PyData) => RelV p.1 u ∧ ∃ as, Reads s.heap u p.2 as) (bs := ps) (by
    have := each_vals rv
    have key : ∀ {us : List Value} {ps : List (V × PyData)}, EachIs (fun u (p : V × PyData) => RelV p.1 u) us ps → EachIs (fun u (p : V × PyData) => ∃ as, Reads s.heap u p.2 as) us ps → EachIs (fun u (p : V × PyData) => RelV p.1 u ∧ ∃ as, Reads s.heap u p.2 as) us ps := by
      intro us ps h1 h2
      induction h1 with
      | nil => exact .nil
      | cons a _ ih =>
        cases h2 with
        | cons b t => exact .cons ⟨a, b⟩ (ih t)
    exact key this e0)
  have hvl : vs.length < 2000 := by
    rw [pm.length_eq, List.length_map, Array.length_toList]
    exact hsz
  have hvz : vs.length ≤ sizeLine := by rw [sizeLine_eq]; omega
  refine wpAny_bind (wpAny_newList ?_ hvz)
  have hoL : (s1.heap.push (seqObj "list" vs.toArray 0)).get? s1.heap.objs.size = some (seqObj "list" vs.toArray 0) := Heap.get?_push_size _ rfl
  have kp1 : ∀ b o, s.heap.get? b = some o → (PySem.W.sortingHeap (s1.heap.push (seqObj "list" vs.toArray 0)) s1.heap.objs.size vs).get? b = some o := fun b o e => by
    have e2 := k1 b o e
    exact PySem.W.sortingHeap_old (Nat.ne_of_lt (Heap.lt_size e2)) (Heap.get?_push_of_some _ e2)
  have hal1 : AllAlike (ps1.map (·.2)) := fun d hd d' hd' => hal d ((pm1.map (·.2)).mem_iff.mp hd) d' ((pm1.map (·.2)).mem_iff.mp hd')
  have hk1 : Sortable (ps1.map (·.2)) := by
    rcases hk with k | k
    · exact .inl fun d m => k d ((pm1.map (·.2)).mem_iff.mp m)
    · exact .inr fun d m => k d ((pm1.map (·.2)).mem_iff.mp m)
  have er : EachIs (fun u (p : V × PyData) => ∃ as, Reads s.heap u p.2 as) vs ps1 := EachIs.mono (fun u p h => h.2) e1
  have S := sorts_at (P := X.prog) (w := X.w) (A := X.A.in1.in1) (s0 := s) (s1 := { s1 with heap := PySem.W.sortingHeap (s1.heap.push (seqObj "list" vs.toArray 0)) s1.heap.objs.size vs }) er kp1 hal1 hk1 fun d m => by
    obtain ⟨p, hp, rfl⟩ := List.mem_map.mp m
    have := hdp p (pm1.mem_iff.mp hp)
    show X.A.units + 1 + 1 + p.2.depth < cLine
    omega
  refine wpAny_bind (wpAny_holding (wpAny_call_entry slot_list_sort ⟨_, hoL, rfl⟩ entry_list_sort (PySem.W.list_sort_vals (s := { s1 with heap := s1.heap.push (seqObj "list" vs.toArray 0) }) hoL S hvz ⟨_, rfl, ?_⟩) (args_list_sort _)))
  have rv1 : Vals (ps1.map (·.1)) vs := vals_each (EachIs.mono (fun u p h => h.1) e1)
  have out := vals_each (sorted_each hal1 rv1 (EachIs.mono (fun u p ⟨as, r⟩ => ⟨as, PyProof.Rows.Reads.keeps kp1 r⟩) er))
  have sd := sortedD_of ps1
  obtain ⟨c, hc'⟩ := sortedHeap_at (vs := vs) (out := (sortVals (dataKind (PySem.W.sortingHeap (s1.heap.push (seqObj "list" vs.toArray 0)) s1.heap.objs.size vs) (ps1.map (·.2))) false vs vs).toArray) hoL
  have hn : H s1.heap.objs.size = none := I.hok.fresh hz
  have keep : ∀ b u, s.heap.get? b = some u → (sortedHeap (s1.heap.push (seqObj "list" vs.toArray 0)) s1.heap.objs.size vs (sortVals (dataKind (PySem.W.sortingHeap (s1.heap.push (seqObj "list" vs.toArray 0)) s1.heap.objs.size vs) (ps1.map (·.2))) false vs vs).toArray).get? b = some u := fun b u e => by
    have q := k1 b u e
    have hlt := Heap.lt_size q
    rw [sortedHeap_old (Nat.ne_of_lt hlt) (by rw [size_push']; exact Nat.lt_succ_of_lt hlt)]
    exact Heap.get?_push_of_some _ q
  have hlen : ((ps1.mergeSort leD).map (·.1)).length ≤ sizeLine := by
    rw [List.length_map, sd.perm.length_eq, ← List.length_map (f := (·.1)), rv1.length]
    exact hvz
  have J : Inv X pins σ (upd H s1.heap.objs.size (.lst ((ps1.mergeSort leD).map (·.1)))) { s with heap := _, gens := s1.gens, drawn := s1.drawn, toks := s1.toks } :=
    I.call (ch := []) (Un.laid keep hz hn) (I.hok.laid keep hz ⟨hlen, _, c, out, hc'⟩) (by rw [g1]; exact I.bare) (fun _ z => nomatch z)
  have e2 : ∀ hh : Heap, ({ heap := hh, gens := s1.gens, drawn := s1.drawn, toks := s1.toks, os := s1.os } : Shared) = { s with heap := hh, gens := s1.gens, drawn := s1.drawn, toks := s1.toks } := fun hh => by rw [o1]
  refine wpAny_pure ⟨_, rfl, ?_⟩
  show EP X pins σ Q _ ({ heap := _, gens := s1.gens, drawn := s1.drawn, toks := s1.toks, os := s1.os } : Shared)
  rw [e2]
  exact ⟨.ref s1.heap.objs.size, _, J, rfl, q _ _ ⟨sd.perm.trans pm1, sd.asc⟩ hn⟩
end
end My

set_option Elab.async false
set_option maxRecDepth 100000
set_option maxHeartbeats 4000000
set_option linter.all false
/-! Rules that the clauses' laws share. -/
namespace My
open PySem L2
theorem ints_all {K : PySem.W.Frag} {H : Hp} : ∀ c : List Int, DpAll K H (c.map V.int) (c.map PyData.int)
  | [] => .nil
  | x :: c => .cons (.int x) (ints_all c)
theorem inV_ints {x : Int} : ∀ {ms : List Int}, inV (.int x) (ms.map V.int) = decide (x ∈ ms)
  | [] => by simp [inV]
  | y :: ys => by
    have ih := inV_ints (x := x) (ms := ys)
    unfold inV at ih ⊢
    rw [List.map_cons, List.any_cons, ih]
    show (y == x || decide (x ∈ ys)) = decide (x ∈ y :: ys)
    by_cases h : y = x
    · subst h
      simp
    · have h' : ¬ x = y := fun e => h e.symm
      simp [h, h']
theorem flat_ints : ∀ ms : List Int, (ms.map V.int).all flatV = true
  | [] => rfl
  | x :: ms => by rw [List.map_cons, List.all_cons, flat_ints ms] <;> rfl
/-! rules within a comprehension: the fragment named from outside -/
section
variable {X : Cx} {K : PySem.W.Frag}
theorem ix_seqK (h : X.K = K) : IxR X (rIx K) := h ▸ ix_seq
theorem ix_listK (h : X.K = K) : IxR X (rIxL K) := h ▸ ix_list
theorem ix_tupK (h : X.K = K) : IxR X (rIxT K) := h ▸ ix_tup
theorem call_len_seqK (h : X.K = K) : CallR X (.builtin "len") (fun xs H Q => ∃ p ys, xs = [.ref p] ∧ (SqL K H p ys ∨ SqT K H p ys) ∧ Q (.int ys.length) H) := h ▸ call_len_seq
theorem op_in_seqK (h : X.K = K) : OpR X (compareOp .In) (rIn K false) := h ▸ op_in_seq
theorem op_notIn_seqK (h : X.K = K) : OpR X (compareOp .NotIn) (rIn K true) := h ▸ op_notIn_seq
theorem op_neDK (h : X.K = K) (hu : X.A.units + 64 < cLine) : OpR X (compareOp .NotEq) (rNeD K) := h ▸ op_neD hu
theorem op_eqDK (h : X.K = K) (hu : X.A.units + 64 < cLine) : OpR X (compareOp .Eq) (rEqD K) := h ▸ op_eqD hu
end
section
variable {X : Cx} {tg : Expr}
/-- over a list or a tuple -/
def iSeq (K : PySem.W.Frag) (tl : TE) : TI := fun σ H R => tl σ H fun x H1 => ∃ a, x = .ref a ∧ (((∃ xs, SqL K H1 a xs) ∧ R (Itl K a) H1) ∨ ((∃ xs, SqT K H1 a xs) ∧ R (Itt K a) H1))
theorem pi_seq {l : Expr} {tl : TE} (hl : PE X l tl) : PI X tg l (iSeq X.K tl) := by
  refine ⟨fun pins s σ H R I h => ?_⟩
  refine thn (hl.run pins s σ H _ I h) fun v s1 ⟨x, H1, I1, r1, q1⟩ => ?_
  have none' : ∀ b ∈ [s1.heap.objs.size], FpOk X pins H1 b := fun b hb => by
    have e : b = s1.heap.objs.size := by simpa using hb
    rw [e]
    exact I1.fpOk (Nat.le_refl _) (I1.hok.fresh (Nat.le_refl _))
  obtain ⟨a, rfl, ⟨⟨xs, hq⟩, q⟩ | ⟨⟨xs, hq⟩, q⟩⟩ := q1
  · obtain ⟨its, _, p, _⟩ := I1.list hq
    obtain rfl : v = Value.ref a := r1
    exact wpAny_pyIter_list p.isList ⟨_, _, _, _, H1, rfl, I1.kept (t' := s1.toks) fun b o e => Heap.get?_push_of_some _ e, turn_list a _, ⟨_, Heap.get?_push_size _ rfl, rfl, rfl⟩, none', q⟩
  · obtain ⟨its, _, p, _⟩ := I1.tuple hq
    obtain rfl : v = Value.ref a := r1
    exact wpAny_pyIter_tuple (show s1.heap.IsTuple a its.toArray from p) ⟨_, _, _, _, H1, rfl, I1.kept (t' := s1.toks) fun b o e => Heap.get?_push_of_some _ e, turn_tuple a _, ⟨_, Heap.get?_push_size _ rfl, rfl, rfl⟩, none', q⟩
end
end My

set_option Elab.async false
set_option maxRecDepth 100000
set_option maxHeartbeats 4000000
set_option linter.all false
namespace My
open PySem L2
open C8 (pss_cut)
def top (i : Nat) : Stmt := PySem.Challenge.pw_inputways_k35_what_follows_by_units.main.body.getD i (.Pass ⟨0, 0, 0, 0⟩)
abbrev s_follows : Stmt := top 8
abbrev N_follows : List Str := ["clauses", "clause", "units"]
theorem sc_follows : FnScope N_follows ["clauses", "clause"] (defScope s_follows) := ⟨rfl, rfl, rfl, by decide +kernel, rfl, by decide +kernel, by decide +kernel⟩
abbrev s_loaded : Stmt := top 9
abbrev N_loaded : List Str := ["clauses", "rows", "units", "clause"]
theorem sc_loaded : FnScope N_loaded ["clauses", "rows"] (defScope s_loaded) := ⟨rfl, rfl, rfl, by decide +kernel, rfl, by decide +kernel, by decide +kernel⟩
abbrev s_numbered : Stmt := top 10
abbrev N_numbered : List Str := ["units", "clause", "x"]
theorem sc_numbered : FnScope N_numbered ["units", "clause"] (defScope s_numbered) := ⟨rfl, rfl, rfl, by decide +kernel, rfl, by decide +kernel, by decide +kernel⟩
abbrev s_settle : Stmt := top 11
abbrev N_settle : List Str := ["units"]
theorem sc_settle : FnScope N_settle ["units"] (defScope s_settle) := ⟨rfl, rfl, rfl, by decide +kernel, rfl, by decide +kernel, by decide +kernel⟩
abbrev s_is_forced : Stmt := top 12
abbrev N_is_forced : List Str := ["units", "items", "known", "forced", "x"]
theorem sc_is_forced : FnScope N_is_forced ["units", "items"] (defScope s_is_forced) := ⟨rfl, rfl, rfl, by decide +kernel, rfl, by decide +kernel, by decide +kernel⟩
abbrev s_variables_of : Stmt := top 4
abbrev N_variables_of : List Str := ["clauses", "clause", "x"]
theorem sc_variables_of : FnScope N_variables_of ["clauses"] (defScope s_variables_of) := ⟨rfl, rfl, rfl, by decide +kernel, rfl, by decide +kernel, by decide +kernel⟩
abbrev s_Row___init__ : Stmt := inClass (top 5) 0
abbrev N_Row___init__ : List Str := ["self", "parts"]
theorem sc_Row___init__ : FnScope N_Row___init__ ["self", "parts"] (defScope s_Row___init__) := ⟨rfl, rfl, rfl, by decide +kernel, rfl, by decide +kernel, by decide +kernel⟩
abbrev s_Units___init__ : Stmt := inClass (top 6) 0
abbrev N_Units___init__ : List Str := ["self", "variables", "k", "v", "_"]
theorem sc_Units___init__ : FnScope N_Units___init__ ["self", "variables"] (defScope s_Units___init__) := ⟨rfl, rfl, rfl, by decide +kernel, rfl, by decide +kernel, by decide +kernel⟩
abbrev s_Units_enter : Stmt := inClass (top 6) 1
abbrev N_Units_enter : List Str := ["self", "clause", "parts", "x", "known"]
theorem sc_Units_enter : FnScope N_Units_enter ["self", "clause"] (defScope s_Units_enter) := ⟨rfl, rfl, rfl, by decide +kernel, rfl, by decide +kernel, by decide +kernel⟩
abbrev s_Units_attach : Stmt := inClass (top 6) 2
abbrev N_Units_attach : List Str := ["self", "row", "x", "y"]
theorem sc_Units_attach : FnScope N_Units_attach ["self", "row"] (defScope s_Units_attach) := ⟨rfl, rfl, rfl, by decide +kernel, rfl, by decide +kernel, by decide +kernel⟩
abbrev s_Units_give : Stmt := inClass (top 6) 3
abbrev N_Units_give : List Str := ["self", "x", "cause"]
theorem sc_Units_give : FnScope N_Units_give ["self", "x", "cause"] (defScope s_Units_give) := ⟨rfl, rfl, rfl, by decide +kernel, rfl, by decide +kernel, by decide +kernel⟩
abbrev s_Units_spread : Stmt := inClass (top 6) 4
abbrev N_Units_spread : List Str := ["self", "x", "found"]
theorem sc_Units_spread : FnScope N_Units_spread ["self"] (defScope s_Units_spread) := ⟨rfl, rfl, rfl, by decide +kernel, rfl, by decide +kernel, by decide +kernel⟩
abbrev s_Units_spread_pairs : Stmt := inClass (top 6) 5
abbrev N_Units_spread_pairs : List Str := ["self", "x", "state", "other", "row"]
theorem sc_Units_spread_pairs : FnScope N_Units_spread_pairs ["self", "x"] (defScope s_Units_spread_pairs) := ⟨rfl, rfl, rfl, by decide +kernel, rfl, by decide +kernel, by decide +kernel⟩
abbrev s_Units_spread_rows : Stmt := inClass (top 6) 6
abbrev N_Units_spread_rows : List Str := ["self", "x", "state", "rows", "kept", "found", "row", "other", "y"]
theorem sc_Units_spread_rows : FnScope N_Units_spread_rows ["self", "x"] (defScope s_Units_spread_rows) := ⟨rfl, rfl, rfl, by decide +kernel, rfl, by decide +kernel, by decide +kernel⟩
abbrev s_Units_take_back : Stmt := inClass (top 6) 7
abbrev N_Units_take_back : List Str := ["self", "count", "x"]
theorem sc_Units_take_back : FnScope N_Units_take_back ["self", "count"] (defScope s_Units_take_back) := ⟨rfl, rfl, rfl, by decide +kernel, rfl, by decide +kernel, by decide +kernel⟩
abbrev s__law_draw : Stmt := top 14
abbrev N__law_draw : List Str := ["script", "seed", "cell"]
theorem sc__law_draw : FnScope N__law_draw ["script"] (defScope s__law_draw) := ⟨rfl, rfl, rfl, by decide +kernel, rfl, by decide +kernel, by decide +kernel⟩
abbrev s__law_take : Stmt := top 15
abbrev N__law_take : List Str := ["draw", "many", "found"]
theorem sc__law_take : FnScope N__law_take ["draw", "many"] (defScope s__law_take) := ⟨rfl, rfl, rfl, by decide +kernel, rfl, by decide +kernel, by decide +kernel⟩
abbrev s__law_clause : Stmt := top 16
abbrev N__law_clause : List Str := ["draw", "names", "most", "row", "k", "x", "pair"]
theorem sc__law_clause : FnScope N__law_clause ["draw", "names", "most"] (defScope s__law_clause) := ⟨rfl, rfl, rfl, by decide +kernel, rfl, by decide +kernel, by decide +kernel⟩
abbrev s__law_clauses : Stmt := top 17
abbrev N__law_clauses : List Str := ["draw", "names", "many", "most", "rows", "k", "row"]
theorem sc__law_clauses : FnScope N__law_clauses ["draw", "names", "many", "most"] (defScope s__law_clauses) := ⟨rfl, rfl, rfl, by decide +kernel, rfl, by decide +kernel, by decide +kernel⟩
abbrev s__law_follows : Stmt := top 18
abbrev N__law_follows : List Str := ["clauses", "row", "given", "x", "changed", "clause", "rest"]
theorem sc__law_follows : FnScope N__law_follows ["clauses", "row"] (defScope s__law_follows) := ⟨rfl, rfl, rfl, by decide +kernel, rfl, by decide +kernel, by decide +kernel⟩
abbrev s__law_less : Stmt := top 21
abbrev N__law_less : List Str := ["clauses", "literal", "found", "row", "rest", "x"]
theorem sc__law_less : FnScope N__law_less ["clauses", "literal"] (defScope s__law_less) := ⟨rfl, rfl, rfl, by decide +kernel, rfl, by decide +kernel, by decide +kernel⟩
abbrev s__law_can : Stmt := top 22
abbrev N__law_can : List Str := ["clauses", "one", "x", "literal", "rest", "row"]
theorem sc__law_can : FnScope N__law_can ["clauses"] (defScope s__law_can) := ⟨rfl, rfl, rfl, by decide +kernel, rfl, by decide +kernel, by decide +kernel⟩
abbrev s_law : Stmt := top 23
abbrev N_law : List Str := ["script", "draw", "names", "clauses", "turn", "row", "due", "x"]
theorem sc_law : FnScope N_law ["script"] (defScope s_law) := ⟨rfl, rfl, rfl, by decide +kernel, rfl, by decide +kernel, by decide +kernel⟩
/-- what the top binds: built-ins that are not shadowed -/
structure Txt (K : PySem.W.Frag) (mg : Str → Option Value) : Prop where
  m_abs : mg "abs" = none
  m_bool : mg "bool" = none
  m_enumerate : mg "enumerate" = none
  m_int : mg "int" = none
  m_isinstance : mg "isinstance" = none
  m_len : mg "len" = none
  m_list : mg "list" = none
  m_range : mg "range" = none
  m_reversed : mg "reversed" = none
  m_sorted : mg "sorted" = none
  m_tuple : mg "tuple" = none
section
variable {P : Program} {w : World} {K : PySem.W.Frag} {mg : Str → Option Value} {base : Heap} {f : Addr} {fd : FuncData}
theorem ok__law_take (T : Txt K mg) (D : Def K mg "_law_take" ["draw", "many"] s__law_take f fd) : Own P w K mg base "_law_take" ["draw", "many"] 1 spTake := by
  refine ⟨f, fd, D.mg, D.fn.kp, D.bd, D.fn.ok sc__law_take (fun vs H Q E h => ?_) (fun cdv A outer s H vs Q E hr h => ?_)⟩
  · obtain ⟨d, L, m, rfl, _⟩ := h
    rfl
  · obtain ⟨d, L, m, rfl, hm0, hm1, hD, q⟩ := h
    obtain ⟨ns, at_, left, seed, h1, h2, hdL, hpos, ha, hl, hs, hs2⟩ := hD
    refine ⟨_, (pss_cut (ps_if (pt_cmpR op_eq (pe_ix ix_list (pv 0) pe_int (fun _ _ => rfl)) pe_int (nomark _)) (pss_cons (ps_asg (pe_op op_add (pe_ix ix_list (pv 0) pe_int (fun _ _ => rfl)) pe_int) (pg_sub (pv 0) pe_int set_list))
      (pss_cut (ps_if (pt_cmpR op_lt (pe_ix ix_list (pv 0) pe_int (fun _ _ => rfl)) (pe_callB call_len_seq (by rfl) T.m_len (by decide +kernel) (pa_cons (pe_ix ix_list (pv 0) pe_int (fun _ _ => rfl)) pa_nil)) (nomark _)) (pss_one (ps_asg (pe_ix ix_list (pe_ix ix_list (pv 0) pe_int (fun _ _ => rfl)) (pe_ix ix_list (pv 0) pe_int (fun _ _ => rfl)) (fun _ _ => rfl)) (pg_sub (pv 0) pe_int set_list))) pss_nil)
      (pss_one (ps_if (pt_cmpR op_eq (pe_ix ix_list (pv 0) pe_int (fun _ _ => rfl)) pe_int (nomark _)) (pss_cons (ps_asg (pe_op op_mod (pe_callTy call_int1 (by rfl) T.m_int (by decide +kernel) (pa_cons (pe_op op_add (pe_op op_mul (pe_ix ix_list (pv 0) pe_int (fun _ _ => rfl)) pe_int) pe_int) pa_nil)) pe_int) (pg_sub (pv 0) pe_int set_list))
      (pss_one (ps_asg (pe_ix ix_list (pv 0) pe_int (fun _ _ => rfl)) (pg_sub (pv 0) pe_int set_list)))) pss_nil)))) pss_nil)
      (pss_cons (ps_set (i := 2) sc__law_take.nd rfl (Or.inl rfl) (pe_op op_mod (pe_callTy call_int1 (by rfl) T.m_int (by decide +kernel) (pa_cons (pe_ix ix_list (pv 0) pe_int (fun _ _ => rfl)) pa_nil)) (pv 1)))
      (pss_cons (ps_asg (pe_op op_fdiv (pe_ix ix_list (pv 0) pe_int (fun _ _ => rfl)) (pv 1)) (pg_sub (pv 0) pe_int set_list))
      (pss_one (ps_ret (pv 2)))))), ?_⟩
    refine ⟨fun σ' H' => σ' = [some (.ref d), some (.int m), none] ∧ DrawAt H' d L ∧ Same (hide d H) (hide d H'), ?_, ?_⟩
    · refine ⟨_, rfl, d, _, _, _, rfl, rfl, SqL.of h1, rfl, rfl, _, rfl, ite2 (fun c => ?_) (fun c => ?_)⟩
      · refine ⟨_, rfl, d, _, _, _, rfl, rfl, SqL.of h1, rfl, _, _, rfl, rfl, _, rfl, d, _, _, _, rfl, rfl, h1, rfl, ?_⟩
        refine ⟨fun σ' H' => σ' = [some (.ref d), some (.int m), none] ∧ (∃ l2, 0 ≤ l2 ∧ H' d = some (.lst [.ref L, .int (at_ + 1), .int l2, .int seed])) ∧ H' L = some (.lst (ns.map V.int)) ∧ Same (hide d H) (hide d H'), ?_, ?_⟩
        · have g1 : (upd H d (.lst ([.ref L, .int at_, .int left, .int seed].set 1 (.int (at_ + 1))))) L = some (.lst (ns.map V.int)) := by rw [upd_ne hdL.symm]; exact h2
          refine ⟨_, rfl, d, _, _, _, rfl, rfl, SqL.of upd_same, rfl, _, rfl, d, _, _, _, rfl, rfl, SqL.of upd_same, rfl, L, _, rfl, .inl (SqL.of g1), _, _, rfl, rfl, _, rfl, ite2 (fun e => ?_) (fun e => ?_)⟩
          · have e' : at_ + 1 < ((ns.map V.int).length : Int) := of_decide_eq_true e
            rw [List.length_map] at e'
            obtain ⟨z, hz, ez⟩ := atI_get (ns := ns) (k := at_ + 1) (by omega) e'
            refine ⟨_, rfl, d, _, _, _, rfl, rfl, SqL.of upd_same, rfl, _, rfl, d, _, _, _, rfl, rfl, SqL.of upd_same, rfl, L, _, _, _, rfl, rfl, SqL.of g1, ez, _, rfl, d, _, _, _, rfl, rfl, upd_same, rfl, ?_⟩
            exact ⟨rfl, ⟨z, hpos z hz, upd_same⟩, by rw [upd_ne hdL.symm]; exact g1, (hide_put _).trans (hide_put _)⟩
          · exact ⟨rfl, ⟨left, hl, upd_same⟩, g1, hide_put _⟩
        · rintro σ' H' ⟨rfl, ⟨l2, hl2, k1⟩, k2, kb⟩
          refine ⟨_, rfl, d, _, _, _, rfl, rfl, SqL.of k1, rfl, rfl, _, rfl, ite2 (fun e => ?_) (fun e => ?_)⟩
          · refine ⟨_, rfl, d, _, _, _, rfl, rfl, SqL.of k1, rfl, _, _, rfl, rfl, .inl ⟨by omega, by omega⟩, _, _, rfl, rfl, .inl ⟨_, rfl, _, _, rfl, rfl, (by show (0 : Int) < 2147483647; decide), _, rfl, d, _, _, _, rfl, rfl, k1, rfl, ?_⟩⟩
            refine ⟨_, rfl, d, _, _, _, rfl, rfl, SqL.of upd_same, rfl, _, rfl, d, _, _, _, rfl, rfl, upd_same, rfl, ?_⟩
            have p0 : 0 ≤ (seed * 48271 + 11) % 2147483647 := Int.emod_nonneg _ (by decide)
            have p1 : (seed * 48271 + 11) % 2147483647 < 2147483647 := Int.emod_lt_of_pos _ (by decide)
            exact ⟨rfl, ⟨ns, at_ + 1, _, _, upd_same, by rw [upd_ne hdL.symm, upd_ne hdL.symm]; exact k2, hdL, hpos, by omega, p0, p0, p1⟩, (kb.trans (hide_put _)).trans (hide_put _)⟩
          · exact ⟨rfl, ⟨ns, at_ + 1, l2, seed, k1, k2, hdL, hpos, by omega, hl2, hs, hs2⟩, kb⟩
      · exact ⟨rfl, ⟨ns, at_, left, seed, h1, h2, hdL, hpos, ha, hl, hs, hs2⟩, Same.refl _⟩
    · rintro σ' H' ⟨rfl, ⟨ns, at_, left, seed, h1, h2, hdL, hpos, ha, hl, hs, hs2⟩, kb⟩
      refine ⟨_, rfl, d, _, _, _, rfl, rfl, SqL.of h1, rfl, .inl ⟨_, rfl, _, rfl, _, _, rfl, rfl, hm0, ?_⟩⟩
      refine ⟨_, rfl, d, _, _, _, rfl, rfl, SqL.of h1, rfl, _, rfl, _, _, rfl, rfl, ⟨hm0, hm1⟩, _, rfl, d, _, _, _, rfl, rfl, h1, rfl, ?_⟩
      refine ⟨_, rfl, ?_⟩
      exact q _ _ (Int.emod_nonneg _ (by omega)) (Int.emod_lt_of_pos _ hm0) ⟨ns, at_, _, seed, upd_same, by rw [upd_ne hdL.symm]; exact h2, hdL, hpos, ha, Int.ediv_nonneg hl (by omega), hs, hs2⟩ (kb.trans (hide_put _))
theorem ok__law_draw (T : Txt K mg) (D : Def K mg "_law_draw" ["script"] s__law_draw f fd) : Own P w K mg base "_law_draw" ["script"] 1 (spDraw K) := by
  refine ⟨f, fd, D.mg, D.fn.kp, D.bd, D.fn.ok sc__law_draw (fun vs H Q E h => ?_) (fun cdv A outer s H vs Q E hr h => ?_)⟩
  · obtain ⟨a, ns, rfl, _⟩ := h
    rfl
  · obtain ⟨a, ns, rfl, hS, h63, q⟩ := h
    refine ⟨_, (pss_cons (ps_set (i := 1) sc__law_draw.nd rfl (Or.inl rfl) pe_int)
      (pss_cons (ps_for PassesOwn.never rfl (pi_list (pv 0)) (pg_name (i := 2) sc__law_draw.nd rfl (Or.inl rfl)) (pss_one (ps_set (i := 1) sc__law_draw.nd rfl (Or.inl rfl) (pe_op op_mod (pe_callTy call_int1 (by rfl) T.m_int (by decide +kernel) (pa_cons (pe_op op_add (pe_op op_add (pe_op op_mul (pv 1) pe_int) (pe_op op_mod (pe_callB call_abs (by rfl) T.m_abs (by decide +kernel) (pa_cons (pe_callTy call_int1 (by rfl) T.m_int (by decide +kernel) (pa_cons (pv 2) pa_nil)) pa_nil)) pe_int)) pe_int) pa_nil)) pe_int))))
      (pss_one (ps_ret (pe_lst (pa_cons (pe_lc (own := [("cell", 2)]) (g := gName 2) (tt := tYes) rfl sc__law_draw.nd (pi_list (pv 0)) (blkOk_by (N := N__law_draw) (sc := defScope s__law_draw) (own := [("cell", 2)]) (by decide +kernel)) (fun _ _ _ _ _ => (pg_name (i := 2) sc__law_draw.nd rfl (Or.inl rfl))) (fun _ _ _ _ _ => pts_nil) (fun _ _ _ _ _ => (pe_callB call_abs (by rfl) T.m_abs (by decide +kernel) (pa_cons (pe_callTy call_int1 (by rfl) T.m_int (by decide +kernel) (pa_cons (pv 2) pa_nil)) pa_nil)))) (pa_cons (pe_un un_neg pe_int) (pa_cons pe_int (pa_cons (pv 1) pa_nil))))))))), ?_⟩
    refine ⟨_, rfl, a, rfl, ⟨_, hS⟩, for_list (K := K) (a := a) (xs := ns.map V.int) (fun i σ H' => ∃ (sd : Int) (v : Option V), σ = [some (.ref a), some (.int sd), v] ∧ Same H H' ∧ 0 ≤ sd ∧ sd < 2147483647)
      ⟨7, none, rfl, Same.refl H, by decide, by decide⟩ (fun i σ H' _ ⟨_, _, _, e, _⟩ => e.seq hS) ?_ ?_⟩
    · rintro i y σ H' hi ⟨sd, v, rfl, e, s0, s1⟩
      obtain ⟨z, rfl, _⟩ := map_at hi
      refine ⟨_, rfl, _, _, rfl, rfl, .inl ⟨by omega, by omega⟩, _, rfl, .inl ⟨_, rfl, _, rfl, _, _, rfl, rfl, (by show (0 : Int) < 65521; decide), _, _, rfl, rfl, _, _, rfl, rfl, .inl ⟨_, rfl, _, _, rfl, rfl, (by show (0 : Int) < 2147483647; decide), ?_⟩⟩⟩
      exact ⟨_, _, rfl, e, Int.emod_nonneg _ (by decide), Int.emod_lt_of_pos _ (by decide)⟩
    · rintro σ H' ⟨sd, v, rfl, e, s0, s1⟩
      refine ⟨_, rfl, a, rfl, ⟨_, e.seq hS⟩, fun D hD => lc_list (K := K) (a := a) (xs := ns.map V.int) (fun i H2 => ∃ ms : List Int, H2 D = some (.lst (ms.map V.int)) ∧ ms.length = i ∧ (∀ z, z ∈ ms → 0 ≤ z) ∧ (∀ b o, H' b = some o → H2 b = some o) ∧ i ≤ ns.length)
        ⟨[], upd_same, rfl, (fun z hz => by cases hz), same_new hD _, Nat.zero_le _⟩ (fun i H2 _ ⟨_, _, _, _, s, _⟩ => Same.seq s (e.seq hS)) ?_ ?_⟩
      · rintro i y H2 hi ⟨ms, hm, hml, hm0, s, _⟩
        obtain ⟨z, rfl, hz⟩ := map_at hi
        have hi' : i < ns.length := (List.getElem?_eq_some_iff.mp hz).1
        refine ⟨rfl, yes2 ?_⟩
        refine ⟨_, rfl, .inl ⟨_, rfl, _, rfl, _, hm, by rw [List.length_map]; exact small1000 (by omega), ms ++ [if z < 0 then -z else z], ?_, by rw [List.length_append, hml]; rfl, ?_, ?_, hi'⟩⟩
        · rw [upd_same, List.map_append]
          all_goals rfl
        · intro u hu
          rcases List.mem_append.mp hu with hu | hu
          · exact hm0 u hu
          · rw [List.mem_singleton] at hu
            rw [hu]
            split <;> omega
        · intro b o hb
          rw [upd_ne (ne_of_none hb hD)]
          exact s b o hb
      · rintro H2 ⟨ms, hm, hml, hm0, s, _⟩
        refine ⟨_, rfl, _, rfl, by show 4 ≤ sizeLine; decide, fun l hl => ?_⟩
        have nDl : D ≠ l := ne_of_none hm hl
        refine q l D _ (Same.free (e.trans s) hl) (Same.free e hD) ((e.trans s).trans (same_new hl _)) ⟨ms, -1, 0, sd, upd_same, by rw [upd_ne nDl]; exact hm, nDl.symm, hm0, by omega, by omega, s0, s1⟩
end
end My

set_option Elab.async false
set_option maxRecDepth 100000
set_option maxHeartbeats 4000000
set_option linter.all false
namespace My
open PySem L2
open C8 (pss_cut)
open PySem.W (alike dataLt keyToks AllAlike Sortable)
def ab (z : Int) : Int := if z < 0 then -z else z
theorem ab_neg (z : Int) : ab (-z) = ab z := by
  unfold ab
  split <;> split <;> omega
theorem ab_eq {x y : Int} (h : ab x = ab y) : x = y ∨ x = -y := by
  unfold ab at h
  split at h <;> split at h <;> omega
def clD (c : List Int) : PyData := .tuple (c.map PyData.int)
def prD2 (x : Int) : PyData := .tuple [.int (ab x), .int x]
theorem pr_alike (x y : Int) : alike (prD2 x) (prD2 y) = true := by simp [prD2, alike, PySem.W.alikeAll]
theorem pr_lt {x y : Int} (h : ab x < ab y) : dataLt (prD2 x) (prD2 y) = true := by
  unfold prD2
  have e : PyData.eqv (.int (ab x)) (.int (ab y)) = false := by
    simp only [PyData.eqv]
    exact beq_eq_false_iff_ne.mpr (by omega)
  rw [PySem.W.dataLt_tuple, PySem.W.dataLt_all_no (by simp [alike]) e, PySem.W.dataLt_int]
  exact decide_eq_true h
def snd2 : PyData → Int
  | .tuple [_, .int x] => x
  | _ => 0
theorem snd_pr (x : Int) : snd2 (prD2 x) = x := rfl
/-- a clause of these variables -/
structure okCl (ns : List Int) (c : List Int) : Prop where
  mem : ∀ x ∈ c, x ∈ ns ∨ -x ∈ ns
  asc : c.Pairwise fun x y => ab x < ab y
  len : c.length ≤ 10
def spClause (K : PySem.W.Frag) : Sp := fun vs H Q _ => ∃ (d L n : Addr) (ns : List Int) (m : Int), vs = [.ref d, .ref n, .int m] ∧ DrawAt H d L ∧ SqL K (hide d H) n (ns.map V.int) ∧ ns ≠ [] ∧ ns.length ≤ 10 ∧ (∀ x ∈ ns, 0 < x) ∧ 0 ≤ m ∧ m ≤ 9 ∧
  ∀ p c H', DrawAt H' d L → Same (hide d H) (hide d H') → Dp K (hide d H') (.ref p) (clD c) → okCl ns c → Q (.ref p) H'
section
variable {P : Program} {w : World} {K : PySem.W.Frag} {mg : Str → Option Value} {base : Heap} {f : Addr} {fd : FuncData}
theorem ok__law_clause (T : Txt K mg) (D : Def K mg "_law_clause" ["draw", "names", "most"] s__law_clause f fd) (O1 : Own P w K mg base "_law_take" ["draw", "many"] 1 spTake) : Own P w K mg base "_law_clause" ["draw", "names", "most"] 2 (spClause K) := by
  obtain ⟨f_law_take, fd_law_take, m_law_take, k_law_take, b_law_take, G_law_take⟩ := O1
  refine ⟨f, fd, D.mg, D.fn.kp, D.bd, D.fn.ok sc__law_clause (fun vs H Q E h => ?_) (fun cdv A outer s H vs Q E hr h => ?_)⟩
  · obtain ⟨d, L, n, ns, m, rfl, _⟩ := h
    rfl
  · obtain ⟨d, L, n, ns, m, rfl, hD, hN, hne, hlen, hpos, m0, m1, q⟩ := h
    have hnl : 0 < ns.length := List.length_pos_iff.mpr hne
    refine ⟨_, (pss_cons (ps_set (i := 3) sc__law_clause.nd rfl (Or.inl rfl) (pe_lst pa_nil))
      (pss_cons (ps_for PassesOwn.never rfl (pi_range1 (by rfl) T.m_range (pa_cons (pe_call G_law_take (hr.mono (by omega)) rfl m_law_take k_law_take b_law_take .nil pass0 (pa_cons (pv 0) (pa_cons (pe_op op_add (pv 2) pe_int) pa_nil))) pa_nil)) (pg_name (i := 4) sc__law_clause.nd rfl (Or.inl rfl)) (pss_cons (ps_set (i := 5) sc__law_clause.nd rfl (Or.inl rfl) (pe_op op_mul (pe_ix ix_list (pv 1) (pe_call G_law_take (hr.mono (by omega)) rfl m_law_take k_law_take b_law_take .nil pass0 (pa_cons (pv 0) (pa_cons (pe_callB call_len_seq (by rfl) T.m_len (by decide +kernel) (pa_cons (pv 1) pa_nil)) pa_nil))) (fun _ _ => rfl)) (pe_ix ix_list (pe_lst (pa_cons pe_int (pa_cons (pe_un un_neg pe_int) pa_nil))) (pe_call G_law_take (hr.mono (by omega)) rfl m_law_take k_law_take b_law_take .nil pass0 (pa_cons (pv 0) (pa_cons pe_int pa_nil))) (fun _ _ => rfl))))
      (pss_one (ps_if (PW.pt (pw_and (pt_cmpR op_notIn_seq (pv 5) (pv 3) (by rfl)) (pw_and1 (pt_cmpR op_notIn_seq (pe_un un_neg (pv 5)) (pv 3) (by rfl))))) (pss_one (ps_expr (pe_bm PySem.F.plainAttrs_list PySem.F.slot_list_append PySem.F.type_list_append mt_append (pv 3) (pa_cons (pv 5) pa_nil)))) pss_nil))))
      (pss_one (ps_ret (pe_callTy call_tuple_of (by rfl) T.m_tuple (by decide +kernel) (pa_cons (pe_lc (own := [("pair", 6)]) (g := gName 6) (tt := tYes) rfl sc__law_clause.nd (pi_list (pe_callB (cr_sortedD hr.units) (by rfl) T.m_sorted (by decide +kernel) (pa_cons (pe_lc (own := [("x", 5)]) (g := gName 5) (tt := tYes) rfl sc__law_clause.nd (pi_list (pv 3)) (blkOk_by (N := N__law_clause) (sc := defScope s__law_clause) (own := [("x", 5)]) (by decide +kernel)) (fun _ _ _ _ _ => (pg_name (i := 5) sc__law_clause.nd rfl (Or.inl rfl))) (fun _ _ _ _ _ => pts_nil) (fun _ _ _ _ _ => (pe_tup (pa_cons (pe_callB call_abs (by rfl) T.m_abs (by decide +kernel) (pa_cons (pv 5) pa_nil)) (pa_cons (pv 5) pa_nil))))) pa_nil))) (blkOk_by (N := N__law_clause) (sc := defScope s__law_clause) (own := [("pair", 6)]) (by decide +kernel)) (fun _ _ _ _ _ => (pg_name (i := 6) sc__law_clause.nd rfl (Or.inl rfl))) (fun _ _ _ _ _ => pts_nil) (fun _ _ _ _ _ => (pe_ix (ix_seqK (K := K) rfl) (pv 6) pe_int (fun _ _ => rfl)))) pa_nil)))))), ?_⟩
    refine ⟨by show 0 ≤ sizeLine; decide, fun R hR => ?_⟩
    have hdR : d ≠ R := hD.ne hR
    refine ⟨_, rfl, _, rfl, _, _, rfl, rfl, d, L, m + 1, rfl, by omega, by omega, hD.new hR, fun v H1 v0 v1 hD1 s1 => ⟨v, rfl, by omega, by omega, for_range (fun i σ' H' => ∃ (ms : List Int) (o4 o5 : Option V), σ' = [some (.ref d), some (.ref n), some (.int m), some (.ref R), o4, o5, none] ∧ DrawAt H' d L ∧ Same (hide d H) (hide d H') ∧ H' R = some (.lst (ms.map V.int)) ∧ (∀ x ∈ ms, x ∈ ns ∨ -x ∈ ns) ∧ ms.Pairwise (fun x y => ab x ≠ ab y) ∧ ms.length ≤ i) ?_ ?_ ?_⟩⟩
    · exact ⟨[], none, none, rfl, hD1, (hide_new hR _).trans s1, hide_le _ _ (s1 _ _ (hD.in hR)), fun x hx => (by cases hx), List.Pairwise.nil, Nat.le_refl _⟩
    · rintro i σ' H' hi ⟨ms, o4, o5, rfl, hD', sm, hRm, hmem, hpw, hml⟩
      have hN' := sql_mono sm hN
      refine ⟨_, rfl, _, rfl, _, rfl, _, _, rfl, .inl (sql_mono hide_le hN'), d, L, _, rfl, by rw [List.length_map]; omega, by rw [List.length_map]; omega, hD', fun k1 H2 a0 a1 hD2 s2 => ?_⟩
      rw [List.length_map] at a1
      obtain ⟨z, hz, ez⟩ := atI_get (ns := ns) a0 a1
      have hN2 := sql_mono (sm.trans s2) hN
      refine ⟨n, _, _, _, rfl, rfl, sql_mono hide_le hN2, ez, ?_⟩
      refine ⟨_, rfl, by show 2 ≤ sizeLine; decide, fun p hp => ?_⟩
      refine ⟨_, rfl, d, L, 2, rfl, by decide, by decide, hD2.new hp, fun k2 H3 b0 b1 hD3 s3 => ?_⟩
      have hp3 : H3 p = some (.lst [.int 1, .int (-1)]) := hide_le _ _ (s3 _ _ (hD2.in hp))
      obtain ⟨u, hu, hu1⟩ : ∃ u : Int, atI [V.int 1, .int (-1)] k2 = some (.int u) ∧ (u = 1 ∨ u = -1) := by
        have h5 : k2 = 0 ∨ k2 = 1 := by omega
        rcases h5 with h | h <;> subst h
        · exact ⟨1, rfl, .inl rfl⟩
        · exact ⟨-1, rfl, .inr rfl⟩
      refine ⟨p, _, _, _, rfl, rfl, SqL.of hp3, hu, _, _, rfl, rfl, .inr (by rcases hu1 with e | e <;> (rw [e]; decide)), ?_⟩
      have sm3 : Same (hide d H) (hide d H3) := ((sm.trans s2).trans (hide_new hp _)).trans s3
      have hR3 : H3 R = some (.lst (ms.map V.int)) := hide_le _ _ (s3 _ _ (hide_new hp _ _ _ (s2 _ _ (hide_in hRm hdR.symm))))
      obtain ⟨y, hy⟩ : ∃ y, z * u = y := ⟨_, rfl⟩
      have hym : y ∈ ns ∨ -y ∈ ns := by
        rcases hu1 with e | e
        · left; rw [← hy, e, Int.mul_one]; exact hz
        · right; rw [← hy, e, Int.mul_neg, Int.mul_one, Int.neg_neg]; exact hz
      refine ⟨_, rfl, _, rfl, R, _, rfl, .inl (SqL.of hR3), rfl, flat_ints ms, _, rfl, ite2 (fun c1 => ?_) (fun c1 => ?_)⟩
      · have n1 : y ∉ ms := by
          have c1 : (!inV (.int (z * u)) (ms.map V.int)) = true := c1
          rw [inV_ints, hy] at c1
          simpa using c1
        refine ⟨_, rfl, _, rfl, _, rfl, R, _, rfl, .inl (SqL.of hR3), rfl, flat_ints ms, _, rfl, ite2 (fun c2 => ?_) (fun c2 => ?_)⟩
        · have n2 : -y ∉ ms := by
            have c2 : (!inV (.int (-(z * u))) (ms.map V.int)) = true := c2
            rw [inV_ints, hy] at c2
            simpa using c2
          have hy2 : ∀ x ∈ ms, ab x ≠ ab y := fun x hx e => by
            rcases ab_eq e with e | e
            · exact n1 (by rw [← e]; exact hx)
            · exact n2 (by rw [← e]; exact hx)
          refine ⟨_, rfl, .inl ⟨rfl, _, SqL.of hR3⟩, _, rfl, R, _, _, rfl, rfl, hR3, by rw [List.length_map]; exact small1000 (by omega), ?_⟩
          refine ⟨ms ++ [y], _, _, rfl, hD3.put _ hdR (hD.neL hR), fun b o hb => ?_, by rw [upd_same, List.map_append, ← hy] <;> rfl, fun x hx => ?_, List.pairwise_append.mpr ⟨hpw, List.pairwise_singleton _ _, fun x hx x' hx' => by rw [List.mem_singleton.mp hx']; exact hy2 x hx⟩, by rw [List.length_append]; show ms.length + 1 ≤ i + 1; omega⟩
          · have hbR : b ≠ R := ne_of_none (hide_le _ _ hb) hR
            obtain ⟨h3, h4⟩ := hide_some (sm3 _ _ hb)
            rw [hide_ne h3, upd_ne hbR]
            exact h4
          · rcases List.mem_append.mp hx with hx | hx
            · exact hmem x hx
            · rw [List.mem_singleton.mp hx]; exact hym
        · exact ⟨ms, _, _, rfl, hD3, sm3, hR3, hmem, hpw, Nat.le_succ_of_le hml⟩
      · exact ⟨ms, _, _, rfl, hD3, sm3, hR3, hmem, hpw, Nat.le_succ_of_le hml⟩
    · rintro σ' H' ⟨ms, o4, o5, rfl, hD', sm, hRm, hmem, hpw, hml⟩
      have hm20 : ms.length ≤ 10 := by omega
      refine ⟨_, rfl, R, rfl, ⟨_, SqL.of hRm⟩, fun PL hPL => lc_list (K := K) (a := R) (xs := ms.map V.int) (fun i H2 => ∃ ps : List (V × PyData), H2 PL = some (.lst (ps.map (·.1))) ∧ Twos K (hide PL H2) ps ∧ ps.map (·.2) = (ms.take i).map prD2 ∧ (∀ b o, H' b = some o → H2 b = some o) ∧ i ≤ ms.length)
        ⟨[], upd_same, fun p hp => (by cases hp), rfl, same_new hPL _, Nat.zero_le _⟩ (fun i H2 _ ⟨_, _, _, _, s, _⟩ => Same.seq s (SqL.of hRm)) ?_ ?_⟩
      · rintro i y H2 hi ⟨ps, hp, htw, hps, sm2, _⟩
        obtain ⟨z, rfl, hz⟩ := map_at hi
        have hi' : i < ms.length := (List.getElem?_eq_some_iff.mp hz).1
        refine ⟨rfl, yes2 ?_⟩
        refine ⟨_, rfl, _, rfl, _, rfl, by show 2 ≤ sizeLine; decide, fun t ht => ?_⟩
        have htP : t ≠ PL := fun e => by rw [e, hp] at ht; cases ht
        have hpl : ps.length ≤ 10 := by
          have := congrArg List.length hps
          rw [List.length_map, List.length_map, List.length_take] at this
          omega
        refine ⟨ps.map (·.1), by rw [upd_ne htP.symm]; exact hp, by rw [List.length_map]; exact small1000 (by omega), ps ++ [(.ref t, prD2 z)], by rw [upd_same, List.map_append] <;> rfl, ?_, ?_, ?_, hi'⟩
        · have e : Same (hide PL H2) (hide PL (upd (upd H2 t (.tup [.int (if z < 0 then -z else z), .int z])) PL (.lst (ps.map (·.1) ++ [.ref t])))) := fun b o hb => by
            obtain ⟨h1, h2⟩ := hide_some hb
            rw [hide_ne h1, upd_ne h1, upd_ne (ne_of_none h2 ht)]
            exact h2
          intro p hp'
          rcases List.mem_append.mp hp' with hp' | hp'
          · exact dp_mono e _ (htw p hp')
          · rw [List.mem_singleton.mp hp']
            exact .tup (SqT.of (by rw [hide_ne htP, upd_ne htP, upd_same] <;> rfl)) (.cons (.int _) (.cons (.int _) .nil))
        · rw [List.map_append, hps, take_next hz, List.map_append]
          all_goals rfl
        · intro b o hb
          have h2 := sm2 b o hb
          rw [upd_ne (ne_of_none hb hPL), upd_ne (ne_of_none h2 ht)]
          exact h2
      · rintro H2 ⟨ps, hp, htw, hps, sm2, _⟩
        rw [List.length_map, List.take_length] at hps
        have htw' : Twos K H2 ps := fun p m => dp_mono hide_le _ (htw p m)
        have isPr : ∀ p ∈ ps, ∃ x ∈ ms, p.2 = prD2 x := fun p m => by
          have : p.2 ∈ ms.map prD2 := by rw [← hps]; exact List.mem_map.mpr ⟨p, m, rfl⟩
          obtain ⟨x, hx, e⟩ := List.mem_map.mp this
          exact ⟨x, hx, e.symm⟩
        have al : AllAlike (ps.map (·.2)) := fun d1 h1 d2 h2 => by
          rw [hps] at h1 h2
          obtain ⟨x, _, rfl⟩ := List.mem_map.mp h1
          obtain ⟨y, _, rfl⟩ := List.mem_map.mp h2
          exact pr_alike x y
        refine ⟨PL, ps, rfl, SqL.of hp, htw', al, .inl fun d1 h1 => ?_, fun p m => ?_, fun qs S hqs hS => ?_⟩
        · rw [hps] at h1
          obtain ⟨x, _, rfl⟩ := List.mem_map.mp h1
          exact ⟨_, _, rfl⟩
        · obtain ⟨x, _, e⟩ := isPr p m
          rw [e]
          show PyData.depth (.tuple [.int (ab x), .int x]) ≤ 60
          simp [PyData.depth, PyData.depthAll]
        · have qPr : ∀ p ∈ qs, ∃ x ∈ ms, p.2 = prD2 x := fun p m => isPr p (hqs.perm.mem_iff.mp m)
          have qtw : Twos K (upd H2 S (.lst (qs.map (·.1)))) qs := fun p m => dp_mono (same_new hS _) _ (htw' p (hqs.perm.mem_iff.mp m))
          have hql : qs.length ≤ 10 := by
            have := congrArg List.length hps
            rw [List.length_map, List.length_map] at this
            rw [hqs.perm.length_eq]; omega
          refine ⟨S, rfl, ⟨_, SqL.of upd_same⟩, fun F hF => lc_list (K := K) (a := S) (xs := qs.map (·.1)) (fun i H3 => H3 F = some (.lst (((qs.take i).map fun p => snd2 p.2).map V.int)) ∧ (∀ b o, (upd H2 S (.lst (qs.map (·.1)))) b = some o → H3 b = some o) ∧ i ≤ qs.length)
            ⟨upd_same, same_new hF _, Nat.zero_le _⟩ (fun i H3 _ ⟨_, s, _⟩ => Same.seq s (SqL.of upd_same)) ?_ ?_⟩
          · rintro i y H3 hi ⟨hF3, sm3, _⟩
            rw [List.getElem?_map] at hi
            cases hq : qs[i]? with
            | none => rw [hq] at hi; cases hi
            | some p =>
              rw [hq] at hi
              obtain rfl := Option.some.inj hi
              have hi' : i < qs.length := (List.getElem?_eq_some_iff.mp hq).1
              have hm := List.mem_of_getElem? hq
              obtain ⟨x, hx, ex⟩ := qPr p hm
              have hd := dp_mono sm3 _ (qtw p hm)
              rw [ex] at hd
              obtain ⟨t, us, et, ht, hts⟩ := dp_tup hd
              cases hts with
              | cons h1 r1 =>
                cases r1 with
                | cons h2 r2 =>
                  cases r2
                  cases dp_int h1
                  cases dp_int h2
                  refine ⟨rfl, yes2 ?_⟩
                  refine ⟨_, rfl, .inr (.inl ⟨t, _, 1, .int x, et, rfl, ht, rfl, ?_⟩)⟩
                  refine ⟨_, hF3, by rw [List.length_map, List.length_map, List.length_take]; exact small1000 (by omega), by rw [upd_same, take_next hq, List.map_append, List.map_append, List.map_cons, List.map_cons, ex, snd_pr] <;> rfl, fun b o hb => ?_, hi'⟩
                  rw [upd_ne (ne_of_none hb hF)]
                  exact sm3 b o hb
          · rintro H3 ⟨hF3, sm3, _⟩
            rw [List.length_map, List.take_length] at hF3
            refine ⟨F, _, rfl, .inl ⟨SqL.of hF3, fun l hl => ?_⟩⟩
            have smA : ∀ b o, H' b = some o → H3 b = some o := fun b o hb => sm3 b o (same_new hS _ b o (sm2 b o hb))
            have smB : Same H' (upd H3 l (.tup ((qs.map fun p => snd2 p.2).map V.int))) := fun b o hb => same_new hl _ b o (smA b o hb)
            refine q l (qs.map fun p => snd2 p.2) _ (hD'.mono smB) (sm.trans (hide_same smB)) (.tup (SqT.of (hide_upd (hD'.mono smA).at.choose_spec hl)) (ints_all _)) ⟨fun x hx => ?_, ?_, by rw [List.length_map]; exact hql⟩
            · obtain ⟨p, hp', rfl⟩ := List.mem_map.mp hx
              obtain ⟨x, hx, ex⟩ := qPr p hp'
              rw [ex, snd_pr]
              exact hmem x hx
            · rw [List.pairwise_map]
              have hms : qs.Pairwise fun p r => ab (snd2 p.2) ≠ ab (snd2 r.2) := by
                have h1 : (ps.map fun p => snd2 p.2) = ms := by
                  have : (ps.map (·.2)).map snd2 = ms := by
                    rw [hps, List.map_map]
                    exact (List.map_congr_left fun x _ => rfl).trans (List.map_id _)
                  rw [List.map_map] at this
                  exact this
                have h2 : ps.Pairwise fun p r => ab (snd2 p.2) ≠ ab (snd2 r.2) := by
                  rw [← h1, List.pairwise_map] at hpw
                  exact hpw
                exact (hqs.perm.pairwise_iff (fun {x y} h e => h e.symm)).mpr h2
              refine (hqs.asc.and hms).imp_of_mem fun {p r} hp' hr' ⟨h1, h2⟩ => ?_
              obtain ⟨x, _, ex⟩ := qPr p hp'
              obtain ⟨y, _, ey⟩ := qPr r hr'
              rw [ex, ey] at h1
              rw [ex, ey, snd_pr, snd_pr] at h2 ⊢
              rcases Int.lt_trichotomy (ab x) (ab y) with c | c | c
              · exact c
              · exact absurd c h2
              · rw [pr_lt c] at h1
                cases h1
end
end My

set_option Elab.async false
set_option maxRecDepth 100000
set_option maxHeartbeats 4000000
set_option linter.all false
namespace My
open PySem L2
open C8 (pss_cut)
theorem cl_noLst (c : List Int) : noLst (clD c) = true := by
  show noLsts (c.map PyData.int) = true
  exact noLsts_map (fun _ => rfl) c
def csD (cs : List (List Int)) : PyData := .list (cs.map clD)
def spClauses (K : PySem.W.Frag) : Sp := fun vs H Q _ => ∃ (d L n : Addr) (ns : List Int) (many : Nat) (m : Int), vs = [.ref d, .ref n, .int many, .int m] ∧ DrawAt H d L ∧ SqL K (hide d H) n (ns.map V.int) ∧ ns ≠ [] ∧ ns.length ≤ 10 ∧ (∀ x ∈ ns, 0 < x) ∧ 0 ≤ m ∧ m ≤ 9 ∧ many ≤ 100 ∧
  ∀ (p : Addr) (cs : List (List Int)) (xs : List V) (H' : Hp), DrawAt H' d L → Same (hide d H) (hide d H') → hide d H p = none → H' p = some (.lst xs) → p ≠ d → DpAll K (hide p (hide d H')) xs (cs.map clD) → (∀ c ∈ cs, okCl ns c) → cs.length ≤ many → Q (.ref p) H'
section
variable {P : Program} {w : World} {K : PySem.W.Frag} {mg : Str → Option Value} {base : Heap} {f : Addr} {fd : FuncData}
theorem ok__law_clauses (T : Txt K mg) (D : Def K mg "_law_clauses" ["draw", "names", "many", "most"] s__law_clauses f fd) (O1 : Own P w K mg base "_law_take" ["draw", "many"] 1 spTake) (O2 : Own P w K mg base "_law_clause" ["draw", "names", "most"] 2 (spClause K)) : Own P w K mg base "_law_clauses" ["draw", "names", "many", "most"] 3 (spClauses K) := by
  obtain ⟨f_law_take, fd_law_take, m_law_take, k_law_take, b_law_take, G_law_take⟩ := O1
  obtain ⟨f_law_clause, fd_law_clause, m_law_clause, k_law_clause, b_law_clause, G_law_clause⟩ := O2
  refine ⟨f, fd, D.mg, D.fn.kp, D.bd, D.fn.ok sc__law_clauses (fun vs H Q E h => ?_) (fun cdv A outer s H vs Q E hr h => ?_)⟩
  · obtain ⟨d, L, n, ns, many, m, rfl, _⟩ := h
    rfl
  · obtain ⟨d, L, n, ns, many, m, rfl, hD, hN, hne, hlen, hpos, m0, m1, hmany, q⟩ := h
    refine ⟨_, (pss_cons (ps_set (i := 4) sc__law_clauses.nd rfl (Or.inl rfl) (pe_lst pa_nil))
      (pss_cons (ps_for PassesOwn.never rfl (pi_range1 (by rfl) T.m_range (pa_cons (pv 2) pa_nil)) (pg_name (i := 5) sc__law_clauses.nd rfl (Or.inl rfl)) (pss_cons (ps_set (i := 6) sc__law_clauses.nd rfl (Or.inl rfl) (pe_call G_law_clause (hr.mono (by omega)) rfl m_law_clause k_law_clause b_law_clause .nil pass0 (pa_cons (pv 0) (pa_cons (pv 1) (pa_cons (pv 3) pa_nil)))))
      (pss_one (ps_if (PW.pt (pw_or (pt_cmpR op_gt (pe_callB call_len_seq (by rfl) T.m_len (by decide +kernel) (pa_cons (pv 6) pa_nil)) pe_int (nomark _)) (pw_or1 (pt_cmpR op_eq (pe_call G_law_take (hr.mono (by omega)) rfl m_law_take k_law_take b_law_take .nil pass0 (pa_cons (pv 0) (pa_cons pe_int pa_nil))) pe_int (nomark _))))) (pss_one (ps_expr (pe_bm PySem.F.plainAttrs_list PySem.F.slot_list_append PySem.F.type_list_append mt_append (pv 4) (pa_cons (pv 6) pa_nil)))) pss_nil))))
      (pss_one (ps_ret (pv 4))))), ?_⟩
    refine ⟨by show 0 ≤ sizeLine; decide, fun R hR => ?_⟩
    refine ⟨_, rfl, many, rfl, by omega, by omega, for_range (fun i σ' H' => ∃ (cs : List (List Int)) (xs : List V) (o5 o6 : Option V), σ' = [some (.ref d), some (.ref n), some (.int many), some (.int m), some (.ref R), o5, o6] ∧ Grows K H H' d L R xs (cs.map clD) ∧ (∀ c ∈ cs, okCl ns c) ∧ cs.length ≤ i) ?_ ?_ ?_⟩
    · exact ⟨[], [], none, none, rfl, Grows.start hD hR, fun c hc => (by cases hc), Nat.le_refl _⟩
    · rintro i σ' H' hi ⟨cs, xs, o5, o6, rfl, G, hok, hml⟩
      refine ⟨_, rfl, _, rfl, _, rfl, d, L, n, ns, m, rfl, G.dr, sql_mono G.old hN, hne, hlen, hpos, m0, m1, fun p c H2 hD2 s2 hc hokc => ?_⟩
      have G2 := G.step hD2 s2
      have hc2 := dp_mono hide_le _ hc
      obtain ⟨t, us, et, ht, hts⟩ := dp_tup hc2
      have fin : ∀ H3, DrawAt H3 d L → Same (hide d H2) (hide d H3) → (∃ (cs : List (List Int)) (xs : List V) (o5 o6 : Option V), ([some (.ref d), some (.ref n), some (.int many), some (.int m), some (.ref R), some (.int (0 + (i : Int))), some (.ref p)] : L2.St) = [some (.ref d), some (.ref n), some (.int many), some (.int m), some (.ref R), o5, o6] ∧ Grows K H H3 d L R xs (cs.map clD) ∧ (∀ c ∈ cs, okCl ns c) ∧ cs.length ≤ i + 1) ∧
          (R ≠ d) ∧ ∃ (xs : List V), H3 R = some (.lst xs) ∧ xs.length < sizeLine ∧ (∃ (cs : List (List Int)) (xs' : List V) (o5 o6 : Option V), ([some (.ref d), some (.ref n), some (.int many), some (.int m), some (.ref R), some (.int (0 + (i : Int))), some (.ref p)] : L2.St) = [some (.ref d), some (.ref n), some (.int many), some (.int m), some (.ref R), o5, o6] ∧ Grows K H (upd H3 R (.lst (xs ++ [.ref p]))) d L R xs' (cs.map clD) ∧ (∀ c ∈ cs, okCl ns c) ∧ cs.length ≤ i + 1) := fun H3 hD3 s3 => by
        have G3 := G2.step hD3 s3
        have hl : xs.length = cs.length := by rw [dpa_len G3.all, List.length_map]
        refine ⟨⟨cs, xs, _, _, rfl, G3, hok, Nat.le_succ_of_le hml⟩, G3.nd.symm, xs, G3.at_, by rw [hl]; exact small1000 (by omega), cs ++ [c], xs ++ [.ref p], _, _, rfl, ?_, fun c' hc' => ?_, by rw [List.length_append]; show cs.length + 1 ≤ i + 1; omega⟩
        · rw [List.map_append]
          exact G3.push (cl_noLst c) (dp_mono s3 _ hc)
        · rcases List.mem_append.mp hc' with h | h
          · exact hok c' h
          · rw [List.mem_singleton.mp h]; exact hokc
      refine ⟨_, rfl, p, us, rfl, .inr (by cases et; exact ht), _, _, rfl, rfl, _, rfl, ite2 (fun c1 => ?_) (fun c1 => ?_)⟩
      · obtain ⟨_, _, xs2, h1, h2, h3⟩ := fin H2 hD2 (Same.refl _)
        exact ⟨_, rfl, .inl ⟨rfl, _, SqL.of h1⟩, _, rfl, R, _, _, rfl, rfl, h1, h2, h3⟩
      · refine ⟨_, rfl, d, L, 4, rfl, by decide, by decide, hD2, fun v H3 v0 v1 hD3 s3 => ?_⟩
        obtain ⟨h0, _, xs2, h1, h2, h3⟩ := fin H3 hD3 s3
        refine ⟨rfl, _, rfl, ite2 (fun c2 => ?_) (fun c2 => ?_)⟩
        · exact ⟨_, rfl, .inl ⟨rfl, _, SqL.of h1⟩, _, rfl, R, _, _, rfl, rfl, h1, h2, h3⟩
        · exact h0
    · rintro σ' H' ⟨cs, xs, o5, o6, rfl, G, hok, hml⟩
      exact ⟨_, rfl, q R cs xs H' G.dr G.old G.fr G.at_ G.nd.symm G.all hok hml⟩
end
end My

set_option Elab.async false
set_option maxRecDepth 100000
set_option maxHeartbeats 4000000
set_option linter.all false
namespace My
open PySem L2
open C8 (pss_cut)
/-! ### the items that are given -/
def kvI (z : Int) : Key × V := (Sum.inl (ab z), V.int z)
def Dis (gs : List Int) : Prop := gs.Pairwise fun x y => ab x ≠ ab y
theorem dis_of_asc {c : List Int} (h : c.Pairwise fun x y => ab x < ab y) : Dis c := h.imp fun h => by omega
theorem dis_uniq {gs : List Int} (h : Dis gs) {x y : Int} (hx : x ∈ gs) (hy : y ∈ gs) (e : ab x = ab y) : x = y := by
  induction gs with
  | nil => cases hx
  | cons z gs ih =>
    obtain ⟨h1, h2⟩ := List.pairwise_cons.mp h
    rcases List.mem_cons.mp hx with ex | hx <;> rcases List.mem_cons.mp hy with ey | hy
    · rw [ex, ey]
    · exact absurd (by rw [← ex]; exact e) (h1 y hy)
    · exact absurd (by rw [← ey]; exact e.symm) (h1 x hx)
    · exact ih h2 hx hy
theorem val_yes : ∀ {gs : List Int}, Dis gs → ∀ {z : Int}, z ∈ gs → valV (gs.map kvI) (Sum.inl (ab z) : Key) = some (.int z)
  | [], _, _, h => by cases h
  | y :: gs, h, z, hz => by
    obtain ⟨h1, h2⟩ := List.pairwise_cons.mp h
    by_cases e : ab y = ab z
    · have ez : z = y := dis_uniq h hz List.mem_cons_self e.symm
      rw [List.map_cons, valV_pos (by show (Sum.inl (ab y) : Key) = Sum.inl (ab z); rw [e]), ez] <;> rfl
    · rw [List.map_cons, valV_neg (fun q => e (Sum.inl.inj q))]
      rcases List.mem_cons.mp hz with q | q
      · exact absurd (by rw [q]) e
      · exact val_yes h2 q
theorem val_no : ∀ {gs : List Int} {k : Int}, (∀ z ∈ gs, ab z ≠ k) → valV (gs.map kvI) (Sum.inl k : Key) = none
  | [], _, _ => rfl
  | y :: gs, k, h => by
    rw [List.map_cons, valV_neg (fun q => h y List.mem_cons_self (Sum.inl.inj q))]
    exact val_no fun z hz => h z (List.mem_cons_of_mem _ hz)
/-- given.get(abs(x), 0) == x -/
theorem get_is {gs : List Int} (h : Dis gs) {x : Int} (hx : x ≠ 0) : decide ((valV (gs.map kvI) (Sum.inl (ab x) : Key)).getD (.int 0) = V.int x) = decide (x ∈ gs) := by
  by_cases m : x ∈ gs
  · rw [val_yes h m, decide_eq_true m]
    exact decide_eq_true rfl
  · rw [decide_eq_false m]
    refine decide_eq_false fun e => ?_
    by_cases m2 : -x ∈ gs
    · rw [← ab_neg x, val_yes h m2] at e
      have := V.int.inj (show V.int (-x) = V.int x from e)
      omega
    · rw [val_no fun z hz e2 => ?_] at e
      · exact hx (V.int.inj (show V.int 0 = V.int x from e)).symm
      · rcases ab_eq e2 with q | q
        · exact m (by rw [← q]; exact hz)
        · exact m2 (by rw [← q]; exact hz)
/-- abs(x) not in given -/
def Free (gs : List Int) (x : Int) : Bool := decide (x ∉ gs ∧ -x ∉ gs)
theorem free_ne {gs : List Int} {x : Int} (h : x ∉ gs ∧ -x ∉ gs) : ∀ z ∈ gs, ab z ≠ ab x := fun z hz e => by
  rcases ab_eq e with q | q
  · exact h.1 (by rw [← q]; exact hz)
  · exact h.2 (by rw [← q]; exact hz)
theorem notin_is {gs : List Int} (h : Dis gs) {x : Int} : (!(valV (gs.map kvI) (Sum.inl (ab x) : Key)).isSome) = Free gs x := by
  unfold Free
  by_cases m : x ∈ gs
  · rw [val_yes h m, decide_eq_false fun q => q.1 m] <;> rfl
  · by_cases m2 : -x ∈ gs
    · rw [← ab_neg x, val_yes h m2, decide_eq_false fun q => q.2 m2] <;> rfl
    · rw [val_no (free_ne ⟨m, m2⟩), decide_eq_true ⟨m, m2⟩] <;> rfl
theorem put_is {gs : List Int} {x : Int} (h : ∀ z ∈ gs, ab z ≠ ab x) : putK (gs.map kvI) (Sum.inl (ab x) : Key) (.int x) = (gs ++ [x]).map kvI := by
  rw [putK_new _ (val_no h), List.map_append] <;> rfl
theorem dis_snoc {gs : List Int} {x : Int} (h : Dis gs) (hx : ∀ z ∈ gs, ab z ≠ ab x) : Dis (gs ++ [x]) := List.pairwise_append.mpr ⟨h, List.pairwise_singleton _ _, fun a ha b hb => by rw [List.mem_singleton.mp hb]; exact hx a ha⟩
theorem dis_len : ∀ {gs vs : List Int}, Dis gs → (∀ z ∈ gs, ab z ∈ vs) → gs.length ≤ vs.length
  | [], _, _, _ => Nat.zero_le _
  | z :: gs, vs, h, hv => by
    obtain ⟨h1, h2⟩ := List.pairwise_cons.mp h
    have hz := hv z List.mem_cons_self
    have ih := dis_len (gs := gs) (vs := vs.erase (ab z)) h2 fun y hy => (List.mem_erase_of_ne (fun e => h1 y hy e.symm)).2 (hv y (List.mem_cons_of_mem _ hy))
    have e := List.length_erase_of_mem hz
    have hp : 0 < vs.length := List.length_pos_of_mem hz
    rw [List.length_cons]
    omega
def dlen (H : Hp) (g : Addr) : Nat := match H g with
  | some (.dK kvs) => kvs.length
  | _ => 0
/-- a clause as the laws make them -/
structure goodC (c : List Int) : Prop where
  nz : ∀ x ∈ c, x ≠ 0
  dis : Dis c
  len : c.length ≤ 100
theorem okCl.good {ns c : List Int} (h : okCl ns c) (hp : ∀ x ∈ ns, 0 < x) : goodC c := ⟨fun x hx => by rcases h.mem x hx with m | m <;> (have := hp _ m; omega), dis_of_asc h.asc, by have := h.len; omega⟩
def allV (cs : List (List Int)) (row : List Int) : List Int := (row ++ cs.flatten).map ab
theorem dpa_at {K : PySem.W.Frag} {H : Hp} {xs : List V} {cs : List (List Int)} {i : Nat} {v : V} (h : DpAll K H xs (cs.map clD)) (e : xs[i]? = some v) : ∃ c t, cs[i]? = some c ∧ v = .ref t ∧ SqT K H t (c.map V.int) := by
  obtain ⟨d, hd, hv⟩ := dpa_get h e
  rw [List.getElem?_map] at hd
  cases hc : cs[i]? with
  | none => rw [hc] at hd; cases hd
  | some c =>
    rw [hc] at hd
    obtain rfl := Option.some.inj hd
    obtain ⟨t, us, rfl, ht, hts⟩ := dp_tup hv
    have : us = c.map V.int := by
      clear ht hd hv hc
      induction c generalizing us with
      | nil => cases hts; rfl
      | cons x c ih =>
        cases hts with
        | cons a b =>
          cases dp_int a
          rw [ih _ b] <;> rfl
    rw [this] at ht
    exact ⟨c, t, rfl, rfl, ht⟩
def spFollows (K : PySem.W.Frag) : Sp := fun vs H Q _ => ∃ (a t : Addr) (xs : List V) (cs : List (List Int)) (row : List Int), vs = [.ref a, .ref t] ∧ SqL K H a xs ∧ DpAll K H xs (cs.map clD) ∧ SqT K H t (row.map V.int) ∧ (∀ c ∈ cs, goodC c) ∧ goodC row ∧ cs.length ≤ 1000 ∧
  ∀ b H', (b = true ↔ MC.Conf cs row) → Same H H' → Q (.bl b) H'
end My

set_option Elab.async false
set_option maxRecDepth 100000
set_option maxHeartbeats 4000000
set_option linter.all false
namespace My
open PySem L2
open C8 (pss_cut)
/-- what stands in given, apart from the rest -/
structure Giv (H H' : Hp) (g : Addr) (cs : List (List Int)) (row gs : List Int) : Prop where
  at_ : H' g = some (.dK (gs.map kvI))
  old : Same H H'
  dis : Dis gs
  sound : ∀ z ∈ gs, MC.Forced cs row z
  vars : ∀ z ∈ gs, ab z ∈ allV cs row
  nz : ∀ z ∈ gs, z ≠ 0
def Closed (gs : List Int) (c : List Int) : Prop := (∃ x ∈ c, x ∈ gs) ∨ ∃ x ∈ c, ∃ y ∈ c, x ≠ y ∧ -x ∉ gs ∧ -y ∉ gs
theorem allV_len (cs : List (List Int)) (row : List Int) (h : ∀ c ∈ cs, goodC c) (hr : goodC row) (hl : cs.length ≤ 1000) : (allV cs row).length ≤ 200000 := by
  have key : ∀ cs : List (List Int), (∀ c ∈ cs, goodC c) → cs.flatten.length ≤ cs.length * 100 := by
    intro cs
    induction cs with
    | nil => intro _; exact Nat.le_refl _
    | cons c cs ih =>
      intro h
      have h1 := (h c List.mem_cons_self).len
      have h2 := ih fun d hd => h d (List.mem_cons_of_mem _ hd)
      rw [List.flatten_cons, List.length_append, List.length_cons]
      omega
  have h1 := key cs h
  have h2 := hr.len
  unfold allV
  rw [List.length_map, List.length_append]
  omega
theorem in_allV {cs : List (List Int)} {row c : List Int} {x : Int} (hc : c ∈ cs) (hx : x ∈ c) : ab x ∈ allV cs row := List.mem_map.mpr ⟨x, List.mem_append_right _ (List.mem_flatten.mpr ⟨c, hc, hx⟩), rfl⟩
theorem in_allV0 {cs : List (List Int)} {row : List Int} {x : Int} (hx : x ∈ row) : ab x ∈ allV cs row := List.mem_map.mpr ⟨x, List.mem_append_left _ hx, rfl⟩
theorem Giv.len {H H' : Hp} {g : Addr} {cs : List (List Int)} {row gs : List Int} (G : Giv H H' g cs row gs) : gs.length ≤ (allV cs row).length := dis_len G.dis G.vars
theorem Giv.mono {H H' H2 : Hp} {g : Addr} {cs : List (List Int)} {row gs : List Int} (G : Giv H H' g cs row gs) (s : Same H' H2) : Giv H H2 g cs row gs := ⟨s _ _ G.at_, G.old.trans s, G.dis, G.sound, G.vars, G.nz⟩
theorem Giv.put {H H' : Hp} {g : Addr} {cs : List (List Int)} {row gs : List Int} {x : Int} (G : Giv H H' g cs row gs) (hg : H g = none) (f : ∀ z ∈ gs, ab z ≠ ab x) (so : MC.Forced cs row x) (va : ab x ∈ allV cs row) (hz : x ≠ 0) : Giv H (upd H' g (.dK ((gs ++ [x]).map kvI))) g cs row (gs ++ [x]) :=
  ⟨upd_same, fun b o hb => by rw [upd_ne (ne_of_none hb hg)]; exact G.old b o hb, dis_snoc G.dis f, fun z hz => by
    rcases List.mem_append.mp hz with h | h
    · exact G.sound z h
    · rw [List.mem_singleton.mp h]; exact so, fun z hz => by
    rcases List.mem_append.mp hz with h | h
    · exact G.vars z h
    · rw [List.mem_singleton.mp h]; exact va, fun z hz' => by
    rcases List.mem_append.mp hz' with h | h
    · exact G.nz z h
    · rw [List.mem_singleton.mp h]; exact hz⟩
theorem take_filter {α : Type} {c : List α} {i : Nat} {x : α} {p : α → Bool} (h : c[i]? = some x) : (c.take (i + 1)).filter p = (c.take i).filter p ++ (if p x = true then [x] else []) := by
  rw [take_next h, List.filter_append, List.filter_cons, List.filter_nil]
/-- [x for x in c if ..], c a tuple, a list of whole numbers -/
theorem filt_tup {K : PySem.W.Frag} {a : Addr} {c : List Int} {k : Nat} {tt : TT} {vs : List Nat} {σ : L2.St} {H1 : Hp} {D : Addr} {Qd : Hp → Prop} (p : Int → Bool) (ha : SqT K H1 a (c.map V.int)) (hl : c.length ≤ 100) (hD : H1 D = none) (hw : ∀ x, wipe ((wipe σ vs).set k (some (V.int x))) vs = wipe σ vs)
    (hv : ∀ x H2 (R : VK), R (.int x) H2 → tVar k ((wipe σ vs).set k (some (V.int x))) H2 R) (ht : ∀ x H2 (R : Bool → Hp → Prop), x ∈ c → Same H1 H2 → R (p x) H2 → tt ((wipe σ vs).set k (some (V.int x))) H2 R)
    (hq : ∀ H2, H2 D = some (.lst ((c.filter p).map V.int)) → Same H1 H2 → Qd H2) :
    ∃ W : Nat → Nat → Hp → Prop, (∃ m, W 0 m (upd H1 D (.lst []))) ∧ ∀ i m H, W i m H →
      ((Itt K a).stop i H ∧ Qd H) ∨ ((Itt K a).go i H ∧ ∃ Nx : Hp → Prop, (∀ H', Nx H' → ∃ m', m' < m ∧ W (i + 1) m' H') ∧ ∀ x H', (Itt K a).yld i H x H' → gName k x (wipe σ vs) H' fun σ2 H2 => wipe σ2 vs = wipe σ vs ∧ tt σ2 H2 fun b H3 =>
        if b = true then tVar k σ2 H3 fun y H4 => ∃ acc, H4 D = some (.lst acc) ∧ acc.length < sizeLine ∧ Nx (upd H4 D (.lst (acc ++ [y]))) else Nx H3) := by
  refine lc_tup (K := K) (a := a) (xs := c.map V.int) (fun i H2 => H2 D = some (.lst (((c.take i).filter p).map V.int)) ∧ Same H1 H2 ∧ i ≤ c.length) ⟨upd_same, same_new hD _, Nat.zero_le _⟩ (fun i H2 _ ⟨_, s, _⟩ => sqt_mono s ha) ?_ ?_
  · rintro i y H2 hi ⟨h1, s, _⟩
    obtain ⟨x, rfl, hx⟩ := map_at hi
    have hi' : i < c.length := (List.getElem?_eq_some_iff.mp hx).1
    refine ⟨hw x, ht x H2 _ (List.mem_of_getElem? hx) s ?_⟩
    cases hp : p x with
    | false =>
      rw [if_neg (by decide)]
      exact ⟨by rw [take_filter hx, hp]; simpa using h1, s, hi'⟩
    | true =>
      rw [if_pos rfl]
      refine hv x H2 _ ⟨_, h1, ?_, ?_, fun b o hb => ?_, hi'⟩
      · have := List.length_filter_le p (c.take i)
        rw [List.length_take] at this
        rw [List.length_map]
        exact small1000 (by omega)
      · rw [upd_same, take_filter hx, hp, if_pos rfl, List.map_append] <;> rfl
      · rw [upd_ne (ne_of_none hb hD)]
        exact s b o hb
  · rintro H2 ⟨h1, s, _⟩
    rw [List.length_map, List.take_length] at h1
    exact hq H2 h1 s
/-- [x for x in c if ..], c a tuple, a list of whole numbers -/
theorem filt_list {K : PySem.W.Frag} {a : Addr} {c : List Int} {k : Nat} {tt : TT} {vs : List Nat} {σ : L2.St} {H1 : Hp} {D : Addr} {Qd : Hp → Prop} (p : Int → Bool) (ha : SqL K H1 a (c.map V.int)) (hl : c.length ≤ 100) (hD : H1 D = none) (hw : ∀ x, wipe ((wipe σ vs).set k (some (V.int x))) vs = wipe σ vs)
    (hv : ∀ x H2 (R : VK), R (.int x) H2 → tVar k ((wipe σ vs).set k (some (V.int x))) H2 R) (ht : ∀ x H2 (R : Bool → Hp → Prop), x ∈ c → Same H1 H2 → R (p x) H2 → tt ((wipe σ vs).set k (some (V.int x))) H2 R)
    (hq : ∀ H2, H2 D = some (.lst ((c.filter p).map V.int)) → Same H1 H2 → Qd H2) :
    ∃ W : Nat → Nat → Hp → Prop, (∃ m, W 0 m (upd H1 D (.lst []))) ∧ ∀ i m H, W i m H →
      ((Itl K a).stop i H ∧ Qd H) ∨ ((Itl K a).go i H ∧ ∃ Nx : Hp → Prop, (∀ H', Nx H' → ∃ m', m' < m ∧ W (i + 1) m' H') ∧ ∀ x H', (Itl K a).yld i H x H' → gName k x (wipe σ vs) H' fun σ2 H2 => wipe σ2 vs = wipe σ vs ∧ tt σ2 H2 fun b H3 =>
        if b = true then tVar k σ2 H3 fun y H4 => ∃ acc, H4 D = some (.lst acc) ∧ acc.length < sizeLine ∧ Nx (upd H4 D (.lst (acc ++ [y]))) else Nx H3) := by
  refine lc_list (K := K) (a := a) (xs := c.map V.int) (fun i H2 => H2 D = some (.lst (((c.take i).filter p).map V.int)) ∧ Same H1 H2 ∧ i ≤ c.length) ⟨upd_same, same_new hD _, Nat.zero_le _⟩ (fun i H2 _ ⟨_, s, _⟩ => sql_mono s ha) ?_ ?_
  · rintro i y H2 hi ⟨h1, s, _⟩
    obtain ⟨x, rfl, hx⟩ := map_at hi
    have hi' : i < c.length := (List.getElem?_eq_some_iff.mp hx).1
    refine ⟨hw x, ht x H2 _ (List.mem_of_getElem? hx) s ?_⟩
    cases hp : p x with
    | false =>
      rw [if_neg (by decide)]
      exact ⟨by rw [take_filter hx, hp]; simpa using h1, s, hi'⟩
    | true =>
      rw [if_pos rfl]
      refine hv x H2 _ ⟨_, h1, ?_, ?_, fun b o hb => ?_, hi'⟩
      · have := List.length_filter_le p (c.take i)
        rw [List.length_take] at this
        rw [List.length_map]
        exact small1000 (by omega)
      · rw [upd_same, take_filter hx, hp, if_pos rfl, List.map_append] <;> rfl
      · rw [upd_ne (ne_of_none hb hD)]
        exact s b o hb
  · rintro H2 ⟨h1, s, _⟩
    rw [List.length_map, List.take_length] at h1
    exact hq H2 h1 s
end My

set_option Elab.async false
set_option maxRecDepth 100000
set_option maxHeartbeats 4000000
set_option linter.all false
namespace My
open PySem L2
open C8 (pss_cut)
theorem dis_before {c : List Int} (h : Dis c) {i : Nat} {x : Int} (hi : c[i]? = some x) : ∀ y ∈ c.take i, ab y ≠ ab x := fun y hy => by
  have e : c.take (i + 1) = c.take i ++ [x] := take_next hi
  have h2 : Dis (c.take (i + 1)) := List.Pairwise.sublist (List.take_sublist _ _) h
  unfold Dis at h2
  rw [e] at h2
  exact (List.pairwise_append.mp h2).2.2 y hy x (List.mem_singleton.mpr rfl)
theorem lay_ints : ∀ c : List Int, PyData.canLayAll0 (c.map PyData.int) = true
  | [] => rfl
  | x :: c => by
    rw [List.map_cons]
    simp only [PyData.canLayAll0, PyData.canLay0, Bool.true_and]
    exact lay_ints c
theorem dep_ints : ∀ c : List Int, PyData.depthAll (c.map PyData.int) = 0
  | [] => rfl
  | x :: c => by
    rw [List.map_cons]
    simp only [PyData.depthAll, PyData.depth]
    rw [dep_ints c]
    rfl
theorem shp_ints (c : List Int) : SeqAt.shaped (.list (c.map PyData.int)) = true := by
  show (PyData.canLay0 (.list (c.map PyData.int)) && decide (PyData.depth (.list (c.map PyData.int)) ≤ 64)) = true
  simp only [PyData.canLay0, PyData.depth, dep_ints, lay_ints]
  rfl
theorem shp_intsT (c : List Int) : SeqAt.shaped (.tuple (c.map PyData.int)) = true := by
  show (PyData.canLay0 (.tuple (c.map PyData.int)) && decide (PyData.depth (.tuple (c.map PyData.int)) ≤ 64)) = true
  simp only [PyData.canLay0, PyData.depth, dep_ints, lay_ints]
  rfl
theorem eqv_nilI (c : List Int) : PyData.eqv (.list (c.map PyData.int)) (.list []) = decide (c = []) := by
  cases c with
  | nil => rfl
  | cons a r => rfl
theorem filter_nil {p : Int → Bool} {c : List Int} : c.filter p = [] ↔ ∀ x ∈ c, p x = false := by
  rw [List.filter_eq_nil_iff]
  exact ⟨fun h x hx => by have := h x hx; simpa using this, fun h x hx => by rw [h x hx]; decide⟩
theorem get_int : ∀ (gs : List Int) (k : Int), ∃ z, (valV (gs.map kvI) (Sum.inl k : Key)).getD (.int 0) = V.int z
  | [], _ => ⟨0, rfl⟩
  | y :: gs, k => by
    rw [List.map_cons]
    by_cases e : ab y = k
    · rw [valV_pos (by show (Sum.inl (ab y) : Key) = Sum.inl k; rw [e])]
      exact ⟨y, rfl⟩
    · rw [valV_neg (fun q => e (Sum.inl.inj q))]
      exact get_int gs k
theorem two_free {p : Int → Bool} {c : List Int} (hd : Dis c) (h0 : c.filter p ≠ []) (h1 : (c.filter p).length ≠ 1) : ∃ x ∈ c, ∃ y ∈ c, x ≠ y ∧ p x = true ∧ p y = true := by
  have hdf : Dis (c.filter p) := List.Pairwise.sublist (List.filter_sublist) hd
  generalize hr : c.filter p = r at h0 h1 hdf
  match r, h0, h1 with
  | [_], _, h1 => exact absurd rfl h1
  | x :: y :: r, _, _ =>
    have hx : x ∈ c.filter p := by rw [hr]; exact List.mem_cons_self
    have hy : y ∈ c.filter p := by rw [hr]; exact List.mem_cons_of_mem _ List.mem_cons_self
    obtain ⟨x1, x2⟩ := List.mem_filter.mp hx
    obtain ⟨y1, y2⟩ := List.mem_filter.mp hy
    refine ⟨x, x1, y, y1, fun e => ?_, x2, y2⟩
    exact (List.pairwise_cons.mp hdf).1 y List.mem_cons_self (by rw [e])
def mu (N : Nat) (g : Addr) (k : Nat) : L2.St → Hp → Nat := fun σ H => 2 * (N - dlen H g) + (if σ[k]? = some (some (V.bl true)) then 1 else 0)
theorem dlen_of {H H' : Hp} {g : Addr} {cs : List (List Int)} {row gs : List Int} (G : Giv H H' g cs row gs) : dlen H' g = gs.length := by
  unfold dlen
  rw [G.at_]
  exact List.length_map _
section
variable {P : Program} {w : World} {K : PySem.W.Frag} {mg : Str → Option Value} {base : Heap} {f : Addr} {fd : FuncData}
theorem ok__law_follows (T : Txt K mg) (D : Def K mg "_law_follows" ["clauses", "row"] s__law_follows f fd) : Own P w K mg base "_law_follows" ["clauses", "row"] 1 (spFollows K) := by
  refine ⟨f, fd, D.mg, D.fn.kp, D.bd, D.fn.ok sc__law_follows (fun vs H Q E h => ?_) (fun cdv A outer s H vs Q E hr h => ?_)⟩
  · obtain ⟨a, t, xs, cs, row, rfl, _⟩ := h
    rfl
  · obtain ⟨a, t, xs, cs, row, rfl, hS, hA, hT, hok, hrow, hlen, q⟩ := h
    have hu := hu_of hr
    have hN := allV_len cs row hok hrow hlen
    have hxl : xs.length = cs.length := by rw [dpa_len hA, List.length_map]
    refine ⟨_, (pss_cons (ps_set (i := 2) sc__law_follows.nd rfl (Or.inr rfl) pe_dnewK)
      (pss_cons (ps_for PassesOwn.never rfl (pi_tup (pv 1)) (pg_name (i := 3) sc__law_follows.nd rfl (Or.inl rfl)) (pss_one (ps_dput hu (pv 2) (pe_callB call_abs (by rfl) T.m_abs (by decide +kernel) (pa_cons (pv 3) pa_nil)) (pe_un un_neg (pv 3)) rfl)))
      (pss_cons (ps_set (i := 4) sc__law_follows.nd rfl (Or.inl rfl) pe_bl)
      (pss_cons (ps_while PassesOwn.never (pt_val (pv 4)) (pss_cons (ps_set (i := 4) sc__law_follows.nd rfl (Or.inl rfl) pe_bl)
      (pss_one (ps_for PassesOwn.never rfl (pi_list (pv 0)) (pg_name (i := 5) sc__law_follows.nd rfl (Or.inl rfl)) (pss_one (ps_if (pt_cmpR (op_eqD hr.units) (pe_lc (own := [("x", 3)]) (g := gName 3) rfl sc__law_follows.nd (pi_tup (pv 5)) (blkOk_by (N := N__law_follows) (sc := defScope s__law_follows) (own := [("x", 3)]) (by decide +kernel)) (fun _ _ _ _ _ => (pg_name (i := 3) sc__law_follows.nd rfl (Or.inl rfl))) (fun _ _ _ _ _ => (pts_one (pt_cmpR op_eq (pe_dget2 hu (pv 2) (pe_callB call_abs (by rfl) T.m_abs (by decide +kernel) (pa_cons (pv 3) pa_nil)) pe_int ⟨rfl, rfl, rfl, rfl⟩) (pv 3) (nomark _)))) (fun _ _ _ _ _ => (pv 3))) (pe_lst pa_nil) (nomark _)) (pss_cons (ps_setLc (i := 6) (own := [("x", 3)]) (g := gName 3) rfl sc__law_follows.nd rfl rfl (sw_true rfl rfl rfl (by decide +kernel)) (pi_tup (pv 5)) (blkOk_by (N := N__law_follows) (sc := defScope s__law_follows) (own := [("x", 3)]) (by decide +kernel)) (fun _ _ _ _ _ => (pg_name (i := 3) sc__law_follows.nd rfl (Or.inl rfl))) (fun _ _ _ _ _ => (pts_one (pt_cmp (pc_dnotin hu (pe_callB call_abs (by rfl) T.m_abs (by decide +kernel) (pa_cons (pv 3) pa_nil)) (pv 2))))) (fun _ _ _ _ _ => (pv 3)))
      (pss_cons (ps_if (pt_cmpR (op_eqD hr.units) (pv 6) (pe_lst pa_nil) (nomark _)) (pss_one (ps_ret pe_bl)) pss_nil)
      (pss_one (ps_if (pt_cmpR op_eq (pe_callB call_len_seq (by rfl) T.m_len (by decide +kernel) (pa_cons (pv 6) pa_nil)) pe_int (nomark _)) (pss_cons (ps_dput hu (pv 2) (pe_callB call_abs (by rfl) T.m_abs (by decide +kernel) (pa_cons (pe_ix ix_list (pv 6) pe_int (fun _ _ => rfl)) pa_nil)) (pe_ix ix_list (pv 6) pe_int (fun _ _ => rfl)) rfl)
      (pss_one (ps_set (i := 4) sc__law_follows.nd rfl (Or.inl rfl) pe_bl))) pss_nil)))) pss_nil))))))
      (pss_one (ps_ret pe_bl)))))), ?_⟩
    refine fun g hg => ?_
    have d0 : Dis ([] : List Int) := List.Pairwise.nil
    refine ⟨_, rfl, t, rfl, ⟨_, sqt_mono (same_new hg _) hT⟩, for_tup (K := K) (a := t) (xs := row.map V.int) (fun i σ' H' => ∃ (gs : List Int) (o3 : Option V), σ' = [some (.ref a), some (.ref t), some (.ref g), o3, none, none, none] ∧ Giv H H' g cs row gs ∧ gs = (row.take i).map (fun x => -x) ∧ i ≤ row.length)
      ⟨[], none, rfl, ⟨upd_same, same_new hg _, d0, fun z h => (by cases h), fun z h => (by cases h), fun z h => (by cases h)⟩, rfl, Nat.zero_le _⟩ (fun i σ' H' _ ⟨_, _, _, G, _⟩ => sqt_mono G.old hT) ?_ ?_⟩
    · rintro i y σ' H' hi ⟨gs, o3, rfl, G, egs, _⟩
      obtain ⟨x, rfl, hx⟩ := map_at hi
      have hi' : i < row.length := (List.getElem?_eq_some_iff.mp hx).1
      have hxr := List.mem_of_getElem? hx
      have fr : ∀ z ∈ gs, ab z ≠ ab (-x) := fun z hz => by
        rw [egs] at hz
        obtain ⟨y, hy, rfl⟩ := List.mem_map.mp hz
        rw [ab_neg, ab_neg]
        exact dis_before hrow.dis hx y hy
      have e : putK (gs.map kvI) (Sum.inl (ab x) : Key) (.int (-x)) = (gs ++ [-x]).map kvI := by
        rw [← ab_neg x]
        exact put_is fr
      have gl := G.len
      refine ⟨_, rfl, _, rfl, _, rfl, _, rfl, _, rfl, g, _, rfl, DPut.k (k := (Sum.inl (ab x) : Key)) G.at_ (by rw [List.length_map, sizeLine_eq]; omega), ?_⟩
      rw [e]
      exact ⟨_, _, rfl, G.put hg fr (.start hxr) (by rw [ab_neg]; exact in_allV0 hxr) (by have := hrow.nz x hxr; omega), by rw [egs, take_next hx, List.map_append] <;> rfl, hi'⟩
    · rintro σ' H1 ⟨gs0, o3, rfl, G0, egs, _⟩
      rw [List.length_map, List.take_length] at egs
      have st0 : ∀ x ∈ row, -x ∈ gs0 := fun x hx => by rw [egs]; exact List.mem_map.mpr ⟨x, hx, rfl⟩
      refine while_by (fun σ' H' => ∃ (gs : List Int) (ch : Bool) (o3 o5 o6 : Option V), σ' = [some (.ref a), some (.ref t), some (.ref g), o3, some (.bl ch), o5, o6] ∧ Giv H H' g cs row gs ∧ (∀ x ∈ row, -x ∈ gs) ∧ (ch = false → ∀ c ∈ cs, Closed gs c)) (mu (allV cs row).length g 4)
        ⟨gs0, true, o3, none, none, rfl, G0, st0, fun e => by cases e⟩ ?_ ?_
      · rintro σ2 H2 ⟨gs, ch, o3, o5, o6, rfl, G, st, cl⟩
        refine ⟨_, rfl, ch, rfl, ?_⟩
        cases ch with
        | false =>
          refine q false H2 ⟨fun e => (by cases e), fun cf => absurd cf (MC.not_conf (g := fun z => z ∈ gs) st (fun x hx hn => ?_) (cl rfl))⟩ G.old
          have h0 := dis_uniq G.dis hx hn (ab_neg x).symm
          have hz := G.nz x hx
          omega
        | true =>
          refine ⟨_, rfl, a, rfl, ⟨_, sql_mono G.old hS⟩, for_list (K := K) (a := a) (xs := xs) (fun i σ' H' => ∃ (gs' : List Int) (ch : Bool) (o3 o5 o6 : Option V), σ' = [some (.ref a), some (.ref t), some (.ref g), o3, some (.bl ch), o5, o6] ∧ Giv H H' g cs row gs' ∧ (∀ x ∈ row, -x ∈ gs') ∧ (ch = false → gs' = gs ∧ ∀ c ∈ cs.take i, Closed gs c) ∧ gs.length ≤ gs'.length ∧ (ch = true → gs.length < gs'.length) ∧ i ≤ cs.length)
            ⟨gs, false, o3, o5, o6, rfl, G, st, fun _ => ⟨rfl, fun c hc => by simp at hc⟩, Nat.le_refl _, fun e => (by cases e), Nat.zero_le _⟩ (fun i σ' H' _ ⟨_, _, _, _, _, _, G, _⟩ => sql_mono G.old hS) ?_ ?_⟩
          · rintro i y σ3 H3 hi ⟨gs', ch, o3, o5, o6, rfl, G3, st3, c0, le3, c1, _⟩
            have hi' : i < cs.length := by rw [← hxl]; exact (List.getElem?_eq_some_iff.mp hi).1
            obtain ⟨c, t', hc, rfl, ht'⟩ := dpa_at (dpa_mono G3.old _ hA) hi
            have hcm := List.mem_of_getElem? hc
            have gc := hok c hcm
            -- nothing happens: the clause is closed
            have skip : ∀ (ch : Bool) (o3 o5 o6 : Option V) H4, Same H3 H4 → (ch = false → gs' = gs ∧ ∀ c ∈ cs.take i, Closed gs c) → (ch = true → gs.length < gs'.length) → (gs' = gs → Closed gs c) → ∃ (gs' : List Int) (ch' : Bool) (o3' o5' o6' : Option V), ([some (.ref a), some (.ref t), some (.ref g), o3, some (.bl ch), o5, o6] : L2.St) = [some (.ref a), some (.ref t), some (.ref g), o3', some (.bl ch'), o5', o6'] ∧ Giv H H4 g cs row gs' ∧ (∀ x ∈ row, -x ∈ gs') ∧ (ch' = false → gs' = gs ∧ ∀ c ∈ cs.take (i + 1), Closed gs c) ∧ gs.length ≤ gs'.length ∧ (ch' = true → gs.length < gs'.length) ∧ i + 1 ≤ cs.length := fun ch o3 o5 o6 H4 s4 c0 c1 cl => by
              refine ⟨gs', ch, o3, o5, o6, rfl, G3.mono s4, st3, fun e => ⟨(c0 e).1, fun d hd => ?_⟩, le3, c1, hi'⟩
              rw [take_next hc] at hd
              rcases List.mem_append.mp hd with h | h
              · exact (c0 e).2 d h
              · rw [List.mem_singleton.mp h]; exact cl (c0 e).1
            refine ⟨_, rfl, t', rfl, ⟨_, ht'⟩, fun D1 hD1 => filt_tup (fun x => decide (x ∈ gs')) ht' gc.len hD1 (fun _ => rfl) (fun x H4 R r => ⟨_, rfl, r⟩) (fun x H4 R hx s4 r => ?_) fun H4 h4 s4 => ?_⟩
            · refine ⟨_, rfl, g, rfl, .inl ⟨_, .inl (s4 _ _ G3.at_)⟩, _, rfl, _, rfl, _, DGet.k (k := (Sum.inl (ab x) : Key)) (s4 _ _ G3.at_), _, rfl, ?_⟩
              obtain ⟨z, ez⟩ := get_int gs' (ab x)
              refine ⟨by rw [ez] <;> rfl, _, rfl, ?_⟩
              rw [get_is G3.dis (gc.nz x hx)]
              exact r
            · refine ⟨by show 0 ≤ sizeLine; decide, fun e0 he0 => ?_⟩
              have s5 := s4.trans (same_new he0 (.lst []))
              refine ⟨_, .list [], .lst (SqL.of (same_new he0 _ _ _ h4)) (ints_all _), .lst (SqL.of upd_same) .nil, shp_ints _, by rfl, _, rfl, ite2 (fun k1 => ?_) (fun k1 => ?_)⟩
              · have k1' : ∀ x ∈ c, x ∉ gs' := fun x hx => by
                  have e : decide (c.filter (fun x => decide (x ∈ gs')) = []) = true := by rw [← eqv_nilI]; exact k1
                  have := filter_nil.1 (of_decide_eq_true e) x hx
                  exact of_decide_eq_false this
                refine ⟨_, rfl, t', rfl, ⟨_, sqt_mono s5 ht'⟩, fun D2 hD2 => filt_tup (fun x => Free gs' x) (sqt_mono s5 ht') gc.len hD2 (fun _ => rfl) (fun x H6 R r => ⟨_, rfl, r⟩) (fun x H6 R hx s6 r => ?_) fun H6 h6 s6 => ?_⟩
                · refine ⟨_, rfl, _, rfl, _, rfl, g, _, rfl, DGet.k (k := (Sum.inl (ab x) : Key)) (s6 _ _ (s5 _ _ G3.at_)), _, rfl, ?_⟩
                  rw [notin_is G3.dis]
                  exact r
                · have s7 : Same H3 H6 := s5.trans s6
                  refine ⟨_, rfl, by show 0 ≤ sizeLine; decide, fun e1 he1 => ?_⟩
                  have s8 := s7.trans (same_new he1 (.lst []))
                  have h7 := same_new he1 (.lst []) _ _ h6
                  refine ⟨_, .list [], .lst (SqL.of h7) (ints_all _), .lst (SqL.of upd_same) .nil, shp_ints _, by rfl, _, rfl, ite2 (fun k2 => ?_) (fun k2 => ?_)⟩
                  · have e : decide (c.filter (fun x => Free gs' x) = []) = true := by rw [← eqv_nilI]; exact k2
                    have k2' := filter_nil.1 (of_decide_eq_true e)
                    refine q true _ ⟨fun _ => MC.conf_of (g := fun z => z ∈ gs') G3.sound hcm fun x hx => ?_, fun _ => rfl⟩ (G3.old.trans s8)
                    have := of_decide_eq_false (k2' x hx)
                    by_cases m : -x ∈ gs'
                    · exact m
                    · exact absurd ⟨k1' x hx, m⟩ this
                  · have k2' : c.filter (fun x => Free gs' x) ≠ [] := fun e => k2 (by rw [eqv_nilI]; exact decide_eq_true e)
                    refine ⟨_, rfl, D2, _, rfl, .inl (SqL.of h7), rfl, _, rfl, ite2 (fun k3 => ?_) (fun k3 => ?_)⟩
                    · have k3' : (c.filter (fun x => Free gs' x)).length = 1 := by
                        have := inteq k3
                        rw [List.length_map] at this
                        omega
                      obtain ⟨x0, ex0⟩ : ∃ x0, c.filter (fun x => Free gs' x) = [x0] := by
                        match hr : c.filter (fun x => Free gs' x), k3' with
                        | [x0], _ => exact ⟨x0, rfl⟩
                      rw [ex0] at h7
                      have hx0 : x0 ∈ c.filter (fun x => Free gs' x) := by rw [ex0]; exact List.mem_singleton.mpr rfl
                      obtain ⟨m0, f0⟩ := List.mem_filter.mp hx0
                      have f0' : x0 ∉ gs' ∧ -x0 ∉ gs' := of_decide_eq_true f0
                      have fr := free_ne f0'
                      have gl := G3.len
                      have so : MC.Forced cs row x0 := .unit hcm m0 fun x hx ne => by
                        have nf : x ∉ c.filter (fun x => Free gs' x) := by rw [ex0]; simpa using ne
                        have nf' : ¬ (x ∉ gs' ∧ -x ∉ gs') := fun z => nf (List.mem_filter.mpr ⟨hx, decide_eq_true z⟩)
                        by_cases m : -x ∈ gs'
                        · exact G3.sound _ m
                        · exact absurd ⟨k1' x hx, m⟩ nf'
                      refine ⟨_, rfl, D2, _, 0, .int x0, rfl, rfl, SqL.of h7, rfl, _, rfl, _, rfl, D2, _, 0, .int x0, rfl, rfl, SqL.of h7, rfl, x0, rfl, g, _, rfl, DPut.k (k := (Sum.inl (ab x0) : Key)) (s8 _ _ G3.at_) (by rw [List.length_map, sizeLine_eq]; omega), ?_⟩
                      rw [put_is fr]
                      refine ⟨gs' ++ [x0], true, _, _, _, rfl, (G3.mono s8).put hg fr so (in_allV hcm m0) (gc.nz x0 m0), fun x hx => List.mem_append_left _ (st3 x hx), fun e => (by cases e), by rw [List.length_append]; omega, fun _ => by rw [List.length_append]; show gs.length < gs'.length + 1; omega, hi'⟩
                    · refine skip ch _ _ _ _ s8 c0 c1 fun e => .inr ?_
                      have k3' : (c.filter (fun x => Free gs' x)).length ≠ 1 := fun e => k3 (decide_eq_true (by rw [List.length_map, e] <;> rfl))
                      obtain ⟨x, hx, y, hy, ne, px, py⟩ := two_free gc.dis k2' k3'
                      rw [← e]
                      exact ⟨x, hx, y, hy, ne, (of_decide_eq_true px).2, (of_decide_eq_true py).2⟩
              · refine skip ch _ _ _ _ s5 c0 c1 fun e => .inl ?_
                have k1' : c.filter (fun x => decide (x ∈ gs')) ≠ [] := fun z => k1 (by rw [eqv_nilI]; exact decide_eq_true z)
                obtain ⟨x, hx⟩ := List.exists_mem_of_ne_nil _ k1'
                obtain ⟨m, hx'⟩ := List.mem_filter.mp hx
                exact ⟨x, m, by rw [← e]; exact of_decide_eq_true hx'⟩
          · rintro σ3 H3 ⟨gs', ch, o3, o5, o6, rfl, G3, st3, c0, le3, c1, _⟩
            refine ⟨⟨gs', ch, o3, o5, o6, rfl, G3, st3, fun e c hc => ?_⟩, ?_⟩
            · obtain ⟨e1, e2⟩ := c0 e
              rw [hxl, List.take_length] at e2
              rw [e1]
              exact e2 c hc
            · have gl := G3.len
              unfold mu
              rw [dlen_of G3, dlen_of G]
              cases ch with
              | false =>
                have e1 := (c0 rfl).1
                rw [e1]
                show 2 * ((allV cs row).length - gs.length) + 0 < 2 * ((allV cs row).length - gs.length) + 1
                omega
              | true =>
                have e1 := c1 rfl
                show 2 * ((allV cs row).length - gs'.length) + 1 < 2 * ((allV cs row).length - gs.length) + 1
                omega
      · rintro σ2 H2 Q1 Q2 imp ⟨v, h1, k, h2, h3⟩
        exact ⟨v, h1, k, h2, imp _ _ h3⟩
end
end My

set_option Elab.async false
set_option maxRecDepth 100000
set_option maxHeartbeats 4000000
set_option linter.all false
namespace My
open PySem L2
open C8 (pss_cut)
def lsD (c : List Int) : PyData := .list (c.map PyData.int)
/-- a clause as a tuple or as a list -/
def gcD (b : Bool) (c : List Int) : PyData := if b = true then clD c else lsD c
theorem ints_of {K : PySem.W.Frag} {H : Hp} : ∀ {c : List Int} {us : List V}, DpAll K H us (c.map PyData.int) → us = c.map V.int
  | [], _, .nil => rfl
  | x :: c, _, .cons a b => by
    cases dp_int a
    rw [ints_of b] <;> rfl
theorem dpa_atG {K : PySem.W.Frag} {H : Hp} {xs : List V} {b : Bool} {cs : List (List Int)} {i : Nat} {v : V} (h : DpAll K H xs (cs.map (gcD b))) (e : xs[i]? = some v) : ∃ c t, cs[i]? = some c ∧ v = .ref t ∧ (SqL K H t (c.map V.int) ∨ SqT K H t (c.map V.int)) := by
  obtain ⟨d, hd, hv⟩ := dpa_get h e
  rw [List.getElem?_map] at hd
  cases hc : cs[i]? with
  | none => rw [hc] at hd; cases hd
  | some c =>
    rw [hc] at hd
    obtain rfl := Option.some.inj hd
    cases b with
    | true =>
      obtain ⟨t, us, rfl, ht, hts⟩ := dp_tup (show Dp K H v (.tuple (c.map PyData.int)) from hv)
      rw [ints_of hts] at ht
      exact ⟨c, t, rfl, rfl, .inr ht⟩
    | false =>
      obtain ⟨t, us, rfl, ht, hts⟩ := dp_lst (show Dp K H v (.list (c.map PyData.int)) from hv)
      rw [ints_of hts] at ht
      exact ⟨c, t, rfl, rfl, .inl ht⟩
theorem less_snoc (cs : List (List Int)) (c : List Int) (l : Int) : MC.less (cs ++ [c]) l = MC.less cs l ++ (if l ∈ c then [] else [MC.rest l c]) := by
  unfold MC.less
  rw [List.filter_append, List.map_append]
  by_cases h : l ∈ c
  · rw [if_pos h, List.filter_cons_of_neg (by simpa using h)] <;> rfl
  · rw [if_neg h, List.filter_cons_of_pos (by simpa using h)] <;> rfl
theorem less_len (cs : List (List Int)) (l : Int) : (MC.less cs l).length ≤ cs.length := by
  unfold MC.less
  rw [List.length_map]
  exact List.length_filter_le _ _
theorem ne_is (x l : Int) : (!decide (V.int x = V.int (-l))) = decide (x ≠ -l) := by
  by_cases h : x = -l
  · rw [decide_eq_true (by rw [h]), decide_eq_false (fun n => n h)] <;> rfl
  · rw [decide_eq_false (fun e => h (V.int.inj e)), decide_eq_true h] <;> rfl
def spLess (K : PySem.W.Frag) : Sp := fun vs H Q _ => ∃ (a : Addr) (l : Int) (xs : List V) (b : Bool) (cs : List (List Int)), vs = [.ref a, .int l] ∧ SqL K H a xs ∧ DpAll K H xs (cs.map (gcD b)) ∧ (∀ c ∈ cs, c.length ≤ 100) ∧ cs.length ≤ 100000 ∧
  (MC.Bare cs l → ∀ H', Same H H' → Q .non H') ∧ (¬ MC.Bare cs l → ∀ p ys H', Same H H' → SqL K H' p ys → DpAll K H' ys ((MC.less cs l).map (gcD false)) → Q (.ref p) H')
section
variable {P : Program} {w : World} {K : PySem.W.Frag} {mg : Str → Option Value} {base : Heap} {f : Addr} {fd : FuncData}
theorem ok__law_less (T : Txt K mg) (D : Def K mg "_law_less" ["clauses", "literal"] s__law_less f fd) : Own P w K mg base "_law_less" ["clauses", "literal"] 1 (spLess K) := by
  refine ⟨f, fd, D.mg, D.fn.kp, D.bd, D.fn.ok sc__law_less (fun vs H Q E h => ?_) (fun cdv A outer s H vs Q E hr h => ?_)⟩
  · obtain ⟨a, l, xs, b, cs, rfl, _⟩ := h
    rfl
  · obtain ⟨a, l, xs, b, cs, rfl, hS, hA, hcl, hlen, qb, q⟩ := h
    have hxl : xs.length = cs.length := by rw [dpa_len hA, List.length_map]
    refine ⟨_, (pss_cons (ps_set (i := 2) sc__law_less.nd rfl (Or.inl rfl) (pe_lst pa_nil))
      (pss_cons (ps_for PassesOwn.never rfl (pi_list (pv 0)) (pg_name (i := 3) sc__law_less.nd rfl (Or.inl rfl)) (pss_one (ps_if (pt_cmpR op_notIn_seq (pv 1) (pv 3) (by rfl)) (pss_cons (ps_setLc (i := 4) (own := [("x", 5)]) (g := gName 5) rfl sc__law_less.nd rfl rfl (sw_true rfl rfl rfl (by decide +kernel)) (pi_seq (pv 3)) (blkOk_by (N := N__law_less) (sc := defScope s__law_less) (own := [("x", 5)]) (by decide +kernel)) (fun _ _ _ _ _ => (pg_name (i := 5) sc__law_less.nd rfl (Or.inl rfl))) (fun _ _ _ _ _ => (pts_one (pt_cmpR op_ne (pv 5) (pe_un un_neg (pv 1)) (nomark _)))) (fun _ _ _ _ _ => (pv 5)))
      (pss_cons (ps_if (pt_cmpR (op_eqD hr.units) (pv 4) (pe_lst pa_nil) (nomark _)) (pss_one (ps_ret pe_non)) pss_nil)
      (pss_one (ps_expr (pe_bm PySem.F.plainAttrs_list PySem.F.slot_list_append PySem.F.type_list_append mt_append (pv 2) (pa_cons (pv 4) pa_nil)))))) pss_nil)))
      (pss_one (ps_ret (pv 2))))), ?_⟩
    refine ⟨by show 0 ≤ sizeLine; decide, fun F hF => ?_⟩
    refine ⟨_, rfl, a, rfl, ⟨_, sql_mono (same_new hF _) hS⟩, for_list (K := K) (a := a) (xs := xs) (fun i σ' H' => ∃ (ys : List V) (o3 o4 : Option V), σ' = [some (.ref a), some (.int l), some (.ref F), o3, o4, none] ∧ H' F = some (.lst ys) ∧ DpAll K (hide F H') ys ((MC.less (cs.take i) l).map (gcD false)) ∧ Same H H' ∧ ¬ MC.Bare (cs.take i) l ∧ i ≤ cs.length)
      ⟨[], none, none, rfl, upd_same, .nil, same_new hF _, fun ⟨c, hc, _⟩ => (by simp at hc), Nat.zero_le _⟩ (fun i σ' H' _ ⟨_, _, _, _, _, _, s, _⟩ => sql_mono s hS) ?_ ?_⟩
    · rintro i y σ' H' hi ⟨ys, o3, o4, rfl, hFl, hall, sm, nb, _⟩
      have hi' : i < cs.length := by rw [← hxl]; exact (List.getElem?_eq_some_iff.mp hi).1
      obtain ⟨c, t, hc, rfl, ht⟩ := dpa_atG (dpa_mono sm _ hA) hi
      have hcm := List.mem_of_getElem? hc
      have tk : cs.take (i + 1) = cs.take i ++ [c] := take_next hc
      have hlys : ys.length ≤ 100000 := by
        have := dpa_len hall
        rw [List.length_map] at this
        have h2 := less_len (cs.take i) l
        rw [List.length_take] at h2
        omega
      refine ⟨_, rfl, _, rfl, t, _, rfl, ht, rfl, flat_ints c, _, rfl, ite2 (fun k1 => ?_) (fun k1 => ?_)⟩
      · have nl : l ∉ c := by
          have k1 : (!inV (.int l) (c.map V.int)) = true := k1
          rw [inV_ints] at k1
          simpa using k1
        -- the rest
        have rest : ∀ (D1 : Addr) (H4 : Hp), H' D1 = none → H4 D1 = some (.lst ((c.filter fun x => decide (x ≠ -l)).map V.int)) → Same H' H4 → ∀ (H5 : Hp), Same H4 H5 → H5 D1 = some (.lst ((c.filter fun x => decide (x ≠ -l)).map V.int)) → D1 ≠ F ∧
            (c.filter (fun x => decide (x ≠ -l)) ≠ [] → ∃ (ys' : List V), H5 F = some (.lst ys) ∧ ys.length < sizeLine ∧ (∃ (ys' : List V) (o3 o4 : Option V), ([some (.ref a), some (.int l), some (.ref F), some (.ref t), some (.ref D1), none] : L2.St) = [some (.ref a), some (.int l), some (.ref F), o3, o4, none] ∧ (upd H5 F (.lst (ys ++ [.ref D1]))) F = some (.lst ys') ∧ DpAll K (hide F (upd H5 F (.lst (ys ++ [.ref D1])))) ys' ((MC.less (cs.take (i + 1)) l).map (gcD false)) ∧ Same H (upd H5 F (.lst (ys ++ [.ref D1]))) ∧ ¬ MC.Bare (cs.take (i + 1)) l ∧ i + 1 ≤ cs.length)) := fun D1 H4 hD1 h4 s4 H5 s5 h5 => by
          have ne : D1 ≠ F := fun e => by rw [e, hFl] at hD1; cases hD1
          refine ⟨ne, fun hne => ⟨ys, s5 _ _ (s4 _ _ hFl), by rw [sizeLine_eq]; omega, ys ++ [.ref D1], _, _, rfl, upd_same, ?_, fun b o hb => ?_, ?_, hi'⟩⟩
          · have e2 : Same (hide F H') (hide F (upd H5 F (.lst (ys ++ [.ref D1])))) := (hide_same (s4.trans s5)).trans (hide_put _)
            rw [tk, less_snoc, if_neg nl, List.map_append]
            refine dpa_app (dpa_mono e2 _ hall) (dpa_one (.lst (SqL.of ?_) (ints_all _)))
            rw [hide_ne ne, upd_ne ne, h5]
            rfl
          · rw [upd_ne (ne_of_none hb hF)]
            exact s5 _ _ (s4 _ _ (sm b o hb))
          · rw [tk]
            rintro ⟨d, hd, h1, h2⟩
            rcases List.mem_append.mp hd with h | h
            · exact nb ⟨d, h, h1, h2⟩
            · rw [List.mem_singleton.mp h] at h2
              exact hne h2
        refine ⟨_, rfl, t, rfl, ht.elim (fun ht => .inl ⟨⟨_, ht⟩, fun D1 hD1 => filt_list (fun x => decide (x ≠ -l)) ht (hcl c hcm) hD1 (fun _ => rfl) (fun x H4 R r => ⟨_, rfl, r⟩) (fun x H4 R hx s4 r => ⟨_, rfl, _, rfl, _, rfl, rfl, _, rfl, by rw [ne_is]; exact r⟩) fun H4 h4 s4 => ?_⟩)
          (fun ht => .inr ⟨⟨_, ht⟩, fun D1 hD1 => filt_tup (fun x => decide (x ≠ -l)) ht (hcl c hcm) hD1 (fun _ => rfl) (fun x H4 R r => ⟨_, rfl, r⟩) (fun x H4 R hx s4 r => ⟨_, rfl, _, rfl, _, rfl, rfl, _, rfl, by rw [ne_is]; exact r⟩) fun H4 h4 s4 => ?_⟩)⟩
        all_goals
          refine ⟨_, rfl, by show 0 ≤ sizeLine; decide, fun e0 he0 => ?_⟩
          have s5 := same_new he0 (.lst [])
          have h5 := s5 _ _ h4
          obtain ⟨ne, fin⟩ := rest D1 H4 hD1 h4 s4 _ s5 h5
          refine ⟨_, .list [], .lst (SqL.of h5) (ints_all _), .lst (SqL.of upd_same) .nil, shp_ints _, by rfl, _, rfl, ite2 (fun k2 => ?_) (fun k2 => ?_)⟩
          · have e : decide (c.filter (fun x => decide (x ≠ -l)) = []) = true := by rw [← eqv_nilI]; exact k2
            exact qb ⟨c, hcm, nl, of_decide_eq_true e⟩ _ ((sm.trans s4).trans s5)
          · obtain ⟨ys', h6, h7, h8⟩ := fin fun e => k2 (by rw [eqv_nilI]; exact decide_eq_true e)
            exact ⟨_, rfl, .inl ⟨rfl, _, SqL.of h6⟩, _, rfl, F, _, _, rfl, rfl, h6, h7, h8⟩
      · have il : l ∈ c := by
          have k1 : ¬ (!inV (.int l) (c.map V.int)) = true := k1
          rw [inV_ints] at k1
          simpa using k1
        refine ⟨ys, _, _, rfl, hFl, by rw [tk, less_snoc, if_pos il, List.append_nil]; exact hall, sm, ?_, hi'⟩
        rw [tk]
        rintro ⟨d, hd, h1, h2⟩
        rcases List.mem_append.mp hd with h | h
        · exact nb ⟨d, h, h1, h2⟩
        · rw [List.mem_singleton.mp h] at h1
          exact h1 il
    · rintro σ' H' ⟨ys, o3, o4, rfl, hFl, hall, sm, nb, _⟩
      rw [hxl, List.take_length] at hall nb
      exact ⟨_, rfl, q nb F ys H' sm (SqL.of hFl) (dpa_mono hide_le _ hall)⟩
end
end My

set_option Elab.async false
set_option maxRecDepth 100000
set_option maxHeartbeats 4000000
set_option linter.all false
namespace My
open PySem L2
open C8 (pss_cut)
theorem room65 {A : Around} {k : Nat} (hr : Room k A) : A.units + 65 < cLine := by have := hr.un; omega
/-- while, by a word that knows its measure -/
theorem while_w {c : TT} {tb : TS} {D : Ends} {σ : L2.St} {H : Hp} (Pv : Nat → L2.St → Hp → Prop) (h0 : ∃ m, Pv m σ H)
    (hs : ∀ m σ H, Pv m σ H → c σ H fun b H1 => if b = true then tb { D with nx := fun σ' H' => ∃ m', m' < m ∧ Pv m' σ' H', ct := fun σ' H' => ∃ m', m' < m ∧ Pv m' σ' H', bk := D.nx } σ H1 else D.nx σ H1)
    (mono : ∀ σ H Q Q', (∀ b H1, Q b H1 → Q' b H1) → c σ H Q → c σ H Q') : tWhile c tb D σ H := by
  refine ⟨Pv, h0, fun m σ H p => mono σ H _ _ (fun b H1 q => ?_) (hs m σ H p)⟩
  cases b with
  | true => exact ⟨_, fun σ' H' h => h, q⟩
  | false => exact q
def one1 : List Int → Option Int
  | [x] => some x
  | _ => none
def ones (cs : List (List Int)) : List Int := cs.filterMap one1
theorem mem_ones {cs : List (List Int)} {x : Int} : x ∈ ones cs ↔ [x] ∈ cs := by
  unfold ones
  rw [List.mem_filterMap]
  constructor
  · rintro ⟨c, hc, e⟩
    match c, e with
    | [y], e => rw [← Option.some.inj (show some y = some x from e)]; exact hc
  · intro h
    exact ⟨[x], h, rfl⟩
theorem ones_snoc (cs : List (List Int)) (c : List Int) : ones (cs ++ [c]) = ones cs ++ (match one1 c with | some x => [x] | none => []) := by
  unfold ones
  rw [List.filterMap_append]
  cases h : one1 c with
  | none => rw [List.filterMap_cons_none h] <;> rfl
  | some x => rw [List.filterMap_cons_some h] <;> rfl
theorem one1_len {c : List Int} : c.length = 1 ↔ ∃ x, c = [x] := by
  constructor
  · intro h
    match c, h with
    | [x], _ => exact ⟨x, rfl⟩
  · rintro ⟨x, rfl⟩
    rfl
theorem one1_no {c : List Int} (h : c.length ≠ 1) : one1 c = none := by
  match c, h with
  | [], _ => rfl
  | [x], h => exact absurd rfl h
  | x :: y :: r, _ => rfl
theorem ones_len (cs : List (List Int)) : (ones cs).length ≤ cs.length := List.length_filterMap_le _ _
theorem ones_lt {cs : List (List Int)} {l : Int} (h : l ∈ ones cs) : (MC.less cs l).length < cs.length := by
  have hm := mem_ones.1 h
  unfold MC.less
  rw [List.length_map]
  have : (cs.filter fun c => decide (l ∉ c)).length < cs.length := by
    refine Nat.lt_of_le_of_ne (List.length_filter_le _ _) fun e => ?_
    have := List.length_filter_eq_length_iff.mp e [l] hm
    simp at this
  exact this
theorem lay_gc (b : Bool) (c : List Int) : PyData.canLay0 (gcD b c) = true := by
  cases b
  · show PyData.canLay0 (.list (c.map PyData.int)) = true
    simp only [PyData.canLay0, lay_ints]
  · show PyData.canLay0 (.tuple (c.map PyData.int)) = true
    simp only [PyData.canLay0, lay_ints]
theorem dep_gc (b : Bool) (c : List Int) : PyData.depth (gcD b c) ≤ 1 := by
  cases b
  · show PyData.depth (.list (c.map PyData.int)) ≤ 1
    simp only [PyData.depth, dep_ints]
    decide
  · show PyData.depth (.tuple (c.map PyData.int)) ≤ 1
    simp only [PyData.depth, dep_ints]
    decide
theorem lay_gcs (b : Bool) : ∀ cs : List (List Int), PyData.canLayAll0 (cs.map (gcD b)) = true
  | [] => rfl
  | c :: cs => by
    rw [List.map_cons]
    simp only [PyData.canLayAll0, lay_gc, Bool.true_and]
    exact lay_gcs b cs
theorem dep_gcs (b : Bool) : ∀ cs : List (List Int), PyData.depthAll (cs.map (gcD b)) ≤ 1
  | [] => Nat.zero_le _
  | c :: cs => by
    rw [List.map_cons]
    simp only [PyData.depthAll]
    have h1 := dep_gc b c
    have h2 := dep_gcs b cs
    omega
theorem shp_gcs (b : Bool) (cs : List (List Int)) : SeqAt.shaped (.list (cs.map (gcD b))) = true := by
  have h := dep_gcs b cs
  show (PyData.canLay0 (.list (cs.map (gcD b))) && decide (PyData.depth (.list (cs.map (gcD b))) ≤ 64)) = true
  rw [Bool.and_eq_true]
  refine ⟨by simp only [PyData.canLay0]; exact lay_gcs b cs, decide_eq_true ?_⟩
  simp only [PyData.depth]
  omega
theorem any_lst (b : Bool) : ∀ cs : List (List Int), ((cs.map (gcD b)).any fun z => PyData.eqv z (.list [])) = (!b && decide ([] ∈ cs))
  | [] => by cases b <;> rfl
  | c :: cs => by
    rw [List.map_cons, List.any_cons, any_lst b cs]
    cases b with
    | true =>
      have e : PyData.eqv (gcD true c) (.list []) = false := by cases c <;> rfl
      rw [e] <;> rfl
    | false =>
      cases c with
      | nil => simp [gcD, lsD, PyData.eqv, PyData.eqvAll]
      | cons x r => simp [gcD, lsD, PyData.eqv, PyData.eqvAll]
theorem any_tup (b : Bool) : ∀ cs : List (List Int), ((cs.map (gcD b)).any fun z => PyData.eqv z (.tuple [])) = (b && decide ([] ∈ cs))
  | [] => by cases b <;> rfl
  | c :: cs => by
    rw [List.map_cons, List.any_cons, any_tup b cs]
    cases b with
    | false =>
      have e : PyData.eqv (gcD false c) (.tuple []) = false := by cases c <;> rfl
      rw [e] <;> rfl
    | true =>
      cases c with
      | nil => simp [gcD, clD, PyData.eqv, PyData.eqvAll]
      | cons x r => simp [gcD, clD, PyData.eqv, PyData.eqvAll]
theorem eqv_nilG (b : Bool) (cs : List (List Int)) : PyData.eqv (.list (cs.map (gcD b))) (.list []) = decide (cs = []) := by
  cases cs with
  | nil => rfl
  | cons a r => rfl
/-- clauses as a list of clauses stands -/
structure CsAt (K : PySem.W.Frag) (H : Hp) (a : Addr) (xs : List V) (b : Bool) (cs : List (List Int)) : Prop where
  sq : SqL K H a xs
  all : DpAll K H xs (cs.map (gcD b))
  nz : MC.Nz cs
  len : ∀ c ∈ cs, c.length ≤ 100
  many : cs.length ≤ 100000
theorem CsAt.mono {K : PySem.W.Frag} {H H' : Hp} {a : Addr} {xs : List V} {b : Bool} {cs : List (List Int)} (C : CsAt K H a xs b cs) (s : Same H H') : CsAt K H' a xs b cs := ⟨sql_mono s C.sq, dpa_mono s _ C.all, C.nz, C.len, C.many⟩
theorem CsAt.dp {K : PySem.W.Frag} {H : Hp} {a : Addr} {xs : List V} {b : Bool} {cs : List (List Int)} (C : CsAt K H a xs b cs) : Dp K H (.ref a) (.list (cs.map (gcD b))) := .lst C.sq C.all
theorem CsAt.xl {K : PySem.W.Frag} {H : Hp} {a : Addr} {xs : List V} {b : Bool} {cs : List (List Int)} (C : CsAt K H a xs b cs) : xs.length = cs.length := by rw [dpa_len C.all, List.length_map]
theorem CsAt.less {K : PySem.W.Frag} {H H' : Hp} {a p : Addr} {xs ys : List V} {b : Bool} {cs : List (List Int)} {l : Int} (C : CsAt K H a xs b cs) (h1 : SqL K H' p ys) (h2 : DpAll K H' ys ((MC.less cs l).map (gcD false))) : CsAt K H' p ys false (MC.less cs l) :=
  ⟨h1, h2, MC.nz_less C.nz, fun d hd => by
    obtain ⟨c, hc, _, rfl⟩ := MC.mem_less.1 hd
    exact Nat.le_trans (List.length_filter_le _ _) (C.len c hc), Nat.le_trans (less_len _ _) C.many⟩
/-- [row[0] for row in clauses if len(row) == 1] -/
theorem lc_ones {K : PySem.W.Frag} {a : Addr} {xs : List V} {b : Bool} {cs : List (List Int)} {k : Nat} {tt : TT} {te : TE} {vs : List Nat} {σ : L2.St} {H1 : Hp} {D : Addr} {Qd : Hp → Prop} (C : CsAt K H1 a xs b cs) (hD : H1 D = none) (hw : ∀ x, wipe ((wipe σ vs).set k (some x)) vs = wipe σ vs)
    (ht : ∀ (t : Addr) (c : List Int) H2 (R : Bool → Hp → Prop), (SqL K H2 t (c.map V.int) ∨ SqT K H2 t (c.map V.int)) → R (decide (c.length = 1)) H2 → tt ((wipe σ vs).set k (some (.ref t))) H2 R)
    (he : ∀ (t : Addr) (x : Int) H2 (R : VK), (SqL K H2 t [V.int x] ∨ SqT K H2 t [V.int x]) → R (.int x) H2 → te ((wipe σ vs).set k (some (.ref t))) H2 R)
    (hq : ∀ H2, H2 D = some (.lst ((ones cs).map V.int)) → Same H1 H2 → Qd H2) :
    ∃ W : Nat → Nat → Hp → Prop, (∃ m, W 0 m (upd H1 D (.lst []))) ∧ ∀ i m H, W i m H →
      ((Itl K a).stop i H ∧ Qd H) ∨ ((Itl K a).go i H ∧ ∃ Nx : Hp → Prop, (∀ H', Nx H' → ∃ m', m' < m ∧ W (i + 1) m' H') ∧ ∀ x H', (Itl K a).yld i H x H' → gName k x (wipe σ vs) H' fun σ2 H2 => wipe σ2 vs = wipe σ vs ∧ tt σ2 H2 fun b H3 =>
        if b = true then te σ2 H3 fun y H4 => ∃ acc, H4 D = some (.lst acc) ∧ acc.length < sizeLine ∧ Nx (upd H4 D (.lst (acc ++ [y]))) else Nx H3) := by
  refine lc_list (K := K) (a := a) (xs := xs) (fun i H2 => H2 D = some (.lst ((ones (cs.take i)).map V.int)) ∧ Same H1 H2 ∧ i ≤ cs.length) ⟨upd_same, same_new hD _, Nat.zero_le _⟩ (fun i H2 _ ⟨_, s, _⟩ => sql_mono s C.sq) ?_ ?_
  · rintro i y H2 hi ⟨h1, s, _⟩
    have hi' : i < cs.length := by rw [← C.xl]; exact (List.getElem?_eq_some_iff.mp hi).1
    obtain ⟨c, t, hc, rfl, htt⟩ := dpa_atG (dpa_mono s _ C.all) hi
    refine ⟨hw _, ht t c H2 _ htt ?_⟩
    by_cases h : c.length = 1
    · obtain ⟨x, rfl⟩ := one1_len.1 h
      rw [if_pos (decide_eq_true h)]
      refine he t x H2 _ htt ⟨_, h1, ?_, ?_, fun b o hb => ?_, hi'⟩
      · have h2 := ones_len (cs.take i)
        have h3 := C.many
        rw [List.length_take] at h2
        rw [List.length_map, sizeLine_eq]
        omega
      · rw [upd_same, take_next hc, ones_snoc, List.map_append] <;> rfl
      · rw [upd_ne (ne_of_none hb hD)]
        exact s b o hb
    · rw [if_neg (by rw [decide_eq_false h]; decide)]
      exact ⟨by rw [take_next hc, ones_snoc, one1_no h, List.append_nil]; exact h1, s, hi'⟩
  · rintro H2 ⟨h1, s, _⟩
    rw [C.xl, List.take_length] at h1
    exact hq H2 h1 s
def spCan (K : PySem.W.Frag) (m : Nat) : Sp := fun vs H Q _ => ∃ (k : Nat) (a : Addr) (xs : List V) (b : Bool) (cs : List (List Int)), m = k + 1 ∧ vs = [.ref a] ∧ CsAt K H a xs b cs ∧ MC.Vin k cs ∧ ∀ bb H', (bb = true ↔ MC.Sat cs) → Same H H' → Q (.bl bb) H'
end My

set_option Elab.async false
set_option maxRecDepth 100000
set_option maxHeartbeats 4000000
set_option linter.all false
namespace My
open PySem L2
open C8 (pss_cut)
theorem len_one (c : List Int) : decide (V.int ((c.map V.int).length : Int) = V.int 1) = decide (c.length = 1) := by
  rw [List.length_map]
  by_cases h : c.length = 1
  · rw [decide_eq_true h, h] <;> rfl
  · rw [decide_eq_false h]
    exact decide_eq_false fun e => h (by have := V.int.inj e; omega)
section
variable {P : Program} {w : World} {K : PySem.W.Frag} {mg : Str → Option Value} {base : Heap} {f : Addr} {fd : FuncData}
theorem ok__law_can0 (D : Def K mg "_law_can" ["clauses"] s__law_can f fd) : Own P w K mg base "_law_can" ["clauses"] 1 (spCan K 0) :=
  ⟨f, fd, D.mg, D.fn.kp, D.bd, fn_never fun vs H Q E ⟨k, a, xs, b, cs, e, _⟩ => by cases e⟩
theorem ok__law_can1 {m : Nat} (T : Txt K mg) (D : Def K mg "_law_can" ["clauses"] s__law_can f fd) (O1 : Own P w K mg base "_law_less" ["clauses", "literal"] 1 (spLess K)) (O2 : Own P w K mg base "_law_can" ["clauses"] (m + 1) (spCan K m)) : Own P w K mg base "_law_can" ["clauses"] (m + 2) (spCan K (m + 1)) := by
  obtain ⟨f_law_less, fd_law_less, m_law_less, k_law_less, b_law_less, G_law_less⟩ := O1
  obtain ⟨f_law_can, fd_law_can, m_law_can, k_law_can, b_law_can, G_law_can⟩ := O2
  refine ⟨f, fd, D.mg, D.fn.kp, D.bd, D.fn.ok sc__law_can (fun vs H Q E h => ?_) (fun cdv A outer s H vs Q E hr h => ?_)⟩
  · obtain ⟨k, a, xs, b, cs, _, rfl, _⟩ := h
    rfl
  · obtain ⟨k, a, xs, b, cs, ek, rfl, C, V0, q⟩ := h
    obtain rfl : m = k := by omega
    refine ⟨_, (pss_cons (ps_if (PW.pt (pw_or (pt_cmpR (op_inD (room65 hr)) (pe_lst pa_nil) (pv 0) (by rfl)) (pw_or1 (pt_cmpR (op_inD (room65 hr)) (pe_tup pa_nil) (pv 0) (by rfl))))) (pss_one (ps_ret pe_bl)) pss_nil)
      (pss_cons (ps_setLc (i := 1) (own := [("row", 5)]) (g := gName 5) rfl sc__law_can.nd rfl rfl (sw_true rfl rfl rfl (by decide +kernel)) (pi_list (pv 0)) (blkOk_by (N := N__law_can) (sc := defScope s__law_can) (own := [("row", 5)]) (by decide +kernel)) (fun _ _ _ _ _ => (pg_name (i := 5) sc__law_can.nd rfl (Or.inl rfl))) (fun _ _ _ _ _ => (pts_one (pt_cmpR op_eq (pe_callB (call_len_seqK (K := K) rfl) (by rfl) T.m_len (by decide +kernel) (pa_cons (pv 5) pa_nil)) pe_int (nomark _)))) (fun _ _ _ _ _ => (pe_ix (ix_seqK (K := K) rfl) (pv 5) pe_int (fun _ _ => rfl))))
      (pss_cons (ps_while PassesOwn.never (pt_cmpR (op_neD hr.units) (pv 1) (pe_lst pa_nil) (nomark _)) (pss_cons (ps_set (i := 0) sc__law_can.nd rfl (Or.inl rfl) (pe_call G_law_less (hr.mono (by omega)) rfl m_law_less k_law_less b_law_less .nil pass0 (pa_cons (pv 0) (pa_cons (pe_ix ix_list (pv 1) pe_int (fun _ _ => rfl)) pa_nil))))
      (pss_cons (ps_if (pt_cmpR op_isN (pv 0) pe_non (nomark _)) (pss_one (ps_ret pe_bl)) pss_nil)
      (pss_one (ps_setLc (i := 1) (own := [("row", 5)]) (g := gName 5) rfl sc__law_can.nd rfl rfl (sw_true rfl rfl rfl (by decide +kernel)) (pi_list (pv 0)) (blkOk_by (N := N__law_can) (sc := defScope s__law_can) (own := [("row", 5)]) (by decide +kernel)) (fun _ _ _ _ _ => (pg_name (i := 5) sc__law_can.nd rfl (Or.inl rfl))) (fun _ _ _ _ _ => (pts_one (pt_cmpR op_eq (pe_callB (call_len_seqK (K := K) rfl) (by rfl) T.m_len (by decide +kernel) (pa_cons (pv 5) pa_nil)) pe_int (nomark _)))) (fun _ _ _ _ _ => (pe_ix (ix_seqK (K := K) rfl) (pv 5) pe_int (fun _ _ => rfl))))))))
      (pss_cons (ps_if (pt_cmpR (op_eqD hr.units) (pv 0) (pe_lst pa_nil) (nomark _)) (pss_one (ps_ret pe_bl)) pss_nil)
      (pss_cons (ps_set (i := 2) sc__law_can.nd rfl (Or.inl rfl) (pe_ix ix_seq (pe_ix ix_list (pv 0) pe_int (fun _ _ => rfl)) pe_int (fun _ _ => rfl)))
      (pss_cons (ps_for PassesOwn.never rfl (pi_list (pe_lst (pa_cons (pv 2) (pa_cons (pe_un un_neg (pv 2)) pa_nil)))) (pg_name (i := 3) sc__law_can.nd rfl (Or.inl rfl)) (pss_cons (ps_set (i := 4) sc__law_can.nd rfl (Or.inl rfl) (pe_call G_law_less (hr.mono (by omega)) rfl m_law_less k_law_less b_law_less .nil pass0 (pa_cons (pv 0) (pa_cons (pv 3) pa_nil))))
      (pss_one (ps_if (PW.pt (pw_and (pt_cmpR op_notN (pv 4) pe_non (nomark _)) (pw_and1 (pt_val (pe_call G_law_can (hr.mono (by omega)) rfl m_law_can k_law_can b_law_can .nil pass0 (pa_cons (pv 4) pa_nil)))))) (pss_one (ps_ret pe_bl)) pss_nil))))
      (pss_one (ps_ret pe_bl)))))))), ?_⟩
    refine ⟨by show 0 ≤ sizeLine; decide, fun e0 he0 => ?_⟩
    have s1 := same_new he0 (.lst [])
    refine ⟨_, rfl, .list [], _, .lst (SqL.of upd_same) .nil, (C.mono s1).dp, by rfl, shp_gcs b cs, _, rfl, ite2 (fun c1 => ?_) (fun c1 => ?_)⟩
    · rw [any_lst] at c1
      have := (Bool.and_eq_true_iff.mp c1).2
      exact q false _ ⟨fun e => (by cases e), fun h => absurd h (MC.not_sat_empty (of_decide_eq_true this))⟩ s1
    refine ⟨by show 0 ≤ sizeLine; decide, fun e1 he1 => ?_⟩
    have s2 := s1.trans (same_new he1 (.tup []))
    refine ⟨_, rfl, .tuple [], _, .tup (SqT.of upd_same) .nil, (C.mono s2).dp, by rfl, shp_gcs b cs, _, rfl, ite2 (fun c2 => ?_) (fun c2 => ?_)⟩
    · rw [any_tup] at c2
      have := (Bool.and_eq_true_iff.mp c2).2
      exact q false _ ⟨fun e => (by cases e), fun h => absurd h (MC.not_sat_empty (of_decide_eq_true this))⟩ s2
    have ne : [] ∉ cs := fun h => by
      rw [any_lst] at c1
      rw [any_tup] at c2
      cases b
      · exact c1 (by rw [decide_eq_true h] <;> rfl)
      · exact c2 (by rw [decide_eq_true h] <;> rfl)
    have C2 := C.mono s2
    refine ⟨_, rfl, a, rfl, ⟨_, C2.sq⟩, fun D1 hD1 => lc_ones C2 hD1 (fun _ => rfl) (fun t c H4 R htt r => ?_) (fun t x H4 R htt r => ?_) fun H3 h3 s3 => ?_⟩
    · exact ⟨_, rfl, t, _, rfl, htt, rfl, _, rfl, by rw [len_one]; exact r⟩
    · exact ⟨_, rfl, htt.elim (fun h => .inl ⟨t, _, 0, .int x, rfl, rfl, h, rfl, r⟩) fun h => .inr (.inl ⟨t, _, 0, .int x, rfl, rfl, h, rfl, r⟩)⟩
    · refine while_w (fun n σ' H' => ∃ (a' o1 : Addr) (xs' : List V) (b' : Bool) (cs' : List (List Int)), σ' = [some (.ref a'), some (.ref o1), none, none, none, none] ∧ CsAt K H' a' xs' b' cs' ∧ MC.Vin m cs' ∧ [] ∉ cs' ∧ (MC.Sat cs' ↔ MC.Sat cs) ∧ H' o1 = some (.lst ((ones cs').map V.int)) ∧ Same H H' ∧ n = cs'.length)
        ⟨_, a, D1, xs, b, cs, rfl, C2.mono s3, V0, ne, Iff.rfl, h3, s2.trans s3, rfl⟩ ?_ ?_
      · rintro n σ4 H4 ⟨a', o1, xs', b', cs', rfl, C4, V4, ne4, sat4, h4, s4, rfl⟩
        refine ⟨_, rfl, by show 0 ≤ sizeLine; decide, fun e2 he2 => ?_⟩
        have s5 := same_new he2 (.lst [])
        have h5 := s5 _ _ h4
        refine ⟨_, .list [], .lst (SqL.of h5) (ints_all _), .lst (SqL.of upd_same) .nil, shp_ints _, by rfl, _, rfl, ite2 (fun c3 => ?_) (fun c3 => ?_)⟩
        · have no : ones cs' ≠ [] := fun e => by
            have c3 : (!PyData.eqv (.list ((ones cs').map PyData.int)) (.list [])) = true := c3
            rw [eqv_nilI, decide_eq_true e] at c3
            cases c3
          obtain ⟨l, r, el⟩ := List.exists_cons_of_ne_nil no
          have hl : l ∈ ones cs' := by rw [el]; exact List.mem_cons_self
          have hlm := mem_ones.1 hl
          have l0 : l ≠ 0 := C4.nz [l] hlm l (List.mem_singleton.mpr rfl)
          have C5 := C4.mono s5
          obtain ⟨k', _, Vk⟩ := MC.vin_less V4 hlm (.inl (List.mem_singleton.mpr rfl))
          have satl : MC.Sat (MC.less cs' l) ↔ MC.Sat cs := (MC.sat_unit l0 hlm).symm.trans sat4
          refine ⟨_, rfl, _, rfl, o1, _, 0, .int l, rfl, rfl, SqL.of h5, by rw [el]; exact atI_nat (xs := (l :: r).map V.int) (j := 0) rfl, a', l, xs', b', cs', rfl, C5.sq, C5.all, C5.len, C5.many, fun ba H6 s6 => ?_, fun nba p ys H6 s6 h6 h7 => ?_⟩
          · refine ⟨_, rfl, rfl, _, rfl, ite2 (fun _ => ?_) (fun c4 => absurd (decide_eq_true rfl) c4)⟩
            exact q false _ ⟨fun e => (by cases e), fun h => absurd (satl.2 h) (MC.not_sat_empty (MC.bare_iff.1 ba))⟩ ((s4.trans s5).trans s6)
          · have C6 := C5.less h6 h7
            refine ⟨_, rfl, rfl, _, rfl, ite2 (fun c4 => by cases of_decide_eq_true c4) (fun _ => ?_)⟩
            refine ⟨_, rfl, p, rfl, ⟨_, C6.sq⟩, fun D2 hD2 => lc_ones C6 hD2 (fun _ => rfl) (fun t c H4 R htt r => ?_) (fun t x H4 R htt r => ?_) fun H7 h8 s7 => ?_⟩
            · exact ⟨_, rfl, t, _, rfl, htt, rfl, _, rfl, by rw [len_one]; exact r⟩
            · exact ⟨_, rfl, htt.elim (fun h => .inl ⟨t, _, 0, .int x, rfl, rfl, h, rfl, r⟩) fun h => .inr (.inl ⟨t, _, 0, .int x, rfl, rfl, h, rfl, r⟩)⟩
            · refine ⟨_, ones_lt hl, p, D2, ys, false, MC.less cs' l, rfl, C6.mono s7, ?_, fun h => nba (MC.bare_iff.2 h), satl, h8, ((s4.trans s5).trans s6).trans s7, rfl⟩
              obtain ⟨vs, hv1, hv2⟩ := Vk
              exact ⟨vs, by omega, hv2⟩
        · have no : ones cs' = [] := by
            have c3 : ¬ (!PyData.eqv (.list ((ones cs').map PyData.int)) (.list [])) = true := c3
            rw [eqv_nilI] at c3
            simpa using c3
          -- all of it
          refine ⟨_, rfl, by show 0 ≤ sizeLine; decide, fun e3 he3 => ?_⟩
          have s6 := s5.trans (same_new he3 (.lst []))
          have C6 := C4.mono s6
          refine ⟨_, .list [], C6.dp, .lst (SqL.of upd_same) .nil, shp_gcs b' cs', by rfl, _, rfl, ite2 (fun c4 => ?_) (fun c4 => ?_)⟩
          · rw [eqv_nilG] at c4
            refine q true _ ⟨fun _ => sat4.1 ?_, fun _ => rfl⟩ (s4.trans s6)
            rw [of_decide_eq_true c4]
            exact MC.sat_nil
          · have hne : cs' ≠ [] := fun e => c4 (by rw [eqv_nilG]; exact decide_eq_true e)
            obtain ⟨c0, r0, ec0⟩ := List.exists_cons_of_ne_nil hne
            have c0m : c0 ∈ cs' := by rw [ec0]; exact List.mem_cons_self
            have c0n : c0 ≠ [] := fun e => ne4 (by rw [← e]; exact c0m)
            obtain ⟨x, r1, ex⟩ := List.exists_cons_of_ne_nil c0n
            have xm : x ∈ c0 := by rw [ex]; exact List.mem_cons_self
            have x0 : x ≠ 0 := C4.nz c0 c0m x xm
            have xlen : 0 < xs'.length := by rw [C4.xl, ec0]; exact Nat.succ_pos _
            obtain ⟨c0', t, hc0, et, htt⟩ := dpa_atG C6.all (List.getElem?_eq_getElem xlen)
            have ec : c0' = c0 := by
              rw [ec0] at hc0
              exact (Option.some.inj hc0).symm
            rw [ec, ex] at htt
            have at0 : atI xs' 0 = some (.ref t) := by rw [← et]; exact atI_nat (xs := xs') (j := 0) (List.getElem?_eq_getElem xlen)
            have at1 : atI ((x :: r1).map V.int) 0 = some (.int x) := atI_nat (xs := (x :: r1).map V.int) (j := 0) rfl
            refine ⟨_, rfl, a', _, 0, .ref t, rfl, rfl, C6.sq, at0, htt.elim (fun h => .inl ⟨t, _, 0, .int x, rfl, rfl, h, at1, ?_⟩) fun h => .inr (.inl ⟨t, _, 0, .int x, rfl, rfl, h, at1, ?_⟩)⟩
            all_goals
              refine ⟨_, rfl, _, rfl, _, rfl, by show 2 ≤ sizeLine; decide, fun p2 hp2 => ?_⟩
              have s7 := s6.trans (same_new hp2 (.lst [.int x, .int (-x)]))
              refine ⟨p2, rfl, ⟨_, SqL.of upd_same⟩, for_list (K := K) (a := p2) (xs := [.int x, .int (-x)]) (fun i σ' H' => ∃ (o3 o4 : Option V), σ' = [some (.ref a'), some (.ref o1), some (.int x), o3, o4, none] ∧ Same (upd (upd H4 e2 (.lst [])) e3 (.lst [])) H' ∧ H' p2 = some (.lst [.int x, .int (-x)]) ∧ (1 ≤ i → ¬ MC.Sat (MC.less cs' x)) ∧ (2 ≤ i → ¬ MC.Sat (MC.less cs' (-x))))
                ⟨none, none, rfl, same_new hp2 _, upd_same, fun h => absurd h (by omega), fun h => absurd h (by omega)⟩ (fun i σ' H' _ ⟨_, _, _, _, h, _⟩ => SqL.of h) ?_ ?_⟩
              · rintro i y σ' H8 hi ⟨o3, o4, rfl, s8, hp8, n1, n2⟩
                obtain ⟨lt, rfl, hlt⟩ : ∃ lt, y = V.int lt ∧ ((i = 0 ∧ lt = x) ∨ (i = 1 ∧ lt = -x)) := by
                  match i, hi with
                  | 0, hi => exact ⟨x, (Option.some.inj hi).symm, .inl ⟨rfl, rfl⟩⟩
                  | 1, hi => exact ⟨-x, (Option.some.inj hi).symm, .inr ⟨rfl, rfl⟩⟩
                  | i + 2, hi => exact absurd hi (by simp)
                have ltm : lt ∈ c0 ∨ -lt ∈ c0 := by
                  rcases hlt with ⟨_, e⟩ | ⟨_, e⟩
                  · left; rw [e]; exact xm
                  · right; rw [e, Int.neg_neg]; exact xm
                have lt0 : lt ≠ 0 := by rcases hlt with ⟨_, e⟩ | ⟨_, e⟩ <;> omega
                have C8 := C6.mono s8
                obtain ⟨k', ek', Vk⟩ := MC.vin_less V4 c0m ltm
                -- the side is closed
                have shut : ∀ H9, Same H8 H9 → ¬ MC.Sat (MC.less cs' lt) → ∀ o4', ∃ (o3 o4 : Option V), ([some (.ref a'), some (.ref o1), some (.int x), some (.int lt), o4', none] : L2.St) = [some (.ref a'), some (.ref o1), some (.int x), o3, o4, none] ∧ Same (upd (upd H4 e2 (.lst [])) e3 (.lst [])) H9 ∧ H9 p2 = some (.lst [.int x, .int (-x)]) ∧ (1 ≤ i + 1 → ¬ MC.Sat (MC.less cs' x)) ∧ (2 ≤ i + 1 → ¬ MC.Sat (MC.less cs' (-x))) := fun H9 s9 ns o4' => by
                  refine ⟨_, o4', rfl, s8.trans s9, s9 _ _ hp8, fun _ => ?_, fun h => ?_⟩
                  · rcases hlt with ⟨_, e⟩ | ⟨ei, _⟩
                    · rw [← e]; exact ns
                    · exact n1 (by omega)
                  · rcases hlt with ⟨ei, _⟩ | ⟨_, e⟩
                    · omega
                    · rw [← e]; exact ns
                refine ⟨_, rfl, _, rfl, a', lt, xs', b', cs', rfl, C8.sq, C8.all, C8.len, C8.many, fun ba H9 s9 => ?_, fun nba p ys H9 s9 h6 h7 => ?_⟩
                · refine ⟨_, rfl, rfl, _, rfl, ite2 (fun c5 => absurd c5 (by decide)) (fun _ => ?_)⟩
                  exact shut H9 s9 (MC.not_sat_empty (MC.bare_iff.1 ba)) _
                · have C9 := C8.less h6 h7
                  refine ⟨_, rfl, rfl, _, rfl, ite2 (fun _ => ?_) (fun c5 => absurd (by rfl) c5)⟩
                  refine ⟨_, rfl, k', p, ys, false, MC.less cs' lt, ek', rfl, C9, Vk, fun bb H10 hbb s10 => ?_⟩
                  refine ⟨bb, rfl, ?_⟩
                  cases bb with
                  | true => exact q true _ ⟨fun _ => sat4.1 (MC.sat_less_of lt0 (hbb.1 rfl)), fun _ => rfl⟩ ((((s4.trans s6).trans s8).trans s9).trans s10)
                  | false => exact shut H10 (s9.trans s10) (fun h => by cases hbb.2 h) _
              · rintro σ' H8 ⟨o3, o4, rfl, s8, _, n1, n2⟩
                refine q false _ ⟨fun e => (by cases e), fun h => ?_⟩ ((s4.trans s6).trans s8)
                rcases (MC.sat_split x0).1 (sat4.2 h) with z | z
                · exact absurd z (n1 (by show 1 ≤ 2; decide))
                · exact absurd z (n2 (by show 2 ≤ 2; decide))
      · rintro σ2 H2 Q1 Q2 imp ⟨v, h1, hz, h2⟩
        exact ⟨v, h1, hz, fun p hp => by
          obtain ⟨d, e, g1, g2, g3, g4, k, g5, g6⟩ := h2 p hp
          exact ⟨d, e, g1, g2, g3, g4, k, g5, imp _ _ g6⟩⟩
theorem ok__law_can (T : Txt K mg) (D : Def K mg "_law_can" ["clauses"] s__law_can f fd) (O1 : Own P w K mg base "_law_less" ["clauses", "literal"] 1 (spLess K)) : ∀ m, Own P w K mg base "_law_can" ["clauses"] (m + 1) (spCan K m)
  | 0 => ok__law_can0 D
  | m + 1 => ok__law_can1 T D O1 (ok__law_can T D O1 m)
end
end My

set_option Elab.async false
set_option maxRecDepth 100000
set_option maxHeartbeats 4000000
set_option linter.all false
namespace My
open PySem L2
/-- the program's own follows: clauses as a list or a tuple -/
def spFollowsC (K : PySem.W.Frag) : Sp := fun vs H Q _ => ∃ (a t : Addr) (xs : List V) (cs : List (List Int)) (row : List Int), vs = [.ref a, .ref t] ∧ (SqL K H a xs ∨ SqT K H a xs) ∧ DpAll K H xs (cs.map clD) ∧ SqT K H t (row.map V.int) ∧ (∀ c ∈ cs, goodC c) ∧ goodC row ∧ cs.length ≤ 1000 ∧ (∃ ns : List Int, ns.length ≤ 60 ∧ ∀ c ∈ row :: cs, ∀ x ∈ c, ab x ∈ ns) ∧
  ∀ b H', (b = true ↔ MC.Conf cs row) → Same H H' → Q (.bl b) H'
end My

set_option Elab.async false
set_option maxRecDepth 100000
set_option maxHeartbeats 4000000
set_option linter.all false
namespace My
open PySem L2 RT
open C8 (pss_cut)
def spLaw (K : PySem.W.Frag) : Sp := fun vs H Q _ => ∃ (a : Addr) (ns : List Int), vs = [.ref a] ∧ SqL K H a (ns.map V.int) ∧ ns.length ≤ 63 ∧ ∀ H', Q (.bl true) H'
theorem ab_in {l : List Int} {x : Int} (hp : ∀ y ∈ l, 0 < y) (h : x ∈ l ∨ -x ∈ l) : ab x ∈ l := by
  unfold ab
  rcases h with h | h
  · have := hp x h
    rw [if_neg (by omega)]
    exact h
  · have := hp _ h
    rw [if_pos (by omega)]
    exact h
theorem conf_rev {cs : List (List Int)} {row : List Int} : MC.Conf cs.reverse row ↔ MC.Conf cs row :=
  ⟨MC.conf_mono fun c h => List.mem_reverse.mp h, MC.conf_mono fun c h => List.mem_reverse.mpr h⟩
theorem dpa_rev {K : PySem.W.Frag} {H : Hp} : ∀ {xs : List V} {ds : List PyData}, DpAll K H xs ds → DpAll K H xs.reverse ds.reverse
  | _, _, .nil => .nil
  | _, _, .cons h t => by
    rw [List.reverse_cons, List.reverse_cons]
    exact dpa_app (dpa_rev t) (dpa_one h)
theorem cut_to (xs : List V) (k : Nat) : cutV xs none (some (k : Int)) = xs.take k := by
  unfold cutV
  rw [HT.sIx_none, HT.sIx_nat, List.drop_zero, Nat.sub_zero]
  rcases Nat.le_total k xs.length with h | h
  · rw [Nat.min_eq_left h]
  · rw [Nat.min_eq_right h, List.take_length, List.take_of_length_le h]
def all35 : List Int := [1, 2, 3, 4, 9, 77]
theorem bool_same {a b : Bool} {p : Prop} (h1 : a = true ↔ p) (h2 : b = true ↔ p) : a = b := by
  cases a <;> cases b
  · rfl
  · exact h1.2 (h2.1 rfl)
  · exact (h2.2 (h1.1 rfl)).symm
  · rfl
section
variable {P : Program} {w : World} {K : PySem.W.Frag} {mg : Str → Option Value} {base : Heap} {f : Addr} {fd : FuncData}
theorem ok_law (T : Txt K mg) (D : Def K mg "law" ["script"] s_law f fd) (O0 : Own P w K mg base "_law_draw" ["script"] 1 (spDraw K)) (O1 : Own P w K mg base "_law_take" ["draw", "many"] 1 spTake) (O2 : Own P w K mg base "_law_clause" ["draw", "names", "most"] 2 (spClause K)) (O3 : Own P w K mg base "_law_clauses" ["draw", "names", "many", "most"] 3 (spClauses K))
    (O4 : Own P w K mg base "_law_follows" ["clauses", "row"] 1 (spFollows K)) (O5 : Own P w K mg base "follows" ["clauses", "clause"] 8 (spFollowsC K)) (O6 : Own P w K mg base "_law_can" ["clauses"] 9 (spCan K 8)) : FnOk P w K mg base CX0 10 f fd ["script"] (spLaw K) := by
  obtain ⟨f_law_draw, fd_law_draw, m_law_draw, k_law_draw, b_law_draw, G_law_draw⟩ := O0
  obtain ⟨f_law_take, fd_law_take, m_law_take, k_law_take, b_law_take, G_law_take⟩ := O1
  obtain ⟨f_law_clause, fd_law_clause, m_law_clause, k_law_clause, b_law_clause, G_law_clause⟩ := O2
  obtain ⟨f_law_clauses, fd_law_clauses, m_law_clauses, k_law_clauses, b_law_clauses, G_law_clauses⟩ := O3
  obtain ⟨f_law_follows, fd_law_follows, m_law_follows, k_law_follows, b_law_follows, G_law_follows⟩ := O4
  obtain ⟨ffollows, fdfollows, mfollows, kfollows, bfollows, Gfollows⟩ := O5
  obtain ⟨f_law_can, fd_law_can, m_law_can, k_law_can, b_law_can, G_law_can⟩ := O6
  refine D.fn.ok sc_law (fun vs H Q E h => ?_) (fun cdv A outer s H vs Q E hr h => ?_)
  · obtain ⟨a, ns, rfl, _⟩ := h
    rfl
  · obtain ⟨a, ns0, rfl, hS, h63, q⟩ := h
    refine ⟨_, (pss_cons (ps_set (i := 1) sc_law.nd rfl (Or.inl rfl) (pe_call G_law_draw (hr.mono (by omega)) rfl m_law_draw k_law_draw b_law_draw .nil pass0 (pa_cons (pv 0) pa_nil)))
      (pss_cons (ps_set (i := 2) sc_law.nd rfl (Or.inl rfl) (pe_slice sl_list (pe_lst (pa_cons pe_int (pa_cons pe_int (pa_cons pe_int (pa_cons pe_int (pa_cons pe_int (pa_cons pe_int pa_nil))))))) po_none (po_some (pe_op op_add pe_int (pe_call G_law_take (hr.mono (by omega)) rfl m_law_take k_law_take b_law_take .nil pass0 (pa_cons (pv 1) (pa_cons pe_int pa_nil)))))))
      (pss_cons (ps_set (i := 3) sc_law.nd rfl (Or.inl rfl) (pe_call G_law_clauses (hr.mono (by omega)) rfl m_law_clauses k_law_clauses b_law_clauses .nil pass0 (pa_cons (pv 1) (pa_cons (pv 2) (pa_cons (pe_call G_law_take (hr.mono (by omega)) rfl m_law_take k_law_take b_law_take .nil pass0 (pa_cons (pv 1) (pa_cons pe_int pa_nil))) (pa_cons pe_int pa_nil))))))
      (pss_cons (ps_for PassesOwn.never rfl (pi_range1 (by rfl) T.m_range (pa_cons pe_int pa_nil)) (pg_name (i := 4) sc_law.nd rfl (Or.inl rfl)) (pss_cons (ps_set (i := 5) sc_law.nd rfl (Or.inl rfl) (pe_call G_law_clause (hr.mono (by omega)) rfl m_law_clause k_law_clause b_law_clause .nil pass0 (pa_cons (pv 1) (pa_cons (pe_op op_cat (pv 2) (pe_lst (pa_cons pe_int pa_nil))) (pa_cons pe_int pa_nil)))))
      (pss_cons (ps_set (i := 6) sc_law.nd rfl (Or.inl rfl) (pe_call G_law_follows (hr.mono (by omega)) rfl m_law_follows k_law_follows b_law_follows .nil pass0 (pa_cons (pv 3) (pa_cons (pv 5) pa_nil))))
      (pss_cons (ps_if (pt_cut (PW.pt (pw_or (pt_cmpR op_ne (pe_call Gfollows (hr.mono (by omega)) rfl mfollows kfollows bfollows .nil pass0 (pa_cons (pv 3) (pa_cons (pv 5) pa_nil))) (pv 6) (nomark _)) (pw_or1 (pt_cmpR op_ne (pe_call Gfollows (hr.mono (by omega)) rfl mfollows kfollows bfollows .nil pass0 (pa_cons (pe_tupRev rfl (by rfl) T.m_tuple (by rfl) T.m_reversed (pv 3)) (pa_cons (pv 5) pa_nil))) (pv 6) (nomark _)))))) (pss_one (ps_ret pe_bl)) pss_nil)
      (pss_one (ps_if (pt_cut (PW.pt (pw_and (pt_val (pv 6)) (pw_and1 (pt_val (pe_call G_law_can (hr.mono (by omega)) rfl m_law_can k_law_can b_law_can .nil pass0 (pa_cons (pe_op op_cat (pv 3) (pe_lc (own := [("x", 7)]) (g := gName 7) (tt := tYes) rfl sc_law.nd (pi_tup (pv 5)) (blkOk_by (N := N_law) (sc := defScope s_law) (own := [("x", 7)]) (by decide +kernel)) (fun _ _ _ _ _ => (pg_name (i := 7) sc_law.nd rfl (Or.inl rfl))) (fun _ _ _ _ _ => pts_nil) (fun _ _ _ _ _ => (pe_tup (pa_cons (pe_un un_neg (pv 7)) pa_nil))))) pa_nil))))))) (pss_one (ps_ret pe_bl)) pss_nil))))))
      (pss_one (ps_ret pe_bl)))))), ?_⟩
    refine ⟨_, rfl, a, ns0, rfl, hS, h63, fun d L H1 _ _ _ hD1 => ?_⟩
    refine ⟨by show 6 ≤ sizeLine; decide, fun p hp => ?_⟩
    refine ⟨_, rfl, d, L, 5, rfl, by decide, by decide, hD1.new hp, fun v H2 v0 v1 hD2 s2 => ?_⟩
    have hp2 : H2 p = some (.lst (all35.map V.int)) := hide_le _ _ (s2 _ _ (hD1.in hp))
    obtain ⟨k, ek, k5⟩ : ∃ k : Nat, v = (k : Int) ∧ k < 5 := ⟨v.toNat, by omega, by omega⟩
    refine ⟨_, _, rfl, rfl, _, rfl, p, _, rfl, SqL.of hp2, fun n hn => ?_⟩
    obtain ⟨ns, hns⟩ : ∃ ns, ns = all35.take (2 + k) := ⟨_, rfl⟩
    have cutE : cutV (all35.map V.int) none (some (2 + v)) = ns.map V.int := by
      have : (2 + v : Int) = ((2 + k : Nat) : Int) := by omega
      rw [this, cut_to, hns, List.map_take]
    rw [cutE]
    have nsl : 2 ≤ ns.length ∧ ns.length ≤ 6 := by
      rw [hns, List.length_take]
      have : all35.length = 6 := rfl
      omega
    have nsp : ∀ x ∈ ns, 0 < x := fun x hx => by
      rw [hns] at hx
      have : ∀ y ∈ all35, (0 : Int) < y := by decide
      exact this x (List.mem_of_mem_take hx)
    have nsn : ns ≠ [] := fun e => by rw [e] at nsl; exact absurd nsl.1 (by decide)
    have hD3 := hD2.new hn (o := .lst (ns.map V.int))
    refine ⟨_, rfl, _, rfl, _, rfl, d, L, 21, rfl, by decide, by decide, hD3, fun v2 H4 w0 w1 hD4 s4 => ?_⟩
    obtain ⟨k2, ek2, k22⟩ : ∃ k2 : Nat, v2 = (k2 : Int) ∧ k2 < 21 := ⟨v2.toNat, by omega, by omega⟩
    subst ek2
    have hn4 : hide d H4 n = some (.lst (ns.map V.int)) := s4 _ _ (hide_upd hD2.at.choose_spec hn)
    refine ⟨d, L, n, ns, k2, 3, rfl, hD4, SqL.of hn4, nsn, by omega, nsp, by decide, by decide, by omega, fun R cs xs H5 hD5 s5 fr hR neR hall hok hlen => ?_⟩
    have hok' : ∀ c ∈ cs, goodC c := fun c hc => (hok c hc).good nsp
    have hnz : MC.Nz cs := fun c hc x hx => (hok' c hc).nz x hx
    have hn5 : hide d H5 n = some (.lst (ns.map V.int)) := s5 _ _ hn4
    have hR5 : hide d H5 R = some (.lst xs) := by rw [hide_ne neR]; exact hR
    have hxl : xs.length = cs.length := by rw [dpa_len hall, List.length_map]
    refine ⟨6, rfl, by decide, by decide, for_range (fun i σ' H' => ∃ (o4 o5 o6 : Option V), σ' = [some (.ref a), some (.ref d), some (.ref n), some (.ref R), o4, o5, o6, none] ∧ DrawAt H' d L ∧ Same (hide d H5) (hide d H'))
      ⟨none, none, none, rfl, hD5, Same.refl _⟩ ?_ ?_⟩
    · rintro i σ' H6 hi ⟨o4, o5, o6, rfl, hD6, s6⟩
      have hn6 : H6 n = some (.lst (ns.map V.int)) := hide_le _ _ (s6 _ _ hn5)
      refine ⟨_, rfl, _, rfl, by show 1 ≤ sizeLine; decide, fun e0 he0 => ?_⟩
      have ne0 : n ≠ e0 := ne_of_none hn6 he0
      refine ⟨n, e0, _, _, rfl, rfl, by rw [upd_ne ne0]; exact hn6, upd_same, by rw [List.length_map, sizeLine_eq]; show ns.length + 1 ≤ _; omega, fun n2 hn2 => ?_⟩
      have hD7 := (hD6.new he0 (o := .lst [.int 500])).new hn2 (o := .lst (ns.map V.int ++ [.int 500]))
      have s7 : Same (hide d H6) (hide d (upd (upd H6 e0 (.lst [.int 500])) n2 (.lst (ns.map V.int ++ [.int 500])))) := (hide_new he0 _).trans (hide_new hn2 _)
      have nse : ns.map V.int ++ [V.int 500] = (ns ++ [500]).map V.int := by rw [List.map_append] <;> rfl
      refine ⟨d, L, n2, ns ++ [500], 4, rfl, hD7, SqL.of (by rw [hide_upd (hD6.new he0).at.choose_spec hn2, nse]), by simp, by rw [List.length_append]; show ns.length + 1 ≤ 10; omega, fun x hx => ?_, by decide, by decide, fun t row H8 hD8 s8 hrow okr => ?_⟩
      · rcases List.mem_append.mp hx with h | h
        · exact nsp x h
        · rw [List.mem_singleton.mp h]; decide
      have pos2 : ∀ x ∈ ns ++ [500], 0 < x := fun x hx => by
        rcases List.mem_append.mp hx with h | h
        · exact nsp x h
        · rw [List.mem_singleton.mp h]; decide
      have gr : goodC row := okr.good pos2
      have few60 : ∀ cs' : List (List Int), (∀ c, c ∈ cs' → c ∈ cs) → ∃ ns' : List Int, ns'.length ≤ 60 ∧ ∀ c ∈ row :: cs', ∀ x ∈ c, ab x ∈ ns' := fun cs' hcs' => ⟨ns ++ [500], by rw [List.length_append]; show ns.length + 1 ≤ 60; omega, fun c hc x hx => by
        rcases List.mem_cons.mp hc with e | m
        · rw [e] at hx
          exact ab_in pos2 (okr.mem x hx)
        · exact List.mem_append_left _ (ab_in nsp ((hok c (hcs' c m)).mem x hx))⟩
      have s68 : Same (hide d H5) (hide d H8) := (s6.trans s7).trans s8
      have hR8 : H8 R = some (.lst xs) := hide_le _ _ (s68 _ _ hR5)
      have hall8 : DpAll K H8 xs (cs.map clD) := dpa_mono hide_le _ (dpa_mono s68 _ (dpa_mono hide_le _ hall))
      obtain ⟨t', us, et, ht, hts⟩ := dp_tup (show Dp K (hide d H8) (.ref t) (.tuple (row.map PyData.int)) from hrow)
      cases et
      rw [ints_of hts] at ht
      have ht8 : SqT K H8 t (row.map V.int) := sqt_mono hide_le ht
      refine ⟨_, rfl, _, rfl, R, t, xs, cs, row, rfl, SqL.of hR8, hall8, ht8, hok', gr, by omega, fun due H9 hdue s9 => ?_⟩
      refine ⟨fun b H' => b = false ∧ Same H9 H', ?_, ?_⟩
      · refine ⟨_, rfl, _, rfl, R, t, xs, cs, row, rfl, .inl (SqL.of (s9 _ _ hR8)), dpa_mono s9 _ hall8, sqt_mono s9 ht8, hok', gr, by omega, few60 cs fun _ h => h, fun b2 H10 hb2 s10 => ?_⟩
        have e2 : b2 = due := bool_same hb2 hdue
        refine ⟨_, rfl, by rw [e2]; cases due <;> rfl, _, rfl, ite2 (fun c => ?_) (fun _ => ?_)⟩
        · rw [e2] at c
          exact absurd c (by simp)
        · have hR10 := s10 _ _ (s9 _ _ hR8)
          refine ⟨_, rfl, R, xs, rfl, SqL.of hR10, fun q0 hq0 => ?_⟩
          have s11 : Same H9 (upd H10 q0 (.tup xs.reverse)) := s10.trans (same_new hq0 _)
          have hall11 : DpAll K (upd H10 q0 (.tup xs.reverse)) xs.reverse (cs.reverse.map clD) := by
            rw [List.map_reverse]
            exact dpa_rev (dpa_mono (s9.trans s11) _ hall8)
          refine ⟨_, rfl, q0, t, xs.reverse, cs.reverse, row, rfl, .inr (SqT.of upd_same), hall11, sqt_mono (s9.trans s11) ht8, fun c hc => hok' c (List.mem_reverse.mp hc), gr, by rw [List.length_reverse]; omega, few60 cs.reverse fun _ h => List.mem_reverse.mp h, fun b3 H12 hb3 s12 => ?_⟩
          have e3 : b3 = due := bool_same (hb3.trans conf_rev) hdue
          refine ⟨_, rfl, by rw [e3]; cases due <;> rfl, _, rfl, ?_⟩
          rw [e3]
          exact ⟨by simp, s11.trans s12⟩
      · rintro b H10 ⟨rfl, s10⟩
        have s910 := s9.trans s10
        refine ⟨fun b H' => b = false ∧ Same H10 H', ?_, ?_⟩
        · refine ⟨_, rfl, due, rfl, ?_⟩
          cases due with
          | false => exact ⟨rfl, Same.refl _⟩
          | true =>
            have ht10 := sqt_mono s910 ht8
            refine ⟨_, rfl, _, rfl, t, rfl, ⟨_, ht10⟩, fun D1 hD1' => lc_tup (K := K) (a := t) (xs := row.map V.int) (fun i H2 => ∃ zs, H2 D1 = some (.lst zs) ∧ DpAll K (hide D1 H2) zs ((row.take i).map fun x => clD [-x]) ∧ Same H10 H2 ∧ i ≤ row.length)
              ⟨[], upd_same, .nil, same_new hD1' _, Nat.zero_le _⟩ (fun i H2 _ ⟨_, _, _, s, _⟩ => sqt_mono s ht10) ?_ ?_⟩
            · rintro i y H2 hi ⟨zs, hz, hza, sm, _⟩
              obtain ⟨x, rfl, hx⟩ := map_at hi
              have hi' : i < row.length := (List.getElem?_eq_some_iff.mp hx).1
              refine ⟨rfl, yes2 ⟨_, rfl, _, rfl, by show 1 ≤ sizeLine; decide, fun t1 ht1 => ?_⟩⟩
              have tD : t1 ≠ D1 := fun e => by rw [e, hz] at ht1; cases ht1
              have zl : zs.length ≤ 100 := by
                have := dpa_len hza
                rw [List.length_map, List.length_take] at this
                have := gr.len
                omega
              refine ⟨zs, by rw [upd_ne tD.symm]; exact hz, small1000 (by omega), zs ++ [.ref t1], upd_same, ?_, fun b o hb => ?_, hi'⟩
              · rw [take_next hx, List.map_append]
                have e : Same (hide D1 H2) (hide D1 (upd (upd H2 t1 (.tup [.int (-x)])) D1 (.lst (zs ++ [.ref t1])))) := fun b o hb => by
                  obtain ⟨h1, h2⟩ := hide_some hb
                  rw [hide_ne h1, upd_ne h1, upd_ne (ne_of_none h2 ht1)]
                  exact h2
                refine dpa_app (dpa_mono e _ hza) (dpa_one (.tup (SqT.of ?_) (ints_all [-x])))
                rw [hide_ne tD, upd_ne tD, upd_same]
                rfl
              · have h2 := sm b o hb
                rw [upd_ne (ne_of_none hb hD1'), upd_ne (ne_of_none h2 ht1)]
                exact h2
            · rintro H2 ⟨zs, hz, hza, sm, _⟩
              rw [List.length_map, List.take_length] at hza
              have s82 : Same H8 H2 := s910.trans sm
              have zl : zs.length ≤ 100 := by
                have := dpa_len hza
                rw [List.length_map] at this
                have := gr.len
                omega
              refine ⟨R, D1, xs, zs, rfl, rfl, s82 _ _ hR8, hz, by rw [sizeLine_eq]; omega, fun n3 hn3 => ?_⟩
              have s83 := s82.trans (same_new hn3 (.lst (xs ++ zs)))
              have all3 : DpAll K (upd H2 n3 (.lst (xs ++ zs))) (xs ++ zs) ((cs ++ row.map fun x => [-x]).map (gcD true)) := by
                rw [List.map_append, List.map_map]
                exact dpa_app (dpa_mono s83 _ hall8) (dpa_mono (same_new hn3 _) _ (dpa_mono hide_le _ hza))
              refine ⟨7, n3, xs ++ zs, true, cs ++ row.map fun x => [-x], rfl, rfl, ⟨SqL.of upd_same, all3, fun c hc x hx => ?_, fun c hc => ?_, ?_⟩, ⟨ns ++ [500], ?_, fun c hc x hx => ?_⟩, fun bb H12 hbb s12 => ⟨bb, rfl, ?_, (sm.trans (same_new hn3 _)).trans s12⟩⟩
              · rcases List.mem_append.mp hc with h | h
                · exact hnz c h x hx
                · obtain ⟨y, hy, rfl⟩ := List.mem_map.mp h
                  rw [List.mem_singleton.mp hx]
                  have := gr.nz y hy
                  omega
              · rcases List.mem_append.mp hc with h | h
                · exact (hok' c h).len
                · obtain ⟨y, hy, rfl⟩ := List.mem_map.mp h
                  show 1 ≤ 100
                  decide
              · rw [List.length_append, List.length_map]
                have := gr.len
                omega
              · rw [List.length_append]
                show ns.length + 1 ≤ 7
                omega
              · rcases List.mem_append.mp hc with h | h
                · rcases (hok c h).mem x hx with m | m
                  · exact .inl (List.mem_append_left _ m)
                  · exact .inr (List.mem_append_left _ m)
                · obtain ⟨y, hy, rfl⟩ := List.mem_map.mp h
                  rw [List.mem_singleton.mp hx, Int.neg_neg]
                  rcases okr.mem y hy with m | m
                  · exact .inr m
                  · exact .inl m
              · cases bb with
                | false => rfl
                | true => exact absurd (hbb.1 rfl) (MC.conf_unsat hnz gr.nz (hdue.1 rfl))
        · rintro b H11 ⟨rfl, s11⟩
          have s811 := s910.trans s11
          exact ⟨_, _, _, rfl, hD8.mono s811, s68.trans (hide_same s811)⟩
    · rintro σ' H6 ⟨o4, o5, o6, rfl, hD6, s6⟩
      exact q H6
end
end My

set_option Elab.async false
set_option maxRecDepth 100000
set_option maxHeartbeats 4000000
set_option linter.all false
/-! Sets of nested tuples (whole numbers, texts, None, tuples of such), fewer than 64: set(xs), sorted(set(xs)). -/
namespace My
open PySem PySem.Spec PyProof.Rows L2
abbrev NK := NestedKey
abbrev hN (w : World) (k : NK) : Int := NestedKey.hash w k
/-- the tuple at a is the key k -/
abbrev IsN (h : Heap) (k : NK) (a : Addr) : Prop := NestedIs h k (.ref a) ∧ k.depth ≤ 8
theorem IsN.keep {h h' : Heap} {k : NK} {a : Addr} (x : IsN h k a) (kp : ∀ b o, h.get? b = some o → h'.get? b = some o) : IsN h' k a := ⟨NestedIs.at (fun b o _ _ e _ => kp b o e) k _ x.1, x.2⟩
theorem IsN.but {h h' : Heap} {k : NK} {a d : Addr} {o : Obj} {es : Array (Int × Value)} {ep : Nat} {t : SetTable} (x : IsN h k a) (ho : h.get? d = some o) (hd : o.data = .set es ep t) (sb : Heap.SameBut d h h') : IsN h' k a :=
  ⟨NestedIs.at (fun b u vs n e c => (sb.2 b fun z => by
    subst z
    rw [ho] at e
    cases e
    rw [hd] at c
    cases c).trans e) k _ x.1, x.2⟩
section
variable {P : Program} {w : World}
/-- a walk that asks each item and goes on -/
theorem ask_each {A : Around} {E : Value → Shared → Prop} {s : Shared} {β : Type} {b0 : β} {body : Value → β → Sem (ForInStep β)} {Q : β → Shared → Prop} :
    ∀ (vs : List Value), (∀ v ∈ vs, ∀ (Q' : ForInStep β → Shared → Prop), Q' (.yield b0) s → (∀ b, Q b s → Q' (.done b) s) → wpAny (model P w) A (body v b0) Q' E s) → Q b0 s → wpAny (model P w) A (forIn vs b0 body) Q E s
  | [], _, h => wpAny_pure h
  | v :: vs, hb, h => by
    rw [List.forIn_cons]
    exact wpAny_bind (hb v List.mem_cons_self _ (ask_each vs (fun u hu => hb u (List.mem_cons_of_mem _ hu)) h) fun b q => wpAny_pure q)
mutual
/-- no class statement made it -/
theorem cls_key : ∀ (k : NK) (v : Value) (n : Nat) (s : Shared), NestedIs s.heap k v → k.depth ≤ n → ∀ (A : Around) (E : Value → Shared → Prop) (Q : Bool → Shared → Prop), Q false s → wpAny (model P w) A (ofAClassStatement n v) Q E s
  | .none, _, n, s, x, _, A, E, Q, h => by cases x; cases n <;> exact wpAny_pure h
  | .num i, _, n, s, x, _, A, E, Q, h => by cases x <;> cases n <;> exact wpAny_pure h
  | .text y, _, n, s, x, _, A, E, Q, h => by cases x; cases n <;> exact wpAny_pure h
  | .tup ks, _, n, s, x, hn, A, E, Q, h => by
    cases x with
    | @tup a o vs m _ ho hc hd hk =>
      simp only [NestedKey.depth] at hn
      cases n with
      | zero => omega
      | succ n =>
        have hT : s.TypeIs (.ref a) "tuple" := ⟨o, ho, hc⟩
        unfold ofAClassStatement
        refine wpAny_bind (wpAny_typeOf hT ?_)
        dsimp only
        have e : (("tuple" : String) == "tuple") = true := by decide
        simp only [e, if_true, Bool.not_true, Bool.false_eq_true, if_false]
        try refine wpAny_bind (wpAny_pure ?_)
        try simp only [Bool.not_true, Bool.false_eq_true, if_false]
        show wpAny _ _ (seqItems? (.ref a) >>= _) _ _ s
        refine wpAny_bind (wpAny_seqItems ho hd ?_)
        dsimp only
        refine wpAny_bind ?_
        show wpAny _ _ (forIn vs _ _) _ _ s
        rw [← Array.forIn_toList]
        have ih := cls_keys ks vs.toList n s hk (by omega)
        refine ask_each vs.toList (fun v hv Q' hQ _ => ?_) ?_
        case refine_2 => exact wpAny_pure h
        refine wpAny_bind (ih v hv _ _ _ ?_)
        simp only [Bool.false_eq_true, if_false]
        exact wpAny_pure hQ
theorem cls_keys : ∀ (ks : List NK) (vs : List Value) (n : Nat) (s : Shared), NestedAll s.heap ks vs → NestedKey.depthAll ks ≤ n → ∀ v ∈ vs, ∀ (A : Around) (E : Value → Shared → Prop) (Q : Bool → Shared → Prop), Q false s → wpAny (model P w) A (ofAClassStatement n v) Q E s
  | [], _, n, s, x, _, v, hv, _, _, _, _ => by cases x; cases hv
  | k :: ks, _, n, s, x, hn, v, hv, A, E, Q, h => by
    cases x with
    | cons x1 x2 =>
      simp only [NestedKey.depthAll] at hn
      rcases List.mem_cons.mp hv with e | hv
      · rw [e]; exact cls_key k _ n s x1 (by omega) A E Q h
      · exact cls_keys ks _ n s x2 (by omega) v hv A E Q h
end
mutual
/-- whether its hash is its value's: one of both answers -/
theorem val_key : ∀ (k : NK) (v : Value) (n : Nat) (s : Shared), NestedIs s.heap k v → ∀ (A : Around) (E : Value → Shared → Prop) (Q : Bool → Shared → Prop), (∀ b, Q b s) → wpAny (model P w) A (hashByValue n v) Q E s
  | .none, _, n, s, x, A, E, Q, h => by cases x; cases n <;> exact wpAny_pure (h _)
  | .num i, _, n, s, x, A, E, Q, h => by cases x <;> cases n <;> exact wpAny_pure (h _)
  | .text y, _, n, s, x, A, E, Q, h => by cases x; cases n <;> exact wpAny_pure (h _)
  | .tup ks, _, n, s, x, A, E, Q, h => by
    cases x with
    | @tup a o vs m _ ho hc hd hk =>
      cases n with
      | zero => exact wpAny_pure (h _)
      | succ n =>
        have hT : s.TypeIs (.ref a) "tuple" := ⟨o, ho, hc⟩
        unfold hashByValue
        refine wpAny_bind (wpAny_specialOf hT F.slot_tuple_hash.lookup ?_)
        show wpAny _ _ (seqItems? (.ref a) >>= _) _ _ s
        refine wpAny_bind (wpAny_seqItems ho hd ?_)
        refine wpAny_bind ?_
        show wpAny _ _ (forIn vs _ _) _ _ s
        rw [← Array.forIn_toList]
        have ih := val_keys ks vs.toList n s hk
        refine ask_each vs.toList (fun v hv Q' hQ hD => ?_) ?_
        case refine_2 => exact wpAny_pure (h _)
        refine wpAny_bind (ih v hv _ _ _ fun b => ?_)
        cases b with
        | true =>
          simp only [Bool.not_true, Bool.false_eq_true, if_false]
          exact wpAny_pure hQ
        | false =>
          simp only [Bool.not_false, if_true]
          exact wpAny_pure (hD _ (wpAny_pure (h _)))
theorem val_keys : ∀ (ks : List NK) (vs : List Value) (n : Nat) (s : Shared), NestedAll s.heap ks vs → ∀ v ∈ vs, ∀ (A : Around) (E : Value → Shared → Prop) (Q : Bool → Shared → Prop), (∀ b, Q b s) → wpAny (model P w) A (hashByValue n v) Q E s
  | [], _, n, s, x, v, hv, _, _, _, _ => by cases x; cases hv
  | k :: ks, _, n, s, x, v, hv, A, E, Q, h => by
    cases x with
    | cons x1 x2 =>
      rcases List.mem_cons.mp hv with e | hv
      · rw [e]; exact val_key k _ n s x1 A E Q h
      · exact val_keys ks _ n s x2 v hv A E Q h
end
variable {A : Around} {E : Value → Shared → Prop} {s : Shared}
/-- a search among such tuples shows nothing -/
theorem seenN {k : NK} {b : Addr} {Q : Bool → Shared → Prop} (hk : IsN s.heap k b) {ys : List Value} (hy : ∀ y ∈ ys, ∃ k' c, y = Value.ref c ∧ IsN s.heap k' c) (h : Q false s) : wpAny (model P w) A (searchCouldBeSeen (.ref b) ys) Q E s := by
  unfold searchCouldBeSeen
  refine wpAny_bind (ask_each ys (fun v hv Q' hQ _ => ?_) ?_)
  case refine_2 => exact wpAny_pure h
  obtain ⟨k', c, rfl, hc⟩ := hy v hv
  dsimp only
  by_cases hv : (b == c || (carriedByValue (.ref b) && carriedByValue (.ref c))) = true
  · exact wp_if_pos hv (wpAny_pure hQ)
  · refine wp_if_neg hv ?_
    refine wpAny_bind (quiet_key k _ 8 s hk.1 hk.2 A E _ ?_)
    simp only [Bool.not_true, Bool.false_eq_true, if_false]
    refine wpAny_bind (quiet_key k' _ 8 s hc.1 hc.2 A E _ ?_)
    simp only [Bool.not_true, Bool.false_eq_true, if_false]
    refine wpAny_bind (cls_key k _ 8 s hk.1 hk.2 A E _ ?_)
    simp only [Bool.false_eq_true, if_false]
    refine wpAny_bind (cls_key k' _ 8 s hc.1 hc.2 A E _ ?_)
    simp only [Bool.false_eq_true, if_false]
    exact wpAny_pure hQ
end
end My

set_option Elab.async false
set_option maxRecDepth 100000
set_option maxHeartbeats 4000000
set_option linter.all false
namespace My
open PySem PySem.Spec PyProof.Rows L2
abbrev rowN (w : World) (p : Addr × NK) : Int × Value := (hN w p.2, Value.ref p.1)
structure SetN (w : World) (h : Heap) (a : Addr) (L : List (Addr × NK)) (es : Array (Int × Value)) (ep : Nat) (t : SetTable) : Prop where
  ob : ∃ o, h.get? a = some o ∧ o.ExactSet ∧ o.data = .set es ep t
  rows : es.toList = L.map (rowN w)
  tab : TabOk t (L.map fun p => hN w p.2)
  nd : (L.map (·.2)).Nodup
  is_ : ∀ p ∈ L, IsN h p.2 p.1
  led : w.params.followText "set-order" = true ∨ t.led = true
  room : L.length * 5 < t.mask * 3
  few : L.length < 64
section
variable {P : Program} {w : World} {A : Around} {E : Value → Shared → Prop} {s : Shared} {a : Addr} {L : List (Addr × NK)} {es : Array (Int × Value)} {ep : Nat} {t : SetTable}
theorem rows_size (h : es.toList = L.map (rowN w)) : es.size = L.length := by
  have := congrArg List.length h
  rwa [Array.length_toList, List.length_map] at this
theorem rows_at (h : es.toList = L.map (rowN w)) {i : Nat} {p : Addr × NK} (e : L[i]? = some p) : es[i]? = some (rowN w p) := by
  rw [← Array.getElem?_toList, h, List.getElem?_map, e] <;> rfl
theorem fits_of (h1 : t.place.size = es.size) (h2 : t.dummies = #[]) (h3 : es.size ≤ t.mask) : t.fits es.size = true := by
  unfold SetTable.fits SetTable.fill
  rw [h2, Bool.and_eq_true, beq_iff_eq, decide_eq_true_eq]
  exact ⟨h1, by show t.place.size + 0 ≤ t.mask; omega⟩
theorem SetN.psz (R : SetN w s.heap a L es ep t) : t.place.size = L.length := by
  have := R.tab.sz
  rwa [List.length_map] at this
theorem SetN.fits (R : SetN w s.heap a L es ep t) : t.fits es.size = true := by
  have h1 := R.psz
  have h2 := rows_size R.rows
  have h3 := R.room
  exact fits_of (by omega) R.tab.dm (by omega)
theorem gave_not {t : SetTable} {hs : List Int} (T : TabOk t hs) : ¬ t.gaveWay = true := by
  unfold SetTable.gaveWay
  rw [mask_odd T.mok]
  decide
theorem nth_dummy (m : Nat) : ∀ (n : Nat) (p : SetTable.Probe), p.dummy = none → (nth m p n).dummy = none
  | 0, _, h => h
  | n + 1, p, h => nth_dummy m n (adv m p) (by unfold adv; split <;> exact h)
abbrev wayS (m : Nat) (g : Int) : SetTable.Probe := runAt m (SetTable.bits g % (m + 1)) (SetTable.bits g)
/-- the search, from the c-th step of its way on -/
theorem searchN (R : SetN w s.heap a L es ep t) {x : Addr} {k : NK} (hx : IsN s.heap k x) (hu : A.units + 8 < cLine) {g : Int} (hg : g = hN w k) {K : Nat} (hKf : K < 10 * SetTable.turns t.mask)
    (hK : way t.mask g K ∉ t.place.toList) (hKb : ∀ c, c < K → way t.mask g c ∈ t.place.toList) {Q : SetFound → Shared → Prop} (hin : k ∈ L.map (·.2) → Q (.there none) s) (hout : k ∉ L.map (·.2) → Q (.free (way t.mask g K) false) s) :
    ∀ (f c : Nat) (stand : Option SetTable.Probe), stand.getD (t.probeStart g) = nth t.mask (wayS t.mask g) c → c ≤ K → K - c < f → (∀ (i : Nat) p, L[i]? = some p → p.2 = k → ∃ c', c ≤ c' ∧ c' < K ∧ t.place.toList[i]? = some (way t.mask g c')) →
      wpAny (model P w) A (setSearchFrom a (.ref x) g true f stand) Q E s
  | 0, _, _, _, _, hf, _ => absurd hf (Nat.not_lt_zero _)
  | f + 1, c, stand, hst, hc, hf, hre => by
    obtain ⟨o, ho, hex, hd⟩ := R.ob
    rw [setSearchFrom_succ]
    refine wpAny_bind (wpAny_setState_of ho hd R.fits ?_)
    dsimp only
    refine wp_if_neg (gave_not R.tab) ?_
    try refine wpAny_bind (wpAny_pure ?_)
    have step : ∀ q, (nth t.mask (nth t.mask (wayS t.mask g) c) q).j = way t.mask g (c + q) := fun q => congrArg SetTable.Probe.j (nth_add t.mask c _ q).symm
    have hs : ∀ (i : Nat) p, L[i]? = some p → (es[i]?.map (fun e : Int × Value => e.1)).getD 0 = hN w p.2 := fun i p e => by rw [rows_at R.rows e] <;> rfl
    -- where a row with the key stands, it is not passed
    have late : ∀ (q : Nat), (∀ k' i', k' < q → t.place.toList[i']? = some (nth t.mask (nth t.mask (wayS t.mask g) c) k').j → (es[i']?.map (fun e : Int × Value => e.1)).getD 0 ≠ g) → ∀ (i : Nat) p, L[i]? = some p → p.2 = k → ∃ c', c + q ≤ c' ∧ c' < K ∧ t.place.toList[i]? = some (way t.mask g c') := fun q no i p e1 e2 => by
      obtain ⟨c', a1, a2, a3⟩ := hre i p e1 e2
      refine ⟨c', ?_, a2, a3⟩
      rcases Nat.lt_or_ge c' (c + q) with z | z
      · refine absurd (show (es[i]?.map (fun e : Int × Value => e.1)).getD 0 = g by rw [hs i p e1, e2, hg]) (no (c' - c) i (by omega) ?_)
        rw [step, show c + (c' - c) = c' by omega]
        exact a3
      · exact z
    rcases go_spec t R.tab.ris R.tab.dm (fun i => (es[i]?.map (fun e : Int × Value => e.1)).getD 0) g (10 * SetTable.turns t.mask) (K - c) (nth t.mask (wayS t.mask g) c) (nth_dummy _ _ _ rfl) (by omega) (fun q hq => by rw [step]; exact hKb _ (by omega)) (by rw [step, show c + (K - c) = K by omega]; exact hK) with ⟨q, i, hq, hi, hh, hno, hpr⟩ | ⟨hno, hpr⟩
    · rw [← nth_add t.mask c (wayS t.mask g) (q + 1)] at hpr
      rw [step] at hi hpr
      have hpr' : t.probe (fun i => (es[i]?.map (fun e : Int × Value => e.1)).getD 0) g (stand.getD (t.probeStart g)) = some (.candidate (way t.mask g (c + q)) i (nth t.mask (wayS t.mask g) (c + (q + 1)))) := by rw [hst]; exact hpr
      rw [hpr']
      dsimp only
      have hil : i < L.length := by
        have := (List.getElem?_eq_some_iff.mp hi).1
        rw [Array.length_toList, R.psz] at this
        exact this
      obtain ⟨p, hp⟩ : ∃ p, L[i]? = some p := ⟨_, List.getElem?_eq_getElem hil⟩
      have hm := List.mem_of_getElem? hp
      have rest : wpAny (model P w) A (searchRest a (.ref x) g true f es t (way t.mask g (c + q)) i (nth t.mask (wayS t.mask g) (c + (q + 1)))) Q E s := by
        unfold searchRest
        rw [rows_at R.rows hp]
        dsimp only
        refine wpAny_bind (wpAny_holding ((nestedKind P w).eqBool hu (R.is_ p hm) hx ?_))
        refine wpAny_bind (wpAny_setState_of ho hd R.fits ?_)
        dsimp only
        by_cases hkk : p.2 = k
        · exact wp_if_pos (by simp [hkk]) (wpAny_pure (hin (List.mem_map.mpr ⟨p, hm, hkk⟩)))
        · refine wp_if_neg (by simp [hkk]) ?_
          try refine wpAny_bind (wpAny_pure ?_)
          rw [sameMem]
          dsimp only
          have hsl : t.slot (way t.mask g (c + q)) = .live i := slot_live R.tab.ris hi
          simp only [if_true, hsl, rows_at R.rows hp]
          refine wpAny_bind (wpAny_isSame_ref_self (wpAny_bind (wpAny_pure ?_)))
          simp only [if_true]
          refine wp_if_neg (by simp [hkk]) ?_
          refine searchN R hx hu hg hKf hK hKb hin hout f (c + (q + 1)) _ rfl (by omega) (by omega) fun i0 p0 h0 hk0 => ?_
          obtain ⟨c', a1, a2, a3⟩ := late q (fun k' i' lt e => hno k' i' lt e) i0 p0 h0 hk0
          refine ⟨c', ?_, a2, a3⟩
          rcases Nat.lt_or_ge (c + q) c' with z | z
          · omega
          · have ec : c' = c + q := Nat.le_antisymm z a1
            rw [ec] at a3
            have s0 := slot_live R.tab.ris a3
            rw [hsl] at s0
            injection s0 with s0
            rw [← s0, hp] at h0
            exact absurd (by rw [Option.some.inj h0]; exact hk0) hkk
      by_cases hl : t.led = true
      · refine wp_if_neg (by simp [hl]) ?_
        try refine wpAny_bind (wpAny_pure ?_)
        exact rest
      · refine wp_if_pos (by simp [hl]) ?_
        refine wpAny_bind (seenN hx (fun y hy => ?_) ?_)
        · obtain ⟨e, he, ee⟩ := List.mem_map.mp hy
          have he1 : e ∈ es ∧ e.1 = g := by simpa using he
          have he2 : e ∈ es.toList := by simpa using he1.1
          rw [R.rows] at he2
          obtain ⟨p2, hp2, e2⟩ := List.mem_map.mp he2
          exact ⟨p2.2, p2.1, by rw [← ee, ← e2], R.is_ p2 hp2⟩
        · refine wp_if_neg (by decide) ?_
          try refine wpAny_bind (wpAny_pure ?_)
          exact rest
    · rw [step, show c + (K - c) = K by omega] at hpr
      have hpr' : t.probe (fun i => (es[i]?.map (fun e : Int × Value => e.1)).getD 0) g (stand.getD (t.probeStart g)) = some (.empty (way t.mask g K) none) := by rw [hst]; exact hpr
      rw [hpr']
      dsimp only
      refine wpAny_pure (hout fun hm => ?_)
      obtain ⟨p0, h0, hk0⟩ := List.mem_map.mp hm
      obtain ⟨i0, e0⟩ := List.getElem?_of_mem h0
      obtain ⟨c', a1, a2, a3⟩ := late (K - c) hno i0 p0 e0 hk0
      omega
theorem searchN_all (R : SetN w s.heap a L es ep t) {x : Addr} {k : NK} (hx : IsN s.heap k x) (hu : A.units + 8 < cLine) {Q : SetFound → Shared → Prop} (hin : k ∈ L.map (·.2) → Q (.there none) s)
    (hout : ∀ K, k ∉ L.map (·.2) → way t.mask (hN w k) K ∉ t.place.toList → (∀ c, c < K → way t.mask (hN w k) c ∈ t.place.toList) → Q (.free (way t.mask (hN w k) K) false) s) : wpAny (model P w) A (setSearch a (.ref x) (hN w k) true) Q E s := by
  have hroom := R.room
  obtain ⟨K, hKf, hK, hKb⟩ := R.tab.first (by rw [List.length_map]; omega) (hN w k)
  have hbig : K < 100000 := by
    have : 10 * SetTable.turns t.mask ≤ 1420 := by
      unfold SetTable.turns
      rcases R.tab.mok with e | e | e <;> omega
    omega
  unfold setSearch
  refine searchN R hx hu rfl hKf hK hKb hin (fun hn => hout K hn hK hKb) 100000 0 none rfl (Nat.zero_le _) (by omega) fun i p hp hk => ?_
  have hil : i < t.place.toList.length := by
    have := (List.getElem?_eq_some_iff.mp hp).1
    rw [Array.length_toList, R.psz]
    exact this
  have hj := List.getElem?_eq_getElem hil
  obtain ⟨c, hc, e⟩ := R.tab.before hK (show (L.map fun p => hN w p.2)[i]? = some (hN w k) by rw [List.getElem?_map, hp, ← hk] <;> rfl) hj
  exact ⟨c, Nat.zero_le _, hc, by rw [hj, e]⟩
end
end My

set_option Elab.async false
set_option maxRecDepth 100000
set_option maxHeartbeats 4000000
set_option linter.all false
namespace My
open PySem PySem.Spec PyProof.Rows L2
/-! picking rows by their numbers -/
theorem pick_map {α β : Type} (f : α → β) (L : List α) : ∀ l : List Nat, l.filterMap (fun i => (L.map f)[i]?) = (l.filterMap fun i => L[i]?).map f
  | [] => rfl
  | i :: l => by
    rw [List.filterMap_cons, List.filterMap_cons, List.getElem?_map, pick_map f L l]
    cases L[i]? <;> rfl
theorem pick_getD {α : Type} (d : α) (L : List α) : ∀ l : List Nat, (∀ i ∈ l, i < L.length) → l.filterMap (fun i => L[i]?) = l.map fun i => L.getD i d
  | [], _ => rfl
  | i :: l, h => by
    have hi := h i List.mem_cons_self
    rw [List.filterMap_cons_some (List.getElem?_eq_getElem hi), List.map_cons, pick_getD d L l fun j hj => h j (List.mem_cons_of_mem _ hj), List.getD_eq_getElem?_getD, List.getElem?_eq_getElem hi] <;> rfl
theorem pick_all {α : Type} (L : List α) : (List.range L.length).filterMap (fun i => L[i]?) = L := by
  refine List.ext_getElem? fun i => ?_
  induction L generalizing i with
  | nil => rfl
  | cons x L ih =>
    rw [List.length_cons, List.range_succ_eq_map, List.filterMap_cons_some (by rfl : (x :: L)[0]? = some x), List.filterMap_map]
    cases i with
    | zero => rfl
    | succ i => exact ih i
section
variable {P : Program} {w : World} {A : Around} {E : Value → Shared → Prop} {s : Shared} {a : Addr} {L : List (Addr × NK)} {es : Array (Int × Value)} {ep : Nat} {t : SetTable}
theorem order_rowsN {order : Array Nat} (hr : es.toList = L.map (rowN w)) (hp : order.toList.Perm (List.range L.length)) :
    ∃ L2 : List (Addr × NK), (order.filterMap (es[·]?)).toList = L2.map (rowN w) ∧ L2.Perm L ∧ (L2.map fun p => hN w p.2) = order.toList.map fun i => (es.map (·.1)).getD i 0 := by
  refine ⟨order.toList.filterMap fun i => L[i]?, ?_, ?_, ?_⟩
  · rw [Array.toList_filterMap, ← pick_map, ← hr]
    refine congrFun (congrArg _ (funext fun i => ?_)) _
    rw [Array.getElem?_toList]
  · have := hp.filterMap fun i => L[i]?
    rwa [pick_all] at this
  · rw [← pick_map (fun p : Addr × NK => hN w p.2), pick_getD 0 _ _ fun i hi => by rw [List.length_map]; exact List.mem_range.mp (hp.mem_iff.mp hi)]
    refine List.map_congr_left fun i _ => ?_
    have e : (L.map fun p => hN w p.2) = (es.map (·.1)).toList := by
      rw [Array.toList_map, hr, List.map_map] <;> rfl
    rw [e, List.getD_eq_getElem?_getD, Array.getElem?_toList, ← Array.getD_eq_getD_getElem?]
/-- the table laid anew -/
theorem relayN {o : Obj} (ho : s.heap.get? a = some o) (hex : o.ExactSet) (hd : o.data = .set es ep t) (hrows : es.toList = L.map (rowN w)) (hsz : t.place.size = es.size) (hdm : t.dummies = #[]) (hfl : es.size ≤ t.mask)
    (nd : (L.map (·.2)).Nodup) (is_ : ∀ p ∈ L, IsN s.heap p.2 p.1) (ld : w.params.followText "set-order" = true ∨ t.led = true) (few : L.length < 64) {wanted M : Nat}
    (hw : SetTable.sizeAbove wanted - 1 = M) (hM : MaskOk M) (hw2 : SetTable.sizeAbove wanted ≤ 128) (hn : L.length * 5 < M * 3) {Q : Unit → Shared → Prop}
    (hQ : ∀ h' L' es' ep' t', Heap.SameBut a s.heap h' → SetN w h' a L' es' ep' t' → L'.Perm L → Q () { s with heap := h' }) : wpAny (model P w) A (setRelay a wanted) Q E s := by
  have hsl := rows_size hrows
  obtain ⟨t', order, e, hp, T, em, el, epl, ed⟩ := relaid_ok t (hs := es.map (·.1)) (wanted := wanted) hw hM (by rw [Array.size_map, hsl]; omega)
  rw [Array.size_map, hsl] at hp
  obtain ⟨L2, r1, r2, r3⟩ := order_rowsN hrows hp
  rw [← r3] at T
  have hs2 : (order.filterMap (es[·]?)).size = es.size := by rw [rows_size r1, r2.length_eq, hsl]
  rw [setRelay_eq]
  refine wpAny_bind (wpAny_setState_of ho hd (fits_of hsz hdm hfl) ?_)
  dsimp only
  refine wp_if_neg (by rw [sizeLine_eq]; omega) ?_
  try refine wpAny_bind (wpAny_pure ?_)
  rw [e]
  dsimp only
  refine wpAny_bind ?_
  refine wp_if_neg (by rw [hs2]; simp) ?_
  try refine wpAny_bind (wpAny_pure ?_)
  refine wpAny_pure ?_
  dsimp only
  refine wpAny_storeSet_of ho hd ?_ (by rw [hs2, hsl, sizeLine_eq]; omega)
  have sb : Heap.SameBut a s.heap (s.heap.update a (Obj.putSet (order.filterMap (es[·]?)) t')) := Heap.SameBut.update ..
  refine hQ _ L2 _ (ep + 1) t' sb ⟨⟨_, store_at ho hd, ⟨hex.1, hex.2.1, hex.2.2⟩, rfl⟩, r1, T, (r2.map (·.2)).nodup_iff.mpr nd, fun p hpm => (is_ p (r2.mem_iff.mp hpm)).but ho hd sb, by rw [el]; exact ld, by rw [r2.length_eq, em]; exact hn, by rw [r2.length_eq]; exact few⟩ r2
theorem TabOk.unplain {t : SetTable} {hs : List Int} (T : TabOk t hs) : TabOk { t with plain := false } hs := ⟨T.ris, T.dm, T.sz, T.mok, T.bd, T.reach⟩
/-- one more -/
theorem addN (R : SetN w s.heap a L es ep t) {x : Addr} {k : NK} (hx : IsN s.heap k x) (hu : A.units + 8 < cLine) (hfew : L.length + 1 < 64) {Q : Bool → Shared → Prop}
    (hQ : ∀ b h' L' es' ep' t', Heap.SameBut a s.heap h' → SetN w h' a L' es' ep' t' → (k ∈ L.map (·.2) → L' = L) → (k ∉ L.map (·.2) → L'.Perm ((x, k) :: L)) → Q b { s with heap := h' }) :
    wpAny (model P w) A (setAddHashed a (.ref x) (hN w k)) Q E s := by
  obtain ⟨o, ho, hex, hd⟩ := R.ob
  have hsl := rows_size R.rows
  have hroom := R.room
  unfold setAddHashed
  refine wpAny_holding ?_
  rw [show (100000 : Nat) = 99999 + 1 from rfl, setAddHashedIn_succ]
  refine wpAny_bind (wpAny_setState_of ho hd R.fits ?_)
  dsimp only
  refine wp_if_neg (by simp [byScan, Value.scannable]) ?_
  try refine wpAny_bind (wpAny_pure ?_)
  refine wpAny_bind (searchN_all R hx hu (fun hm => ?_) fun K hm hK hb => ?_)
  · dsimp only
    exact wpAny_pure (hQ false s.heap L es ep t (Heap.SameBut.refl a s.heap) R (fun _ => rfl) fun z => absurd hm z)
  · dsimp only
    refine wpAny_bind (wpAny_setState_of ho hd R.fits ?_)
    dsimp only
    obtain ⟨q1, q2, q3, q4, q5, q6, q7, q8, q9⟩ := R.tab.put hK hb
    generalize hpt : t.put (way t.mask (hN w k) K) = pt at q1 q3 q4 q5 q6 q7 q8 q9 ⊢
    obtain ⟨t1, p⟩ := pt
    dsimp only at q1 q3 q4 q5 q6 q7 q8 q9 ⊢
    subst q1
    -- whatever becomes of the mark plain
    have main : ∀ t2 : SetTable, (t2 = t1 ∨ t2 = { t1 with plain := false }) → wpAny (model P w) A (do
        storeSet a (SetTable.insertAt es (SetTable.below t.place (way t.mask (hN w k) K)) (hN w k, Value.ref x)) t2
        if (!false && t2.tooFull) = true then setRelay a (SetTable.grown (es.size + 1))
        return true) Q E s := by
      intro t2 ht2
      have hin : (SetTable.insertAt es (SetTable.below t.place (way t.mask (hN w k) K)) (hN w k, Value.ref x)).toList = (L.take (SetTable.below t.place (way t.mask (hN w k) K)) ++ (x, k) :: L.drop (SetTable.below t.place (way t.mask (hN w k) K))).map (rowN w) := by
        rw [SetTable.toList_insertAt, R.rows, List.map_append, List.map_cons, List.map_take, List.map_drop]
      have hh : (L.take (SetTable.below t.place (way t.mask (hN w k) K)) ++ (x, k) :: L.drop (SetTable.below t.place (way t.mask (hN w k) K))).map (fun p => hN w p.2) = (L.map fun p => hN w p.2).take (SetTable.below t.place (way t.mask (hN w k) K)) ++ hN w k :: (L.map fun p => hN w p.2).drop (SetTable.below t.place (way t.mask (hN w k) K)) := by
        rw [List.map_append, List.map_cons, List.map_take, List.map_drop]
      rw [← hh] at q3
      have pm := put_perm L (SetTable.below t.place (way t.mask (hN w k) K)) (x, k)
      generalize SetTable.below t.place (way t.mask (hN w k) K) = p at q2 q3 hin pm ⊢
      have hlen : (L.take p ++ (x, k) :: L.drop p).length = L.length + 1 := pm.length_eq
      have hes := rows_size hin
      generalize SetTable.insertAt es p (hN w k, Value.ref x) = es1 at hin hes ⊢
      generalize L.take p ++ (x, k) :: L.drop p = L1 at pm hlen q3 hin hes
      have nd1 : (L1.map (·.2)).Nodup := (pm.map (·.2)).nodup_iff.mpr (by rw [List.map_cons]; exact List.nodup_cons.mpr ⟨hm, R.nd⟩)
      have T2 : TabOk t2 (L1.map fun p => hN w p.2) := by
        rcases ht2 with e | e
        · rw [e]; exact q3
        · rw [e]; exact TabOk.unplain q3
      have m2 : t2.mask = t.mask := by rcases ht2 with e | e <;> (rw [e]; exact q4)
      have l2 : t2.led = t.led := by rcases ht2 with e | e <;> (rw [e]; exact q5)
      have ld2 : w.params.followText "set-order" = true ∨ t2.led = true := by rw [l2]; exact R.led
      have f2 : t2.fill = L.length + 1 := by
        have e9 : t1.fill = L.length + 1 := by rw [q9, List.length_map]
        rcases ht2 with e | e
        · rw [e]; exact e9
        · rw [e]; exact e9
      refine wpAny_bind (wpAny_storeSet_of ho hd ?_ (by rw [hes, hlen, sizeLine_eq]; omega))
      have sb : Heap.SameBut a s.heap (s.heap.update a (Obj.putSet es1 t2)) := Heap.SameBut.update ..
      have ho1 := store_at (es' := es1) (t' := t2) ho hd
      generalize s.heap.update a (Obj.putSet es1 t2) = h1 at sb ho1 ⊢
      have is1 : ∀ p ∈ L1, IsN h1 p.2 p.1 := fun p hp => by
        rcases List.mem_cons.mp (pm.mem_iff.mp hp) with e | hp
        · rw [e]; exact hx.but ho hd sb
        · exact (R.is_ p hp).but ho hd sb
      have tf : t2.tooFull = decide ((L.length + 1) * 5 ≥ t.mask * 3) := by
        unfold SetTable.tooFull
        rw [f2, m2]
      by_cases hf : (L.length + 1) * 5 ≥ t.mask * 3
      · have hc : (!false && t2.tooFull) = true := by rw [tf, decide_eq_true hf] <;> rfl
        first
          | (refine wpAny_bind ?_; refine wp_if_pos hc ?_)
          | (refine wp_if_pos hc ?_; refine wpAny_bind ?_)
        have cases2 : (t.mask = 7 ∧ L.length = 4) ∨ (t.mask = 31 ∧ L.length = 18) := by
          rcases R.tab.mok with e | e | e
          · left; rw [e] at hf hroom; exact ⟨e, by omega⟩
          · right; rw [e] at hf hroom; exact ⟨e, by omega⟩
          · exfalso; rw [e] at hf; omega
        rw [hsl]
        have psz : t2.place.size = es1.size := by rw [T2.sz, List.length_map, hes]
        have go : ∀ M, SetTable.sizeAbove (SetTable.grown (L.length + 1)) - 1 = M → MaskOk M → SetTable.sizeAbove (SetTable.grown (L.length + 1)) ≤ 128 → (L.length + 1) * 5 < M * 3 →
            wpAny (model P w) A (setRelay a (SetTable.grown (L.length + 1))) (fun _ s' => wpAny (model P w) A (pure true) Q E s') E { s with heap := h1 } := fun M a1 a2 a3 a4 => by
          refine relayN (s := { s with heap := h1 }) ho1 ⟨hex.1, hex.2.1, hex.2.2⟩ rfl hin psz T2.dm (by rw [hes, hlen, m2]; omega) nd1 is1 ld2 (by rw [hlen]; exact hfew) a1 a2 a3 (by rw [hlen]; exact a4) ?_
          intro h2 L2 es2 ep2 t3 sb2 R2 pm2
          exact wpAny_pure (hQ true h2 L2 es2 ep2 t3 (sb.trans sb2) R2 (fun z => absurd z hm) fun _ => pm2.trans pm)
        rcases cases2 with ⟨_, e2⟩ | ⟨_, e2⟩
        · exact go 31 (by rw [e2, size_20]) (.inr (.inl rfl)) (by rw [e2, size_20]; decide) (by omega)
        · exact go 127 (by rw [e2, size_76]) (.inr (.inr rfl)) (by rw [e2, size_76]; decide) (by omega)
      · have hc : ¬ (!false && t2.tooFull) = true := by rw [tf, decide_eq_false hf]; decide
        first
          | refine wp_if_neg hc ?_
          | (refine wpAny_bind ?_; refine wp_if_neg hc ?_; refine wpAny_pure ?_)
        refine wpAny_pure (hQ true h1 L1 es1 (ep + 1) t2 sb ⟨⟨_, ho1, ⟨hex.1, hex.2.1, hex.2.2⟩, rfl⟩, hin, T2, nd1, is1, ld2, by rw [hlen, m2]; omega, by rw [hlen]; exact hfew⟩ (fun z => absurd z hm) fun _ => pm)
    by_cases hpl : t1.plain = true
    · first
        | (refine wpAny_bind ?_; refine wp_if_pos hpl ?_; refine val_key k _ 8 s hx.1 _ _ _ fun b => ?_)
        | refine wp_if_pos hpl (wpAny_bind (val_key k _ 8 s hx.1 _ _ _ fun b => ?_))
      cases b with
      | true =>
        simp only [if_true]
        exact main _ (.inl rfl)
      | false =>
        simp only [Bool.false_eq_true, if_false]
        exact main _ (.inr rfl)
    · first
        | (refine wpAny_bind ?_; refine wp_if_neg hpl ?_; refine wpAny_pure ?_)
        | refine wp_if_neg hpl (wpAny_bind (wpAny_pure ?_))
      simp only [if_true]
      exact main _ (.inl rfl)
end
end My

set_option Elab.async false
set_option maxRecDepth 100000
set_option maxHeartbeats 4000000
set_option linter.all false
namespace My
open PySem PySem.Spec PyProof.Rows L2
abbrev set0 (w : World) : Obj := { cls := .type "set", dict := none, data := .set #[] 0 (.fresh 0 0 (!w.params.followText "set-order")) }
/-- what one item more does to the set at S: T i says what the set is behind i items -/
def Adds (P : Program) (w : World) (A : Around) (h0 : Heap) (S : Addr) (n : Nat) (Pv : Nat → Value → Prop) (T : Nat → Obj → Prop) : Prop :=
  ∀ (i : Nat) (v : Value) (o : Obj) (s : Shared) (E : Value → Shared → Prop) (Q : Bool → Shared → Prop), i < n → Pv i v → s.heap.get? S = some o → T i o → (∀ b u, h0.get? b = some u → s.heap.get? b = some u) →
    (∀ b h' tk o', s.toks ≤ tk → Heap.SameBut S s.heap h' → h'.get? S = some o' → T (i + 1) o' → Q b { s with heap := h', toks := tk }) → wpAny (model P w) A (setAdd S v) Q E s
section
variable {P : Program} {w : World} {A : Around} {E : Value → Shared → Prop} {s : Shared}
theorem update_any {I : Addr} {fp wr : List Addr} {G : Array GenState → Array GenState → Prop} {n : Nat} {Pv : Nat → Value → Prop} {St : Nat → Shared → Prop} {R : Result → Shared → Prop}
    (W : WalksS P w A.in1 I fp wr G n Pv St) {S : Addr} (hSf : S ∉ fp) {T : Nat → Obj → Prop} {h0 : Heap} (hS0 : h0.get? S = none) (hw0 : ∀ b ∈ wr, h0.get? b = none) (add : Adds P w A.in1 h0 S n Pv T) :
    ∀ (k i : Nat) (s : Shared), n - i = k → i ≤ n → St i s → (∀ b o, h0.get? b = some o → s.heap.get? b = some o) → (∃ o, s.heap.get? S = some o ∧ T i o) →
      (∀ s' o, Moved (S :: wr) G s s' → s'.heap.get? S = some o → T n o → (∀ b o, h0.get? b = some o → s'.heap.get? b = some o) → R (.ok (.ret .none)) s') →
      codeAny (model P w) A (.builtin "set.update.loop" ⟨[.ref S, .ref I], []⟩) R s := by
  have hSw : S ∉ wr := fun h => hSf (W.sub _ h)
  have hsub : ∀ b ∈ wr, b ∈ S :: wr := fun b hb => List.mem_cons_of_mem _ hb
  have keepM : ∀ {s s' : Shared}, Moved wr G s s' → (∀ b o, h0.get? b = some o → s.heap.get? b = some o) → ∀ b o, h0.get? b = some o → s'.heap.get? b = some o := fun hm hkp b o e =>
    hm.heap b o (fun hb => by rw [hw0 b hb] at e; cases e) (hkp b o e)
  intro k
  induction k with
  | zero =>
    intro i s hk' hi hst hkp ⟨o, hS, hT⟩ hR
    obtain rfl : i = n := by omega
    refine codeAny_builtin F.entry_set_update_loop ?_
    rw [Around.under_plainId F.plain_set_update_loop _]
    show wpAny _ A.in1 (pyNext (.ref I) >>= _) _ _ s
    refine wpAny_bind (W.done s _ _ hst fun s' hm => ?_)
    show wpAny _ A.in1 (ret Value.none) _ _ s'
    exact wpAny_pure (hR s' o (hm.mono hsub) (hm.heap S o hSw hS) hT (keepM hm hkp))
  | succ k ih =>
    intro i s hk' hi hst hkp ⟨o, hS, hT⟩ hR
    have hlt : i < n := by omega
    refine codeAny_builtin F.entry_set_update_loop ?_
    rw [Around.under_plainId F.plain_set_update_loop _]
    show wpAny _ A.in1 (pyNext (.ref I) >>= _) _ _ s
    refine wpAny_bind (W.item i s _ _ hlt hst fun v s' hP hst' hm => ?_)
    have hkp' := keepM hm hkp
    show wpAny _ A.in1 (holding [v] (setAdd S v) >>= _) _ _ s'
    refine wpAny_bind (wpAny_holding (add i v o s' _ _ hlt hP (hm.heap S o hSw hS) hT hkp' fun b h' tk o' htk hsb hS2 hT2 => ?_))
    have hkp2 : ∀ b o, h0.get? b = some o → h'.get? b = some o := fun b o e => (hsb.2 b (fun z => by rw [z, hS0] at e; cases e)).trans (hkp' b o e)
    refine wpAny_pure ⟨plainId_quiet F.plain_set_update_loop _, ih (i + 1) _ (by omega) hlt (W.frame _ s' _ _ hst' htk fun b hb o e => ?_) hkp2 ⟨o', hS2, hT2⟩ fun s'' o2 hm'' hS'' hT'' hkp'' => ?_⟩
    · rw [hsb.2 b (fun h : b = S => hSf (by rw [← h]; exact hb))]; exact e
    · refine hR s'' o2 (Moved.trans W.gtrans ((hm.mono hsub).then_heap htk fun b o hb e => ?_) hm'') hS'' hT'' hkp''
      rw [hsb.2 b (fun h : b = S => hb (by rw [h]; exact List.mem_cons_self))]; exact e
set_option maxHeartbeats 3200000 in
/-- set(xs), xs a list -/
theorem call_set_any {l : Addr} {items : Array Value} {Q : Value → Shared → Prop} (hh : A.handled = none) (hl : s.heap.IsList l items) {T : Nat → Obj → Prop} (t0 : T 0 (set0 w))
    (add : Adds P w A.in1.in1.in1 s.heap s.heap.objs.size items.size (fun i v => items[i]? = some v) T)
    (h : ∀ (h' : Heap) (tk : Nat) (o : Obj), h'.get? s.heap.objs.size = some o → T items.size o → (∀ b o, s.heap.get? b = some o → h'.get? b = some o) → Q (.ref s.heap.objs.size) { s with heap := h', toks := tk }) :
    wpAny (model P w) A (call (.type "set") [.ref l]) Q E s := by
  obtain ⟨c, tl, hmro⟩ := F.called_set.mro
  have hmade := F.called_set.made
  have hsub := F.called_set.sub
  refine wpAny_call (codeAny_of_tree ?_)
  show wpAny _ _ (callAny (.type "set") _) _ _ _
  refine wpAny_pure ⟨Code.quiet_builtin _ (by decide +kernel), codeAny_builtin F.entry_type_call ?_⟩
  rw [Around.under_plain (weight_type_call_type "set" [.ref l] []) rfl]
  have h1 := F.called_set.notType
  have h2 := F.called_set.canCreate
  have hct := F.typeCall_set_1 (.ref l)
  repeat (any_goals (first | assumption | wp_step))
  refine codeAny_mono (code_set_led1 (.ref l) (E := E) (Q₁ := fun obj s₁ => obj = .ref s.heap.objs.size ∧ s₁ = { s with heap := s.heap.push (set0 w) }) ⟨rfl, rfl⟩) fun r s₁ hr => ?_
  cases r with
  | error e => exact hr
  | ok fl =>
    cases fl with
    | ret obj =>
      obtain ⟨rfl, rfl⟩ := hr
      have hS : (s.heap.push (set0 w)).get? s.heap.objs.size = some (set0 w) := Heap.get?_push_size _ rfl
      have hT : Shared.TypeIs { s with heap := s.heap.push (set0 w) } (.ref s.heap.objs.size) "set" := ⟨_, hS, rfl⟩
      have hli := F.called_set.init.lookup
      have hbi := F.called_set.init.bind (.ref s.heap.objs.size)
      repeat (any_goals (first | assumption | wp_step))
      refine codeAny_mono (codeAny_call_builtin (R := wants (fun r s₂ => r = .none ∧ ∃ h' tk o, s₂ = { s with heap := h', toks := tk } ∧ h'.get? s.heap.objs.size = some o ∧ T items.size o ∧ (∀ b o, s.heap.get? b = some o → h'.get? b = some o)) E)
        F.called_set.init.plain F.entry_set_init (check_set_init_1 hT ?_)) fun r₂ s₂ hr₂ => ?_
      · obtain ⟨ol, hol, hcl, nl, hdl⟩ := hl
        obtain ⟨ocls, odict, odata, oslots⟩ := ol
        simp only at hcl hdl
        subst hcl; subst hdl
        have hol' : (s.heap.push (set0 w)).get? l = some { cls := .type "list", dict := odict, data := .seq items nl, slots := oslots } := Heap.get?_push_of_some _ hol
        have hsls := F.sub_list_set
        have hslf := F.sub_list_frozenset
        have hne : (Value.type "list" == Value.type "dict") = false := by decide
        have hl1 : (s.heap.push (set0 w)).IsList l items := ⟨_, hol', rfl, nl, rfl⟩
        unfold Builtin.«set.__init__» noKeywords Builtin.Frozenset.updateFrom
        generalize hPI : pyIter = PI
        wp_walk
        subst hPI
        refine wpAny_pyIter_list hl1 ?_
        refine wpAny_bind (wpAny_runValue ?_)
        have hlS : l < s.heap.objs.size := Heap.lt_size hol
        have hh3 : A.in1.in1.in1.handled = none := by simp [hh]
        have hneI : l ≠ (s.heap.push (set0 w)).objs.size := by
          rw [Heap.size_push]; exact Nat.ne_of_lt (Nat.lt_succ_of_lt hlS)
        have hSf : s.heap.objs.size ∉ [(s.heap.push (set0 w)).objs.size, l] := by
          rw [Heap.size_push]; simp only [List.mem_cons, List.mem_singleton, List.not_mem_nil, or_false, not_or]
          exact ⟨Nat.ne_of_lt (Nat.lt_succ_self _), Nat.ne_of_gt hlS⟩
        have none_of : ∀ b, s.heap.objs.size ≤ b → s.heap.get? b = none := fun b hb => by
          cases q : s.heap.get? b with
          | none => rfl
          | some o => exact absurd (Nat.lt_of_lt_of_le (Heap.lt_size q) hb) (Nat.lt_irrefl _)
        refine update_any ((Walks.list hh3 _ l hneI items).toS) hSf (T := T) (h0 := s.heap) (none_of _ (Nat.le_refl _)) (fun b hb => none_of b (by
            rw [List.mem_singleton.mp hb, Heap.size_push]
            exact Nat.le_succ _)) ?hadd (items.size - 0) 0 _ (by omega) (Nat.zero_le _)
          ⟨⟨_, Heap.get?_push_size _ rfl, rfl, rfl⟩, (hl1.push _)⟩ (fun b o e => Heap.get?_push_of_some _ (Heap.get?_push_of_some _ e)) ⟨_, Heap.get?_push_of_some _ hS, t0⟩ ?hR
        case hadd => exact add
        case hR =>
          intro s' o hm hS' hT' hkp
          obtain ⟨h', g2, d', tk', os'⟩ := s'
          have eg : g2 = s.gens := hm.gens
          have ed : d' = s.drawn := hm.drawn
          have eo : os' = s.os := hm.os
          subst eg; subst ed; subst eo
          show wpAny _ _ _ _ _ _
          refine wpAny_pure ?_
          show wpAny _ _ (ret Value.none) _ _ _
          exact wpAny_pure ⟨rfl, h', tk', o, rfl, hS', hT', hkp⟩
      · cases r₂ with
        | error e => exact hr₂
        | ok fl₂ =>
          cases fl₂ with
          | ret r =>
            obtain ⟨rfl, h', tk, o, rfl, hS', hT', hk'⟩ := hr₂
            repeat (any_goals (first | assumption | wp_step))
            exact h _ _ _ hS' hT' hk'
          | _ => exact hr₂.elim
    | _ => exact hr.elim
end
end My

set_option Elab.async false
set_option maxRecDepth 100000
set_option maxHeartbeats 4000000
set_option linter.all false
namespace My
open PySem PySem.Spec PyProof.Rows L2
/-! ### tuples -/
structure TupT (w : World) (h0 : Heap) (ks : List (Addr × NK)) (i : Nat) (o : Obj) : Prop where
  ex : ∃ (L : List (Addr × NK)) (es : Array (Int × Value)) (ep : Nat) (t : SetTable), o.ExactSet ∧ o.data = .set es ep t ∧ es.toList = L.map (rowN w) ∧ TabOk t (L.map fun p => hN w p.2) ∧ (L.map (·.2)).Nodup ∧ (w.params.followText "set-order" = true ∨ t.led = true) ∧ L.length * 5 < t.mask * 3 ∧
    L.length ≤ i ∧ (∀ p ∈ L, p ∈ ks.take i) ∧ ∀ p ∈ ks.take i, p.2 ∈ L.map (·.2)
theorem mem_take_next {α : Type} {l : List α} {i : Nat} {x : α} (h : l[i]? = some x) {y : α} : y ∈ l.take (i + 1) ↔ y ∈ l.take i ∨ y = x := by
  rw [take_next h, List.mem_append, List.mem_singleton]
theorem led_new (w : World) : w.params.followText "set-order" = true ∨ (SetTable.fresh 0 0 (!w.params.followText "set-order")).led = true := by
  show _ ∨ (!w.params.followText "set-order") = true
  cases w.params.followText "set-order"
  · exact .inr rfl
  · exact .inl rfl
theorem tupT_new {w : World} {h0 : Heap} {ks : List (Addr × NK)} : TupT w h0 ks 0 (set0 w) :=
  ⟨[], #[], 0, _, ⟨rfl, rfl, rfl⟩, rfl, rfl, ⟨List.Pairwise.nil, rfl, rfl, .inl rfl, fun x hx => (by cases hx), fun i h j hi => (by simp at hi)⟩, List.nodup_nil, led_new w, (by show 0 * 5 < 7 * 3; decide), Nat.le_refl _, fun p h => (by cases h), fun p h => (by simp at h)⟩
theorem tupT_adds {P : Program} {w : World} {A : Around} {h0 : Heap} {S : Addr} {n : Nat} {Pv : Nat → Value → Prop} {ks : List (Addr × NK)} (hS0 : h0.get? S = none) (hn : n = ks.length) (hfew : ks.length < 64) (hval : ∀ i v, Pv i v → ∃ p, ks[i]? = some p ∧ v = .ref p.1) (hk : ∀ p ∈ ks, IsN h0 p.2 p.1) (hu : A.units + 8 < cLine) : Adds P w A h0 S n Pv (TupT w h0 ks) := by
  intro i v o s E Q hi hP hS hT kp hQ
  obtain ⟨p, hp, rfl⟩ := hval i v hP
  obtain ⟨L, es, ep, t, hex, hd, hr, tab, nd, ld, room, len, sub, all⟩ := hT.ex
  have hpm := List.mem_of_getElem? hp
  have hx : IsN s.heap p.2 p.1 := (hk p hpm).keep kp
  have R : SetN w s.heap S L es ep t := ⟨⟨o, hS, hex, hd⟩, hr, tab, nd, fun q hq => (hk q (List.mem_of_mem_take (sub q hq))).keep kp, ld, room, by omega⟩
  unfold setAdd
  refine wpAny_holding ?_
  refine wpAny_bind (pyHash_key p.2 _ A s _ hx.1 (by have := hx.2; omega) ?_)
  refine addN (s := { s with toks := s.toks + p.2.draws }) R hx hu (by omega) fun b h' L' es' ep' t' sb R' c1 c2 => ?_
  obtain ⟨o', ho', hex', hd'⟩ := R'.ob
  refine hQ b h' _ o' (Nat.le_add_right _ _) sb ho' ⟨L', es', ep', t', hex', hd', R'.rows, R'.tab, R'.nd, R'.led, R'.room, ?_⟩
  rcases Classical.em (p.2 ∈ L.map (·.2)) with c | c
  · rw [c1 c]
    refine ⟨by omega, fun q hq => (mem_take_next hp).2 (.inl (sub q hq)), fun q hq => ?_⟩
    rcases (mem_take_next hp).1 hq with z | z
    · exact all q z
    · rw [z]; exact c
  · have pm := c2 c
    refine ⟨by rw [pm.length_eq, List.length_cons]; omega, fun q hq => ?_, fun q hq => ?_⟩
    · rcases List.mem_cons.mp (pm.mem_iff.mp hq) with e | z
      · exact (mem_take_next hp).2 (.inr e)
      · exact (mem_take_next hp).2 (.inl (sub q z))
    · rw [(pm.map (·.2)).mem_iff, List.map_cons]
      rcases (mem_take_next hp).1 hq with z | z
      · exact List.mem_cons_of_mem _ (all q z)
      · rw [z]; exact List.mem_cons_self
/-! data as keys -/
mutual
theorem dp_nested {X : Cx} {pins : List (Addr × Obj)} {σ : L2.St} {H : Hp} {s : Shared} (I : Inv X pins σ H s) : ∀ (k : NK) (v : V) (u : Value), Dp X.K H v k.data → RelV v u → NestedIs s.heap k u
  | .none, _, u, h, r => by
    cases h
    cases r
    exact .none
  | .num i, _, u, h, r => by
    cases h
    obtain ⟨t, rfl⟩ := r
    exact .int _ _
  | .text x, _, u, h, r => by
    cases h
    obtain ⟨t, rfl⟩ := r
    exact .text _ _
  | .tup ks, v, u, h, r => by
    have h' : Dp X.K H v (.tuple (NestedKey.datas ks)) := h
    cases h' with
    | tup hs ha =>
      obtain rfl : u = Value.ref _ := r
      obtain ⟨its, rv, ⟨o, ho, hc, n, hd⟩, _⟩ := I.tuple hs
      exact .tup ho hc hd (by simpa using dp_nesteds I ks _ its ha rv)
theorem dp_nesteds {X : Cx} {pins : List (Addr × Obj)} {σ : L2.St} {H : Hp} {s : Shared} (I : Inv X pins σ H s) : ∀ (ks : List NK) (vs : List V) (us : List Value), DpAll X.K H vs (NestedKey.datas ks) → Vals vs us → NestedAll s.heap ks us
  | [], _, us, h, r => by
    cases h
    cases r
    exact .nil
  | k :: ks, _, us, h, r => by
    cases h with
    | cons h t =>
      cases r with
      | cons r rt => exact .cons (dp_nested I k _ _ h r) (dp_nesteds I ks _ _ t rt)
end
theorem datas_map : ∀ ks : List NK, NestedKey.datas ks = ks.map NestedKey.data
  | [] => rfl
  | k :: ks => by rw [NestedKey.datas, datas_map ks, List.map_cons]
theorem data_inj {H : Hp} {K : PySem.W.Frag} : True := trivial
def isTup : NK → Bool
  | .tup _ => true
  | _ => false
/-- set(xs), xs a list of fewer than 64 tuples -/
def rSetT (K : PySem.W.Frag) (w : World) : List V → Hp → VK → Prop := fun xs H Q => ∃ (l : Addr) (ps : List (Addr × NK)), xs = [V.ref l] ∧ SqL K H l (ps.map fun p => V.ref p.1) ∧ (∀ p ∈ ps, Dp K H (.ref p.1) p.2.data ∧ p.2.depth ≤ 8) ∧ ps.length < 64 ∧
  ∀ a (L : List (Addr × NK)), H a = none → (∀ p ∈ L, p ∈ ps) → (L.map (·.2)).Nodup → (∀ p ∈ ps, p.2 ∈ L.map (·.2)) → Q (.ref a) (upd H a (SetV w a (L.map fun p => V.ref p.1)))
theorem refs_back2 : ∀ {ks : List (Addr × NK)} {us : List Value}, Vals (ks.map fun p => V.ref p.1) us → us = ks.map fun p => Value.ref p.1
  | [], _, .nil => rfl
  | p :: ks, _, .cons r t => by
    cases r
    rw [refs_back2 t] <;> rfl
theorem vals_refs2 : ∀ (ks : List (Addr × NK)), Vals (ks.map fun p => V.ref p.1) (ks.map fun p => Value.ref p.1)
  | [] => .nil
  | p :: ks => .cons rfl (vals_refs2 ks)
section
variable {X : Cx}
theorem cr_setT (hc : X.calm = true) (hu : X.A.units + 65 < cLine) : CallR X (.type "set") (rSetT X.K X.w) := by
  intro pins s σ H xs us Q I r h
  obtain ⟨l, ps, rfl, hl, hk, hf, q⟩ := h
  obtain ⟨u, rfl, ru⟩ := vals1 r
  obtain rfl : u = Value.ref l := ru
  obtain ⟨its, rv, pl, hz⟩ := I.list hl
  have hn : H s.heap.objs.size = none := I.hok.fresh (Nat.le_refl _)
  have hits : its = ps.map fun p => Value.ref p.1 := refs_back2 rv
  have hz2 : its.toArray.size = ps.length := by rw [List.size_toArray, hits, List.length_map]
  have hk' : ∀ p ∈ ps, IsN s.heap p.2 p.1 := fun p hp => ⟨dp_nested I p.2 _ _ (hk p hp).1 rfl, (hk p hp).2⟩
  have hfresh : s.heap.get? s.heap.objs.size = none := by
    cases z : s.heap.get? s.heap.objs.size with
    | none => rfl
    | some o => exact absurd (Heap.lt_size z) (Nat.lt_irrefl _)
  refine call_set_any (P := X.prog) (w := X.w) (I.ok.hd hc) pl.isList (T := TupT X.w s.heap ps) tupT_new ?_ fun h' tk o ho hT kp => ?_
  · refine tupT_adds hfresh hz2 hf (fun i v hv => ?_) hk' (by show X.A.units + 1 + 1 + 1 + 8 < cLine; omega)
    rw [← Array.getElem?_toList, hits] at hv
    have hv' : (ps.map fun p => Value.ref p.1)[i]? = some v := by simpa using hv
    rw [List.getElem?_map] at hv'
    cases e : ps[i]? with
    | none => rw [e] at hv'; cases hv'
    | some p =>
      rw [e] at hv'
      exact ⟨p, rfl, (Option.some.inj hv').symm⟩
  · obtain ⟨L, es, ep, t, hex, hd, hr, tab, nd, ld, room, len, sub, all⟩ := hT.ex
    rw [hz2] at len sub all
    rw [List.take_length] at sub all
    have hsl := rows_size hr
    have psz : t.place.size = es.size := by rw [tab.sz, List.length_map, hsl]
    have sv : SetV0 X.w h' s.heap.objs.size (L.map fun p => V.ref p.1) := ⟨es, ep, t, ⟨o, ho, hex, hd⟩, fits_of psz tab.dm (by omega), tab.ris, ld, by omega, by
      rw [hr, List.map_map]
      exact vals_refs2 L⟩
    exact ⟨.ref s.heap.objs.size, upd H s.heap.objs.size (SetV X.w s.heap.objs.size (L.map fun p => V.ref p.1)), I.laid (t' := tk) kp (Nat.le_refl _) (setV_new sv), rfl, q _ L hn sub nd all⟩
end
/-! ### texts -/
def keyS (e : Int × Value) : Str := match e.2 with | .str x _ => x | _ => ""
def IsS (w : World) (e : Int × Value) : Prop := ∃ x tk, e = (hashStr w x, Value.str x tk)
structure TxtT (w : World) (xs : List Str) (i : Nat) (o : Obj) : Prop where
  ex : ∃ (es : Array (Int × Value)) (ep : Nat) (t : SetTable), o.ExactSet ∧ o.data = .set es ep t ∧ t.fits es.size = true ∧ Ris t.place.toList ∧ (w.params.followText "set-order" = true ∨ t.led = true) ∧ (∀ e ∈ es.toList, IsS w e) ∧ (es.toList.map keyS).Nodup ∧ (∀ x, x ∈ xs.take i ↔ x ∈ es.toList.map keyS) ∧ es.size ≤ i
theorem txtT_new {w : World} {xs : List Str} : TxtT w xs 0 (set0 w) :=
  ⟨#[], 0, _, ⟨rfl, rfl, rfl⟩, rfl, rfl, List.Pairwise.nil, led_new w, fun e he => (by simp at he), List.nodup_nil, fun x => by simp, Nat.le_refl _⟩
section
variable {P : Program} {w : World} {A : Around} {E : Value → Shared → Prop} {s : Shared}
theorem isS_elems {l : List (Int × Value)} (g : ∀ e ∈ l, IsS w e) : ElemsOf (strKind P w) l := fun e he => by
  obtain ⟨x, tk, rfl⟩ := g e he
  exact ⟨⟨x, by show Value.isStr (.str x tk) x = true; simp [Value.isStr], rfl⟩, rfl⟩
theorem isS_is {e : Int × Value} (g : IsS w e) (x : Str) : (strKind P w).is x e.2 = true ↔ keyS e = x := by
  obtain ⟨y, tk, rfl⟩ := g
  show Value.isStr (.str y tk) x = true ↔ y = x
  simp [Value.isStr]
  try exact eq_comm
theorem add_txt {S : Addr} {o : Obj} {es : Array (Int × Value)} {ep : Nat} {t : SetTable} (ho : s.heap.get? S = some o) (hex : o.ExactSet) (hd : o.data = .set es ep t) (hf : t.fits es.size = true) (hr : Ris t.place.toList) (hl : w.params.followText "set-order" = true ∨ t.led = true)
    (g : ∀ e ∈ es.toList, IsS w e) (hb : es.size + 1 < scanBound) {x : Str} {tk : Tok} {Q : Bool → Shared → Prop}
    (hQ : ∀ b h' o' es' ep' t', Heap.SameBut S s.heap h' → h'.get? S = some o' → o'.ExactSet → o'.data = .set es' ep' t' → t'.fits es'.size = true → Ris t'.place.toList → (w.params.followText "set-order" = true ∨ t'.led = true) →
      (x ∈ es.toList.map keyS → es'.toList.Perm es.toList) → (x ∉ es.toList.map keyS → es'.toList.Perm ((hashStr w x, Value.str x tk) :: es.toList)) → Q b { s with heap := h' }) :
    wpAny (model P w) A (setAddHashed S (.str x tk) (hashStr w x)) Q E s := by
  have hkey : (strKind P w).is x (.str x tk) = true := by show Value.isStr (.str x tk) x = true; simp [Value.isStr]
  have hsc : (Value.str x tk).scannable = true := rfl
  have hel : ElemsOf (strKind P w) es.toList := isS_elems g
  have hx : hashStr w x = (strKind P w).hash x := rfl
  unfold setAddHashed setAddHashedIn
  refine wpAny_holding (wpAny_bind (wpAny_setState_of ho hd hf ?_))
  dsimp only
  rw [byScan_of hsc (by omega) hel]
  simp only [↓reduceIte]
  unfold setAddByScan
  refine wpAny_bind ?_
  refine wpAny_bind (wpAny_rule ?_)
  refine wpAny_bind (wpAny_setScan_of hkey ho hd hf hel ?_)
  cases hfi : List.findIdx? (fun e => (strKind P w).is x e.2) es.toList with
  | some j =>
    dsimp only
    obtain ⟨hj, pj, _⟩ := List.findIdx?_eq_some_iff_getElem.mp hfi
    have hin : x ∈ es.toList.map keyS := List.mem_map.mpr ⟨es.toList[j], List.getElem_mem hj, (isS_is (P := P) (g _ (List.getElem_mem hj)) x).1 pj⟩
    exact wpAny_pure (wpAny_pure (hQ _ s.heap o es ep t (Heap.SameBut.refl S s.heap) ho hex hd hf hr hl (fun _ => .refl _) fun z => absurd hin z))
  | none =>
    dsimp only
    have hnx : x ∉ es.toList.map keyS := fun z => by
      obtain ⟨e, he, q⟩ := List.mem_map.mp z
      have c := List.findIdx?_eq_none_iff.mp hfi e he
      rw [(isS_is (P := P) (g e he) x).2 q] at c
      cases c
    have hgw : ∀ (b : Bool) {s₁ : Shared} {Q' : Unit → Shared → Prop}, Q' () s₁ → wpAny (model P w) A (match b with | true => rule "set.scan.the-table-gave-way" | false => pure ()) Q' E s₁ :=
      fun b s₁ Q' q => by cases b <;> first | exact wpAny_pure q | exact wpAny_rule q
    have pm := layNew_perm t es ((strKind P w).hash x) (.str x tk)
    have hf1 := layNew_fits t es ((strKind P w).hash x) (.str x tk)
    have hr1 := layNew_ris t es ((strKind P w).hash x) (.str x tk) hr
    have hl1 := layNew_led t es ((strKind P w).hash x) (.str x tk)
    rw [hx] at hQ ⊢
    generalize layNew t es ((strKind P w).hash x) (.str x tk) = Z at pm hf1 hr1 hl1 ⊢
    obtain ⟨es1, t1, wasDummy, gave⟩ := Z
    dsimp only at pm hf1 hr1 hl1 ⊢
    rw [Array.toList_push] at pm
    have pc : es1.toList.Perm (((strKind P w).hash x, Value.str x tk) :: es.toList) := pm.trans (List.perm_append_singleton _ _)
    have hsz : es1.size = es.size + 1 := by rw [← Array.length_toList, pc.length_eq, List.length_cons, Array.length_toList]
    have hled : w.params.followText "set-order" = true ∨ t1.led = true := hl.imp id fun z => by rw [hl1]; exact z
    -- what comes behind the laying, whatever the mark
    have tail : ∀ (t2 : SetTable) (R : Option Bool → Shared → Prop) (gg : Bool → Sem Unit), (∀ (b : Bool) (s₁ : Shared) (Q' : Unit → Shared → Prop), Q' () s₁ → wpAny (model P w) A (gg b) Q' E s₁) → t2.fits es1.size = true → Ris t2.place.toList → (w.params.followText "set-order" = true ∨ t2.led = true) →
        (∀ s', (∀ b, Q b s') → R (some true) s') → wpAny (model P w) A (do
        storeSet S es1 t2
        if (!wasDummy && t2.tooFull) = true then do
            gg (relayAll t2 es1 (SetTable.grown es1.size)).2.2
            storeSet S (relayAll t2 es1 (SetTable.grown es1.size)).1 (relayAll t2 es1 (SetTable.grown es1.size)).2.1
            pure (some true)
          else pure (some true)) R E s := by
      intro t2 R gg hgg f2 r2 l2 hR
      refine wpAny_bind (wpAny_storeSet_of ho hd ?_ (fits_of_scanBound (by omega)))
      have ho1 := store_at (es' := es1) (t' := t2) ho hd
      have sb1 := Heap.SameBut.update s.heap S (Obj.putSet es1 t2)
      split
      · have pm3 := relayAll_perm t2 es1 (SetTable.grown es1.size)
        have hf3 := relayAll_fits t2 es1 (SetTable.grown es1.size)
        have hr3 := relayAll_ris t2 es1 (SetTable.grown es1.size)
        have hl3 := relayAll_led t2 es1 (SetTable.grown es1.size)
        generalize relayAll t2 es1 (SetTable.grown es1.size) = Z at pm3 hf3 hr3 hl3 ⊢
        obtain ⟨es2, t3, gave2⟩ := Z
        dsimp only at pm3 hf3 hr3 hl3 ⊢
        have hsz2 : es2.size = es1.size := by rw [← Array.length_toList, pm3.length_eq, Array.length_toList]
        refine wpAny_bind (hgg _ _ _ ?_)
        refine wpAny_bind (wpAny_storeSet_of ho1 rfl ?_ (fits_of_scanBound (by omega)))
        have ho2 := store_at (es' := es2) (t' := t3) ho1 rfl
        refine wpAny_pure (hR _ fun b => ?_)
        exact hQ b _ _ es2 _ t3 (sb1.trans (Heap.SameBut.update _ S _)) ho2 ⟨hex.1, hex.2.1, hex.2.2⟩ rfl (by rw [hsz2]; first | exact hf3 | (rw [← hsz2]; exact hf3)) hr3 (l2.imp id fun z => by rw [hl3]; exact z) (fun z => absurd z hnx) fun _ => pm3.trans pc
      · exact wpAny_pure (hR _ fun b => hQ b _ _ es1 _ t2 sb1 ho1 ⟨hex.1, hex.2.1, hex.2.2⟩ rfl f2 r2 l2 (fun z => absurd z hnx) fun _ => pc)
    refine wpAny_bind (hgw _ ?_)
    split
    · refine wpAny_bind ?_
      rw [hashByValue_scannable 8 hsc]
      refine wpAny_pure ?_
      refine tail _ _ _ ?_ ?_ ?_ ?_ ?_
      · intro b s₁ Q' q; cases b <;> first | exact wpAny_pure q | exact wpAny_rule q
      · first | (split <;> first | exact hf1 | exact SetTable.fits_plain_off hf1) | exact hf1
      · first | (split <;> exact hr1) | exact hr1
      · first | (split <;> exact hled) | exact hled
      · intro s' q; dsimp only; exact wpAny_pure (q _)
    · refine wpAny_bind (wpAny_pure ?_)
      simp only [↓reduceIte]
      refine tail _ _ _ ?_ hf1 hr1 hled ?_
      · intro b s₁ Q' q; cases b <;> first | exact wpAny_pure q | exact wpAny_rule q
      · intro s' q; dsimp only; exact wpAny_pure (q _)
theorem txtT_adds {h0 : Heap} {S : Addr} {n : Nat} {Pv : Nat → Value → Prop} {xs : List Str} (hn : n = xs.length) (hfew : xs.length < 1000) (hval : ∀ i v, Pv i v → ∃ x tk, xs[i]? = some x ∧ v = .str x tk) : Adds P w A h0 S n Pv (TxtT w xs) := by
  intro i v o s E Q hi hP hS hT kp hQ
  obtain ⟨x, tk, hx, rfl⟩ := hval i v hP
  obtain ⟨es, ep, t, hex, hd, hf, hr, hl, g, nd, mem, len⟩ := hT.ex
  unfold setAdd
  refine wpAny_holding ?_
  refine wpAny_bind (wpAny_pyHash_str ?_)
  refine add_txt (s := { s with toks := s.toks + 1 }) hS hex hd hf hr hl g (by unfold scanBound; omega) fun b h' o' es' ep' t' sb ho' hex' hd' hf' hr' hl' c1 c2 => ?_
  refine hQ b h' _ o' (Nat.le_succ _) sb ho' ⟨es', ep', t', hex', hd', hf', hr', hl', ?_⟩
  rcases Classical.em (x ∈ es.toList.map keyS) with c | c
  · have pm := c1 c
    refine ⟨fun e he => g e (pm.mem_iff.mp he), (pm.map keyS).nodup_iff.mpr nd, fun y => ?_, ?_⟩
    · rw [(pm.map keyS).mem_iff, ← mem y, mem_take_next hx]
      constructor
      · rintro (z | z)
        · exact z
        · rw [z]; exact (mem x).2 c
      · exact .inl
    · rw [← Array.length_toList, pm.length_eq, Array.length_toList]; omega
  · have pm := c2 c
    have pk : (es'.toList.map keyS).Perm (x :: es.toList.map keyS) := pm.map keyS
    refine ⟨fun e he => ?_, pk.nodup_iff.mpr (List.nodup_cons.mpr ⟨c, nd⟩), fun y => ?_, ?_⟩
    · rcases List.mem_cons.mp (pm.mem_iff.mp he) with z | z
      · exact ⟨x, tk, z⟩
      · exact g e z
    · rw [pk.mem_iff, List.mem_cons, ← mem y, mem_take_next hx]
      exact Or.comm
    · rw [← Array.length_toList, pm.length_eq, List.length_cons, Array.length_toList]; omega
end
/-- set(xs), xs a list of texts -/
def rSetS (K : PySem.W.Frag) (w : World) : List V → Hp → VK → Prop := fun vs H Q => ∃ (l : Addr) (xs : List Str), vs = [V.ref l] ∧ SqL K H l (xs.map V.str) ∧ xs.length < 1000 ∧
  ∀ a (ys : List Str), H a = none → ys.Nodup → (∀ x, x ∈ ys ↔ x ∈ xs) → Q (.ref a) (upd H a (SetV w a (ys.map V.str)))
theorem vals_strs : ∀ {l : List (Int × Value)} {w : World}, (∀ e ∈ l, IsS w e) → Vals ((l.map keyS).map V.str) (l.map (·.2))
  | [], _, _ => .nil
  | e :: l, w, g => by
    obtain ⟨x, tk, h⟩ := g e List.mem_cons_self
    subst h
    exact .cons ⟨tk, rfl⟩ (vals_strs fun e he => g e (List.mem_cons_of_mem _ he))
theorem strs_at : ∀ {xs : List Str} {us : List Value}, Vals (xs.map V.str) us → ∀ (i : Nat) (v : Value), us[i]? = some v → ∃ x tk, xs[i]? = some x ∧ v = .str x tk
  | [], _, .nil, i, v, h => by simp at h
  | x :: xs, _, .cons r t, 0, v, h => by
    obtain ⟨tk, e⟩ := r
    exact ⟨x, tk, rfl, by rw [← Option.some.inj h]; exact e⟩
  | x :: xs, _, .cons r t, i + 1, v, h => strs_at t i v h
section
variable {X : Cx}
theorem cr_setS (hc : X.calm = true) : CallR X (.type "set") (rSetS X.K X.w) := by
  intro pins s σ H vs us Q I r h
  obtain ⟨l, xs, rfl, hl, hf, q⟩ := h
  obtain ⟨u, rfl, ru⟩ := vals1 r
  obtain rfl : u = Value.ref l := ru
  obtain ⟨its, rv, pl, hz⟩ := I.list hl
  have hn : H s.heap.objs.size = none := I.hok.fresh (Nat.le_refl _)
  have hz2 : its.toArray.size = xs.length := by rw [List.size_toArray, ← rv.length, List.length_map]
  refine call_set_any (P := X.prog) (w := X.w) (I.ok.hd hc) pl.isList (T := TxtT X.w xs) txtT_new (txtT_adds hz2 hf fun i v hv => strs_at rv i v (by simpa using hv)) fun h' tk o ho hT kp => ?_
  obtain ⟨es, ep, t, hex, hd, hft, hr, hl, g, nd, mem, len⟩ := hT.ex
  rw [hz2, List.take_length] at mem
  rw [hz2] at len
  have sv : SetV0 X.w h' s.heap.objs.size ((es.toList.map keyS).map V.str) := ⟨es, ep, t, ⟨o, ho, hex, hd⟩, hft, hr, hl, by omega, vals_strs g⟩
  exact ⟨.ref s.heap.objs.size, upd H s.heap.objs.size (SetV X.w s.heap.objs.size ((es.toList.map keyS).map V.str)), I.laid (t' := tk) kp (Nat.le_refl _) (setV_new sv), rfl, q _ _ hn nd fun x => (mem x).symm⟩
end
end My

set_option Elab.async false
set_option maxRecDepth 100000
set_option maxHeartbeats 4000000
set_option linter.all false
/-! Dicts whose keys are tuples, also of tuples. -/
namespace My
open PySem PySem.Spec PyProof.Rows L2
abbrev NRow := NK × Addr × V
abbrev NRows := List NRow
def NRel (p : NRow) (q : NK × Addr × Value) : Prop := p.1 = q.1 ∧ p.2.1 = q.2.1 ∧ RelV p.2.2 q.2.2
def dnP (P : Program) (w : World) (d : Addr) (xs : NRows) (h : Heap) : Prop :=
  (d == sysModules) = false ∧ ∃ vs : List (NK × Addr × Value), Paired NRel xs vs ∧ ∃ o es ep, h.get? d = some o ∧ o.ExactDict ∧ o.data = .dict es ep ∧ es.toList = vs.map (entryOfKey (nestedKind P w)) ∧ (vs.map (·.1)).Nodup
def dnO (P : Program) (w : World) (d : Addr) (xs : NRows) : HO := .ext (dnP P w d xs)
theorem dnO_ok {P : Program} {w : World} {H : Hp} {h : Heap} {d : Addr} {xs : NRows} (x : dnP P w d xs h) : ObjOk P w H h d (dnO P w d xs) := by
  obtain ⟨hd, vs, r, o, es, ep, e, c⟩ := x
  refine ⟨⟨hd, vs, r, o, es, ep, e, c⟩, ⟨o, e⟩, fun h1 h2 x k => ?_⟩
  obtain ⟨hd, vs, r, o, es, ep, e, c⟩ := x
  exact ⟨hd, vs, r, o, es, ep, k o e, c⟩
def valN (xs : NRows) (k : NK) : Option V := (xs.find? fun x => decide (x.1 = k)).map (·.2.2)
structure DN (P : Program) (w : World) (K : PySem.W.Frag) (H : Hp) (d : Addr) (xs : NRows) : Prop where
  at_ : H d = some (dnO P w d xs) ∨ (xs = [] ∧ H d = some (.dK []))
  len : xs.length ≤ sizeLine
  keys : ∀ x ∈ xs, Dp K H (.ref x.2.1) x.1.data ∧ x.1.depth ≤ 8
theorem nrel_val {k : NK} : ∀ {xs : NRows} {vs : List (NK × Addr × Value)}, Paired NRel xs vs → RelO (valN xs k) ((atKey vs k).map (·.2))
  | _, _, .nil => True.intro
  | _, _, .cons (a := p) (b := q) h t => by
    have ih := nrel_val (k := k) t
    unfold valN atKey at *
    by_cases e : p.1 = k
    · have e2 : q.1 = k := h.1.symm.trans e
      rw [List.find?_cons_of_pos (by simp [e]), List.find?_cons_of_pos (by simp [e2])]
      exact h.2.2
    · have e2 : ¬ q.1 = k := fun z => e (h.1.trans z)
      rw [List.find?_cons_of_neg (by simp [e]), List.find?_cons_of_neg (by simp [e2])]
      exact ih
theorem nrel_mem {xs : NRows} {vs : List (NK × Addr × Value)} (r : Paired NRel xs vs) : ∀ q ∈ vs, ∃ p ∈ xs, NRel p q := by
  induction r with
  | nil => intro q hq; cases hq
  | @cons p q ps qs h t ih =>
    intro z hz
    rcases List.mem_cons.mp hz with e | hz
    · exact ⟨p, .head _, by rw [e]; exact h⟩
    · obtain ⟨y, h1, h2⟩ := ih z hz
      exact ⟨y, .tail _ h1, h2⟩
section
variable {X : Cx} {pins : List (Addr × Obj)} {σ : L2.St} {H : Hp} {s : Shared} {d : Addr} {xs : NRows}
theorem dn_of (I : Inv X pins σ H s) (D : DN X.prog X.w X.K H d xs) : (d == sysModules) = false ∧ ∃ vs, Paired NRel xs vs ∧ s.heap.DictOfH (nestedKind X.prog X.w) d vs := by
  rcases D.at_ with e | ⟨rfl, e⟩
  · obtain ⟨⟨hd, vs, r, o, es, ep, h1, h2, h3, h4, h5⟩, _⟩ := (show ObjOk X.prog X.w H s.heap d (dnO X.prog X.w d xs) from I.hok d _ e)
    refine ⟨hd, vs, r, o, es, ep, h1, h2, h3, h4, fun q hq => ?_, h5⟩
    obtain ⟨p, hp, e1, e2, _⟩ := nrel_mem r q hq
    obtain ⟨k1, k2⟩ := D.keys p hp
    rw [e1, e2] at k1
    rw [e1] at k2
    exact ⟨dp_nested I q.1 _ _ k1 rfl, k2⟩
  · obtain ⟨z, hd, vs, rel, o, es, ep, h1, h2, h3, h4, h5, h6⟩ := dk_of I.hok e
    cases rel
    have e0 : es.toList = [] := by
      cases hes : es.toList with
      | nil => rfl
      | cons y ys => rw [hes] at h5; cases h5
    exact ⟨hd, [], .nil, o, es, ep, h1, h2, h3, e0, (fun q hq => by cases hq), List.nodup_nil⟩
end
section
variable {X : Cx}
/-- k not in d -/
def rNotInN (P : Program) (w : World) (K : PySem.W.Frag) : R2 := fun x y H Q => ∃ (b : Addr) (k : NK) (d : Addr) (xs : NRows), x = .ref b ∧ y = .ref d ∧ Dp K H (.ref b) k.data ∧ k.depth ≤ 8 ∧ DN P w K H d xs ∧ Q (.bl (!(valN xs k).isSome)) H
theorem op_notinN (hu : X.A.units + 65 < cLine) : OpR X (compareOp .NotIn) (rNotInN X.prog X.w X.K) := by
  intro pins s σ H x y v u Q I rx ry h
  obtain ⟨b, k, d, xs, rfl, rfl, hk, h8, D, q⟩ := h
  cases rx
  cases ry
  obtain ⟨hd, vs, r, dd⟩ := dn_of I D
  refine wpAny_notIn_heap (knd := nestedKind X.prog X.w) (k := k) (by show X.A.units + 1 + 8 < cLine; omega) ⟨dp_nested I k _ _ hk rfl, h8⟩ hd dd ?_
  have e := (nrel_val (k := k) r).isSome_eq
  rw [Option.isSome_map] at e
  rw [← e]
  exact ⟨.bl _, H, I.tok _, rfl, q⟩
/-- d[k] -/
def rIxN (P : Program) (w : World) (K : PySem.W.Frag) : R2 := fun x y H Q => ∃ (b : Addr) (k : NK) (d : Addr) (xs : NRows) (v : V), x = .ref d ∧ y = .ref b ∧ Dp K H (.ref b) k.data ∧ k.depth ≤ 8 ∧ DN P w K H d xs ∧ valN xs k = some v ∧ Q v H
theorem ix_N (hu : X.A.units + 65 < cLine) : IxR X (rIxN X.prog X.w X.K) := by
  intro value slice pins s σ H x y v u Q I rx ry h hs
  obtain ⟨b, k, d, xs, z, rfl, rfl, hk, h8, D, hv, q⟩ := h
  cases rx
  cases ry
  obtain ⟨hd, vs, r, dd⟩ := dn_of I D
  obtain ⟨w', hw, rw'⟩ := RelO.some_of (v := z) (o := (atKey vs k).map (·.2)) (by rw [← hv]; exact nrel_val r)
  obtain ⟨p, hp, rfl⟩ := Option.map_eq_some_iff.mp hw
  exact subscriptTail_builtinR (x := p.2) dd.typeIs PySem.F.slot_dict_getitem.lookup
    (wpAny_getItem_heap (knd := nestedKind X.prog X.w) (k := k) (by show X.A.units + 1 + 8 < cLine; omega) ⟨dp_nested I k _ _ hk rfl, h8⟩ dd hp ⟨rfl, z, H, I.tok _, rw', q⟩) hs
/-- d[k] = v, k not yet in d -/
def rSetN (P : Program) (w : World) (K : PySem.W.Frag) : TSet := fun o i v H Q => ∃ (b : Addr) (k : NK) (d : Addr) (xs : NRows), o = .ref d ∧ i = .ref b ∧ Dp K H (.ref b) k.data ∧ k.depth ≤ 8 ∧ DN P w K H d xs ∧ xs.length < sizeLine ∧ valN xs k = none ∧ Q (upd H d (dnO P w d (xs ++ [(k, b, v)])))
theorem set_N (hu : X.A.units + 65 < cLine) : PSet X (rSetN X.prog X.w X.K) := by
  intro pins s σ H o i v ov iv u Q I ro ri rv h
  obtain ⟨b, k, d, xs, rfl, rfl, hk, h8, D, hl, hv, q⟩ := h
  cases ro
  cases ri
  obtain ⟨hd, vs, r, dd⟩ := dn_of I D
  have hz : vs.length ≤ sizeLine := by rw [← Paired.length r]; omega
  have ek : atKey vs k = none := by
    have e := (nrel_val (k := k) r).isSome_eq
    rw [hv, Option.isSome_map] at e
    exact Option.isNone_iff_eq_none.mp (by rw [Option.isNone_iff_eq_none, ← Option.not_isSome_iff_eq_none, ← e]; decide)
  refine wpAny_setItem_heap (knd := nestedKind X.prog X.w) (k := k) (hsz := hz) (by show X.A.units + 1 + 8 < cLine; omega) ⟨dp_nested I k _ _ hk rfl, h8⟩ dd fun h' dd' hs => ?_
  rw [storedH_new ek] at dd'
  obtain ⟨o, es, ep, h1, h2, h3, h4, _, h5⟩ := dd'
  refine ⟨_, d_write I ?_ hs ⟨o, h1⟩ (dnO_ok ⟨hd, _, Paired.snoc r ⟨rfl, rfl, rv⟩, o, es, ep, h1, h2, h3, h4, h5⟩), q⟩
  rcases D.at_ with e | ⟨_, e⟩ <;> rw [e] <;> exact True.intro
end
/-! what stays -/
/-- all but the thing at d stays -/
theorem hide_upd_self {d : Addr} {H : Hp} (o : HO) : hide d (upd H d o) = hide d H := funext fun b => by
  by_cases e : b = d
  · rw [e, hide_at, hide_at]
  · rw [hide_ne e, hide_ne e, upd_ne e]
end My

set_option Elab.async false
set_option maxRecDepth 100000
set_option maxHeartbeats 4000000
set_option linter.all false
/-! Pools as data: gates, what they say of named bits. -/
namespace My
open PySem PySem.Spec PyProof.Rows L2
inductive Gt where
  | no | bit (n : NK) | both (x y : Int) | unlike (x y : Int) | chosen (c x y : Int) | most (x y z : Int)
def Gt.nk : Gt → NK
  | .no => .tup [.text "no"]
  | .bit n => .tup [.text "bit", n]
  | .both x y => .tup [.text "both", .num x, .num y]
  | .unlike x y => .tup [.text "unlike", .num x, .num y]
  | .chosen c x y => .tup [.text "chosen", .num c, .num x, .num y]
  | .most x y z => .tup [.text "most", .num x, .num y, .num z]
def Gt.parts : Gt → List Int
  | .no => []
  | .bit _ => []
  | .both x y => [x, y]
  | .unlike x y => [x, y]
  | .chosen c x y => [c, x, y]
  | .most x y z => [x, y, z]
/-- the bit of a literal, the gates' bits being bs -/
def litv (bs : List Int) (x : Int) : Int := if x % 2 = 0 then bs.getD (x / 2).toNat 0 else 1 - bs.getD (x / 2).toNat 0
abbrev Bits := NK → Int
def Gt.val (env : Bits) (bs : List Int) : Gt → Int
  | .no => 0
  | .bit n => env n
  | .both x y => if litv bs x + litv bs y ≥ 2 then 1 else 0
  | .unlike x y => if litv bs x = litv bs y then 0 else 1
  | .chosen c x y => if litv bs c = 1 then litv bs x else litv bs y
  | .most x y z => if litv bs x + litv bs y + litv bs z ≥ 2 then 1 else 0
def bitsOf (env : Bits) (gs : List Gt) : List Int := gs.foldl (fun bs g => bs ++ [g.val env bs]) []
theorem bitsOf_snoc (env : Bits) (gs : List Gt) (g : Gt) : bitsOf env (gs ++ [g]) = bitsOf env gs ++ [g.val env (bitsOf env gs)] := by
  unfold bitsOf
  rw [List.foldl_append]
  rfl
theorem snoc_cases {α : Type} (xs : List α) : xs = [] ∨ ∃ ys y, xs = ys ++ [y] := by
  rcases xs.eq_nil_or_concat with h | ⟨ys, y, h⟩
  · exact .inl h
  · exact .inr ⟨ys, y, by rw [h, List.concat_eq_append]⟩
theorem snoc_rec {α : Type} {p : List α → Prop} (h0 : p []) (h1 : ∀ xs x, p xs → p (xs ++ [x])) : ∀ xs, p xs := by
  intro xs
  have : ∀ n (xs : List α), xs.length = n → p xs := by
    intro n
    induction n with
    | zero => intro xs h; rw [List.length_eq_zero_iff.mp h]; exact h0
    | succ n ih =>
      intro xs h
      rcases snoc_cases xs with e | ⟨ys, y, e⟩
      · rw [e]; exact h0
      · rw [e] at h ⊢
        exact h1 ys y (ih ys (by rw [List.length_append, List.length_singleton] at h; omega))
  exact this _ xs rfl
theorem bitsOf_len (env : Bits) (gs : List Gt) : (bitsOf env gs).length = gs.length := by
  induction gs using snoc_rec with
  | h0 => rfl
  | h1 xs x ih => rw [bitsOf_snoc, List.length_append, List.length_append, ih]; rfl
theorem bitsOf_pre (env : Bits) (gs more : List Gt) : ∃ t, bitsOf env (gs ++ more) = bitsOf env gs ++ t := by
  induction more using snoc_rec with
  | h0 => exact ⟨[], by rw [List.append_nil, List.append_nil]⟩
  | h1 xs x ih =>
    obtain ⟨t, ht⟩ := ih
    rw [← List.append_assoc, bitsOf_snoc, ht]
    exact ⟨t ++ [x.val env (bitsOf env gs ++ t)], by rw [List.append_assoc]⟩
def okL (gs : List Gt) (x : Int) : Prop := 0 ≤ x ∧ x < 2 * (gs.length : Int)
theorem okL.mono {gs gs' : List Gt} {x : Int} (h : okL gs x) (p : gs <+: gs') : okL gs' x := ⟨h.1, by have := p.length_le; have := h.2; omega⟩
theorem litv_pre {env : Bits} {gs gs' : List Gt} {x : Int} (h : okL gs x) (p : gs <+: gs') : litv (bitsOf env gs') x = litv (bitsOf env gs) x := by
  obtain ⟨more, rfl⟩ := p
  obtain ⟨t, e⟩ := bitsOf_pre env gs more
  have hl : (x / 2).toNat < (bitsOf env gs).length := by rw [bitsOf_len]; have := h.1; have := h.2; omega
  unfold litv
  rw [e, List.getD_eq_getElem?_getD, List.getElem?_append_left hl, ← List.getD_eq_getElem?_getD]
/-- made of no constant, of no gate twice -/
structure Gt.Neat (g : Gt) : Prop where
  big : ∀ x ∈ g.parts, 2 ≤ x
  dist : g.parts.Pairwise fun x y => x / 2 ≠ y / 2
/-- gates in order -/
structure okGs (gs : List Gt) : Prop where
  first : gs[0]? = some .no
  parts : ∀ (i : Nat) (g : Gt), gs[i]? = some g → ∀ x ∈ g.parts, 0 ≤ x ∧ x < 2 * (i : Int)
  neat : ∀ (i : Nat) (g : Gt), gs[i]? = some g → g.Neat
theorem okGs.pos {gs : List Gt} (h : okGs gs) : 0 < gs.length := by
  have := h.first
  cases gs with
  | nil => cases this
  | cons g r => exact Nat.succ_pos _
theorem okGs.snoc {gs : List Gt} (h : okGs gs) {g : Gt} (hg : ∀ x ∈ g.parts, okL gs x) (hn : g.Neat) : okGs (gs ++ [g]) := by
  refine ⟨?_, fun i g' e x hx => ?_, fun i g' e => ?_⟩
  · rw [List.getElem?_append_left h.pos]
    exact h.first
  · by_cases hi : i < gs.length
    · rw [List.getElem?_append_left hi] at e
      exact h.parts i g' e x hx
    · rw [List.getElem?_append_right (by omega)] at e
      have hi2 : i = gs.length := by
        have := (List.getElem?_eq_some_iff.mp e).1
        rw [List.length_singleton] at this
        omega
      rw [hi2, Nat.sub_self] at e
      cases e
      rw [hi2]
      exact hg x hx
  · by_cases hi : i < gs.length
    · rw [List.getElem?_append_left hi] at e
      exact h.neat i g' e
    · rw [List.getElem?_append_right (by omega)] at e
      have hi2 : i = gs.length := by
        have := (List.getElem?_eq_some_iff.mp e).1
        rw [List.length_singleton] at this
        omega
      rw [hi2, Nat.sub_self] at e
      cases e
      exact hn
/-- no named bit is new -/
def NoBits (gs gs' : List Gt) : Prop := ∀ n, Gt.bit n ∈ gs' → Gt.bit n ∈ gs
theorem NoBits.refl (gs : List Gt) : NoBits gs gs := fun _ h => h
theorem NoBits.trans {a b c : List Gt} (h : NoBits a b) (k : NoBits b c) : NoBits a c := fun n m => h n (k n m)
theorem noBits_of {gs gs' : List Gt} {g : Gt} (h : gs' = gs ∨ gs' = gs ++ [g]) (hg : ∀ n, g ≠ .bit n) : NoBits gs gs' := fun n m => by
  rcases h with e | e
  · rw [e] at m; exact m
  · rw [e] at m
    rcases List.mem_append.mp m with m | m
    · exact m
    · exact absurd (List.mem_singleton.mp m).symm (hg n)
def bitEnv (env : Bits) : Prop := ∀ n, env n = 0 ∨ env n = 1
theorem getD_app {α : Type} {xs : List α} {y d : α} {i : Nat} : (xs ++ [y]).getD i d = if i < xs.length then xs.getD i d else if i = xs.length then y else d := by
  rw [List.getD_eq_getElem?_getD, List.getD_eq_getElem?_getD]
  by_cases h : i < xs.length
  · rw [if_pos h, List.getElem?_append_left h]
  · rw [if_neg h, List.getElem?_append_right (by omega)]
    by_cases h2 : i = xs.length
    · rw [if_pos h2, h2, Nat.sub_self]; rfl
    · rw [if_neg h2, List.getElem?_eq_none (by rw [List.length_singleton]; omega)]; rfl
theorem litv_bit {bs : List Int} (h : ∀ b ∈ bs, b = 0 ∨ b = 1) (x : Int) : litv bs x = 0 ∨ litv bs x = 1 := by
  have k : bs.getD (x / 2).toNat 0 = 0 ∨ bs.getD (x / 2).toNat 0 = 1 := by
    rw [List.getD_eq_getElem?_getD]
    cases e : bs[(x / 2).toNat]? with
    | none => exact .inl rfl
    | some b => exact h b (List.mem_of_getElem? e)
  unfold litv
  split <;> omega
theorem bits_bit {env : Bits} (he : bitEnv env) (gs : List Gt) : ∀ b ∈ bitsOf env gs, b = 0 ∨ b = 1 := by
  induction gs using snoc_rec with
  | h0 => intro b hb; cases hb
  | h1 xs g ih =>
    intro b hb
    rw [bitsOf_snoc] at hb
    rcases List.mem_append.mp hb with hb | hb
    · exact ih b hb
    · rw [List.mem_singleton.mp hb]
      cases g with
      | no => exact .inl rfl
      | bit n => exact he n
      | both x y => show (if _ then (1 : Int) else 0) = 0 ∨ (if _ then (1 : Int) else 0) = 1; split <;> simp
      | unlike x y => show (if _ then (0 : Int) else 1) = 0 ∨ (if _ then (0 : Int) else 1) = 1; split <;> simp
      | chosen c x y =>
        show (if litv (bitsOf env xs) c = 1 then litv (bitsOf env xs) x else litv (bitsOf env xs) y) = 0 ∨ (if litv (bitsOf env xs) c = 1 then litv (bitsOf env xs) x else litv (bitsOf env xs) y) = 1
        split
        · exact litv_bit ih x
        · exact litv_bit ih y
      | most x y z => show (if _ then (1 : Int) else 0) = 0 ∨ (if _ then (1 : Int) else 0) = 1; split <;> simp
/-- the bit of gate i -/
theorem bits_at {env : Bits} : ∀ (gs : List Gt), okGs gs → ∀ (i : Nat) (g : Gt), gs[i]? = some g → (bitsOf env gs).getD i 0 = g.val env (bitsOf env gs) := by
  have vcongr : ∀ (g : Gt) (a b : List Int), (∀ x ∈ g.parts, litv a x = litv b x) → g.val env a = g.val env b := by
    intro g a b h
    cases g with
    | no => rfl
    | bit n => rfl
    | both x y => show (if litv a x + litv a y ≥ 2 then (1 : Int) else 0) = _; rw [h x (.head _), h y (.tail _ (.head _))]; rfl
    | unlike x y => show (if litv a x = litv a y then (0 : Int) else 1) = _; rw [h x (.head _), h y (.tail _ (.head _))]; rfl
    | chosen c x y => show (if litv a c = 1 then litv a x else litv a y) = _; rw [h c (.head _), h x (.tail _ (.head _)), h y (.tail _ (.tail _ (.head _)))]; rfl
    | most x y z => show (if litv a x + litv a y + litv a z ≥ 2 then (1 : Int) else 0) = _; rw [h x (.head _), h y (.tail _ (.head _)), h z (.tail _ (.tail _ (.head _)))]; rfl
  intro gs hk i g hg
  have hi := (List.getElem?_eq_some_iff.mp hg).1
  have e : gs = gs.take i ++ ([g] ++ gs.drop (i + 1)) := by
    have hgi : gs[i] = g := (List.getElem?_eq_some_iff.mp hg).2
    conv => lhs; rw [← List.take_append_drop i gs, List.drop_eq_getElem_cons hi, hgi]
    rfl
  have hpre : gs.take i <+: gs := List.take_prefix _ _
  have hlen : (gs.take i).length = i := by rw [List.length_take]; omega
  have hparts := hk.parts i g hg
  obtain ⟨t, ht⟩ := bitsOf_pre env (gs.take i ++ [g]) (gs.drop (i + 1))
  rw [List.append_assoc, ← e] at ht
  have h1 : (bitsOf env gs).getD i 0 = g.val env (bitsOf env (gs.take i)) := by
    rw [ht, bitsOf_snoc, List.getD_eq_getElem?_getD, List.getElem?_append_left (by rw [List.length_append, bitsOf_len, hlen, List.length_singleton]; omega), ← List.getD_eq_getElem?_getD, getD_app, bitsOf_len, hlen, if_neg (Nat.lt_irrefl i), if_pos rfl]
  rw [h1]
  refine vcongr g _ _ fun x hx => (litv_pre ⟨(hparts x hx).1, by rw [hlen]; exact (hparts x hx).2⟩ hpre).symm
/-! ### literals -/
theorem xor1 (x : Int) : Builtin.bitXor x 1 = if x % 2 = 0 then x + 1 else x - 1 := by
  rw [bitXor_and, bitAnd_m1]
  split <;> omega
theorem litv_xor1 {bs : List Int} {x : Int} (h0 : 0 ≤ x) : litv bs (Builtin.bitXor x 1) = 1 - litv bs x := by
  rw [xor1]
  unfold litv
  by_cases h : x % 2 = 0
  · rw [if_pos h, if_pos h, if_neg (by omega), show (x + 1) / 2 = x / 2 by omega]
  · rw [if_neg h, if_neg h, if_pos (by omega), show (x - 1) / 2 = x / 2 by omega]
    omega
theorem okL_xor1 {gs : List Gt} {x : Int} (h : okL gs x) : okL gs (Builtin.bitXor x 1) := by
  rw [xor1]
  have := h.1
  have := h.2
  unfold okL
  split <;> omega
theorem xor_t {x t : Int} (ht : t = 0 ∨ t = 1) : Builtin.bitXor x t = if t = 0 then x else Builtin.bitXor x 1 := by
  rcases ht with h | h <;> rw [h]
  · rw [bitXor_zero, if_pos rfl]
  · rw [if_neg (by decide)]
theorem litv_xort {bs : List Int} {x t : Int} (h0 : 0 ≤ x) (ht : t = 0 ∨ t = 1) : litv bs (Builtin.bitXor x t) = if t = 0 then litv bs x else 1 - litv bs x := by
  rw [xor_t ht]
  split
  · rfl
  · exact litv_xor1 h0
theorem okL_xort {gs : List Gt} {x t : Int} (h : okL gs x) (ht : t = 0 ∨ t = 1) : okL gs (Builtin.bitXor x t) := by
  rw [xor_t ht]
  split
  · exact h
  · exact okL_xor1 h
/-- the literal without its turn -/
theorem even_of (x : Int) : Builtin.bitXor x (Builtin.bitAnd x 1) = x - x % 2 := by
  rw [bitAnd_m1, bitXor_and]
  have h : x % 2 = 0 ∨ x % 2 = 1 := by omega
  rcases h with h | h <;> rw [h]
  · rw [bitAnd_zero]; omega
  · rw [bitAnd_m1]; omega
theorem turned_of (x y : Int) : Builtin.bitAnd (Builtin.bitXor x y) 1 = (x + y) % 2 := by
  rw [bitAnd_m1, bitXor_and]
  omega
theorem litv_even {bs : List Int} (x : Int) : litv bs (x - x % 2) = if x % 2 = 0 then litv bs x else 1 - litv bs x := by
  unfold litv
  by_cases h : x % 2 = 0
  · rw [if_pos h, if_pos h, if_pos (by omega), show x - x % 2 = x by omega]
  · rw [if_neg h, if_neg h, if_pos (by omega), show (x - x % 2) / 2 = x / 2 by omega]
    omega
theorem litv_no {env : Bits} {gs : List Gt} (h : okGs gs) : litv (bitsOf env gs) 0 = 0 := by
  show (if (0 : Int) % 2 = 0 then (bitsOf env gs).getD 0 0 else 1 - (bitsOf env gs).getD 0 0) = 0
  rw [if_pos (by decide), bits_at gs h 0 .no h.first]
  rfl
theorem litv_yes {env : Bits} {gs : List Gt} (h : okGs gs) : litv (bitsOf env gs) 1 = 1 := by
  show (if (1 : Int) % 2 = 0 then (bitsOf env gs).getD 0 0 else 1 - (bitsOf env gs).getD 0 0) = 1
  rw [if_neg (by decide), bits_at gs h 0 .no h.first]
  rfl
/-- a set of gates that holds the gates of the parts, too -/
structure Cone (gs : List Gt) (xs ys : List Int) : Prop where
  asc : ys.Pairwise (· < ·)
  rng : ∀ y ∈ ys, 0 ≤ y ∧ y < (gs.length : Int)
  has : ∀ x ∈ xs, x / 2 ∈ ys
  cl : ∀ y ∈ ys, ∀ g, gs[y.toNat]? = some g → ∀ z ∈ g.parts, z / 2 ∈ ys
  pos : (∀ x ∈ xs, 2 ≤ x) → ∀ y ∈ ys, 1 ≤ y
end My

set_option Elab.async false
set_option maxRecDepth 100000
set_option maxHeartbeats 4000000
set_option linter.all false
/-! Pools in the heap. -/
namespace My
open PySem PySem.Spec PyProof.Rows L2
/-! ### all but some things stays -/
def But (A : List Addr) (H H' : Hp) : Prop := ∀ b o, b ∉ A → H b = some o → H' b = some o
theorem But.refl (A : List Addr) (H : Hp) : But A H H := fun _ _ _ h => h
theorem But.trans {A : List Addr} {H H' H'' : Hp} (h : But A H H') (k : But A H' H'') : But A H H'' := fun b o n e => k b o n (h b o n e)
theorem But.wide {A B : List Addr} {H H' : Hp} (h : But A H H') (s : ∀ a ∈ A, a ∈ B) : But B H H' := fun b o n e => h b o (fun m => n (s b m)) e
theorem But.of_same {A : List Addr} {H H' : Hp} (h : Same H H') : But A H H' := fun b o _ e => h b o e
theorem But.of_hide {d : Addr} {H H' : Hp} (h : Same (hide d H) (hide d H')) : But [d] H H' := fun b o n e => hide_le _ _ (h b o (hide_in e fun z => n (by rw [z]; exact List.mem_singleton_self d)))
theorem But.to_hide {d : Addr} {H H' : Hp} (h : But [d] H H') : Same (hide d H) (hide d H') := fun b o e => by
  obtain ⟨h1, h2⟩ := hide_some e
  exact hide_in (h b o (fun m => h1 (List.mem_singleton.mp m)) h2) h1
theorem But.new {A : List Addr} {H : Hp} {p : Addr} (h : H p = none) (o : HO) : But A H (upd H p o) := .of_same (same_new h o)
theorem But.put {A : List Addr} {H : Hp} {p : Addr} (h : p ∈ A) (o : HO) : But A H (upd H p o) := fun b u n e => by
  rw [upd_ne fun z => n (by rw [z]; exact h)]
  exact e
theorem sqt_but {K : PySem.W.Frag} {A : List Addr} {H H' : Hp} (hA : ∀ a ∈ A, Mut (H a)) (hb : But A H H') {a : Addr} {xs : List V} (h : SqT K H a xs) : SqT K H' a xs := by
  rcases h with (h | ⟨o, h⟩) | h
  · refine .inl (.inl (hb a _ (fun m => ?_) h))
    have := hA a m
    rw [h] at this
    exact this
  · refine .inl (.inr ⟨o, hb a _ (fun m => ?_) h⟩)
    have := hA a m
    rw [h] at this
    exact this
  · exact .inr h
mutual
theorem dp_but {K : PySem.W.Frag} {A : List Addr} {H H' : Hp} (hA : ∀ a ∈ A, Mut (H a)) (hb : But A H H') : ∀ (d : PyData) {v : V}, noLst d = true → Dp K H v d → Dp K H' v d
  | .none, _, _, .non => .non
  | .bool _, _, _, .bl b => .bl b
  | .int _, _, _, .int i => .int i
  | .str _, _, _, .str x => .str x
  | .list ds, _, n, _ => by cases (show false = true from n)
  | .tuple ds, _, n, .tup h hs => .tup (sqt_but hA hb h) (dpa_but hA hb ds n hs)
  | .dict _, _, _, h => by cases h
theorem dpa_but {K : PySem.W.Frag} {A : List Addr} {H H' : Hp} (hA : ∀ a ∈ A, Mut (H a)) (hb : But A H H') : ∀ (ds : List PyData) {vs : List V}, noLsts ds = true → DpAll K H vs ds → DpAll K H' vs ds
  | [], _, _, .nil => .nil
  | d :: ds, _, n, .cons h hs => by
    have n' := Bool.and_eq_true_iff.mp (show (noLst d && noLsts ds) = true from n)
    exact .cons (dp_but hA hb d n'.1 h) (dpa_but hA hb ds n'.2 hs)
end
mutual
theorem nk_noLst : ∀ k : NK, noLst k.data = true
  | .none => rfl
  | .num _ => rfl
  | .text _ => rfl
  | .tup ks => nks_noLst ks
theorem nks_noLst : ∀ ks : List NK, noLsts (NestedKey.datas ks) = true
  | [] => rfl
  | k :: ks => by
    show (noLst k.data && noLsts (NestedKey.datas ks)) = true
    rw [nk_noLst k, nks_noLst ks]
    rfl
end
/-! ### the class, a pool -/
structure PlK (K : PySem.W.Frag) (C : Addr) : Prop where
  cls : L2.Cls K C
  g : L2.NoAttr K C "gates"
  l : L2.NoAttr K C "literals"
def plFs (G D : Addr) : List (Str × V) := putF "literals" (.ref D) (putF "gates" (.ref G) [])
theorem plFs_g (G D : Addr) : (plFs G D).lookup ("gates" : Str) = some (.ref G) := by
  unfold plFs
  rw [lookup_putF, if_neg (by decide +kernel), lookup_putF, if_pos rfl]
theorem plFs_l (G D : Addr) : (plFs G D).lookup ("literals" : Str) = some (.ref D) := by
  unfold plFs
  rw [lookup_putF, if_pos rfl]
theorem plFs_no (G D : Addr) {m : Str} (h1 : ¬ m = "literals") (h2 : ¬ m = "gates") : (plFs G D).lookup m = none := by
  unfold plFs
  rw [lookup_putF, if_neg h1, lookup_putF, if_neg h2]
  rfl
/-- the literals' rows from gate i on -/
def plRows : Nat → List Gt → List Addr → NRows
  | i, g :: gs, t :: ts => (g.nk, t, .int (2 * (i : Int))) :: plRows (i + 1) gs ts
  | _, _, _ => []
theorem plRows_snoc {g : Gt} {t : Addr} : ∀ {i : Nat} {gs : List Gt} {ts : List Addr}, gs.length = ts.length → plRows i (gs ++ [g]) (ts ++ [t]) = plRows i gs ts ++ [(g.nk, t, .int (2 * ((i + gs.length : Nat) : Int)))]
  | i, [], [], _ => rfl
  | i, g' :: gs, t' :: ts, h => by
    show (g'.nk, t', V.int (2 * (i : Int))) :: plRows (i + 1) (gs ++ [g]) (ts ++ [t]) = _
    rw [plRows_snoc (by simpa using h), show i + 1 + gs.length = i + (g' :: gs).length by simp; omega]
    rfl
theorem plRows_len : ∀ {i : Nat} {gs : List Gt} {ts : List Addr}, gs.length = ts.length → (plRows i gs ts).length = gs.length
  | i, [], [], _ => rfl
  | i, g' :: gs, t' :: ts, h => by
    show (plRows (i + 1) gs ts).length + 1 = gs.length + 1
    rw [plRows_len (by simpa using h)]
theorem plRows_mem {x : NRow} : ∀ {i : Nat} {gs : List Gt} {ts : List Addr}, x ∈ plRows i gs ts → ∃ (j : Nat) (g : Gt), gs[j]? = some g ∧ ts[j]? = some x.2.1 ∧ x.1 = g.nk ∧ x.2.2 = .int (2 * ((i + j : Nat) : Int))
  | i, [], _, h => by cases h
  | i, _ :: _, [], h => by cases h
  | i, g :: gs, t :: ts, h => by
    rcases List.mem_cons.mp (show x ∈ (g.nk, t, V.int (2 * (i : Int))) :: plRows (i + 1) gs ts from h) with e | h
    · rw [e]
      exact ⟨0, g, rfl, rfl, rfl, rfl⟩
    · obtain ⟨j, g', h1, h2, h3, h4⟩ := plRows_mem h
      exact ⟨j + 1, g', by rw [List.getElem?_cons_succ]; exact h1, by rw [List.getElem?_cons_succ]; exact h2, h3, by rw [h4, show i + 1 + j = i + (j + 1) by omega]⟩
theorem plRows_has {g : Gt} : ∀ {i j : Nat} {gs : List Gt} {ts : List Addr}, gs.length = ts.length → gs[j]? = some g → ∃ x ∈ plRows i gs ts, x.1 = g.nk
  | i, j, [], _, _, h => by simp at h
  | i, j, _ :: _, [], h, _ => by simp at h
  | i, 0, g' :: gs, t :: ts, h, e => by
    rw [List.getElem?_cons_zero] at e
    cases e
    exact ⟨_, .head _, rfl⟩
  | i, j + 1, g' :: gs, t :: ts, h, e => by
    rw [List.getElem?_cons_succ] at e
    obtain ⟨x, h1, h2⟩ := plRows_has (i := i + 1) (gs := gs) (ts := ts) (by simpa using h) e
    exact ⟨x, .tail _ h1, h2⟩
def drop1 (gs : List Gt) (ts : List Addr) : NRows := plRows 1 (gs.drop 1) (ts.drop 1)
theorem Gt.nk_inj : ∀ {a b : Gt}, a.nk = b.nk → a = b := by
  intro a b h
  cases a <;> cases b <;> simp only [Gt.nk, NestedKey.tup.injEq, List.cons.injEq, NestedKey.text.injEq, NestedKey.num.injEq, and_true, reduceCtorEq, and_false, false_and, true_and] at h <;> first
    | rfl
    | (exfalso; revert h; decide +kernel)
    | (exfalso; exact absurd h.1 (by decide +kernel))
    | (obtain ⟨rfl, rfl, rfl⟩ := h; rfl)
    | (obtain ⟨rfl, rfl⟩ := h; rfl)
    | (subst h; rfl)
structure PoolAt (P : Program) (w : World) (K : PySem.W.Frag) (H : Hp) (C p G D : Addr) (gs : List Gt) : Prop where
  cl : PlK K C
  ok : okGs gs
  nd : (gs.map Gt.nk).Nodup
  len : gs.length ≤ 100000
  nm : ∀ n, Gt.bit n ∈ gs → ∃ ks, n = NestedKey.tup ks
  at_ : ∃ (dx : Addr) (ts : List Addr), H p = some (.ins C dx (plFs G D)) ∧ H G = some (.lst (ts.map V.ref)) ∧ ts.length = gs.length ∧ (∀ (i : Nat) (g : Gt) (t : Addr), gs[i]? = some g → ts[i]? = some t → Dp K H (.ref t) g.nk.data ∧ g.nk.depth ≤ 8) ∧ (H D = some (dnO P w D (drop1 gs ts)) ∨ (drop1 gs ts = [] ∧ H D = some (.dK [])))
section
variable {P : Program} {w : World} {K : PySem.W.Frag} {H H' : Hp} {C p G D : Addr} {gs : List Gt}
theorem PoolAt.mut (A : PoolAt P w K H C p G D gs) : ∀ a ∈ [G, D], Mut (H a) := by
  obtain ⟨dx, ts, h1, h2, h3, h4, h5⟩ := A.at_
  intro a ha
  rcases List.mem_cons.mp ha with e | ha
  · rw [e, h2]; exact True.intro
  · rw [List.mem_singleton.mp ha]
    rcases h5 with e | ⟨_, e⟩ <;> rw [e] <;> exact True.intro
theorem PoolAt.dn (A : PoolAt P w K H C p G D gs) {dx : Addr} {ts : List Addr} (h3 : ts.length = gs.length) (h4 : ∀ (i : Nat) (g : Gt) (t : Addr), gs[i]? = some g → ts[i]? = some t → Dp K H (.ref t) g.nk.data ∧ g.nk.depth ≤ 8) (h5 : H D = some (dnO P w D (drop1 gs ts)) ∨ (drop1 gs ts = [] ∧ H D = some (.dK []))) : DN P w K H D (drop1 gs ts) := by
  refine ⟨h5, ?_, fun x hx => ?_⟩
  · unfold drop1
    rw [plRows_len (by rw [List.length_drop, List.length_drop, h3]), List.length_drop]
    have := A.len
    exact Nat.le_trans (by omega) (show 100000 ≤ sizeLine by decide)
  · obtain ⟨j, g, e1, e2, e3, e4⟩ := plRows_mem hx
    rw [List.getElem?_drop] at e1 e2
    rw [e3]
    exact h4 _ _ _ e1 e2
/-- a pool stays while other things change -/
theorem PoolAt.keep (A : PoolAt P w K H C p G D gs) {S : List Addr} (hS : ∀ a ∈ S, Mut (H a)) (hb : But S H H') (np : p ∉ S) (nG : G ∉ S) (nD : D ∉ S) : PoolAt P w K H' C p G D gs := by
  obtain ⟨dx, ts, h1, h2, h3, h4, h5⟩ := A.at_
  refine ⟨A.cl, A.ok, A.nd, A.len, A.nm, dx, ts, hb _ _ np h1, hb _ _ nG h2, h3, fun i g t e1 e2 => ?_, ?_⟩
  · obtain ⟨k1, k2⟩ := h4 i g t e1 e2
    exact ⟨dp_but hS hb _ (nk_noLst _) k1, k2⟩
  · rcases h5 with e | ⟨e0, e⟩
    · exact .inl (hb _ _ nD e)
    · exact .inr ⟨e0, hb _ _ nD e⟩
theorem PoolAt.same (A : PoolAt P w K H C p G D gs) (s : Same H H') : PoolAt P w K H' C p G D gs := A.keep (S := []) (fun _ h => nomatch h) (.of_same s) (fun h => nomatch h) (fun h => nomatch h) (fun h => nomatch h)
end
end My

set_option Elab.async false
set_option maxRecDepth 100000
set_option maxHeartbeats 4000000
set_option linter.all false
namespace My
open PySem PySem.Spec L2
theorem yesV {σ : L2.St} {H : Hp} {Q : Bool → Hp → Prop} (h : Q true H) : tYes σ H Q := h
theorem take_nextV {α : Type} {l : List α} {i : Nat} {x : α} (h : l[i]? = some x) : l.take (i + 1) = l.take i ++ [x] := by
  rw [List.take_add_one, h]
  rfl
theorem lenV {n : Nat} (h : n ≤ 1000) : n < sizeLine := Nat.lt_of_le_of_lt h (by decide)
/-- [f(x) for x in t], t a tuple -/
theorem lc_mapT {K : PySem.W.Frag} {a : Addr} {xs : List V} {k : Nat} {te : TE} {vs : List Nat} {σ : L2.St} {H1 : Hp} {D : Addr} {Qd : Hp → Prop} (f : V → V) (ha : SqT K H1 a xs) (hl : xs.length ≤ 1000) (hD : H1 D = none) (hw : ∀ x, wipe ((wipe σ vs).set k (some x)) vs = wipe σ vs)
    (he : ∀ y H2 (R : VK), y ∈ xs → Same H1 H2 → R (f y) H2 → te ((wipe σ vs).set k (some y)) H2 R)
    (hq : ∀ H2, H2 D = some (.lst (xs.map f)) → Same H1 H2 → Qd H2) :
    ∃ W : Nat → Nat → Hp → Prop, (∃ m, W 0 m (upd H1 D (.lst []))) ∧ ∀ i m H, W i m H →
      ((Itt K a).stop i H ∧ Qd H) ∨ ((Itt K a).go i H ∧ ∃ Nx : Hp → Prop, (∀ H', Nx H' → ∃ m', m' < m ∧ W (i + 1) m' H') ∧ ∀ x H', (Itt K a).yld i H x H' → gName k x (wipe σ vs) H' fun σ2 H2 => wipe σ2 vs = wipe σ vs ∧ tYes σ2 H2 fun b H3 =>
        if b = true then te σ2 H3 fun y H4 => ∃ acc, H4 D = some (.lst acc) ∧ acc.length < sizeLine ∧ Nx (upd H4 D (.lst (acc ++ [y]))) else Nx H3) := by
  refine lc_tup (K := K) (a := a) (xs := xs) (fun i H2 => H2 D = some (.lst ((xs.take i).map f)) ∧ Same H1 H2 ∧ i ≤ xs.length) ⟨upd_same, same_new hD _, Nat.zero_le _⟩ (fun i H2 _ ⟨_, s, _⟩ => sqt_mono s ha) ?_ ?_
  · rintro i y H2 hi ⟨h1, s, _⟩
    have hi' : i < xs.length := (List.getElem?_eq_some_iff.mp hi).1
    refine ⟨hw y, ?_⟩
    refine yesV ?_
    rw [if_pos rfl]
    refine he y H2 _ (List.mem_of_getElem? hi) s ⟨_, h1, ?_, ?_, fun b o hb => ?_, hi'⟩
    · rw [List.length_map, List.length_take]
      exact lenV (by omega)
    · rw [upd_same, take_nextV hi, List.map_append] <;> rfl
    · rw [upd_ne (ne_of_none hb hD)]
      exact s b o hb
  · rintro H2 ⟨h1, s, _⟩
    rw [List.take_length] at h1
    exact hq H2 h1 s
/-- [f(x) for x in xs], xs a list -/
theorem lc_mapL {K : PySem.W.Frag} {a : Addr} {xs : List V} {k : Nat} {te : TE} {vs : List Nat} {σ : L2.St} {H1 : Hp} {D : Addr} {Qd : Hp → Prop} (f : V → V) (ha : SqL K H1 a xs) (hl : xs.length ≤ 1000) (hD : H1 D = none) (hw : ∀ x, wipe ((wipe σ vs).set k (some x)) vs = wipe σ vs)
    (he : ∀ y H2 (R : VK), y ∈ xs → Same H1 H2 → R (f y) H2 → te ((wipe σ vs).set k (some y)) H2 R)
    (hq : ∀ H2, H2 D = some (.lst (xs.map f)) → Same H1 H2 → Qd H2) :
    ∃ W : Nat → Nat → Hp → Prop, (∃ m, W 0 m (upd H1 D (.lst []))) ∧ ∀ i m H, W i m H →
      ((Itl K a).stop i H ∧ Qd H) ∨ ((Itl K a).go i H ∧ ∃ Nx : Hp → Prop, (∀ H', Nx H' → ∃ m', m' < m ∧ W (i + 1) m' H') ∧ ∀ x H', (Itl K a).yld i H x H' → gName k x (wipe σ vs) H' fun σ2 H2 => wipe σ2 vs = wipe σ vs ∧ tYes σ2 H2 fun b H3 =>
        if b = true then te σ2 H3 fun y H4 => ∃ acc, H4 D = some (.lst acc) ∧ acc.length < sizeLine ∧ Nx (upd H4 D (.lst (acc ++ [y]))) else Nx H3) := by
  refine lc_list (K := K) (a := a) (xs := xs) (fun i H2 => H2 D = some (.lst ((xs.take i).map f)) ∧ Same H1 H2 ∧ i ≤ xs.length) ⟨upd_same, same_new hD _, Nat.zero_le _⟩ (fun i H2 _ ⟨_, s, _⟩ => sql_mono s ha) ?_ ?_
  · rintro i y H2 hi ⟨h1, s, _⟩
    have hi' : i < xs.length := (List.getElem?_eq_some_iff.mp hi).1
    refine ⟨hw y, ?_⟩
    refine yesV ?_
    rw [if_pos rfl]
    refine he y H2 _ (List.mem_of_getElem? hi) s ⟨_, h1, ?_, ?_, fun b o hb => ?_, hi'⟩
    · rw [List.length_map, List.length_take]
      exact lenV (by omega)
    · rw [upd_same, take_nextV hi, List.map_append] <;> rfl
    · rw [upd_ne (ne_of_none hb hD)]
      exact s b o hb
  · rintro H2 ⟨h1, s, _⟩
    rw [List.take_length] at h1
    exact hq H2 h1 s
/-- [f(x) for x in xs], where the heap may grow -/
theorem lc_mapLS {K : PySem.W.Frag} {a : Addr} {xs : List V} {k : Nat} {te : TE} {vs : List Nat} {σ : L2.St} {H1 : Hp} {D : Addr} {Qd : Hp → Prop} (f : V → V) (ha : SqL K H1 a xs) (hl : xs.length ≤ 1000) (hD : H1 D = none) (hw : ∀ x, wipe ((wipe σ vs).set k (some x)) vs = wipe σ vs)
    (he : ∀ y H2 (R : VK), y ∈ xs → Same H1 H2 → (∀ H3, Same H2 H3 → R (f y) H3) → te ((wipe σ vs).set k (some y)) H2 R)
    (hq : ∀ H2, H2 D = some (.lst (xs.map f)) → Same H1 H2 → Qd H2) :
    ∃ W : Nat → Nat → Hp → Prop, (∃ m, W 0 m (upd H1 D (.lst []))) ∧ ∀ i m H, W i m H →
      ((Itl K a).stop i H ∧ Qd H) ∨ ((Itl K a).go i H ∧ ∃ Nx : Hp → Prop, (∀ H', Nx H' → ∃ m', m' < m ∧ W (i + 1) m' H') ∧ ∀ x H', (Itl K a).yld i H x H' → gName k x (wipe σ vs) H' fun σ2 H2 => wipe σ2 vs = wipe σ vs ∧ tYes σ2 H2 fun b H3 =>
        if b = true then te σ2 H3 fun y H4 => ∃ acc, H4 D = some (.lst acc) ∧ acc.length < sizeLine ∧ Nx (upd H4 D (.lst (acc ++ [y]))) else Nx H3) := by
  refine lc_list (K := K) (a := a) (xs := xs) (fun i H2 => H2 D = some (.lst ((xs.take i).map f)) ∧ Same H1 H2 ∧ i ≤ xs.length) ⟨upd_same, same_new hD _, Nat.zero_le _⟩ (fun i H2 _ ⟨_, s, _⟩ => sql_mono s ha) ?_ ?_
  · rintro i y H2 hi ⟨h1, s, _⟩
    have hi' : i < xs.length := (List.getElem?_eq_some_iff.mp hi).1
    refine ⟨hw y, ?_⟩
    refine yesV ?_
    rw [if_pos rfl]
    refine he y H2 _ (List.mem_of_getElem? hi) s fun H3 s3 => ⟨_, s3 _ _ h1, ?_, ?_, fun b o hb => ?_, hi'⟩
    · rw [List.length_map, List.length_take]
      exact lenV (by omega)
    · rw [upd_same, take_nextV hi, List.map_append] <;> rfl
    · rw [upd_ne (ne_of_none hb hD)]
      exact s3 _ _ (s b o hb)
  · rintro H2 ⟨h1, s, _⟩
    rw [List.take_length] at h1
    exact hq H2 h1 s
end My

set_option Elab.async false
set_option maxRecDepth 100000
set_option maxHeartbeats 400000
set_option linter.all false
/-! enumerate(xs, start=1) as a loop or in a comprehension. -/
namespace My
open PySem PySem.Spec PyProof.Rows L2
theorem draws_shift {prog : Program} {w : World} {A : Around} {it : Addr} {fp : List Addr} {n : Nat} {P : Nat → Value → Prop} {St : Nat → Heap → Prop} (D : Draws prog w A it fp n P St) : Draws prog w A it fp (n + 1) (fun i x => P (i - 1) x) (fun i h => 1 ≤ i ∧ St (i - 1) h) where
  live := fun i h st => D.live _ h st.2
  frame := fun i h h' st k => ⟨st.1, D.frame _ h h' st.2 k⟩
  item := fun i s Q E hi st hQ => D.item (i - 1) s Q E (by have := st.1; omega) st.2 fun x h' tk p q r => hQ x h' tk p ⟨Nat.succ_le_succ (Nat.zero_le _), by
    have e : i + 1 - 1 = i - 1 + 1 := by have := st.1; omega
    rw [e]; exact q⟩ r
  done := fun s Q E st hE => D.done s Q E st.2 hE
/-- the list at a, each item in a new pair with its number from 1 on -/
def Ite1 (K : PySem.W.Frag) (a : Addr) : It :=
  ⟨fun i H => ∃ (xs : List V) (x : V), SqL K H a xs ∧ xs[i]? = some x, fun i H v H' => ∃ T x, v = .ref T ∧ H T = none ∧ H' = upd H T (.tup [.int ((i + 1 : Nat) : Int), x]) ∧ ∀ xs, SqL K H a xs → xs[i]? = some x, fun i H => ∃ xs : List V, SqL K H a xs ∧ xs.length = i⟩
theorem turn_enum1 {P : Program} {w : World} {K : PySem.W.Frag} {elts : List Expr} {kk : Nat} {tpos : Pos} (a e it : Addr) (hat : a ≠ it) (hae : a ≠ e) :
    Turn P w K (.Tuple elts kk tpos) (Ite1 K a) [e, it] e (fun i h => (∃ old, IsEnum h e it ((i + 1 : Nat) : Int) old) ∧ h.IsListIter it a i ∧ e ≠ it) where
  mem := by simp
  obj := fun i h st b hb => by
    obtain ⟨⟨old, he⟩, ⟨o, ho, hc, hd⟩, _⟩ := st
    have e' : b = e ∨ b = it := by simpa using hb
    rcases e' with z | z
    · rw [z]; exact ⟨_, he, fun v q => nomatch q⟩
    · rw [z]; exact ⟨o, ho, fun v q => by rw [hd] at q; cases q⟩
  keep := fun i h h' st k => let ⟨⟨old, he⟩, hi, hne⟩ := st; ⟨⟨old, k e (by simp) _ he⟩, hi.at fun o q => k it (by simp) o q, hne⟩
  item := by
    intro X hP hw hK hc i pins s σ H E I hf st hg
    subst hP hw hK
    obtain ⟨⟨old, he⟩, hit, hne⟩ := st
    obtain ⟨xs, x, hq, hx⟩ := hg
    obtain ⟨its, rv, p, hz⟩ := I.list hq
    obtain ⟨u, hu, ru⟩ := rv.get hx
    have hel : e < s.heap.objs.size := Heap.lt_size he
    have hil : it < s.heap.objs.size := by obtain ⟨_, q, _⟩ := hit; exact Heap.lt_size q
    have hiu : i < its.length := (List.getElem?_eq_some_iff.mp hu).1
    have DD := draws_shift (Draws.list (prog := X.prog) (w := X.w) (A := X.A.in1) (I.ok.hd hc) it a hat its.toArray)
    refine wpAny_pyNext_enum_itemD DD (i := i + 1) he ⟨Nat.succ_le_succ (Nat.zero_le _), hit, p.isList⟩ (by rw [List.size_toArray]; omega) hne (by simp [hne, Ne.symm hae]) fun x' h' tk px ho st' hT hsz hk => ?_
    have ex : x' = u := by
      have px' : its.toArray[i]? = some x' := px
      have : its.toArray[i]? = some u := by simpa using hu
      rw [this] at px'
      exact (Option.some.inj px').symm
    subst ex
    refine ⟨_, rfl, wpAny_letOwnedTupleGo_enum (s := { s with heap := h', toks := tk + 1 }) ho fun h'' he' sb => ?_⟩
    have hT2 : h''.get? s.heap.objs.size = some { cls := .type "tuple", data := .seq #[.int ((i + 1 : Nat) : Int) tk, x'] } := (sb.2 _ (Nat.ne_of_gt hel)).trans hT
    have new : ObjOk X.prog X.w (upd H s.heap.objs.size (.tup [.int ((i + 1 : Nat) : Int), x])) h'' s.heap.objs.size (.tup [.int ((i + 1 : Nat) : Int), x]) :=
      ⟨by show 2 ≤ sizeLine; decide, [.int ((i + 1 : Nat) : Int) tk, x'], .cons ⟨_, rfl⟩ (.cons ru .nil), ⟨_, hT2, rfl, _, rfl⟩⟩
    have I1 : Inv X pins σ (upd H s.heap.objs.size (.tup [.int ((i + 1 : Nat) : Int), x])) { s with heap := h'', toks := tk + 1 } :=
      I.turnedNew (ch := [e, it]) (fun b ob hb q => (sb.2 b (fun z => hb (by simp [z]))).trans (hk b ob (fun z => hb (by simp [z])) (fun z => hb (by simp [z])) q)) hf (Nat.le_refl _) new
    refine ⟨.ref s.heap.objs.size, _, I1, rfl, ⟨_, x, rfl, I.hok.fresh (Nat.le_refl _), rfl, fun ys hy => by rw [I.list_inj hy hq]; exact hx⟩, ⟨⟨x', ?_⟩, st'.2.1.at fun o q => (sb.2 it (Ne.symm hne)).trans q, hne⟩, fun b hb => ?_⟩
    · have e1 : ((i + 1 + 1 : Nat) : Int) = ((i + 1 : Nat) : Int) + 1 := by omega
      rw [e1]; exact he'
    · have hb' : b < s.heap.objs.size := by
        have e' : b = e ∨ b = it := by simpa using hb
        rcases e' with z | z
        · rw [z]; exact hel
        · rw [z]; exact hil
      rw [upd_ne (Nat.ne_of_lt hb')]
      exact (hf b hb).1
  done := by
    intro X hP hw hK hc i pins s σ H E I hf st hg
    subst hP hw hK
    obtain ⟨⟨old, he⟩, hit, hne⟩ := st
    obtain ⟨xs, hq, hx⟩ := hg
    obtain ⟨its, rv, p, hz⟩ := I.list hq
    obtain ⟨f0, f1, f2, f3, f4, f5⟩ := hf it (by simp)
    have hl := rv.length
    have DD := draws_shift (Draws.list (prog := X.prog) (w := X.w) (A := X.A.in1) (I.ok.hd hc) it a hat its.toArray)
    refine wpAny_pyNext_enum_endD DD he ⟨Nat.succ_le_succ (Nat.zero_le _), ?_, p.isList⟩ fun h' eb => ⟨rfl, I.turned (t' := s.toks) (fun b o hb q => eb b o hb q) f0 f1 f3 f4 f5⟩
    have ei : its.toArray.size = i := by rw [List.size_toArray]; omega
    show s.heap.IsListIter it a (its.toArray.size + 1 - 1)
    rw [ei]
    exact hit
  self := fun A i s Q E st h => let ⟨⟨_, he⟩, _⟩ := st; wpAny_pyIter_enum he h
section
variable {M : Model} {A : Around} {E : Value → Shared → Prop} {s : Shared} {env : Env}
theorem callWith_typeKwB {pos : Pos} {id : String} {first : List Value} {args : List (Bool × Sem Value)} {keywords : List (Option Str × Sem Value)} {Q : Value → Shared → Prop}
    (hplain : args.any (·.1) = false) (hkw : keywords.any (·.1.isNone) = false)
    (h : wpAny M A (evalArgs (.type id) true args keywords) (fun a s₁ => wpAny M A (call (.type id) (first ++ a.pos) a.kw) Q E s₁) E s) :
    wpAny M A (callWith pos (.type id) first args keywords) Q E s := by
  unfold callWith
  refine wpAny_bind (wpAny_holding (wpAny_mono h (fun a s₁ h₁ => wpAny_bind (wpAny_standAt ?_)) fun _ _ x => x))
  simp only [hplain, hkw, Bool.or_false]
  refine wpAny_bind (wpAny_pure ?_)
  exact wpAny_bind (wpAny_mono h₁ (fun r s₂ hr => wpAny_bind (wpAny_holding (wpAny_point (wpAny_pure hr)))) fun _ _ x => x)
theorem callWith_typeKw {pos : Pos} {id : String} {e : Expr} {rest : List Expr} {kws : List Keyword} {Q : Value → Shared → Prop}
    (h : wpAny M A (spliced (backTo pos (starEach (e :: rest) env))) (fun vs s₁ => wpAny M A (evalAll ((backToKw pos (keywordEach kws env)).map (·.2)))
      (fun kvs s₂ => wpAny M A (call (.type id) vs (((backToKw pos (keywordEach kws env)).filterMap (·.1)).zip kvs)) Q E s₂) E s₁) E s)
    (he : backTo pos (starEach (e :: rest) env) = (false, eval e env) :: backTo pos (starEach rest env))
    (hplain : (backTo pos (starEach (e :: rest) env)).any (·.1) = false)
    (hall : (backToKw pos (keywordEach kws env)).all (·.1.isSome) = true)
    (hkw : (backToKw pos (keywordEach kws env)).any (·.1.isNone) = false) :
    wpAny M A (callWith pos (.type id) [] (backTo pos (starEach (e :: rest) env)) (backToKw pos (keywordEach kws env))) Q E s := by
  refine callWith_typeKwB hplain hkw ?_
  rw [he] at h ⊢
  exact PyProof.Rows.evalArgs_kwB hall h
end
def iEnum1 (K : PySem.W.Frag) (ta : TE) : TI := fun σ H R => ta σ H fun x H1 => ∃ a xs, x = .ref a ∧ SqL K H1 a xs ∧ R (Ite1 K a) H1
theorem pi_enum1 {X : Cx} {K : PySem.W.Frag} (hK : X.K = K) {e : Expr} {ta : TE} {p pos tpos kpos : Pos} {elts : List Expr} {kk : Nat} {j : Nat} {jp : Pos} (hg : Gl X "enumerate") (hm : X.mg "enumerate" = none) (ha : PE X e ta)
    (hs : starEach [e] X.env = (false, eval e X.env) :: starEach [] X.env := by rfl) (hb : backTo pos (starEach [e] X.env) = (false, eval e X.env) :: backTo pos (starEach [] X.env) := by rfl) (hpl : (backTo pos (starEach [e] X.env)).any (·.1) = false := by rfl) :
    PI X (.Tuple elts kk tpos) (.Call (.Name "enumerate" p) [e] [⟨some "start", .Constant (.int 1) j jp, kpos⟩] pos) (iEnum1 K ta) := by
  subst hK
  refine ⟨fun pins s σ H R I h => ?_⟩
  have h' : tCons ta tNil σ H (fun vs H1 => match vs with
    | [x] => ∃ a xs, x = .ref a ∧ SqL X.K H1 a xs ∧ R (Ite1 X.K a) H1
    | _ => False) := h
  refine wpAny_Call_Name_kw (ld_blt I hg hm boot_enumerate ?_)
  refine callWith_typeKw (thn ((pa_cons ha pa_nil hs).run pos pins s σ H _ I h') fun us s1 ⟨vs, H1, I1, r1, q1⟩ => ?_) hb hpl rfl rfl
  obtain ⟨x, rfl⟩ : ∃ x, vs = [x] := by
    match vs, q1 with
    | [x], _ => exact ⟨x, rfl⟩
  obtain ⟨a, xs, rfl, hq, q⟩ := q1
  obtain rfl := Vals.ref1 r1
  refine wpAny_evalAll_cons (wpAny_bind (wpAny_Constant_int (wpAny_bind (wpAny_standAt (wpAny_pure (wpAny_evalAll_nil ?_))))))
  have I1' := I1.tok (s1.toks + 1)
  obtain ⟨its, rv, p', hz⟩ := I1'.list hq
  have hal : a < s1.heap.objs.size := by
    obtain ⟨o, ho, _⟩ := p'.isList
    exact Heap.lt_size ho
  refine enum_begins_start (begins_list a its.toArray) p'.isList (by decide) (by decide) fun h' he hit hsz hk => wpAny_pyIter_enum he ?_
  have I2 : Inv X pins σ H1 { s1 with heap := h', toks := s1.toks + 1 } := I1'.kept (t' := s1.toks + 1) hk
  refine ⟨s1.heap.objs.size + 1, [s1.heap.objs.size + 1, s1.heap.objs.size], _, _, H1, rfl, I2, turn_enum1 a (s1.heap.objs.size + 1) s1.heap.objs.size (Nat.ne_of_lt hal) (Nat.ne_of_lt (Nat.lt_succ_of_lt hal)), ⟨⟨.none, he⟩, ⟨_, hit, rfl, rfl⟩, Nat.succ_ne_self _⟩, fun b hb => ?_, q⟩
  have e' : b = s1.heap.objs.size + 1 ∨ b = s1.heap.objs.size := by simpa using hb
  have hle : s1.heap.objs.size ≤ b := by
    rcases e' with z | z
    · rw [z]; exact Nat.le_add_right _ _
    · rw [z]; exact Nat.le_refl _
  exact I1.fpOk hle (I1.hok.fresh hle)
theorem walk_enum1 {K : PySem.W.Frag} {a : Addr} {xs : List V} : Walk (Ite1 K a) xs.length (fun H => SqL K H a xs) (YPair (fun i => some (.int ((i + 1 : Nat) : Int))) (fun i => xs[i]?)) := by
  refine ⟨fun i _ hi q => ⟨xs, xs[i], q, by simp [hi]⟩, fun _ q => ⟨xs, q, rfl⟩, fun i H v H' _ q y => ?_⟩
  obtain ⟨T, x, h1, h2, h3, h4⟩ := y
  exact ⟨T, .int ((i + 1 : Nat) : Int), x, h1, h2, h3, rfl, h4 xs q⟩
end My

set_option Elab.async false
set_option maxRecDepth 100000
set_option maxHeartbeats 4000000
set_option linter.all false
/-! sorted(t, key=abs), t a tuple of whole numbers. -/
namespace PyProof.Rows
open PySem
section
variable {prog : Program} {w : World} {A : Around} {E : Value → Shared → Prop} {s : Shared} {h₀ : Heap} {L l : Addr} {m : Str → Option Value} {news : List (Addr × Obj)} {b : Bool} {vs : List Value} {Q : Value → Shared → Prop}
theorem my_sortedTup {kz : List Int} {f : Value} {kw : List (Str × Value)} (F : Fr h₀ L s.heap m) (N : News h₀ L s.heap news) (hl : IsTup s.heap l vs.toArray) (hlen : kz.length = vs.length) (hZ : vs.length ≤ sizeLine)
    (ha1 : argsOk "sorted" ⟨[.ref l], kw⟩) (ha2 : ∀ x, argsOk "list.sort" ⟨[.ref x], kw⟩) (ht : ∀ x, Builtin.«list.sort» ⟨[.ref x], kw⟩ = ksk_tree x f b)
    (turn : ∀ (i : Nat) (v : Value) (k : Int), vs[i]? = some v → kz[i]? = some k → ∀ (h : Heap) (tk : Nat) (own : List (Addr × Obj)), Fr h₀ L h m → News h₀ L h (news ++ own) →
      wpAny (model prog w) A.in1.in1 (call f [v]) (KskEnd h₀ L m (news ++ own) k { s with heap := h, toks := tk }) (fun _ _ => False) { s with heap := h, toks := tk })
    (h : ∀ D h' tk out c, Fr h₀ L h' m → News h₀ L h' ((D, seqObj "list" out c) :: news) → (∀ q ∈ news, q.1 < D) → KskOut b kz vs out.toList → Q (.ref D) { s with heap := h', toks := tk }) :
    wpAny (model prog w) A (call (.builtin "sorted") [.ref l] kw) Q E s := by
  have hZ2 := hZ
  rw [sizeLine_eq] at hZ2
  obtain ⟨o, ho, hc, n, hd⟩ := hl
  refine call_function_entry_kw kind_sorted plain_sorted entry_sorted ha1 ?_
  unfold Builtin.«sorted»
  refine wpAny_bind (m := checkCount "sorted" 1 1 _) (wpAny_pure ?_)
  refine wpAny_bind (wpAny_collect_seq l (.inr rfl) ho hc hd (fun h1 k1 => ?_) (by show vs.toArray.size ≤ _; rw [List.size_toArray]; exact hZ))
  have el : vs.toArray.toList = vs := by simp
  rw [el]
  refine wpAny_bind (wpAny_newList ?_ (by rw [sizeLine_eq]; omega))
  have hoL : (h1.push (seqObj "list" vs.toArray 0)).get? h1.objs.size = some (seqObj "list" vs.toArray 0) := Heap.get?_push_size _ rfl
  have keep : ∀ b o, s.heap.get? b = some o → (h1.push (seqObj "list" vs.toArray 0)).get? b = some o := fun b o q => Heap.get?_push_of_some _ (k1 b o q)
  have up : ∀ b o, s.heap.get? b = some o → b < h1.objs.size := fun b o q => Heap.lt_size (k1 b o q)
  obtain ⟨oL, hoL0⟩ : ∃ o, s.heap.get? L = some o := by
    obtain ⟨o, _, _, e, _⟩ := F.ns
    exact ⟨o, e⟩
  have hL : L < h1.objs.size := up L oL hoL0
  show wpAny _ _ _ _ _ { s with heap := h1.push (seqObj "list" vs.toArray 0) }
  refine wpAny_bind (wpAny_holding (wpAny_call_entry_kw slot_list_sort ⟨_, hoL, rfl⟩ entry_list_sort ?body (ha2 _)))
  case body =>
    show wpAny (model prog w) A.in1.in1 (Builtin.«list.sort» ⟨[.ref h1.objs.size], kw⟩) _ _ _
    rw [ht h1.objs.size]
    refine ksk_sortAny (s := { s with heap := h1.push (seqObj "list" vs.toArray 0) })
      (F.kept keep) (N.grown keep) hoL (Nat.ne_of_gt hL) (Heap.get?_none_of_le (Nat.le_trans F.above (Nat.le_of_lt hL)))
      (fun p hp => Nat.ne_of_lt (up _ _ (N p hp).1)) hlen hZ turn fun h' tk out c F' N' k' => ⟨_, rfl, ?_⟩
    exact wpAny_pure ⟨_, rfl, h _ h' tk out c F' N' (fun q hq => up _ _ (N q hq).1) k'⟩
end
end PyProof.Rows
namespace My
open PySem PySem.Spec PyProof.Rows L2
/-- all that stands apart from the frame and what stood at the beginning -/
def othersOf (base h : Heap) (L : Addr) : List (Addr × Obj) := (List.range h.objs.size).filterMap fun b => if b = L then none else match base.get? b with
  | some _ => none
  | none => (h.get? b).map fun o => (b, o)
theorem others_news (base h : Heap) (L : Addr) : News base L h (othersOf base h L) := fun p hp => by
  obtain ⟨b, _, e⟩ := List.mem_filterMap.mp hp
  by_cases hb : b = L
  · rw [if_pos hb] at e; cases e
  · rw [if_neg hb] at e
    cases hq : base.get? b with
    | some o => rw [hq] at e; cases e
    | none =>
      rw [hq] at e
      obtain ⟨o, ho, rfl⟩ := Option.map_eq_some_iff.mp e
      exact ⟨ho, hb, hq⟩
theorem others_mem {base h : Heap} {L b : Addr} {o : Obj} (hb : b ≠ L) (hq : base.get? b = none) (ho : h.get? b = some o) : (b, o) ∈ othersOf base h L := by
  refine List.mem_filterMap.mpr ⟨b, List.mem_range.mpr (Heap.lt_size ho), ?_⟩
  rw [if_neg hb, hq, ho]
  rfl
theorem objok_some {P : Program} {w : World} {H : Hp} {h : Heap} {a : Addr} {o : HO} (x : ObjOk P w H h a o) : ∃ ob, h.get? a = some ob := by
  cases o with
  | lst xs => obtain ⟨_, _, _, _, e⟩ := x; exact ⟨_, e⟩
  | tup xs => obtain ⟨_, _, _, ob, e, _⟩ := x; exact ⟨ob, e⟩
  | dK kvs => obtain ⟨_, _, _, _, o, _, _, e, _⟩ := x; exact ⟨_, e⟩
  | dT kvs => obtain ⟨_, _, _, _, o, _, _, e, _⟩ := x; exact ⟨_, e⟩
  | set S n => obtain ⟨o, _, _, _, e, _⟩ := x; exact ⟨_, e⟩
  | ins C dx fs => obtain ⟨_, _, _, e, _⟩ := x; exact ⟨_, e⟩
  | own y => obtain ⟨_, e⟩ := x; exact ⟨_, e⟩
  | xd fs => obtain ⟨_, ⟨_, _, _, e, _⟩, _⟩ := x; exact ⟨_, e⟩
  | rng lo hi => obtain ⟨_, _, _, e⟩ := x; exact ⟨_, e⟩
  | frz ob u => obtain ⟨e, _⟩ := x; exact ⟨_, e⟩
  | tbl ps => exact ⟨_, (show h.get? a = some _ from x)⟩
  | met f y => exact ⟨_, (show h.get? a = some (PySem.W.methodObj (.ref f) (.ref y)) from x)⟩
  | ext φ => obtain ⟨p, ⟨o, e⟩, st⟩ := x; exact ⟨o, e⟩
def rSortAbsT (K : PySem.W.Frag) : List V → Hp → VK → Prop := fun vs H Q => ∃ (a : Addr) (ns : List Int), vs = [V.ref a] ∧ SqT K H a (ns.map V.int) ∧ ∀ (ns' : List Int) (p : Addr), ns'.Perm ns → ns'.Pairwise (fun x y => (if x < 0 then -x else x) ≤ (if y < 0 then -y else y)) → H p = none → Q (.ref p) (upd H p (.lst (ns'.map V.int)))
theorem absSort_run {X : Cx} {pins : List (Addr × Obj)} {s : Shared} {σ : L2.St} {H : Hp} {a : Addr} {ns : List Int} {Q : VK} (I : Inv X pins σ H s) (hs : SqT X.K H a (ns.map V.int))
    (q : ∀ (ns' : List Int) (p : Addr), ns'.Perm ns → ns'.Pairwise (fun x y => (if x < 0 then -x else x) ≤ (if y < 0 then -y else y)) → H p = none → Q (.ref p) (upd H p (.lst (ns'.map V.int)))) :
    wpAny (model X.prog X.w) X.A (call (.builtin "sorted") [.ref a] [(Str.ofString "key", .builtin "abs")]) (EP X pins σ Q) X.xe s := by
  obtain ⟨its, rv, hl, hz⟩ := I.tuple hs
  have hi := ints_of_vals rv
  obtain ⟨m, F⟩ := I.fr
  have hlen := hi.length
  rw [List.length_map] at hz
  refine my_sortedTup (b := false) (kz := ns.map fun x => if x < 0 then -x else x) F (others_news X.base s.heap X.env.locals) hl (by rw [List.length_map, hlen]) (by omega) (ksk_s1 _ _) (fun _ => ksk_l1 _ _) (fun x => ksk_t4 "abs" x) (fun i v k hv hk h tk own F' N' => ?_) fun D h' tk out c F' N' l1 ko => ?_
  · rw [List.getElem?_map] at hk
    cases e : ns[i]? with
    | none => rw [e] at hk; simp at hk
    | some n =>
      rw [e] at hk
      cases hk
      obtain ⟨t, ht'⟩ := hi.get i n e
      rw [ht'] at hv
      cases hv
      exact call_abs_int fun u tk' => KskEnd.intro F' N' fun p hp => hp
  · obtain ⟨ps, hp, ho, hs'⟩ := ko
    have hrel : ∀ p, p ∈ (ns.map fun x => if x < 0 then -x else x).zip its → p.1 = (fun x : Int => if x < 0 then -x else x) (numOf p.2) ∧ p.2 ∈ its := by
      rw [← hi.nums, List.map_map, List.zip_map_left]
      intro p hp
      obtain ⟨⟨u, v⟩, hq, rfl⟩ := List.mem_map.mp hp
      have h1 : u = v ∧ u ∈ its := mem_zip_self hq
      refine ⟨?_, ?_⟩
      · show (fun x : Int => if x < 0 then -x else x) (numOf u) = (fun x : Int => if x < 0 then -x else x) (numOf v)
        rw [h1.1]
      · show v ∈ its
        rw [← h1.1]
        exact h1.2
    have hI : IntsAre (ps.map Prod.snd) ((ps.map Prod.snd).map numOf) := intsAre_map _ fun v hv => by
      obtain ⟨p, hp', rfl⟩ := List.mem_map.mp hv
      exact hi.all _ (hrel p (hp.mem_iff.mp hp')).2
    have hP : ((ps.map Prod.snd).map numOf).Perm ns := by
      have h1 := (hp.map Prod.snd).map numOf
      rw [List.map_snd_zip (by rw [List.length_map]; omega), hi.nums] at h1
      exact h1
    have hO : ((ps.map Prod.snd).map numOf).Pairwise (fun x y => (if x < 0 then -x else x) ≤ (if y < 0 then -y else y)) := by
      rw [List.pairwise_map, List.pairwise_map]
      refine hs'.imp_of_mem fun {p q} hp' hq' hr => ?_
      have hr' : p.1 ≤ q.1 := hr
      rw [(hrel p (hp.mem_iff.mp hp')).1, (hrel q (hp.mem_iff.mp hq')).1] at hr'
      exact hr'
    rw [← ho] at hI hP hO
    have ND := N' _ (.head _)
    have old : ∀ b o, b ≠ X.env.locals → s.heap.get? b = some o → h'.get? b = some o := fun b o hb e => by
      cases hq : X.base.get? b with
      | some o' =>
        have := F.keep b o' hq
        rw [e] at this
        cases this
        exact F'.keep b o hq
      | none => exact (N' _ (.tail _ (others_mem hb hq e))).1
    have newD : s.heap.get? D = none := by
      cases e : s.heap.get? D with
      | none => rfl
      | some o => exact absurd (l1 _ (others_mem ND.2.1 ND.2.2 e)) (Nat.lt_irrefl _)
    have hD : H D = none := by
      cases e : H D with
      | none => rfl
      | some u =>
        obtain ⟨ob, h1⟩ := objok_some (I.hok D u e)
        rw [newD] at h1
        cases h1
    have nL : ∀ b u, H b = some u → b ≠ X.env.locals := fun b u e z => by rw [z, I.free] at e; cases e
    have nD : ∀ b o, s.heap.get? b = some o → b ≠ D := fun b o e z => by rw [z, newD] at e; cases e
    have hlen2 : (((out.toList).map numOf).map V.int).length ≤ sizeLine := by rw [List.length_map, hP.length_eq]; omega
    refine ⟨.ref D, upd H D (.lst (((out.toList).map numOf).map V.int)), ?_, rfl, q _ _ hP hO hD⟩
    refine I.step (g' := s.gens) (d' := s.drawn) (ch := []) (fun b hb => nomatch hb) (fun b o hL _ _ e _ => old b o hL e) (fun b o hL _ _ e _ => ⟨o.slots, old b o hL e⟩) (fun b o _ e n => by rw [upd_ne (nD b o e)]; exact n)
      (fun b o _ e => ?_) (fun b xs e => ?_) (fun b o u e => ?_) (fun b ps e => ?_) (fun m' hm => ?_) (fun b u e => ?_) I.bare
    · by_cases hb : b = X.env.locals
      · obtain ⟨o', _, _, h1, _⟩ := F'.ns
        exact ⟨o', by rw [hb]; exact h1⟩
      · exact ⟨o, old b o hb e⟩
    · rw [upd_ne (fun z => by rw [z, hD] at e; cases e)]; exact e
    · rw [upd_ne (fun z => by rw [z, hD] at e; cases e)]; exact e
    · rw [upd_ne (fun z => by rw [z, hD] at e; cases e)]
      exact ⟨#[], by rw [e]; simp⟩
    · obtain ⟨o1, es1, ep1, a1, a2, a3, a4⟩ := hm
      obtain ⟨o2, es2, ep2, b1, b2, b3, b4⟩ := F.ns
      rw [a1] at b1
      cases b1
      rw [a2] at b2
      cases b2
      have em : m' = m := funext fun x => (a4 x).symm.trans (b4 x)
      rw [em]
      exact F'.ns
    · by_cases hb : b = D
      · rw [hb, upd_same] at e
        cases e
        rw [hb]
        refine ⟨hlen2, out.toList, c, vals_of_ints hI, ?_⟩
        have := ND.1
        simpa using this
      · rw [upd_ne hb] at e
        have nb := nL b u e
        refine (I.hok b u e).stay (fun c' v hc q' => old c' v ?_ q') (fun c' q' => ?_) fun c' xs q' => ?_
        · rcases hc with z | z
          · rw [z]; exact nb
          · exact nL c' _ z
        · rw [upd_ne (fun z => by rw [z, hD] at q'; cases q')]; exact q'
        · rw [upd_ne (fun z => by rw [z, hD] at q'; cases q')]; exact q'
def tSortAbs (K : PySem.W.Frag) (te : TE) : TE := fun σ H Q => te σ H fun x H1 => ∃ (a : Addr) (ns : List Int), x = V.ref a ∧ SqT K H1 a (ns.map V.int) ∧ ∀ (ns' : List Int) (p : Addr), ns'.Perm ns → ns'.Pairwise (fun x y => (if x < 0 then -x else x) ≤ (if y < 0 then -y else y)) → H1 p = none → Q (.ref p) (upd H1 p (.lst (ns'.map V.int)))
theorem pe_sortedAbs {X : Cx} {K : PySem.W.Frag} (hK : X.K = K) {e : Expr} {te : TE} {p p2 pos kpos : Pos} (he : PE X e te) (hg : Gl X "sorted") (hm : X.mg "sorted" = none) (hg2 : Gl X "abs") (hm2 : X.mg "abs" = none)
    (hs : starEach [e] X.env = (false, eval e X.env) :: starEach [] X.env := by rfl) (hb : backTo pos (starEach [e] X.env) = (false, eval e X.env) :: backTo pos (starEach [] X.env) := by rfl) (hpl : (backTo pos (starEach [e] X.env)).any (·.1) = false := by rfl) :
    PE X (.Call (.Name "sorted" p) [e] [⟨some "key", .Name "abs" p2, kpos⟩] pos) (tSortAbs K te) := by
  subst hK
  refine ⟨fun pins s σ H Q I h => ?_⟩
  refine wpAny_Call_Name_kw (ld_blt I hg hm boot_sorted ?_)
  have h' : tCons te tNil σ H (fun vs H1 => match vs with
    | [x] => ∃ (a : Addr) (ns : List Int), x = V.ref a ∧ SqT X.K H1 a (ns.map V.int) ∧ ∀ (ns' : List Int) (p : Addr), ns'.Perm ns → ns'.Pairwise (fun x y => (if x < 0 then -x else x) ≤ (if y < 0 then -y else y)) → H1 p = none → Q (.ref p) (upd H1 p (.lst (ns'.map V.int)))
    | _ => False) := h
  refine PyProof.Rows.callWith_kw (thn ((pa_cons he pa_nil hs).run pos pins s σ H _ I h') fun us s1 ⟨vs, H1, I1, r1, q1⟩ => ?_) hb hpl rfl rfl
  obtain ⟨x, rfl⟩ : ∃ x, vs = [x] := by
    match vs, q1 with
    | [x], _ => exact ⟨x, rfl⟩
  obtain ⟨a, ns, rfl, hs, q⟩ := q1
  obtain rfl := Vals.ref1 r1
  refine wpAny_evalAll_cons (wpAny_bind (ld_blt I1 hg2 hm2 boot_abs (wpAny_bind (wpAny_standAt (wpAny_pure (wpAny_evalAll_nil ?_))))))
  exact absSort_run I1 hs q
end My

set_option Elab.async false
set_option maxRecDepth 100000
set_option maxHeartbeats 4000000
set_option linter.all false
/-! A comprehension of new data, over whatever is walked. -/
namespace My
open PySem PySem.Spec L2
section
variable {X : Cx} {K : PySem.W.Frag}
theorem call_tuple_ofK (h : X.K = K) : CallR X (.type "tuple") (fun xs H Q => ∃ p ys, xs = [.ref p] ∧ ((SqL K H p ys ∧ ∀ l, H l = none → Q (.ref l) (upd H l (.tup ys))) ∨ (SqT K H p ys ∧ Q (.ref p) H))) := h ▸ call_tuple_of
theorem op_catTK (h : X.K = K) : OpR X (binaryOp .Add) (rCatT K) := h ▸ op_catT
theorem op_catAK (h : X.K = K) : OpR X (binaryOp .Add) (rCatA K) := h ▸ op_catA
theorem op_catK (h : X.K = K) : OpR X (binaryOp .Add) rCat := op_cat
theorem pe_fldK {e : Expr} {f : Str} {pos : Pos} {ta : TE} (h : X.K = K) (he : PE X e ta) (hb : attributeBase e f X.env (eval e X.env) = eval e X.env) : PE X (.Attribute e f pos) (tFld K ta f) := h ▸ pe_fld he hb
end
/-- W by the turn and what was made so far -/
theorem lc_gen {K : PySem.W.Frag} {J : It} {n : Nat} {G : Hp → Prop} {Y : Nat → Hp → V → Hp → Prop} (w : Walk J n G Y) {g : TG} {tt : TT} {te : TE} {vs : List Nat} {σ : L2.St} {H1 : Hp} {D : Addr} {Qd : Hp → Prop}
    (W : Nat → List PyData → Prop) (h0 : W 0 []) (hn : n ≤ 100000) (hD : H1 D = none) (hG : ∀ H, Same H1 H → G H)
    (he : ∀ i x H2 H3 ds (Nx : Hp → Prop) (Add : VK), i < n → W i ds → Same H1 H2 → H2 D ≠ none → Y i H2 x H3 → (∀ H4, Same H2 H4 → W (i + 1) ds → Nx H4) →
      (∀ v d H4, Same H2 H4 → Dp K (hide D H4) v d → W (i + 1) (ds ++ [d]) → Add v H4) → g x (wipe σ vs) H3 fun σ2 H4 => wipe σ2 vs = wipe σ vs ∧ tt σ2 H4 fun b H5 => if b = true then te σ2 H5 Add else Nx H5)
    (hq : ∀ H2 zs ds, H2 D = some (.lst zs) → DpAll K (hide D H2) zs ds → W n ds → Same H1 H2 → Qd H2) :
    ∃ W : Nat → Nat → Hp → Prop, (∃ m, W 0 m (upd H1 D (.lst []))) ∧ ∀ i m H, W i m H →
      (J.stop i H ∧ Qd H) ∨ (J.go i H ∧ ∃ Nx : Hp → Prop, (∀ H', Nx H' → ∃ m', m' < m ∧ W (i + 1) m' H') ∧ ∀ x H', J.yld i H x H' → g x (wipe σ vs) H' fun σ2 H2 => wipe σ2 vs = wipe σ vs ∧ tt σ2 H2 fun b H3 =>
        if b = true then te σ2 H3 fun y H4 => ∃ acc, H4 D = some (.lst acc) ∧ acc.length < sizeLine ∧ Nx (upd H4 D (.lst (acc ++ [y]))) else Nx H3) := by
  refine lc_it w (fun i H => ∃ zs ds, H D = some (.lst zs) ∧ DpAll K (hide D H) zs ds ∧ W i ds ∧ zs.length ≤ i ∧ Same H1 H) ⟨[], [], upd_same, .nil, h0, Nat.le_refl _, same_new hD _⟩ (fun i H _ ⟨_, _, _, _, _, _, s⟩ => hG H s) ?_ ?_
  · rintro i x H2 H3 hi ⟨zs, ds, hz, hd, hw, hl, s⟩ hy
    refine he i x H2 H3 ds _ _ hi hw s (by rw [hz]; intro z; cases z) hy (fun H4 s4 w4 => ⟨zs, ds, s4 _ _ hz, dpa_mono (hide_same s4) _ hd, w4, by omega, s.trans s4⟩) fun v d H4 s4 hv w4 => ?_
    refine ⟨zs, s4 _ _ hz, Nat.lt_of_le_of_lt (by omega : zs.length ≤ 100000) (by decide), zs ++ [v], ds ++ [d], upd_same, ?_, w4, by rw [List.length_append, List.length_singleton]; omega, ?_⟩
    · exact dpa_mono (hide_put _) _ (dpa_app (dpa_mono (hide_same s4) _ hd) (dpa_one hv))
    · intro b o hb
      rw [upd_ne (ne_of_none hb hD)]
      exact s4 _ _ (s b o hb)
  · rintro H ⟨zs, ds, hz, hd, hw, _, s⟩
    exact hq H zs ds hz hd hw s
/-- a dict comprehension over whatever is walked -/
theorem dc_it {J : It} {n : Nat} {G : Hp → Prop} {Y : Nat → Hp → V → Hp → Prop} (w : Walk J n G Y) {g : TG} {tt : TT} {tk tv : TE} {vs : List Nat} {σ : L2.St} {H1 : Hp} {D : Addr} {Qd : Hp → Prop} (Pv : Nat → Hp → Prop) (h0 : Pv 0 (upd H1 D (.dK []))) (hG : ∀ i H, i ≤ n → Pv i H → G H)
    (hs : ∀ i x H H', i < n → Pv i H → Y i H x H' → g x (wipe σ vs) H' fun σ2 H2 => wipe σ2 vs = wipe σ vs ∧ tt σ2 H2 fun b H3 =>
      if b = true then tk σ2 H3 fun y H4 => tv σ2 H4 fun z H5 => ∃ kvs k, y = kV k ∧ H5 D = some (.dK kvs) ∧ kvs.length < sizeLine ∧ Pv (i + 1) (upd H5 D (.dK (putK kvs k z))) else Pv (i + 1) H3) (hd : ∀ H, Pv n H → Qd H) :
    ∃ W : Nat → Nat → Hp → Prop, (∃ m, W 0 m (upd H1 D (.dK []))) ∧ ∀ i m H, W i m H →
      (J.stop i H ∧ Qd H) ∨ (J.go i H ∧ ∃ Nx : Hp → Prop, (∀ H', Nx H' → ∃ m', m' < m ∧ W (i + 1) m' H') ∧ ∀ x H', J.yld i H x H' → g x (wipe σ vs) H' fun σ2 H2 => wipe σ2 vs = wipe σ vs ∧ tt σ2 H2 fun b H3 =>
        if b = true then tk σ2 H3 fun y H4 => tv σ2 H4 fun z H5 => ∃ kvs k, y = kV k ∧ H5 D = some (.dK kvs) ∧ kvs.length < sizeLine ∧ Nx (upd H5 D (.dK (putK kvs k z))) else Nx H3) := by
  refine ⟨fun i m H => m = n - i ∧ i ≤ n ∧ Pv i H, ⟨n, by simp, Nat.zero_le _, h0⟩, ?_⟩
  rintro i m H ⟨rfl, hi, p⟩
  have q := hG i H hi p
  by_cases hlt : i < n
  · exact .inr ⟨w.goes i H hlt q, Pv (i + 1), fun H' p' => ⟨n - (i + 1), by omega, rfl, hlt, p'⟩, fun x H' y => hs i x H H' hlt p (w.yields i H x H' hlt q y)⟩
  · have e : i = n := by omega
    subst e
    exact .inl ⟨w.stops H q, hd H p⟩
end My

set_option Elab.async false
set_option maxRecDepth 100000
set_option maxHeartbeats 4000000
set_option linter.all false
/-! A literal's clauses: what they say. -/
namespace My
open PySem PySem.Spec PyProof.Rows L2
def numY (ys : List Int) (y : Int) : Int := (ys.idxOf y : Int) + 1
def sgn (ys : List Int) (x : Int) : Int := if x % 2 = 0 then numY ys (x / 2) else -numY ys (x / 2)
theorem numY_pos (ys : List Int) (y : Int) : 1 ≤ numY ys y := by unfold numY; omega
theorem numY_le {ys : List Int} {y : Int} (h : y ∈ ys) : numY ys y ≤ ys.length := by
  have := List.idxOf_lt_length_of_mem h
  unfold numY
  omega
theorem numY_inj {ys : List Int} {y z : Int} (hy : y ∈ ys) (hz : z ∈ ys) (h : numY ys y = numY ys z) : y = z := by
  have e : ys.idxOf y = ys.idxOf z := by unfold numY at h; omega
  have h1 : ys[ys.idxOf y]'(List.idxOf_lt_length_of_mem hy) = y := List.getElem_idxOf _
  have h2 : ys[ys.idxOf z]'(List.idxOf_lt_length_of_mem hz) = z := List.getElem_idxOf _
  rw [← h1, ← h2]
  congr 1
theorem sgn_ne (ys : List Int) (x : Int) : sgn ys x ≠ 0 := by
  have := numY_pos ys (x / 2)
  unfold sgn
  split <;> omega
def rawG : Gt → Int → List Int → List (List Int)
  | .both _ _, v, [x, y] => [[x, -v], [y, -v], [-x, -y, v]]
  | .unlike _ _, v, [x, y] => [[x, y, -v], [-x, -y, -v], [-x, y, v], [x, -y, v]]
  | .chosen _ _ _, v, [c, x, y] => [[-c, -x, v], [-c, x, -v], [c, -y, v], [c, y, -v], [-x, -y, v], [x, y, -v]]
  | .most _ _ _, v, [x, y, z] => [[-x, -y, v], [-x, -z, v], [-y, -z, v], [x, y, -v], [x, z, -v], [y, z, -v]]
  | _, _, _ => []
theorem keeps_nil {A : Int → Bool} : MC.Keeps A [] := fun c h => nomatch h
theorem keeps_cons {A : Int → Bool} {c : List Int} {cs : List (List Int)} : MC.Keeps A (c :: cs) ↔ (∃ x ∈ c, MC.lit A x = true) ∧ MC.Keeps A cs :=
  ⟨fun h => ⟨h c (.head _), fun d hd => h d (.tail _ hd)⟩, fun ⟨h1, h2⟩ d hd => by
    rcases List.mem_cons.mp hd with e | e
    · rw [e]; exact h1
    · exact h2 d e⟩
theorem keeps_app {A : Int → Bool} {cs ds : List (List Int)} : MC.Keeps A (cs ++ ds) ↔ MC.Keeps A cs ∧ MC.Keeps A ds :=
  ⟨fun h => ⟨fun c hc => h c (List.mem_append_left _ hc), fun c hc => h c (List.mem_append_right _ hc)⟩, fun ⟨h1, h2⟩ c hc => (List.mem_append.mp hc).elim (h1 c) (h2 c)⟩
theorem ex1 {A : Int → Bool} {a : Int} : (∃ x ∈ [a], MC.lit A x = true) ↔ MC.lit A a = true := by simp
theorem ex2 {A : Int → Bool} {a b : Int} : (∃ x ∈ [a, b], MC.lit A x = true) ↔ (MC.lit A a || MC.lit A b) = true := by simp
theorem ex3 {A : Int → Bool} {a b c : Int} : (∃ x ∈ [a, b, c], MC.lit A x = true) ↔ (MC.lit A a || MC.lit A b || MC.lit A c) = true := by simp [or_assoc]
theorem keeps_both {A : Int → Bool} {x y v : Int} (hx : x ≠ 0) (hy : y ≠ 0) (hv : v ≠ 0) : MC.Keeps A [[x, -v], [y, -v], [-x, -y, v]] ↔ MC.lit A v = (MC.lit A x && MC.lit A y) := by
  simp only [keeps_cons, ex2, ex3, MC.lit_neg hx, MC.lit_neg hy, MC.lit_neg hv]
  generalize MC.lit A x = a
  generalize MC.lit A y = b
  generalize MC.lit A v = c
  have := @keeps_nil A
  cases a <;> cases b <;> cases c <;> simp [this]
theorem keeps_unlike {A : Int → Bool} {x y v : Int} (hx : x ≠ 0) (hy : y ≠ 0) (hv : v ≠ 0) : MC.Keeps A [[x, y, -v], [-x, -y, -v], [-x, y, v], [x, -y, v]] ↔ MC.lit A v = (MC.lit A x != MC.lit A y) := by
  simp only [keeps_cons, ex2, ex3, MC.lit_neg hx, MC.lit_neg hy, MC.lit_neg hv]
  generalize MC.lit A x = a
  generalize MC.lit A y = b
  generalize MC.lit A v = c
  have := @keeps_nil A
  cases a <;> cases b <;> cases c <;> simp [this]
theorem keeps_chosen {A : Int → Bool} {c x y v : Int} (hc : c ≠ 0) (hx : x ≠ 0) (hy : y ≠ 0) (hv : v ≠ 0) : MC.Keeps A [[-c, -x, v], [-c, x, -v], [c, -y, v], [c, y, -v], [-x, -y, v], [x, y, -v]] ↔ MC.lit A v = (if MC.lit A c = true then MC.lit A x else MC.lit A y) := by
  simp only [keeps_cons, ex2, ex3, MC.lit_neg hx, MC.lit_neg hy, MC.lit_neg hv, MC.lit_neg hc]
  generalize MC.lit A x = a
  generalize MC.lit A y = b
  generalize MC.lit A v = u
  generalize MC.lit A c = d
  have := @keeps_nil A
  cases a <;> cases b <;> cases u <;> cases d <;> simp [this]
theorem keeps_most {A : Int → Bool} {x y z v : Int} (hx : x ≠ 0) (hy : y ≠ 0) (hz : z ≠ 0) (hv : v ≠ 0) : MC.Keeps A [[-x, -y, v], [-x, -z, v], [-y, -z, v], [x, y, -v], [x, z, -v], [y, z, -v]] ↔ MC.lit A v = (MC.lit A x && MC.lit A y || MC.lit A x && MC.lit A z || MC.lit A y && MC.lit A z) := by
  simp only [keeps_cons, ex2, ex3, MC.lit_neg hx, MC.lit_neg hy, MC.lit_neg hv, MC.lit_neg hz]
  generalize MC.lit A x = a
  generalize MC.lit A y = b
  generalize MC.lit A v = u
  generalize MC.lit A z = d
  have := @keeps_nil A
  cases a <;> cases b <;> cases u <;> cases d <;> simp [this]
/-- a literal's item is true where the literal is 1 -/
def Agree (A : Int → Bool) (ys : List Int) (bs : List Int) (y : Int) : Prop := A (numY ys y) = decide (bs.getD y.toNat 0 = 1)
theorem lit_num {A : Int → Bool} {ys : List Int} {y : Int} : MC.lit A (numY ys y) = A (numY ys y) := by
  have := numY_pos ys y
  unfold MC.lit
  rw [if_pos (by omega)]
theorem lit_sgn {A : Int → Bool} {ys bs : List Int} (hb : ∀ b ∈ bs, b = 0 ∨ b = 1) {x : Int} (h : Agree A ys bs (x / 2)) : MC.lit A (sgn ys x) = decide (litv bs x = 1) := by
  unfold sgn litv
  have hp := numY_pos ys (x / 2)
  have g : bs.getD (x / 2).toNat 0 = 0 ∨ bs.getD (x / 2).toNat 0 = 1 := by
    rw [List.getD_eq_getElem?_getD]
    cases e : bs[(x / 2).toNat]? with
    | none => exact .inl rfl
    | some b => exact hb b (List.mem_of_getElem? e)
  by_cases e : x % 2 = 0
  · rw [if_pos e, if_pos e, lit_num]
    exact h
  · rw [if_neg e, if_neg e, MC.lit_neg (by omega), lit_num, h]
    rcases g with g | g <;> rw [g] <;> decide
def Gt.plain : Gt → Bool
  | .no => false
  | .bit _ => false
  | _ => true
theorem keeps_gate {A : Int → Bool} {ys bs : List Int} {env : Bits} (hb : ∀ b ∈ bs, b = 0 ∨ b = 1) {g : Gt} (hg : g.plain = true) {y : Int} (hp : ∀ z ∈ g.parts, Agree A ys bs (z / 2)) : MC.Keeps A (rawG g (numY ys y) (g.parts.map (sgn ys))) ↔ A (numY ys y) = decide (g.val env bs = 1) := by
  have hv : numY ys y ≠ 0 := by have := numY_pos ys y; omega
  have lb : ∀ x, litv bs x = 0 ∨ litv bs x = 1 := fun x => litv_bit hb x
  cases g with
  | no => cases hg
  | bit n => cases hg
  | both a b =>
    show MC.Keeps A [[sgn ys a, -numY ys y], [sgn ys b, -numY ys y], [-sgn ys a, -sgn ys b, numY ys y]] ↔ A (numY ys y) = decide ((if litv bs a + litv bs b ≥ 2 then (1 : Int) else 0) = 1)
    rw [keeps_both (sgn_ne _ _) (sgn_ne _ _) hv, lit_num, lit_sgn hb (hp a (.head _)), lit_sgn hb (hp b (.tail _ (.head _)))]
    rcases lb a with e | e <;> rcases lb b with e' | e' <;> rw [e, e'] <;> simp
  | unlike a b =>
    show MC.Keeps A [[sgn ys a, sgn ys b, -numY ys y], [-sgn ys a, -sgn ys b, -numY ys y], [-sgn ys a, sgn ys b, numY ys y], [sgn ys a, -sgn ys b, numY ys y]] ↔ A (numY ys y) = decide ((if litv bs a = litv bs b then (0 : Int) else 1) = 1)
    rw [keeps_unlike (sgn_ne _ _) (sgn_ne _ _) hv, lit_num, lit_sgn hb (hp a (.head _)), lit_sgn hb (hp b (.tail _ (.head _)))]
    rcases lb a with e | e <;> rcases lb b with e' | e' <;> rw [e, e'] <;> simp
  | chosen c a b =>
    show MC.Keeps A [[-sgn ys c, -sgn ys a, numY ys y], [-sgn ys c, sgn ys a, -numY ys y], [sgn ys c, -sgn ys b, numY ys y], [sgn ys c, sgn ys b, -numY ys y], [-sgn ys a, -sgn ys b, numY ys y], [sgn ys a, sgn ys b, -numY ys y]] ↔ A (numY ys y) = decide ((if litv bs c = 1 then litv bs a else litv bs b) = 1)
    rw [keeps_chosen (sgn_ne _ _) (sgn_ne _ _) (sgn_ne _ _) hv, lit_num, lit_sgn hb (hp c (.head _)), lit_sgn hb (hp a (.tail _ (.head _))), lit_sgn hb (hp b (.tail _ (.tail _ (.head _))))]
    rcases lb c with e0 | e0 <;> rcases lb a with e | e <;> rcases lb b with e' | e' <;> rw [e0, e, e'] <;> simp
  | most a b c =>
    show MC.Keeps A [[-sgn ys a, -sgn ys b, numY ys y], [-sgn ys a, -sgn ys c, numY ys y], [-sgn ys b, -sgn ys c, numY ys y], [sgn ys a, sgn ys b, -numY ys y], [sgn ys a, sgn ys c, -numY ys y], [sgn ys b, sgn ys c, -numY ys y]] ↔ A (numY ys y) = decide ((if litv bs a + litv bs b + litv bs c ≥ 2 then (1 : Int) else 0) = 1)
    rw [keeps_most (sgn_ne _ _) (sgn_ne _ _) (sgn_ne _ _) hv, lit_num, lit_sgn hb (hp a (.head _)), lit_sgn hb (hp b (.tail _ (.head _))), lit_sgn hb (hp c (.tail _ (.tail _ (.head _))))]
    rcases lb c with e0 | e0 <;> rcases lb a with e | e <;> rcases lb b with e' | e' <;> rw [e0, e, e'] <;> simp
/-- the clauses of a gate, before each is sorted -/
def rawY (gs : List Gt) (ys : List Int) (y : Int) : List (List Int) :=
  match gs[y.toNat]? with
  | some g => rawG g (numY ys y) (g.parts.map (sgn ys))
  | none => []
def rawOf (gs : List Gt) (ys zs : List Int) : List (List Int) := zs.flatMap (rawY gs ys)
def nmsOf (gs : List Gt) (ys zs : List Int) : List (NK × Int) := zs.filterMap fun (y : Int) => match (gs[y.toNat]? : Option Gt) with
  | some (Gt.bit n) => some (n, numY ys y)
  | _ => none
theorem mem_nms {gs : List Gt} {ys zs : List Int} {n : NK} {v : Int} : (n, v) ∈ nmsOf gs ys zs ↔ ∃ y ∈ zs, gs[y.toNat]? = some (.bit n) ∧ v = numY ys y := by
  unfold nmsOf
  rw [List.mem_filterMap]
  constructor
  · rintro ⟨y, hy, e⟩
    refine ⟨y, hy, ?_⟩
    split at e
    · rename_i m hm
      cases e
      exact ⟨hm, rfl⟩
    · cases e
  · rintro ⟨y, hy, e, rfl⟩
    exact ⟨y, hy, by rw [e]⟩
theorem agree_all {A : Int → Bool} {gs : List Gt} {ys : List Int} {env : Bits} {x : Int} (hk : okGs gs) (he : bitEnv env) (C : Cone gs [x] ys) (h1 : ∀ y ∈ ys, 1 ≤ y) (nd : (gs.map Gt.nk).Nodup)
    (hraw : MC.Keeps A (rawOf gs ys ys)) (hn : ∀ n v, (n, v) ∈ nmsOf gs ys ys → (A v = true ↔ env n = 1)) : ∀ (k : Nat) (y : Int), y.toNat = k → y ∈ ys → Agree A ys (bitsOf env gs) y := by
  intro k
  induction k using Nat.strongRecOn with
  | ind k ih =>
    intro y hyk hy
    have ry := C.rng y hy
    obtain ⟨g, hg⟩ : ∃ g, gs[y.toNat]? = some g := ⟨gs[y.toNat]'(by omega), List.getElem?_eq_getElem (by omega)⟩
    have hv := bits_at (env := env) gs hk y.toNat g hg
    have hb := bits_bit he gs
    unfold Agree
    rw [hv]
    cases hpl : g.plain with
    | true =>
      refine (keeps_gate hb hpl fun z hz => ?_).1 fun c hc => hraw c (List.mem_flatMap.mpr ⟨y, hy, ?_⟩)
      · have hp := hk.parts y.toNat g hg z hz
        exact ih (z / 2).toNat (by omega) (z / 2) rfl (C.cl y hy g hg z hz)
      · unfold rawY
        rw [hg]
        exact hc
    | false =>
      cases g with
      | bit n =>
        have := hn n (numY ys y) (mem_nms.2 ⟨y, hy, hg, rfl⟩)
        show A (numY ys y) = decide (env n = 1)
        by_cases e : env n = 1
        · rw [decide_eq_true e, this.2 e]
        · rw [decide_eq_false e]
          cases e2 : A (numY ys y) with
          | false => rfl
          | true => exact absurd (this.1 e2) e
      | no =>
        exfalso
        have h0 := hk.first
        have := h1 y hy
        have e1 : (gs.map Gt.nk)[y.toNat]? = some Gt.no.nk := by rw [List.getElem?_map, hg]; rfl
        have e2 : (gs.map Gt.nk)[0]? = some Gt.no.nk := by rw [List.getElem?_map, h0]; rfl
        have := (List.getElem?_inj (by have := (List.getElem?_eq_some_iff.mp e1).1; omega) nd).mp (e1.trans e2.symm)
        omega
      | both a b => cases hpl
      | unlike a b => cases hpl
      | chosen a b c => cases hpl
      | most a b c => cases hpl
theorem ts_iff {gs : List Gt} {ys : List Int} {env : Bits} {x : Int} (hk : okGs gs) (he : bitEnv env) (C : Cone gs [x] ys) (h1 : ∀ y ∈ ys, 1 ≤ y) (nd : (gs.map Gt.nk).Nodup) :
    (∃ A, MC.Keeps A (rawOf gs ys ys ++ [[sgn ys x]]) ∧ ∀ n v, (n, v) ∈ nmsOf gs ys ys → (A v = true ↔ env n = 1)) ↔ litv (bitsOf env gs) x = 1 := by
  have hb := bits_bit he gs
  have hx := C.has x (List.mem_singleton_self x)
  constructor
  · rintro ⟨A, hA, hn⟩
    obtain ⟨h2, h3⟩ := keeps_app.1 hA
    have ag := agree_all hk he C h1 nd h2 hn _ _ rfl hx
    have := ex1.1 (keeps_cons.1 h3).1
    rw [lit_sgn hb ag] at this
    exact of_decide_eq_true this
  · intro hl
    have ex : ∀ y ∈ ys, ys.getD (numY ys y - 1).toNat 0 = y := fun y hy => by
      have hi := List.idxOf_lt_length_of_mem hy
      rw [show (numY ys y - 1).toNat = ys.idxOf y by unfold numY; omega, List.getD_eq_getElem?_getD, List.getElem?_eq_getElem hi]
      exact List.getElem_idxOf hi
    obtain ⟨A, hA⟩ : ∃ A : Int → Bool, A = fun v => decide ((bitsOf env gs).getD (ys.getD (v - 1).toNat 0).toNat 0 = 1) := ⟨_, rfl⟩
    have ag : ∀ y ∈ ys, Agree A ys (bitsOf env gs) y := fun y hy => by
      unfold Agree
      rw [hA]
      dsimp only
      rw [ex y hy]
    refine ⟨A, keeps_app.2 ⟨fun c hc => ?_, keeps_cons.2 ⟨ex1.2 ?_, keeps_nil⟩⟩, fun n v hm => ?_⟩
    · obtain ⟨y, hy, hc⟩ := List.mem_flatMap.mp hc
      unfold rawY at hc
      cases hg : gs[y.toNat]? with
      | none => rw [hg] at hc; cases hc
      | some g =>
        rw [hg] at hc
        cases hpl : g.plain with
        | true =>
          refine (keeps_gate (env := env) hb hpl fun z hz => ag _ (C.cl y hy g hg z hz)).2 ?_ c hc
          rw [← bits_at gs hk y.toNat g hg]
          exact ag y hy
        | false =>
          cases g with
          | no => cases hc
          | bit n => cases hc
          | both a b => cases hpl
          | unlike a b => cases hpl
          | chosen a b c => cases hpl
          | most a b c => cases hpl
    · rw [lit_sgn hb (ag _ hx)]
      exact decide_eq_true hl
    · obtain ⟨y, hy, hg, rfl⟩ := mem_nms.1 hm
      have := ag y hy
      unfold Agree at this
      rw [bits_at gs hk y.toNat _ hg] at this
      rw [this]
      show decide (env n = 1) = true ↔ env n = 1
      simp
end My

set_option Elab.async false
set_option maxRecDepth 100000
set_option maxHeartbeats 4000000
set_option linter.all false
/-! Two lists side by side. -/
namespace My
open PySem PySem.Spec PyProof.Rows L2
inductive All2 {α β : Type} (R : α → β → Prop) : List α → List β → Prop where
  | nil : All2 R [] []
  | cons {a b as bs} : R a b → All2 R as bs → All2 R (a :: as) (b :: bs)
theorem All2.app {α β : Type} {R : α → β → Prop} {as as' : List α} {bs bs' : List β} (h : All2 R as bs) (k : All2 R as' bs') : All2 R (as ++ as') (bs ++ bs') := by
  induction h with
  | nil => exact k
  | cons h _ ih => exact .cons h ih
theorem All2.len {α β : Type} {R : α → β → Prop} {as : List α} {bs : List β} (h : All2 R as bs) : as.length = bs.length := by
  induction h with
  | nil => rfl
  | cons _ _ ih => rw [List.length_cons, List.length_cons, ih]
theorem All2.mem {α β : Type} {R : α → β → Prop} {as : List α} {bs : List β} (h : All2 R as bs) {b : β} (hb : b ∈ bs) : ∃ a ∈ as, R a b := by
  induction h with
  | nil => cases hb
  | cons h _ ih =>
    rcases List.mem_cons.mp hb with e | e
    · exact ⟨_, List.mem_cons_self, by rw [e]; exact h⟩
    · obtain ⟨a, ha, r⟩ := ih e
      exact ⟨a, List.mem_cons_of_mem _ ha, r⟩
theorem All2.memL {α β : Type} {R : α → β → Prop} {as : List α} {bs : List β} (h : All2 R as bs) {a : α} (ha : a ∈ as) : ∃ b ∈ bs, R a b := by
  induction h with
  | nil => cases ha
  | cons h _ ih =>
    rcases List.mem_cons.mp ha with e | e
    · exact ⟨_, List.mem_cons_self, by rw [e]; exact h⟩
    · obtain ⟨b, hb, r⟩ := ih e
      exact ⟨b, List.mem_cons_of_mem _ hb, r⟩
end My

set_option Elab.async false
set_option maxRecDepth 100000
set_option maxHeartbeats 4000000
set_option linter.all false
/-! Units in the heap. -/
namespace My
open PySem PySem.Spec PyProof.Rows L2
def neg (x : Nat) : Nat := if x % 2 = 0 then x + 1 else x - 1
theorem neg_neg (x : Nat) : neg (neg x) = x := by unfold neg; split <;> split <;> omega
theorem neg_ne (x : Nat) : neg x ≠ x := by unfold neg; split <;> omega
theorem neg_lt {x n : Nat} (h : x < 2 * n) : neg x < 2 * n := by unfold neg; split <;> omega
theorem neg_half (x : Nat) : neg x / 2 = x / 2 := by unfold neg; split <;> omega
theorem half_eq {x y : Nat} (h : x / 2 = y / 2) : x = y ∨ x = neg y := by unfold neg; split <;> omega
theorem neg_inj {x y : Nat} (h : neg x = neg y) : x = y := by rw [← neg_neg x, h, neg_neg]
theorem bx1 (x : Nat) : Builtin.bitXor (x : Int) 1 = ((neg x : Nat) : Int) := by
  rw [xor1]
  unfold neg
  split <;> split <;> omega
theorem bxx (x y : Nat) : Builtin.bitXor (x : Int) (y : Int) = ((x ^^^ y : Nat) : Int) := by
  rw [Bits.bitXor_pp (by omega) (by omega)]
  rfl
theorem xor_back (x y : Nat) : (x ^^^ y) ^^^ x = y := by
  rw [Nat.xor_comm x y, Nat.xor_assoc, Nat.xor_self, Nat.xor_zero]
theorem xor_back' (x y : Nat) : (x ^^^ y) ^^^ y = x := by
  rw [Nat.xor_assoc, Nat.xor_self, Nat.xor_zero]
/-! ### the abstract state, the roles of the objects -/
inductive Rl where
  | p | V | N | S | R | W | P | C | L | T
  | w (i : Nat) | q (i : Nat) | row (j : Nat) | part (j : Nat)
  deriving DecidableEq
structure US where
  vs : List Int
  st : List Int
  wt : Nat → List Nat
  pr : Nat → List (Nat × Nat)
  rows : List (List Nat × Nat)
  cs : List V
  ls : List V
  lev : V
  trail : List Nat
  done : Nat
  broken : Bool
def US.n (u : US) : Nat := u.vs.length
def nat (x : Nat) : V := .int (x : Int)
def vld (u : US) : Rl → Prop
  | .w i => i < 2 * u.n
  | .q i => i < 2 * u.n
  | .row j => j < u.rows.length
  | .part j => j < u.rows.length
  | _ => True
inductive Fd where
  | vs | nu | st | ro | wa | pa | ca | le | lv | tr | dn | br
  deriving DecidableEq
def fname : Fd → Str
  | .vs => "variables" | .nu => "numbers" | .st => "state" | .ro => "rows" | .wa => "waiting" | .pa => "pairs" | .ca => "causes" | .le => "levels" | .lv => "level" | .tr => "trail" | .dn => "done" | .br => "broken"
theorem fname_inj (a b : Fd) : fname a = fname b → a = b := by
  cases a <;> cases b <;> first | exact fun _ => rfl | exact fun h => absurd h (by decide +kernel)
def uval (ad : Rl → Addr) (u : US) : Fd → V
  | .vs => .ref (ad .V) | .nu => .ref (ad .N) | .st => .ref (ad .S) | .ro => .ref (ad .R) | .wa => .ref (ad .W) | .pa => .ref (ad .P) | .ca => .ref (ad .C) | .le => .ref (ad .L) | .lv => u.lev | .tr => .ref (ad .T) | .dn => nat u.done | .br => .bl u.broken
structure UF (ad : Rl → Addr) (u : US) (fs : List (Str × V)) : Prop where
  get : ∀ d, fs.lookup (fname d) = some (uval ad u d)
  no : ∀ g, (∀ d, g ≠ fname d) → fs.lookup g = none
  few : fs.length ≤ 50
theorem putF_old {f : Str} {v x : V} : ∀ {fs : List (Str × V)}, fs.lookup f = some x → (putF f v fs).length = fs.length
  | [], h => by cases h
  | (g, y) :: r, h => by
    show (if g = f then (g, v) :: r else (g, y) :: putF f v r).length = _
    split
    · rfl
    · rename_i hn
      rw [List.length_cons, List.length_cons, putF_old (fs := r) (x := x)]
      rw [List.lookup_cons] at h
      have : (f == g) = false := by simpa using fun e => hn e.symm
      rw [this] at h
      exact h
theorem UF.put {ad : Rl → Addr} {u u' : US} {fs : List (Str × V)} (h : UF ad u fs) (d : Fd) {v : V} (hv : uval ad u' d = v) (hk : ∀ e, e ≠ d → uval ad u' e = uval ad u e) : UF ad u' (putF (fname d) v fs) := by
  refine ⟨fun e => ?_, fun g hg => ?_, ?_⟩
  · rw [lookup_putF]
    by_cases c : e = d
    · subst c
      rw [if_pos rfl, hv]
    · rw [if_neg (fun z => c (fname_inj _ _ z)), h.get e, hk e c]
  · rw [lookup_putF, if_neg (hg d)]
    exact h.no g hg
  · rw [putF_old (h.get d)]
    exact h.few
theorem UF.same {ad : Rl → Addr} {u u' : US} {fs : List (Str × V)} (h : UF ad u fs) (hk : ∀ e, uval ad u' e = uval ad u e) : UF ad u' fs :=
  ⟨fun e => by rw [h.get e, hk e], h.no, h.few⟩
structure RF (pa : Addr) (link : Nat) (fs : List (Str × V)) : Prop where
  parts : fs.lookup ("parts" : Str) = some (.ref pa)
  link : fs.lookup ("link" : Str) = some (nat link)
  few : fs.length ≤ 50
def numRows (vs : List Int) : List (Key × V) := (vs.zipIdx).flatMap fun x => [((Sum.inl x.1 : Key), V.int (2 * (x.2 : Int))), (Sum.inl (-x.1), V.int (2 * (x.2 : Int) + 1))]
def refsTo (ad : Rl → Addr) (f : Nat → Rl) (l : List Nat) : List V := l.map fun i => .ref (ad (f i))
/-- what stands at the object of a role -/
def Holds (K : PySem.W.Frag) (Cu Cr : Addr) (H : Hp) (ad : Rl → Addr) (u : US) : Rl → Option HO → Prop
  | .p, o => ∃ dx fs, o = some (.ins Cu dx fs) ∧ UF ad u fs
  | .V, o => o = some (.lst (u.vs.map V.int))
  | .N, o => o = some (.dK (numRows u.vs))
  | .S, o => o = some (.lst (u.st.map V.int))
  | .R, o => o = some (.lst (refsTo ad .row (List.range u.rows.length)))
  | .W, o => o = some (.lst (refsTo ad .w (List.range (2 * u.n))))
  | .P, o => o = some (.lst (refsTo ad .q (List.range (2 * u.n))))
  | .C, o => o = some (.lst u.cs)
  | .L, o => o = some (.lst u.ls)
  | .T, o => o = some (.lst (u.trail.map nat))
  | .w i, o => o = some (.lst (refsTo ad .row (u.wt i)))
  | .q i, o => ∃ ts : List Addr, o = some (.lst (ts.map V.ref)) ∧ All2 (fun t (x : Nat × Nat) => SqT K H t [nat x.1, .ref (ad (.row x.2))]) ts (u.pr i)
  | .row j, o => ∃ dx fs r, u.rows[j]? = some r ∧ o = some (.ins Cr dx fs) ∧ RF (ad (.part j)) r.2 fs
  | .part j, o => ∃ r, u.rows[j]? = some r ∧ o = some (.lst (r.1.map nat))
structure UAt (K : PySem.W.Frag) (Cu Cr : Addr) (H : Hp) (ad : Rl → Addr) (u : US) : Prop where
  inj : ∀ r r', vld u r → vld u r' → ad r = ad r' → r = r'
  all : ∀ r, vld u r → Holds K Cu Cr H ad u r (H (ad r))
section
variable {K : PySem.W.Frag} {Cu Cr : Addr} {H H' : Hp} {ad : Rl → Addr} {u u' : US}
theorem UAt.mut (A : UAt K Cu Cr H ad u) {r : Rl} (hv : vld u r) : Mut (H (ad r)) ∨ ∃ c dx fs, H (ad r) = some (.ins c dx fs) := by
  have h := A.all r hv
  cases r with
  | p => obtain ⟨dx, fs, e, _⟩ := h; exact .inr ⟨_, _, _, e⟩
  | q i => obtain ⟨ts, e, _⟩ := h; rw [e]; exact .inl True.intro
  | row j => obtain ⟨dx, fs, r, _, e, _⟩ := h; exact .inr ⟨_, _, _, e⟩
  | part j => obtain ⟨r, _, e⟩ := h; rw [e]; exact .inl True.intro
  | _ => rw [show H _ = _ from h]; exact .inl True.intro
theorem UAt.has (A : UAt K Cu Cr H ad u) {r : Rl} (hv : vld u r) : ∃ o, H (ad r) = some o := by
  rcases A.mut hv with h | ⟨c, dx, fs, h⟩
  · cases e : H (ad r) with
    | none => rw [e] at h; exact h.elim
    | some o => exact ⟨o, rfl⟩
  · exact ⟨_, h⟩
theorem mut_ins {c dx : Addr} {fs : List (Str × V)} : Mut (some (.ins c dx fs)) := True.intro
theorem UAt.mut' (A : UAt K Cu Cr H ad u) {r : Rl} (hv : vld u r) : Mut (H (ad r)) := by
  rcases A.mut hv with h | ⟨c, dx, fs, h⟩
  · exact h
  · rw [h]; exact True.intro
theorem holds_mono {r : Rl} {o : Option HO} (hs : ∀ t xs, SqT K H t xs → SqT K H' t xs) (h : Holds K Cu Cr H ad u r o) : Holds K Cu Cr H' ad u r o := by
  cases r with
  | q i =>
    obtain ⟨ts, e, h⟩ := h
    refine ⟨ts, e, ?_⟩
    clear e
    revert h
    generalize u.pr i = l
    intro h
    induction h with
    | nil => exact .nil
    | cons a _ ih => exact .cons (hs _ _ a) ih
  | _ => exact h
/-- one object is written -/
theorem UAt.put (A : UAt K Cu Cr H ad u) {r : Rl} (hv : vld u r) (o : HO) (hvl : ∀ r', vld u' r' ↔ vld u r') (keep : ∀ r', r' ≠ r → vld u r' → ∀ (H : Hp) (x : Option HO), Holds K Cu Cr H ad u r' x → Holds K Cu Cr H ad u' r' x)
    (new : Holds K Cu Cr (upd H (ad r) o) ad u' r (some o)) : UAt K Cu Cr (upd H (ad r) o) ad u' := by
  refine ⟨fun a b ha hb => A.inj a b ((hvl a).1 ha) ((hvl b).1 hb), fun r' hr' => ?_⟩
  have hr := (hvl r').1 hr'
  by_cases e : r' = r
  · rw [e, upd_same]
    exact new
  · rw [upd_ne fun z => e (A.inj _ _ hr hv z)]
    refine keep r' e hr _ _ (holds_mono (fun t xs h => ?_) (A.all r' hr))
    exact sqt_but (A := [ad r]) (fun a ha => by rw [List.mem_singleton.mp ha]; exact A.mut' hv) (But.put (List.mem_singleton_self _) _) h
/-- what is not owned changes -/
theorem UAt.same (A : UAt K Cu Cr H ad u) (s : Same H H') : UAt K Cu Cr H' ad u :=
  ⟨A.inj, fun r hr => by
    obtain ⟨o, e⟩ := A.has hr
    have h := A.all r hr
    rw [e] at h
    rw [s _ _ e]
    exact holds_mono (fun t xs h => sqt_mono s h) h⟩
theorem UAt.but (A : UAt K Cu Cr H ad u) {B : List Addr} (hB : ∀ a ∈ B, Mut (H a)) (nB : ∀ r, vld u r → ad r ∉ B) (b : But B H H') : UAt K Cu Cr H' ad u :=
  ⟨A.inj, fun r hr => by
    obtain ⟨o, e⟩ := A.has hr
    have h := A.all r hr
    rw [e] at h
    rw [b _ _ (nB r hr) e]
    exact holds_mono (fun t xs h => sqt_but hB b h) h⟩
end
/-- what a call leaves: all but the objects of these roles -/
def Chg (R : Rl → Prop) (ad : Rl → Addr) (H H' : Hp) : Prop := ∀ b o, (∀ r, R r → b ≠ ad r) → H b = some o → H' b = some o
section
variable {R R' : Rl → Prop} {ad : Rl → Addr} {H H' H'' : Hp}
theorem Chg.refl : Chg R ad H H := fun _ _ _ h => h
theorem Chg.trans (h : Chg R ad H H') (k : Chg R ad H' H'') : Chg R ad H H'' := fun b o n e => k b o n (h b o n e)
theorem Chg.of_same (h : Same H H') : Chg R ad H H' := fun b o _ e => h b o e
theorem Chg.put {r : Rl} (hr : R r) (o : HO) : Chg R ad H (upd H (ad r) o) := fun b o' n e => by rw [upd_ne (n r hr)]; exact e
theorem Chg.wide (h : Chg R ad H H') (k : ∀ r, R r → R' r) : Chg R' ad H H' := fun b o n e => h b o (fun r hr => n r (k r hr)) e
/-- from a heap in which nothing is owned -/
theorem Chg.same {H0 : Hp} (h : Chg R ad H H') (f : ∀ r, R r → H0 (ad r) = none) (s : Same H0 H) : Same H0 H' := fun b o e => h b o (fun r hr z => by rw [z, f r hr] at e; cases e) (s b o e)
/-- an object of another role -/
theorem Chg.at_ {K : PySem.W.Frag} {Cu Cr : Addr} {u : US} {r : Rl} {o : HO} (h : Chg R ad H H') (A : UAt K Cu Cr H ad u) (hv : vld u r) (hR : ∀ r', R r' → vld u r' ∧ r' ≠ r) (e : H (ad r) = some o) : H' (ad r) = some o :=
  h _ _ (fun r' hr' z => (hR r' hr').2 (A.inj _ _ hv (hR r' hr').1 z).symm) e
end
theorem UAt.sqt {K : PySem.W.Frag} {Cu Cr : Addr} {H H' : Hp} {ad : Rl → Addr} {u : US} {R : Rl → Prop} (A : UAt K Cu Cr H ad u) (C : Chg R ad H H') (hR : ∀ r, R r → vld u r) {a : Addr} {xs : List V} (h : SqT K H a xs) : SqT K H' a xs := by
  rcases h with (h | ⟨o, h⟩) | h
  · exact .inl (.inl (C a _ (fun r hr z => by have := A.mut' (hR r hr); rw [← z, h] at this; exact this) h))
  · exact .inl (.inr ⟨o, C a _ (fun r hr z => by have := A.mut' (hR r hr); rw [← z, h] at this; exact this) h⟩)
  · exact .inr h
theorem All2.get {α β : Type} {R : α → β → Prop} {as : List α} {bs : List β} (h : All2 R as bs) : ∀ {i : Nat} {a : α}, as[i]? = some a → ∃ b, bs[i]? = some b ∧ R a b := by
  induction h with
  | nil => intro i a e; simp at e
  | cons r _ ih =>
    intro i a e
    cases i with
    | zero => simp at e; subst e; exact ⟨_, rfl, r⟩
    | succ i => exact ih (by simpa using e)
/-- what giving changes -/
def R4 : Rl → Prop := fun r => r = .S ∨ r = .C ∨ r = .L ∨ r = .T
theorem R4.vld {u : US} {r : Rl} (h : R4 r) : vld u r := by
  rcases h with rfl | rfl | rfl | rfl <;> exact True.intro
end My

set_option Elab.async false
set_option maxRecDepth 100000
set_option maxHeartbeats 4000000
set_option linter.all false
/-! Units, pure. -/
namespace My
open PySem PySem.Spec PyProof.Rows L2
/-- what is known -/
structure StOk (n : Nat) (st : List Int) (trail : List Nat) : Prop where
  len : st.length = 2 * n
  lt : ∀ x ∈ trail, x < 2 * n
  t : ∀ x, x < 2 * n → (st[x]? = some 1 ↔ x ∈ trail)
  f : ∀ x, x < 2 * n → (st[x]? = some 0 ↔ neg x ∈ trail)
  o : ∀ x, x < 2 * n → st[x]? = some 0 ∨ st[x]? = some 1 ∨ st[x]? = some 2
  nd : trail.Nodup
theorem StOk.two {n : Nat} {st : List Int} {trail : List Nat} (h : StOk n st trail) {x : Nat} (a : x ∈ trail) (b : neg x ∈ trail) : False := by
  have hx := h.lt x a
  have h1 := (h.t x hx).2 a
  have h2 := (h.f x hx).2 b
  rw [h1] at h2
  cases h2
theorem StOk.few {n : Nat} {st : List Int} {trail : List Nat} (h : StOk n st trail) : trail.length ≤ n := by
  have nd : (trail.map (· / 2)).Nodup := by
    rw [List.Nodup, List.pairwise_map]
    refine List.Pairwise.imp_of_mem (fun {a b} ha hb hn e => ?_) h.nd
    rcases half_eq e with z | z
    · exact hn z
    · exact h.two hb (by rw [← z]; exact ha)
  have := List.Nodup.length_le_of_subset (l₂ := List.range n) nd fun y hy => by
    obtain ⟨x, hx, rfl⟩ := List.mem_map.mp hy
    have := h.lt x hx
    exact List.mem_range.mpr (by omega)
  rw [List.length_map, List.length_range] at this
  exact this
def giveS (st : List Int) (x : Nat) : List Int := (st.set x 1).set (neg x) 0
theorem giveS_get {st : List Int} {x y : Nat} (hx : x < st.length) (hn : neg x < st.length) : (giveS st x)[y]? = if y = neg x then some 0 else if y = x then some 1 else st[y]? := by
  unfold giveS
  have h1 := neg_ne x
  rw [List.getElem?_set]
  by_cases e : neg x = y
  · rw [if_pos e, if_pos e.symm, if_pos (by rw [List.length_set]; exact hn)]
  · rw [if_neg e, if_neg fun z => e z.symm, List.getElem?_set]
    by_cases e2 : x = y
    · rw [if_pos e2, if_pos e2.symm, if_pos hx]
    · rw [if_neg e2, if_neg fun z => e2 z.symm]
theorem StOk.give {n : Nat} {st : List Int} {trail : List Nat} (h : StOk n st trail) {x : Nat} (hx : x < 2 * n) (ho : st[x]? = some 2) : StOk n (giveS st x) (trail ++ [x]) := by
  have hn := neg_lt hx
  have nx : x ∉ trail := fun m => by rw [(h.t x hx).2 m] at ho; cases ho
  have nn : neg x ∉ trail := fun m => by rw [(h.f x hx).2 m] at ho; cases ho
  have g : ∀ y, (giveS st x)[y]? = if y = neg x then some 0 else if y = x then some 1 else st[y]? := fun y => giveS_get (by rw [h.len]; exact hx) (by rw [h.len]; exact hn)
  have h1 := neg_ne x
  refine ⟨by unfold giveS; rw [List.length_set, List.length_set]; exact h.len, fun y hy => ?_, fun y hy => ?_, fun y hy => ?_, fun y hy => ?_, ?_⟩
  · rcases List.mem_append.mp hy with m | m
    · exact h.lt y m
    · rw [List.mem_singleton.mp m]; exact hx
  · rw [g, List.mem_append, List.mem_singleton]
    by_cases e : y = neg x
    · rw [if_pos e]
      refine ⟨fun z => (by cases z), fun z => ?_⟩
      rcases z with z | z
      · exact absurd (by rw [← e]; exact z) nn
      · exact absurd (e.symm.trans z) h1
    · rw [if_neg e]
      by_cases e2 : y = x
      · rw [if_pos e2]
        exact ⟨fun _ => .inr e2, fun _ => rfl⟩
      · rw [if_neg e2, h.t y hy]
        exact ⟨.inl, fun z => z.resolve_right e2⟩
  · rw [g, List.mem_append, List.mem_singleton]
    by_cases e : y = neg x
    · rw [if_pos e]
      exact ⟨fun _ => .inr (by rw [e, neg_neg]), fun _ => rfl⟩
    · rw [if_neg e]
      by_cases e2 : y = x
      · rw [if_pos e2]
        refine ⟨fun z => (by cases z), fun z => ?_⟩
        rcases z with z | z
        · exact absurd (by rw [← e2]; exact z) nn
        · rw [e2] at z
          exact absurd z h1
      · rw [if_neg e2, h.f y hy]
        exact ⟨.inl, fun z => z.resolve_right fun q => e (by rw [← q, neg_neg])⟩
  · rw [g]
    split
    · exact .inl rfl
    · split
      · exact .inr (.inl rfl)
      · exact h.o y hy
  · exact List.nodup_append.mpr ⟨h.nd, by simp, fun a ha b hb e => nx (by rw [← List.mem_singleton.mp hb, ← e]; exact ha)⟩
/-- the rows, and where they wait -/
structure ROk (n : Nat) (r : List Nat × Nat) : Prop where
  two : 2 ≤ r.1.length
  lt : ∀ x ∈ r.1, x < 2 * n
  dis : r.1.Pairwise fun x y => x / 2 ≠ y / 2
structure WOk (n : Nat) (rows : List (List Nat × Nat)) (wt : Nat → List Nat) (pr : Nat → List (Nat × Nat)) : Prop where
  ok : ∀ r ∈ rows, ROk n r
  nd : ∀ x, x < 2 * n → (wt x).Nodup
  wl : ∀ x, x < 2 * n → ∀ j ∈ wt x, ∃ r, rows[j]? = some r ∧ 3 ≤ r.1.length
  wp : ∀ (j : Nat) r, rows[j]? = some r → 3 ≤ r.1.length → ∃ a b, a ∈ r.1 ∧ b ∈ r.1 ∧ a ≠ b ∧ r.2 = a ^^^ b ∧ ∀ x, x < 2 * n → (j ∈ wt x ↔ x = a ∨ x = b)
  pp : ∀ (j : Nat) a b l, rows[j]? = some ([a, b], l) → (b, j) ∈ pr a ∧ (a, j) ∈ pr b
  pl : ∀ x, x < 2 * n → ∀ y ∈ pr x, ∃ l, rows[y.2]? = some ([x, y.1], l) ∨ rows[y.2]? = some ([y.1, x], l)
/-- a row that waits at x: its other place -/
theorem WOk.at_ {n : Nat} {rows : List (List Nat × Nat)} {wt : Nat → List Nat} {pr : Nat → List (Nat × Nat)} (h : WOk n rows wt pr) {x j : Nat} (hx : x < 2 * n) (hj : j ∈ wt x) : ∃ r o, rows[j]? = some r ∧ 3 ≤ r.1.length ∧ r.2 ^^^ x = o ∧ r.2 = x ^^^ o ∧ x ∈ r.1 ∧ o ∈ r.1 ∧ o ≠ x ∧ o < 2 * n ∧ ∀ y, y < 2 * n → (j ∈ wt y ↔ y = x ∨ y = o) := by
  obtain ⟨r, hr, h3⟩ := h.wl x hx j hj
  obtain ⟨a, b, ha, hb, ne, hl, hw⟩ := h.wp j r hr h3
  have lt := (h.ok r (List.mem_of_getElem? hr)).lt
  rcases (hw x hx).1 hj with e | e
  · subst e
    exact ⟨r, b, hr, h3, by rw [hl, xor_back], hl, ha, hb, fun z => ne z.symm, lt b hb, hw⟩
  · subst e
    exact ⟨r, a, hr, h3, by rw [hl, xor_back'], by rw [hl, Nat.xor_comm], hb, ha, ne, lt a ha, fun y hy => (hw y hy).trans Or.comm⟩
/-- a row goes from x to y -/
theorem WOk.move {n : Nat} {rows : List (List Nat × Nat)} {wt wt' : Nat → List Nat} {pr : Nat → List (Nat × Nat)} (h : WOk n rows wt pr) {x y o j : Nat} {r : List Nat × Nat} (hx : x < 2 * n) (hj : j ∈ wt x) (hr : rows[j]? = some r) (ho : r.2 ^^^ x = o) (hy : y ∈ r.1) (nyx : y ≠ x) (nyo : y ≠ o)
    (w1 : ∀ k, k ∈ wt' x ↔ k ∈ wt x ∧ k ≠ j) (w2 : ∀ k, k ∈ wt' y ↔ k ∈ wt y ∨ k = j) (w3 : ∀ z, z ≠ x → z ≠ y → wt' z = wt z) (nd : ∀ z, z < 2 * n → (wt' z).Nodup) :
    WOk n (rows.set j (r.1, o ^^^ y)) wt' pr := by
  obtain ⟨r', o', hr', h3, ho', hl, hxr, hor, nox, hol, hw⟩ := h.at_ hx hj
  rw [hr] at hr'
  obtain rfl := Option.some.inj hr'
  obtain rfl : o' = o := by rw [← ho', ho]
  have ry := (h.ok r (List.mem_of_getElem? hr)).lt y hy
  have jl := (List.getElem?_eq_some_iff.mp hr).1
  have get : ∀ k, (rows.set j (r.1, o' ^^^ y))[k]? = if j = k then some (r.1, o' ^^^ y) else rows[k]? := fun k => by
    rw [List.getElem?_set]
    split
    · first | rfl | rw [if_pos jl]
    · rfl
  refine ⟨fun q hq => ?_, nd, fun z hz k hk => ?_, fun k q hk h3k => ?_, fun k a b l hk => ?_, fun z hz q hq => ?_⟩
  · obtain ⟨k, hk⟩ := List.getElem?_of_mem hq
    rw [get] at hk
    split at hk
    · cases hk
      have := h.ok r (List.mem_of_getElem? hr)
      exact ⟨this.two, this.lt, this.dis⟩
    · exact h.ok q (List.mem_of_getElem? hk)
  · rw [get]
    by_cases e : j = k
    · rw [if_pos e]
      exact ⟨_, rfl, h3⟩
    · rw [if_neg e]
      refine h.wl z hz k ?_
      by_cases e1 : z = x
      · subst e1
        exact ((w1 k).1 hk).1
      · by_cases e2 : z = y
        · subst e2
          exact ((w2 k).1 hk).resolve_right fun q => e q.symm
        · rw [← w3 z e1 e2]; exact hk
  · rw [get] at hk
    by_cases e : j = k
    · rw [if_pos e] at hk
      cases hk
      subst e
      refine ⟨o', y, hor, hy, fun z => nyo z.symm, rfl, fun z hz => ?_⟩
      by_cases e1 : z = x
      · subst e1
        rw [w1]
        exact ⟨fun q => absurd rfl q.2, fun q => by rcases q with q | q; exact absurd q.symm nox; exact absurd q.symm nyx⟩
      · by_cases e2 : z = y
        · subst e2
          rw [w2]
          exact ⟨fun _ => .inr rfl, fun _ => .inr rfl⟩
        · rw [w3 z e1 e2, hw z hz]
          exact ⟨fun q => .inl (q.resolve_left e1), fun q => .inr (q.resolve_right e2)⟩
    · rw [if_neg e] at hk
      obtain ⟨a, b, ha, hb, ne, hl2, hw2⟩ := h.wp k q hk h3k
      refine ⟨a, b, ha, hb, ne, hl2, fun z hz => ?_⟩
      rw [← hw2 z hz]
      by_cases e1 : z = x
      · subst e1
        rw [w1]
        exact ⟨fun q => q.1, fun q => ⟨q, fun z => e z.symm⟩⟩
      · by_cases e2 : z = y
        · subst e2
          rw [w2]
          exact ⟨fun q => q.resolve_right fun z => e z.symm, .inl⟩
        · rw [w3 z e1 e2]
  · rw [get] at hk
    by_cases e : j = k
    · rw [if_pos e] at hk
      have e1 : r.1 = [a, b] := congrArg Prod.fst (Option.some.inj hk)
      rw [e1] at h3
      exact absurd h3 (by show ¬ (3 ≤ 2); decide)
    · rw [if_neg e] at hk
      exact h.pp k a b l hk
  · obtain ⟨l, hl2⟩ := h.pl z hz q hq
    have e : j ≠ q.2 := fun e => by
      rw [← e, hr] at hl2
      rcases hl2 with hl2 | hl2 <;>
      · have e1 := congrArg Prod.fst (Option.some.inj hl2)
        dsimp only at e1
        rw [e1] at h3
        exact absurd h3 (by show ¬ (3 ≤ 2); decide)
    rw [get, if_neg e]
    exact ⟨l, hl2⟩
/-- what follows from the rows -/
structure SOk (F : Nat → Prop) (Cf : Prop) (rows : List (List Nat × Nat)) (trail : List Nat) : Prop where
  tr : ∀ x ∈ trail, F x
  un : ∀ r ∈ rows, ∀ l ∈ r.1, (∀ y ∈ r.1, y ≠ l → F (neg y)) → F l
  cf : ∀ r ∈ rows, (∀ y ∈ r.1, F (neg y)) → Cf
/-- where an item got false and was looked at, the other place is true -/
def QAt (u : US) (f : Nat) : Prop := (∀ j ∈ u.wt f, ∀ r, u.rows[j]? = some r → r.2 ^^^ f ∈ u.trail) ∧ ∀ y ∈ u.pr f, y.1 ∈ u.trail
structure Lg (F : Nat → Prop) (Cf : Prop) (u : US) : Prop where
  few : u.n ≤ 200000
  so : StOk u.n u.st u.trail
  w : WOk u.n u.rows u.wt u.pr
  s : SOk F Cf u.rows u.trail
  q : ∀ x ∈ u.trail.take u.done, QAt u (neg x)
  lc : u.cs.length = u.n
  ll : u.ls.length = u.n
  dn : u.done ≤ u.trail.length
  rl : u.rows.length ≤ 100000
  pf : ∀ x, (u.pr x).length ≤ u.rows.length
/-- all was looked at: each row has a true item or two that are open -/
theorem Lg.full {F : Nat → Prop} {Cf : Prop} {u : US} (h : Lg F Cf u) (hd : u.done = u.trail.length) {r : List Nat × Nat} (hr : r ∈ u.rows) : (∃ x ∈ r.1, x ∈ u.trail) ∨ ∃ x ∈ r.1, ∃ y ∈ r.1, x ≠ y ∧ neg x ∉ u.trail ∧ neg y ∉ u.trail := by
  obtain ⟨j, hj⟩ := List.getElem?_of_mem hr
  have q : ∀ x, neg x ∈ u.trail → QAt u x := fun x hx => by
    have := h.q (neg x) (by rw [hd, List.take_length]; exact hx)
    rwa [neg_neg] at this
  have two := (h.w.ok r hr).two
  rcases Nat.lt_or_ge r.1.length 3 with h3 | h3
  · obtain ⟨a, b, e⟩ : ∃ a b, r.1 = [a, b] := by
      match r.1, two, h3 with
      | [a, b], _, _ => exact ⟨a, b, rfl⟩
    have hj' : u.rows[j]? = some ([a, b], r.2) := by rw [hj, ← e]
    obtain ⟨p1, p2⟩ := h.w.pp j a b r.2 hj'
    have dis := (h.w.ok r hr).dis
    rw [e] at dis
    have ne : a ≠ b := fun z => by
      have := (List.pairwise_cons.mp dis).1 b List.mem_cons_self
      exact this (by rw [z])
    by_cases fa : neg a ∈ u.trail
    · exact .inl ⟨b, by rw [e]; simp, (q a fa).2 _ p1⟩
    · by_cases fb : neg b ∈ u.trail
      · exact .inl ⟨a, by rw [e]; simp, (q b fb).2 _ p2⟩
      · exact .inr ⟨a, by rw [e]; simp, b, by rw [e]; simp, ne, fa, fb⟩
  · obtain ⟨a, b, ha, hb, ne, hl, hw⟩ := h.w.wp j r hj h3
    have lt := (h.w.ok r hr).lt
    by_cases fa : neg a ∈ u.trail
    · have := (q a fa).1 j ((hw a (lt a ha)).2 (.inl rfl)) r hj
      rw [hl, xor_back] at this
      exact .inl ⟨b, hb, this⟩
    · by_cases fb : neg b ∈ u.trail
      · have := (q b fb).1 j ((hw b (lt b hb)).2 (.inr rfl)) r hj
        rw [hl, xor_back'] at this
        exact .inl ⟨a, ha, this⟩
      · exact .inr ⟨a, ha, b, hb, ne, fa, fb⟩
def US.give (u : US) (x : Nat) (c : V) : US := { u with st := giveS u.st x, cs := u.cs.set (x / 2) c, ls := u.ls.set (x / 2) u.lev, trail := u.trail ++ [x] }
theorem Lg.give {F : Nat → Prop} {Cf : Prop} {u : US} (h : Lg F Cf u) {x : Nat} (hx : x < 2 * u.n) (ho : u.st[x]? = some 2) (hF : F x) (c : V) : Lg F Cf (u.give x c) := by
  refine ⟨h.few, h.so.give hx ho, h.w, ⟨fun y hy => ?_, h.s.un, h.s.cf⟩, fun y hy => ?_, ?_, ?_, ?_, h.rl, h.pf⟩
  · rcases List.mem_append.mp hy with m | m
    · exact h.s.tr y m
    · rw [List.mem_singleton.mp m]; exact hF
  · have hy' : y ∈ u.trail.take u.done := by
      have hy : y ∈ (u.trail ++ [x]).take u.done := hy
      rw [List.take_append_of_le_length h.dn] at hy
      exact hy
    obtain ⟨q1, q2⟩ := h.q y hy'
    exact ⟨fun j hj r hr => List.mem_append_left _ (q1 j hj r hr), fun z hz => List.mem_append_left _ (q2 z hz)⟩
  · show (u.cs.set _ _).length = _
    rw [List.length_set]; exact h.lc
  · show (u.ls.set _ _).length = _
    rw [List.length_set]; exact h.ll
  · show u.done ≤ (u.trail ++ [x]).length
    rw [List.length_append]
    have := h.dn
    omega
end My

set_option Elab.async false
set_option maxRecDepth 100000
set_option maxHeartbeats 4000000
set_option linter.all false
/-! Units: what is written. -/
namespace My
open PySem PySem.Spec PyProof.Rows L2
theorem All2.imp {α β : Type} {R S : α → β → Prop} (h : ∀ a b, R a b → S a b) {as : List α} {bs : List β} (l : All2 R as bs) : All2 S as bs := by
  induction l with
  | nil => exact .nil
  | cons a _ ih => exact .cons (h _ _ a) ih
theorem ixN_nat {n i : Nat} (h : i < n) : ixN n (i : Int) = some i := by
  unfold ixN
  first
  | (rw [if_pos (by omega), if_pos (by omega)]; congr 1)
  | (simp only [h]; simp; omega)
  | (split <;> first | (split <;> first | (congr 1; omega) | omega) | omega)
section
variable {K : PySem.W.Frag} {Cu Cr : Addr} {H : Hp} {ad : Rl → Addr} {u : US}
theorem UAt.putS (A : UAt K Cu Cr H ad u) (l : List Int) : UAt K Cu Cr (upd H (ad .S) (.lst (l.map V.int))) ad { u with st := l } :=
  A.put (r := .S) (u' := { u with st := l }) True.intro _ (fun r => by cases r <;> exact Iff.rfl) (fun r' hn hv H x h => by
    cases r' with
    | p => obtain ⟨dx, fs, e, F⟩ := h; exact ⟨dx, fs, e, F.same fun d => by cases d <;> rfl⟩
    | S => exact absurd rfl hn
    | _ => exact h) rfl
theorem UAt.putC (A : UAt K Cu Cr H ad u) (l : List V) : UAt K Cu Cr (upd H (ad .C) (.lst l)) ad { u with cs := l } :=
  A.put (r := .C) (u' := { u with cs := l }) True.intro _ (fun r => by cases r <;> exact Iff.rfl) (fun r' hn hv H x h => by
    cases r' with
    | p => obtain ⟨dx, fs, e, F⟩ := h; exact ⟨dx, fs, e, F.same fun d => by cases d <;> rfl⟩
    | C => exact absurd rfl hn
    | _ => exact h) rfl
theorem UAt.putL (A : UAt K Cu Cr H ad u) (l : List V) : UAt K Cu Cr (upd H (ad .L) (.lst l)) ad { u with ls := l } :=
  A.put (r := .L) (u' := { u with ls := l }) True.intro _ (fun r => by cases r <;> exact Iff.rfl) (fun r' hn hv H x h => by
    cases r' with
    | p => obtain ⟨dx, fs, e, F⟩ := h; exact ⟨dx, fs, e, F.same fun d => by cases d <;> rfl⟩
    | L => exact absurd rfl hn
    | _ => exact h) rfl
theorem UAt.putT (A : UAt K Cu Cr H ad u) (l : List Nat) : UAt K Cu Cr (upd H (ad .T) (.lst (l.map nat))) ad { u with trail := l } :=
  A.put (r := .T) (u' := { u with trail := l }) True.intro _ (fun r => by cases r <;> exact Iff.rfl) (fun r' hn hv H x h => by
    cases r' with
    | p => obtain ⟨dx, fs, e, F⟩ := h; exact ⟨dx, fs, e, F.same fun d => by cases d <;> rfl⟩
    | T => exact absurd rfl hn
    | _ => exact h) rfl
theorem UAt.putw (A : UAt K Cu Cr H ad u) {i : Nat} (hi : i < 2 * u.n) (l : List Nat) : UAt K Cu Cr (upd H (ad (.w i)) (.lst (refsTo ad .row l))) ad { u with wt := fun y => if y = i then l else u.wt y } :=
  A.put (r := .w i) (u' := { u with wt := fun y => if y = i then l else u.wt y }) hi _ (fun r => by cases r <;> exact Iff.rfl) (fun r' hn hv H x h => by
    cases r' with
    | p => obtain ⟨dx, fs, e, F⟩ := h; exact ⟨dx, fs, e, F.same fun d => by cases d <;> rfl⟩
    | w k =>
      have hk : k ≠ i := fun e => hn (by rw [e])
      show x = some (.lst (refsTo ad .row (if k = i then l else u.wt k)))
      rw [if_neg hk]
      exact h
    | _ => exact h) (by show _ = some (HO.lst (refsTo ad .row (if i = i then l else u.wt i))); rw [if_pos rfl])
theorem UAt.putq (A : UAt K Cu Cr H ad u) {i : Nat} (hi : i < 2 * u.n) {ts : List Addr} (l : List (Nat × Nat)) (hl : All2 (fun t (x : Nat × Nat) => SqT K H t [nat x.1, .ref (ad (.row x.2))]) ts l) : UAt K Cu Cr (upd H (ad (.q i)) (.lst (ts.map V.ref))) ad { u with pr := fun y => if y = i then l else u.pr y } :=
  A.put (r := .q i) (u' := { u with pr := fun y => if y = i then l else u.pr y }) hi _ (fun r => by cases r <;> exact Iff.rfl) (fun r' hn hv H x h => by
    cases r' with
    | p => obtain ⟨dx, fs, e, F⟩ := h; exact ⟨dx, fs, e, F.same fun d => by cases d <;> rfl⟩
    | q k =>
      have hk : k ≠ i := fun e => hn (by rw [e])
      obtain ⟨ts, e, h⟩ := h
      refine ⟨ts, e, ?_⟩
      show All2 _ ts (if k = i then l else u.pr k)
      rw [if_neg hk]
      exact h
    | _ => exact h) (by
    refine ⟨ts, rfl, ?_⟩
    show All2 _ ts (if i = i then l else u.pr i)
    rw [if_pos rfl]
    have mt : ∀ a ∈ [ad (.q i)], Mut (H a) := fun a ha => by rw [List.mem_singleton.mp ha]; exact A.mut' (r := .q i) hi
    exact hl.imp fun a b h => sqt_but mt (But.put (List.mem_singleton_self _) _) h)
/-- a field of plain data -/
theorem UAt.putp (A : UAt K Cu Cr H ad u) (d : Fd) (v : V) {dx : Addr} {fs : List (Str × V)} {u' : US} (hp : H (ad .p) = some (.ins Cu dx fs)) (hv : uval ad u' d = v) (hk : ∀ e, e ≠ d → uval ad u' e = uval ad u e) (hvl : ∀ r, vld u' r ↔ vld u r)
    (keep : ∀ r', r' ≠ .p → ∀ (H : Hp) (x : Option HO), Holds K Cu Cr H ad u r' x → Holds K Cu Cr H ad u' r' x) : UAt K Cu Cr (upd H (ad .p) (.ins Cu dx (putF (fname d) v fs))) ad u' := by
  obtain ⟨dx', fs', e, F⟩ := A.all .p True.intro
  rw [hp] at e
  cases e
  exact A.put (r := .p) (u' := u') True.intro _ hvl (fun r' hn _ H x h => keep r' hn H x h) ⟨dx, _, rfl, F.put d hv hk⟩
theorem UAt.putDone (A : UAt K Cu Cr H ad u) (k : Nat) {dx : Addr} {fs : List (Str × V)} (hp : H (ad .p) = some (.ins Cu dx fs)) : UAt K Cu Cr (upd H (ad .p) (.ins Cu dx (putF (fname .dn) (nat k) fs))) ad { u with done := k } :=
  A.putp .dn _ (u' := { u with done := k }) hp rfl (fun e he => by cases e <;> first | exact absurd rfl he | rfl) (fun r => by cases r <;> exact Iff.rfl) fun r' hn H x h => by
    cases r' with
    | p => exact absurd rfl hn
    | _ => exact h
theorem UAt.putBroken (A : UAt K Cu Cr H ad u) (b : Bool) {dx : Addr} {fs : List (Str × V)} (hp : H (ad .p) = some (.ins Cu dx fs)) : UAt K Cu Cr (upd H (ad .p) (.ins Cu dx (putF (fname .br) (.bl b) fs))) ad { u with broken := b } :=
  A.putp .br _ (u' := { u with broken := b }) hp rfl (fun e he => by cases e <;> first | exact absurd rfl he | rfl) (fun r => by cases r <;> exact Iff.rfl) fun r' hn H x h => by
    cases r' with
    | p => exact absurd rfl hn
    | _ => exact h
/-- a row's link -/
theorem UAt.putLink (A : UAt K Cu Cr H ad u) {j k : Nat} {r : List Nat × Nat} {dx : Addr} {fs : List (Str × V)} (hr : u.rows[j]? = some r) (hp : H (ad (.row j)) = some (.ins Cr dx fs)) : UAt K Cu Cr (upd H (ad (.row j)) (.ins Cr dx (putF ("link" : Str) (nat k) fs))) ad { u with rows := u.rows.set j (r.1, k) } := by
  have jl := (List.getElem?_eq_some_iff.mp hr).1
  obtain ⟨dx', fs', r', hr', e, F⟩ := A.all (.row j) jl
  rw [hp] at e
  cases e
  rw [hr] at hr'
  obtain rfl := Option.some.inj hr'
  have get : ∀ i, (u.rows.set j (r.1, k))[i]? = if j = i then some (r.1, k) else u.rows[i]? := fun i => by
    rw [List.getElem?_set]
    split
    · first | rfl | rw [if_pos jl]
    · rfl
  refine A.put (r := .row j) (u' := { u with rows := u.rows.set j (r.1, k) }) jl _ (fun r => by cases r <;> first | exact Iff.rfl | (show _ < (u.rows.set _ _).length ↔ _; rw [List.length_set]; exact Iff.rfl)) (fun r' hn hv H x h => ?_) ?_
  · cases r' with
    | p => obtain ⟨dx, fs, e, F⟩ := h; exact ⟨dx, fs, e, F.same fun d => by cases d <;> rfl⟩
    | R =>
      show x = some (.lst (refsTo ad .row (List.range (u.rows.set j (r.1, k)).length)))
      rw [List.length_set]
      exact h
    | row i =>
      have hi : j ≠ i := fun e => hn (by rw [e])
      obtain ⟨dx2, fs2, r2, h1, h2, h3⟩ := h
      exact ⟨dx2, fs2, r2, by show (u.rows.set j (r.1, k))[i]? = _; rw [get, if_neg hi]; exact h1, h2, h3⟩
    | part i =>
      obtain ⟨r2, h1, h2⟩ := h
      by_cases e : j = i
      · subst e
        rw [hr] at h1
        obtain rfl := Option.some.inj h1
        exact ⟨(r.1, k), by show (u.rows.set j (r.1, k))[j]? = _; rw [get, if_pos rfl], h2⟩
      · exact ⟨r2, by show (u.rows.set j (r.1, k))[i]? = _; rw [get, if_neg e]; exact h1, h2⟩
    | _ => exact h
  · refine ⟨dx, _, (r.1, k), by show (u.rows.set j (r.1, k))[j]? = _; rw [get, if_pos rfl], rfl, ?_, ?_, ?_⟩
    · rw [lookup_putF, if_neg (by decide +kernel)]
      exact F.parts
    · rw [lookup_putF, if_pos rfl]
    · rw [putF_old F.link]
      exact F.few
end
end My

set_option Elab.async false
set_option maxRecDepth 100000
set_option maxHeartbeats 4000000
set_option linter.all false
/-! {whole number for .. in .. for .. in ..}; del xs[k:]. -/
namespace My
open PySem PySem.Spec PyProof.Rows L2 PpSet
abbrev two (t0 i0 t1 i1 : Expr) : List Comprehension := [⟨t0, i0, [], 0⟩, ⟨t1, i1, [], 0⟩]
theorem turn2S_out (elt t0 i0 t1 i1 : Expr) (scope : Scope) (pos : Pos) (it acc : Value) (env : Env) :
    compTurn (.SetComp elt (two t0 i0 t1 i1) scope pos) 0 it acc env = (do
      standAt i0.pos
      match ← pyNext it with
      | none => pure (.done .next)
      | some v =>
        letOwnedTupleGo t0 it v
        assign t0 env v
        let mut ok := true
        for c in ([] : List Expr) do
          if ok then ok ← isTrue c env (eval c env)
        if ok then
          let x ← eval i1 env
          standAt i1.pos
          let x ← foldedSetIterable i1 env x
          let _ ← runOwn (.compStart (.SetComp elt (two t0 i0 t1 i1) scope pos) 1 (← holding [x] (pyIter x)) acc env) env
        again (.compLoop (.SetComp elt (two t0 i0 t1 i1) scope pos) 0 it acc env)) := by rfl
theorem turn2S_in (elt t0 i0 t1 i1 : Expr) (scope : Scope) (pos : Pos) (it acc : Value) (env : Env) :
    compTurn (.SetComp elt (two t0 i0 t1 i1) scope pos) 1 it acc env = (do
      standAt i1.pos
      match ← pyNext it with
      | none => pure (.done .next)
      | some v =>
        letOwnedTupleGo t1 it v
        assign t1 env v
        let mut ok := true
        for c in ([] : List Expr) do
          if ok then ok ← isTrue c env (eval c env)
        if ok then
          (do let v ← eval elt env; standAt elt.pos; let _ ← call (.builtin "set.add") [acc, v])
        again (.compLoop (.SetComp elt (two t0 i0 t1 i1) scope pos) 1 it acc env)) := by rfl
section
variable {prog : Program} {w : World} {A : Around} {R : Result → Shared → Prop} {s : Shared} {elt t0 i0 t1 i1 : Expr} {scope : Scope} {pos : Pos} {it acc : Value} {env : Env}
theorem loop2S_out (hs : ∀ x, foldedSetIterable i1 env x = pure x) (I : Nat → Shared → Prop)
    (turn : ∀ n s, I n s → wpAny (model prog w) A (pyNext it) (fun r s₁ => match r with
      | none => R (.ok .next) s₁
      | some v => wpAny (model prog w) A (letOwnedTupleGo t0 it v) (fun _ s₁' => wpAny (model prog w) A (assign t0 env v) (fun _ s₃ =>
            wpAny (model prog w) A (eval i1 env) (fun x s₄ => wpAny (model prog w) A (pyIter x) (fun it1 s₅ =>
              codeAny (model prog w) A (.compStart (.SetComp elt (two t0 i0 t1 i1) scope pos) 1 it1 acc env) (fun r s' => match r with
                | .ok _ => ∃ m, m < n ∧ I m s'
                | .error _ => False) s₅) (notedBy (model prog w) A env fun e s' => R (.error e) s') s₄) (notedBy (model prog w) A env fun e s' => R (.error e) s') s₃) (notedBy (model prog w) A env fun e s' => R (.error e) s') s₁') (notedBy (model prog w) A env fun e s' => R (.error e) s') s₁) (notedBy (model prog w) A env fun e s' => R (.error e) s') s)
    (n : Nat) (h : I n s) : codeAny (model prog w) A (.compLoop (.SetComp elt (two t0 i0 t1 i1) scope pos) 0 it acc env) R s := by
  refine codeAny_loop rfl I (fun n s hI => ?_) n h
  show wpAny _ A ((compTurn (.SetComp elt (two t0 i0 t1 i1) scope pos) 0 it acc env).onRaise (fun x => do noteFrame x env; theTreesLotGoes x)) _ _ s
  refine wpAny_noted ?_
  rw [turn2S_out]
  refine wpAny_bind (wpAny_standAt (wpAny_bind (wpAny_mono (turn n s hI) (fun r s₁ h₁ => ?_) fun _ _ h' => h')))
  cases r with
  | none => exact wpAny_pure h₁
  | some v =>
    refine wpAny_bind (wpAny_mono h₁ (fun _ s₁' h₁' => ?_) fun _ _ h' => h')
    refine wpAny_bind (wpAny_mono h₁' (fun _ s₂ h₃ => wpAny_bind (wpAny_pure ?_)) fun _ _ h' => h')
    refine wpAny_bind (wpAny_mono h₃ (fun x s₄ h₄ => ?_) fun _ _ h' => h')
    refine wpAny_bind (wpAny_standAt (wpAny_bind (wpAny_of_eq (hs x) (wpAny_bind (wpAny_holding (wpAny_mono h₄ (fun it1 s₅ h₅ => ?_) fun _ _ h' => h'))))))
    refine wpAny_bind (wpAny_runOwn ?_)
    rw [Around.mark_none]
    refine codeAny_mono h₅ fun r s' hr => ?_
    cases r with
    | ok f => first | exact wpAny_pure ⟨rfl, hr⟩ | exact wpAny_bind (wpAny_pure (wpAny_pure ⟨rfl, hr⟩))
    | error e => exact hr.elim
theorem loop2S_in (I : Nat → Shared → Prop)
    (turn : ∀ n s, I n s → wpAny (model prog w) A (pyNext it) (fun r s₁ => match r with
      | none => R (.ok .next) s₁
      | some v => wpAny (model prog w) A (letOwnedTupleGo t1 it v) (fun _ s₁' => wpAny (model prog w) A (assign t1 env v) (fun _ s₃ =>
            wpAny (model prog w) A (eval elt env) (fun x s₄ =>
              wpAny (model prog w) A (call (.builtin "set.add") [acc, x]) (fun _ s₅ => ∃ m, m < n ∧ I m s₅) (notedBy (model prog w) A env fun e s' => R (.error e) s') s₄) (notedBy (model prog w) A env fun e s' => R (.error e) s') s₃) (notedBy (model prog w) A env fun e s' => R (.error e) s') s₁') (notedBy (model prog w) A env fun e s' => R (.error e) s') s₁) (notedBy (model prog w) A env fun e s' => R (.error e) s') s)
    (n : Nat) (h : I n s) : codeAny (model prog w) A (.compLoop (.SetComp elt (two t0 i0 t1 i1) scope pos) 1 it acc env) R s := by
  refine codeAny_loop rfl I (fun n s hI => ?_) n h
  show wpAny _ A ((compTurn (.SetComp elt (two t0 i0 t1 i1) scope pos) 1 it acc env).onRaise (fun x => do noteFrame x env; theTreesLotGoes x)) _ _ s
  refine wpAny_noted ?_
  rw [turn2S_in]
  refine wpAny_bind (wpAny_standAt (wpAny_bind (wpAny_mono (turn n s hI) (fun r s₁ h₁ => ?_) fun _ _ h' => h')))
  cases r with
  | none => exact wpAny_pure h₁
  | some v =>
    refine wpAny_bind (wpAny_mono h₁ (fun _ s₁' h₁' => ?_) fun _ _ h' => h')
    refine wpAny_bind (wpAny_mono h₁' (fun _ s₂ h₃ => wpAny_bind (wpAny_pure ?_)) fun _ _ h' => h')
    exact wpAny_bind (wpAny_bind (wpAny_mono h₃ (fun x s₄ h₄ => wpAny_bind (wpAny_standAt (wpAny_bind (wpAny_mono h₄ (fun _ s₅ h₅ => wpAny_pure (wpAny_pure ⟨rfl, h₅⟩)) fun _ _ h' => h')))) fun _ _ h' => h'))
theorem start1S (h0 : codeAny (model prog w) A (.compLoop (.SetComp elt (two t0 i0 t1 i1) scope pos) 1 it acc env) R s)
    (h : wpAny (model prog w) A (pyIter it) (fun it' s' => codeAny (model prog w) A (.compLoop (.SetComp elt (two t0 i0 t1 i1) scope pos) 1 it' acc env) R s')
      (notedBy (model prog w) A env fun x s' => R (.error x) s') s) : codeAny (model prog w) A (.compStart (.SetComp elt (two t0 i0 t1 i1) scope pos) 1 it acc env) R s := by
  refine codeAny_of_tree ?_
  show wpAny _ _ ((compStart (.SetComp elt (two t0 i0 t1 i1) scope pos) 1 it acc env).onRaise (fun x => do noteFrame x env; standAt theWindowsPlace)) _ _ s
  refine wpAny_notedAt ?_
  unfold compStart
  show wpAny _ _ (ask >>= _) _ _ s
  refine wpAny_bind (wpAny_askSetting (wpAny_ite ?_))
  split
  · first | exact wpAny_bind (wpAny_pure (wpAny_pure (And.intro rfl h0))) | exact wpAny_pure (And.intro rfl h0)
  · first
    | exact wpAny_bind (wpAny_rule (wpAny_bind (wpAny_standAt (wpAny_bind (wpAny_mono h (fun it' s' h' => wpAny_pure (And.intro rfl h')) fun _ _ x => x)))))
    | (refine wpAny_bind (wpAny_rule ?_); show wpAny _ _ (standAt i1.pos >>= _) _ _ s; exact wpAny_bind (wpAny_standAt (wpAny_bind (wpAny_mono h (fun it' s' h' => wpAny_pure (And.intro rfl h')) fun _ _ x => x))))
end
section
variable {X : Cx}
/-- {elt for tg in iter for tg1 in iter1}, elt a whole number -/
def tSc2 (w : World) (wi : TI) (g : TG) (wi1 : TI) (g1 : TG) (te : TE) (vs vs1 : List Nat) : TE := fun σ H Q => wi σ H fun J H1 => ∀ D, H1 D = none → ∃ W : Nat → Nat → Hp → Prop, (∃ m, W 0 m (upd H1 D (SetO w D (fun _ => false) 0))) ∧ ∀ i m H, W i m H →
  (J.stop i H ∧ Q (.ref D) H) ∨ (J.go i H ∧ ∃ Nx : Hp → Prop, (∀ H', Nx H' → ∃ m', m' < m ∧ W (i + 1) m' H') ∧ ∀ x H', J.yld i H x H' → g x (wipe σ vs) H' fun σ2 H3 => wipe σ2 vs = wipe σ vs ∧
    wi1 σ2 H3 fun J1 H4 => ∃ W1 : Nat → Nat → Hp → Prop, (∃ m, W1 0 m H4) ∧ ∀ j k H, W1 j k H →
      (J1.stop j H ∧ Nx H) ∨ (J1.go j H ∧ ∃ Nx1 : Hp → Prop, (∀ H', Nx1 H' → ∃ k', k' < k ∧ W1 (j + 1) k' H') ∧ ∀ x H', J1.yld j H x H' → g1 x (wipe σ2 vs1) H' fun σ3 H6 => wipe σ3 vs1 = wipe σ2 vs1 ∧
        te σ3 H6 fun y H7 => ∃ (z : Int) (S : Int → Bool) (n : Nat), y = .int z ∧ H7 D = some (SetO w D S n) ∧ n + 1 < scanBound ∧ Nx1 (upd H7 D (SetO w D (fun j => S j || decide (j = z)) (if S z = true then n else n + 1)))))
theorem pe_sc2 {elt tg iter tg1 iter1 : Expr} {scope : Scope} {own : List (Str × Nat)} {vs1 : List Nat} {pos : Pos} {wi wi1 : TI} {g g1 : TG} {te : TE} (hc : X.calm = true) (hN : X.N.Nodup) (hi : PI X tg iter wi) (ok : BlkOk X.N X.env.scope scope own) (hv : ∀ i ∈ vs1, i ∈ own.map (·.2))
    (hg : ∀ (s : Shared) (H : Hp) (C : Addr) (cl : List (Str × Addr)) (fp : List Addr), PG (X.blk s H scope (compEnvC scope cl C X.env) fp) tg g)
    (hi1 : ∀ (s : Shared) (H : Hp) (C : Addr) (cl : List (Str × Addr)) (fp : List Addr), PI (X.blk s H scope (compEnvC scope cl C X.env) fp) tg1 iter1 wi1)
    (hg1 : ∀ (s : Shared) (H : Hp) (C : Addr) (cl : List (Str × Addr)) (fp : List Addr), PG (X.blk s H scope (compEnvC scope cl C X.env) fp) tg1 g1)
    (he : ∀ (s : Shared) (H : Hp) (C : Addr) (cl : List (Str × Addr)) (fp : List Addr), PE (X.blk s H scope (compEnvC scope cl C X.env) fp) elt te) (hs : ∀ x, foldedSetIterable iter X.env x = pure x := by intro _; rfl) (hs1 : ∀ env x, foldedSetIterable iter1 env x = pure x := by intro _ _; rfl) :
    PE X (.SetComp elt (two tg iter tg1 iter1) scope pos) (tSc2 X.w wi g wi1 g1 te (own.map (·.2)) vs1) := by
  refine ⟨fun pins s σ H Q I h => ?_⟩
  rw [eval_SetComp]
  have hfree : ∀ y ∈ scope.names, y.2 = .free → ∃ c, X.env.cells.lookup y.1 = some c := fun y hy e => (ok.free y hy e).elim (fun k => I.ok.has _ (.inl k)) fun k => I.ok.has _ (.inr k)
  refine wpAny_comprehension_free (use := none) rfl hs (closure_ok hfree) ok.kind (fun y hy e => by rw [ok.uniq y hy, e]) (thn (hi.run pins s σ H _ I h) fun xv s1 hx => thn hx fun itv s2 ⟨it, fp, tn, J, H2, e, I2, T, st2, f2, q⟩ => ?_)
  subst e
  refine newSet_ok (newEnv_comp ?_)
  generalize hD : s2.heap.objs.size = D
  have hDn : H2 D = none := I2.hok.fresh (Nat.le_of_eq hD)
  obtain ⟨W, ⟨m0, w0⟩, turn⟩ := q D hDn
  generalize hs3 : ({ s2 with heap := s2.heap.push { cls := .type "set", dict := none, data := .set #[] 0 (.fresh 0 0 (!X.w.params.followText "set-order")) } } : Shared) = s3
  have I3 : Inv X pins σ (upd H2 D (SetO X.w D (fun _ => false) 0)) s3 := by
    rw [← hs3]
    refine I2.laid (t' := s2.toks) (fun b o e => Heap.get?_push_of_some _ e) (Nat.le_of_eq hD) ?_
    rw [← hD]
    exact setO_new (setR_fresh X.w)
  have h3 : s3.heap = s2.heap.push { cls := .type "set", dict := none, data := .set #[] 0 (.fresh 0 0 (!X.w.params.followText "set-order")) } := by rw [← hs3]
  have f3 : ∀ b ∈ fp, FpOk X pins (upd H2 D (SetO X.w D (fun _ => false) 0)) b ∧ b < s3.heap.objs.size := fun b hb => by
    obtain ⟨o, e, _⟩ := T.obj _ _ st2 b hb
    have hlt := Heap.lt_size e
    refine ⟨⟨?_, (f2 b hb).2⟩, by rw [h3, Heap.size_push]; exact Nat.lt_succ_of_lt hlt⟩
    rw [upd_ne (by rw [← hD]; exact Nat.ne_of_lt hlt)]
    exact (f2 b hb).1
  have st3 : tn 0 s3.heap := T.keep _ _ _ st2 fun b _ o e => by rw [h3]; exact Heap.get?_push_of_some _ e
  have I4 := block_start I3 ok hN f3
  have pg := hg s3 (upd H2 D (SetO X.w D (fun _ => false) 0)) s3.heap.objs.size (cellsFrom (s3.heap.objs.size + 1) scope.names (cloFrom X.env.cells scope.names [])) fp
  have pe := he s3 (upd H2 D (SetO X.w D (fun _ => false) 0)) s3.heap.objs.size (cellsFrom (s3.heap.objs.size + 1) scope.names (cloFrom X.env.cells scope.names [])) fp
  have pi1 := hi1 s3 (upd H2 D (SetO X.w D (fun _ => false) 0)) s3.heap.objs.size (cellsFrom (s3.heap.objs.size + 1) scope.names (cloFrom X.env.cells scope.names [])) fp
  have pg1 := hg1 s3 (upd H2 D (SetO X.w D (fun _ => false) 0)) s3.heap.objs.size (cellsFrom (s3.heap.objs.size + 1) scope.names (cloFrom X.env.cells scope.names [])) fp
  show codeAny _ _ (.compStart (.SetComp elt (two tg iter tg1 iter1) scope pos) 0 (.ref it) (.ref D) (compEnvC scope (cellsFrom (s3.heap.objs.size + 1) scope.names (cloFrom X.env.cells scope.names [])) s3.heap.objs.size X.env)) (compPost (model X.prog X.w) X.A X.xe none _ (.ref D) s3.heap.objs.size) { s3 with heap := pushCells (s3.heap.push { cls := .type "dict", data := .dict #[] }) scope.names }
  have nfp : ∀ b ∈ fp, (upd H2 D (SetO X.w D (fun _ => false) 0)) b = none := fun b hb => (f3 b hb).1.1
  generalize hce : compEnvC scope (cellsFrom (s3.heap.objs.size + 1) scope.names (cloFrom X.env.cells scope.names [])) s3.heap.objs.size X.env = ce at I4 pg pe pi1 pg1 ⊢
  have cL : ce.locals = s3.heap.objs.size := by subst hce; rfl
  generalize hH3 : upd H2 D (SetO X.w D (fun _ => false) 0) = H3 at I3 I4 pg pe pi1 pg1 w0 nfp f3
  generalize hs4 : ({ s3 with heap := pushCells (s3.heap.push { cls := .type "dict", data := .dict #[] }) scope.names } : Shared) = s4 at I4 ⊢
  have st4 : tn 0 s4.heap := T.keep _ _ _ st3 fun b _ o e => by rw [← hs4]; exact pushCells_keeps _ _ _ _ (Heap.get?_push_of_some _ e)
  have stat : ∀ {σ' : L2.St} {H' : Hp} {s' : Shared}, Inv (X.blk s3 H3 scope ce fp) [] σ' H' s' → (∀ b ∈ fp, H' b = none) → ∀ b ∈ fp, FpOk (X.blk s3 H3 scope ce fp) [] H' b := fun {σ' H' s'} I' hn b hb =>
    ⟨hn b hb, (I'.ok.exf b hb).1, I'.ok.exfs b hb, .inl hb, fun x c e => (I'.ok.exf b hb).2 x c e, fun p hp => absurd (show p ∈ ([] : List (Addr × Obj)) ++ [] from hp) (by simp)⟩
  refine codeAny_compStart_set ?loop (T.self X.A 0 _ _ _ st4 ?loop)
  refine loop2S_out (hs1 ce) (fun n s' => ∃ i H', Inv (X.blk s3 H3 scope ce fp) [] (wipe σ (own.map (·.2))) H' s' ∧ tn i s'.heap ∧ (∀ b ∈ fp, H' b = none) ∧ W i n H') ?_ m0 ⟨0, H3, I4, st4, nfp, w0⟩
  rintro n s5 ⟨i, H5, I5, st5, n5, w5⟩
  rcases turn i n H5 w5 with ⟨stop, qq⟩ | ⟨go, Nx, hNx, step⟩
  · refine thnF (T.done (X.blk s3 H3 scope ce fp) rfl rfl rfl hc i [] s5 _ H5 (fun _ _ => False) I5 (stat I5 n5) st5 stop) fun r s6 ⟨hr, I6⟩ => ?_
    subst hr
    have I7 : Inv X pins σ H5 s6 := I3.call' (ch := fp) I6.os I6.base I6.hok I6.bare fun b hb => ⟨(f3 b hb).1.2.2.2.1, (f3 b hb).1.2.1, (f3 b hb).1.2.2.2.2.1, (f3 b hb).1.2.2.2.2.2⟩
    have nC : H5 s3.heap.objs.size = none := by
      rw [← cL]
      exact I6.free
    obtain ⟨m, hn, _⟩ := I6.loc
    have hn : s6.heap.Ns ce.locals m := hn
    rw [cL] at hn
    obtain ⟨f0, f1, f2', f3', f4, f5⟩ := I3.fpOk (Nat.le_refl _) nC
    refine ⟨m, hn, fun h'' sb => ?_⟩
    exact ⟨.ref D, H5, I7.turned (t' := s6.toks) (fun b o hb e => (sb.2 b hb).trans e) f0 f1 f3' f4 f5, rfl, qq⟩
  · refine thnF (T.item (X.blk s3 H3 scope ce fp) rfl rfl rfl hc i [] s5 _ H5 (fun _ _ => False) I5 (stat I5 n5) st5 go) fun r s6 ⟨u, hr, h6⟩ => ?_
    subst hr
    refine thnF h6 fun _ s7 ⟨x, H7, I7, r7, y7, st7, n7⟩ => ?_
    have I7' := I7.pinned (stat I7 n7) (T.obj _ _ st7)
    refine thnF (pg.run _ s7 _ H7 x u _ I7' r7 (step x H7 y7)) fun _ s8 ⟨σ8, H8, I8, hw8, q9⟩ => ?_
    have fin : ∀ {σ9 : L2.St} {s' : Shared} {H' : Hp}, Inv (X.blk s3 H3 scope ce fp) ([] ++ pinsAt fp s7.heap) σ9 H' s' → (wipe σ (own.map (·.2))).length = σ9.length → (∀ (j : Nat) v, (wipe σ (own.map (·.2)))[j]? = some (some v) → σ9[j]? = some (some v)) → Nx H' →
        ∃ m, m < n ∧ ∃ i H', Inv (X.blk s3 H3 scope ce fp) [] (wipe σ (own.map (·.2))) H' s' ∧ tn i s'.heap ∧ (∀ b ∈ fp, H' b = none) ∧ W i m H' := fun {σ9 s' H'} I' hl hk nx => by
      obtain ⟨m', hm, w'⟩ := hNx H' nx
      have pin' : ∀ b ∈ fp, ∀ o, s7.heap.get? b = some o → s'.heap.get? b = some o ∧ H' b = none := fun b hb o e =>
        ⟨(I'.pin (b, o) (List.mem_append_right _ (List.mem_append_right _ (mem_pinsAt hb e)))).1, (I'.pin (b, o) (List.mem_append_right _ (List.mem_append_right _ (mem_pinsAt hb e)))).2.1⟩
      refine ⟨m', hm, i + 1, H', (I'.unpinned (pins := [])).weak hl hk, T.keep _ _ _ st7 fun b hb o e => (pin' b hb o e).1, fun b hb => ?_, w'⟩
      obtain ⟨o, e, _⟩ := T.obj _ _ st7 b hb
      exact (pin' b hb o e).2
    have hl8 : (wipe σ (own.map (·.2))).length = σ8.length := by rw [← hw8, wipe_length]
    have hk9 : ∀ (j : Nat) v, (wipe σ (own.map (·.2)))[j]? = some (some v) → (wipe σ8 vs1)[j]? = some (some v) := fun j v e => by
      rw [← hw8] at e
      obtain ⟨e1, e2⟩ := wipe_some e
      rw [wipe_out fun z => e2 (hv j z)]
      exact e1
    refine thnF (pi1.run _ s8 σ8 H8 _ I8 q9) fun xv s10 hx => thnF hx fun itv s11 h11 => ?_
    obtain ⟨it1, fp1, tn1, J1, H11, e1, I11, T1, st11, f11, W1, ⟨m1, w1⟩, turn1⟩ := h11
    subst e1
    have stat1 : ∀ {H' : Hp}, (∀ b ∈ fp1, H' b = none) → ∀ b ∈ fp1, FpOk (X.blk s3 H3 scope ce fp) ([] ++ pinsAt fp s7.heap) H' b := fun hn b hb => ⟨hn b hb, (f11 b hb).2⟩
    refine start1S ?lp (T1.self X.A 0 _ _ _ st11 ?lp)
    refine loop2S_in (fun k s' => ∃ j H', Inv (X.blk s3 H3 scope ce fp) ([] ++ pinsAt fp s7.heap) (wipe σ8 vs1) H' s' ∧ tn1 j s'.heap ∧ (∀ b ∈ fp1, H' b = none) ∧ W1 j k H') ?_ m1 ⟨0, H11, I11.weak (wipe_length _ _) (fun j v e => (wipe_some e).1), st11, fun b hb => (f11 b hb).1, w1⟩
    rintro k s12 ⟨j, H12, I12, st12, n12, w12⟩
    rcases turn1 j k H12 w12 with ⟨stop1, nx1⟩ | ⟨go1, Nx1, hNx1, step1⟩
    · refine thnF (T1.done (X.blk s3 H3 scope ce fp) rfl rfl rfl hc j _ s12 (wipe σ8 vs1) H12 (fun _ _ => False) I12 (stat1 n12) st12 stop1) fun r s13 ⟨hr, I13⟩ => ?_
      subst hr
      exact fin I13 (hl8.trans (wipe_length σ8 vs1).symm) hk9 nx1
    · refine thnF (T1.item (X.blk s3 H3 scope ce fp) rfl rfl rfl hc j _ s12 (wipe σ8 vs1) H12 (fun _ _ => False) I12 (stat1 n12) st12 go1) fun r s13 ⟨u1, hr, h13⟩ => ?_
      subst hr
      refine thnF h13 fun _ s14 ⟨x1, H14, I14, r14, y14, st14, n14⟩ => ?_
      have I14' := I14.pinned (stat1 n14) (T1.obj _ _ st14)
      refine thnF (pg1.run _ s14 (wipe σ8 vs1) H14 x1 u1 _ I14' r14 (step1 x1 H14 y14)) fun _ s15 ⟨σ15, H15, I15, hw15, q16⟩ => ?_
      refine thnF (pe.run _ s15 σ15 H15 _ I15 q16) fun z s17 ⟨yv, H17, I17, r17, zi, S0, n0, ey, hD17, hz17, nx⟩ => ?_
      subst ey
      obtain ⟨tk, rfl⟩ := (show ∃ t, z = Value.int zi t from r17)
      refine setR_add (setO_get (X := X.blk s3 H3 scope ce fp) I17 hD17) hz17 fun h' sb new => ?_
      have he' : ∃ u, h'.get? D = some u := by
        have ⟨o, _, _, _, ho, _⟩ := new
        exact ⟨o, ho⟩
      have I18 := I17.write (e := D) (t' := s17.toks + 1) (by rw [hD17]; trivial) (.inl rfl) (fun b u hb hu => (sb.2 b hb).trans hu) he' (setO_new new)
      obtain ⟨m', hm, w'⟩ := hNx1 _ nx
      have pin' : ∀ b ∈ fp1, ∀ o, s14.heap.get? b = some o → h'.get? b = some o ∧ (upd H17 D (SetO X.w D (fun j => S0 j || decide (j = zi)) (if S0 zi = true then n0 else n0 + 1))) b = none := fun b hb o e =>
        ⟨(I18.pin (b, o) (List.mem_append_right _ (List.mem_append_right _ (mem_pinsAt hb e)))).1, (I18.pin (b, o) (List.mem_append_right _ (List.mem_append_right _ (mem_pinsAt hb e)))).2.1⟩
      refine ⟨m', hm, j + 1, _, I18.unpinned.weak (by rw [← hw15, wipe_length]) (fun j v e => by rw [← hw15] at e; exact (wipe_some e).1), T1.keep _ _ _ st14 fun b hb o e => (pin' b hb o e).1, fun b hb => ?_, w'⟩
      obtain ⟨o, e, _⟩ := T1.obj _ _ st14 b hb
      exact (pin' b hb o e).2
end
end My

set_option Elab.async false
set_option maxRecDepth 100000
set_option maxHeartbeats 4000000
set_option linter.all false
/-! del xs[k:]. -/
namespace My
open PySem PySem.Spec PyProof.Rows L2
theorem keep_take {sel : Int → Int → Int → Nat → Bool} (hs : ∀ (a b : Int) (i : Nat), sel a b 1 i = ((decide (a ≤ (i : Int)) && decide ((i : Int) < b)) && (((i : Int) - a) % 1 == 0))) (its : List Value) (a n : Nat) (hn : n = its.length) :
    its.zipIdx.filterMap (fun (x, k) => if sel (a : Int) (n : Int) 1 k = true then none else some x) = its.take a := by
  have key : ∀ (l : List Value) (o : Nat), o + l.length ≤ n → (l.zipIdx o).filterMap (fun (x, k) => if sel (a : Int) (n : Int) 1 k = true then none else some x) = l.take (a - o) := by
    intro l
    induction l with
    | nil => intro o _; simp
    | cons x l ih =>
      intro o ho
      rw [List.length_cons] at ho
      rw [List.zipIdx_cons, List.filterMap_cons]
      have e : sel (a : Int) (n : Int) 1 o = decide (a ≤ o) := by
        rw [hs, Int.emod_one, show decide ((o : Int) < (n : Int)) = true from decide_eq_true (by omega)]
        simp
      dsimp only
      rw [e]
      by_cases h : a ≤ o
      · rw [if_pos (decide_eq_true h)]
        dsimp only
        rw [ih (o + 1) (by omega), show a - (o + 1) = 0 by omega, show a - o = 0 by omega]
        rfl
      · rw [if_neg (by simpa using h)]
        dsimp only
        rw [ih (o + 1) (by omega), show a - o = (a - (o + 1)) + 1 by omega, List.take_succ_cons]
  have := key its 0 (by omega)
  rw [Nat.sub_zero] at this
  exact this
theorem bounds_from {a n : Nat} (h : a ≤ n) : sliceBounds (some (a : Int)) none none n = ((a : Int), (n : Int), 1) := by
  simp only [sliceBounds, Option.getD_none]
  have h1 : ¬ ((a : Int) < 0) := by omega
  simp only [h1, if_false, show (1 : Int) > 0 by decide, if_true]
  congr 1
  omega
section
variable {prog : Program} {w : World} {A : Around} {E : Value → Shared → Prop} {s : Shared}
set_option maxRecDepth 100000 in
theorem del_from {l sl : Addr} {items : Array Value} {n : Nat} {vl : Value} {a : Nat} {Q : Unit → Shared → Prop}
    (e : s.heap.get? l = some { cls := .type "list", data := .seq items n }) (hs : s.heap.IsSliceOf sl vl .none .none) (pl : IsPart vl (some (a : Int))) (ha : a ≤ items.size) (hsz : items.size ≤ sizeLine)
    (h : ∀ f : Array Value → Array Value, f items = (items.toList.take a).toArray → Q () { s with heap := s.heap.update l (Obj.mapSeq f) }) : wpAny (model prog w) A (delItem (.ref l) (.ref sl)) Q E s := by
  have hl : s.heap.IsList l items := PySem.IsL.isList e
  obtain ⟨os, hos, hcs, hds⟩ := id hs
  have hTs : s.TypeIs (.ref sl) "slice" := ⟨os, hos, hcs⟩
  have hstep : ¬ ((rawPart none == rawInt 0) = true) := Bool.false_ne_true
  refine wpAny_delItem_slot hl.typeIs (by decide) F.slot_list_delitem (wpAny_call_entry F.slot_list_delitem hl.typeIs F.entry_list_delitem ?_ (F.args_list_delitem_2 _ _))
  show wpAny _ _ (Builtin.List.listSubscript? (.ref sl) >>= _) _ _ s
  refine wpAny_bind ?_
  unfold Builtin.List.listSubscript?
  refine wpAny_bind (wpAny_specialOf hTs slice_no_index ?_)
  simp only [Option.isNone_none, if_true]
  refine wpAny_pure ?_
  show wpAny _ _ (typeOf (.ref sl) >>= _) _ _ s
  refine wpAny_bind (wpAny_typeOf hTs ?_)
  first
    | rw [if_neg (by decide)]
    | refine PySem.W.KFB.if_not (by decide) ?_
  rw [listSliceParts_eq]
  refine wpAny_bind (wpAny_bind (wpAny_field hos hds (x := .none) rfl (wpAny_bind (wpAny_listPart .none ?_))))
  rw [if_neg hstep]
  refine wpAny_bind (wpAny_field hos hds (x := vl) rfl (wpAny_bind (wpAny_listPart pl ?_)))
  refine wpAny_bind (wpAny_field hos hds (x := .none) rfl (wpAny_bind (wpAny_listPart .none (wpAny_pure ?_))))
  unfold Builtin.List.listItems
  refine wpAny_bind (wpAny_bind (wpAny_seqItems e rfl (wpAny_pure ?_)))
  refine wpAny_bind (wpAny_of_eq ((sliceIndices_raw (some (a : Int)) none none items.size (by simp)).trans (congrArg (pure : Int × Int × Int → Sem (Int × Int × Int)) (bounds_from ha))) ?_)
  refine wpAny_bind (wpAny_rule ?_)
  refine wpAny_bind (wpAny_updateSeq (hz := hsz) (_hz' := ?sz) e rfl ?_)
  case sz =>
    refine Nat.le_trans ?_ (Nat.le_succ_of_le hsz)
    rw [List.size_toArray]
    exact Nat.le_trans (List.length_filterMap_le _ _) (by rw [List.length_zipIdx, Array.length_toList]; exact Nat.le_refl _)
  refine wpAny_bind (wpAny_letGo ?_)
  exact wpAny_pure ⟨_, rfl, h _ (congrArg List.toArray (keep_take (fun _ _ _ => rfl) items.toList a items.size (by rw [Array.length_toList])))⟩
end
section
variable {X : Cx}
/-- del xs[k:] of a list -/
def tDelSl (to tl : TE) : TS := fun D σ H => to σ H fun x H1 => tl σ H1 fun y H2 => ∃ (l : Addr) (xs : List V) (k : Nat), x = .ref l ∧ y = .int k ∧ H2 l = some (.lst xs) ∧ k ≤ xs.length ∧ D.nx σ (upd H2 l (.lst (xs.take k)))
theorem ps_delSl {o lo : Expr} {to tl : TE} {tpos p2 pos : Pos} (ho : PE X o to) (hl : PE X lo tl) : PS X (.Delete [.Subscript o (.Slice (some lo) none none p2) tpos] pos) (tDelSl to tl) := by
  refine ⟨fun pins s σ H D I h => ?_⟩
  refine wpAny_Delete (wpAny_deleteEach_cons (wpAny_delete_Subscript (thn (ho.run pins s σ H _ I h) fun u s1 ⟨x, H1, I1, rx, q1⟩ => ?_)))
  refine wpAny_Slice (thn (hl.run pins s1 σ H1 _ I1 q1) fun vl s2 ⟨y, H2, I2, ry, q2⟩ => ?_)
  obtain ⟨l, xs, k, ex, ey, hH, hk, q2⟩ := q2
  subst ex
  subst ey
  cases (show u = Value.ref l from rx)
  obtain ⟨t, rfl⟩ := (show ∃ t, vl = Value.int k t from ry)
  rw [evalPart_none]
  refine wpAny_pure ?_
  refine wpAny_pure ?_
  have I3 : Inv X pins σ H2 { s2 with heap := s2.heap.push { cls := .type "slice", data := .fields #[.int k t, .none, .none] } } := I2.kept (t' := s2.toks) fun b ob q => Heap.get?_push_of_some _ q
  obtain ⟨z, its, n, r, hl', e⟩ := I3.lstM hH
  refine del_from (s := { s2 with heap := s2.heap.push { cls := .type "slice", data := .fields #[.int k t, .none, .none] } }) (a := k) e (Heap.IsSliceOf.new ..) (.int _ _) (by rw [List.size_toArray]; omega) (by rw [List.size_toArray]; omega) fun f hf => ?_
  have I4 := I3.lset (its' := its.take k) (t' := s2.toks) hH e hf (r.take k) (by rw [List.length_take]; omega)
  exact wpAny_deleteEach_nil ⟨σ, _, I4, q2⟩
end
end My

set_option Elab.async false
set_option maxRecDepth 100000
set_option maxHeartbeats 4000000
set_option linter.all false
namespace My
open PySem L2 PyProof.Rows
open C8 (pss_cut)
/-- the class, no class of it has one of the fields -/
structure UK (K : PySem.W.Frag) (C : Addr) : Prop where
  cls : L2.Cls K C
  no : ∀ d, L2.NoAttr K C (fname d)
structure DefM (K : PySem.W.Frag) (C : Addr) (x qx : Str) (ps : List Str) (st : Stmt) (f : Addr) (fd : FuncData) : Prop where
  fn : Fun K x qx st f fd
  bd : Binds K fd ps []
  me : Meth K C x f
def OwnM (P : Program) (w : World) (K : PySem.W.Frag) (mg : Str → Option Value) (base : Heap) (C : Addr) (x : Str) (ps : List Str) (k : Nat) (sp : Sp) : Prop :=
  ∃ (f : Addr) (fd : FuncData), Meth K C x f ∧ Binds K fd ps [] ∧ FnOk P w K mg base CX0 k f fd ps sp
def ConI (mg : Str → Option Value) (x : Str) (i : Int) : Prop := ∃ t, mg x = some (.int i t)
section
variable {K : PySem.W.Frag} {Cu Cr : Addr} {H : Hp} {ad : Rl → Addr} {u : US}
theorem UAt.fs (A : UAt K Cu Cr H ad u) : ∃ dx fs, H (ad .p) = some (.ins Cu dx fs) ∧ UF ad u fs := A.all .p True.intro
end
/-- give(x, cause) -/
def spGive (K : PySem.W.Frag) (Cu Cr : Addr) : Sp := fun vs H Q _ => ∃ (ad : Rl → Addr) (u : US) (x : Nat) (c : V), vs = [.ref (ad .p), nat x, c] ∧ UAt K Cu Cr H ad u ∧ x < 2 * u.n ∧ u.st.length = 2 * u.n ∧ u.cs.length = u.n ∧ u.ls.length = u.n ∧ u.n ≤ 200000 ∧ u.trail.length ≤ 400000 ∧
  ∀ H', UAt K Cu Cr H' ad (u.give x c) → Chg R4 ad H H' → Q .non H'
section
variable {P : Program} {w : World} {K : PySem.W.Frag} {mg : Str → Option Value} {base : Heap} {f Cu Cr : Addr} {fd : FuncData}
theorem ok_give (T : Txt K mg) (PK : UK K Cu) (C1 : ConI mg "TRUE" 1) (C0 : ConI mg "FALSE" 0) (D : DefM K Cu "give" "Units.give" ["self", "x", "cause"] s_Units_give f fd) : OwnM P w K mg base Cu "give" ["self", "x", "cause"] 1 (spGive K Cu Cr) := by
  obtain ⟨t_TRUE, c_TRUE⟩ := C1
  obtain ⟨t_FALSE, c_FALSE⟩ := C0
  refine ⟨f, fd, D.me, D.bd, D.fn.ok sc_Units_give (fun vs H Q E h => ?_) (fun cdv A outer s H vs Q E hr h => ?_)⟩
  · obtain ⟨ad, u, x, c, rfl, _⟩ := h
    rfl
  · obtain ⟨ad, u, x, c, rfl, A0, hx, hst, hcs, hls, hn, ht, q⟩ := h
    refine ⟨_, (pss_cons (ps_asg (pe_glob (v := .int 1) (u := .int 1 t_TRUE) (by rfl) c_TRUE ⟨t_TRUE, rfl⟩) (pg_sub (pe_fld (pv 0) (by rfl)) (pv 1) set_list))
      (pss_cons (ps_asg (pe_glob (v := .int 0) (u := .int 0 t_FALSE) (by rfl) c_FALSE ⟨t_FALSE, rfl⟩) (pg_sub (pe_fld (pv 0) (by rfl)) (pe_op op_xor (pv 1) pe_int) set_list))
      (pss_cons (ps_asg (pv 2) (pg_sub (pe_fld (pv 0) (by rfl)) (pe_op op_shr (pv 1) pe_int) set_list))
      (pss_cons (ps_asg (pe_fld (pv 0) (by rfl)) (pg_sub (pe_fld (pv 0) (by rfl)) (pe_op op_shr (pv 1) pe_int) set_list))
      (pss_one (ps_expr (pe_bm PySem.F.plainAttrs_list PySem.F.slot_list_append PySem.F.type_list_append mt_append (pe_fld (pv 0) (by rfl)) (pa_cons (pv 1) pa_nil)))))))), ?_⟩
    have hn1 := neg_lt hx
    have e1 : (u.st.map V.int).set x (.int 1) = (u.st.set x 1).map V.int := by rw [List.map_set]
    have e2 : ((u.st.set x 1).map V.int).set (neg x) (.int 0) = (giveS u.st x).map V.int := by unfold giveS; simp only [List.map_set]
    have A1 := A0.putS (u.st.set x 1)
    have A2 := A1.putS (giveS u.st x)
    have A3 := A2.putC (u.cs.set (x / 2) c)
    have A4 := A3.putL (u.ls.set (x / 2) u.lev)
    have A5 := A4.putT (u.trail ++ [x])
    obtain ⟨dx, fs, hp, F⟩ := A0.fs
    have hS : H (ad .S) = some (.lst (u.st.map V.int)) := A0.all .S True.intro
    refine ⟨_, rfl, _, Cu, dx, fs, _, rfl, hp, PK.cls, PK.no .st, F.get .st, _, rfl, ad .S, _, x, x, rfl, rfl, hS, ixN_nat (by rw [List.length_map]; omega), ?_⟩
    rw [e1]
    obtain ⟨dx1, fs1, hp1, F1⟩ := A1.fs
    have hS1 := A1.all .S True.intro
    refine ⟨_, rfl, _, Cu, dx1, fs1, _, rfl, hp1, PK.cls, PK.no .st, F1.get .st, _, rfl, _, _, rfl, rfl, ad .S, _, (neg x : Nat), neg x, rfl, congrArg V.int (bx1 x), hS1, ixN_nat (by rw [List.length_map, List.length_set]; omega), ?_⟩
    rw [e2]
    obtain ⟨dx2, fs2, hp2, F2⟩ := A2.fs
    have hC2 := A2.all .C True.intro
    have hh : V.int ((x : Int) / 2 ^ (1 : Int).toNat) = nat (x / 2) := by
      show V.int ((x : Int) / 2) = V.int ((x / 2 : Nat) : Int)
      congr 1
    refine ⟨_, rfl, _, rfl, _, Cu, dx2, fs2, _, rfl, hp2, PK.cls, PK.no .ca, F2.get .ca, _, rfl, _, _, rfl, rfl, (by show (0 : Int) ≤ 1; decide), ad .C, _, (x / 2 : Nat), x / 2, rfl, hh, hC2, ixN_nat (by show x / 2 < u.cs.length; omega), ?_⟩
    obtain ⟨dx3, fs3, hp3, F3⟩ := A3.fs
    have hL3 := A3.all .L True.intro
    refine ⟨_, rfl, _, Cu, dx3, fs3, _, rfl, hp3, PK.cls, PK.no .lv, F3.get .lv, _, rfl, _, Cu, dx3, fs3, _, rfl, hp3, PK.cls, PK.no .le, F3.get .le, _, rfl, _, _, rfl, rfl, (by show (0 : Int) ≤ 1; decide), ad .L, _, (x / 2 : Nat), x / 2, rfl, hh, hL3, ixN_nat (by show x / 2 < u.ls.length; omega), ?_⟩
    obtain ⟨dx4, fs4, hp4, F4⟩ := A4.fs
    have hT4 := A4.all .T True.intro
    have hT4' : (upd (upd (upd (upd H (ad .S) (.lst ((u.st.set x 1).map V.int))) (ad .S) (.lst ((giveS u.st x).map V.int))) (ad .C) (.lst (u.cs.set (x / 2) c))) (ad .L) (.lst (u.ls.set (x / 2) u.lev))) (ad .T) = some (.lst (u.trail.map nat)) := hT4
    refine ⟨_, rfl, _, Cu, dx4, fs4, _, rfl, hp4, PK.cls, PK.no .tr, F4.get .tr, .inl ⟨rfl, _, SqL.of hT4'⟩, _, rfl, ad .T, _, _, rfl, rfl, hT4', by rw [List.length_map]; exact Nat.lt_of_le_of_lt ht (by decide), ?_⟩
    have e5 : u.trail.map nat ++ [nat x] = (u.trail ++ [x]).map nat := by rw [List.map_append]; rfl
    show Q V.non (upd _ (ad .T) (.lst (u.trail.map nat ++ [nat x])))
    rw [e5]
    exact q _ A5 (((((Chg.put (r := .S) (.inl rfl) _).trans (Chg.put (r := .S) (.inl rfl) _)).trans (Chg.put (r := .C) (.inr (.inl rfl)) _)).trans (Chg.put (r := .L) (.inr (.inr (.inl rfl))) _)).trans (Chg.put (r := .T) (.inr (.inr (.inr rfl))) _))
end
end My

set_option Elab.async false
set_option maxRecDepth 100000
set_option maxHeartbeats 4000000
set_option linter.all false
/-! Units: the rows that wait. -/
namespace My
open PySem PySem.Spec PyProof.Rows L2
def US.at (u : US) (x : Nat) (ks : List Nat) : US := { u with wt := fun y => if y = x then ks else u.wt y }
def US.dn (u : US) (d : Nat) : US := { u with done := d }
theorem rI0_to {g : Int → Int → V} {x y v : V} {H : Hp} {Q : VK} {i j : Int} (hx : x = .int i) (hy : y = .int j) (hv : g i j = v) (q : Q v H) : rI0 g x y H Q := ⟨i, j, hx, hy, hv ▸ q⟩
theorem nodup_len {l : List Nat} {n : Nat} (h : l.Nodup) (k : ∀ x ∈ l, x < n) : l.length ≤ n := by
  have := List.Nodup.length_le_of_subset (l₂ := List.range n) h fun y hy => List.mem_range.mpr (k y hy)
  rwa [List.length_range] at this
theorem Lg.wf {F : Nat → Prop} {Cf : Prop} {u : US} (h : Lg F Cf u) {x : Nat} (hx : x < 2 * u.n) : (u.wt x).length ≤ 100000 :=
  Nat.le_trans (nodup_len (h.w.nd x hx) fun j hj => by
    obtain ⟨r, hr, _⟩ := h.w.wl x hx j hj
    exact (List.getElem?_eq_some_iff.mp hr).1) h.rl
theorem SOk.rows {F : Nat → Prop} {Cf : Prop} {rows rows' : List (List Nat × Nat)} {tr : List Nat} (h : SOk F Cf rows tr) (e : rows'.map (·.1) = rows.map (·.1)) : SOk F Cf rows' tr := by
  have k : ∀ r ∈ rows', ∃ r' ∈ rows, r'.1 = r.1 := fun r hr => by
    have : r.1 ∈ rows.map (·.1) := by rw [← e]; exact List.mem_map_of_mem hr
    exact List.mem_map.mp this
  refine ⟨h.tr, fun r hr l hl q => ?_, fun r hr q => ?_⟩
  · obtain ⟨r', hr', e'⟩ := k r hr
    exact h.un r' hr' l (by rw [e']; exact hl) (by rw [e']; exact q)
  · obtain ⟨r', hr', e'⟩ := k r hr
    exact h.cf r' hr' (by rw [e']; exact q)
theorem set_fst {rows : List (List Nat × Nat)} {j k : Nat} {r : List Nat × Nat} (hr : rows[j]? = some r) : (rows.set j (r.1, k)).map (·.1) = rows.map (·.1) := by
  obtain ⟨hl, rfl⟩ := List.getElem?_eq_some_iff.mp hr
  rw [List.map_set]
  refine List.ext_getElem? fun i => ?_
  rw [List.getElem?_set]
  split
  · rename_i e
    subst e
    rw [List.length_map, if_pos hl, List.getElem?_map, List.getElem?_eq_getElem hl]
    rfl
  · rfl
theorem Lg.moved {F : Nat → Prop} {Cf : Prop} {u : US} (h : Lg F Cf u) {x y o j : Nat} {r : List Nat × Nat} {a b : List Nat} {wt' : Nat → List Nat} (hx : x < 2 * u.n) (hnx : neg x ∈ u.trail) (hd : neg x ∉ u.trail.take u.done) (hw : u.wt x = a ++ j :: b) (hr : u.rows[j]? = some r) (ho : r.2 ^^^ x = o) (hy : y ∈ r.1) (nyF : neg y ∉ u.trail) (nyo : y ≠ o)
    (w1 : wt' x = a ++ b) (w2 : wt' y = u.wt y ++ [j]) (w3 : ∀ z, z ≠ x → z ≠ y → wt' z = u.wt z) : Lg F Cf { u with rows := u.rows.set j (r.1, o ^^^ y), wt := wt' } := by
  have hj : j ∈ u.wt x := by rw [hw]; simp
  have nyx : y ≠ x := fun e => nyF (by rw [e]; exact hnx)
  obtain ⟨r', o', hr', h3, ho', hl, hxr, hor, nox, hol, hwj⟩ := h.w.at_ hx hj
  rw [hr] at hr'
  obtain rfl := Option.some.inj hr'
  obtain rfl : o' = o := by rw [← ho', ho]
  have hyl := (h.w.ok r (List.mem_of_getElem? hr)).lt y hy
  have nj : j ∉ u.wt y := fun m => by
    rcases (hwj y hyl).1 m with e | e
    · exact nyx e
    · exact nyo e
  have ndx := h.w.nd x hx
  rw [hw] at ndx
  have W := h.w.move (wt' := wt') hx hj hr ho hy nyx nyo (fun k => by
      rw [w1, hw, List.mem_append, List.mem_append, List.mem_cons]
      have n1 := List.nodup_append.mp ndx
      have n2 := List.nodup_cons.mp n1.2.1
      refine ⟨fun q => ?_, fun q => ?_⟩
      · rcases q with q | q
        · exact ⟨.inl q, fun e => n1.2.2 k q j List.mem_cons_self e⟩
        · exact ⟨.inr (.inr q), fun e => n2.1 (e ▸ q)⟩
      · rcases q.1 with z | z | z
        · exact .inl z
        · exact absurd z q.2
        · exact .inr z) (fun k => by rw [w2, List.mem_append, List.mem_singleton]) w3 (fun z hz => by
      by_cases e1 : z = x
      · rw [e1, w1]
        have n1 := List.nodup_append.mp ndx
        exact List.nodup_append.mpr ⟨n1.1, (List.nodup_cons.mp n1.2.1).2, fun p hp q hq => n1.2.2 p hp q (List.mem_cons_of_mem _ hq)⟩
      · by_cases e2 : z = y
        · rw [e2, w2]
          exact List.nodup_append.mpr ⟨h.w.nd y hyl, by simp, fun p hp q hq e => nj (by rw [← List.mem_singleton.mp hq, ← e]; exact hp)⟩
        · rw [w3 z e1 e2]
          exact h.w.nd z hz)
  refine ⟨h.few, h.so, W, h.s.rows (set_fst hr), fun z hz => ?_, h.lc, h.ll, h.dn, ?_, fun z => by show _ ≤ (u.rows.set _ _).length; rw [List.length_set]; exact h.pf z⟩
  · have hzt := List.mem_of_mem_take hz
    have hzx : neg z ≠ x := fun e => hd (by rw [← e, neg_neg]; exact hz)
    have hzy : neg z ≠ y := fun e => nyF (by rw [← e, neg_neg]; exact hzt)
    obtain ⟨q1, q2⟩ := h.q z hz
    refine ⟨fun k hk s hs => ?_, q2⟩
    have hk : k ∈ u.wt (neg z) := by
      have hk : k ∈ wt' (neg z) := hk
      rwa [w3 _ hzx hzy] at hk
    have hs : (u.rows.set j (r.1, o' ^^^ y))[k]? = some s := hs
    by_cases e : j = k
    · subst e
      have zl := neg_lt (h.so.lt z hzt)
      rcases (hwj (neg z) zl).1 hk with e | e
      · exact absurd e hzx
      · have := q1 j hk r hr
        rw [e, hl, xor_back'] at this
        exact (h.so.two this hnx).elim
    · rw [List.getElem?_set, if_neg e] at hs
      exact q1 k hk s hs
  · show (u.rows.set _ _).length ≤ _
    rw [List.length_set]; exact h.rl
/-! ### a new list for the rows that wait at x -/
def adw (ad : Rl → Addr) (x : Nat) (k : Addr) : Rl → Addr := fun r => if r = .w x then k else ad r
section
variable {K : PySem.W.Frag} {Cu Cr : Addr} {H H' : Hp} {ad ad' : Rl → Addr} {u u' : US} {x k : Nat}
theorem adw_ne {r : Rl} (h : r ≠ .w x) : adw ad x k r = ad r := if_neg h
theorem adw_x : adw ad x k (.w x) = k := if_pos rfl
theorem refsTo_eq {f : Nat → Rl} (h : ∀ i, ad' (f i) = ad (f i)) (l : List Nat) : refsTo ad' f l = refsTo ad f l := by
  unfold refsTo
  exact List.map_congr_left fun i _ => by rw [h i]
/-- the same state under other addresses for the lists that wait -/
theorem holds_ad (h : ∀ r, (∀ i, r ≠ .w i) → ad' r = ad r) {r : Rl} (hW : r ≠ .W) {ks : List Nat} (hr : r ≠ .w x) {o : Option HO} (q : Holds K Cu Cr H ad u r o) : Holds K Cu Cr H ad' (u.at x ks) r o := by
  have hrow : ∀ i, ad' (.row i) = ad (.row i) := fun i => h _ (fun _ e => by cases e)
  cases r with
  | p =>
    obtain ⟨dx, fs, e, F⟩ := q
    refine ⟨dx, fs, e, fun d => ?_, F.no, F.few⟩
    rw [F.get d]
    cases d <;> first | rfl | (show some (V.ref (ad _)) = some (V.ref (ad' _)); rw [h _ (fun _ e => by cases e)])
  | W => exact absurd rfl hW
  | R =>
    show o = some (.lst (refsTo ad' .row _))
    rw [refsTo_eq hrow]
    exact q
  | P =>
    show o = some (.lst (refsTo ad' .q _))
    rw [refsTo_eq fun i => h _ (fun _ e => by cases e)]
    exact q
  | w i =>
    have hi : i ≠ x := fun e => hr (by rw [e])
    show o = some (.lst (refsTo ad' .row (if i = x then ks else u.wt i)))
    rw [if_neg hi, refsTo_eq hrow]
    exact q
  | q i =>
    obtain ⟨ts, e, l⟩ := q
    exact ⟨ts, e, l.imp fun a b s => by rw [hrow]; exact s⟩
  | row j =>
    obtain ⟨dx, fs, r, h1, h2, h3⟩ := q
    exact ⟨dx, fs, r, h1, h2, ⟨by rw [h _ (fun _ e => by cases e)]; exact h3.parts, h3.link, h3.few⟩⟩
  | _ => exact q
theorem UAt.reW (A : UAt K Cu Cr H ad u) (hx : x < 2 * u.n) {k : Addr} (hk : H k = none) : UAt K Cu Cr (upd (upd H k (.lst [])) (ad .W) (.lst ((refsTo ad .w (List.range (2 * u.n))).set x (.ref k)))) (adw ad x k) (u.at x []) := by
  have ne : ∀ r, vld u r → ad r ≠ k := fun r hr e => by
    obtain ⟨o, ho⟩ := A.has hr
    rw [e, hk] at ho
    cases ho
  have A1 : UAt K Cu Cr (upd H k (.lst [])) ad u := A.same (same_new hk _)
  have hv : ∀ r, vld (u.at x []) r ↔ vld u r := fun r => by cases r <;> exact Iff.rfl
  refine ⟨fun a b ha hb e => ?_, fun r hr => ?_⟩
  · have ha := (hv a).1 ha
    have hb := (hv b).1 hb
    by_cases ea : a = .w x
    · by_cases eb : b = .w x
      · rw [ea, eb]
      · rw [ea, adw_x, adw_ne eb] at e
        exact absurd e.symm (ne b hb)
    · by_cases eb : b = .w x
      · rw [eb, adw_x, adw_ne ea] at e
        exact absurd e (ne a ha)
      · rw [adw_ne ea, adw_ne eb] at e
        exact A.inj a b ha hb e
  · have hr := (hv r).1 hr
    by_cases e : r = .w x
    · subst e
      rw [adw_x, upd_ne (ne .W True.intro).symm, upd_same]
      show some (HO.lst []) = some (.lst (refsTo _ .row (if x = x then [] else u.wt x)))
      rw [if_pos rfl]
      rfl
    · rw [adw_ne e]
      by_cases eW : r = .W
      · subst eW
        rw [upd_same]
        show some (HO.lst _) = some (.lst (refsTo (adw ad x k) .w (List.range (2 * u.n))))
        congr 2
        unfold refsTo
        refine List.ext_getElem? fun i => ?_
        rw [List.getElem?_set, List.getElem?_map, List.getElem?_map]
        rcases Nat.lt_or_ge i (2 * u.n) with hi | hi
        · rw [List.getElem?_range hi]
          split
          · rename_i ex
            subst ex
            rw [List.length_map, List.length_range, if_pos hi]
            show _ = some (V.ref (adw ad x k (.w x)))
            rw [adw_x]
          · rename_i ex
            show some (V.ref (ad (.w i))) = some (V.ref (adw ad x k (.w i)))
            rw [adw_ne fun z => ex (by cases z; rfl)]
        · rw [if_neg (by omega), List.getElem?_eq_none (by rw [List.length_range]; exact hi)]
          rfl
      · rw [upd_ne fun z => eW (A.inj _ _ hr True.intro z)]
        have := holds_ad (K := K) (Cu := Cu) (Cr := Cr) (u := u) (x := x) (ks := []) (ad := ad) (ad' := adw ad x k) (fun r h => adw_ne (h x)) eW e (A1.all r hr)
        exact holds_mono (fun t xs h => sqt_but (A := [ad .W]) (fun a ha => by rw [List.mem_singleton.mp ha]; exact A1.mut' (r := .W) True.intro) (But.put (List.mem_singleton_self _) _) h) this
end
theorem Chg.fresh {R : Rl → Prop} {ad : Rl → Addr} {H H' : Hp} (h : Chg R ad H H') {k : Addr} (hk : H k = none) (o : HO) : Chg R ad H (upd H' k o) := fun b o' n e => by
  have : b ≠ k := fun z => by rw [z, hk] at e; cases e
  rw [upd_ne this]
  exact h b o' n e
theorem Chg.ad {R R' : Rl → Prop} {ad ad' : Rl → Addr} {H H' : Hp} (h : Chg R ad' H H') (k : ∀ r, R r → R' r ∧ ad' r = ad r) : Chg R' ad H H' := fun b o n e => h b o (fun r hr => by rw [(k r hr).2]; exact n r (k r hr).1) e
end My

set_option Elab.async false
set_option maxRecDepth 100000
set_option maxHeartbeats 4000000
set_option linter.all false
namespace My
open PySem L2 PyProof.Rows
open C8 (pss_cut)
/-- what spreading leaves: more items are known -/
structure More (u u' : US) : Prop where
  e : ∃ st cs ls tr, u' = { u with st := st, cs := cs, ls := ls, trail := tr }
  pre : u.trail <+: u'.trail
theorem More.refl (u : US) : More u u := ⟨⟨_, _, _, _, rfl⟩, List.prefix_refl _⟩
theorem More.trans {a b c : US} (h : More a b) (k : More b c) : More a c := by
  obtain ⟨⟨s1, c1, l1, t1, rfl⟩, p1⟩ := h
  obtain ⟨⟨s2, c2, l2, t2, rfl⟩, p2⟩ := k
  exact ⟨⟨s2, c2, l2, t2, rfl⟩, p1.trans p2⟩
theorem More.give (u : US) (x : Nat) (c : V) : More u (u.give x c) := ⟨⟨_, _, _, _, rfl⟩, List.prefix_append _ _⟩
theorem More.n {u u' : US} (m : More u u') : u'.n = u.n := by
  obtain ⟨⟨s1, c1, l1, t1, rfl⟩, _⟩ := m
  rfl
theorem More.pr {u u' : US} (m : More u u') : u'.pr = u.pr := by
  obtain ⟨⟨s1, c1, l1, t1, rfl⟩, _⟩ := m
  rfl
theorem More.rows {u u' : US} (m : More u u') : u'.rows = u.rows := by
  obtain ⟨⟨s1, c1, l1, t1, rfl⟩, _⟩ := m
  rfl
theorem More.done {u u' : US} (m : More u u') : u'.done = u.done := by
  obtain ⟨⟨s1, c1, l1, t1, rfl⟩, _⟩ := m
  rfl
theorem More.broken {u u' : US} (m : More u u') : u'.broken = u.broken := by
  obtain ⟨⟨s1, c1, l1, t1, rfl⟩, _⟩ := m
  rfl
theorem More.mem {u u' : US} (m : More u u') {x : Nat} (h : x ∈ u.trail) : x ∈ u'.trail := m.pre.subset h
theorem no_give : ∀ d, ("give" : Str) ≠ fname d := fun d => by cases d <;> decide +kernel
theorem stat {n : Nat} {st : List Int} {trail : List Nat} (h : StOk n st trail) {x : Nat} (hx : x < 2 * n) : ∃ s : Int, st[x]? = some s ∧ atI (st.map V.int) (x : Int) = some (.int s) := by
  have hl : x < st.length := by rw [h.len]; exact hx
  exact ⟨st[x], List.getElem?_eq_getElem hl, atI_nat (by rw [List.getElem?_map, List.getElem?_eq_getElem hl]; rfl)⟩
theorem veq (a b : Int) : decide (V.int a = V.int b) = decide (a = b) := by
  by_cases h : a = b
  · rw [h, decide_eq_true rfl, decide_eq_true rfl]
  · rw [decide_eq_false h]
    exact decide_eq_false fun e => h (V.int.inj e)
def spPairs (K : PySem.W.Frag) (Cu Cr : Addr) : Sp := fun vs H Q _ => ∃ (ad : Rl → Addr) (u : US) (x d : Nat) (F : Nat → Prop) (Cf : Prop), vs = [.ref (ad .p), nat x] ∧ UAt K Cu Cr H ad u ∧ Lg F Cf (u.dn d) ∧ x < 2 * u.n ∧ neg x ∈ u.trail ∧
  (∀ H' u', UAt K Cu Cr H' ad u' → Chg R4 ad H H' → More u u' → Lg F Cf (u'.dn d) → (∀ y ∈ u.pr x, y.1 ∈ u'.trail) → Q .non H') ∧ ∀ H' u' j, UAt K Cu Cr H' ad u' → Chg R4 ad H H' → More u u' → Lg F Cf (u'.dn d) → Cf → Q (.ref (ad (.row j))) H'
section
variable {P : Program} {w : World} {K : PySem.W.Frag} {mg : Str → Option Value} {base : Heap} {f Cu Cr : Addr} {fd : FuncData}
theorem ok_spread_pairs (T : Txt K mg) (PK : UK K Cu) (C2 : ConI mg "OPEN" 2) (C0 : ConI mg "FALSE" 0) (D : DefM K Cu "spread_pairs" "Units.spread_pairs" ["self", "x"] s_Units_spread_pairs f fd) (O1 : OwnM P w K mg base Cu "give" ["self", "x", "cause"] 1 (spGive K Cu Cr)) : OwnM P w K mg base Cu "spread_pairs" ["self", "x"] 2 (spPairs K Cu Cr) := by
  obtain ⟨t_OPEN, c_OPEN⟩ := C2
  obtain ⟨t_FALSE, c_FALSE⟩ := C0
  obtain ⟨fgive, fdgive, Mgive, bgive, Ggive⟩ := O1
  refine ⟨f, fd, D.me, D.bd, D.fn.ok sc_Units_spread_pairs (fun vs H Q E h => ?_) (fun cdv A outer s H vs Q E hr h => ?_)⟩
  · obtain ⟨ad, u, x, d, F, Cf, rfl, _⟩ := h
    rfl
  · obtain ⟨ad, u, x, d, F, Cf, rfl, A0, L0, hx, hnx, qn, qr⟩ := h
    refine ⟨_, (pss_cons (ps_set (i := 2) sc_Units_spread_pairs.nd rfl (Or.inl rfl) (pe_fld (pv 0) (by rfl)))
      (pss_cons (ps_for PassesOwn.never rfl (pi_list (pe_ix ix_list (pe_fld (pv 0) (by rfl)) (pv 1) (fun _ _ => rfl))) (pg_tup (by rfl) (pgs_cons (pg_name (i := 3) sc_Units_spread_pairs.nd rfl (Or.inl rfl)) (pgs_cons (pg_name (i := 4) sc_Units_spread_pairs.nd rfl (Or.inl rfl)) pgs_nil))) (pss_one (ps_if (pt_cmpR op_eq (pe_ix ix_list (pv 2) (pv 3) (fun _ _ => rfl)) (pe_glob (v := .int 2) (u := .int 2 t_OPEN) (by rfl) c_OPEN ⟨t_OPEN, rfl⟩) (nomark _)) (pss_one (ps_expr (pe_meth (pv 0) PK.cls Mgive Ggive (hr.mono (by omega)) bgive .nil pass0 (pa_cons (pv 3) (pa_cons (pv 4) pa_nil))))) (pss_one (ps_if (pt_cmpR op_eq (pe_ix ix_list (pv 2) (pv 3) (fun _ _ => rfl)) (pe_glob (v := .int 0) (u := .int 0 t_FALSE) (by rfl) c_FALSE ⟨t_FALSE, rfl⟩) (nomark _)) (pss_one (ps_ret (pv 4))) pss_nil)))))
      (pss_one (ps_ret pe_non)))), ?_⟩
    obtain ⟨dx, fs, hp, F0⟩ := A0.fs
    refine ⟨_, rfl, _, Cu, dx, fs, _, rfl, hp, PK.cls, PK.no .st, F0.get .st, ?_⟩
    obtain ⟨ts, hq, hts⟩ := A0.all (.q x) hx
    have tl := hts.len
    have atP : atI (refsTo ad .q (List.range (2 * u.n))) (x : Int) = some (.ref (ad (.q x))) := atI_nat (by
      unfold refsTo
      rw [List.getElem?_map, List.getElem?_range hx]
      rfl)
    refine ⟨_, rfl, _, Cu, dx, fs, _, rfl, hp, PK.cls, PK.no .pa, F0.get .pa, _, rfl, ad .P, _, (x : Int), _, rfl, rfl, SqL.of (A0.all .P True.intro), atP, ad (.q x), rfl, ⟨_, SqL.of hq⟩, for_list (K := K) (a := ad (.q x)) (xs := ts.map V.ref) (fun i σ' H' => ∃ (u' : US) (o3 o4 : Option V), σ' = [some (.ref (ad .p)), some (nat x), some (.ref (ad .S)), o3, o4] ∧ UAt K Cu Cr H' ad u' ∧ Chg R4 ad H H' ∧ More u u' ∧ Lg F Cf (u'.dn d) ∧ ∀ y ∈ (u.pr x).take i, y.1 ∈ u'.trail) ⟨u, none, none, rfl, A0, Chg.refl, More.refl u, L0, fun y hy => (by cases hy)⟩ (fun i σ' H' _ ⟨u', _, _, _, A', C', _⟩ => SqL.of (C'.at_ A0 (r := .q x) hx (fun r hr => ⟨hr.vld, fun e => by rcases hr with z | z | z | z <;> (rw [z] at e; cases e)⟩) hq)) ?_ ?_⟩
    · rintro i y σ' H1 hi ⟨u', o3, o4, rfl, A1, C1, M1, L1, T1⟩
      rw [List.getElem?_map] at hi
      obtain ⟨t, hti, rfl⟩ := Option.map_eq_some_iff.mp hi
      obtain ⟨⟨o, j⟩, hy, hsq⟩ := hts.get hti
      have hsq1 := A0.sqt C1 (fun r hr => hr.vld) hsq
      obtain ⟨lk, hl⟩ := L0.w.pl x hx (o, j) (List.mem_of_getElem? hy)
      have hrow : ∃ r ∈ u.rows, o ∈ r.1 ∧ ∀ z ∈ r.1, z = x ∨ z = o := by
        rcases hl with hl | hl
        · exact ⟨_, List.mem_of_getElem? hl, by simp, fun z hz => by simpa using hz⟩
        · exact ⟨_, List.mem_of_getElem? hl, by simp, fun z hz => by simpa [or_comm] using hz⟩
      obtain ⟨r, hr, hor, hall⟩ := hrow
      have hol : o < 2 * u'.n := by rw [M1.n]; exact (L0.w.ok r hr).lt o hor
      have S1 : StOk u'.n u'.st u'.trail := L1.so
      obtain ⟨so, hso, hat⟩ := stat S1 hol
      have hS1 := A1.all .S True.intro
      have hFx : ∀ z, z = x → F (neg z) := fun z e => by rw [e]; exact L1.s.tr _ (M1.mem hnx)
      have hr1 : r ∈ u'.rows := by rw [M1.rows]; exact hr
      refine ⟨t, _, rfl, hsq1, rfl, _, _, rfl, _, _, rfl, rfl, ?_⟩
      refine ⟨_, rfl, _, rfl, ad .S, _, (o : Int), _, rfl, rfl, SqL.of hS1, hat, rfl, _, rfl, ite2 (fun c => ?_) (fun c => ?_)⟩
      · rw [veq] at c
        have c : so = 2 := of_decide_eq_true c
        rw [c] at hso
        have hFo : F o := L1.s.un r hr1 o hor fun y hy ne => hFx y ((hall y hy).resolve_right ne)
        obtain ⟨dx1, fs1, hp1, F1⟩ := A1.fs
        refine ⟨_, rfl, _, dx1, fs1, rfl, hp1, F1.no _ no_give, _, rfl, _, rfl, ad, u', o, .ref (ad (.row j)), rfl, A1, hol, S1.len, L1.lc, L1.ll, L1.few, by have := S1.few; have h1 : u'.n ≤ 200000 := L1.few; omega, fun H2 A2 C2 => ?_⟩
        refine ⟨_, _, _, rfl, A2, C1.trans C2, M1.trans (More.give u' o _), L1.give hol hso hFo _, fun y hy' => ?_⟩
        rw [take_next hy] at hy'
        rcases List.mem_append.mp hy' with m | m
        · exact List.mem_append_left _ (T1 y m)
        · rw [List.mem_singleton.mp m]
          exact List.mem_append_right _ (List.mem_singleton_self _)
      · rw [veq] at c
        have c : so ≠ 2 := fun e => c (decide_eq_true e)
        refine ⟨_, rfl, _, rfl, ad .S, _, (o : Int), _, rfl, rfl, SqL.of hS1, hat, rfl, _, rfl, ite2 (fun c2 => ?_) (fun c2 => ?_)⟩
        · rw [veq] at c2
          have c2 : so = 0 := of_decide_eq_true c2
          rw [c2] at hso
          have hno := (S1.f o hol).1 hso
          refine ⟨_, rfl, qr H1 u' j A1 C1 M1 L1 (L1.s.cf r hr1 fun y hy => ?_)⟩
          rcases hall y hy with e | e
          · exact hFx y e
          · rw [e]; exact L1.s.tr _ hno
        · rw [veq] at c2
          have c2 : so ≠ 0 := fun e => c2 (decide_eq_true e)
          have hto : o ∈ u'.trail := by
            rcases S1.o o hol with z | z | z
            · rw [z] at hso; cases hso; exact absurd rfl c2
            · exact (S1.t o hol).1 z
            · rw [z] at hso; cases hso; exact absurd rfl c
          refine ⟨u', _, _, rfl, A1, C1, M1, L1, fun y hy' => ?_⟩
          rw [take_next hy] at hy'
          rcases List.mem_append.mp hy' with m | m
          · exact T1 y m
          · rw [List.mem_singleton.mp m]; exact hto
    · rintro σ' H1 ⟨u', o3, o4, rfl, A1, C1, M1, L1, T1⟩
      rw [List.length_map, tl, List.take_length] at T1
      exact qn H1 u' A1 C1 M1 L1 T1
end
end My

set_option Elab.async false
set_option maxRecDepth 100000
set_option maxHeartbeats 4000000
set_option linter.all false
namespace My
open PySem L2 PyProof.Rows
open C8 (pss_cut)
/-- what spreading over the rows leaves -/
structure Rowed (u u' : US) : Prop where
  n : u'.vs = u.vs
  pr : u'.pr = u.pr
  done : u'.done = u.done
  brk : u'.broken = u.broken
  lev : u'.lev = u.lev
  rl : u'.rows.map (·.1) = u.rows.map (·.1)
  pre : u.trail <+: u'.trail
theorem Rowed.refl (u : US) : Rowed u u := ⟨rfl, rfl, rfl, rfl, rfl, rfl, List.prefix_refl _⟩
theorem Rowed.nn {u u' : US} (h : Rowed u u') : u'.n = u.n := by unfold US.n; rw [h.n]
theorem Rowed.len {u u' : US} (h : Rowed u u') : u'.rows.length = u.rows.length := by
  have := congrArg List.length h.rl
  rwa [List.length_map, List.length_map] at this
theorem Rowed.vld {u u' : US} (h : Rowed u u') (r : Rl) : vld u' r ↔ vld u r := by
  cases r <;> first | exact Iff.rfl | (show _ < 2 * u'.n ↔ _; rw [h.nn]; exact Iff.rfl) | (show _ < u'.rows.length ↔ _; rw [h.len]; exact Iff.rfl)
theorem at_self (u : US) (x : Nat) : u.at x (u.wt x) = u := by
  unfold US.at
  have : (fun y => if y = x then u.wt x else u.wt y) = u.wt := funext fun y => by
    by_cases e : y = x
    · rw [if_pos e, e]
    · rw [if_neg e]
  rw [this]
theorem at_x (u : US) (x : Nat) (l : List Nat) : (u.at x l).wt x = l := if_pos rfl
theorem at_ne (u : US) {x y : Nat} (l : List Nat) (h : y ≠ x) : (u.at x l).wt y = u.wt y := if_neg h
theorem at_at (u : US) (x : Nat) (l m : List Nat) : (u.at x l).at x m = u.at x m := by
  unfold US.at
  have : (fun y => if y = x then m else (if y = x then l else u.wt y)) = fun y => if y = x then m else u.wt y := funext fun y => by
    by_cases e : y = x
    · rw [if_pos e, if_pos e]
    · rw [if_neg e, if_neg e, if_neg e]
  exact congrArg (fun w => ({ u with wt := w } : US)) this
def OF (ad : Rl → Addr) (Cf : Prop) (x : Nat) (v : V) (u : US) : Prop := (v = .non ∧ ∀ j ∈ u.wt x, ∀ r, u.rows[j]? = some r → r.2 ^^^ x ∈ u.trail) ∨ (∃ j, v = .ref (ad (.row j))) ∧ Cf
structure RB (K : PySem.W.Frag) (Cu Cr : Addr) (F : Nat → Prop) (Cf : Prop) (H0 : Hp) (ad : Rl → Addr) (u0 : US) (x d : Nat) (l : List Nat) (k : Addr) (i : Nat) (G : Hp) (u1 : US) : Prop where
  A : UAt K Cu Cr G (adw ad x k) u1
  C : Chg (vld u0) ad H0 G
  R : Rowed u0 u1
  L : Lg F Cf ((u1.dn d).at x (u1.wt x ++ l.drop i))
theorem drop_at {l : List Nat} {i j : Nat} (h : l[i]? = some j) : l.drop i = j :: l.drop (i + 1) := by
  obtain ⟨hl, rfl⟩ := List.getElem?_eq_some_iff.mp h
  exact List.drop_eq_getElem_cons hl
section
variable {K : PySem.W.Frag} {Cu Cr : Addr} {F : Nat → Prop} {Cf : Prop} {H0 G : Hp} {ad : Rl → Addr} {u0 u1 : US} {x d : Nat} {l : List Nat} {k : Addr} {i : Nat}
theorem RB.hk (h : RB K Cu Cr F Cf H0 ad u0 x d l k i G u1) (hx : x < 2 * u0.n) : G k = some (.lst (refsTo (adw ad x k) .row (u1.wt x))) := by
  have : G (adw ad x k (.w x)) = some (.lst (refsTo (adw ad x k) .row (u1.wt x))) := h.A.all (.w x) ((h.R.vld (.w x)).2 hx)
  rwa [adw_x] at this
theorem RB.ksize (h : RB K Cu Cr F Cf H0 ad u0 x d l k i G u1) (hx : x < 2 * u0.n) : (refsTo (adw ad x k) .row (u1.wt x)).length < sizeLine := by
  have := h.L.wf (x := x) ((h.R.vld (.w x)).2 hx)
  rw [at_x, List.length_append] at this
  unfold refsTo
  rw [List.length_map]
  exact Nat.lt_of_le_of_lt (Nat.le_trans (Nat.le_add_right _ _) this) (by decide)
theorem RB.keep (h : RB K Cu Cr F Cf H0 ad u0 x d l k i G u1) (hx : x < 2 * u0.n) (hk : H0 k = none) {j : Nat} (hj : l[i]? = some j) : RB K Cu Cr F Cf H0 ad u0 x d l k (i + 1) (upd G k (.lst (refsTo (adw ad x k) .row (u1.wt x) ++ [.ref (ad (.row j))]))) (u1.at x (u1.wt x ++ [j])) := by
  refine ⟨?_, h.C.fresh hk _, ⟨h.R.n, h.R.pr, h.R.done, h.R.brk, h.R.lev, h.R.rl, h.R.pre⟩, ?_⟩
  · have := h.A.putw (i := x) ((h.R.vld (.w x)).2 hx) (u1.wt x ++ [j])
    rw [adw_x] at this
    have e : refsTo (adw ad x k) .row (u1.wt x ++ [j]) = refsTo (adw ad x k) .row (u1.wt x) ++ [.ref (ad (.row j))] := by
      unfold refsTo
      rw [List.map_append]
      congr 1
    rw [e] at this
    exact this
  · have := h.L
    rw [drop_at hj] at this
    show Lg F Cf (((u1.dn d).at x (u1.wt x ++ [j])).at x ((u1.at x (u1.wt x ++ [j])).wt x ++ l.drop (i + 1)))
    rw [at_x, at_at, List.append_assoc]
    exact this
end
def spRows (K : PySem.W.Frag) (Cu Cr : Addr) : Sp := fun vs H Q _ => ∃ (ad : Rl → Addr) (u : US) (x d : Nat) (F : Nat → Prop) (Cf : Prop), vs = [.ref (ad .p), nat x] ∧ UAt K Cu Cr H ad u ∧ Lg F Cf (u.dn d) ∧ x < 2 * u.n ∧ neg x ∈ u.trail ∧ neg x ∉ u.trail.take d ∧
  ∀ H' ad' u' v, UAt K Cu Cr H' ad' u' → Chg (vld u) ad H H' → (∀ r, (∀ i, r ≠ .w i) → ad' r = ad r) → (∀ i, ad' (.w i) = ad (.w i) ∨ H (ad' (.w i)) = none) → Rowed u u' → Lg F Cf (u'.dn d) → OF ad Cf x v u' → Q v H'
section
variable {P : Program} {w : World} {K : PySem.W.Frag} {mg : Str → Option Value} {base : Heap} {f Cu Cr : Addr} {fd : FuncData}
structure RK (K : PySem.W.Frag) (C : Addr) : Prop where
  cls : L2.Cls K C
  nl : L2.NoAttr K C ("link" : Str)
  np : L2.NoAttr K C ("parts" : Str)
theorem ok_spread_rows (T : Txt K mg) (PK : UK K Cu) (QK : RK K Cr) (C2 : ConI mg "OPEN" 2) (C0 : ConI mg "FALSE" 0) (C1 : ConI mg "TRUE" 1) (D : DefM K Cu "spread_rows" "Units.spread_rows" ["self", "x"] s_Units_spread_rows f fd) (O1 : OwnM P w K mg base Cu "give" ["self", "x", "cause"] 1 (spGive K Cu Cr)) : OwnM P w K mg base Cu "spread_rows" ["self", "x"] 2 (spRows K Cu Cr) := by
  obtain ⟨t_OPEN, c_OPEN⟩ := C2
  obtain ⟨t_FALSE, c_FALSE⟩ := C0
  obtain ⟨t_TRUE, c_TRUE⟩ := C1
  obtain ⟨fgive, fdgive, Mgive, bgive, Ggive⟩ := O1
  refine ⟨f, fd, D.me, D.bd, D.fn.ok sc_Units_spread_rows (fun vs H Q E h => ?_) (fun cdv A outer s H vs Q E hr h => ?_)⟩
  · obtain ⟨ad, u, x, d, F, Cf, rfl, _⟩ := h
    rfl
  · obtain ⟨ad, u, x, d, F, Cf, rfl, A0, L0, hx, hnx, hnd, q⟩ := h
    refine ⟨_, (pss_cons (ps_set (i := 2) sc_Units_spread_rows.nd rfl (Or.inl rfl) (pe_fld (pv 0) (by rfl)))
      (pss_cons (ps_set (i := 3) sc_Units_spread_rows.nd rfl (Or.inl rfl) (pe_callTy call_list_of (by rfl) T.m_list (by decide +kernel) (pa_cons (pe_ix ix_list (pe_fld (pv 0) (by rfl)) (pv 1) (fun _ _ => rfl)) pa_nil)))
      (pss_cons (ps_set (i := 4) sc_Units_spread_rows.nd rfl (Or.inl rfl) (pe_lst pa_nil))
      (pss_cons (ps_asg (pv 4) (pg_sub (pe_fld (pv 0) (by rfl)) (pv 1) set_list))
      (pss_cons (ps_set (i := 5) sc_Units_spread_rows.nd rfl (Or.inl rfl) pe_non)
      (pss_cons (ps_for PassesOwn.never rfl (pi_list (pv 3)) (pg_name (i := 6) sc_Units_spread_rows.nd rfl (Or.inl rfl)) (pss_cons (ps_set (i := 7) sc_Units_spread_rows.nd rfl (Or.inl rfl) (pe_op op_xor (pe_fld (pv 6) (by rfl)) (pv 1)))
      (pss_cons (ps_if (PW.pt (pw_or (pt_cmpR op_notN (pv 5) pe_non (nomark _)) (pw_or1 (pt_cmpR op_eq (pe_ix ix_list (pv 2) (pv 7) (fun _ _ => rfl)) (pe_glob (v := .int 1) (u := .int 1 t_TRUE) (by rfl) c_TRUE ⟨t_TRUE, rfl⟩) (nomark _))))) (pss_cons (ps_expr (pe_bm PySem.F.plainAttrs_list PySem.F.slot_list_append PySem.F.type_list_append mt_append (pv 4) (pa_cons (pv 6) pa_nil)))
      (pss_one ps_continue)) pss_nil)
      (pss_one (ps_forE PassesOwn.never rfl (pi_list (pe_fld (pv 6) (by rfl))) (pg_name (i := 8) sc_Units_spread_rows.nd rfl (Or.inl rfl)) (pss_one (ps_if (PW.pt (pw_and (pt_cmpR op_ne (pe_ix ix_list (pv 2) (pv 8) (fun _ _ => rfl)) (pe_glob (v := .int 0) (u := .int 0 t_FALSE) (by rfl) c_FALSE ⟨t_FALSE, rfl⟩) (nomark _)) (pw_and1 (pt_cmpR op_ne (pv 8) (pv 7) (nomark _))))) (pss_cons (ps_fld (pv 6) (pe_op op_xor (pv 7) (pv 8)) rfl)
      (pss_cons (ps_expr (pe_bm PySem.F.plainAttrs_list PySem.F.slot_list_append PySem.F.type_list_append mt_append (pe_ix ix_list (pe_fld (pv 0) (by rfl)) (pv 8) (fun _ _ => rfl)) (pa_cons (pv 6) pa_nil)))
      (pss_one ps_break))) pss_nil)) (pss_cons (ps_expr (pe_bm PySem.F.plainAttrs_list PySem.F.slot_list_append PySem.F.type_list_append mt_append (pv 4) (pa_cons (pv 6) pa_nil)))
      (pss_one (ps_if (pt_cmpR op_eq (pe_ix ix_list (pv 2) (pv 7) (fun _ _ => rfl)) (pe_glob (v := .int 2) (u := .int 2 t_OPEN) (by rfl) c_OPEN ⟨t_OPEN, rfl⟩) (nomark _)) (pss_one (ps_expr (pe_meth (pv 0) PK.cls Mgive Ggive (hr.mono (by omega)) bgive .nil pass0 (pa_cons (pv 7) (pa_cons (pv 6) pa_nil))))) (pss_one (ps_set (i := 5) sc_Units_spread_rows.nd rfl (Or.inl rfl) (pv 6)))))))))))
      (pss_one (ps_ret (pv 5))))))))), ?_⟩
    obtain ⟨dx, fs, hp, F0⟩ := A0.fs
    have hw : H (ad (.w x)) = some (.lst (refsTo ad .row (u.wt x))) := A0.all (.w x) hx
    have hW : H (ad .W) = some (.lst (refsTo ad .w (List.range (2 * u.n)))) := A0.all .W True.intro
    have atW : atI (refsTo ad .w (List.range (2 * u.n))) (x : Int) = some (.ref (ad (.w x))) := atI_nat (by
      unfold refsTo
      rw [List.getElem?_map, List.getElem?_range hx]
      rfl)
    refine ⟨_, rfl, _, Cu, dx, fs, _, rfl, hp, PK.cls, PK.no .st, F0.get .st, ?_⟩
    refine ⟨_, rfl, _, Cu, dx, fs, _, rfl, hp, PK.cls, PK.no .wa, F0.get .wa, _, rfl, ad .W, _, (x : Int), _, rfl, rfl, SqL.of hW, atW, ad (.w x), _, rfl, .inl (SqL.of hw), fun lr hlr => ?_⟩
    have nlr : ∀ r, vld u r → lr ≠ ad r := fun r hr e => by
      obtain ⟨o, ho⟩ := A0.has hr
      rw [← e, hlr] at ho
      cases ho
    have A1 : UAt K Cu Cr (upd H lr (.lst (refsTo ad .row (u.wt x)))) ad u := A0.same (same_new hlr _)
    have hb : (upd H lr (.lst (refsTo ad .row (u.wt x)))) lr = some (.lst (refsTo ad .row (u.wt x))) := upd_same
    have Cb : Chg (vld u) ad H (upd H lr (.lst (refsTo ad .row (u.wt x)))) := Chg.of_same (same_new hlr _)
    refine ⟨Nat.zero_le _, fun k hk => ?_⟩
    have A2 := A1.reW hx hk
    have A1' : UAt K Cu Cr (upd (upd H lr (.lst (refsTo ad .row (u.wt x)))) k (.lst [])) ad u := A1.same (same_new hk _)
    obtain ⟨dx1, fs1, hp1, F1⟩ := A1'.fs
    refine ⟨_, rfl, _, rfl, _, Cu, dx1, fs1, _, rfl, hp1, PK.cls, PK.no .wa, F1.get .wa, _, rfl, ad .W, _, (x : Int), x, rfl, rfl, A1'.all .W True.intro, ixN_nat (by unfold refsTo; rw [List.length_map, List.length_range]; exact hx), ?_⟩
    have hk0 : H k = none := by
      have hk : (upd H lr (.lst (refsTo ad .row (u.wt x)))) k = none := hk
      by_cases e : k = lr
      · rw [e, upd_same] at hk; cases hk
      · rwa [upd_ne e] at hk
    have nk : ∀ r, vld u r → k ≠ ad r := fun r hr e => by
      obtain ⟨o, ho⟩ := A0.has hr
      rw [← e, hk0] at ho
      cases ho
    have C0' : Chg (vld u) ad (upd H lr (.lst (refsTo ad .row (u.wt x)))) (upd (upd (upd H lr (.lst (refsTo ad .row (u.wt x)))) k (.lst [])) (ad .W) (.lst ((refsTo ad .w (List.range (2 * u.n))).set x (.ref k)))) := (Chg.refl.fresh hk _).trans (Chg.put (r := .W) True.intro _)
    revert hb Cb hk C0' A2
    clear A1 A1' hp1 F1
    show _ → _ → _ → _ → _ → _
    generalize upd (upd (upd H lr (.lst (refsTo ad .row (u.wt x)))) k (.lst [])) (ad .W) (.lst ((refsTo ad .w (List.range (2 * u.n))).set x (.ref k))) = G0
    generalize upd H lr (.lst (refsTo ad .row (u.wt x))) = Hb
    intro hb Cb hk A2 C0'
    have hb0 : G0 lr = some (.lst (refsTo ad .row (u.wt x))) := C0' _ _ nlr hb
    refine ⟨_, rfl, lr, rfl, ⟨_, SqL.of hb0⟩, for_list (K := K) (a := lr) (xs := refsTo ad .row (u.wt x)) (fun i σ' G => ∃ (u1 : US) (o5 : V) (o6 o7 o8 : Option V), σ' = [some (.ref (ad .p)), some (nat x), some (.ref (ad .S)), some (.ref lr), some (.ref k), some o5, o6, o7, o8] ∧ RB K Cu Cr F Cf Hb ad u x d (u.wt x) k i G u1 ∧ OF ad Cf x o5 u1) ⟨u.at x [], .non, none, none, none, rfl, ⟨A2, C0', ⟨rfl, rfl, rfl, rfl, rfl, rfl, List.prefix_refl _⟩, ?_⟩, .inl ⟨rfl, fun j hj => by rw [at_x] at hj; cases hj⟩⟩ (fun i σ' G _ ⟨u1, _, _, _, _, _, B, _⟩ => SqL.of (B.C _ _ nlr hb)) ?_ ?_⟩
    · show Lg F Cf (((u.dn d).at x []).at x ((u.at x []).wt x ++ (u.wt x).drop 0))
      rw [at_x, at_at, List.drop_zero, List.nil_append]
      rw [show u.wt x = (u.dn d).wt x from rfl, at_self]
      exact L0
    · rintro i y σ' G hi ⟨u1, o5, o6, o7, o8, rfl, B, O⟩
      have hi : (refsTo ad .row (u.wt x))[i]? = some y := hi
      unfold refsTo at hi
      rw [List.getElem?_map] at hi
      obtain ⟨j, hj, rfl⟩ := Option.map_eq_some_iff.mp hi
      have n1 : u1.n = u.n := B.R.nn
      have hx1 : x < 2 * u1.n := by rw [n1]; exact hx
      have L1 := B.L
      have S1 : StOk u1.n u1.st u1.trail := L1.so
      have hnx1 : neg x ∈ u1.trail := B.R.pre.subset hnx
      have je : j ∈ ((u1.dn d).at x (u1.wt x ++ (u.wt x).drop i)).wt x := by rw [at_x, drop_at hj]; simp
      obtain ⟨r, o, hr, h3, ho, hl, hxr, hor, nox, hol, hwj⟩ := L1.w.at_ (x := x) (j := j) hx1 je
      have hr : u1.rows[j]? = some r := hr
      have hol : o < 2 * u1.n := hol
      have jl := (List.getElem?_eq_some_iff.mp hr).1
      obtain ⟨dxr, fsr, r', hr', hrow, Fr⟩ := B.A.all (.row j) jl
      rw [hr] at hr'
      obtain rfl := Option.some.inj hr'
      have hrow : G (ad (.row j)) = some (.ins Cr dxr fsr) := hrow
      obtain ⟨so, hso, hat⟩ := stat S1 hol
      have hS1 : G (ad .S) = some (.lst (u1.st.map V.int)) := B.A.all .S True.intro
      have hk1 := B.hk hx
      have B2 := B.keep hx hk hj
      have hrm : r ∈ u1.rows := List.mem_of_getElem? hr
      refine ⟨_, rfl, _, Cr, dxr, fsr, _, rfl, hrow, QK.cls, QK.nl, Fr.link, _, rfl, rI0_to (v := nat o) rfl rfl (by show V.int (Builtin.bitXor (r.2 : Int) (x : Int)) = nat o; rw [bxx, ho]; rfl) ?_⟩
      refine ⟨_, rfl, rfl, _, rfl, ite2 (fun c => ite2 (fun _ => ?_) (fun z => absurd rfl z)) (fun c => ⟨_, rfl, _, rfl, ad .S, _, (o : Int), _, rfl, rfl, SqL.of hS1, hat, rfl, _, rfl, ite2 (fun c2 => ?_) (fun c2 => ?_)⟩)⟩
      · refine ⟨_, rfl, .inl ⟨rfl, _, SqL.of hk1⟩, _, rfl, k, _, _, rfl, rfl, hk1, B.ksize hx, ⟨_, o5, _, _, _, rfl, B2, ?_⟩⟩
        rcases O with ⟨e, _⟩ | O
        · rw [e] at c
          cases c
        · exact .inr O
      · have e5 : o5 = .non := by
          by_cases e : o5 = .non
          · exact e
          · exact absurd (by rw [decide_eq_false e]; rfl) c
        rw [veq] at c2
        have c2 : so = 1 := of_decide_eq_true c2
        rw [c2] at hso
        have hot := (S1.t o hol).1 hso
        refine ⟨_, rfl, .inl ⟨rfl, _, SqL.of hk1⟩, _, rfl, k, _, _, rfl, rfl, hk1, B.ksize hx, ⟨_, o5, _, _, _, rfl, B2, ?_⟩⟩
        rcases O with ⟨_, O⟩ | ⟨⟨j', e⟩, _⟩
        · refine .inl ⟨e5, fun j' hj' r' hr' => ?_⟩
          rw [at_x] at hj'
          rcases List.mem_append.mp hj' with m | m
          · exact O j' m r' hr'
          · rw [List.mem_singleton.mp m] at hr'
            have hr' : u1.rows[j]? = some r' := hr'
            rw [hr] at hr'
            obtain rfl := Option.some.inj hr'
            rw [ho]
            exact hot
        · rw [e5] at e
          cases e
      · have e5 : o5 = .non := by
          by_cases e : o5 = .non
          · exact e
          · exact absurd (by rw [decide_eq_false e]; rfl) c
        subst e5
        rw [veq] at c2
        have c2 : so ≠ 1 := fun e => c2 (decide_eq_true e)
        have O : ∀ j ∈ u1.wt x, ∀ r, u1.rows[j]? = some r → r.2 ^^^ x ∈ u1.trail := by
          rcases O with ⟨_, O⟩ | ⟨⟨_, e⟩, _⟩
          · exact O
          · cases e
        obtain ⟨r2, hr2, hpart⟩ := B.A.all (.part j) jl
        rw [hr] at hr2
        obtain rfl := Option.some.inj hr2
        have hpart : G (ad (.part j)) = some (.lst (r.1.map nat)) := hpart
        have Fp : fsr.lookup ("parts" : Str) = some (.ref (ad (.part j))) := Fr.parts
        refine ⟨_, rfl, _, Cr, dxr, fsr, _, rfl, hrow, QK.cls, QK.np, Fp, ad (.part j), rfl, ⟨_, SqL.of hpart⟩, forE_by r.1.length (fun m σ' G' => ∃ o8, σ' = [some (.ref (ad .p)), some (nat x), some (.ref (ad .S)), some (.ref lr), some (.ref k), some .non, some (.ref (ad (.row j))), some (nat o), o8] ∧ G' = G ∧ ∀ y ∈ r.1.take m, neg y ∈ u1.trail ∨ y = o) ⟨_, rfl, rfl, fun y hy => by cases hy⟩ ?_ ?_ ?_ ?_⟩
        · rintro m σ' H2 hm ⟨o8', _, e2, _⟩
          subst H2
          exact ⟨_, nat r.1[m], SqL.of hpart, by rw [List.getElem?_map, List.getElem?_eq_getElem hm]; rfl⟩
        · rintro σ' H2 ⟨o8', _, e2, _⟩
          subst H2
          exact ⟨_, SqL.of hpart, by rw [List.length_map]; exact Nat.le_refl _⟩
        · rintro m z σ' H2 H3 hm ⟨o8', rfl, e2, T⟩ ⟨e3, hz⟩
          subst H3
          subst H2
          have hz := hz _ (SqL.of hpart)
          rw [List.getElem?_map, List.getElem?_eq_getElem hm] at hz
          obtain rfl := Option.some.inj hz
          obtain ⟨y, hy⟩ : ∃ y, r.1[m] = y := ⟨_, rfl⟩
          have hym : y ∈ r.1 := hy ▸ List.getElem_mem hm
          have tk : r.1.take (m + 1) = r.1.take m ++ [y] := take_next (by rw [List.getElem?_eq_getElem hm, hy])
          rw [hy]
          have hyl : y < 2 * u1.n := (L1.w.ok r hrm).lt y hym
          obtain ⟨sy, hsy, haty⟩ := stat S1 hyl
          refine ⟨_, rfl, _, rfl, ad .S, _, (y : Int), _, rfl, rfl, SqL.of hS1, haty, rfl, _, rfl, ite2 (fun c3 => ?_) (fun c3 => ite2 (fun z => by cases z) (fun _ => ?_))⟩
          · have c3 : sy ≠ 0 := fun e => by
              rw [veq, decide_eq_true e] at c3
              cases c3
            have nyF : neg y ∉ u1.trail := fun e => by
              rw [(S1.f y hyl).2 e] at hsy
              cases hsy
              exact c3 rfl
            refine ⟨_, rfl, _, rfl, rfl, _, rfl, ite2 (fun c4 => ?_) (fun c4 => ?_)⟩
            · have nyo : y ≠ o := fun e => by
                rw [decide_eq_true (by rw [e])] at c4
                cases c4
              have nyx : y ≠ x := fun e => nyF (by rw [e]; exact hnx1)
              refine ⟨_, rfl, _, rfl, rI0_to (v := nat (o ^^^ y)) rfl rfl (by show V.int (Builtin.bitXor (o : Int) (y : Int)) = nat (o ^^^ y); rw [bxx]; rfl) ⟨_, rfl, _, Cr, dxr, fsr, rfl, hrow, QK.cls, QK.nl, Nat.lt_of_le_of_lt Fr.few (by decide), ?_⟩⟩
              have A3 : UAt K Cu Cr (upd G (ad (.row j)) (.ins Cr dxr (putF ("link" : Str) (nat (o ^^^ y)) fsr))) (adw ad x k) { u1 with rows := u1.rows.set j (r.1, o ^^^ y) } := B.A.putLink hr hrow
              obtain ⟨dx3, fs3, hp3, F3⟩ := A3.fs
              have hW3 : (upd G (ad (.row j)) (.ins Cr dxr (putF ("link" : Str) (nat (o ^^^ y)) fsr))) (ad .W) = some (.lst (refsTo (adw ad x k) .w (List.range (2 * u1.n)))) := A3.all .W True.intro
              have atY : atI (refsTo (adw ad x k) .w (List.range (2 * u1.n))) (y : Int) = some (.ref (ad (.w y))) := atI_nat (by
                unfold refsTo
                rw [List.getElem?_map, List.getElem?_range hyl]
                show some (V.ref (adw ad x k (.w y))) = _
                rw [adw_ne fun z => nyx (by cases z; rfl)])
              have hwy : (upd G (ad (.row j)) (.ins Cr dxr (putF ("link" : Str) (nat (o ^^^ y)) fsr))) (ad (.w y)) = some (.lst (refsTo (adw ad x k) .row (u1.wt y))) := by
                have := (show (upd G (ad (.row j)) (.ins Cr dxr (putF ("link" : Str) (nat (o ^^^ y)) fsr))) (adw ad x k (.w y)) = some (.lst (refsTo (adw ad x k) .row (u1.wt y))) from A3.all (.w y) hyl)
                rwa [adw_ne fun z => nyx (by cases z; rfl)] at this
              have sy3 : (refsTo (adw ad x k) .row (u1.wt y)).length < sizeLine := by
                have := L1.wf (x := y) hyl
                rw [at_ne _ _ nyx] at this
                unfold refsTo
                rw [List.length_map]
                exact Nat.lt_of_le_of_lt this (by decide)
              have A4 := A3.putw (i := y) hyl (u1.wt y ++ [j])
              have e4 : refsTo (adw ad x k) .row (u1.wt y ++ [j]) = refsTo (adw ad x k) .row (u1.wt y) ++ [.ref (ad (.row j))] := by
                unfold refsTo
                rw [List.map_append]
                congr 1
              rw [e4, adw_ne fun z => nyx (by cases z; rfl)] at A4
              refine ⟨_, rfl, _, Cu, dx3, fs3, _, rfl, hp3, PK.cls, PK.no .wa, F3.get .wa, _, rfl, ad .W, _, (y : Int), _, rfl, rfl, SqL.of hW3, atY, .inl ⟨rfl, _, SqL.of hwy⟩, _, rfl, ad (.w y), _, _, rfl, rfl, hwy, sy3, ?_⟩
              refine ⟨_, .non, _, _, _, rfl, ⟨A4, (B.C.trans (Chg.put (r := .row j) ((B.R.vld (.row j)).1 jl) _)).trans (Chg.put (r := .w y) (by show y < 2 * u.n; rw [← n1]; exact hyl) _), ⟨B.R.n, B.R.pr, B.R.done, B.R.brk, B.R.lev, (set_fst hr).trans B.R.rl, B.R.pre⟩, ?_⟩, .inl ⟨rfl, fun j' hj' r' hr' => ?_⟩⟩
              · have hd1 : neg x ∉ ((u1.dn d).at x (u1.wt x ++ (u.wt x).drop i)).trail.take ((u1.dn d).at x (u1.wt x ++ (u.wt x).drop i)).done := by
                  intro m
                  have m : neg x ∈ u1.trail.take d := m
                  obtain ⟨t, et⟩ := B.R.pre
                  have dl : d ≤ u.trail.length := L0.dn
                  rw [← et, List.take_append_of_le_length dl] at m
                  exact hnd m
                have := L1.moved (x := x) (y := y) (o := o) (j := j) (r := r) (a := u1.wt x) (b := (u.wt x).drop (i + 1)) (wt' := fun z => if z = x then u1.wt x ++ (u.wt x).drop (i + 1) else if z = y then u1.wt y ++ [j] else u1.wt z) hx1 hnx1 hd1 (by rw [at_x, drop_at hj]) hr ho hym nyF nyo (if_pos rfl) (by rw [if_neg nyx, if_pos rfl, at_ne _ _ nyx]; rfl) (fun z z1 z2 => by rw [if_neg z1, if_neg z2, at_ne _ _ z1]; rfl)
                have ex : (({ u1 with rows := u1.rows.set j (r.1, o ^^^ y) } : US).at y (u1.wt y ++ [j])).wt x = u1.wt x := at_ne _ _ fun z => nyx z.symm
                show Lg F Cf ((((({ u1 with rows := u1.rows.set j (r.1, o ^^^ y) } : US).at y (u1.wt y ++ [j]))).dn d).at x ((({ u1 with rows := u1.rows.set j (r.1, o ^^^ y) } : US).at y (u1.wt y ++ [j])).wt x ++ (u.wt x).drop (i + 1)))
                rw [ex]
                exact this
              · have hj' : j' ∈ u1.wt x := by
                  have hj' : j' ∈ (({ u1 with rows := u1.rows.set j (r.1, o ^^^ y) } : US).at y (u1.wt y ++ [j])).wt x := hj'
                  rwa [at_ne _ _ fun z => nyx z.symm] at hj'
                have ndx := L1.w.nd x hx1
                rw [at_x, drop_at hj] at ndx
                have hne : j ≠ j' := fun e => (List.nodup_append.mp ndx).2.2 j' hj' j List.mem_cons_self e.symm
                have hr' : (u1.rows.set j (r.1, o ^^^ y))[j']? = some r' := hr'
                rw [List.getElem?_set, if_neg hne] at hr'
                exact O j' hj' r' hr'
            · have c4 : y = o := by
                by_cases e : y = o
                · exact e
                · exact absurd (by unfold nat; rw [veq, decide_eq_false fun z => e (by omega)]; rfl) c4
              refine ⟨_, rfl, rfl, fun w hw => ?_⟩
              rw [tk] at hw
              rcases List.mem_append.mp hw with q | q
              · exact T w q
              · rw [List.mem_singleton.mp q]; exact .inr c4
          · have c3 : sy = 0 := by
              by_cases e : sy = 0
              · exact e
              · exact absurd (by rw [veq, decide_eq_false e]; rfl) c3
            rw [c3] at hsy
            refine ⟨_, rfl, rfl, fun w hw => ?_⟩
            rw [tk] at hw
            rcases List.mem_append.mp hw with q | q
            · exact T w q
            · rw [List.mem_singleton.mp q]; exact .inl ((S1.f y hyl).1 hsy)
        · rintro σ' H2 ⟨o8', rfl, e2, T⟩
          subst H2
          rw [List.take_length] at T
          have hFo : ∀ y ∈ r.1, y ≠ o → F (neg y) := fun y hy ne => L1.s.tr _ ((T y hy).resolve_right ne)
          refine ⟨_, rfl, .inl ⟨rfl, _, SqL.of hk1⟩, _, rfl, k, _, _, rfl, rfl, hk1, B.ksize hx, ?_⟩
          have hS2 : (upd G k (.lst (refsTo (adw ad x k) .row (u1.wt x) ++ [.ref (ad (.row j))]))) (ad .S) = some (.lst (u1.st.map V.int)) := B2.A.all .S True.intro
          refine ⟨_, rfl, _, rfl, ad .S, _, (o : Int), _, rfl, rfl, SqL.of hS2, hat, rfl, _, rfl, ite2 (fun c3 => ?_) (fun c3 => ?_)⟩
          · rw [veq] at c3
            have c3 : so = 2 := of_decide_eq_true c3
            rw [c3] at hso
            obtain ⟨dx4, fs4, hp4, F4⟩ := B2.A.fs
            have L2' := B2.L
            refine ⟨_, rfl, _, dx4, fs4, rfl, hp4, F4.no _ no_give, _, rfl, _, rfl, adw ad x k, _, o, .ref (ad (.row j)), rfl, B2.A, hol, S1.len, L1.lc, L1.ll, L1.few, by have := S1.few; have h1 : u1.n ≤ 200000 := L1.few; show u1.trail.length ≤ 400000; omega, fun H2 A5 C5 => ?_⟩
            have FO : F o := L1.s.un r hrm o hor hFo
            refine ⟨_, .non, _, _, _, rfl, ⟨A5, B2.C.trans (C5.ad fun r hr => ⟨?_, ?_⟩), ⟨B2.R.n, B2.R.pr, B2.R.done, B2.R.brk, B2.R.lev, B2.R.rl, B2.R.pre.trans (List.prefix_append _ _)⟩, ?_⟩, .inl ⟨rfl, fun j' hj' r' hr' => ?_⟩⟩
            · exact hr.vld
            · rcases hr with rfl | rfl | rfl | rfl <;> rfl
            · exact L2'.give (x := o) hol hso FO (.ref (ad (.row j)))
            · have hj' : j' ∈ (u1.at x (u1.wt x ++ [j])).wt x := hj'
              rw [at_x] at hj'
              have hr' : u1.rows[j']? = some r' := hr'
              show r'.2 ^^^ x ∈ u1.trail ++ [o]
              rcases List.mem_append.mp hj' with m | m
              · exact List.mem_append_left _ (O j' m r' hr')
              · rw [List.mem_singleton.mp m, hr] at hr'
                obtain rfl := Option.some.inj hr'
                rw [ho]
                exact List.mem_append_right _ (List.mem_singleton_self _)
          · rw [veq] at c3
            have c3 : so ≠ 2 := fun e => c3 (decide_eq_true e)
            have hno : neg o ∈ u1.trail := by
              rcases S1.o o hol with z | z | z
              · exact (S1.f o hol).1 z
              · rw [z] at hso; cases hso; exact absurd rfl c2
              · rw [z] at hso; cases hso; exact absurd rfl c3
            refine ⟨_, rfl, _, _, _, _, _, rfl, B2, .inr ⟨⟨j, rfl⟩, L1.s.cf r hrm fun y hy => ?_⟩⟩
            by_cases e : y = o
            · rw [e]; exact L1.s.tr _ hno
            · exact hFo y hy e
    · rintro σ' G ⟨u1, o5, o6, o7, o8, rfl, B, O⟩
      refine ⟨_, rfl, q G (adw ad x k) u1 o5 B.A (Cb.trans B.C) (fun r hr => adw_ne (hr x)) (fun i => ?_) B.R ?_ O⟩
      · by_cases e : i = x
        · rw [e, adw_x]; exact .inr hk0
        · exact .inl (adw_ne fun z => e (by cases z; rfl))
      · have := B.L
        rw [show (refsTo ad Rl.row (u.wt x)).length = (u.wt x).length from List.length_map .., List.drop_length, List.append_nil, show u1.wt x = (u1.dn d).wt x from rfl, at_self] at this
        exact this
end
end My

set_option Elab.async false
set_option maxRecDepth 100000
set_option maxHeartbeats 4000000
set_option linter.all false
/-! Units: what a call leaves, growth. -/
namespace My
open PySem PySem.Spec PyProof.Rows L2
/-- what is outside stays, and stays outside -/
def Kp (ad ad' : Rl → Addr) (u u' : US) (H H' : Hp) : Prop := ∀ b o, (∀ r, vld u r → b ≠ ad r) → H b = some o → H' b = some o ∧ ∀ r, vld u' r → b ≠ ad' r
theorem Kp.refl {ad : Rl → Addr} {u : US} {H : Hp} : Kp ad ad u u H H := fun _ _ n e => ⟨e, n⟩
theorem Kp.trans {ad ad1 ad2 : Rl → Addr} {u u1 u2 : US} {H H1 H2 : Hp} (h : Kp ad ad1 u u1 H H1) (k : Kp ad1 ad2 u1 u2 H1 H2) : Kp ad ad2 u u2 H H2 := fun b o n e => by
  obtain ⟨e1, n1⟩ := h b o n e
  exact k b o n1 e1
theorem Kp.of {ad : Rl → Addr} {u u' : US} {H H' : Hp} (h : Chg (vld u) ad H H') (hv : ∀ r, vld u' r → vld u r) : Kp ad ad u u' H H' := fun b o n e => ⟨h b o n e, fun r hr => n r (hv r hr)⟩
theorem Kp.same {ad : Rl → Addr} {u : US} {H H' : Hp} (h : Same H H') : Kp ad ad u u H H' := fun b o n e => ⟨h b o e, n⟩
structure Mv (ad ad' : Rl → Addr) (u u' : US) (H H' : Hp) : Prop where
  p : ad' .p = ad .p
  kp : Kp ad ad' u u' H H'
  vs : u'.vs = u.vs
  brk : u'.broken = u.broken
  rl : u'.rows.map (·.1) = u.rows.map (·.1)
  pre : u.trail <+: u'.trail
theorem Mv.refl {ad : Rl → Addr} {u : US} {H : Hp} : Mv ad ad u u H H := ⟨rfl, Kp.refl, rfl, rfl, rfl, List.prefix_refl _⟩
theorem Mv.trans {ad ad1 ad2 : Rl → Addr} {u u1 u2 : US} {H H1 H2 : Hp} (h : Mv ad ad1 u u1 H H1) (k : Mv ad1 ad2 u1 u2 H1 H2) : Mv ad ad2 u u2 H H2 :=
  ⟨k.p.trans h.p, h.kp.trans k.kp, k.vs.trans h.vs, k.brk.trans h.brk, k.rl.trans h.rl, h.pre.trans k.pre⟩
theorem vld_of {u u' : US} (hn : u'.vs = u.vs) (hl : u'.rows.map (·.1) = u.rows.map (·.1)) (r : Rl) : vld u' r ↔ vld u r := by
  have h1 : u'.n = u.n := by unfold US.n; rw [hn]
  have h2 : u'.rows.length = u.rows.length := by
    have := congrArg List.length hl
    rwa [List.length_map, List.length_map] at this
  cases r <;> first | exact Iff.rfl | (show _ < 2 * u'.n ↔ _; rw [h1]; exact Iff.rfl) | (show _ < u'.rows.length ↔ _; rw [h2]; exact Iff.rfl)
/-- the next one was looked at -/
theorem Lg.next {F : Nat → Prop} {Cf : Prop} {u : US} {k x : Nat} (h : Lg F Cf (u.dn k)) (hd : u.done = k + 1) (hx : u.trail[k]? = some x) (q : QAt u (neg x)) : Lg F Cf u := by
  refine ⟨h.few, h.so, h.w, h.s, fun z hz => ?_, h.lc, h.ll, ?_, h.rl, h.pf⟩
  · rw [hd, List.take_add_one, hx] at hz
    rcases List.mem_append.mp hz with m | m
    · exact h.q z m
    · rw [show z = x by simpa using m]
      exact q
  · rw [hd]
    exact (List.getElem?_eq_some_iff.mp hx).1
end My

set_option Elab.async false
set_option maxRecDepth 100000
set_option maxHeartbeats 4000000
set_option linter.all false
namespace My
open PySem L2 PyProof.Rows
open C8 (pss_cut)
def spSpread (K : PySem.W.Frag) (Cu Cr : Addr) : Sp := fun vs H Q _ => ∃ (ad : Rl → Addr) (u : US) (F : Nat → Prop) (Cf : Prop), vs = [.ref (ad .p)] ∧ UAt K Cu Cr H ad u ∧ Lg F Cf u ∧
  ∀ H' ad' u' v, UAt K Cu Cr H' ad' u' → Mv ad ad' u u' H H' → (∃ d, Lg F Cf (u'.dn d)) → ((v = .non ∧ Lg F Cf u' ∧ u'.done = u'.trail.length) ∨ (∃ a, v = .ref a) ∧ Cf) → Q v H'
theorem opC_to {g : Int → Int → V} {σ : L2.St} {H : Hp} {Q : VK} {x v : V} {i j : Int} (hx : x = .int i) (hv : g i j = v) (q : Q v H) : tC (.int j) σ H fun y H2 => rI0 g x y H2 Q := ⟨i, j, hx, rfl, hv ▸ q⟩
theorem no_sp : ∀ d, ("spread_pairs" : Str) ≠ fname d := fun d => by cases d <;> decide +kernel
theorem no_sr : ∀ d, ("spread_rows" : Str) ≠ fname d := fun d => by cases d <;> decide +kernel
section
variable {P : Program} {w : World} {K : PySem.W.Frag} {mg : Str → Option Value} {base : Heap} {f Cu Cr : Addr} {fd : FuncData}
theorem ok_spread (T : Txt K mg) (PK : UK K Cu) (D : DefM K Cu "spread" "Units.spread" ["self"] s_Units_spread f fd) (O1 : OwnM P w K mg base Cu "spread_pairs" ["self", "x"] 2 (spPairs K Cu Cr)) (O2 : OwnM P w K mg base Cu "spread_rows" ["self", "x"] 2 (spRows K Cu Cr)) : OwnM P w K mg base Cu "spread" ["self"] 3 (spSpread K Cu Cr) := by
  obtain ⟨fspread_pairs, fdspread_pairs, Mspread_pairs, bspread_pairs, Gspread_pairs⟩ := O1
  obtain ⟨fspread_rows, fdspread_rows, Mspread_rows, bspread_rows, Gspread_rows⟩ := O2
  refine ⟨f, fd, D.me, D.bd, D.fn.ok sc_Units_spread (fun vs H Q E h => ?_) (fun cdv A outer s H vs Q E hr h => ?_)⟩
  · obtain ⟨ad, u, F, Cf, rfl, _⟩ := h
    rfl
  · obtain ⟨ad, u, F, Cf, rfl, A0, L0, q⟩ := h
    refine ⟨_, (pss_cons (ps_while PassesOwn.never (pt_cmpR op_lt (pe_fld (pv 0) (by rfl)) (pe_callB call_len_seq (by rfl) T.m_len (by decide +kernel) (pa_cons (pe_fld (pv 0) (by rfl)) pa_nil)) (nomark _)) (pss_cons (ps_set (i := 1) sc_Units_spread.nd rfl (Or.inl rfl) (pe_op op_xor (pe_ix ix_list (pe_fld (pv 0) (by rfl)) (pe_fld (pv 0) (by rfl)) (fun _ _ => rfl)) pe_int))
      (pss_cons (ps_fldaug (pv 0) pe_int iop_add)
      (pss_cons (ps_set (i := 2) sc_Units_spread.nd rfl (Or.inl rfl) (pe_meth (pv 0) PK.cls Mspread_pairs Gspread_pairs (hr.mono (by omega)) bspread_pairs .nil pass0 (pa_cons (pv 1) pa_nil)))
      (pss_cut (ps_if (PW.pt (pw_and (pt_cmpR op_isN (pv 2) pe_non (nomark _)) (pw_and1 (pt_cmpR op_gt (pe_callB call_len_seq (by rfl) T.m_len (by decide +kernel) (pa_cons (pe_ix ix_list (pe_fld (pv 0) (by rfl)) (pv 1) (fun _ _ => rfl)) pa_nil)) pe_int (nomark _))))) (pss_one (ps_set (i := 2) sc_Units_spread.nd rfl (Or.inl rfl) (pe_meth (pv 0) PK.cls Mspread_rows Gspread_rows (hr.mono (by omega)) bspread_rows .nil pass0 (pa_cons (pv 1) pa_nil)))) pss_nil)
      (pss_one (ps_if (pt_cmpR op_notN (pv 2) pe_non (nomark _)) (pss_one (ps_ret (pv 2))) pss_nil)))))))
      (pss_one (ps_ret pe_non))), ?_⟩
    refine ⟨fun m σ' G => ∃ (ad1 : Rl → Addr) (u1 : US) (o1 o2 : Option V), σ' = [some (.ref (ad1 .p)), o1, o2] ∧ UAt K Cu Cr G ad1 u1 ∧ Mv ad ad1 u u1 H G ∧ Lg F Cf u1 ∧ m = u.n - u1.done, ⟨_, ad, u, none, none, rfl, A0, Mv.refl, L0, rfl⟩, ?_⟩
    rintro m σ' G ⟨ad1, u1, o1, o2, rfl, A1, M1, L1, rfl⟩
    obtain ⟨dx, fs, hp, F1⟩ := A1.fs
    have hT : G (ad1 .T) = some (.lst (u1.trail.map nat)) := A1.all .T True.intro
    refine ⟨_, rfl, _, Cu, dx, fs, _, rfl, hp, PK.cls, PK.no .dn, F1.get .dn, _, rfl, _, Cu, dx, fs, _, rfl, hp, PK.cls, PK.no .tr, F1.get .tr, ad1 .T, _, rfl, .inl (SqL.of hT), _, _, rfl, rfl, _, rfl, ite2 (fun c => ?_) (fun c => ?_)⟩
    · have hlt : u1.done < u1.trail.length := by
        have := of_decide_eq_true c
        rw [List.length_map] at this
        omega
      obtain ⟨y, hy⟩ : ∃ y, u1.trail[u1.done]? = some y := ⟨_, List.getElem?_eq_getElem hlt⟩
      have hym : y ∈ u1.trail := List.mem_of_getElem? hy
      have hyl : y < 2 * u1.n := L1.so.lt y hym
      have n1 : u1.n = u.n := by unfold US.n; rw [M1.vs]
      have fw := L1.so.few
      refine ⟨fun σ' G' => ∃ (ad2 : Rl → Addr) (u2 : US) (o1 o2 : Option V), σ' = [some (.ref (ad2 .p)), o1, o2] ∧ UAt K Cu Cr G' ad2 u2 ∧ Mv ad ad2 u u2 H G' ∧ Lg F Cf u2 ∧ u2.done = u1.done + 1, ?_, ?_⟩
      · rintro σ' G' ⟨ad2, u2, o1, o2, rfl, A2, M2, L2, e2⟩
        exact ⟨_, by rw [e2]; omega, ad2, u2, o1, o2, rfl, A2, M2, L2, rfl⟩
      · refine ⟨_, rfl, _, Cu, dx, fs, _, rfl, hp, PK.cls, PK.no .tr, F1.get .tr, _, rfl, _, Cu, dx, fs, _, rfl, hp, PK.cls, PK.no .dn, F1.get .dn, ad1 .T, _, (u1.done : Int), _, rfl, rfl, SqL.of hT, atI_nat (v := nat y) (by rw [List.getElem?_map, hy]; rfl), ?_⟩
        refine opC_to (v := nat (neg y)) rfl (congrArg V.int (bx1 y)) ?_
        have few : fs.length < 1000 := Nat.lt_of_le_of_lt F1.few (by decide)
        refine ⟨_, rfl, _, Cu, dx, fs, _, rfl, hp, PK.cls, PK.no .dn, F1.get .dn, opC_to (v := nat (u1.done + 1)) rfl rfl ⟨dx, fs, hp, few, ?_⟩⟩
        have A2 := A1.putDone (u1.done + 1) hp
        have C2 : Chg (vld u1) ad1 G (upd G (ad1 .p) (.ins Cu dx (putF (fname .dn) (nat (u1.done + 1)) fs))) := Chg.put (r := .p) True.intro _
        obtain ⟨dx2, fs2, hp2, F2⟩ := A2.fs
        have L2' : Lg F Cf (({ u1 with done := u1.done + 1 } : US).dn u1.done) := L1
        have hxl : neg y < 2 * u1.n := neg_lt hyl
        have hnx : neg (neg y) ∈ u1.trail := by rw [neg_neg]; exact hym
        have hnd : neg (neg y) ∉ u1.trail.take u1.done := by
          rw [neg_neg]
          intro m
          have nd := L1.so.nd
          obtain ⟨i, hi⟩ := List.getElem?_of_mem m
          have hi' := (List.getElem?_eq_some_iff.mp hi).1
          rw [List.length_take] at hi'
          rw [List.getElem?_take_of_lt (by omega)] at hi
          have := (List.getElem?_inj (by omega) nd).1 (hi.trans hy.symm)
          omega
        refine ⟨_, rfl, _, dx2, fs2, rfl, hp2, F2.no _ no_sp, _, rfl, ad1, _, neg y, u1.done, F, Cf, rfl, A2, L2', hxl, hnx, fun G3 u3 A3 C3 M3 L3 T3 => ?_, fun G3 u3 j A3 C3 M3 L3 hc => ?_⟩
        · have d3 : u3.done = u1.done + 1 := M3.done
          have hx3 : neg y < 2 * u3.n := by rw [M3.n]; exact hxl
          have V3 : u3.vs = u1.vs := by obtain ⟨⟨_, _, _, _, rfl⟩, _⟩ := M3; rfl
          have Mu : Mv ad1 ad1 u1 u3 G G3 := ⟨rfl, Kp.of (C2.trans (C3.wide fun r h => h.vld)) (fun r => (vld_of V3 (by rw [M3.rows]) r).1), V3, M3.broken, by rw [M3.rows], M3.pre⟩
          refine ⟨fun σ' G' => ∃ (ad2 : Rl → Addr) (u2 : US) (v : V), σ' = [some (.ref (ad2 .p)), some (nat (neg y)), some v] ∧ UAt K Cu Cr G' ad2 u2 ∧ Mv ad ad2 u u2 H G' ∧ Lg F Cf (u2.dn u1.done) ∧ u2.done = u1.done + 1 ∧ u1.trail <+: u2.trail ∧ ((v = .non ∧ QAt u2 (neg y)) ∨ (∃ a, v = .ref a) ∧ Cf), ?_, ?_⟩
          · obtain ⟨dx3, fs3, hp3, F3⟩ := A3.fs
            have hw3 : G3 (ad1 (.w (neg y))) = some (.lst (refsTo ad1 .row (u3.wt (neg y)))) := A3.all (.w (neg y)) hx3
            have hW3 : G3 (ad1 .W) = some (.lst (refsTo ad1 .w (List.range (2 * u3.n)))) := A3.all .W True.intro
            have atW : atI (refsTo ad1 .w (List.range (2 * u3.n))) ((neg y : Nat) : Int) = some (.ref (ad1 (.w (neg y)))) := atI_nat (by
              unfold refsTo
              rw [List.getElem?_map, List.getElem?_range hx3]
              rfl)
            refine ⟨_, rfl, rfl, _, rfl, ite2 (fun _ => ?_) (fun z => absurd rfl z)⟩
            refine ⟨_, rfl, _, Cu, dx3, fs3, _, rfl, hp3, PK.cls, PK.no .wa, F3.get .wa, _, rfl, ad1 .W, _, ((neg y : Nat) : Int), _, rfl, rfl, SqL.of hW3, atW, ad1 (.w (neg y)), _, rfl, .inl (SqL.of hw3), _, _, rfl, rfl, _, rfl, ite2 (fun c3 => ?_) (fun c3 => ?_)⟩
            · refine ⟨_, rfl, _, dx3, fs3, rfl, hp3, F3.no _ no_sr, _, rfl, ad1, u3, neg y, u1.done, F, Cf, rfl, A3, L3, hx3, M3.mem hnx, ?_, fun G4 ad4 u4 v4 A4 C4 e4 w4 R4 L4 O4 => ?_⟩
              · obtain ⟨t, et⟩ := M3.pre
                have et : u1.trail ++ t = u3.trail := et
                rw [← et, List.take_append_of_le_length (by omega)]
                exact hnd
              · have p4 : ad4 .p = ad1 .p := e4 _ fun _ z => by cases z
                refine ⟨ad4, u4, v4, by rw [p4]; rfl, A4, (M1.trans Mu).trans ⟨p4, fun b o n e => ⟨C4 b o n e, fun r hr => ?_⟩, R4.n, R4.brk, R4.rl, R4.pre⟩, L4, R4.done.trans d3, M3.pre.trans R4.pre, ?_⟩
                · have hr' := (R4.vld r).1 hr
                  by_cases hw : ∃ i, r = .w i
                  · obtain ⟨i, rfl⟩ := hw
                    rcases w4 i with z | z
                    · rw [z]; exact n _ hr'
                    · intro z2
                      rw [← z2, e] at z
                      cases z
                  · rw [e4 r fun i z => hw ⟨i, z⟩]
                    exact n r hr'
                · rcases O4 with ⟨e, O4⟩ | ⟨⟨j, e⟩, hc⟩
                  · exact .inl ⟨e, O4, fun z hz => R4.pre.subset (T3 z (by rw [R4.pr, M3.pr] at hz; exact hz))⟩
                  · exact .inr ⟨⟨_, e⟩, hc⟩
            · have c3 : (refsTo ad1 .row (u3.wt (neg y))).length = 0 := by
                by_cases e : (refsTo ad1 .row (u3.wt (neg y))).length = 0
                · exact e
                · exact absurd (decide_eq_true (by omega)) c3
              have c3 : u3.wt (neg y) = [] := by
                unfold refsTo at c3
                rw [List.length_map] at c3
                exact List.eq_nil_of_length_eq_zero c3
              exact ⟨ad1, u3, .non, rfl, A3, M1.trans Mu, L3, d3, M3.pre, .inl ⟨rfl, fun j hj => by rw [c3] at hj; (cases hj), fun z hz => T3 z (by rw [M3.pr] at hz; exact hz)⟩⟩
          · rintro σ' G5 ⟨ad5, u5, v5, rfl, A5, M5, L5, d5, p5, O5⟩
            refine ⟨_, rfl, rfl, _, rfl, ite2 (fun c5 => ?_) (fun c5 => ?_)⟩
            · rcases O5 with ⟨e, _⟩ | ⟨⟨a, e⟩, hc⟩
              · rw [e] at c5; cases c5
              · subst e
                exact ⟨_, rfl, q G5 ad5 u5 _ A5 M5 ⟨_, L5⟩ (.inr ⟨⟨_, rfl⟩, hc⟩)⟩
            · rcases O5 with ⟨e, hq⟩ | ⟨⟨a, e⟩, hc⟩
              · have h5 : u5.trail[u1.done]? = some y := by
                  obtain ⟨t, et⟩ := p5
                  rw [← et, List.getElem?_append_left hlt]
                  exact hy
                exact ⟨ad5, u5, _, _, rfl, A5, M5, L5.next d5 h5 hq, d5⟩
              · subst e
                exact absurd rfl c5
        · have V3 : u3.vs = u1.vs := by obtain ⟨⟨_, _, _, _, rfl⟩, _⟩ := M3; rfl
          have Mu : Mv ad1 ad1 u1 u3 G G3 := ⟨rfl, Kp.of (C2.trans (C3.wide fun r h => h.vld)) (fun r => (vld_of V3 (by rw [M3.rows]) r).1), V3, M3.broken, by rw [M3.rows], M3.pre⟩
          refine ⟨fun σ' G' => σ' = [some (.ref (ad1 .p)), some (nat (neg y)), some (.ref (ad1 (.row j)))] ∧ G' = G3, ?_, ?_⟩
          · refine ⟨_, rfl, rfl, _, rfl, ite2 (fun c => by cases c) (fun _ => ite2 (fun c => by cases c) fun _ => ⟨rfl, rfl⟩)⟩
          · rintro σ' G5 ⟨rfl, e5⟩
            subst G5
            refine ⟨_, rfl, rfl, _, rfl, ite2 (fun c5 => ?_) (fun c5 => absurd rfl c5)⟩
            exact ⟨_, rfl, q G3 ad1 u3 _ A3 (M1.trans Mu) ⟨_, L3⟩ (.inr ⟨⟨_, rfl⟩, hc⟩)⟩
    · have hge : u1.done = u1.trail.length := by
        have h1 := L1.dn
        have h2 : ¬ ((u1.done : Int) < ((u1.trail.map nat).length : Int)) := fun z => c (decide_eq_true z)
        rw [List.length_map] at h2
        omega
      exact q G ad1 u1 .non A1 M1 ⟨u1.done, L1⟩ (.inl ⟨rfl, L1, hge⟩)
end
end My

set_option Elab.async false
set_option maxRecDepth 100000
set_option maxHeartbeats 4000000
set_option linter.all false
/-! Units: one more row. -/
namespace My
open PySem PySem.Spec PyProof.Rows L2
theorem get_app {α : Type} {l : List α} {a b : α} {i : Nat} (h : (l ++ [a])[i]? = some b) : l[i]? = some b ∨ (i = l.length ∧ b = a) := by
  rcases Nat.lt_or_ge i l.length with c | c
  · rw [List.getElem?_append_left c] at h
    exact .inl h
  · rw [List.getElem?_append_right c] at h
    have : i - l.length = 0 := by
      by_cases e : i - l.length = 0
      · exact e
      · rw [List.getElem?_singleton, if_neg e] at h
        cases h
    rw [this] at h
    cases h
    exact .inr ⟨by omega, rfl⟩
theorem app_get {α : Type} {l : List α} {a b : α} {i : Nat} (h : l[i]? = some b) : (l ++ [a])[i]? = some b := by
  rw [List.getElem?_append_left (List.getElem?_eq_some_iff.mp h).1]
  exact h
theorem app_last {α : Type} {l : List α} {a : α} : (l ++ [a])[l.length]? = some a := by
  rw [List.getElem?_append_right (Nat.le_refl _), Nat.sub_self]
  rfl
section
variable {F : Nat → Prop} {Cf : Prop} {u : US} {x y : Nat} {parts : List Nat}
theorem SOk.add {rows : List (List Nat × Nat)} {tr : List Nat} (h : SOk F Cf rows tr) {r : List Nat × Nat} (un : ∀ l ∈ r.1, (∀ y ∈ r.1, y ≠ l → F (neg y)) → F l) (cf : (∀ y ∈ r.1, F (neg y)) → Cf) : SOk F Cf (rows ++ [r]) tr := by
  refine ⟨h.tr, fun s hs l hl q => ?_, fun s hs q => ?_⟩
  · rcases List.mem_append.mp hs with m | m
    · exact h.un s m l hl q
    · rw [List.mem_singleton.mp m] at hl q
      exact un l hl q
  · rcases List.mem_append.mp hs with m | m
    · exact h.cf s m q
    · rw [List.mem_singleton.mp m] at q
      exact cf q
theorem Lg.jw (h : Lg F Cf u) {z : Nat} (hz : z < 2 * u.n) {k : Nat} (hk : k ∈ u.wt z) : k < u.rows.length := by
  obtain ⟨r, hr, _⟩ := h.w.wl z hz k hk
  exact (List.getElem?_eq_some_iff.mp hr).1
theorem Lg.jp (h : Lg F Cf u) {z : Nat} (hz : z < 2 * u.n) {k : Nat × Nat} (hk : k ∈ u.pr z) : k.2 < u.rows.length := by
  obtain ⟨l, hl | hl⟩ := h.w.pl z hz k hk <;> exact (List.getElem?_eq_some_iff.mp hl).1
theorem Lg.attach3 (h : Lg F Cf u) (hd : u.done = 0) (rok : ROk u.n (parts, x ^^^ y)) (h3 : 3 ≤ parts.length) (hx : x ∈ parts) (hy : y ∈ parts) (ne : x ≠ y) (un : ∀ l ∈ parts, (∀ y ∈ parts, y ≠ l → F (neg y)) → F l) (cf : (∀ y ∈ parts, F (neg y)) → Cf) (rl : u.rows.length < 100000) {wt' : Nat → List Nat}
    (w1 : wt' x = u.wt x ++ [u.rows.length]) (w2 : wt' y = u.wt y ++ [u.rows.length]) (w3 : ∀ z, z ≠ x → z ≠ y → wt' z = u.wt z) : Lg F Cf { u with rows := u.rows ++ [(parts, x ^^^ y)], wt := wt' } := by
  have mem : ∀ z k, k ∈ wt' z ↔ k ∈ u.wt z ∨ (k = u.rows.length ∧ (z = x ∨ z = y)) := fun z k => by
    by_cases e1 : z = x
    · subst e1
      rw [w1, List.mem_append, List.mem_singleton]
      exact or_congr Iff.rfl ⟨fun e => ⟨e, .inl rfl⟩, fun e => e.1⟩
    · by_cases e2 : z = y
      · subst e2
        rw [w2, List.mem_append, List.mem_singleton]
        exact or_congr Iff.rfl ⟨fun e => ⟨e, .inr rfl⟩, fun e => e.1⟩
      · rw [w3 z e1 e2]
        exact ⟨.inl, fun q => q.resolve_right fun w => w.2.elim e1 e2⟩
  refine ⟨h.few, h.so, ⟨fun r hr => ?_, fun z hz => ?_, fun z hz k hk => ?_, fun k r hk h3k => ?_, fun k a b l hk => ?_, fun z hz q hq => ?_⟩, h.s.add un cf, fun z hz => ?_, h.lc, h.ll, h.dn, ?_, fun z => ?_⟩
  · rcases List.mem_append.mp hr with m | m
    · exact h.w.ok r m
    · rw [List.mem_singleton.mp m]; exact rok
  · have hl : u.rows.length ∉ u.wt z := fun m => Nat.lt_irrefl _ (h.jw hz m)
    have key : (u.wt z ++ [u.rows.length]).Nodup := List.nodup_append.mpr ⟨h.w.nd z hz, by simp, fun p hp q hq e => hl (by rw [← List.mem_singleton.mp hq, ← e]; exact hp)⟩
    show (wt' z).Nodup
    by_cases e1 : z = x
    · subst e1; rw [w1]; exact key
    · by_cases e2 : z = y
      · subst e2; rw [w2]; exact key
      · rw [w3 z e1 e2]; exact h.w.nd z hz
  · rcases (mem z k).1 hk with m | ⟨e, _⟩
    · obtain ⟨r, hr, h3r⟩ := h.w.wl z hz k m
      exact ⟨r, app_get hr, h3r⟩
    · rw [e]
      exact ⟨_, app_last, h3⟩
  · rcases get_app hk with m | ⟨e, er⟩
    · obtain ⟨a, b, ha, hb, nab, hl, hw⟩ := h.w.wp k r m h3k
      refine ⟨a, b, ha, hb, nab, hl, fun z hz => (mem z k).trans ?_⟩
      rw [hw z hz]
      exact ⟨fun q => q.resolve_right fun w => by have := (List.getElem?_eq_some_iff.mp m).1; omega, .inl⟩
    · subst er
      refine ⟨x, y, hx, hy, ne, rfl, fun z hz => (mem z k).trans ⟨fun q => ?_, fun q => .inr ⟨e, q⟩⟩⟩
      rcases q with q | q
      · have := h.jw hz q
        omega
      · exact q.2
  · rcases get_app hk with m | ⟨e, er⟩
    · exact h.w.pp k a b l m
    · have : parts = [a, b] := (congrArg Prod.fst er).symm
      rw [this] at h3
      exact absurd h3 (by show ¬ (3 ≤ 2); decide)
  · obtain ⟨l, hl | hl⟩ := h.w.pl z hz q hq
    · exact ⟨l, .inl (app_get hl)⟩
    · exact ⟨l, .inr (app_get hl)⟩
  · have hz : z ∈ u.trail.take u.done := hz
    rw [hd] at hz
    cases hz
  · show (u.rows ++ [_]).length ≤ _
    rw [List.length_append]; exact rl
  · show _ ≤ (u.rows ++ [_]).length
    rw [List.length_append]; exact Nat.le_trans (h.pf z) (Nat.le_add_right _ _)
theorem Lg.attach2 (h : Lg F Cf u) (hd : u.done = 0) (rok : ROk u.n ([x, y], x ^^^ y)) (un : ∀ l ∈ [x, y], (∀ z ∈ [x, y], z ≠ l → F (neg z)) → F l) (cf : (∀ z ∈ [x, y], F (neg z)) → Cf) (rl : u.rows.length < 100000) {pr' : Nat → List (Nat × Nat)}
    (w1 : pr' x = u.pr x ++ [(y, u.rows.length)]) (w2 : pr' y = u.pr y ++ [(x, u.rows.length)]) (w3 : ∀ z, z ≠ x → z ≠ y → pr' z = u.pr z) : Lg F Cf { u with rows := u.rows ++ [([x, y], x ^^^ y)], pr := pr' } := by
  have old : ∀ z q, q ∈ u.pr z → q ∈ pr' z := fun z q hq => by
    by_cases e1 : z = x
    · subst e1; rw [w1]; exact List.mem_append_left _ hq
    · by_cases e2 : z = y
      · subst e2; rw [w2]; exact List.mem_append_left _ hq
      · rw [w3 z e1 e2]; exact hq
  refine ⟨h.few, h.so, ⟨fun r hr => ?_, h.w.nd, fun z hz k hk => ?_, fun k r hk h3k => ?_, fun k a b l hk => ?_, fun z hz q hq => ?_⟩, h.s.add un cf, fun z hz => ?_, h.lc, h.ll, h.dn, ?_, fun z => ?_⟩
  · rcases List.mem_append.mp hr with m | m
    · exact h.w.ok r m
    · rw [List.mem_singleton.mp m]; exact rok
  · obtain ⟨r, hr, h3r⟩ := h.w.wl z hz k hk
    exact ⟨r, app_get hr, h3r⟩
  · rcases get_app hk with m | ⟨e, er⟩
    · exact h.w.wp k r m h3k
    · rw [er] at h3k
      exact absurd h3k (by show ¬ (3 ≤ 2); decide)
  · rcases get_app hk with m | ⟨e, er⟩
    · obtain ⟨p1, p2⟩ := h.w.pp k a b l m
      exact ⟨old _ _ p1, old _ _ p2⟩
    · cases er
      subst e
      exact ⟨by show _ ∈ pr' x; rw [w1]; simp, by show _ ∈ pr' y; rw [w2]; simp⟩
  · have hq : q ∈ pr' z := hq
    have key : q ∈ u.pr z → ∃ l, (u.rows ++ [([x, y], x ^^^ y)])[q.2]? = some ([z, q.1], l) ∨ (u.rows ++ [([x, y], x ^^^ y)])[q.2]? = some ([q.1, z], l) := fun hq => by
      obtain ⟨l, hl | hl⟩ := h.w.pl z hz q hq
      · exact ⟨l, .inl (app_get hl)⟩
      · exact ⟨l, .inr (app_get hl)⟩
    by_cases e1 : z = x
    · rw [e1, w1] at hq
      rcases List.mem_append.mp hq with m | m
      · exact key (by rw [e1]; exact m)
      · rw [List.mem_singleton.mp m, e1]
        exact ⟨_, .inl app_last⟩
    · by_cases e2 : z = y
      · rw [e2, w2] at hq
        rcases List.mem_append.mp hq with m | m
        · exact key (by rw [e2]; exact m)
        · rw [List.mem_singleton.mp m, e2]
          exact ⟨_, .inr app_last⟩
      · rw [w3 z e1 e2] at hq
        exact key hq
  · have hz : z ∈ u.trail.take u.done := hz
    rw [hd] at hz
    cases hz
  · show (u.rows ++ [_]).length ≤ _
    rw [List.length_append]; exact rl
  · show (pr' z).length ≤ (u.rows ++ [_]).length
    rw [List.length_append]
    have := h.pf z
    by_cases e1 : z = x
    · rw [e1, w1, List.length_append]; rw [e1] at this; exact Nat.add_le_add_right this 1
    · by_cases e2 : z = y
      · rw [e2, w2, List.length_append]; rw [e2] at this; exact Nat.add_le_add_right this 1
      · rw [w3 z e1 e2]; exact Nat.le_trans this (Nat.le_add_right _ _)
end
/-! ### in the heap -/
def adg (ad : Rl → Addr) (j : Nat) (ra pa : Addr) : Rl → Addr := fun r => if r = .row j then ra else if r = .part j then pa else ad r
section
variable {K : PySem.W.Frag} {Cu Cr : Addr} {H : Hp} {ad : Rl → Addr} {u : US} {ra pa : Addr} {j : Nat}
theorem adg_row : adg ad j ra pa (.row j) = ra := if_pos rfl
theorem adg_part : adg ad j ra pa (.part j) = pa := by unfold adg; rw [if_neg (by intro e; cases e), if_pos rfl]
theorem adg_ne {r : Rl} (h1 : r ≠ .row j) (h2 : r ≠ .part j) : adg ad j ra pa r = ad r := by unfold adg; rw [if_neg h1, if_neg h2]
theorem adg_old (hj : j = u.rows.length) {r : Rl} (h : vld u r) : adg ad j ra pa r = ad r := by
  refine adg_ne (fun e => ?_) (fun e => ?_) <;> (subst e; exact Nat.lt_irrefl _ (hj ▸ h))
theorem refs_in {ad ad' : Rl → Addr} {f : Nat → Rl} {l : List Nat} (h : ∀ i ∈ l, ad' (f i) = ad (f i)) : refsTo ad' f l = refsTo ad f l := List.map_congr_left fun i hi => by rw [h i hi]
theorem UAt.grow (A : UAt K Cu Cr H ad u) {dx : Addr} {fs : List (Str × V)} {parts : List Nat} {lk : Nat} (hw : ∀ z, z < 2 * u.n → ∀ k ∈ u.wt z, k < u.rows.length) (hq : ∀ z, z < 2 * u.n → ∀ k ∈ u.pr z, k.2 < u.rows.length)
    (hra : H ra = some (.ins Cr dx fs)) (hrf : RF pa lk fs) (hpa : H pa = some (.lst (parts.map nat))) (nr : ∀ r, vld u r → ad r ≠ ra ∧ ad r ≠ pa) :
    UAt K Cu Cr (upd H (ad .R) (.lst (refsTo ad .row (List.range u.rows.length) ++ [.ref ra]))) (adg ad u.rows.length ra pa) { u with rows := u.rows ++ [(parts, lk)] } := by
  have nrp : ra ≠ pa := fun e => by rw [e, hpa] at hra; cases hra
  have hv : ∀ r, vld ({ u with rows := u.rows ++ [(parts, lk)] } : US) r → vld u r ∨ r = .row u.rows.length ∨ r = .part u.rows.length := fun r hr => by
    cases r with
    | row i =>
      have hr : i < (u.rows ++ [(parts, lk)]).length := hr
      rw [List.length_append] at hr
      rcases Nat.lt_or_ge i u.rows.length with c | c
      · exact .inl c
      · exact .inr (.inl (by rw [show i = u.rows.length by simp at hr; omega]))
    | part i =>
      have hr : i < (u.rows ++ [(parts, lk)]).length := hr
      rw [List.length_append] at hr
      rcases Nat.lt_or_ge i u.rows.length with c | c
      · exact .inl c
      · exact .inr (.inr (by rw [show i = u.rows.length by simp at hr; omega]))
    | _ => exact .inl hr
  have old : ∀ r, vld u r → adg ad u.rows.length ra pa r = ad r := fun r h => adg_old rfl h
  have orow : ∀ i, i < u.rows.length → adg ad u.rows.length ra pa (.row i) = ad (.row i) := fun i h => old (.row i) h
  refine ⟨fun a b ha hb e => ?_, fun r hr => ?_⟩
  · rcases hv a ha with ha | ha | ha <;> rcases hv b hb with hb | hb | hb
    · rw [old a ha, old b hb] at e; exact A.inj a b ha hb e
    · rw [old a ha, hb, adg_row] at e; exact absurd e (nr a ha).1
    · rw [old a ha, hb, adg_part] at e; exact absurd e (nr a ha).2
    · rw [old b hb, ha, adg_row] at e; exact absurd e.symm (nr b hb).1
    · rw [ha, hb]
    · rw [ha, hb, adg_row, adg_part] at e; exact absurd e nrp
    · rw [old b hb, ha, adg_part] at e; exact absurd e.symm (nr b hb).2
    · rw [ha, hb, adg_row, adg_part] at e; exact absurd e.symm nrp
    · rw [ha, hb]
  · rcases hv r hr with hr | hr | hr
    · rw [old r hr]
      by_cases eR : r = .R
      · subst eR
        rw [upd_same]
        show some (HO.lst _) = some (.lst (refsTo (adg ad u.rows.length ra pa) .row (List.range (u.rows ++ [(parts, lk)]).length)))
        rw [List.length_append, show [(parts, lk)].length = 1 from rfl, List.range_succ]
        unfold refsTo
        rw [List.map_append, show (List.range u.rows.length).map (fun i => V.ref (adg ad u.rows.length ra pa (.row i))) = (List.range u.rows.length).map (fun i => V.ref (ad (.row i))) from List.map_congr_left fun i hi => by rw [orow i (List.mem_range.mp hi)]]
        show _ = some (HO.lst (_ ++ [V.ref (adg ad u.rows.length ra pa (.row u.rows.length))]))
        rw [adg_row]
      · rw [upd_ne fun z => eR (A.inj _ _ hr True.intro z)]
        have base := A.all r hr
        refine holds_mono (H := H) (fun t xs h => sqt_but (A := [ad .R]) (fun a ha => by rw [List.mem_singleton.mp ha]; exact A.mut' (r := .R) True.intro) (But.put (List.mem_singleton_self _) _) h) ?_
        cases r with
        | p =>
          obtain ⟨dx, fs, e, F⟩ := base
          refine ⟨dx, fs, e, fun d => ?_, F.no, F.few⟩
          rw [F.get d]
          cases d <;> first | rfl | (show some (V.ref (ad _)) = some (V.ref (adg ad u.rows.length ra pa _)); rw [old _ True.intro])
        | R => exact absurd rfl eR
        | W => show _ = some (HO.lst (refsTo (adg ad u.rows.length ra pa) .w (List.range (2 * u.n)))); rw [refs_in (ad := ad) fun i hi => old (.w i) (List.mem_range.mp hi)]; exact base
        | P => show _ = some (HO.lst (refsTo (adg ad u.rows.length ra pa) .q (List.range (2 * u.n)))); rw [refs_in (ad := ad) fun i hi => old (.q i) (List.mem_range.mp hi)]; exact base
        | w i => show _ = some (HO.lst (refsTo (adg ad u.rows.length ra pa) .row (u.wt i))); rw [refs_in (ad := ad) fun k hk => orow k (hw i hr k hk)]; exact base
        | q i =>
          obtain ⟨ts, e, l⟩ := base
          refine ⟨ts, e, ?_⟩
          have hin : ∀ k ∈ u.pr i, adg ad u.rows.length ra pa (.row k.2) = ad (.row k.2) := fun k hk => orow _ (hq i hr k hk)
          clear e
          show All2 _ ts (u.pr i)
          generalize u.pr i = pl at l hin
          induction l with
          | nil => exact .nil
          | cons a _ ih => exact .cons (by rw [hin _ List.mem_cons_self]; exact a) (ih fun k hk => hin k (List.mem_cons_of_mem _ hk))
        | row i =>
          obtain ⟨dx, fs, r, h1, h2, h3⟩ := base
          exact ⟨dx, fs, r, app_get h1, h2, ⟨by rw [old (.part i) hr]; exact h3.parts, h3.link, h3.few⟩⟩
        | part i =>
          obtain ⟨r, h1, h2⟩ := base
          exact ⟨r, app_get h1, h2⟩
        | _ => exact base
    · subst hr
      rw [adg_row, upd_ne (fun e => (nr .R True.intro).1 e.symm)]
      exact ⟨dx, fs, _, app_last, hra, ⟨by rw [adg_part]; exact hrf.parts, hrf.link, hrf.few⟩⟩
    · subst hr
      rw [adg_part, upd_ne (fun e => (nr .R True.intro).2 e.symm)]
      exact ⟨_, app_last, hpa⟩
end
end My

set_option Elab.async false
set_option maxRecDepth 100000
set_option maxHeartbeats 4000000
set_option linter.all false
/-! Units: what is appended. -/
namespace My
open PySem PySem.Spec PyProof.Rows L2 RT
theorem cut_two (x y : V) (l : List V) : cutV (x :: y :: l) none (some 2) = [x, y] := by
  unfold cutV
  rw [HT.sIx_none, show (2 : Int) = ((2 : Nat) : Int) from rfl, HT.sIx_nat, List.drop_zero, Nat.sub_zero]
  rw [Nat.min_eq_left (by simp)]
  rfl
theorem All2.snoc {α β : Type} {R : α → β → Prop} {as : List α} {bs : List β} (h : All2 R as bs) {a : α} {b : β} (r : R a b) : All2 R (as ++ [a]) (bs ++ [b]) := by
  induction h with
  | nil => exact .cons r .nil
  | cons x _ ih => exact .cons x ih
section
variable {K : PySem.W.Frag} {Cu Cr : Addr} {H : Hp} {ad : Rl → Addr} {u : US}
theorem UAt.addq (A : UAt K Cu Cr H ad u) {i y j : Nat} (hi : i < 2 * u.n) {t : Addr} (ht : SqT K H t [nat y, .ref (ad (.row j))]) : ∃ ts : List Addr, H (ad (.q i)) = some (.lst (ts.map V.ref)) ∧ ts.length = (u.pr i).length ∧ UAt K Cu Cr (upd H (ad (.q i)) (.lst (ts.map V.ref ++ [.ref t]))) ad { u with pr := fun z => if z = i then u.pr i ++ [(y, j)] else u.pr z } := by
  obtain ⟨ts, e, l⟩ := A.all (.q i) hi
  refine ⟨ts, e, l.len, ?_⟩
  have := A.putq hi (ts := ts ++ [t]) (u.pr i ++ [(y, j)]) (l.snoc ht)
  rw [List.map_append] at this
  exact this
theorem UAt.addw (A : UAt K Cu Cr H ad u) {i j : Nat} (hi : i < 2 * u.n) : UAt K Cu Cr (upd H (ad (.w i)) (.lst (refsTo ad .row (u.wt i) ++ [.ref (ad (.row j))]))) ad { u with wt := fun z => if z = i then u.wt i ++ [j] else u.wt z } := by
  have := A.putw hi (u.wt i ++ [j])
  unfold refsTo at this
  rw [List.map_append] at this
  exact this
theorem UAt.ix (A : UAt K Cu Cr H ad u) {i : Nat} (hi : i < 2 * u.n) : atI (refsTo ad .w (List.range (2 * u.n))) (i : Int) = some (.ref (ad (.w i))) := atI_nat (by
  unfold refsTo
  rw [List.getElem?_map, List.getElem?_range hi]
  rfl)
theorem UAt.ixq (A : UAt K Cu Cr H ad u) {i : Nat} (hi : i < 2 * u.n) : atI (refsTo ad .q (List.range (2 * u.n))) (i : Int) = some (.ref (ad (.q i))) := atI_nat (by
  unfold refsTo
  rw [List.getElem?_map, List.getElem?_range hi]
  rfl)
end
theorem adg_out {ad : Rl → Addr} {u : US} {parts : List Nat} {lk : Nat} {b ra pa : Addr} (h1 : b ≠ ra) (h2 : b ≠ pa) (h : ∀ r, vld u r → b ≠ ad r) {r : Rl} (hr : vld ({ u with rows := u.rows ++ [(parts, lk)] } : US) r) : b ≠ adg ad u.rows.length ra pa r := by
  by_cases e1 : r = .row u.rows.length
  · rw [e1, adg_row]; exact h1
  · by_cases e2 : r = .part u.rows.length
    · rw [e2, adg_part]; exact h2
    · rw [adg_ne e1 e2]
      refine h r ?_
      cases r with
      | row i =>
        have hr : i < (u.rows ++ [(parts, lk)]).length := hr
        rw [List.length_append] at hr
        have : i ≠ u.rows.length := fun z => e1 (by rw [z])
        show i < u.rows.length
        simp at hr
        omega
      | part i =>
        have hr : i < (u.rows ++ [(parts, lk)]).length := hr
        rw [List.length_append] at hr
        have : i ≠ u.rows.length := fun z => e2 (by rw [z])
        show i < u.rows.length
        simp at hr
        omega
      | _ => exact hr
end My

set_option Elab.async false
set_option maxRecDepth 100000
set_option maxHeartbeats 4000000
set_option linter.all false
namespace My
open PySem L2 PyProof.Rows
open C8 (pss_cut)
structure DefM0 (K : PySem.W.Frag) (x qx : Str) (ps : List Str) (st : Stmt) (f : Addr) (fd : FuncData) : Prop where
  fn : Fun K x qx st f fd
  bd : Binds K fd ps []
def OwnC (P : Program) (w : World) (K : PySem.W.Frag) (mg : Str → Option Value) (base : Heap) (x : Str) (C : Addr) (ps : List Str) (k : Nat) (sp : Sp) : Prop :=
  ∃ (f : Addr) (fd : FuncData), mg x = some (.ref C) ∧ Mk K C f ∧ Binds K fd ps [] ∧ FnOk P w K mg base CX0 k f fd ps sp
structure RK1 (K : PySem.W.Frag) (C : Addr) : Prop where
  n1 : L2.NoAttr K C ("number" : Str)
  n2 : L2.NoAttr K C ("choices" : Str)
  n3 : L2.NoAttr K C ("last_use" : Str)
  n4 : L2.NoAttr K C ("dropped" : Str)
def rowFs (v : V) : List (Str × V) := putF "dropped" (.bl false) (putF "last_use" (.int 0) (putF "choices" (.int 0) (putF "number" .non (putF "link" (.int 0) (putF "parts" v [])))))
theorem rowFs_len (v : V) : (rowFs v).length = 6 := rfl
theorem rowFs_parts (v : V) : (rowFs v).lookup ("parts" : Str) = some v := by
  unfold rowFs
  rw [lookup_putF, if_neg (by decide +kernel), lookup_putF, if_neg (by decide +kernel), lookup_putF, if_neg (by decide +kernel), lookup_putF, if_neg (by decide +kernel), lookup_putF, if_neg (by decide +kernel), lookup_putF, if_pos rfl]
theorem rowFs_link (v : V) : (rowFs v).lookup ("link" : Str) = some (.int 0) := by
  unfold rowFs
  rw [lookup_putF, if_neg (by decide +kernel), lookup_putF, if_neg (by decide +kernel), lookup_putF, if_neg (by decide +kernel), lookup_putF, if_neg (by decide +kernel), lookup_putF, if_pos rfl]
def spRow (Cr : Addr) : Sp := fun vs H Q _ => ∃ (p dx : Addr) (v : V), vs = [.ref p, v] ∧ H p = some (.ins Cr dx []) ∧ ∀ H', H' p = some (.ins Cr dx (rowFs v)) → (∀ b, b ≠ p → H' b = H b) → Q .non H'
/-- attach(row): the row stands outside -/
def spAttach (K : PySem.W.Frag) (Cu Cr : Addr) : Sp := fun vs H Q _ => ∃ (ad : Rl → Addr) (u : US) (ra pa dx : Addr) (fs : List (Str × V)) (x y : Nat) (rest : List Nat) (F : Nat → Prop) (Cf : Prop), vs = [.ref (ad .p), .ref ra] ∧ UAt K Cu Cr H ad u ∧ Lg F Cf u ∧ u.done = 0 ∧ u.rows.length < 100000 ∧
  H ra = some (.ins Cr dx fs) ∧ fs.lookup ("parts" : Str) = some (.ref pa) ∧ fs.lookup ("link" : Str) = some (.int 0) ∧ fs.length ≤ 50 ∧ H pa = some (.lst ((x :: y :: rest).map nat)) ∧ (∀ r, vld u r → ad r ≠ ra ∧ ad r ≠ pa) ∧
  ROk u.n (x :: y :: rest, x ^^^ y) ∧ (∀ l ∈ x :: y :: rest, (∀ z ∈ x :: y :: rest, z ≠ l → F (neg z)) → F l) ∧ ((∀ z ∈ x :: y :: rest, F (neg z)) → Cf) ∧
  ∀ H' ad' u', UAt K Cu Cr H' ad' u' → ad' .p = ad .p → (∀ b o, b ≠ ra → b ≠ pa → (∀ r, vld u r → b ≠ ad r) → H b = some o → H' b = some o ∧ ∀ r, vld u' r → b ≠ ad' r) → Lg F Cf u' → u'.done = 0 → u'.vs = u.vs → u'.broken = u.broken → u'.trail = u.trail → u'.rows = u.rows ++ [(x :: y :: rest, x ^^^ y)] → Q .non H'
section
variable {P : Program} {w : World} {K : PySem.W.Frag} {mg : Str → Option Value} {base : Heap} {f Cu Cr : Addr} {fd : FuncData}
theorem ok_Row (QK : RK K Cr) (Q1 : RK1 K Cr) (D : DefM0 K "__init__" "Row.__init__" ["self", "parts"] s_Row___init__ f fd) (M : Mk K Cr f) (mC : mg "Row" = some (.ref Cr)) : OwnC P w K mg base "Row" Cr ["self", "parts"] 1 (spRow Cr) := by
  refine ⟨f, fd, mC, M, D.bd, D.fn.ok sc_Row___init__ (fun vs H Q E h => ?_) (fun cdv A outer s H vs Q E hr h => ?_)⟩
  · obtain ⟨p, dx, v, rfl, _⟩ := h
    rfl
  · obtain ⟨p, dx, v, rfl, hp, q⟩ := h
    refine ⟨_, (pss_cons (ps_fld (pv 0) (pv 1) rfl)
      (pss_cons (ps_fld (pv 0) pe_int rfl)
      (pss_cons (ps_fld (pv 0) pe_non rfl)
      (pss_cons (ps_fld (pv 0) pe_int rfl)
      (pss_cons (ps_fld (pv 0) pe_int rfl)
      (pss_one (ps_fld (pv 0) pe_bl rfl))))))), ?_⟩
    refine ⟨_, rfl, _, rfl, p, Cr, dx, _, rfl, hp, QK.cls, QK.np, by show 0 < 1000; decide, ?_⟩
    refine ⟨_, rfl, p, Cr, dx, _, rfl, upd_same, QK.cls, QK.nl, by show 1 < 1000; decide, ?_⟩
    refine ⟨_, rfl, p, Cr, dx, _, rfl, upd_same, QK.cls, Q1.n1, by show 2 < 1000; decide, ?_⟩
    refine ⟨_, rfl, p, Cr, dx, _, rfl, upd_same, QK.cls, Q1.n2, by show 3 < 1000; decide, ?_⟩
    refine ⟨_, rfl, p, Cr, dx, _, rfl, upd_same, QK.cls, Q1.n3, by show 4 < 1000; decide, ?_⟩
    refine ⟨_, rfl, p, Cr, dx, _, rfl, upd_same, QK.cls, Q1.n4, by show 5 < 1000; decide, ?_⟩
    exact q _ upd_same fun b n => by rw [upd_ne n, upd_ne n, upd_ne n, upd_ne n, upd_ne n, upd_ne n]
theorem ok_attach (T : Txt K mg) (PK : UK K Cu) (QK : RK K Cr) (D : DefM K Cu "attach" "Units.attach" ["self", "row"] s_Units_attach f fd) : OwnM P w K mg base Cu "attach" ["self", "row"] 1 (spAttach K Cu Cr) := by
  refine ⟨f, fd, D.me, D.bd, D.fn.ok sc_Units_attach (fun vs H Q E h => ?_) (fun cdv A outer s H vs Q E hr h => ?_)⟩
  · obtain ⟨ad, u, ra, pa, dx, fs, x, y, rest, F, Cf, rfl, _⟩ := h
    rfl
  · obtain ⟨ad, u, ra, pa, dxr, fsr, x, y, rest, F, Cf, rfl, A0, L0, hd, hrl, hra, hfp, hfl, hff, hpa, hout, rok, un, cf, q⟩ := h
    refine ⟨_, (pss_cons (ps_asg (pe_slice sl_list (pe_fld (pv 1) (by rfl)) po_none (po_some pe_int)) (pg_unl (by rfl) (pgs_cons (pg_name (i := 2) sc_Units_attach.nd rfl (Or.inl rfl)) (pgs_cons (pg_name (i := 3) sc_Units_attach.nd rfl (Or.inl rfl)) pgs_nil))))
      (pss_cons (ps_fld (pv 1) (pe_op op_xor (pv 2) (pv 3)) rfl)
      (pss_cons (ps_expr (pe_bm PySem.F.plainAttrs_list PySem.F.slot_list_append PySem.F.type_list_append mt_append (pe_fld (pv 0) (by rfl)) (pa_cons (pv 1) pa_nil)))
      (pss_one (ps_if (pt_cmpR op_eq (pe_callB call_len_seq (by rfl) T.m_len (by decide +kernel) (pa_cons (pe_fld (pv 1) (by rfl)) pa_nil)) pe_int (nomark _)) (pss_cons (ps_expr (pe_bm PySem.F.plainAttrs_list PySem.F.slot_list_append PySem.F.type_list_append mt_append (pe_ix ix_list (pe_fld (pv 0) (by rfl)) (pv 2) (fun _ _ => rfl)) (pa_cons (pe_tup (pa_cons (pv 3) (pa_cons (pv 1) pa_nil))) pa_nil)))
      (pss_one (ps_expr (pe_bm PySem.F.plainAttrs_list PySem.F.slot_list_append PySem.F.type_list_append mt_append (pe_ix ix_list (pe_fld (pv 0) (by rfl)) (pv 3) (fun _ _ => rfl)) (pa_cons (pe_tup (pa_cons (pv 2) (pa_cons (pv 1) pa_nil))) pa_nil))))) (pss_cons (ps_expr (pe_bm PySem.F.plainAttrs_list PySem.F.slot_list_append PySem.F.type_list_append mt_append (pe_ix ix_list (pe_fld (pv 0) (by rfl)) (pv 2) (fun _ _ => rfl)) (pa_cons (pv 1) pa_nil)))
      (pss_one (ps_expr (pe_bm PySem.F.plainAttrs_list PySem.F.slot_list_append PySem.F.type_list_append mt_append (pe_ix ix_list (pe_fld (pv 0) (by rfl)) (pv 3) (fun _ _ => rfl)) (pa_cons (pv 1) pa_nil)))))))))), ?_⟩
    refine ⟨_, rfl, _, Cr, dxr, fsr, _, rfl, hra, QK.cls, QK.np, hfp, _, rfl, pa, _, rfl, SqL.of hpa, fun t0 ht0 => ?_⟩
    have cutE : cutV ((x :: y :: rest).map nat) none (some 2) = [nat x, nat y] := by rw [List.map_cons, List.map_cons, cut_two]
    have A1 : UAt K Cu Cr (upd H t0 (.lst (cutV ((x :: y :: rest).map nat) none (some 2)))) ad u := A0.same (same_new ht0 _)
    have hra1 := same_new ht0 (.lst (cutV ((x :: y :: rest).map nat) none (some 2))) _ _ hra
    have hpa1 := same_new ht0 (.lst (cutV ((x :: y :: rest).map nat) none (some 2))) _ _ hpa
    have nrp : ra ≠ pa := fun e => by rw [e, hpa] at hra; cases hra
    refine ⟨t0, [nat x, nat y], rfl, SqL.of (by rw [upd_same, cutE]), rfl, _, _, rfl, _, _, rfl, rfl, ?_⟩
    refine ⟨_, rfl, _, rfl, rI0_to (v := nat (x ^^^ y)) rfl rfl (by show V.int (Builtin.bitXor (x : Int) (y : Int)) = nat (x ^^^ y); rw [bxx]; rfl) ⟨_, rfl, ra, Cr, dxr, fsr, rfl, hra1, QK.cls, QK.nl, Nat.lt_of_le_of_lt hff (by decide), ?_⟩⟩
    have A2 := A1.but (B := [ra]) (fun a ha => by rw [List.mem_singleton.mp ha, hra1]; exact True.intro) (fun r hr m => (hout r hr).1 (List.mem_singleton.mp m)) (But.put (H := upd H t0 (.lst (cutV ((x :: y :: rest).map nat) none (some 2)))) (List.mem_singleton_self ra) (.ins Cr dxr (putF ("link" : Str) (nat (x ^^^ y)) fsr)))
    have hra2 : (upd (upd H t0 (.lst (cutV ((x :: y :: rest).map nat) none (some 2)))) ra (.ins Cr dxr (putF ("link" : Str) (nat (x ^^^ y)) fsr))) ra = some (.ins Cr dxr (putF ("link" : Str) (nat (x ^^^ y)) fsr)) := upd_same
    have hpa2 : (upd (upd H t0 (.lst (cutV ((x :: y :: rest).map nat) none (some 2)))) ra (.ins Cr dxr (putF ("link" : Str) (nat (x ^^^ y)) fsr))) pa = some (.lst ((x :: y :: rest).map nat)) := (upd_ne fun e => nrp e.symm).trans hpa1
    have hfp2 : (putF ("link" : Str) (nat (x ^^^ y)) fsr).lookup ("parts" : Str) = some (.ref pa) := by rw [lookup_putF, if_neg (by decide +kernel)]; exact hfp
    have Fr : RF pa (x ^^^ y) (putF ("link" : Str) (nat (x ^^^ y)) fsr) := ⟨hfp2, by rw [lookup_putF, if_pos rfl], by rw [putF_old hfl]; exact hff⟩
    have A3 := A2.grow (fun z hz k hk => L0.jw hz hk) (fun z hz k hk => L0.jp hz hk) hra2 Fr hpa2 hout
    obtain ⟨dx2, fs2, hp2, F2⟩ := A2.fs
    have hR2 : (upd (upd H t0 (.lst (cutV ((x :: y :: rest).map nat) none (some 2)))) ra (.ins Cr dxr (putF ("link" : Str) (nat (x ^^^ y)) fsr))) (ad .R) = some (.lst (refsTo ad .row (List.range u.rows.length))) := A2.all .R True.intro
    refine ⟨_, rfl, _, Cu, dx2, fs2, _, rfl, hp2, PK.cls, PK.no .ro, F2.get .ro, .inl ⟨rfl, _, SqL.of hR2⟩, _, rfl, ad .R, _, _, rfl, rfl, hR2, by unfold refsTo; rw [List.length_map, List.length_range]; exact Nat.lt_trans hrl (by decide), ?_⟩
    have hra3 := (upd_ne (H := upd (upd H t0 (.lst (cutV ((x :: y :: rest).map nat) none (some 2)))) ra (.ins Cr dxr (putF ("link" : Str) (nat (x ^^^ y)) fsr))) (o := .lst (refsTo ad .row (List.range u.rows.length) ++ [.ref ra])) (fun e => (hout .R True.intro).1 e.symm)).trans hra2
    have hpa3 := (upd_ne (H := upd (upd H t0 (.lst (cutV ((x :: y :: rest).map nat) none (some 2)))) ra (.ins Cr dxr (putF ("link" : Str) (nat (x ^^^ y)) fsr))) (o := .lst (refsTo ad .row (List.range u.rows.length) ++ [.ref ra])) (fun e => (hout .R True.intro).2 e.symm)).trans hpa2
    have K0 : ∀ b o, b ≠ ra → (∀ r, vld u r → b ≠ ad r) → H b = some o → (upd (upd (upd H t0 (.lst (cutV ((x :: y :: rest).map nat) none (some 2)))) ra (.ins Cr dxr (putF ("link" : Str) (nat (x ^^^ y)) fsr))) (ad .R) (.lst (refsTo ad .row (List.range u.rows.length) ++ [.ref ra]))) b = some o := fun b o n1 n e => by
      rw [upd_ne (n .R True.intro), upd_ne n1]
      exact same_new ht0 _ _ _ e
    revert A3 hra3 hpa3 K0
    show _ → _ → _ → _ → _
    generalize upd (upd (upd H t0 (.lst (cutV ((x :: y :: rest).map nat) none (some 2)))) ra (.ins Cr dxr (putF ("link" : Str) (nat (x ^^^ y)) fsr))) (ad .R) (.lst (refsTo ad .row (List.range u.rows.length) ++ [.ref ra])) = H3
    intro A3 hra3 hpa3 K0
    have gp : adg ad u.rows.length ra pa .p = ad .p := adg_ne (by intro e; cases e) (by intro e; cases e)
    have grow : adg ad u.rows.length ra pa (.row u.rows.length) = ra := adg_row
    have xl : x < 2 * u.n := rok.lt x (by simp)
    have yl : y < 2 * u.n := rok.lt y (by simp)
    have nxy : x ≠ y := fun e => (List.pairwise_cons.mp rok.dis).1 y List.mem_cons_self (by rw [e])
    obtain ⟨dx3, fs3, hp3, F3⟩ := A3.fs
    rw [gp] at hp3
    refine ⟨_, rfl, ra, Cr, dxr, _, _, rfl, hra3, QK.cls, QK.np, hfp2, pa, _, rfl, .inl (SqL.of hpa3), rfl, _, rfl, ite2 (fun c => ?_) (fun c => ?_)⟩
    · have hrest : rest = [] := by
        have := of_decide_eq_true c
        have : (((x :: y :: rest).map nat).length : Int) = 2 := V.int.inj this
        rw [List.length_map] at this
        exact List.eq_nil_of_length_eq_zero (by simp at this; omega)
      subst hrest
      obtain ⟨ts, hqx, _⟩ := A3.all (.q x) xl
      refine ⟨_, rfl, _, Cu, dx3, fs3, _, rfl, hp3, PK.cls, PK.no .pa, F3.get .pa, _, rfl, _, _, (x : Int), _, rfl, rfl, SqL.of (A3.all .P True.intro), A3.ixq xl, .inl ⟨rfl, _, SqL.of hqx⟩, _, rfl, _, rfl, by show 2 ≤ sizeLine; decide, fun t ht => ?_⟩
      have A4 := A3.same (same_new ht (.tup [nat y, .ref ra]))
      obtain ⟨ts4, e4, l4, A5⟩ := A4.addq (i := x) (y := y) (j := u.rows.length) xl (t := t) (by rw [grow]; exact SqT.of upd_same)
      refine ⟨_, _, _, rfl, rfl, e4, by rw [List.length_map, l4]; exact Nat.lt_of_le_of_lt (L0.pf x) (Nat.lt_trans hrl (by decide)), ?_⟩
      obtain ⟨dx5, fs5, hp5, F5⟩ := A5.fs
      rw [gp] at hp5
      obtain ⟨ts5, hqy, _⟩ := A5.all (.q y) yl
      refine ⟨_, rfl, _, Cu, dx5, fs5, _, rfl, hp5, PK.cls, PK.no .pa, F5.get .pa, _, rfl, _, _, (y : Int), _, rfl, rfl, SqL.of (A5.all .P True.intro), A5.ixq yl, .inl ⟨rfl, _, SqL.of hqy⟩, _, rfl, _, rfl, by show 2 ≤ sizeLine; decide, fun t2 ht2 => ?_⟩
      have A6 := A5.same (same_new ht2 (.tup [nat x, .ref ra]))
      obtain ⟨ts6, e6, l6, A7⟩ := A6.addq (i := y) (y := x) (j := u.rows.length) yl (t := t2) (by rw [grow]; exact SqT.of upd_same)
      refine ⟨_, _, _, rfl, rfl, e6, ?_, ?_⟩
      · rw [List.length_map, l6]
        show (if y = x then _ else u.pr y).length < _
        rw [if_neg fun z => nxy z.symm]
        exact Nat.lt_of_le_of_lt (L0.pf y) (Nat.lt_trans hrl (by decide))
      · refine q _ _ _ A7 gp (fun b o n1 n2 n e => ⟨?_, fun r hr => adg_out (parts := [x, y]) (lk := x ^^^ y) n1 n2 n (by cases r <;> exact hr)⟩) ?_ hd rfl rfl rfl rfl
        · have h3 := K0 b o n1 n e
          rw [upd_ne (by rw [adg_ne (by intro e; cases e) (by intro e; cases e)]; exact n (.q y) yl)]
          refine same_new ht2 _ _ _ ?_
          rw [upd_ne (by rw [adg_ne (by intro e; cases e) (by intro e; cases e)]; exact n (.q x) xl)]
          exact same_new ht _ _ _ h3
        · exact L0.attach2 hd rok un cf hrl (by show (if x = y then _ else if x = x then _ else _) = _; rw [if_neg nxy, if_pos rfl]) (by show (if y = y then (if y = x then _ else _) ++ _ else _) = _; rw [if_pos rfl, if_neg fun z => nxy z.symm]) (fun z z1 z2 => by show (if z = y then _ else if z = x then _ else _) = _; rw [if_neg z2, if_neg z1])
    · have h3 : 3 ≤ (x :: y :: rest).length := by
        have h2 : (((x :: y :: rest).map nat).length : Int) ≠ 2 := fun z => c (decide_eq_true (congrArg V.int z))
        rw [List.length_map] at h2
        have := rok.two
        have h22 : 2 ≤ (x :: y :: rest).length := this
        omega
      have hwx := A3.all (.w x) xl
      have A4 := A3.addw (i := x) (j := u.rows.length) xl
      rw [grow] at A4
      refine ⟨_, rfl, _, Cu, dx3, fs3, _, rfl, hp3, PK.cls, PK.no .wa, F3.get .wa, _, rfl, _, _, (x : Int), _, rfl, rfl, SqL.of (A3.all .W True.intro), A3.ix xl, .inl ⟨rfl, _, SqL.of hwx⟩, _, rfl, _, _, _, rfl, rfl, hwx, by unfold refsTo; rw [List.length_map]; exact Nat.lt_of_le_of_lt (L0.wf xl) (by decide), ?_⟩
      obtain ⟨dx4, fs4, hp4, F4⟩ := A4.fs
      rw [gp] at hp4
      have hwy := A4.all (.w y) yl
      have A5 := A4.addw (i := y) (j := u.rows.length) yl
      rw [grow] at A5
      refine ⟨_, rfl, _, Cu, dx4, fs4, _, rfl, hp4, PK.cls, PK.no .wa, F4.get .wa, _, rfl, _, _, (y : Int), _, rfl, rfl, SqL.of (A4.all .W True.intro), A4.ix yl, .inl ⟨rfl, _, SqL.of hwy⟩, _, rfl, _, _, _, rfl, rfl, hwy, ?_, ?_⟩
      · unfold refsTo
        rw [List.length_map]
        show (if y = x then _ else u.wt y).length < _
        rw [if_neg fun z => nxy z.symm]
        exact Nat.lt_of_le_of_lt (L0.wf yl) (by decide)
      · refine q _ _ _ A5 gp (fun b o n1 n2 n e => ⟨?_, fun r hr => adg_out (parts := x :: y :: rest) (lk := x ^^^ y) n1 n2 n (by cases r <;> exact hr)⟩) ?_ hd rfl rfl rfl rfl
        · have h3 := K0 b o n1 n e
          rw [upd_ne (by rw [adg_ne (by intro e; cases e) (by intro e; cases e)]; exact n (.w y) yl), upd_ne (by rw [adg_ne (by intro e; cases e) (by intro e; cases e)]; exact n (.w x) xl)]
          exact h3
        · exact L0.attach3 hd rok h3 (by simp) (by simp) nxy un cf hrl (by show (if x = y then _ else if x = x then _ else _) = _; rw [if_neg nxy, if_pos rfl]) (by show (if y = y then (if y = x then _ else _) ++ _ else _) = _; rw [if_pos rfl, if_neg fun z => nxy z.symm]) (fun z z1 z2 => by show (if z = y then _ else if z = x then _ else _) = _; rw [if_neg z2, if_neg z1])
end
end My

set_option Elab.async false
set_option maxRecDepth 100000
set_option maxHeartbeats 4000000
set_option linter.all false
namespace My
open PySem L2 PyProof.Rows
open C8 (pss_cut)
def opens (st : List Int) (l : List Nat) : List Nat := l.filter fun x => decide (st[x]? = some 2)
theorem mem_opens {st : List Int} {l : List Nat} {x : Nat} : x ∈ opens st l ↔ x ∈ l ∧ st[x]? = some 2 := by
  unfold opens
  rw [List.mem_filter, decide_eq_true_iff]
theorem opens_snoc {st : List Int} {l : List Nat} {x : Nat} : opens st (l ++ [x]) = if st[x]? = some 2 then opens st l ++ [x] else opens st l := by
  unfold opens
  rw [List.filter_append]
  by_cases h : st[x]? = some 2
  · rw [if_pos h, List.filter_cons_of_pos (by simpa using h)]; rfl
  · rw [if_neg h, List.filter_cons_of_neg (by simpa using h), List.filter_nil, List.append_nil]
/-- a clause is looked after -/
def Cov (u : US) (c : List Nat) : Prop := (∃ x ∈ c, x ∈ u.trail) ∨ (∃ r ∈ u.rows, ∀ y ∈ r.1, y ∈ c) ∨ u.broken = true
theorem no_attach : ∀ d, ("attach" : Str) ≠ fname d := fun d => by cases d <;> decide +kernel
def spEnter (K : PySem.W.Frag) (Cu Cr : Addr) : Sp := fun vs H Q _ => ∃ (ad : Rl → Addr) (u : US) (t : Addr) (c : List Nat) (F : Nat → Prop) (Cf : Prop), vs = [.ref (ad .p), .ref t] ∧ UAt K Cu Cr H ad u ∧ Lg F Cf u ∧ u.done = 0 ∧ u.rows.length < 100000 ∧ H t = some (.lst (c.map nat)) ∧
  (∀ x ∈ c, x < 2 * u.n) ∧ (c.Pairwise fun x y => x / 2 ≠ y / 2) ∧ c.length ≤ 100000 ∧ (∀ l ∈ c, (∀ z ∈ c, z ≠ l → F (neg z)) → F l) ∧ ((∀ z ∈ c, F (neg z)) → Cf) ∧
  ∀ H' ad' u', UAt K Cu Cr H' ad' u' → ad' .p = ad .p → Kp ad ad' u u' H H' → Lg F Cf u' → u'.done = 0 → u'.vs = u.vs → u.trail <+: u'.trail → (∃ new, u'.rows = u.rows ++ new ∧ new.length ≤ 1) → (u'.broken = true → u.broken = true ∨ Cf) → (u.broken = true → u'.broken = true) → Cov u' c → Q .non H'
section
variable {P : Program} {w : World} {K : PySem.W.Frag} {mg : Str → Option Value} {base : Heap} {f Cu Cr : Addr} {fd : FuncData}
theorem ok_enter (T : Txt K mg) (PK : UK K Cu) (C1 : ConI mg "OPEN" 2) (C2 : ConI mg "TRUE" 1) (D : DefM K Cu "enter" "Units.enter" ["self", "clause"] s_Units_enter f fd) (O1 : OwnM P w K mg base Cu "give" ["self", "x", "cause"] 1 (spGive K Cu Cr)) (O2 : OwnM P w K mg base Cu "attach" ["self", "row"] 1 (spAttach K Cu Cr)) (O3 : OwnC P w K mg base "Row" Cr ["self", "parts"] 1 (spRow Cr)) : OwnM P w K mg base Cu "enter" ["self", "clause"] 4 (spEnter K Cu Cr) := by
  obtain ⟨t_OPEN, c_OPEN⟩ := C1
  obtain ⟨t_TRUE, c_TRUE⟩ := C2
  obtain ⟨fgive, fdgive, Mgive, bgive, Ggive⟩ := O1
  obtain ⟨fattach, fdattach, Mattach, battach, Gattach⟩ := O2
  obtain ⟨fRow, fdRow, mRow, MRow, bRow, GRow⟩ := O3
  refine ⟨f, fd, D.me, D.bd, D.fn.ok sc_Units_enter (fun vs H Q E h => ?_) (fun cdv A outer s H vs Q E hr h => ?_)⟩
  · obtain ⟨ad, u, t, c, F, Cf, rfl, _⟩ := h
    rfl
  · obtain ⟨ad, u, t, c, F, Cf, rfl, A0, L0, hd, hrl, ht, hlt, hdis, hcl, un, cf, q⟩ := h
    refine ⟨_, (pss_cons (ps_set (i := 2) sc_Units_enter.nd rfl (Or.inl rfl) (pe_lst pa_nil))
      (pss_cons (ps_for PassesOwn.never rfl (pi_list (pv 1)) (pg_name (i := 3) sc_Units_enter.nd rfl (Or.inl rfl)) (pss_cons (ps_set (i := 4) sc_Units_enter.nd rfl (Or.inl rfl) (pe_ix ix_list (pe_fld (pv 0) (by rfl)) (pv 3) (fun _ _ => rfl)))
      (pss_cons (ps_if (pt_cmpR op_eq (pv 4) (pe_glob (v := .int 1) (u := .int 1 t_TRUE) (by rfl) c_TRUE ⟨t_TRUE, rfl⟩) (nomark _)) (pss_one ps_retN) pss_nil)
      (pss_one (ps_if (pt_cmpR op_eq (pv 4) (pe_glob (v := .int 2) (u := .int 2 t_OPEN) (by rfl) c_OPEN ⟨t_OPEN, rfl⟩) (nomark _)) (pss_one (ps_expr (pe_bm PySem.F.plainAttrs_list PySem.F.slot_list_append PySem.F.type_list_append mt_append (pv 2) (pa_cons (pv 3) pa_nil)))) pss_nil)))))
      (pss_one (ps_if (pt_cmpR op_eq (pe_callB call_len_seq (by rfl) T.m_len (by decide +kernel) (pa_cons (pv 2) pa_nil)) pe_int (nomark _)) (pss_one (ps_fld (pv 0) pe_bl rfl)) (pss_one (ps_if (pt_cmpR op_eq (pe_callB call_len_seq (by rfl) T.m_len (by decide +kernel) (pa_cons (pv 2) pa_nil)) pe_int (nomark _)) (pss_one (ps_expr (pe_meth (pv 0) PK.cls Mgive Ggive (hr.mono (by omega)) bgive .nil pass0 (pa_cons (pe_ix ix_list (pv 2) pe_int (fun _ _ => rfl)) (pa_cons pe_non pa_nil))))) (pss_one (ps_expr (pe_meth (pv 0) PK.cls Mattach Gattach (hr.mono (by omega)) battach .nil pass0 (pa_cons (pe_make MRow GRow (hr.mono (by omega)) (by rfl) mRow bRow .nil pass0 (pa_cons (pv 2) pa_nil)) pa_nil)))))))))), ?_⟩
    refine ⟨Nat.zero_le _, fun pl hpl => ?_⟩
    have npt : t ≠ pl := fun e => by rw [e, hpl] at ht; cases ht
    have sm : ∀ G : Hp, (∀ b, b ≠ pl → G b = H b) → Same H G := fun G hG b o e => by
      rw [hG b fun z => by rw [z, hpl] at e; cases e]
      exact e
    refine ⟨_, rfl, t, rfl, ⟨_, SqL.of ((upd_ne npt).trans ht)⟩, for_list (K := K) (a := t) (xs := c.map nat) (fun i σ' G => ∃ (o3 o4 : Option V), σ' = [some (.ref (ad .p)), some (.ref t), some (.ref pl), o3, o4] ∧ G pl = some (.lst ((opens u.st (c.take i)).map nat)) ∧ (∀ b, b ≠ pl → G b = H b) ∧ ∀ x ∈ c.take i, x ∉ u.trail) ⟨none, none, rfl, upd_same, fun b n => upd_ne n, fun x hx => (by cases hx)⟩ (fun i σ' G _ ⟨_, _, _, _, k, _⟩ => SqL.of ((k t npt).trans ht)) ?_ ?_⟩
    · rintro i y σ' G hi ⟨o3, o4, rfl, hG, kG, T⟩
      rw [List.getElem?_map] at hi
      obtain ⟨x, hx, rfl⟩ := Option.map_eq_some_iff.mp hi
      have hxm : x ∈ c := List.mem_of_getElem? hx
      have hxl := hlt x hxm
      have A1 : UAt K Cu Cr G ad u := A0.same (sm G kG)
      obtain ⟨sx, hsx, hat⟩ := stat L0.so hxl
      obtain ⟨dx, fs, hp, F1⟩ := A1.fs
      have tk := take_next hx
      refine ⟨_, rfl, _, Cu, dx, fs, _, rfl, hp, PK.cls, PK.no .st, F1.get .st, _, rfl, ad .S, _, (x : Int), _, rfl, rfl, SqL.of (A1.all .S True.intro), hat, ?_⟩
      refine ⟨_, rfl, rfl, _, rfl, ite2 (fun c1 => ?_) (fun c1 => ?_)⟩
      · rw [veq] at c1
        have c1 : sx = 1 := of_decide_eq_true c1
        rw [c1] at hsx
        exact q G ad u A1 rfl (Kp.same (sm G kG)) L0 hd rfl (List.prefix_refl _) ⟨[], (List.append_nil _).symm, Nat.zero_le _⟩ .inl id (.inl ⟨x, hxm, (L0.so.t x hxl).1 hsx⟩)
      · rw [veq] at c1
        have c1 : sx ≠ 1 := fun e => c1 (decide_eq_true e)
        have nx : x ∉ u.trail := fun m => by
          rw [(L0.so.t x hxl).2 m] at hsx
          cases hsx
          exact c1 rfl
        have T2 : ∀ z ∈ c.take (i + 1), z ∉ u.trail := fun z hz => by
          rw [tk] at hz
          rcases List.mem_append.mp hz with m | m
          · exact T z m
          · rw [List.mem_singleton.mp m]; exact nx
        refine ⟨_, rfl, rfl, _, rfl, ite2 (fun c2 => ?_) (fun c2 => ?_)⟩
        · rw [veq] at c2
          have c2 : sx = 2 := of_decide_eq_true c2
          rw [c2] at hsx
          refine ⟨_, rfl, .inl ⟨rfl, _, SqL.of hG⟩, _, rfl, pl, _, _, rfl, rfl, hG, ?_, ?_⟩
          · rw [List.length_map]
            have h1 : (opens u.st (c.take i)).length ≤ (c.take i).length := List.length_filter_le ..
            have h2 : (c.take i).length ≤ c.length := by rw [List.length_take]; exact Nat.min_le_right _ _
            exact Nat.lt_of_le_of_lt (Nat.le_trans h1 (Nat.le_trans h2 hcl)) (by decide)
          · refine ⟨_, _, rfl, ?_, fun b n => by rw [upd_ne n]; exact kG b n, T2⟩
            rw [upd_same, tk, opens_snoc, if_pos hsx, List.map_append]
            rfl
        · rw [veq] at c2
          have c2 : sx ≠ 2 := fun e => c2 (decide_eq_true e)
          refine ⟨_, _, rfl, ?_, kG, T2⟩
          rw [hG, tk, opens_snoc, if_neg fun e => by rw [e] at hsx; cases hsx; exact c2 rfl]
    · rintro σ' G ⟨o3, o4, rfl, hG, kG, T⟩
      rw [List.length_map, List.take_length] at T
      rw [List.length_map, List.take_length] at hG
      have A1 : UAt K Cu Cr G ad u := A0.same (sm G kG)
      obtain ⟨dx, fs, hp, F1⟩ := A1.fs
      have fls : ∀ z ∈ c, z ∉ opens u.st c → F (neg z) := fun z hz hn => by
        rcases L0.so.o z (hlt z hz) with e | e | e
        · exact L0.s.tr _ ((L0.so.f z (hlt z hz)).1 e)
        · exact absurd ((L0.so.t z (hlt z hz)).1 e) (T z hz)
        · exact absurd (mem_opens.2 ⟨hz, e⟩) hn
      have hsub : ∀ z ∈ opens u.st c, z ∈ c := fun z hz => (mem_opens.1 hz).1
      have un2 : ∀ l ∈ opens u.st c, (∀ z ∈ opens u.st c, z ≠ l → F (neg z)) → F l := fun l hl k => un l (hsub l hl) fun z hz ne => by
        by_cases m : z ∈ opens u.st c
        · exact k z m ne
        · exact fls z hz m
      have cf2 : (∀ z ∈ opens u.st c, F (neg z)) → Cf := fun k => cf fun z hz => by
        by_cases m : z ∈ opens u.st c
        · exact k z m
        · exact fls z hz m
      have dis2 : (opens u.st c).Pairwise fun x y => x / 2 ≠ y / 2 := hdis.filter _
      have open2 : ∀ z ∈ opens u.st c, u.st[z]? = some 2 := fun z hz => (mem_opens.1 hz).2
      revert hG un2 cf2 dis2 open2 hsub
      generalize opens u.st c = ps
      intro hG hsub un2 cf2 dis2 open2
      have hl0 : ((ps.map nat).length : Int) = (ps.length : Int) := by rw [List.length_map]
      refine ⟨_, rfl, pl, _, rfl, .inl (SqL.of hG), rfl, _, rfl, ite2 (fun c1 => ?_) (fun c1 => ?_)⟩
      · have c1 : ps = [] := List.eq_nil_of_length_eq_zero (by
          have := V.int.inj (of_decide_eq_true c1)
          rw [hl0] at this
          omega)
        have hcf : Cf := cf2 fun z hz => by rw [c1] at hz; cases hz
        refine ⟨_, rfl, ad .p, Cu, dx, fs, rfl, hp, PK.cls, PK.no .br, Nat.lt_of_le_of_lt F1.few (by decide), ?_⟩
        have A2 := A1.putBroken true hp
        exact q _ ad _ A2 rfl ((Kp.same (sm G kG)).trans (Kp.of (Chg.put (r := .p) True.intro _) fun r hr => by cases r <;> exact hr)) ⟨L0.few, L0.so, L0.w, L0.s, L0.q, L0.lc, L0.ll, L0.dn, L0.rl, L0.pf⟩ hd rfl (List.prefix_refl _) ⟨[], (List.append_nil _).symm, Nat.zero_le _⟩ (fun _ => .inr hcf) (fun _ => rfl) (.inr (.inr rfl))
      · have c1 : ps.length ≠ 0 := fun e => c1 (decide_eq_true (by rw [hl0, e]; rfl))
        refine ⟨_, rfl, pl, _, rfl, .inl (SqL.of hG), rfl, _, rfl, ite2 (fun c2 => ?_) (fun c2 => ?_)⟩
        · have c2 : ps.length = 1 := by
            have := V.int.inj (of_decide_eq_true c2)
            rw [hl0] at this
            omega
          obtain ⟨l, rfl⟩ := List.length_eq_one_iff.mp c2
          have hll := hlt l (hsub l (by simp))
          have hFl : F l := un2 l (by simp) fun z hz ne => absurd (List.mem_singleton.mp hz) ne
          have hol := open2 l (by simp)
          refine ⟨_, rfl, _, dx, fs, rfl, hp, F1.no _ no_give, _, rfl, pl, _, (0 : Int), nat l, rfl, rfl, SqL.of hG, rfl, ad, u, l, .non, rfl, A1, hll, L0.so.len, L0.lc, L0.ll, L0.few, by have := L0.so.few; have := L0.few; omega, fun H2 A2 C2 => ?_⟩
          exact q H2 ad _ A2 rfl ((Kp.same (sm G kG)).trans (Kp.of (C2.wide fun r h => h.vld) fun r hr => by cases r <;> exact hr)) (L0.give hll hol hFl _) hd rfl (List.prefix_append _ _) ⟨[], (List.append_nil _).symm, Nat.zero_le _⟩ .inl id (.inl ⟨l, hsub l (by simp), List.mem_append_right _ (List.mem_singleton_self _)⟩)
        · have c2 : ps.length ≠ 1 := fun e => c2 (decide_eq_true (by rw [hl0, e]; rfl))
          obtain ⟨x, y, rest, rfl⟩ : ∃ x y rest, ps = x :: y :: rest := by
            match ps, c1, c2 with
            | [], h, _ => exact absurd rfl h
            | [_], _, h => exact absurd rfl h
            | x :: y :: rest, _, _ => exact ⟨x, y, rest, rfl⟩
          refine ⟨_, rfl, _, dx, fs, rfl, hp, F1.no _ no_attach, _, rfl, fun ra dxr hra hdx hne => ⟨ra, dxr, .ref pl, rfl, upd_same, fun H2 e2 k2 => ⟨rfl, ?_⟩⟩⟩
          have ng : ∀ b o, H b = some o → b ≠ ra ∧ b ≠ pl ∧ b ≠ dxr := fun b o e => by
            have e' := sm G kG b o e
            exact ⟨fun z => (by rw [z, hra] at e'; cases e'), fun z => (by rw [z, hpl] at e; cases e), fun z => (by rw [z, hdx] at e'; cases e')⟩
          have k3 : ∀ b o, G b = some o → H2 b = some o := fun b o e => by
            have n1 : b ≠ ra := fun z => by rw [z, hra] at e; cases e
            have n2 : b ≠ dxr := fun z => by rw [z, hdx] at e; cases e
            rw [k2 b n1, upd_ne n1, upd_ne n2]
            exact e
          refine ⟨ad, u, ra, pl, dxr, _, x, y, rest, F, Cf, rfl, A1.same k3, L0, hd, hrl, e2, rowFs_parts _, rowFs_link _, by rw [rowFs_len]; decide, k3 _ _ hG, fun r hr => ?_, ⟨by show 2 ≤ (x :: y :: rest).length; simp, fun z hz => hlt z (hsub z hz), dis2⟩, un2, cf2, fun H' ad' u' A' p' kp' L' d' v' b' t' r' => ?_⟩
          · obtain ⟨o, ho⟩ := A0.has hr
            exact ⟨(ng _ _ ho).1, (ng _ _ ho).2.1⟩
          · refine q H' ad' u' A' p' (fun b o n e => ?_) L' d' v' (by rw [t']; exact List.prefix_refl _) ⟨_, r', by simp⟩ (fun z => .inl (by rw [← b']; exact z)) (fun z => by rw [b']; exact z) (.inr (.inl ⟨(x :: y :: rest, x ^^^ y), by rw [r']; simp, hsub⟩))
            obtain ⟨n1, n2, n3⟩ := ng b o e
            exact kp' b o n1 n2 n (k3 b o (sm G kG b o e))
end
end My

set_option Elab.async false
set_option maxRecDepth 100000
set_option maxHeartbeats 4000000
set_option linter.all false
/-! Units, when they are made. -/
namespace My
open PySem PySem.Spec PyProof.Rows L2
/-- what the new object owns -/
structure Ow (H0 : Hp) (p a Cu dx : Addr) (H : Hp) (fs : List (Str × V)) (own : List (Addr × HO)) : Prop where
  hp : H p = some (.ins Cu dx fs)
  np : ∀ x ∈ own, x.1 ≠ p
  nd : (own.map (·.1)).Nodup
  at_ : ∀ x ∈ own, H x.1 = some x.2
  kp : ∀ b o, b ≠ p → b ≠ a → H0 b = some o → H b = some o ∧ ∀ x ∈ own, b ≠ x.1
section
variable {H0 H H' : Hp} {p a Cu dx : Addr} {fs : List (Str × V)} {own : List (Addr × HO)}
theorem Ow.tmp (h : Ow H0 p a Cu dx H fs own) (s : Same H H') : Ow H0 p a Cu dx H' fs own :=
  ⟨s _ _ h.hp, h.np, h.nd, fun x hx => s _ _ (h.at_ x hx), fun b o n1 n2 e => ⟨s _ _ (h.kp b o n1 n2 e).1, (h.kp b o n1 n2 e).2⟩⟩
theorem Ow.take (h : Ow H0 p a Cu dx H fs own) {k : Addr} {o : HO} (hk : H k = some o) (n1 : k ≠ p) (n2 : ∀ x ∈ own, x.1 ≠ k) (n3 : ∀ b o, b ≠ p → b ≠ a → H0 b = some o → b ≠ k) : Ow H0 p a Cu dx H fs (own ++ [(k, o)]) := by
  refine ⟨h.hp, fun x hx => ?_, ?_, fun x hx => ?_, fun b o' m1 m2 e => ⟨(h.kp b o' m1 m2 e).1, fun x hx => ?_⟩⟩
  · rcases List.mem_append.mp hx with m | m
    · exact h.np x m
    · rw [List.mem_singleton.mp m]; exact n1
  · rw [List.map_append]
    refine List.nodup_append.mpr ⟨h.nd, by simp, fun c hc d hd e => ?_⟩
    obtain ⟨x, hx, rfl⟩ := List.mem_map.mp hc
    have : d = k := by simpa using hd
    exact n2 x hx (e.trans this)
  · rcases List.mem_append.mp hx with m | m
    · exact h.at_ x m
    · rw [List.mem_singleton.mp m]; exact hk
  · rcases List.mem_append.mp hx with m | m
    · exact (h.kp b o' m1 m2 e).2 x m
    · rw [List.mem_singleton.mp m]; exact n3 b o' m1 m2 e
theorem Ow.ne (h : Ow H0 p a Cu dx H fs own) {k : Addr} (hk : H k = none) : k ≠ p ∧ (∀ x ∈ own, x.1 ≠ k) ∧ ∀ b o, b ≠ p → b ≠ a → H0 b = some o → b ≠ k :=
  ⟨fun e => (by rw [e, h.hp] at hk; cases hk), fun x hx e => (by have := h.at_ x hx; rw [e, hk] at this; cases this), fun b o n1 n2 e z => (by have := (h.kp b o n1 n2 e).1; rw [z, hk] at this; cases this)⟩
theorem Ow.new (h : Ow H0 p a Cu dx H fs own) {k : Addr} (hk : H k = none) (o : HO) : Ow H0 p a Cu dx (upd H k o) fs (own ++ [(k, o)]) :=
  (h.tmp (same_new hk o)).take upd_same (h.ne hk).1 (h.ne hk).2.1 (h.ne hk).2.2
theorem Ow.out (h : Ow H0 p a Cu dx H fs own) {k : Addr} (o : HO) (n1 : k ≠ p) (n2 : ∀ x ∈ own, x.1 ≠ k) (n3 : ∀ b o, b ≠ p → b ≠ a → H0 b = some o → b ≠ k) : Ow H0 p a Cu dx (upd H k o) fs own :=
  ⟨by rw [upd_ne n1.symm]; exact h.hp, h.np, h.nd, fun x hx => by rw [upd_ne (n2 x hx)]; exact h.at_ x hx, fun b o' m1 m2 e => ⟨by rw [upd_ne (n3 b o' m1 m2 e)]; exact (h.kp b o' m1 m2 e).1, (h.kp b o' m1 m2 e).2⟩⟩
theorem Ow.fld (h : Ow H0 p a Cu dx H fs own) (fs' : List (Str × V)) : Ow H0 p a Cu dx (upd H p (.ins Cu dx fs')) fs' own :=
  ⟨upd_same, h.np, h.nd, fun x hx => by rw [upd_ne (h.np x hx)]; exact h.at_ x hx, fun b o n1 n2 e => ⟨by rw [upd_ne n1]; exact (h.kp b o n1 n2 e).1, (h.kp b o n1 n2 e).2⟩⟩
theorem Ow.last {k : Addr} {o : HO} (h : Ow H0 p a Cu dx H fs (own ++ [(k, o)])) (hk : k ≠ a) (o' : HO) : Ow H0 p a Cu dx (upd H k o') fs (own ++ [(k, o')]) := by
  have nk : k ≠ p := h.np (k, o) (by simp)
  have nd := h.nd
  rw [List.map_append] at nd
  have n2 : ∀ x ∈ own, x.1 ≠ k := fun x hx => (List.nodup_append.mp nd).2.2 x.1 (List.mem_map_of_mem hx) k (by simp)
  have base : Ow H0 p a Cu dx H fs own := ⟨h.hp, fun x hx => h.np x (List.mem_append_left _ hx), (List.nodup_append.mp nd).1, fun x hx => h.at_ x (List.mem_append_left _ hx), fun b o n1 n2 e => ⟨(h.kp b o n1 n2 e).1, fun x hx => (h.kp b o n1 n2 e).2 x (List.mem_append_left _ hx)⟩⟩
  have n3 : ∀ b o, b ≠ p → b ≠ a → H0 b = some o → b ≠ k := fun b o' n1 n2 e => (h.kp b o' n1 n2 e).2 (k, o) (by simp)
  exact (base.out o' nk n2 n3).take upd_same nk n2 n3
/-- a list of as many new lists -/
theorem Ow.lists {K : PySem.W.Frag} (h : Ow H0 p a Cu dx H fs own) {S : Addr} {xs : List V} (hS : (S, HO.lst xs) ∈ own) (hx : xs.length ≤ 1000000) {D : Addr} (hD : H D = none) {σ : L2.St} {vs : List Nat} {k : Nat} (hw : ∀ x, wipe ((wipe σ vs).set k (some x)) vs = wipe σ vs) {Qd : Hp → Prop}
    (q : ∀ H' (ks : List Addr), ks.length = xs.length → Ow H0 p a Cu dx H' fs ((own ++ ks.map fun k => (k, HO.lst [])) ++ [(D, .lst (ks.map V.ref))]) → Qd H') :
    ∃ W : Nat → Nat → Hp → Prop, (∃ m, W 0 m (upd H D (.lst []))) ∧ ∀ i m H, W i m H →
      ((Itl K S).stop i H ∧ Qd H) ∨ ((Itl K S).go i H ∧ ∃ Nx : Hp → Prop, (∀ H', Nx H' → ∃ m', m' < m ∧ W (i + 1) m' H') ∧ ∀ x H', (Itl K S).yld i H x H' → gName k x (wipe σ vs) H' fun σ2 H2 => wipe σ2 vs = wipe σ vs ∧ tYes σ2 H2 fun b H3 =>
        if b = true then tLst tNil σ2 H3 fun y H4 => ∃ acc, H4 D = some (.lst acc) ∧ acc.length < sizeLine ∧ Nx (upd H4 D (.lst (acc ++ [y]))) else Nx H3) := by
  obtain ⟨d1, d2, d3⟩ := h.ne hD
  refine lc_list (K := K) (a := S) (xs := xs) (fun i H' => i ≤ xs.length ∧ ∃ ks : List Addr, ks.length = i ∧ Ow H0 p a Cu dx H' fs (own ++ ks.map fun k => (k, HO.lst [])) ∧ H' D = some (.lst (ks.map V.ref)) ∧ ∀ x ∈ own ++ ks.map fun k => (k, HO.lst []), x.1 ≠ D) ⟨Nat.zero_le _, [], rfl, by rw [List.map_nil, List.append_nil]; exact h.tmp (same_new hD _), upd_same, by rw [List.map_nil, List.append_nil]; exact d2⟩ (fun i H' _ ⟨_, ks, _, O, _, _⟩ => SqL.of (O.at_ (S, .lst xs) (List.mem_append_left _ hS))) ?_ ?_
  · rintro i x H' hi ⟨hil, ks, hk, O, hDk, nD⟩
    refine ⟨hw x, ?_⟩
    unfold tYes
    dsimp only
    refine (if_pos rfl).mpr ?_
    have hi' := (List.getElem?_eq_some_iff.mp hi).1
    refine ⟨Nat.zero_le _, fun l hl => ⟨ks.map V.ref, ?_, ?_, hi', ks ++ [l], by rw [List.length_append, hk]; rfl, ?_, ?_, ?_⟩⟩
    · rw [upd_ne fun e => by rw [e, hl] at hDk; cases hDk]; exact hDk
    · rw [List.length_map, hk]; exact Nat.lt_of_le_of_lt (Nat.le_trans hil hx) (by decide)
    · have O2 := O.new hl (.lst [])
      have nl : l ≠ D := fun e => by rw [e, hDk] at hl; cases hl
      have O3 := O2.out (k := D) (.lst (ks.map V.ref ++ [.ref l])) d1 (fun x hx => by
        rcases List.mem_append.mp hx with m | m
        · exact nD x m
        · rw [List.mem_singleton.mp m]; exact nl) d3
      rw [List.map_append, ← List.append_assoc]
      exact O3
    · rw [upd_same, List.map_append]; rfl
    · intro x hx
      rw [List.map_append, ← List.append_assoc] at hx
      rcases List.mem_append.mp hx with m | m
      · exact nD x m
      · have : x = (l, HO.lst []) := by simpa using m
        rw [this]
        exact fun e => by
          have e : l = D := e
          rw [e, hDk] at hl
          cases hl
  · rintro H' ⟨_, ks, hk, O, hDk, nD⟩
    exact q H' ks hk (O.take hDk d1 nD d3)
end
/-! ### the state at the start -/
def u0 (vs : List Int) : US := ⟨vs, List.replicate (2 * vs.length) 2, fun _ => [], fun _ => [], [], List.replicate vs.length .non, List.replicate vs.length (.int 0), .int 0, [], 0, false⟩
def unitFs (a nd S R W P C L T : Addr) : List (Str × V) := putF "broken" (.bl false) (putF "done" (.int 0) (putF "trail" (.ref T) (putF "level" (.int 0) (putF "levels" (.ref L) (putF "causes" (.ref C) (putF "pairs" (.ref P) (putF "waiting" (.ref W) (putF "rows" (.ref R) (putF "state" (.ref S) (putF "numbers" (.ref nd) (putF "variables" (.ref a) [])))))))))))
def adU (p a nd S R : Addr) (ws : List Addr) (W : Addr) (qs : List Addr) (P C L T : Addr) : Rl → Addr
  | .p => p | .V => a | .N => nd | .S => S | .R => R | .w i => ws.getD i 0 | .W => W | .q i => qs.getD i 0 | .P => P | .C => C | .L => L | .T => T | .row _ => 0 | .part _ => 0
def idU (m : Nat) : Rl → Nat
  | .p => 0 | .V => 0 | .N => 1 | .S => 2 | .R => 3 | .w i => 4 + i | .W => 4 + m | .q i => 5 + m + i | .P => 5 + 2 * m | .C => 6 + 2 * m | .L => 7 + 2 * m | .T => 8 + 2 * m | .row _ => 0 | .part _ => 0
def coU (vs : List Int) (ws qs : List Addr) : Rl → HO
  | .V => .lst (vs.map V.int) | .N => .dK (numRows vs) | .S => .lst ((List.replicate (2 * vs.length) (2 : Int)).map V.int) | .W => .lst (ws.map V.ref) | .P => .lst (qs.map V.ref) | .C => .lst (List.replicate vs.length .non) | .L => .lst (List.replicate vs.length (.int 0)) | _ => .lst []
def ownU (vs : List Int) (a nd S R : Addr) (ws : List Addr) (W : Addr) (qs : List Addr) (P C L T : Addr) : List (Addr × HO) :=
  (a, .lst (vs.map V.int)) :: (nd, .dK (numRows vs)) :: (S, .lst ((List.replicate (2 * vs.length) (2 : Int)).map V.int)) :: (R, .lst []) :: ((ws.map fun k => (k, HO.lst [])) ++ ((W, .lst (ws.map V.ref)) :: ((qs.map fun k => (k, HO.lst [])) ++ [(P, .lst (qs.map V.ref)), (C, .lst (List.replicate vs.length .non)), (L, .lst (List.replicate vs.length (.int 0))), (T, .lst [])])))
theorem four {α : Type} (a b c d : α) (l : List α) (k : Nat) : (a :: b :: c :: d :: l)[4 + k]? = l[k]? := by rw [Nat.add_comm]; rfl
theorem app_r {α : Type} {l m : List α} {k n : Nat} (h : l.length = n) : (l ++ m)[n + k]? = m[k]? := by rw [List.getElem?_append_right (by omega), h, Nat.add_sub_cancel_left]
theorem ownU_at {vs : List Int} {p a nd S R : Addr} {ws : List Addr} {W : Addr} {qs : List Addr} {P C L T : Addr} {m : Nat} (hw : ws.length = m) (hq : qs.length = m) (hm : m = 2 * vs.length) {r : Rl} (hr : vld (u0 vs) r) (np : r ≠ .p) :
    (ownU vs a nd S R ws W qs P C L T)[idU m r]? = some (adU p a nd S R ws W qs P C L T r, coU vs ws qs r) := by
  have lw : (ws.map fun k => (k, HO.lst [])).length = m := by rw [List.length_map, hw]
  have lq : (qs.map fun k => (k, HO.lst [])).length = m := by rw [List.length_map, hq]
  unfold ownU
  cases r with
  | p => exact absurd rfl np
  | V => rfl
  | N => rfl
  | S => rfl
  | R => rfl
  | w i =>
    have hi : i < ws.length := by rw [hw, hm]; exact hr
    show (_ :: _ :: _ :: _ :: _)[4 + i]? = _
    rw [four, List.getElem?_append_left (by rw [List.length_map]; exact hi), List.getElem?_map, List.getElem?_eq_getElem hi]
    show some (ws[i], HO.lst []) = some (ws.getD i 0, HO.lst [])
    rw [List.getD_eq_getElem?_getD, List.getElem?_eq_getElem hi]
    rfl
  | W =>
    show (_ :: _ :: _ :: _ :: _)[4 + m]? = _
    rw [four, show m = m + 0 from rfl, app_r lw]
    rfl
  | q i =>
    have hi : i < qs.length := by rw [hq, hm]; exact hr
    show (_ :: _ :: _ :: _ :: _)[5 + m + i]? = _
    rw [show 5 + m + i = 4 + (m + (i + 1)) by omega, four, app_r lw, List.getElem?_cons_succ, List.getElem?_append_left (by rw [List.length_map]; exact hi), List.getElem?_map, List.getElem?_eq_getElem hi]
    show some (qs[i], HO.lst []) = some (qs.getD i 0, HO.lst [])
    rw [List.getD_eq_getElem?_getD, List.getElem?_eq_getElem hi]
    rfl
  | P =>
    show (_ :: _ :: _ :: _ :: _)[5 + 2 * m]? = _
    rw [show 5 + 2 * m = 4 + (m + (m + 1)) by omega, four, app_r lw, List.getElem?_cons_succ, List.getElem?_append_right (by omega), lq, Nat.sub_self]
    rfl
  | C =>
    show (_ :: _ :: _ :: _ :: _)[6 + 2 * m]? = _
    rw [show 6 + 2 * m = 4 + (m + ((m + 1) + 1)) by omega, four, app_r lw, List.getElem?_cons_succ, app_r lq]
    rfl
  | L =>
    show (_ :: _ :: _ :: _ :: _)[7 + 2 * m]? = _
    rw [show 7 + 2 * m = 4 + (m + ((m + 2) + 1)) by omega, four, app_r lw, List.getElem?_cons_succ, app_r lq]
    rfl
  | T =>
    show (_ :: _ :: _ :: _ :: _)[8 + 2 * m]? = _
    rw [show 8 + 2 * m = 4 + (m + ((m + 3) + 1)) by omega, four, app_r lw, List.getElem?_cons_succ, app_r lq]
    rfl
  | row i => exact absurd hr (Nat.not_lt_zero _)
  | part i => exact absurd hr (Nat.not_lt_zero _)
theorem idU_inj {vs : List Int} {m : Nat} (hm : m = 2 * vs.length) {r r' : Rl} (hr : vld (u0 vs) r) (hr' : vld (u0 vs) r') (n : r ≠ .p) (n' : r' ≠ .p) (e : idU m r = idU m r') : r = r' := by
  have hn : (u0 vs).n = vs.length := rfl
  have z : (u0 vs).rows.length = 0 := rfl
  cases r <;> cases r' <;> simp only [vld, hn, z, idU, Nat.not_lt_zero] at hr hr' e <;> first | rfl | exact absurd rfl n | exact absurd rfl n' | exact hr.elim | exact hr'.elim | omega | (congr 1; omega)
theorem map_getD {α : Type} (l : List Addr) (f : Addr → α) : (List.range l.length).map (fun i => f (l.getD i 0)) = l.map f := by
  refine List.ext_getElem? fun i => ?_
  rw [List.getElem?_map, List.getElem?_map]
  rcases Nat.lt_or_ge i l.length with h | h
  · rw [List.getElem?_range h, List.getElem?_eq_getElem h]
    show some (f (l.getD i 0)) = some (f l[i])
    rw [List.getD_eq_getElem?_getD, List.getElem?_eq_getElem h]
    rfl
  · rw [List.getElem?_eq_none (by rw [List.length_range]; exact h), List.getElem?_eq_none h]
    rfl
theorem Ow.units {K : PySem.W.Frag} {Cu Cr dx p : Addr} {H0 H : Hp} {vs : List Int} {a nd S R : Addr} {ws : List Addr} {W : Addr} {qs : List Addr} {P C L T : Addr} {m : Nat} (hw : ws.length = m) (hq : qs.length = m) (hm : m = 2 * vs.length)
    (h : Ow H0 p a Cu dx H (unitFs a nd S R W P C L T) (ownU vs a nd S R ws W qs P C L T)) : UAt K Cu Cr H (adU p a nd S R ws W qs P C L T) (u0 vs) ∧ ∀ b o, b ≠ p → b ≠ a → H0 b = some o → H b = some o ∧ ∀ r, vld (u0 vs) r → b ≠ adU p a nd S R ws W qs P C L T r := by
  have at_ : ∀ r, vld (u0 vs) r → r ≠ .p → (ownU vs a nd S R ws W qs P C L T)[idU m r]? = some (adU p a nd S R ws W qs P C L T r, coU vs ws qs r) := fun r hr n => ownU_at hw hq hm hr n
  have mem : ∀ r, vld (u0 vs) r → r ≠ .p → (adU p a nd S R ws W qs P C L T r, coU vs ws qs r) ∈ ownU vs a nd S R ws W qs P C L T := fun r hr n => List.mem_of_getElem? (at_ r hr n)
  refine ⟨⟨fun r r' hr hr' e => ?_, fun r hr => ?_⟩, fun b o n1 n2 e => ⟨(h.kp b o n1 n2 e).1, fun r hr => ?_⟩⟩
  · by_cases n : r = .p
    · by_cases n' : r' = .p
      · rw [n, n']
      · exact absurd (by rw [← e, n]; rfl) (h.np _ (mem r' hr' n'))
    · by_cases n' : r' = .p
      · exact absurd (by rw [e, n']; rfl) (h.np _ (mem r hr n))
      · refine idU_inj hm hr hr' n n' ?_
        have g1 := congrArg (Option.map (·.1)) (at_ r hr n)
        have g2 := congrArg (Option.map (·.1)) (at_ r' hr' n')
        rw [← List.getElem?_map] at g1 g2
        have hl := (List.getElem?_eq_some_iff.mp g1).1
        exact (List.getElem?_inj hl h.nd).1 (g1.trans ((congrArg some e).trans g2.symm))
  · by_cases n : r = .p
    · subst n
      refine ⟨dx, _, h.hp, fun d => ?_, fun g hg => ?_, by show (12 : Nat) ≤ 50; decide⟩
      · unfold unitFs
        cases d <;> (repeat (rw [lookup_putF]; first | rw [if_pos rfl] | rw [if_neg (by decide +kernel)])) <;> rfl
      · unfold unitFs
        rw [lookup_putF, if_neg (show g ≠ ("broken" : Str) from hg .br), lookup_putF, if_neg (show g ≠ ("done" : Str) from hg .dn), lookup_putF, if_neg (show g ≠ ("trail" : Str) from hg .tr), lookup_putF, if_neg (show g ≠ ("level" : Str) from hg .lv), lookup_putF, if_neg (show g ≠ ("levels" : Str) from hg .le), lookup_putF, if_neg (show g ≠ ("causes" : Str) from hg .ca), lookup_putF, if_neg (show g ≠ ("pairs" : Str) from hg .pa), lookup_putF, if_neg (show g ≠ ("waiting" : Str) from hg .wa), lookup_putF, if_neg (show g ≠ ("rows" : Str) from hg .ro), lookup_putF, if_neg (show g ≠ ("state" : Str) from hg .st), lookup_putF, if_neg (show g ≠ ("numbers" : Str) from hg .nu), lookup_putF, if_neg (show g ≠ ("variables" : Str) from hg .vs)]
        rfl
    · rw [h.at_ _ (mem r hr n)]
      cases r with
      | p => exact absurd rfl n
      | W =>
        show some (HO.lst (ws.map V.ref)) = some (.lst ((List.range (2 * vs.length)).map fun i => V.ref (ws.getD i 0)))
        rw [← hm, ← hw, map_getD]
      | P =>
        show some (HO.lst (qs.map V.ref)) = some (.lst ((List.range (2 * vs.length)).map fun i => V.ref (qs.getD i 0)))
        rw [← hm, ← hq, map_getD]
      | q i => exact ⟨[], rfl, .nil⟩
      | row i => exact absurd hr (Nat.not_lt_zero _)
      | part i => exact absurd hr (Nat.not_lt_zero _)
      | _ => rfl
  · by_cases n : r = .p
    · rw [n]; exact n1
    · exact (h.kp b o n1 n2 e).2 _ (mem r hr n)
/-! ### the numbers of the items -/
def okVs (vs : List Int) : Prop := vs.Nodup ∧ ∀ v ∈ vs, 0 < v
theorem numRows_snoc (l : List Int) (v : Int) : numRows (l ++ [v]) = numRows l ++ [(Sum.inl v, V.int (2 * (l.length : Int))), (Sum.inl (-v), V.int (2 * (l.length : Int) + 1))] := by
  unfold numRows
  rw [List.zipIdx_append, List.flatMap_append]
  simp
theorem numRows_none {x : Int} : ∀ (l : List Int), (∀ v ∈ l, x ≠ v ∧ x ≠ -v) → valV (numRows l) (Sum.inl x : Key) = none := by
  intro l h
  unfold valV
  rw [Option.map_eq_none_iff, List.find?_eq_none]
  intro kv hkv e
  have e : kv.1 = Sum.inl x := of_decide_eq_true e
  unfold numRows at hkv
  obtain ⟨⟨v, k⟩, hv, hm⟩ := List.mem_flatMap.mp hkv
  have hvl : v ∈ l := by
    have := List.mem_zipIdx hv
    exact (List.mem_of_getElem? (List.mem_zipIdx_iff_getElem?.mp hv))
  obtain ⟨h1, h2⟩ := h v hvl
  simp at hm
  rcases hm with m | m
  · rw [m] at e
    exact h1 (Sum.inl.inj e).symm
  · rw [m] at e
    exact h2 (Sum.inl.inj e).symm
theorem numRows_len : ∀ l : List Int, (numRows l).length = 2 * l.length := by
  intro l
  unfold numRows
  rw [List.length_flatMap]
  have : ∀ (z : List (Int × Nat)), (z.map fun x => [((Sum.inl x.1 : Key), V.int (2 * (x.2 : Int))), (Sum.inl (-x.1), V.int (2 * (x.2 : Int) + 1))].length).sum = 2 * z.length := fun z => by
    induction z with
    | nil => rfl
    | cons a z ih => rw [List.map_cons, List.sum_cons, ih]; show 2 + 2 * z.length = 2 * (z.length + 1); omega
  rw [this, List.length_zipIdx]
end My

set_option Elab.async false
set_option maxRecDepth 100000
set_option maxHeartbeats 4000000
set_option linter.all false
namespace My
open PySem L2 PyProof.Rows
open C8 (pss_cut)
theorem rep_flat {α : Type} (v : α) : ∀ m : Nat, (List.replicate m [v]).flatten = List.replicate m v
  | 0 => rfl
  | m + 1 => by rw [List.replicate_succ, List.flatten_cons, rep_flat v m]; rfl
theorem Ow.own_eq {H0 H : Hp} {p a Cu dx : Addr} {fs : List (Str × V)} {own own' : List (Addr × HO)} (h : Ow H0 p a Cu dx H fs own) (e : own = own') : Ow H0 p a Cu dx H fs own' := e ▸ h
def spUnits (K : PySem.W.Frag) (Cu Cr : Addr) : Sp := fun vs H Q _ => ∃ (p a dx : Addr) (xs : List Int), vs = [.ref p, .ref a] ∧ H p = some (.ins Cu dx []) ∧ H a = some (.lst (xs.map V.int)) ∧ okVs xs ∧ xs.length ≤ 200000 ∧
  ∀ H' ad, UAt K Cu Cr H' ad (u0 xs) → ad .p = p → (∀ b o, b ≠ p → b ≠ a → H b = some o → H' b = some o ∧ ∀ r, vld (u0 xs) r → b ≠ ad r) → Q .non H'
section
variable {P : Program} {w : World} {K : PySem.W.Frag} {mg : Str → Option Value} {base : Heap} {f Cu Cr : Addr} {fd : FuncData}
theorem ok_Units (T : Txt K mg) (PK : UK K Cu) (C1 : ConI mg "OPEN" 2) (D : DefM0 K "__init__" "Units.__init__" ["self", "variables"] s_Units___init__ f fd) (M : Mk K Cu f) (mC : mg "Units" = some (.ref Cu)) : OwnC P w K mg base "Units" Cu ["self", "variables"] 1 (spUnits K Cu Cr) := by
  obtain ⟨t_OPEN, c_OPEN⟩ := C1
  refine ⟨f, fd, mC, M, D.bd, D.fn.ok sc_Units___init__ (fun vs H Q E h => ?_) (fun cdv A outer s H vs Q E hr h => ?_)⟩
  · obtain ⟨p, a, dx, xs, rfl, _⟩ := h
    rfl
  · obtain ⟨p, a, dx, xs, rfl, hp, ha, hok, hl, q⟩ := h
    have hu := hu_of hr
    refine ⟨_, (pss_cons (ps_fld (pv 0) (pv 1) rfl)
      (pss_cons (ps_fld (pv 0) pe_dnewK rfl)
      (pss_cons (ps_for PassesOwn.never rfl (pi_enum (by rfl) T.m_enumerate (pa_cons (pv 1) pa_nil)) (pg_tup (by rfl) (pgs_cons (pg_name (i := 2) sc_Units___init__.nd rfl (Or.inl rfl)) (pgs_cons (pg_name (i := 3) sc_Units___init__.nd rfl (Or.inl rfl)) pgs_nil))) (pss_cons (ps_dput hu (pe_fld (pv 0) (by rfl)) (pv 3) (pe_op op_mul pe_int (pv 2)) rfl)
      (pss_one (ps_dput hu (pe_fld (pv 0) (by rfl)) (pe_un un_neg (pv 3)) (pe_op op_add (pe_op op_mul pe_int (pv 2)) pe_int) rfl))))
      (pss_cons (ps_fld (pv 0) (pe_op op_rep (pe_lst (pa_cons (pe_glob (v := .int 2) (u := .int 2 t_OPEN) (by rfl) c_OPEN ⟨t_OPEN, rfl⟩) pa_nil)) (pe_op op_mul pe_int (pe_callB call_len_seq (by rfl) T.m_len (by decide +kernel) (pa_cons (pv 1) pa_nil)))) rfl)
      (pss_cons (ps_fld (pv 0) (pe_lst pa_nil) rfl)
      (pss_cons (ps_fld (pv 0) (pe_lc (own := [("_", 4)]) (g := gName 4) (tt := tYes) rfl sc_Units___init__.nd (pi_list (pe_fld (pv 0) (by rfl))) (blkOk_by (N := N_Units___init__) (sc := defScope s_Units___init__) (own := [("_", 4)]) (by decide +kernel)) (fun _ _ _ _ _ => (pg_name (i := 4) sc_Units___init__.nd rfl (Or.inl rfl))) (fun _ _ _ _ _ => pts_nil) (fun _ _ _ _ _ => (pe_lst pa_nil))) rfl)
      (pss_cons (ps_fld (pv 0) (pe_lc (own := [("_", 4)]) (g := gName 4) (tt := tYes) rfl sc_Units___init__.nd (pi_list (pe_fld (pv 0) (by rfl))) (blkOk_by (N := N_Units___init__) (sc := defScope s_Units___init__) (own := [("_", 4)]) (by decide +kernel)) (fun _ _ _ _ _ => (pg_name (i := 4) sc_Units___init__.nd rfl (Or.inl rfl))) (fun _ _ _ _ _ => pts_nil) (fun _ _ _ _ _ => (pe_lst pa_nil))) rfl)
      (pss_cons (ps_fld (pv 0) (pe_op op_rep (pe_lst (pa_cons pe_non pa_nil)) (pe_callB call_len_seq (by rfl) T.m_len (by decide +kernel) (pa_cons (pv 1) pa_nil))) rfl)
      (pss_cons (ps_fld (pv 0) (pe_op op_rep (pe_lst (pa_cons pe_int pa_nil)) (pe_callB call_len_seq (by rfl) T.m_len (by decide +kernel) (pa_cons (pv 1) pa_nil))) rfl)
      (pss_cons (ps_fld (pv 0) pe_int rfl)
      (pss_cons (ps_fld (pv 0) (pe_lst pa_nil) rfl)
      (pss_cons (ps_fld (pv 0) pe_int rfl)
      (pss_one (ps_fld (pv 0) pe_bl rfl)))))))))))))), ?_⟩
    have npa : a ≠ p := fun e => by rw [e, hp] at ha; cases ha
    have O0 : Ow H p a Cu dx H [] [(a, .lst (xs.map V.int))] := ⟨hp, fun x hx => by rw [List.mem_singleton.mp hx]; exact npa, by simp, fun x hx => by rw [List.mem_singleton.mp hx]; exact ha, fun b o n1 n2 e => ⟨e, fun x hx => by rw [List.mem_singleton.mp hx]; exact n2⟩⟩
    refine ⟨_, rfl, _, rfl, p, Cu, dx, _, rfl, O0.hp, PK.cls, PK.no .vs, by show 0 < 1000; decide, ?_⟩
    have O1 := O0.fld (putF "variables" (.ref a) [])
    refine fun nd hnd => ?_
    have O2' := O1.new hnd (.dK [])
    refine ⟨_, rfl, p, Cu, dx, _, rfl, O2'.hp, PK.cls, PK.no .nu, by show 1 < 1000; decide, ?_⟩
    have O2 := O2'.fld (putF "numbers" (.ref nd) (putF "variables" (.ref a) []))
    have nda : nd ≠ a := (O1.ne hnd).2.1 (a, _) (List.mem_singleton_self _) |>.symm
    refine ⟨_, rfl, a, _, rfl, SqL.of (O2.at_ (a, .lst (xs.map V.int)) (by simp)), for_it (walk_enum (xs := xs.map V.int)) (fun i σ' G => ∃ (o2 o3 : Option V), σ' = [some (.ref p), some (.ref a), o2, o3, none] ∧ Ow H p a Cu dx G (putF "numbers" (.ref nd) (putF "variables" (.ref a) [])) ([(a, HO.lst (xs.map V.int))] ++ [(nd, .dK (numRows (xs.take i)))])) ⟨none, none, rfl, O2⟩ (fun i σ' G _ ⟨_, _, _, O⟩ => SqL.of (O.at_ (a, .lst (xs.map V.int)) (by simp))) ?_ ?_⟩
    · rintro i v σ' G G2 hi ⟨o2, o3, rfl, O⟩ ⟨T0, x, y, rfl, hT, e0, e1, e2⟩
      subst e0
      obtain rfl := Option.some.inj e1
      have e2 : (xs.map V.int)[i]? = some y := e2
      rw [List.getElem?_map] at e2
      obtain ⟨z, hz, rfl⟩ := Option.map_eq_some_iff.mp e2
      have hi : i < xs.length := (List.getElem?_eq_some_iff.mp hz).1
      have O' := O.tmp (same_new hT (.tup [.int (i : Nat), .int z]))
      have tk := take_next hz
      have zpos : 0 < z := hok.2 z (List.mem_of_getElem? hz)
      have tl : (xs.take i).length = i := by rw [List.length_take]; omega
      have old : ∀ v ∈ xs.take i, z ≠ v ∧ z ≠ -v := fun v hv => by
        have vpos := hok.2 v (List.mem_of_mem_take hv)
        refine ⟨fun e => ?_, by omega⟩
        subst e
        obtain ⟨j, hj⟩ := List.getElem?_of_mem hv
        have hj' := (List.getElem?_eq_some_iff.mp hj).1
        rw [tl] at hj'
        rw [List.getElem?_take_of_lt hj'] at hj
        have := (List.getElem?_inj (by omega) hok.1).1 (hj.trans hz.symm)
        omega
      have pk1 : putK (numRows (xs.take i)) (Sum.inl z : Key) (V.int (2 * (i : Int))) = numRows (xs.take i) ++ [(Sum.inl z, V.int (2 * (i : Int)))] := putK_new _ (numRows_none _ old)
      have pk2 : putK (numRows (xs.take i) ++ [((Sum.inl z : Key), V.int (2 * (i : Int)))]) (Sum.inl (-z)) (V.int (2 * (i : Int) + 1)) = numRows (xs.take (i + 1)) := by
        rw [putK_new, tk, numRows_snoc, tl]
        · simp
        · rw [valV_snoc _ _ _ _ (numRows_none _ old), if_neg (fun e => by have := Sum.inl.inj e; omega)]
          exact numRows_none _ fun v hv => by have := old v hv; omega
      have lk : (putF "numbers" (V.ref nd) (putF "variables" (.ref a) [])).lookup ("numbers" : Str) = some (.ref nd) := by rw [lookup_putF, if_pos rfl]
      refine ⟨T0, _, rfl, SqT.of upd_same, rfl, _, _, rfl, _, _, rfl, rfl, ?_⟩
      refine ⟨_, rfl, _, _, rfl, rfl, .inl ⟨by decide, by decide⟩, _, rfl, p, Cu, dx, _, _, rfl, O'.hp, PK.cls, PK.no .nu, lk, _, rfl, nd, _, rfl, DPut.k (k := .inl z) (O'.at_ (nd, .dK (numRows (xs.take i))) (by simp)) ?_, ?_⟩
      · rw [numRows_len, tl]; exact Nat.lt_of_le_of_lt (show 2 * i ≤ 400000 by omega) (by decide)
      · have O3 := O'.last nda (.dK (putK (numRows (xs.take i)) (Sum.inl z : Key) (V.int (2 * (i : Int)))))
        refine ⟨_, rfl, _, _, rfl, rfl, .inl ⟨by decide, by decide⟩, _, _, rfl, rfl, _, rfl, p, Cu, dx, _, _, rfl, O3.hp, PK.cls, PK.no .nu, lk, _, rfl, _, rfl, nd, _, rfl, DPut.k (k := .inl (-z)) (O3.at_ (nd, _) (List.mem_append_right _ (List.mem_singleton_self _))) ?_, ?_⟩
        · rw [pk1, List.length_append, numRows_len, tl]; exact Nat.lt_of_le_of_lt (show 2 * i + 1 ≤ 400001 by omega) (by decide)
        · have O4 := O3.last nda (.dK (putK (putK (numRows (xs.take i)) (Sum.inl z : Key) (V.int (2 * (i : Int)))) (Sum.inl (-z)) (V.int (2 * (i : Int) + 1))))
          refine ⟨_, _, rfl, ?_⟩
          exact O4.own_eq (by rw [pk1, pk2])
    · rintro σ' G ⟨o2, o3, rfl, O⟩
      rw [List.length_map, List.take_length] at O
      clear O2 O2' O1 O0
      have la : ∀ own : List (Addr × HO), (a, HO.lst (xs.map V.int)) ∈ [(a, HO.lst (xs.map V.int))] ++ own := fun own => by simp
      refine ⟨by show 1 ≤ sizeLine; decide, fun t1 ht1 => ?_⟩
      have P1 := O.tmp (same_new ht1 (.lst [.int 2]))
      have kl : (2 * (((xs.map V.int).length : Nat) : Int)).toNat = 2 * xs.length := by rw [List.length_map]; omega
      refine ⟨_, rfl, a, _, rfl, .inl (SqL.of (P1.at_ (a, .lst (xs.map V.int)) (by simp))), _, _, rfl, rfl, .inl ⟨by decide, by decide⟩, t1, _, [.int 2], rfl, rfl, upd_same, by rw [List.length_map]; omega, by rw [List.length_map]; omega, by rw [kl]; exact Nat.le_trans (show 1 * (2 * xs.length) ≤ 400000 by omega) (by decide), fun S hS => ?_⟩
      have P2' := P1.new hS (.lst (List.replicate (2 * (((xs.map V.int).length : Nat) : Int)).toNat [V.int 2]).flatten)
      refine ⟨_, rfl, p, Cu, dx, _, rfl, P2'.hp, PK.cls, PK.no .st, by show 2 < 1000; decide, ?_⟩
      have P2 := P2'.fld (putF "state" (.ref S) (putF "numbers" (.ref nd) (putF "variables" (.ref a) [])))
      refine ⟨Nat.zero_le _, fun R hR => ?_⟩
      have P3' := P2.new hR (.lst [])
      refine ⟨_, rfl, p, Cu, dx, _, rfl, P3'.hp, PK.cls, PK.no .ro, by show 3 < 1000; decide, ?_⟩
      have P3 := P3'.fld (putF "rows" (.ref R) (putF "state" (.ref S) (putF "numbers" (.ref nd) (putF "variables" (.ref a) []))))
      have sl : ((List.replicate (2 * (((xs.map V.int).length : Nat) : Int)).toNat [V.int 2]).flatten).length = 2 * xs.length := by rw [rep_flat, List.length_replicate, kl]
      have lS3 : (putF "rows" (.ref R) (putF "state" (.ref S) (putF "numbers" (V.ref nd) (putF "variables" (.ref a) [])))).lookup ("state" : Str) = some (.ref S) := by rw [lookup_putF, if_neg (by decide +kernel), lookup_putF, if_pos rfl]
      refine ⟨_, rfl, p, Cu, dx, _, _, rfl, P3.hp, PK.cls, PK.no .st, lS3, S, rfl, ⟨_, SqL.of (P3.at_ (S, .lst (List.replicate (2 * (((xs.map V.int).length : Nat) : Int)).toNat [V.int 2]).flatten) (List.mem_append_left _ (List.mem_append_right _ (List.mem_singleton_self _))))⟩, fun W hW => P3.lists (List.mem_append_left _ (List.mem_append_right _ (List.mem_singleton_self _))) (by rw [sl]; omega) hW (fun x => rfl) fun G4 ws hws P4' => ?_⟩
      refine ⟨_, rfl, p, Cu, dx, _, rfl, P4'.hp, PK.cls, PK.no .wa, by show 4 < 1000; decide, ?_⟩
      have P4 := P4'.fld (putF "waiting" (.ref W) (putF "rows" (.ref R) (putF "state" (.ref S) (putF "numbers" (.ref nd) (putF "variables" (.ref a) [])))))
      have lS4 : (putF "waiting" (.ref W) (putF "rows" (.ref R) (putF "state" (.ref S) (putF "numbers" (V.ref nd) (putF "variables" (.ref a) []))))).lookup ("state" : Str) = some (.ref S) := by rw [lookup_putF, if_neg (by decide +kernel)]; exact lS3
      refine ⟨_, rfl, p, Cu, dx, _, _, rfl, P4.hp, PK.cls, PK.no .st, lS4, S, rfl, ⟨_, SqL.of (P4.at_ (S, .lst (List.replicate (2 * (((xs.map V.int).length : Nat) : Int)).toNat [V.int 2]).flatten) (List.mem_append_left _ (List.mem_append_left _ (List.mem_append_left _ (List.mem_append_right _ (List.mem_singleton_self _))))))⟩, fun Pq hPq => P4.lists (List.mem_append_left _ (List.mem_append_left _ (List.mem_append_left _ (List.mem_append_right _ (List.mem_singleton_self _))))) (by rw [sl]; omega) hPq (fun x => rfl) fun G5 qs hqs P5' => ?_⟩
      refine ⟨_, rfl, p, Cu, dx, _, rfl, P5'.hp, PK.cls, PK.no .pa, by show 5 < 1000; decide, ?_⟩
      have P5 := P5'.fld (putF "pairs" (.ref Pq) (putF "waiting" (.ref W) (putF "rows" (.ref R) (putF "state" (.ref S) (putF "numbers" (.ref nd) (putF "variables" (.ref a) []))))))
      refine ⟨by show 1 ≤ sizeLine; decide, fun t2 ht2 => ?_⟩
      have P6 := P5.tmp (same_new ht2 (.lst [.non]))
      refine ⟨_, rfl, a, _, rfl, .inl (SqL.of (P6.at_ (a, .lst (xs.map V.int)) (by simp))), t2, _, [.non], rfl, rfl, upd_same, by rw [List.length_map]; omega, by rw [List.length_map]; omega, by rw [List.length_map, Int.toNat_natCast]; exact Nat.le_trans (show 1 * xs.length ≤ 400000 by omega) (by decide), fun C hC => ?_⟩
      have P7' := P6.new hC (.lst (List.replicate ((((xs.map V.int).length : Nat) : Int)).toNat [V.non]).flatten)
      refine ⟨_, rfl, p, Cu, dx, _, rfl, P7'.hp, PK.cls, PK.no .ca, by show 6 < 1000; decide, ?_⟩
      have P7 := P7'.fld (putF "causes" (.ref C) (putF "pairs" (.ref Pq) (putF "waiting" (.ref W) (putF "rows" (.ref R) (putF "state" (.ref S) (putF "numbers" (.ref nd) (putF "variables" (.ref a) [])))))))
      refine ⟨by show 1 ≤ sizeLine; decide, fun t3 ht3 => ?_⟩
      have P8 := P7.tmp (same_new ht3 (.lst [.int 0]))
      refine ⟨_, rfl, a, _, rfl, .inl (SqL.of (P8.at_ (a, .lst (xs.map V.int)) (by simp))), t3, _, [.int 0], rfl, rfl, upd_same, by rw [List.length_map]; omega, by rw [List.length_map]; omega, by rw [List.length_map, Int.toNat_natCast]; exact Nat.le_trans (show 1 * xs.length ≤ 400000 by omega) (by decide), fun L hL => ?_⟩
      have P9' := P8.new hL (.lst (List.replicate ((((xs.map V.int).length : Nat) : Int)).toNat [V.int 0]).flatten)
      refine ⟨_, rfl, p, Cu, dx, _, rfl, P9'.hp, PK.cls, PK.no .le, by show 7 < 1000; decide, ?_⟩
      have P9 := P9'.fld (putF "levels" (.ref L) (putF "causes" (.ref C) (putF "pairs" (.ref Pq) (putF "waiting" (.ref W) (putF "rows" (.ref R) (putF "state" (.ref S) (putF "numbers" (.ref nd) (putF "variables" (.ref a) []))))))))
      refine ⟨_, rfl, p, Cu, dx, _, rfl, P9.hp, PK.cls, PK.no .lv, by show 8 < 1000; decide, ?_⟩
      have P10 := P9.fld (putF "level" (.int 0) (putF "levels" (.ref L) (putF "causes" (.ref C) (putF "pairs" (.ref Pq) (putF "waiting" (.ref W) (putF "rows" (.ref R) (putF "state" (.ref S) (putF "numbers" (.ref nd) (putF "variables" (.ref a) [])))))))))
      refine ⟨Nat.zero_le _, fun T1 hT1 => ?_⟩
      have P11' := P10.new hT1 (.lst [])
      refine ⟨_, rfl, p, Cu, dx, _, rfl, P11'.hp, PK.cls, PK.no .tr, by show 9 < 1000; decide, ?_⟩
      have P11 := P11'.fld (putF "trail" (.ref T1) (putF "level" (.int 0) (putF "levels" (.ref L) (putF "causes" (.ref C) (putF "pairs" (.ref Pq) (putF "waiting" (.ref W) (putF "rows" (.ref R) (putF "state" (.ref S) (putF "numbers" (.ref nd) (putF "variables" (.ref a) []))))))))))
      refine ⟨_, rfl, p, Cu, dx, _, rfl, P11.hp, PK.cls, PK.no .dn, by show 10 < 1000; decide, ?_⟩
      have P12 := P11.fld (putF "done" (.int 0) (putF "trail" (.ref T1) (putF "level" (.int 0) (putF "levels" (.ref L) (putF "causes" (.ref C) (putF "pairs" (.ref Pq) (putF "waiting" (.ref W) (putF "rows" (.ref R) (putF "state" (.ref S) (putF "numbers" (.ref nd) (putF "variables" (.ref a) [])))))))))))
      refine ⟨_, rfl, p, Cu, dx, _, rfl, P12.hp, PK.cls, PK.no .br, by show 11 < 1000; decide, ?_⟩
      have P13 := P12.fld (unitFs a nd S R W Pq C L T1)
      have P14 := P13.own_eq (own' := ownU xs a nd S R ws W qs Pq C L T1) (by
        unfold ownU
        rw [rep_flat, rep_flat, rep_flat, kl]
        simp only [List.append_assoc, List.cons_append, List.nil_append, List.map_replicate, List.length_map, Int.toNat_natCast])
      obtain ⟨UA, KP⟩ := Ow.units (K := K) (Cr := Cr) (hws.trans sl) (hqs.trans sl) rfl P14
      exact q _ _ UA rfl KP
end
end My

set_option Elab.async false
set_option maxRecDepth 100000
set_option linter.all false
namespace My
open PySem L2
section
variable {X : Cx} {K : PySem.W.Frag} {tg l : Expr} {tl : TE}
/-- within a comprehension: the fragment named from outside -/
theorem pi_tupK (h : X.K = K) (hl : PE X l tl) : PI X tg l (iTup K tl) := h ▸ pi_tup hl
theorem pi_listK (h : X.K = K) (hl : PE X l tl) : PI X tg l (iList K tl) := h ▸ pi_list hl
end
end My

set_option Elab.async false
set_option maxRecDepth 100000
set_option maxHeartbeats 4000000
set_option linter.all false
namespace My
open PySem L2 PyProof.Rows
open C8 (pss_cut)
def itm (vs : List Int) (i : Nat) : Int := if i % 2 = 0 then vs.getD (i / 2) 0 else -(vs.getD (i / 2) 0)
def num (vs : List Int) (x : Int) : Nat := match valV (numRows vs) (Sum.inl x : Key) with | some (.int i) => i.toNat | _ => 0
theorem itm_neg (vs : List Int) (i : Nat) : itm vs (neg i) = -itm vs i := by
  unfold itm neg
  by_cases h : i % 2 = 0
  · rw [if_pos h, if_pos h, if_neg (by omega), show (i + 1) / 2 = i / 2 by omega]
  · rw [if_neg h, if_neg h, if_pos (by omega), show (i - 1) / 2 = i / 2 by omega, Int.neg_neg]
theorem numRows_take {vs : List Int} (h : okVs vs) : ∀ n, n ≤ vs.length → ∀ (k : Nat) (v : Int), k < n → vs[k]? = some v → valV (numRows (vs.take n)) (Sum.inl v : Key) = some (.int (2 * (k : Int))) ∧ valV (numRows (vs.take n)) (Sum.inl (-v) : Key) = some (.int (2 * (k : Int) + 1)) := by
  intro n
  induction n with
  | zero => intro _ k v hk; omega
  | succ n ih =>
    intro hn k v hk hv
    obtain ⟨w, hw⟩ : ∃ w, vs[n]? = some w := ⟨_, List.getElem?_eq_getElem hn⟩
    have wpos := h.2 w (List.mem_of_getElem? hw)
    have tl : (vs.take n).length = n := by rw [List.length_take]; omega
    have old : ∀ v ∈ vs.take n, w ≠ v ∧ w ≠ -v := fun v hv => by
      have vpos := h.2 v (List.mem_of_mem_take hv)
      refine ⟨fun e => ?_, by omega⟩
      subst e
      obtain ⟨j, hj⟩ := List.getElem?_of_mem hv
      have hj' := (List.getElem?_eq_some_iff.mp hj).1
      rw [tl] at hj'
      rw [List.getElem?_take_of_lt hj'] at hj
      have := (List.getElem?_inj (by omega) h.1).1 (hj.trans hw.symm)
      omega
    have n1 := numRows_none _ old
    have n2 : valV (numRows (vs.take n) ++ [((Sum.inl w : Key), V.int (2 * (n : Int)))]) (Sum.inl (-w)) = none := by
      rw [valV_snoc _ _ _ _ n1, if_neg (fun e => by have := Sum.inl.inj e; omega)]
      exact numRows_none _ fun v hv => by have := old v hv; omega
    have key : ∀ x : Int, valV (numRows (vs.take (n + 1))) (Sum.inl x : Key) = if x = -w then some (.int (2 * (n : Int) + 1)) else if x = w then some (.int (2 * (n : Int))) else valV (numRows (vs.take n)) (Sum.inl x : Key) := fun x => by
      rw [take_next hw, numRows_snoc, tl, show numRows (vs.take n) ++ [((Sum.inl w : Key), V.int (2 * (n : Int))), (Sum.inl (-w), V.int (2 * (n : Int) + 1))] = (numRows (vs.take n) ++ [((Sum.inl w : Key), V.int (2 * (n : Int)))]) ++ [((Sum.inl (-w) : Key), V.int (2 * (n : Int) + 1))] by simp, valV_snoc _ _ _ _ n2, valV_snoc _ _ _ _ n1]
      by_cases e1 : x = -w
      · rw [if_pos (by rw [e1]), if_pos e1]
      · rw [if_neg (fun z => e1 (Sum.inl.inj z)), if_neg e1]
        by_cases e2 : x = w
        · rw [if_pos (by rw [e2]), if_pos e2]
        · rw [if_neg (fun z => e2 (Sum.inl.inj z)), if_neg e2]
    have vpos := h.2 v (List.mem_of_getElem? hv)
    rw [key, key]
    by_cases e : k = n
    · subst e
      rw [hw] at hv
      obtain rfl := Option.some.inj hv
      rw [if_neg (by omega), if_pos rfl, if_pos rfl]
      exact ⟨rfl, rfl⟩
    · have nvw : v ≠ w := fun z => e ((List.getElem?_inj (by omega) h.1).1 (by rw [hv, hw, z]))
      rw [if_neg (by omega), if_neg nvw, if_neg (by omega), if_neg (by omega)]
      exact ih (by omega) k v (by omega) hv
theorem num_spec {vs : List Int} (h : okVs vs) {x : Int} (hx : x ≠ 0) (hm : ab x ∈ vs) : valV (numRows vs) (Sum.inl x : Key) = some (nat (num vs x)) ∧ num vs x < 2 * vs.length ∧ itm vs (num vs x) = x ∧ num vs (-x) = neg (num vs x) := by
  obtain ⟨k, hk⟩ := List.getElem?_of_mem hm
  have hl := (List.getElem?_eq_some_iff.mp hk).1
  obtain ⟨e1, e2⟩ := numRows_take h vs.length (Nat.le_refl _) k _ hl hk
  rw [List.take_length] at e1 e2
  have g : vs.getD k 0 = ab x := by rw [List.getD_eq_getElem?_getD, hk]; rfl
  have n1 : num vs (ab x) = 2 * k := by unfold num; rw [e1]; show (2 * (k : Int)).toNat = _; omega
  have n2 : num vs (-ab x) = 2 * k + 1 := by unfold num; rw [e2]; show (2 * (k : Int) + 1).toNat = _; omega
  unfold ab at *
  by_cases c : x < 0
  · rw [if_pos c] at *
    rw [Int.neg_neg] at *
    refine ⟨by rw [e2, n2]; rfl, by omega, ?_, ?_⟩
    · unfold itm
      rw [n2, if_neg (by omega), show (2 * k + 1) / 2 = k by omega, g, Int.neg_neg]
    · rw [n1, n2]; unfold neg; rw [if_neg (by omega)]; omega
  · rw [if_neg c] at *
    refine ⟨by rw [e1, n1]; rfl, by omega, ?_, ?_⟩
    · unfold itm
      rw [n1, if_pos (by omega), show (2 * k) / 2 = k by omega, g]
    · rw [n1, n2]; unfold neg; rw [if_pos (by omega)]
def spVars (K : PySem.W.Frag) : Sp := fun vs H Q _ => ∃ (a : Addr) (xs : List V) (cs : List (List Int)), vs = [.ref a] ∧ SqL K H a xs ∧ DpAll K H xs (cs.map clD) ∧ (∀ c ∈ cs, ∀ x ∈ c, x ≠ 0) ∧ (∃ ns : List Int, ns.length ≤ 60 ∧ ∀ c ∈ cs, ∀ x ∈ c, ab x ∈ ns) ∧
  ∀ H' r vs, Same H H' → H r = none → H' r = some (.lst (vs.map V.int)) → okVs vs → (∀ c ∈ cs, ∀ x ∈ c, ab x ∈ vs) → vs.length ≤ 60 → Q (.ref r) H'
def spNum (K : PySem.W.Frag) (Cu Cr : Addr) : Sp := fun vs H Q _ => ∃ (ad : Rl → Addr) (u : US) (t : Addr) (c : List Int), vs = [.ref (ad .p), .ref t] ∧ UAt K Cu Cr H ad u ∧ okVs u.vs ∧ SqT K H t (c.map V.int) ∧ (∀ x ∈ c, x ≠ 0 ∧ ab x ∈ u.vs) ∧ c.length ≤ 100 ∧
  ∀ H' r, Same H H' → H r = none → H' r = some (.lst ((c.map (num u.vs)).map nat)) → Q (.ref r) H'
section
variable {P : Program} {w : World} {K : PySem.W.Frag} {mg : Str → Option Value} {base : Heap} {f Cu Cr : Addr} {fd : FuncData}
theorem ok_variables_of (T : Txt K mg) (D : Def K mg "variables_of" ["clauses"] s_variables_of f fd) : Own P w K mg base "variables_of" ["clauses"] 1 (spVars K) := by
  refine ⟨f, fd, D.mg, D.fn.kp, D.bd, D.fn.ok sc_variables_of (fun vs H Q E h => ?_) (fun cdv A outer s H vs Q E hr h => ?_)⟩
  · obtain ⟨a, xs, cs, rfl, _⟩ := h
    rfl
  · obtain ⟨a, xs, cs, rfl, ha, hxs, hnz, ⟨ns, hns, hin⟩, q⟩ := h
    have hu := hu_of hr
    refine ⟨_, (pss_one (ps_ret (pe_callB (cr_sortedSet rfl) (by rfl) T.m_sorted (by decide +kernel) (pa_cons (pe_sc2 (own := [("clause", 1), ("x", 2)]) (vs1 := [2]) (g := gName 1) (g1 := gName 2) rfl sc_variables_of.nd (pi_list (pv 0)) (blkOk_by (N := N_variables_of) (sc := defScope s_variables_of) (own := [("clause", 1), ("x", 2)]) (by decide +kernel)) (by decide) (fun _ _ _ _ _ => (pg_name (i := 1) sc_variables_of.nd rfl (Or.inl rfl))) (fun _ _ _ _ _ => (pi_tupK (K := K) rfl (pv 1))) (fun _ _ _ _ _ => (pg_name (i := 2) sc_variables_of.nd rfl (Or.inl rfl))) (fun _ _ _ _ _ => (pe_callB call_abs (by rfl) T.m_abs (by decide +kernel) (pa_cons (pv 2) pa_nil)))) pa_nil)))), ?_⟩
    have xl : xs.length = cs.length := by rw [dpa_len hxs, List.length_map]
    have few : ∀ ds : List Int, ds.Nodup → (∀ v ∈ ds, v ∈ ns) → ds.length ≤ 60 := fun ds nd hd => Nat.le_trans (List.Nodup.length_le_of_subset nd hd) hns
    refine ⟨_, rfl, a, rfl, ⟨_, ha⟩, fun D hD => ⟨fun i m G => m = xs.length - i ∧ i ≤ xs.length ∧ ∃ ds : List Int, ds.Nodup ∧ G D = some (SetO w D (fun j => decide (j ∈ ds)) ds.length) ∧ Same H G ∧ (∀ v ∈ ds, v ∈ ns ∧ 0 < v) ∧ ∀ c ∈ cs.take i, ∀ x ∈ c, ab x ∈ ds, ⟨_, rfl, Nat.zero_le _, [], .nil, ?_, same_new hD _, fun v hv => (by cases hv), fun c hc => (by cases hc)⟩, ?_⟩⟩
    · rw [upd_same, show (fun j : Int => decide (j ∈ ([] : List Int))) = fun _ => false from funext fun j => by simp]
      rfl
    · rintro i m G ⟨rfl, hi, ds, nd, hG, sG, dn, cov⟩
      by_cases hlt : i < xs.length
      · obtain ⟨v, hv⟩ : ∃ v, xs[i]? = some v := ⟨_, List.getElem?_eq_getElem hlt⟩
        refine .inr ⟨⟨xs, v, sql_mono sG ha, hv⟩, fun G' => (i + 1 ≤ xs.length ∧ ∃ ds : List Int, ds.Nodup ∧ G' D = some (SetO w D (fun j => decide (j ∈ ds)) ds.length) ∧ Same H G' ∧ (∀ v ∈ ds, v ∈ ns ∧ 0 < v) ∧ ∀ c ∈ cs.take (i + 1), ∀ x ∈ c, ab x ∈ ds), fun G' h => ⟨_, by omega, rfl, h⟩, ?_⟩
        rintro y G2 ⟨rfl, hy⟩
        have hy := hy xs (sql_mono sG ha)
        obtain ⟨c, t, hc, rfl, ht⟩ := dpa_at hxs hy
        have htG := sqt_mono sG ht
        have hcm : c ∈ cs := List.mem_of_getElem? hc
        refine ⟨rfl, _, rfl, t, rfl, ⟨_, htG⟩, fun j k G3 => k = c.length - j ∧ j ≤ c.length ∧ ∃ ds : List Int, ds.Nodup ∧ G3 D = some (SetO w D (fun j => decide (j ∈ ds)) ds.length) ∧ Same H G3 ∧ (∀ v ∈ ds, v ∈ ns ∧ 0 < v) ∧ (∀ c ∈ cs.take i, ∀ x ∈ c, ab x ∈ ds) ∧ ∀ x ∈ c.take j, ab x ∈ ds, ⟨_, rfl, Nat.zero_le _, ds, nd, hG, sG, dn, cov, fun x hx => (by cases hx)⟩, ?_⟩
        rintro j k G3 ⟨rfl, hj, ds3, nd3, hG3, sG3, dn3, cov3, cov4⟩
        by_cases hjl : j < c.length
        · obtain ⟨x, hx⟩ : ∃ x, c[j]? = some x := ⟨_, List.getElem?_eq_getElem hjl⟩
          have hxm : x ∈ c := List.mem_of_getElem? hx
          refine .inr ⟨⟨_, .int x, sqt_mono sG3 ht, by rw [List.getElem?_map, hx]; rfl⟩, fun G4 => (j + 1 ≤ c.length ∧ ∃ ds : List Int, ds.Nodup ∧ G4 D = some (SetO w D (fun j => decide (j ∈ ds)) ds.length) ∧ Same H G4 ∧ (∀ v ∈ ds, v ∈ ns ∧ 0 < v) ∧ (∀ c ∈ cs.take i, ∀ x ∈ c, ab x ∈ ds) ∧ ∀ x ∈ c.take (j + 1), ab x ∈ ds), fun G' h => ⟨_, by omega, rfl, h⟩, ?_⟩
          rintro y4 G4 ⟨rfl, hy4⟩
          have hy4 := hy4 _ (sqt_mono sG3 ht)
          rw [List.getElem?_map, hx] at hy4
          obtain rfl := Option.some.inj hy4
          refine ⟨rfl, _, rfl, x, rfl, ab x, _, _, rfl, hG3, Nat.lt_of_le_of_lt (Nat.succ_le_succ (few ds3 nd3 fun v hv => (dn3 v hv).1)) (by decide), hjl, ?_⟩
          have nin : ab x ∈ ns := hin c hcm x hxm
          have pos : 0 < ab x := by have := hnz c hcm x hxm; unfold ab; split <;> omega
          have sD : ∀ o, Same H (upd G4 D o) := fun o b o' e => by
            rw [upd_ne (ne_of_none e hD)]
            exact sG3 _ _ e
          by_cases hin3 : ab x ∈ ds3
          · refine ⟨ds3, nd3, ?_, sD _, dn3, cov3, fun z hz => ?_⟩
            · rw [upd_same, if_pos (decide_eq_true hin3), show (fun j : Int => decide (j ∈ ds3) || decide (j = ab x)) = fun j => decide (j ∈ ds3) from funext fun j => by
                by_cases e : j = ab x
                · rw [e, decide_eq_true hin3]; rfl
                · rw [decide_eq_false e, Bool.or_false]]
              try rfl
            · rw [take_next hx] at hz
              rcases List.mem_append.mp hz with m | m
              · exact cov4 z m
              · rw [List.mem_singleton.mp m]; exact hin3
          · refine ⟨ds3 ++ [ab x], List.nodup_append.mpr ⟨nd3, by simp, fun p hp q hq e => hin3 (by rw [← List.mem_singleton.mp hq, ← e]; exact hp)⟩, ?_, sD _, fun v hv => ?_, fun c hc x hx => List.mem_append_left _ (cov3 c hc x hx), fun z hz => ?_⟩
            · rw [upd_same, if_neg (by rw [decide_eq_false hin3]; exact Bool.false_ne_true), List.length_append, show (fun j : Int => decide (j ∈ ds3) || decide (j = ab x)) = fun j => decide (j ∈ ds3 ++ [ab x]) from funext fun j => by
                rw [Bool.eq_iff_iff]
                simp]
              rfl
            · rcases List.mem_append.mp hv with m | m
              · exact dn3 v m
              · rw [List.mem_singleton.mp m]; exact ⟨nin, pos⟩
            · rw [take_next hx] at hz
              rcases List.mem_append.mp hz with m | m
              · exact List.mem_append_left _ (cov4 z m)
              · rw [List.mem_singleton.mp m]; exact List.mem_append_right _ (List.mem_singleton_self _)
        · have ej : j = c.length := by omega
          subst ej
          rw [List.take_length] at cov4
          refine .inl ⟨⟨_, sqt_mono sG3 ht, by rw [List.length_map]; exact Nat.le_refl _⟩, hlt, ds3, nd3, hG3, sG3, dn3, fun c' hc' x hx => ?_⟩
          rw [take_next hc] at hc'
          rcases List.mem_append.mp hc' with m | m
          · exact cov3 c' m x hx
          · rw [List.mem_singleton.mp m] at hx
            exact cov4 x hx
      · have ei : i = cs.length := by omega
        subst ei
        rw [List.take_length] at cov
        refine .inl ⟨⟨xs, sql_mono sG ha, by omega⟩, D, _, _, rfl, hG, Nat.lt_of_le_of_lt (few ds nd fun v hv => (dn v hv).1) (by decide), fun vs p sorted mem len hp => ?_⟩
        have mem : ∀ k, k ∈ vs ↔ k ∈ ds := fun k => (mem k).trans (by rw [decide_eq_true_iff])
        have hpH : H p = none := by
          cases e : H p with
          | none => rfl
          | some o => rw [sG _ _ e] at hp; cases hp
        exact q _ p vs (sG.trans (same_new hp _)) hpH upd_same ⟨sorted.imp fun h => by omega, fun v hv => (dn v ((mem v).1 hv)).2⟩ (fun c hc x hx => (mem _).2 (cov c hc x hx)) (by rw [len]; exact few ds nd fun v hv => (dn v hv).1)
theorem ok_numbered (T : Txt K mg) (PK : UK K Cu) (D : Def K mg "numbered" ["units", "clause"] s_numbered f fd) : Own P w K mg base "numbered" ["units", "clause"] 1 (spNum K Cu Cr) := by
  refine ⟨f, fd, D.mg, D.fn.kp, D.bd, D.fn.ok sc_numbered (fun vs H Q E h => ?_) (fun cdv A outer s H vs Q E hr h => ?_)⟩
  · obtain ⟨ad, u, t, c, rfl, _⟩ := h
    rfl
  · obtain ⟨ad, u, t, c, rfl, A0, ok, ht, hc, hl, q⟩ := h
    have hu := hu_of hr
    refine ⟨_, (pss_one (ps_ret (pe_lc (own := [("x", 2)]) (g := gName 2) (tt := tYes) rfl sc_numbered.nd (pi_tup (pv 1)) (blkOk_by (N := N_numbered) (sc := defScope s_numbered) (own := [("x", 2)]) (by decide +kernel)) (fun _ _ _ _ _ => (pg_name (i := 2) sc_numbered.nd rfl (Or.inl rfl))) (fun _ _ _ _ _ => pts_nil) (fun _ _ _ _ _ => (pe_dget hu (pe_fldK (K := K) rfl (pv 0) (by rfl)) (pv 2) (fun _ _ => rfl)))))), ?_⟩
    refine ⟨_, rfl, t, rfl, ⟨_, ht⟩, fun D hD => lc_tup (K := K) (a := t) (xs := c.map V.int) (fun i H2 => H2 D = some (.lst (((c.take i).map (num u.vs)).map nat)) ∧ Same H H2 ∧ i ≤ c.length) ⟨upd_same, same_new hD _, Nat.zero_le _⟩ (fun i H2 _ ⟨_, s, _⟩ => sqt_mono s ht) ?_ ?_⟩
    · rintro i y H2 hi ⟨hz, sm, _⟩
      rw [List.getElem?_map] at hi
      obtain ⟨x, hx, rfl⟩ := Option.map_eq_some_iff.mp hi
      have hi' : i < c.length := (List.getElem?_eq_some_iff.mp hx).1
      obtain ⟨h1, h2⟩ := hc x (List.mem_of_getElem? hx)
      obtain ⟨e, _⟩ := num_spec ok h1 h2
      have A2 := A0.same sm
      obtain ⟨dx, fs, hp, F2⟩ := A2.fs
      have hN : H2 (ad .N) = some (.dK (numRows u.vs)) := A2.all .N True.intro
      refine ⟨rfl, yes2 ⟨_, rfl, _, Cu, dx, fs, _, rfl, hp, PK.cls, PK.no .nu, F2.get .nu, _, rfl, ad .N, nat (num u.vs x), rfl, ?_, _, hz, ?_, ?_, fun b o hb => ?_, hi'⟩⟩
      · have := DGet.k (k := .inl x) hN
        rw [e] at this
        exact this
      · rw [List.length_map, List.length_map, List.length_take]
        exact Nat.lt_of_le_of_lt (show min i c.length ≤ 100 by omega) (by decide)
      · rw [upd_same, take_next hx, List.map_append, List.map_append]
        rfl
      · rw [upd_ne (ne_of_none hb hD)]
        exact sm b o hb
    · rintro H2 ⟨hz, sm, _⟩
      rw [List.length_map, List.take_length] at hz
      exact q H2 D sm hD hz
end
end My

set_option Elab.async false
set_option maxRecDepth 100000
set_option maxHeartbeats 4000000
set_option linter.all false
namespace My
open PySem L2 PyProof.Rows
open C8 (pss_cut)
theorem no_spread : ∀ d, ("spread" : Str) ≠ fname d := fun d => by cases d <;> decide +kernel
theorem no_back : ∀ d, ("take_back" : Str) ≠ fname d := fun d => by cases d <;> decide +kernel
theorem no_enter : ∀ d, ("enter" : Str) ≠ fname d := fun d => by cases d <;> decide +kernel
def spBack (K : PySem.W.Frag) (Cu Cr : Addr) : Sp := fun vs H Q _ => ∃ (ad : Rl → Addr) (u : US) (k : Nat), vs = [.ref (ad .p), nat k] ∧ UAt K Cu Cr H ad u ∧ (∀ x ∈ u.trail, x < 2 * u.n) ∧ u.st.length = 2 * u.n ∧ k ≤ u.trail.length ∧ ∀ H', Chg (vld u) ad H H' → Q .non H'
structure Mb (ad ad' : Rl → Addr) (u u' : US) (H H' : Hp) : Prop where
  p : ad' .p = ad .p
  kp : Kp ad ad' u u' H H'
  vs : u'.vs = u.vs
  rl : u'.rows.map (·.1) = u.rows.map (·.1)
  pre : u.trail <+: u'.trail
def spSettle (K : PySem.W.Frag) (Cu Cr : Addr) : Sp := fun vs H Q _ => ∃ (ad : Rl → Addr) (u : US) (F : Nat → Prop) (Cf : Prop), vs = [.ref (ad .p)] ∧ UAt K Cu Cr H ad u ∧ Lg F Cf u ∧ (u.broken = true → Cf) ∧
  ∀ H' ad' u', UAt K Cu Cr H' ad' u' → Mb ad ad' u u' H H' → ((u'.broken = true ∧ Cf) ∨ (u'.broken = false ∧ u.broken = false ∧ Lg F Cf u' ∧ u'.done = u'.trail.length)) → Q .non H'
def spForced (K : PySem.W.Frag) (Cu Cr : Addr) : Sp := fun vs H Q _ => ∃ (ad : Rl → Addr) (u : US) (it : Addr) (ps : List Nat) (F : Nat → Prop) (Cf : Prop), vs = [.ref (ad .p), .ref it] ∧ UAt K Cu Cr H ad u ∧ ((u.broken = true ∧ Cf) ∨ (u.broken = false ∧ Lg F Cf u)) ∧ H it = some (.lst (ps.map nat)) ∧ (∀ r, vld u r → it ≠ ad r) ∧
  (∀ x ∈ ps, x < 2 * u.n ∧ F (neg x) ∧ (F x → Cf)) ∧
  ∀ b H', (b = true → Cf) → (b = false → u.broken = false ∧ ∃ u', Lg F Cf u' ∧ u'.done = u'.trail.length ∧ u'.vs = u.vs ∧ u'.rows.map (·.1) = u.rows.map (·.1) ∧ u.trail <+: u'.trail ∧ ∀ x ∈ ps, neg x ∈ u'.trail) → (∀ b o, (∀ r, vld u r → b ≠ ad r) → H b = some o → H' b = some o) → Q (.bl b) H'
theorem cut_mem {xs : List V} {lo hi : Option Int} {y : V} (h : y ∈ cutV xs lo hi) : y ∈ xs := by
  unfold cutV at h
  first
  | exact List.mem_of_mem_drop (List.mem_of_mem_take h)
  | exact List.mem_of_mem_take (List.mem_of_mem_drop h)
section
variable {P : Program} {w : World} {K : PySem.W.Frag} {mg : Str → Option Value} {base : Heap} {f Cu Cr : Addr} {fd : FuncData}
theorem ok_take_back (T : Txt K mg) (PK : UK K Cu) (C1 : ConI mg "OPEN" 2) (D : DefM K Cu "take_back" "Units.take_back" ["self", "count"] s_Units_take_back f fd) : OwnM P w K mg base Cu "take_back" ["self", "count"] 1 (spBack K Cu Cr) := by
  obtain ⟨t_OPEN, c_OPEN⟩ := C1
  refine ⟨f, fd, D.me, D.bd, D.fn.ok sc_Units_take_back (fun vs H Q E h => ?_) (fun cdv A outer s H vs Q E hr h => ?_)⟩
  · obtain ⟨ad, u, k, rfl, _⟩ := h
    rfl
  · obtain ⟨ad, u, k, rfl, A0, hlt, hst, hk, q⟩ := h
    refine ⟨_, (pss_cons (ps_for PassesOwn.never rfl (pi_list (pe_slice sl_list (pe_fld (pv 0) (by rfl)) (po_some (pv 1)) po_none)) (pg_name (i := 2) sc_Units_take_back.nd rfl (Or.inl rfl)) (pss_cons (ps_asg (pe_glob (v := .int 2) (u := .int 2 t_OPEN) (by rfl) c_OPEN ⟨t_OPEN, rfl⟩) (pg_sub (pe_fld (pv 0) (by rfl)) (pv 2) set_list))
      (pss_one (ps_asg (pe_glob (v := .int 2) (u := .int 2 t_OPEN) (by rfl) c_OPEN ⟨t_OPEN, rfl⟩) (pg_sub (pe_fld (pv 0) (by rfl)) (pe_op op_xor (pv 2) pe_int) set_list)))))
      (pss_cons (ps_delSl (pe_fld (pv 0) (by rfl)) (pv 1))
      (pss_one (ps_fld (pv 0) (pv 1) rfl)))), ?_⟩
    obtain ⟨dx, fs, hp, F0⟩ := A0.fs
    have hT : H (ad .T) = some (.lst (u.trail.map nat)) := A0.all .T True.intro
    refine ⟨_, rfl, _, Cu, dx, fs, _, rfl, hp, PK.cls, PK.no .tr, F0.get .tr, _, rfl, _, rfl, ad .T, _, rfl, SqL.of hT, fun t0 ht0 => ?_⟩
    have A1 := A0.same (same_new ht0 (.lst (cutV (u.trail.map nat) (some (k : Int)) none)))
    have nt : ∀ r, vld u r → t0 ≠ ad r := fun r hr e => by
      obtain ⟨o, ho⟩ := A0.has hr
      rw [← e, ht0] at ho
      cases ho
    refine ⟨t0, rfl, ⟨_, SqL.of upd_same⟩, for_list (K := K) (a := t0) (xs := cutV (u.trail.map nat) (some (k : Int)) none) (fun i σ' G => ∃ (o2 : Option V) (st' : List Int), σ' = [some (.ref (ad .p)), some (nat k), o2] ∧ UAt K Cu Cr G ad { u with st := st' } ∧ st'.length = 2 * u.n ∧ Chg (vld u) ad (upd H t0 (.lst (cutV (u.trail.map nat) (some (k : Int)) none))) G) ⟨none, u.st, rfl, A1, hst, Chg.refl⟩ (fun i σ' G _ ⟨_, _, _, _, _, C⟩ => SqL.of (C _ _ nt upd_same)) ?_ ?_⟩
    · rintro i y σ' G hi ⟨o2, st', rfl, A2, hl, C2⟩
      obtain ⟨x, hx, rfl⟩ := List.mem_map.mp (cut_mem (List.mem_of_getElem? hi))
      have hxl := hlt x hx
      have hnl := neg_lt hxl
      obtain ⟨dx2, fs2, hp2, F2⟩ := A2.fs
      have A3 := A2.putS (st'.set x 2)
      rw [List.map_set] at A3
      obtain ⟨dx3, fs3, hp3, F3⟩ := A3.fs
      have A4 := A3.putS ((st'.set x 2).set (neg x) 2)
      rw [List.map_set] at A4
      refine ⟨_, rfl, _, Cu, dx2, fs2, _, rfl, hp2, PK.cls, PK.no .st, F2.get .st, _, rfl, ad .S, _, (x : Int), x, rfl, rfl, A2.all .S True.intro, ixN_nat (by rw [List.length_map]; show x < st'.length; omega), ?_⟩
      refine ⟨_, rfl, _, Cu, dx3, fs3, _, rfl, hp3, PK.cls, PK.no .st, F3.get .st, _, rfl, opC_to (v := nat (neg x)) rfl (congrArg V.int (bx1 x)) ⟨ad .S, _, ((neg x : Nat) : Int), neg x, rfl, rfl, A3.all .S True.intro, ixN_nat (by rw [List.length_map, List.length_set]; show neg x < st'.length; omega), ?_⟩⟩
      refine ⟨_, _, rfl, A4, by rw [List.length_set, List.length_set]; exact hl, ?_⟩
      exact (C2.trans (Chg.put (r := .S) True.intro _)).trans (Chg.put (r := .S) True.intro _)
    · rintro σ' G ⟨o2, st', rfl, A2, hl, C2⟩
      obtain ⟨dx2, fs2, hp2, F2⟩ := A2.fs
      have hT2 : G (ad .T) = some (.lst (u.trail.map nat)) := A2.all .T True.intro
      have A3 := A2.putT (u.trail.take k)
      rw [List.map_take] at A3
      obtain ⟨dx3, fs3, hp3, F3⟩ := A3.fs
      refine ⟨_, rfl, _, Cu, dx2, fs2, _, rfl, hp2, PK.cls, PK.no .tr, F2.get .tr, _, rfl, ad .T, _, k, rfl, rfl, hT2, by rw [List.length_map]; exact hk, ?_⟩
      refine ⟨_, rfl, _, rfl, ad .p, Cu, dx3, fs3, rfl, hp3, PK.cls, PK.no .dn, Nat.lt_of_le_of_lt F3.few (by decide), ?_⟩
      exact q _ ((((Chg.of_same (same_new ht0 _)).trans C2).trans (Chg.put (r := .T) True.intro _)).trans (Chg.put (r := .p) True.intro _))
theorem ok_settle (T : Txt K mg) (PK : UK K Cu) (D : Def K mg "settle" ["units"] s_settle f fd) (O1 : OwnM P w K mg base Cu "spread" ["self"] 3 (spSpread K Cu Cr)) : Own P w K mg base "settle" ["units"] 4 (spSettle K Cu Cr) := by
  obtain ⟨fspread, fdspread, Mspread, bspread, Gspread⟩ := O1
  refine ⟨f, fd, D.mg, D.fn.kp, D.bd, D.fn.ok sc_settle (fun vs H Q E h => ?_) (fun cdv A outer s H vs Q E hr h => ?_)⟩
  · obtain ⟨ad, u, F, Cf, rfl, _⟩ := h
    rfl
  · obtain ⟨ad, u, F, Cf, rfl, A0, L0, hb, q⟩ := h
    have hu := hu_of hr
    refine ⟨_, (pss_one (ps_if (PW.pt (pw_and (pt_not (pt_truth (pe_fld (pv 0) (by rfl)) (by intro _; rfl))) (pw_and1 (pt_cmpR op_notN (pe_meth0 (pv 0) PK.cls Mspread Gspread (hr.mono (by omega)) bspread .nil pass0) pe_non (nomark _))))) (pss_one (ps_fld (pv 0) pe_bl rfl)) pss_nil)), ?_⟩
    obtain ⟨dx, fs, hp, F0⟩ := A0.fs
    refine ⟨_, rfl, _, Cu, dx, fs, _, rfl, hp, PK.cls, PK.no .br, F0.get .br, u.broken, rfl, ite2 (fun c => ?_) (fun c => ?_)⟩
    · have nb : u.broken = false := by
        cases e : u.broken with
        | false => rfl
        | true => rw [e] at c; cases c
      refine ⟨_, rfl, _, dx, fs, rfl, hp, F0.no _ no_spread, ad, u, F, Cf, rfl, A0, L0, fun H' ad' u' v A' M' Ld O => ?_⟩
      refine ⟨rfl, _, rfl, ite2 (fun c2 => ?_) (fun c2 => ?_)⟩
      · rcases O with ⟨e, _⟩ | ⟨⟨x, e⟩, hc⟩
        · rw [e] at c2; cases c2
        · obtain ⟨dx2, fs2, hp2, F2⟩ := A'.fs
          have A2 := A'.putBroken true hp2
          have C2 : Chg (vld u') ad' H' (upd H' (ad' .p) (.ins Cu dx2 (putF (fname .br) (.bl true) fs2))) := Chg.put (r := .p) True.intro _
          rw [M'.p] at hp2 A2 C2
          refine ⟨_, rfl, ad .p, Cu, dx2, fs2, rfl, hp2, PK.cls, PK.no .br, Nat.lt_of_le_of_lt F2.few (by decide), ?_⟩
          exact q _ ad' _ A2 ⟨M'.p, M'.kp.trans (Kp.of C2 fun r hr => by cases r <;> exact hr), M'.vs, M'.rl, M'.pre⟩ (.inl ⟨rfl, hc⟩)
      · rcases O with ⟨e, L', d'⟩ | ⟨⟨x, e⟩, hc⟩
        · exact q _ ad' u' A' ⟨M'.p, M'.kp, M'.vs, M'.rl, M'.pre⟩ (.inr ⟨M'.brk.trans nb, nb, L', d'⟩)
        · rw [e] at c2
          exact absurd rfl c2
    · have nb : u.broken = true := by
        cases e : u.broken with
        | true => rfl
        | false => rw [e] at c; exact absurd rfl c
      refine ite2 (fun z => by cases z) (fun _ => ?_)
      exact q H ad u A0 ⟨rfl, Kp.refl, rfl, rfl, List.prefix_refl _⟩ (.inl ⟨nb, hb nb⟩)
theorem ok_is_forced (T : Txt K mg) (PK : UK K Cu) (C2 : ConI mg "OPEN" 2) (C1 : ConI mg "TRUE" 1) (D : Def K mg "is_forced" ["units", "items"] s_is_forced f fd) (O1 : OwnM P w K mg base Cu "spread" ["self"] 3 (spSpread K Cu Cr)) (O2 : OwnM P w K mg base Cu "give" ["self", "x", "cause"] 1 (spGive K Cu Cr)) (O3 : OwnM P w K mg base Cu "take_back" ["self", "count"] 1 (spBack K Cu Cr)) : Own P w K mg base "is_forced" ["units", "items"] 4 (spForced K Cu Cr) := by
  obtain ⟨t_OPEN, c_OPEN⟩ := C2
  obtain ⟨t_TRUE, c_TRUE⟩ := C1
  obtain ⟨fspread, fdspread, Mspread, bspread, Gspread⟩ := O1
  obtain ⟨fgive, fdgive, Mgive, bgive, Ggive⟩ := O2
  obtain ⟨ftake_back, fdtake_back, Mtake_back, btake_back, Gtake_back⟩ := O3
  refine ⟨f, fd, D.mg, D.fn.kp, D.bd, D.fn.ok sc_is_forced (fun vs H Q E h => ?_) (fun cdv A outer s H vs Q E hr h => ?_)⟩
  · obtain ⟨ad, u, it, ps, F, Cf, rfl, _⟩ := h
    rfl
  · obtain ⟨ad, u, it, ps, F, Cf, rfl, A0, hO, hit, nit, hps, q⟩ := h
    have hu := hu_of hr
    refine ⟨_, (pss_cons (ps_if (pt_truth (pe_fld (pv 0) (by rfl)) (by intro _; rfl)) (pss_one (ps_ret pe_bl)) pss_nil)
      (pss_cons (ps_set (i := 2) sc_is_forced.nd rfl (Or.inl rfl) (pe_callB call_len_seq (by rfl) T.m_len (by decide +kernel) (pa_cons (pe_fld (pv 0) (by rfl)) pa_nil)))
      (pss_cons (ps_set (i := 3) sc_is_forced.nd rfl (Or.inl rfl) pe_bl)
      (pss_cons (ps_for PassesOwn.never rfl (pi_list (pv 1)) (pg_name (i := 4) sc_is_forced.nd rfl (Or.inl rfl)) (pss_one (ps_if (pt_cmpR op_eq (pe_ix ix_list (pe_fld (pv 0) (by rfl)) (pv 4) (fun _ _ => rfl)) (pe_glob (v := .int 1) (u := .int 1 t_TRUE) (by rfl) c_TRUE ⟨t_TRUE, rfl⟩) (nomark _)) (pss_one (ps_set (i := 3) sc_is_forced.nd rfl (Or.inl rfl) pe_bl)) (pss_one (ps_if (pt_cmpR op_eq (pe_ix ix_list (pe_fld (pv 0) (by rfl)) (pv 4) (fun _ _ => rfl)) (pe_glob (v := .int 2) (u := .int 2 t_OPEN) (by rfl) c_OPEN ⟨t_OPEN, rfl⟩) (nomark _)) (pss_one (ps_expr (pe_meth (pv 0) PK.cls Mgive Ggive (hr.mono (by omega)) bgive .nil pass0 (pa_cons (pe_op op_xor (pv 4) pe_int) (pa_cons pe_non pa_nil))))) pss_nil)))))
      (pss_cons (ps_if (pt_not (pt_val (pv 3))) (pss_one (ps_set (i := 3) sc_is_forced.nd rfl (Or.inl rfl) (pe_cmpR op_notN (pe_meth0 (pv 0) PK.cls Mspread Gspread (hr.mono (by omega)) bspread .nil pass0) pe_non (nomark _)))) pss_nil)
      (pss_cons (ps_expr (pe_meth (pv 0) PK.cls Mtake_back Gtake_back (hr.mono (by omega)) btake_back .nil pass0 (pa_cons (pv 2) pa_nil)))
      (pss_one (ps_ret (pv 3))))))))), ?_⟩
    obtain ⟨dx, fs, hp, F0⟩ := A0.fs
    refine ⟨_, rfl, _, Cu, dx, fs, _, rfl, hp, PK.cls, PK.no .br, F0.get .br, u.broken, rfl, ite2 (fun c => ?_) (fun c => ?_)⟩
    · rcases hO with ⟨_, hc⟩ | ⟨e, _⟩
      · exact q true H (fun _ => hc) (fun z => by cases z) fun _ _ _ e => e
      · rw [e] at c; cases c
    · rcases hO with ⟨e, _⟩ | ⟨nb, L0⟩
      · exact absurd e c
      have hT : H (ad .T) = some (.lst (u.trail.map nat)) := A0.all .T True.intro
      have kl : V.int (((u.trail.map nat).length : Nat) : Int) = nat u.trail.length := by rw [List.length_map]; rfl
      refine ⟨_, rfl, _, Cu, dx, fs, _, rfl, hp, PK.cls, PK.no .tr, F0.get .tr, ad .T, _, rfl, .inl (SqL.of hT), ?_⟩
      refine ⟨_, rfl, it, rfl, ⟨_, SqL.of hit⟩, for_list (K := K) (a := it) (xs := ps.map nat) (fun i σ' G => ∃ (u1 : US) (fo : Bool) (o4 : Option V), σ' = [some (.ref (ad .p)), some (.ref it), some (V.int (((u.trail.map nat).length : Nat) : Int)), some (.bl fo), o4] ∧ UAt K Cu Cr G ad u1 ∧ Chg R4 ad H G ∧ More u u1 ∧ Lg F Cf u1 ∧ (fo = true → Cf) ∧ (fo = false → ∀ x ∈ ps.take i, neg x ∈ u1.trail)) ⟨u, false, none, rfl, A0, Chg.refl, More.refl u, L0, fun z => (by cases z), fun _ x hx => (by cases hx)⟩ (fun i σ' G _ ⟨_, _, _, _, _, C, _⟩ => SqL.of (C _ _ (fun r hr => nit r hr.vld) hit)) ?_ ?_⟩
      · rintro i y σ' G hi ⟨u1, fo, o4, rfl, A1, C1, M1, L1, hf, T1⟩
        rw [List.getElem?_map] at hi
        obtain ⟨x, hx, rfl⟩ := Option.map_eq_some_iff.mp hi
        obtain ⟨hxl, hFn, hFc⟩ := hps x (List.mem_of_getElem? hx)
        have hxl : x < 2 * u1.n := by rw [M1.n]; exact hxl
        have S1 : StOk u1.n u1.st u1.trail := L1.so
        obtain ⟨sx, hsx, hat⟩ := stat S1 hxl
        obtain ⟨dx1, fs1, hp1, F1⟩ := A1.fs
        have tk := take_next hx
        refine ⟨_, rfl, _, Cu, dx1, fs1, _, rfl, hp1, PK.cls, PK.no .st, F1.get .st, _, rfl, ad .S, _, (x : Int), _, rfl, rfl, SqL.of (A1.all .S True.intro), hat, rfl, _, rfl, ite2 (fun c1 => ?_) (fun c1 => ?_)⟩
        · rw [veq] at c1
          have c1 : sx = 1 := of_decide_eq_true c1
          rw [c1] at hsx
          exact ⟨u1, true, _, rfl, A1, C1, M1, L1, fun _ => hFc (L1.s.tr x ((S1.t x hxl).1 hsx)), fun z => (by cases z)⟩
        · rw [veq] at c1
          have c1 : sx ≠ 1 := fun e => c1 (decide_eq_true e)
          refine ⟨_, rfl, _, Cu, dx1, fs1, _, rfl, hp1, PK.cls, PK.no .st, F1.get .st, _, rfl, ad .S, _, (x : Int), _, rfl, rfl, SqL.of (A1.all .S True.intro), hat, rfl, _, rfl, ite2 (fun c2 => ?_) (fun c2 => ?_)⟩
          · rw [veq] at c2
            have c2 : sx = 2 := of_decide_eq_true c2
            rw [c2] at hsx
            have hnl := neg_lt hxl
            have hno : u1.st[neg x]? = some 2 := by
              rcases S1.o (neg x) hnl with e | e | e
              · have := (S1.f (neg x) hnl).1 e
                rw [neg_neg] at this
                rw [(S1.t x hxl).2 this] at hsx
                cases hsx
              · rw [(S1.f x hxl).2 ((S1.t (neg x) hnl).1 e)] at hsx
                cases hsx
              · exact e
            refine ⟨_, rfl, _, dx1, fs1, rfl, hp1, F1.no _ no_give, _, rfl, opC_to (v := nat (neg x)) rfl (congrArg V.int (bx1 x)) ⟨ad, u1, neg x, .non, rfl, A1, hnl, S1.len, L1.lc, L1.ll, L1.few, by have := S1.few; have h1 : u1.n ≤ 200000 := L1.few; omega, fun H2 A2 C2 => ?_⟩⟩
            refine ⟨_, fo, _, rfl, A2, C1.trans C2, M1.trans (More.give u1 _ _), L1.give hnl hno hFn _, hf, fun z w hw => ?_⟩
            rw [tk] at hw
            rcases List.mem_append.mp hw with m | m
            · exact List.mem_append_left _ (T1 z w m)
            · rw [List.mem_singleton.mp m]; exact List.mem_append_right _ (List.mem_singleton_self _)
          · rw [veq] at c2
            have c2 : sx ≠ 2 := fun e => c2 (decide_eq_true e)
            refine ⟨u1, fo, _, rfl, A1, C1, M1, L1, hf, fun z w hw => ?_⟩
            rw [tk] at hw
            rcases List.mem_append.mp hw with m | m
            · exact T1 z w m
            · rw [List.mem_singleton.mp m]
              rcases S1.o x hxl with e | e | e
              · exact (S1.f x hxl).1 e
              · rw [e] at hsx; cases hsx; exact absurd rfl c1
              · rw [e] at hsx; cases hsx; exact absurd rfl c2
      · rintro σ' G ⟨u1, fo, o4, rfl, A1, C1, M1, L1, hf, T1⟩
        rw [List.length_map, List.take_length] at T1
        obtain ⟨dx1, fs1, hp1, F1⟩ := A1.fs
        have V1 : u1.vs = u.vs := by obtain ⟨⟨_, _, _, _, rfl⟩, _⟩ := M1; rfl
        have kp1 : Kp ad ad u u1 H G := Kp.of (C1.wide fun r h => h.vld) fun r => (vld_of V1 (by rw [M1.rows]) r).1
        refine ⟨_, rfl, fo, rfl, ite2 (fun c3 => ?_) (fun c3 => ?_)⟩
        · have e3 : fo = false := by
            cases fo with
            | false => rfl
            | true => cases c3
          subst e3
          refine ⟨_, rfl, _, dx1, fs1, rfl, hp1, F1.no _ no_spread, ad, u1, F, Cf, rfl, A1, L1, fun G2 ad2 u2 v A2 M2 ⟨d, Ld⟩ O => ⟨rfl, ?_⟩⟩
          obtain ⟨dx2, fs2, hp2, F2⟩ := A2.fs
          rw [M2.p] at hp2
          have pre2 : u.trail <+: u2.trail := M1.pre.trans M2.pre
          refine ⟨_, rfl, _, dx2, fs2, rfl, hp2, F2.no _ no_back, _, rfl, ad2, u2, u.trail.length, by rw [M2.p, kl]; rfl, A2, Ld.so.lt, Ld.so.len, pre2.length_le, fun G3 C3 => ?_⟩
          refine ⟨_, rfl, q _ G3 (fun hb => ?_) (fun hb => ⟨nb, ?_⟩) fun b o n e => ?_⟩
          · rcases O with ⟨e, _⟩ | ⟨_, hc⟩
            · rw [e] at hb; cases hb
            · exact hc
          · rcases O with ⟨e, L2', d2⟩ | ⟨⟨a2, e⟩, _⟩
            · exact ⟨u2, L2', d2, M2.vs.trans V1, M2.rl.trans (by rw [M1.rows]), pre2, fun x hx => M2.pre.subset (T1 rfl x hx)⟩
            · rw [e] at hb; cases hb
          · obtain ⟨e1, n1⟩ := kp1 b o n e
            obtain ⟨e2, n2⟩ := M2.kp b o n1 e1
            exact C3 b o n2 e2
        · have e3 : fo = true := by
            cases fo with
            | true => rfl
            | false => exact absurd rfl c3
          subst e3
          refine ⟨_, rfl, _, dx1, fs1, rfl, hp1, F1.no _ no_back, _, rfl, ad, u1, u.trail.length, by rw [kl]; rfl, A1, L1.so.lt, L1.so.len, M1.pre.length_le, fun G3 C3 => ?_⟩
          refine ⟨_, rfl, q true G3 (fun _ => hf rfl) (fun hb => by cases hb) fun b o n e => ?_⟩
          obtain ⟨e1, n1⟩ := kp1 b o n e
          exact C3 b o n1 e1
end
end My

set_option Elab.async false
set_option maxRecDepth 100000
set_option maxHeartbeats 4000000
set_option linter.all false
namespace My
open PySem L2 PyProof.Rows
open C8 (pss_cut)
def FI (cs : List (List Int)) (row : List Int) (vs : List Int) (i : Nat) : Prop := MC.Forced cs row (itm vs i)
theorem ab_ne {x : Int} : ab (-x) = ab x := ab_neg x
theorem num_inj {vs : List Int} (h : okVs vs) {x y : Int} (hx : x ≠ 0 ∧ ab x ∈ vs) (hy : y ≠ 0 ∧ ab y ∈ vs) (e : num vs x = num vs y) : x = y := by
  rw [← (num_spec h hx.1 hx.2).2.2.1, ← (num_spec h hy.1 hy.2).2.2.1, e]
theorem FI_num {cs : List (List Int)} {row vs : List Int} (h : okVs vs) {x : Int} (hx : x ≠ 0 ∧ ab x ∈ vs) : FI cs row vs (num vs x) ↔ MC.Forced cs row x := by
  unfold FI
  rw [(num_spec h hx.1 hx.2).2.2.1]
theorem FI_neg {cs : List (List Int)} {row vs : List Int} (h : okVs vs) {x : Int} (hx : x ≠ 0 ∧ ab x ∈ vs) : FI cs row vs (neg (num vs x)) ↔ MC.Forced cs row (-x) := by
  unfold FI
  rw [itm_neg, (num_spec h hx.1 hx.2).2.2.1]
theorem num_dis {vs c : List Int} (h : okVs vs) (hc : ∀ x ∈ c, x ≠ 0 ∧ ab x ∈ vs) (hd : Dis c) : (c.map (num vs)).Pairwise fun x y => x / 2 ≠ y / 2 := by
  rw [List.pairwise_map]
  refine List.Pairwise.imp_of_mem (fun {x y} hx hy hn e => hn ?_) hd
  rcases half_eq e with z | z
  · rw [num_inj h (hc x hx) (hc y hy) z]
  · rw [← (num_spec h (hc y hy).1 (hc y hy).2).2.2.2] at z
    have := num_inj h (hc x hx) (y := -y) ⟨by have := (hc y hy).1; omega, by rw [ab_neg]; exact (hc y hy).2⟩ z
    rw [this, ab_neg]
theorem Cov.mono {u u' : US} {c : List Nat} (h : Cov u c) (ht : u.trail <+: u'.trail) (hr : ∀ r ∈ u.rows, ∃ r' ∈ u'.rows, r'.1 = r.1) (hb : u.broken = true → u'.broken = true) : Cov u' c := by
  rcases h with ⟨x, hx, hm⟩ | ⟨r, hr', hy⟩ | h
  · exact .inl ⟨x, hx, ht.subset hm⟩
  · obtain ⟨r2, h2, e2⟩ := hr r hr'
    exact .inr (.inl ⟨r2, h2, by rw [e2]; exact hy⟩)
  · exact .inr (.inr (hb h))
theorem rows_map {rows rows' : List (List Nat × Nat)} (h : rows'.map (·.1) = rows.map (·.1)) : ∀ r ∈ rows, ∃ r' ∈ rows', r'.1 = r.1 := fun r hr => by
  have : r.1 ∈ rows'.map (·.1) := by rw [h]; exact List.mem_map_of_mem hr
  exact List.mem_map.mp this
theorem u0_Lg {F : Nat → Prop} {Cf : Prop} {vs : List Int} (h : vs.length ≤ 60) : Lg F Cf (u0 vs) := by
  have hst : ∀ x, x < 2 * vs.length → (List.replicate (2 * vs.length) (2 : Int))[x]? = some 2 := fun x hx => by rw [List.getElem?_replicate, if_pos hx]
  refine ⟨Nat.le_trans h (by decide), ⟨List.length_replicate .., fun x hx => (by cases hx), fun x hx => ⟨fun e => ?_, fun e => (by cases e)⟩, fun x hx => ⟨fun e => ?_, fun e => (by cases e)⟩, fun x hx => .inr (.inr (hst x hx)), .nil⟩, ⟨fun r hr => (by cases hr), fun x _ => .nil, fun x _ j hj => (by cases hj), fun j r hj => (by cases hj), fun j a b l hj => (by cases hj), fun x _ y hy => (by cases hy)⟩, ⟨fun x hx => (by cases hx), fun r hr => (by cases hr), fun r hr => (by cases hr)⟩, fun x hx => (by cases hx), List.length_replicate .., List.length_replicate .., Nat.le_refl _, Nat.zero_le _, fun x => Nat.le_refl _⟩
  · rw [show (u0 vs).st = List.replicate (2 * vs.length) (2 : Int) from rfl, hst x hx] at e
    cases e
  · rw [show (u0 vs).st = List.replicate (2 * vs.length) (2 : Int) from rfl, hst x hx] at e
    cases e
def spLoaded (K : PySem.W.Frag) (Cu Cr : Addr) : Sp := fun vs H Q _ => ∃ (a b t : Addr) (xs : List V) (cs : List (List Int)) (row : List Int), vs = [.ref a, .ref b] ∧ (SqL K H a xs ∨ SqT K H a xs) ∧ DpAll K H xs (cs.map clD) ∧ H b = some (.lst [.ref t]) ∧ SqT K H t (row.map V.int) ∧ (∀ c ∈ cs, goodC c) ∧ goodC row ∧ cs.length ≤ 1000 ∧ (∃ ns : List Int, ns.length ≤ 60 ∧ ∀ c ∈ row :: cs, ∀ x ∈ c, ab x ∈ ns) ∧
  ∀ H' ad u, UAt K Cu Cr H' ad u → (∀ b o, H b = some o → H' b = some o ∧ ∀ r, vld u r → b ≠ ad r) → okVs u.vs → (∀ c ∈ row :: cs, ∀ x ∈ c, ab x ∈ u.vs) →
    ((u.broken = true ∧ MC.Conf cs row) ∨ (u.broken = false ∧ Lg (FI cs row u.vs) (MC.Conf cs row) u ∧ ∀ c ∈ cs, Cov u (c.map (num u.vs)))) → Q (.ref (ad .p)) H'
theorem seq_for {K : PySem.W.Frag} {a : Addr} {xs : List V} {g : TG} {tb : TS} {D : Ends} {σ : L2.St} {H0 H : Hp} (Pv : Nat → L2.St → Hp → Prop) (h0 : Pv 0 σ H) (ha : SqL K H0 a xs ∨ SqT K H0 a xs) (hl : ∀ i σ G, Pv i σ G → Same H0 G)
    (hs : ∀ i x σ H, xs[i]? = some x → Pv i σ H → g x σ H fun σ2 H2 => tb { D with nx := Pv (i + 1), ct := Pv (i + 1), bk := D.nx } σ2 H2) (hd : ∀ σ H, Pv xs.length σ H → D.nx σ H) :
    ((∃ xs, SqL K H a xs) ∧ ∃ W : Nat → Nat → L2.St → Hp → Prop, (∃ m, W 0 m σ H) ∧ ∀ i m σ H, W i m σ H →
      ((Itl K a).stop i H ∧ D.nx σ H) ∨ ((Itl K a).go i H ∧ ∃ N : L2.St → Hp → Prop, (∀ σ' H', N σ' H' → ∃ m', m' < m ∧ W (i + 1) m' σ' H') ∧ ∀ x H', (Itl K a).yld i H x H' → g x σ H' fun σ2 H2 => tb { D with nx := N, ct := N, bk := D.nx } σ2 H2)) ∨
    ((∃ xs, SqT K H a xs) ∧ ∃ W : Nat → Nat → L2.St → Hp → Prop, (∃ m, W 0 m σ H) ∧ ∀ i m σ H, W i m σ H →
      ((Itt K a).stop i H ∧ D.nx σ H) ∨ ((Itt K a).go i H ∧ ∃ N : L2.St → Hp → Prop, (∀ σ' H', N σ' H' → ∃ m', m' < m ∧ W (i + 1) m' σ' H') ∧ ∀ x H', (Itt K a).yld i H x H' → g x σ H' fun σ2 H2 => tb { D with nx := N, ct := N, bk := D.nx } σ2 H2)) := by
  rcases ha with ha | ha
  · exact .inl ⟨⟨_, sql_mono (hl 0 σ H h0) ha⟩, for_list (K := K) (a := a) (xs := xs) Pv h0 (fun i σ G _ p => sql_mono (hl i σ G p) ha) hs hd⟩
  · exact .inr ⟨⟨_, sqt_mono (hl 0 σ H h0) ha⟩, for_tup (K := K) (a := a) (xs := xs) Pv h0 (fun i σ G _ p => sqt_mono (hl i σ G p) ha) hs hd⟩
theorem dis_mem : ∀ {l : List Int}, Dis l → ∀ {x y : Int}, x ∈ l → y ∈ l → x ≠ y → ab x ≠ ab y
  | [], _, _, _, hx, _, _ => by cases hx
  | a :: l, h, x, y, hx, hy, ne => by
    obtain ⟨h1, h2⟩ := List.pairwise_cons.mp h
    rcases List.mem_cons.mp hx with ex | mx
    · rcases List.mem_cons.mp hy with ey | my
      · exact absurd (ex.trans ey.symm) ne
      · rw [ex]; exact h1 y my
    · rcases List.mem_cons.mp hy with ey | my
      · rw [ey]; exact fun e => h1 x mx e.symm
      · exact dis_mem h2 mx my ne
theorem forced_conf {cs : List (List Int)} {row : List Int} (hg : goodC row) {x : Int} (hx : x ∈ row) (f : MC.Forced cs row x) : MC.Conf cs row := by
  cases f with
  | @start y m =>
    have := hg.nz _ m
    exact absurd (ab_neg y) (dis_mem hg.dis hx m (by omega))
  | @unit c _ hc hl h =>
    refine ⟨c, hc, fun z hz => ?_⟩
    by_cases e : z = x
    · rw [e]; exact .start hx
    · exact h z hz e
section
variable {P : Program} {w : World} {K : PySem.W.Frag} {mg : Str → Option Value} {base : Heap} {f Cu Cr : Addr} {fd : FuncData}
theorem ok_loaded (T : Txt K mg) (PK : UK K Cu) (D : Def K mg "loaded" ["clauses", "rows"] s_loaded f fd) (O1 : Own P w K mg base "variables_of" ["clauses"] 1 (spVars K)) (O2 : Own P w K mg base "numbered" ["units", "clause"] 1 (spNum K Cu Cr)) (O3 : Own P w K mg base "settle" ["units"] 4 (spSettle K Cu Cr)) (O4 : OwnM P w K mg base Cu "enter" ["self", "clause"] 4 (spEnter K Cu Cr)) (O5 : OwnC P w K mg base "Units" Cu ["self", "variables"] 1 (spUnits K Cu Cr)) : Own P w K mg base "loaded" ["clauses", "rows"] 6 (spLoaded K Cu Cr) := by
  obtain ⟨fvariables_of, fdvariables_of, mvariables_of, kvariables_of, bvariables_of, Gvariables_of⟩ := O1
  obtain ⟨fnumbered, fdnumbered, mnumbered, knumbered, bnumbered, Gnumbered⟩ := O2
  obtain ⟨fsettle, fdsettle, msettle, ksettle, bsettle, Gsettle⟩ := O3
  obtain ⟨fenter, fdenter, Menter, benter, Genter⟩ := O4
  obtain ⟨fUnits, fdUnits, mUnits, MUnits, bUnits, GUnits⟩ := O5
  refine ⟨f, fd, D.mg, D.fn.kp, D.bd, D.fn.ok sc_loaded (fun vs H Q E h => ?_) (fun cdv A outer s H vs Q E hr h => ?_)⟩
  · obtain ⟨a, b, t, xs, cs, row, rfl, _⟩ := h
    rfl
  · obtain ⟨a, b, t, xs, cs, row, rfl, ha, hxs, hb, ht, hcs, hrow, hcl, ⟨ns, nsl, nsm⟩, q⟩ := h
    have hu := hu_of hr
    refine ⟨_, (pss_cons (ps_set (i := 2) sc_loaded.nd rfl (Or.inl rfl) (pe_make MUnits GUnits (hr.mono (by omega)) (by rfl) mUnits bUnits .nil pass0 (pa_cons (pe_call Gvariables_of (hr.mono (by omega)) rfl mvariables_of kvariables_of bvariables_of .nil pass0 (pa_cons (pe_op op_cat (pe_callTy call_list_of (by rfl) T.m_list (by decide +kernel) (pa_cons (pv 0) pa_nil)) (pe_callTy call_list_of (by rfl) T.m_list (by decide +kernel) (pa_cons (pv 1) pa_nil))) pa_nil)) pa_nil)))
      (pss_cons (ps_for PassesOwn.never rfl (pi_seq (pv 0)) (pg_name (i := 3) sc_loaded.nd rfl (Or.inl rfl)) (pss_one (ps_expr (pe_meth (pv 2) PK.cls Menter Genter (hr.mono (by omega)) benter .nil pass0 (pa_cons (pe_call Gnumbered (hr.mono (by omega)) rfl mnumbered knumbered bnumbered .nil pass0 (pa_cons (pv 2) (pa_cons (pv 3) pa_nil))) pa_nil)))))
      (pss_cons (ps_expr (pe_call Gsettle (hr.mono (by omega)) rfl msettle ksettle bsettle .nil pass0 (pa_cons (pv 2) pa_nil)))
      (pss_one (ps_ret (pv 2)))))), ?_⟩
    have xl : xs.length = cs.length := by rw [dpa_len hxs, List.length_map]
    refine ⟨_, rfl, a, xs, rfl, ha, fun l1 hl1 => ?_⟩
    have s1 := same_new hl1 (.lst xs)
    refine ⟨_, rfl, b, _, rfl, .inl (SqL.of (s1 _ _ hb)), fun l2 hl2 => ?_⟩
    have s2 := s1.trans (same_new hl2 (.lst [.ref t]))
    refine ⟨l1, l2, xs, [.ref t], rfl, rfl, same_new hl2 _ _ _ upd_same, upd_same, by rw [xl, sizeLine_eq]; show cs.length + 1 ≤ _; omega, fun n3 hn3 => ?_⟩
    have s3 := s2.trans (same_new hn3 (.lst (xs ++ [.ref t])))
    refine ⟨n3, xs ++ [.ref t], cs ++ [row], rfl, SqL.of upd_same, ?_, fun c hc x hx => ?_, ⟨ns, nsl, fun c hc x hx => ?_⟩, fun H' r vs sm hr0 hr' ok mem len => ?_⟩
    · rw [List.map_append]
      exact dpa_app (dpa_mono s3 _ hxs) (dpa_one (.tup (sqt_mono s3 ht) (ints_all row)))
    · rcases List.mem_append.mp hc with m | m
      · exact (hcs c m).nz x hx
      · rw [List.mem_singleton.mp m] at hx; exact hrow.nz x hx
    · rcases List.mem_append.mp hc with m | m
      · exact nsm c (List.mem_cons_of_mem _ m) x hx
      · rw [List.mem_singleton.mp m] at hx; exact nsm row List.mem_cons_self x hx
    · have s4 := s3.trans sm
      have memv : ∀ c ∈ row :: cs, ∀ x ∈ c, ab x ∈ vs := fun c hc x hx => by
        rcases List.mem_cons.mp hc with e | m
        · exact mem row (by simp) x (e ▸ hx)
        · exact mem c (List.mem_append_left _ m) x hx
      have hrH : ∀ b o, H b = some o → b ≠ r := fun b o e z => by
        have := s3 _ _ e
        rw [z, hr0] at this
        cases this
      refine fun p dx hp hdx ndp => ⟨p, r, dx, vs, rfl, upd_same, ?_, ok, by omega, fun H2 ad A2 ep kp => ⟨rfl, ?_⟩⟩
      · have n1 : r ≠ p := fun z => by rw [z, hp] at hr'; cases hr'
        have n2 : r ≠ dx := fun z => by rw [z, hdx] at hr'; cases hr'
        rw [upd_ne n1, upd_ne n2]
        exact hr'
      · have KP : ∀ b o, H b = some o → H2 b = some o ∧ ∀ r, vld (u0 vs) r → b ≠ ad r := fun b o e => by
          have e4 := s4 _ _ e
          have n1 : b ≠ p := fun z => by rw [z, hp] at e4; cases e4
          have n2 : b ≠ dx := fun z => by rw [z, hdx] at e4; cases e4
          exact kp b o n1 (hrH b o e) (by rw [upd_ne n1, upd_ne n2]; exact e4)
        have S2 : Same H H2 := fun b o e => (KP b o e).1
        refine ⟨_, rfl, a, rfl, seq_for (K := K) (a := a) (xs := xs) (fun i σ' G => Same H G ∧ ∃ (ad : Rl → Addr) (u : US) (o3 : Option V), σ' = [some (.ref a), some (.ref b), some (.ref (ad .p)), o3] ∧ UAt K Cu Cr G ad u ∧ (∀ b o, H b = some o → G b = some o ∧ ∀ r, vld u r → b ≠ ad r) ∧ u.vs = vs ∧ Lg (FI cs row vs) (MC.Conf cs row) u ∧ u.done = 0 ∧ u.rows.length ≤ i ∧ (u.broken = true → MC.Conf cs row) ∧ ∀ c ∈ cs.take i, Cov u (c.map (num vs))) ⟨S2, ad, u0 vs, none, by rw [ep]; rfl, A2, KP, rfl, u0_Lg len, rfl, Nat.zero_le _, fun z => (by cases z), fun c hc => (by cases hc)⟩ ha (fun i σ G h => h.1) ?_ ?_⟩
        · rintro i y σ' G hi ⟨SG, ad1, u1, o3, rfl, A1, KP1, ev, L1, d1, r1, b1, cv1⟩
          obtain ⟨c, t', hc, rfl, ht'⟩ := dpa_at hxs hi
          have hcm : c ∈ cs := List.mem_of_getElem? hc
          have hcx : ∀ x ∈ c, x ≠ 0 ∧ ab x ∈ vs := fun x hx => ⟨(hcs c hcm).nz x hx, memv c (List.mem_cons_of_mem _ hcm) x hx⟩
          have hi' := (List.getElem?_eq_some_iff.mp hc).1
          obtain ⟨dx1, fs1, hp1, F1⟩ := A1.fs
          refine ⟨_, rfl, _, dx1, fs1, rfl, hp1, F1.no _ no_enter, _, rfl, _, rfl, ad1, u1, t', c, rfl, A1, by rw [ev]; exact ok, sqt_mono SG ht', by rw [ev]; exact hcx, (hcs c hcm).len, fun G2 r2 sm2 hr2 hc2 => ?_⟩
          rw [ev] at hc2
          refine ⟨ad1, u1, r2, c.map (num vs), FI cs row vs, MC.Conf cs row, rfl, A1.same sm2, L1, d1, by omega, hc2, fun z hz => ?_, num_dis ok hcx (hcs c hcm).dis, by rw [List.length_map]; have := (hcs c hcm).len; omega, fun l hl k => ?_, fun k => ⟨c, hcm, fun x hx => ?_⟩, fun H' ad' u' A' p' kp' L' d' v' pre' rows' bb bb' cov' => ?_⟩
          · obtain ⟨x, hx, rfl⟩ := List.mem_map.mp hz
            show num vs x < 2 * u1.vs.length
            rw [ev]
            exact (num_spec ok (hcx x hx).1 (hcx x hx).2).2.1
          · obtain ⟨x, hx, rfl⟩ := List.mem_map.mp hl
            rw [FI_num ok (hcx x hx)]
            refine .unit hcm hx fun y hy ne => ?_
            rw [← FI_neg ok (hcx y hy)]
            exact k _ (List.mem_map_of_mem hy) fun e => ne (num_inj ok (hcx y hy) (hcx x hx) e)
          · rw [← FI_neg ok (hcx x hx)]
            exact k _ (List.mem_map_of_mem hx)
          · obtain ⟨new, rn, nl⟩ := rows'
            have KP2 : ∀ b o, H b = some o → H' b = some o ∧ ∀ r, vld u' r → b ≠ ad' r := fun b o e => by
              obtain ⟨e1, n1⟩ := KP1 b o e
              exact kp' b o n1 (sm2 _ _ e1)
            refine ⟨fun b o e => (KP2 b o e).1, ad', u', _, by rw [p']; rfl, A', KP2, v'.trans ev, L', d', by rw [rn, List.length_append]; omega, fun z => (bb z).elim b1 id, fun c' hc' => ?_⟩
            rw [take_next hc] at hc'
            rcases List.mem_append.mp hc' with m | m
            · exact (cv1 c' m).mono pre' (fun r hr => ⟨r, by rw [rn]; exact List.mem_append_left _ hr, rfl⟩) bb'
            · rw [List.mem_singleton.mp m]; exact cov'
        · rintro σ' G ⟨SG, ad1, u1, o3, rfl, A1, KP1, ev, L1, d1, r1, b1, cv1⟩
          rw [xl, List.take_length] at cv1
          refine ⟨_, rfl, ad1, u1, FI cs row vs, MC.Conf cs row, rfl, A1, L1, b1, fun H' ad' u' A' M' O => ⟨_, rfl, ?_⟩⟩
          have V' : u'.vs = vs := M'.vs.trans ev
          have KP2 : ∀ b o, H b = some o → H' b = some o ∧ ∀ r, vld u' r → b ≠ ad' r := fun b o e => by
            obtain ⟨e1, n1⟩ := KP1 b o e
            exact M'.kp b o n1 e1
          have fin := q H' ad' u' A' KP2 (by rw [V']; exact ok) (by rw [V']; exact memv) (by
            rw [V']
            rcases O with h | ⟨n', n0, L', d'⟩
            · exact .inl h
            · exact .inr ⟨n', L', fun c hc => (cv1 c hc).mono M'.pre (rows_map M'.rl) fun z => by rw [n0] at z; cases z⟩)
          rw [M'.p] at fin
          exact fin
theorem ok_follows (T : Txt K mg) (D : Def K mg "follows" ["clauses", "clause"] s_follows f fd) (O1 : Own P w K mg base "loaded" ["clauses", "rows"] 6 (spLoaded K Cu Cr)) (O2 : Own P w K mg base "is_forced" ["units", "items"] 4 (spForced K Cu Cr)) (O3 : Own P w K mg base "numbered" ["units", "clause"] 1 (spNum K Cu Cr)) : Own P w K mg base "follows" ["clauses", "clause"] 8 (spFollowsC K) := by
  obtain ⟨floaded, fdloaded, mloaded, kloaded, bloaded, Gloaded⟩ := O1
  obtain ⟨fis_forced, fdis_forced, mis_forced, kis_forced, bis_forced, Gis_forced⟩ := O2
  obtain ⟨fnumbered, fdnumbered, mnumbered, knumbered, bnumbered, Gnumbered⟩ := O3
  refine ⟨f, fd, D.mg, D.fn.kp, D.bd, D.fn.ok sc_follows (fun vs H Q E h => ?_) (fun cdv A outer s H vs Q E hr h => ?_)⟩
  · obtain ⟨a, t, xs, cs, row, rfl, _⟩ := h
    rfl
  · obtain ⟨a, t, xs, cs, row, rfl, ha, hxs, ht, hcs, hrow, hcl, hns, q⟩ := h
    have hu := hu_of hr
    refine ⟨_, (pss_cons (ps_set (i := 2) sc_follows.nd rfl (Or.inl rfl) (pe_call Gloaded (hr.mono (by omega)) rfl mloaded kloaded bloaded .nil pass0 (pa_cons (pv 0) (pa_cons (pe_lst (pa_cons (pv 1) pa_nil)) pa_nil))))
      (pss_one (ps_ret (pe_call Gis_forced (hr.mono (by omega)) rfl mis_forced kis_forced bis_forced .nil pass0 (pa_cons (pv 2) (pa_cons (pe_call Gnumbered (hr.mono (by omega)) rfl mnumbered knumbered bnumbered .nil pass0 (pa_cons (pv 2) (pa_cons (pv 1) pa_nil))) pa_nil)))))), ?_⟩
    refine ⟨_, rfl, _, rfl, by show 1 ≤ sizeLine; decide, fun b0 hb0 => ?_⟩
    have s1 := same_new hb0 (.lst [.ref t])
    refine ⟨a, b0, t, xs, cs, row, rfl, ha.imp (sql_mono s1) (sqt_mono s1), dpa_mono s1 _ hxs, upd_same, sqt_mono s1 ht, hcs, hrow, hcl, hns, fun H2 ad u A2 KP ok mem O => ?_⟩
    have s2 : Same H H2 := fun b o e => (KP b o (s1 _ _ e)).1
    have hrx : ∀ x ∈ row, x ≠ 0 ∧ ab x ∈ u.vs := fun x hx => ⟨hrow.nz x hx, mem row List.mem_cons_self x hx⟩
    have hcx : ∀ c ∈ cs, ∀ x ∈ c, x ≠ 0 ∧ ab x ∈ u.vs := fun c hc x hx => ⟨(hcs c hc).nz x hx, mem c (List.mem_cons_of_mem _ hc) x hx⟩
    refine ⟨_, rfl, _, rfl, _, rfl, ad, u, t, row, rfl, A2, ok, sqt_mono s2 ht, hrx, hrow.len, fun H3 r sm hr0 hr3 => ?_⟩
    refine ⟨ad, u, r, row.map (num u.vs), FI cs row u.vs, MC.Conf cs row, rfl, A2.same sm, O.imp id fun h => ⟨h.1, h.2.1⟩, hr3, fun r' hr' e => ?_, fun z hz => ?_, fun b H4 h1 h2 k4 => ?_⟩
    · obtain ⟨o, ho⟩ := A2.has hr'
      rw [← e, hr0] at ho
      cases ho
    · obtain ⟨x, hx, rfl⟩ := List.mem_map.mp hz
      refine ⟨(num_spec ok (hrx x hx).1 (hrx x hx).2).2.1, ?_, fun z => ?_⟩
      · rw [FI_neg ok (hrx x hx)]
        exact .start hx
      · rw [FI_num ok (hrx x hx)] at z
        exact forced_conf hrow hx z
    · refine q b H4 ⟨h1, fun hc => ?_⟩ fun b' o e => ?_
      · cases b with
        | true => rfl
        | false =>
          obtain ⟨nb, u', L', d', v', rl', pre', T'⟩ := h2 rfl
          rcases O with ⟨e, _⟩ | ⟨_, _, cv⟩
          · rw [nb] at e; cases e
          · have hneg : ∀ x, x ≠ 0 ∧ ab x ∈ u.vs → -x ≠ 0 ∧ ab (-x) ∈ u.vs := fun x hx => ⟨by have := hx.1; omega, by rw [ab_neg]; exact hx.2⟩
            refine absurd hc (MC.not_conf (g := fun x => (x ≠ 0 ∧ ab x ∈ u.vs) ∧ num u.vs x ∈ u'.trail) (fun x hx => ⟨hneg x (hrx x hx), ?_⟩) (fun x hx hy => ?_) (fun c hcm => ?_))
            · rw [(num_spec ok (hrx x hx).1 (hrx x hx).2).2.2.2]
              exact T' _ (List.mem_map_of_mem hx)
            · have h3 := hy.2
              rw [(num_spec ok hx.1.1 hx.1.2).2.2.2] at h3
              exact L'.so.two hx.2 h3
            · rcases cv c hcm with ⟨z, hz, hm⟩ | ⟨r0, hr0', hsub⟩ | hbk
              · obtain ⟨x, hx, rfl⟩ := List.mem_map.mp hz
                exact .inl ⟨x, hx, hcx c hcm x hx, pre'.subset hm⟩
              · obtain ⟨r1, hr1, e1⟩ := rows_map rl' r0 hr0'
                rcases L'.full d' hr1 with ⟨z, hz, hm⟩ | ⟨z, hz, z2, hz2, ne, m1, m2⟩
                · rw [e1] at hz
                  obtain ⟨x, hx, rfl⟩ := List.mem_map.mp (hsub z hz)
                  exact .inl ⟨x, hx, hcx c hcm x hx, hm⟩
                · rw [e1] at hz hz2
                  obtain ⟨x, hx, rfl⟩ := List.mem_map.mp (hsub z hz)
                  obtain ⟨y, hy, rfl⟩ := List.mem_map.mp (hsub z2 hz2)
                  refine .inr ⟨x, hx, y, hy, fun e => ne (by rw [e]), fun g => m1 ?_, fun g => m2 ?_⟩
                  · rw [← (num_spec ok (hcx c hcm x hx).1 (hcx c hcm x hx).2).2.2.2]
                    exact g.2
                  · rw [← (num_spec ok (hcx c hcm y hy).1 (hcx c hcm y hy).2).2.2.2]
                    exact g.2
              · rw [nb] at hbk; cases hbk
      · obtain ⟨e2, n2⟩ := KP b' o (s1 _ _ e)
        exact k4 b' o n2 (sm _ _ e2)
end
end My


set_option Elab.async false
set_option maxRecDepth 100000
set_option maxHeartbeats 8000000
set_option linter.all false
namespace My
open PySem L2
theorem all_mk {l : PySem.W.OpenLaw} {w : World} {K : PySem.W.Frag} {h : Heap} {mg : Str → Option Value} {fa : Addr} (X : K.In h) (G : h.Ns mainGlobals mg) (hfa : mg "law" = some (.ref fa))
    {f0 : Addr} {od0 an0 : Option Addr} {sl0 : Array (Option Value)} {oc0 kV0 dc0 pm0 cd0 ct0 : Value}
    (a0 : PySem.W.nsIn K mainGlobals "variables_of" = some (some (.ref f0))) (l0 : K.lookup f0 = some ⟨oc0, od0, .func (PySem.W.fnOf "variables_of" "variables_of" (defArgs s_variables_of) (defBody s_variables_of) (defScope s_variables_of) .none kV0 dc0 pm0 an0 cd0 ct0), sl0⟩) (c0 : PySem.W.codeIn K cd0 "variables_of" = true) (k0 : PySem.W.keepIn K (.ref f0) = true)
    {f1 : Addr} {od1 an1 : Option Addr} {sl1 : Array (Option Value)} {oc1 kV1 dc1 pm1 cd1 ct1 : Value}
    (a1 : PySem.W.nsIn K mainGlobals "follows" = some (some (.ref f1))) (l1 : K.lookup f1 = some ⟨oc1, od1, .func (PySem.W.fnOf "follows" "follows" (defArgs s_follows) (defBody s_follows) (defScope s_follows) .none kV1 dc1 pm1 an1 cd1 ct1), sl1⟩) (c1 : PySem.W.codeIn K cd1 "follows" = true) (k1 : PySem.W.keepIn K (.ref f1) = true)
    {f2 : Addr} {od2 an2 : Option Addr} {sl2 : Array (Option Value)} {oc2 kV2 dc2 pm2 cd2 ct2 : Value}
    (a2 : PySem.W.nsIn K mainGlobals "loaded" = some (some (.ref f2))) (l2 : K.lookup f2 = some ⟨oc2, od2, .func (PySem.W.fnOf "loaded" "loaded" (defArgs s_loaded) (defBody s_loaded) (defScope s_loaded) .none kV2 dc2 pm2 an2 cd2 ct2), sl2⟩) (c2 : PySem.W.codeIn K cd2 "loaded" = true) (k2 : PySem.W.keepIn K (.ref f2) = true)
    {f3 : Addr} {od3 an3 : Option Addr} {sl3 : Array (Option Value)} {oc3 kV3 dc3 pm3 cd3 ct3 : Value}
    (a3 : PySem.W.nsIn K mainGlobals "numbered" = some (some (.ref f3))) (l3 : K.lookup f3 = some ⟨oc3, od3, .func (PySem.W.fnOf "numbered" "numbered" (defArgs s_numbered) (defBody s_numbered) (defScope s_numbered) .none kV3 dc3 pm3 an3 cd3 ct3), sl3⟩) (c3 : PySem.W.codeIn K cd3 "numbered" = true) (k3 : PySem.W.keepIn K (.ref f3) = true)
    {f4 : Addr} {od4 an4 : Option Addr} {sl4 : Array (Option Value)} {oc4 kV4 dc4 pm4 cd4 ct4 : Value}
    (a4 : PySem.W.nsIn K mainGlobals "settle" = some (some (.ref f4))) (l4 : K.lookup f4 = some ⟨oc4, od4, .func (PySem.W.fnOf "settle" "settle" (defArgs s_settle) (defBody s_settle) (defScope s_settle) .none kV4 dc4 pm4 an4 cd4 ct4), sl4⟩) (c4 : PySem.W.codeIn K cd4 "settle" = true) (k4 : PySem.W.keepIn K (.ref f4) = true)
    {f5 : Addr} {od5 an5 : Option Addr} {sl5 : Array (Option Value)} {oc5 kV5 dc5 pm5 cd5 ct5 : Value}
    (a5 : PySem.W.nsIn K mainGlobals "is_forced" = some (some (.ref f5))) (l5 : K.lookup f5 = some ⟨oc5, od5, .func (PySem.W.fnOf "is_forced" "is_forced" (defArgs s_is_forced) (defBody s_is_forced) (defScope s_is_forced) .none kV5 dc5 pm5 an5 cd5 ct5), sl5⟩) (c5 : PySem.W.codeIn K cd5 "is_forced" = true) (k5 : PySem.W.keepIn K (.ref f5) = true)
    {f6 : Addr} {od6 an6 : Option Addr} {sl6 : Array (Option Value)} {oc6 kV6 dc6 pm6 cd6 ct6 : Value}
    (a6 : PySem.W.nsIn K mainGlobals "_law_draw" = some (some (.ref f6))) (l6 : K.lookup f6 = some ⟨oc6, od6, .func (PySem.W.fnOf "_law_draw" "_law_draw" (defArgs s__law_draw) (defBody s__law_draw) (defScope s__law_draw) .none kV6 dc6 pm6 an6 cd6 ct6), sl6⟩) (c6 : PySem.W.codeIn K cd6 "_law_draw" = true) (k6 : PySem.W.keepIn K (.ref f6) = true)
    {f7 : Addr} {od7 an7 : Option Addr} {sl7 : Array (Option Value)} {oc7 kV7 dc7 pm7 cd7 ct7 : Value}
    (a7 : PySem.W.nsIn K mainGlobals "_law_take" = some (some (.ref f7))) (l7 : K.lookup f7 = some ⟨oc7, od7, .func (PySem.W.fnOf "_law_take" "_law_take" (defArgs s__law_take) (defBody s__law_take) (defScope s__law_take) .none kV7 dc7 pm7 an7 cd7 ct7), sl7⟩) (c7 : PySem.W.codeIn K cd7 "_law_take" = true) (k7 : PySem.W.keepIn K (.ref f7) = true)
    {f8 : Addr} {od8 an8 : Option Addr} {sl8 : Array (Option Value)} {oc8 kV8 dc8 pm8 cd8 ct8 : Value}
    (a8 : PySem.W.nsIn K mainGlobals "_law_clause" = some (some (.ref f8))) (l8 : K.lookup f8 = some ⟨oc8, od8, .func (PySem.W.fnOf "_law_clause" "_law_clause" (defArgs s__law_clause) (defBody s__law_clause) (defScope s__law_clause) .none kV8 dc8 pm8 an8 cd8 ct8), sl8⟩) (c8 : PySem.W.codeIn K cd8 "_law_clause" = true) (k8 : PySem.W.keepIn K (.ref f8) = true)
    {f9 : Addr} {od9 an9 : Option Addr} {sl9 : Array (Option Value)} {oc9 kV9 dc9 pm9 cd9 ct9 : Value}
    (a9 : PySem.W.nsIn K mainGlobals "_law_clauses" = some (some (.ref f9))) (l9 : K.lookup f9 = some ⟨oc9, od9, .func (PySem.W.fnOf "_law_clauses" "_law_clauses" (defArgs s__law_clauses) (defBody s__law_clauses) (defScope s__law_clauses) .none kV9 dc9 pm9 an9 cd9 ct9), sl9⟩) (c9 : PySem.W.codeIn K cd9 "_law_clauses" = true) (k9 : PySem.W.keepIn K (.ref f9) = true)
    {f10 : Addr} {od10 an10 : Option Addr} {sl10 : Array (Option Value)} {oc10 kV10 dc10 pm10 cd10 ct10 : Value}
    (a10 : PySem.W.nsIn K mainGlobals "_law_follows" = some (some (.ref f10))) (l10 : K.lookup f10 = some ⟨oc10, od10, .func (PySem.W.fnOf "_law_follows" "_law_follows" (defArgs s__law_follows) (defBody s__law_follows) (defScope s__law_follows) .none kV10 dc10 pm10 an10 cd10 ct10), sl10⟩) (c10 : PySem.W.codeIn K cd10 "_law_follows" = true) (k10 : PySem.W.keepIn K (.ref f10) = true)
    {f11 : Addr} {od11 an11 : Option Addr} {sl11 : Array (Option Value)} {oc11 kV11 dc11 pm11 cd11 ct11 : Value}
    (a11 : PySem.W.nsIn K mainGlobals "_law_less" = some (some (.ref f11))) (l11 : K.lookup f11 = some ⟨oc11, od11, .func (PySem.W.fnOf "_law_less" "_law_less" (defArgs s__law_less) (defBody s__law_less) (defScope s__law_less) .none kV11 dc11 pm11 an11 cd11 ct11), sl11⟩) (c11 : PySem.W.codeIn K cd11 "_law_less" = true) (k11 : PySem.W.keepIn K (.ref f11) = true)
    {f12 : Addr} {od12 an12 : Option Addr} {sl12 : Array (Option Value)} {oc12 kV12 dc12 pm12 cd12 ct12 : Value}
    (a12 : PySem.W.nsIn K mainGlobals "_law_can" = some (some (.ref f12))) (l12 : K.lookup f12 = some ⟨oc12, od12, .func (PySem.W.fnOf "_law_can" "_law_can" (defArgs s__law_can) (defBody s__law_can) (defScope s__law_can) .none kV12 dc12 pm12 an12 cd12 ct12), sl12⟩) (c12 : PySem.W.codeIn K cd12 "_law_can" = true) (k12 : PySem.W.keepIn K (.ref f12) = true)
    {f13 : Addr} {od13 an13 : Option Addr} {sl13 : Array (Option Value)} {oc13 kV13 dc13 pm13 cd13 ct13 : Value}
    (a13 : PySem.W.nsIn K mainGlobals "law" = some (some (.ref f13))) (l13 : K.lookup f13 = some ⟨oc13, od13, .func (PySem.W.fnOf "law" "law" (defArgs s_law) (defBody s_law) (defScope s_law) .none kV13 dc13 pm13 an13 cd13 ct13), sl13⟩) (c13 : PySem.W.codeIn K cd13 "law" = true) (k13 : PySem.W.keepIn K (.ref f13) = true)
    {t_FALSE : Tok} (i_FALSE : PySem.W.nsIn K mainGlobals "FALSE" = some (some (.int 0 t_FALSE)))
    {t_TRUE : Tok} (i_TRUE : PySem.W.nsIn K mainGlobals "TRUE" = some (some (.int 1 t_TRUE)))
    {t_OPEN : Tok} (i_OPEN : PySem.W.nsIn K mainGlobals "OPEN" = some (some (.int 2 t_OPEN)))
    {CRow : Addr} (aCRow : PySem.W.nsIn K mainGlobals "Row" = some (some (.ref CRow)))
    {mf_Row___init__ : Addr} {mod_Row___init__ man_Row___init__ : Option Addr} {msl_Row___init__ : Array (Option Value)} {moc_Row___init__ mkV_Row___init__ mdc_Row___init__ mpm_Row___init__ mcd_Row___init__ mct_Row___init__ : Value}
    (ma_Row___init__ : PySem.W.findIn K (.ref CRow) "__init__" = some (some (.ref mf_Row___init__))) (mi_Row___init__ : PySem.W.isFn K (.ref mf_Row___init__) = true) (ml_Row___init__ : K.lookup mf_Row___init__ = some ⟨moc_Row___init__, mod_Row___init__, .func (PySem.W.fnOf "__init__" "Row.__init__" (defArgs s_Row___init__) (defBody s_Row___init__) (defScope s_Row___init__) .none mkV_Row___init__ mdc_Row___init__ mpm_Row___init__ man_Row___init__ mcd_Row___init__ mct_Row___init__), msl_Row___init__⟩) (mc_Row___init__ : PySem.W.codeIn K mcd_Row___init__ "Row.__init__" = true) (mk_Row___init__ : PySem.W.keepIn K (.ref mf_Row___init__) = true)
    (pg_CRow : PySem.W.plainGet K CRow Str.empty = true) (hd_CRow : PySem.W.hasDictIn K CRow = true) (po_CRow : PySem.W.plainOver K CRow = true) (sa_CRow : PySem.W.findIn K (.ref CRow) "__setattr__" = some (some (.builtin "object.__setattr__"))) (mk_CRow : PySem.W.makesIn K CRow = true) (kc_CRow : PySem.W.keepIn K (.ref CRow) = true)
    (n_CRow_parts : PySem.W.findIn K (.ref CRow) "parts" = some none)
    (n_CRow_link : PySem.W.findIn K (.ref CRow) "link" = some none)
    (n_CRow_number : PySem.W.findIn K (.ref CRow) "number" = some none)
    (n_CRow_choices : PySem.W.findIn K (.ref CRow) "choices" = some none)
    (n_CRow_last_use : PySem.W.findIn K (.ref CRow) "last_use" = some none)
    (n_CRow_dropped : PySem.W.findIn K (.ref CRow) "dropped" = some none)
    {CUnits : Addr} (aCUnits : PySem.W.nsIn K mainGlobals "Units" = some (some (.ref CUnits)))
    {mf_Units___init__ : Addr} {mod_Units___init__ man_Units___init__ : Option Addr} {msl_Units___init__ : Array (Option Value)} {moc_Units___init__ mkV_Units___init__ mdc_Units___init__ mpm_Units___init__ mcd_Units___init__ mct_Units___init__ : Value}
    (ma_Units___init__ : PySem.W.findIn K (.ref CUnits) "__init__" = some (some (.ref mf_Units___init__))) (mi_Units___init__ : PySem.W.isFn K (.ref mf_Units___init__) = true) (ml_Units___init__ : K.lookup mf_Units___init__ = some ⟨moc_Units___init__, mod_Units___init__, .func (PySem.W.fnOf "__init__" "Units.__init__" (defArgs s_Units___init__) (defBody s_Units___init__) (defScope s_Units___init__) .none mkV_Units___init__ mdc_Units___init__ mpm_Units___init__ man_Units___init__ mcd_Units___init__ mct_Units___init__), msl_Units___init__⟩) (mc_Units___init__ : PySem.W.codeIn K mcd_Units___init__ "Units.__init__" = true) (mk_Units___init__ : PySem.W.keepIn K (.ref mf_Units___init__) = true)
    {mf_Units_enter : Addr} {mod_Units_enter man_Units_enter : Option Addr} {msl_Units_enter : Array (Option Value)} {moc_Units_enter mkV_Units_enter mdc_Units_enter mpm_Units_enter mcd_Units_enter mct_Units_enter : Value}
    (ma_Units_enter : PySem.W.findIn K (.ref CUnits) "enter" = some (some (.ref mf_Units_enter))) (mi_Units_enter : PySem.W.isFn K (.ref mf_Units_enter) = true) (ml_Units_enter : K.lookup mf_Units_enter = some ⟨moc_Units_enter, mod_Units_enter, .func (PySem.W.fnOf "enter" "Units.enter" (defArgs s_Units_enter) (defBody s_Units_enter) (defScope s_Units_enter) .none mkV_Units_enter mdc_Units_enter mpm_Units_enter man_Units_enter mcd_Units_enter mct_Units_enter), msl_Units_enter⟩) (mc_Units_enter : PySem.W.codeIn K mcd_Units_enter "Units.enter" = true) (mk_Units_enter : PySem.W.keepIn K (.ref mf_Units_enter) = true)
    {mf_Units_attach : Addr} {mod_Units_attach man_Units_attach : Option Addr} {msl_Units_attach : Array (Option Value)} {moc_Units_attach mkV_Units_attach mdc_Units_attach mpm_Units_attach mcd_Units_attach mct_Units_attach : Value}
    (ma_Units_attach : PySem.W.findIn K (.ref CUnits) "attach" = some (some (.ref mf_Units_attach))) (mi_Units_attach : PySem.W.isFn K (.ref mf_Units_attach) = true) (ml_Units_attach : K.lookup mf_Units_attach = some ⟨moc_Units_attach, mod_Units_attach, .func (PySem.W.fnOf "attach" "Units.attach" (defArgs s_Units_attach) (defBody s_Units_attach) (defScope s_Units_attach) .none mkV_Units_attach mdc_Units_attach mpm_Units_attach man_Units_attach mcd_Units_attach mct_Units_attach), msl_Units_attach⟩) (mc_Units_attach : PySem.W.codeIn K mcd_Units_attach "Units.attach" = true) (mk_Units_attach : PySem.W.keepIn K (.ref mf_Units_attach) = true)
    {mf_Units_give : Addr} {mod_Units_give man_Units_give : Option Addr} {msl_Units_give : Array (Option Value)} {moc_Units_give mkV_Units_give mdc_Units_give mpm_Units_give mcd_Units_give mct_Units_give : Value}
    (ma_Units_give : PySem.W.findIn K (.ref CUnits) "give" = some (some (.ref mf_Units_give))) (mi_Units_give : PySem.W.isFn K (.ref mf_Units_give) = true) (ml_Units_give : K.lookup mf_Units_give = some ⟨moc_Units_give, mod_Units_give, .func (PySem.W.fnOf "give" "Units.give" (defArgs s_Units_give) (defBody s_Units_give) (defScope s_Units_give) .none mkV_Units_give mdc_Units_give mpm_Units_give man_Units_give mcd_Units_give mct_Units_give), msl_Units_give⟩) (mc_Units_give : PySem.W.codeIn K mcd_Units_give "Units.give" = true) (mk_Units_give : PySem.W.keepIn K (.ref mf_Units_give) = true)
    {mf_Units_spread : Addr} {mod_Units_spread man_Units_spread : Option Addr} {msl_Units_spread : Array (Option Value)} {moc_Units_spread mkV_Units_spread mdc_Units_spread mpm_Units_spread mcd_Units_spread mct_Units_spread : Value}
    (ma_Units_spread : PySem.W.findIn K (.ref CUnits) "spread" = some (some (.ref mf_Units_spread))) (mi_Units_spread : PySem.W.isFn K (.ref mf_Units_spread) = true) (ml_Units_spread : K.lookup mf_Units_spread = some ⟨moc_Units_spread, mod_Units_spread, .func (PySem.W.fnOf "spread" "Units.spread" (defArgs s_Units_spread) (defBody s_Units_spread) (defScope s_Units_spread) .none mkV_Units_spread mdc_Units_spread mpm_Units_spread man_Units_spread mcd_Units_spread mct_Units_spread), msl_Units_spread⟩) (mc_Units_spread : PySem.W.codeIn K mcd_Units_spread "Units.spread" = true) (mk_Units_spread : PySem.W.keepIn K (.ref mf_Units_spread) = true)
    {mf_Units_spread_pairs : Addr} {mod_Units_spread_pairs man_Units_spread_pairs : Option Addr} {msl_Units_spread_pairs : Array (Option Value)} {moc_Units_spread_pairs mkV_Units_spread_pairs mdc_Units_spread_pairs mpm_Units_spread_pairs mcd_Units_spread_pairs mct_Units_spread_pairs : Value}
    (ma_Units_spread_pairs : PySem.W.findIn K (.ref CUnits) "spread_pairs" = some (some (.ref mf_Units_spread_pairs))) (mi_Units_spread_pairs : PySem.W.isFn K (.ref mf_Units_spread_pairs) = true) (ml_Units_spread_pairs : K.lookup mf_Units_spread_pairs = some ⟨moc_Units_spread_pairs, mod_Units_spread_pairs, .func (PySem.W.fnOf "spread_pairs" "Units.spread_pairs" (defArgs s_Units_spread_pairs) (defBody s_Units_spread_pairs) (defScope s_Units_spread_pairs) .none mkV_Units_spread_pairs mdc_Units_spread_pairs mpm_Units_spread_pairs man_Units_spread_pairs mcd_Units_spread_pairs mct_Units_spread_pairs), msl_Units_spread_pairs⟩) (mc_Units_spread_pairs : PySem.W.codeIn K mcd_Units_spread_pairs "Units.spread_pairs" = true) (mk_Units_spread_pairs : PySem.W.keepIn K (.ref mf_Units_spread_pairs) = true)
    {mf_Units_spread_rows : Addr} {mod_Units_spread_rows man_Units_spread_rows : Option Addr} {msl_Units_spread_rows : Array (Option Value)} {moc_Units_spread_rows mkV_Units_spread_rows mdc_Units_spread_rows mpm_Units_spread_rows mcd_Units_spread_rows mct_Units_spread_rows : Value}
    (ma_Units_spread_rows : PySem.W.findIn K (.ref CUnits) "spread_rows" = some (some (.ref mf_Units_spread_rows))) (mi_Units_spread_rows : PySem.W.isFn K (.ref mf_Units_spread_rows) = true) (ml_Units_spread_rows : K.lookup mf_Units_spread_rows = some ⟨moc_Units_spread_rows, mod_Units_spread_rows, .func (PySem.W.fnOf "spread_rows" "Units.spread_rows" (defArgs s_Units_spread_rows) (defBody s_Units_spread_rows) (defScope s_Units_spread_rows) .none mkV_Units_spread_rows mdc_Units_spread_rows mpm_Units_spread_rows man_Units_spread_rows mcd_Units_spread_rows mct_Units_spread_rows), msl_Units_spread_rows⟩) (mc_Units_spread_rows : PySem.W.codeIn K mcd_Units_spread_rows "Units.spread_rows" = true) (mk_Units_spread_rows : PySem.W.keepIn K (.ref mf_Units_spread_rows) = true)
    {mf_Units_take_back : Addr} {mod_Units_take_back man_Units_take_back : Option Addr} {msl_Units_take_back : Array (Option Value)} {moc_Units_take_back mkV_Units_take_back mdc_Units_take_back mpm_Units_take_back mcd_Units_take_back mct_Units_take_back : Value}
    (ma_Units_take_back : PySem.W.findIn K (.ref CUnits) "take_back" = some (some (.ref mf_Units_take_back))) (mi_Units_take_back : PySem.W.isFn K (.ref mf_Units_take_back) = true) (ml_Units_take_back : K.lookup mf_Units_take_back = some ⟨moc_Units_take_back, mod_Units_take_back, .func (PySem.W.fnOf "take_back" "Units.take_back" (defArgs s_Units_take_back) (defBody s_Units_take_back) (defScope s_Units_take_back) .none mkV_Units_take_back mdc_Units_take_back mpm_Units_take_back man_Units_take_back mcd_Units_take_back mct_Units_take_back), msl_Units_take_back⟩) (mc_Units_take_back : PySem.W.codeIn K mcd_Units_take_back "Units.take_back" = true) (mk_Units_take_back : PySem.W.keepIn K (.ref mf_Units_take_back) = true)
    (pg_CUnits : PySem.W.plainGet K CUnits Str.empty = true) (hd_CUnits : PySem.W.hasDictIn K CUnits = true) (po_CUnits : PySem.W.plainOver K CUnits = true) (sa_CUnits : PySem.W.findIn K (.ref CUnits) "__setattr__" = some (some (.builtin "object.__setattr__"))) (mk_CUnits : PySem.W.makesIn K CUnits = true) (kc_CUnits : PySem.W.keepIn K (.ref CUnits) = true)
    (n_CUnits_variables : PySem.W.findIn K (.ref CUnits) "variables" = some none)
    (n_CUnits_numbers : PySem.W.findIn K (.ref CUnits) "numbers" = some none)
    (n_CUnits_state : PySem.W.findIn K (.ref CUnits) "state" = some none)
    (n_CUnits_rows : PySem.W.findIn K (.ref CUnits) "rows" = some none)
    (n_CUnits_waiting : PySem.W.findIn K (.ref CUnits) "waiting" = some none)
    (n_CUnits_pairs : PySem.W.findIn K (.ref CUnits) "pairs" = some none)
    (n_CUnits_causes : PySem.W.findIn K (.ref CUnits) "causes" = some none)
    (n_CUnits_levels : PySem.W.findIn K (.ref CUnits) "levels" = some none)
    (n_CUnits_level : PySem.W.findIn K (.ref CUnits) "level" = some none)
    (n_CUnits_trail : PySem.W.findIn K (.ref CUnits) "trail" = some none)
    (n_CUnits_done : PySem.W.findIn K (.ref CUnits) "done" = some none)
    (n_CUnits_broken : PySem.W.findIn K (.ref CUnits) "broken" = some none)
    (z_abs : PySem.W.nsIn K mainGlobals "abs" = some none)
    (z_bool : PySem.W.nsIn K mainGlobals "bool" = some none)
    (z_enumerate : PySem.W.nsIn K mainGlobals "enumerate" = some none)
    (z_int : PySem.W.nsIn K mainGlobals "int" = some none)
    (z_isinstance : PySem.W.nsIn K mainGlobals "isinstance" = some none)
    (z_len : PySem.W.nsIn K mainGlobals "len" = some none)
    (z_list : PySem.W.nsIn K mainGlobals "list" = some none)
    (z_range : PySem.W.nsIn K mainGlobals "range" = some none)
    (z_reversed : PySem.W.nsIn K mainGlobals "reversed" = some none)
    (z_sorted : PySem.W.nsIn K mainGlobals "sorted" = some none)
    (z_tuple : PySem.W.nsIn K mainGlobals "tuple" = some none)
    : ∃ fd : FuncData, (∀ (s : Shared) (v : Value), BindsTo s fd ⟨[v], []⟩ [("script", v)]) ∧ ∀ base : Heap, K.In base → base.Ns mainGlobals mg → FnOk l.prog w K mg base CX0 10 fa fd ["script"] (spLaw K) := by
  have e := hfa.symm.trans (PySem.W.mg_of X G a13)
  have T : Txt K mg := ⟨PySem.W.mg_none_of X G z_abs, PySem.W.mg_none_of X G z_bool, PySem.W.mg_none_of X G z_enumerate, PySem.W.mg_none_of X G z_int, PySem.W.mg_none_of X G z_isinstance, PySem.W.mg_none_of X G z_len, PySem.W.mg_none_of X G z_list, PySem.W.mg_none_of X G z_range, PySem.W.mg_none_of X G z_reversed, PySem.W.mg_none_of X G z_sorted, PySem.W.mg_none_of X G z_tuple⟩
  have C_FALSE : ConI mg "FALSE" 0 := ⟨t_FALSE, PySem.W.mg_of X G i_FALSE⟩
  have C_TRUE : ConI mg "TRUE" 1 := ⟨t_TRUE, PySem.W.mg_of X G i_TRUE⟩
  have C_OPEN : ConI mg "OPEN" 2 := ⟨t_OPEN, PySem.W.mg_of X G i_OPEN⟩
  let fd_variables_of : FuncData := PySem.W.fnOf "variables_of" "variables_of" (defArgs s_variables_of) (defBody s_variables_of) (defScope s_variables_of) .none kV0 dc0 pm0 an0 cd0 ct0
  have D_variables_of : Def K mg "variables_of" ["clauses"] s_variables_of f0 fd_variables_of := ⟨fun_mk (st := s_variables_of) l0 c0 k0, PySem.W.mg_of X G a0, (fun_mk (st := s_variables_of) l0 c0 k0).binds (ps := ["clauses"]) fun _ _ _ _ _ _ us hl => match us, hl with | [_], _ => rfl⟩
  let fd_follows : FuncData := PySem.W.fnOf "follows" "follows" (defArgs s_follows) (defBody s_follows) (defScope s_follows) .none kV1 dc1 pm1 an1 cd1 ct1
  have D_follows : Def K mg "follows" ["clauses", "clause"] s_follows f1 fd_follows := ⟨fun_mk (st := s_follows) l1 c1 k1, PySem.W.mg_of X G a1, (fun_mk (st := s_follows) l1 c1 k1).binds (ps := ["clauses", "clause"]) fun _ _ _ _ _ _ us hl => match us, hl with | [_, _], _ => rfl⟩
  let fd_loaded : FuncData := PySem.W.fnOf "loaded" "loaded" (defArgs s_loaded) (defBody s_loaded) (defScope s_loaded) .none kV2 dc2 pm2 an2 cd2 ct2
  have D_loaded : Def K mg "loaded" ["clauses", "rows"] s_loaded f2 fd_loaded := ⟨fun_mk (st := s_loaded) l2 c2 k2, PySem.W.mg_of X G a2, (fun_mk (st := s_loaded) l2 c2 k2).binds (ps := ["clauses", "rows"]) fun _ _ _ _ _ _ us hl => match us, hl with | [_, _], _ => rfl⟩
  let fd_numbered : FuncData := PySem.W.fnOf "numbered" "numbered" (defArgs s_numbered) (defBody s_numbered) (defScope s_numbered) .none kV3 dc3 pm3 an3 cd3 ct3
  have D_numbered : Def K mg "numbered" ["units", "clause"] s_numbered f3 fd_numbered := ⟨fun_mk (st := s_numbered) l3 c3 k3, PySem.W.mg_of X G a3, (fun_mk (st := s_numbered) l3 c3 k3).binds (ps := ["units", "clause"]) fun _ _ _ _ _ _ us hl => match us, hl with | [_, _], _ => rfl⟩
  let fd_settle : FuncData := PySem.W.fnOf "settle" "settle" (defArgs s_settle) (defBody s_settle) (defScope s_settle) .none kV4 dc4 pm4 an4 cd4 ct4
  have D_settle : Def K mg "settle" ["units"] s_settle f4 fd_settle := ⟨fun_mk (st := s_settle) l4 c4 k4, PySem.W.mg_of X G a4, (fun_mk (st := s_settle) l4 c4 k4).binds (ps := ["units"]) fun _ _ _ _ _ _ us hl => match us, hl with | [_], _ => rfl⟩
  let fd_is_forced : FuncData := PySem.W.fnOf "is_forced" "is_forced" (defArgs s_is_forced) (defBody s_is_forced) (defScope s_is_forced) .none kV5 dc5 pm5 an5 cd5 ct5
  have D_is_forced : Def K mg "is_forced" ["units", "items"] s_is_forced f5 fd_is_forced := ⟨fun_mk (st := s_is_forced) l5 c5 k5, PySem.W.mg_of X G a5, (fun_mk (st := s_is_forced) l5 c5 k5).binds (ps := ["units", "items"]) fun _ _ _ _ _ _ us hl => match us, hl with | [_, _], _ => rfl⟩
  let fd__law_draw : FuncData := PySem.W.fnOf "_law_draw" "_law_draw" (defArgs s__law_draw) (defBody s__law_draw) (defScope s__law_draw) .none kV6 dc6 pm6 an6 cd6 ct6
  have D__law_draw : Def K mg "_law_draw" ["script"] s__law_draw f6 fd__law_draw := ⟨fun_mk (st := s__law_draw) l6 c6 k6, PySem.W.mg_of X G a6, (fun_mk (st := s__law_draw) l6 c6 k6).binds (ps := ["script"]) fun _ _ _ _ _ _ us hl => match us, hl with | [_], _ => rfl⟩
  let fd__law_take : FuncData := PySem.W.fnOf "_law_take" "_law_take" (defArgs s__law_take) (defBody s__law_take) (defScope s__law_take) .none kV7 dc7 pm7 an7 cd7 ct7
  have D__law_take : Def K mg "_law_take" ["draw", "many"] s__law_take f7 fd__law_take := ⟨fun_mk (st := s__law_take) l7 c7 k7, PySem.W.mg_of X G a7, (fun_mk (st := s__law_take) l7 c7 k7).binds (ps := ["draw", "many"]) fun _ _ _ _ _ _ us hl => match us, hl with | [_, _], _ => rfl⟩
  let fd__law_clause : FuncData := PySem.W.fnOf "_law_clause" "_law_clause" (defArgs s__law_clause) (defBody s__law_clause) (defScope s__law_clause) .none kV8 dc8 pm8 an8 cd8 ct8
  have D__law_clause : Def K mg "_law_clause" ["draw", "names", "most"] s__law_clause f8 fd__law_clause := ⟨fun_mk (st := s__law_clause) l8 c8 k8, PySem.W.mg_of X G a8, (fun_mk (st := s__law_clause) l8 c8 k8).binds (ps := ["draw", "names", "most"]) fun _ _ _ _ _ _ us hl => match us, hl with | [_, _, _], _ => rfl⟩
  let fd__law_clauses : FuncData := PySem.W.fnOf "_law_clauses" "_law_clauses" (defArgs s__law_clauses) (defBody s__law_clauses) (defScope s__law_clauses) .none kV9 dc9 pm9 an9 cd9 ct9
  have D__law_clauses : Def K mg "_law_clauses" ["draw", "names", "many", "most"] s__law_clauses f9 fd__law_clauses := ⟨fun_mk (st := s__law_clauses) l9 c9 k9, PySem.W.mg_of X G a9, (fun_mk (st := s__law_clauses) l9 c9 k9).binds (ps := ["draw", "names", "many", "most"]) fun _ _ _ _ _ _ us hl => match us, hl with | [_, _, _, _], _ => rfl⟩
  let fd__law_follows : FuncData := PySem.W.fnOf "_law_follows" "_law_follows" (defArgs s__law_follows) (defBody s__law_follows) (defScope s__law_follows) .none kV10 dc10 pm10 an10 cd10 ct10
  have D__law_follows : Def K mg "_law_follows" ["clauses", "row"] s__law_follows f10 fd__law_follows := ⟨fun_mk (st := s__law_follows) l10 c10 k10, PySem.W.mg_of X G a10, (fun_mk (st := s__law_follows) l10 c10 k10).binds (ps := ["clauses", "row"]) fun _ _ _ _ _ _ us hl => match us, hl with | [_, _], _ => rfl⟩
  let fd__law_less : FuncData := PySem.W.fnOf "_law_less" "_law_less" (defArgs s__law_less) (defBody s__law_less) (defScope s__law_less) .none kV11 dc11 pm11 an11 cd11 ct11
  have D__law_less : Def K mg "_law_less" ["clauses", "literal"] s__law_less f11 fd__law_less := ⟨fun_mk (st := s__law_less) l11 c11 k11, PySem.W.mg_of X G a11, (fun_mk (st := s__law_less) l11 c11 k11).binds (ps := ["clauses", "literal"]) fun _ _ _ _ _ _ us hl => match us, hl with | [_, _], _ => rfl⟩
  let fd__law_can : FuncData := PySem.W.fnOf "_law_can" "_law_can" (defArgs s__law_can) (defBody s__law_can) (defScope s__law_can) .none kV12 dc12 pm12 an12 cd12 ct12
  have D__law_can : Def K mg "_law_can" ["clauses"] s__law_can f12 fd__law_can := ⟨fun_mk (st := s__law_can) l12 c12 k12, PySem.W.mg_of X G a12, (fun_mk (st := s__law_can) l12 c12 k12).binds (ps := ["clauses"]) fun _ _ _ _ _ _ us hl => match us, hl with | [_], _ => rfl⟩
  let fd_law : FuncData := PySem.W.fnOf "law" "law" (defArgs s_law) (defBody s_law) (defScope s_law) .none kV13 dc13 pm13 an13 cd13 ct13
  have D_law : Def K mg "law" ["script"] s_law f13 fd_law := ⟨fun_mk (st := s_law) l13 c13 k13, PySem.W.mg_of X G a13, (fun_mk (st := s_law) l13 c13 k13).binds (ps := ["script"]) fun _ _ _ _ _ _ us hl => match us, hl with | [_], _ => rfl⟩
  let fd_Row___init__ : FuncData := PySem.W.fnOf "__init__" "Row.__init__" (defArgs s_Row___init__) (defBody s_Row___init__) (defScope s_Row___init__) .none mkV_Row___init__ mdc_Row___init__ mpm_Row___init__ man_Row___init__ mcd_Row___init__ mct_Row___init__
  have D_Row___init__ : DefM0 K "__init__" "Row.__init__" ["self", "parts"] s_Row___init__ mf_Row___init__ fd_Row___init__ := ⟨fun_mk (st := s_Row___init__) ml_Row___init__ mc_Row___init__ mk_Row___init__, (fun_mk (st := s_Row___init__) ml_Row___init__ mc_Row___init__ mk_Row___init__).binds (ps := ["self", "parts"]) fun _ _ _ _ _ _ us hl => match us, hl with | [_, _], _ => rfl⟩
  have M_Row : Mk K CRow mf_Row___init__ := ⟨mk_CRow, ma_Row___init__, mi_Row___init__, kc_CRow⟩
  have m_CRow := PySem.W.mg_of X G aCRow
  have cls_CRow : L2.Cls K CRow := ⟨pg_CRow, hd_CRow, po_CRow, sa_CRow⟩
  let fd_Units___init__ : FuncData := PySem.W.fnOf "__init__" "Units.__init__" (defArgs s_Units___init__) (defBody s_Units___init__) (defScope s_Units___init__) .none mkV_Units___init__ mdc_Units___init__ mpm_Units___init__ man_Units___init__ mcd_Units___init__ mct_Units___init__
  have D_Units___init__ : DefM0 K "__init__" "Units.__init__" ["self", "variables"] s_Units___init__ mf_Units___init__ fd_Units___init__ := ⟨fun_mk (st := s_Units___init__) ml_Units___init__ mc_Units___init__ mk_Units___init__, (fun_mk (st := s_Units___init__) ml_Units___init__ mc_Units___init__ mk_Units___init__).binds (ps := ["self", "variables"]) fun _ _ _ _ _ _ us hl => match us, hl with | [_, _], _ => rfl⟩
  have M_Units : Mk K CUnits mf_Units___init__ := ⟨mk_CUnits, ma_Units___init__, mi_Units___init__, kc_CUnits⟩
  let fd_Units_enter : FuncData := PySem.W.fnOf "enter" "Units.enter" (defArgs s_Units_enter) (defBody s_Units_enter) (defScope s_Units_enter) .none mkV_Units_enter mdc_Units_enter mpm_Units_enter man_Units_enter mcd_Units_enter mct_Units_enter
  have D_Units_enter : DefM K CUnits "enter" "Units.enter" ["self", "clause"] s_Units_enter mf_Units_enter fd_Units_enter := ⟨fun_mk (st := s_Units_enter) ml_Units_enter mc_Units_enter mk_Units_enter, (fun_mk (st := s_Units_enter) ml_Units_enter mc_Units_enter mk_Units_enter).binds (ps := ["self", "clause"]) fun _ _ _ _ _ _ us hl => match us, hl with | [_, _], _ => rfl, ⟨ma_Units_enter, mi_Units_enter, mk_Units_enter⟩⟩
  let fd_Units_attach : FuncData := PySem.W.fnOf "attach" "Units.attach" (defArgs s_Units_attach) (defBody s_Units_attach) (defScope s_Units_attach) .none mkV_Units_attach mdc_Units_attach mpm_Units_attach man_Units_attach mcd_Units_attach mct_Units_attach
  have D_Units_attach : DefM K CUnits "attach" "Units.attach" ["self", "row"] s_Units_attach mf_Units_attach fd_Units_attach := ⟨fun_mk (st := s_Units_attach) ml_Units_attach mc_Units_attach mk_Units_attach, (fun_mk (st := s_Units_attach) ml_Units_attach mc_Units_attach mk_Units_attach).binds (ps := ["self", "row"]) fun _ _ _ _ _ _ us hl => match us, hl with | [_, _], _ => rfl, ⟨ma_Units_attach, mi_Units_attach, mk_Units_attach⟩⟩
  let fd_Units_give : FuncData := PySem.W.fnOf "give" "Units.give" (defArgs s_Units_give) (defBody s_Units_give) (defScope s_Units_give) .none mkV_Units_give mdc_Units_give mpm_Units_give man_Units_give mcd_Units_give mct_Units_give
  have D_Units_give : DefM K CUnits "give" "Units.give" ["self", "x", "cause"] s_Units_give mf_Units_give fd_Units_give := ⟨fun_mk (st := s_Units_give) ml_Units_give mc_Units_give mk_Units_give, (fun_mk (st := s_Units_give) ml_Units_give mc_Units_give mk_Units_give).binds (ps := ["self", "x", "cause"]) fun _ _ _ _ _ _ us hl => match us, hl with | [_, _, _], _ => rfl, ⟨ma_Units_give, mi_Units_give, mk_Units_give⟩⟩
  let fd_Units_spread : FuncData := PySem.W.fnOf "spread" "Units.spread" (defArgs s_Units_spread) (defBody s_Units_spread) (defScope s_Units_spread) .none mkV_Units_spread mdc_Units_spread mpm_Units_spread man_Units_spread mcd_Units_spread mct_Units_spread
  have D_Units_spread : DefM K CUnits "spread" "Units.spread" ["self"] s_Units_spread mf_Units_spread fd_Units_spread := ⟨fun_mk (st := s_Units_spread) ml_Units_spread mc_Units_spread mk_Units_spread, (fun_mk (st := s_Units_spread) ml_Units_spread mc_Units_spread mk_Units_spread).binds (ps := ["self"]) fun _ _ _ _ _ _ us hl => match us, hl with | [_], _ => rfl, ⟨ma_Units_spread, mi_Units_spread, mk_Units_spread⟩⟩
  let fd_Units_spread_pairs : FuncData := PySem.W.fnOf "spread_pairs" "Units.spread_pairs" (defArgs s_Units_spread_pairs) (defBody s_Units_spread_pairs) (defScope s_Units_spread_pairs) .none mkV_Units_spread_pairs mdc_Units_spread_pairs mpm_Units_spread_pairs man_Units_spread_pairs mcd_Units_spread_pairs mct_Units_spread_pairs
  have D_Units_spread_pairs : DefM K CUnits "spread_pairs" "Units.spread_pairs" ["self", "x"] s_Units_spread_pairs mf_Units_spread_pairs fd_Units_spread_pairs := ⟨fun_mk (st := s_Units_spread_pairs) ml_Units_spread_pairs mc_Units_spread_pairs mk_Units_spread_pairs, (fun_mk (st := s_Units_spread_pairs) ml_Units_spread_pairs mc_Units_spread_pairs mk_Units_spread_pairs).binds (ps := ["self", "x"]) fun _ _ _ _ _ _ us hl => match us, hl with | [_, _], _ => rfl, ⟨ma_Units_spread_pairs, mi_Units_spread_pairs, mk_Units_spread_pairs⟩⟩
  let fd_Units_spread_rows : FuncData := PySem.W.fnOf "spread_rows" "Units.spread_rows" (defArgs s_Units_spread_rows) (defBody s_Units_spread_rows) (defScope s_Units_spread_rows) .none mkV_Units_spread_rows mdc_Units_spread_rows mpm_Units_spread_rows man_Units_spread_rows mcd_Units_spread_rows mct_Units_spread_rows
  have D_Units_spread_rows : DefM K CUnits "spread_rows" "Units.spread_rows" ["self", "x"] s_Units_spread_rows mf_Units_spread_rows fd_Units_spread_rows := ⟨fun_mk (st := s_Units_spread_rows) ml_Units_spread_rows mc_Units_spread_rows mk_Units_spread_rows, (fun_mk (st := s_Units_spread_rows) ml_Units_spread_rows mc_Units_spread_rows mk_Units_spread_rows).binds (ps := ["self", "x"]) fun _ _ _ _ _ _ us hl => match us, hl with | [_, _], _ => rfl, ⟨ma_Units_spread_rows, mi_Units_spread_rows, mk_Units_spread_rows⟩⟩
  let fd_Units_take_back : FuncData := PySem.W.fnOf "take_back" "Units.take_back" (defArgs s_Units_take_back) (defBody s_Units_take_back) (defScope s_Units_take_back) .none mkV_Units_take_back mdc_Units_take_back mpm_Units_take_back man_Units_take_back mcd_Units_take_back mct_Units_take_back
  have D_Units_take_back : DefM K CUnits "take_back" "Units.take_back" ["self", "count"] s_Units_take_back mf_Units_take_back fd_Units_take_back := ⟨fun_mk (st := s_Units_take_back) ml_Units_take_back mc_Units_take_back mk_Units_take_back, (fun_mk (st := s_Units_take_back) ml_Units_take_back mc_Units_take_back mk_Units_take_back).binds (ps := ["self", "count"]) fun _ _ _ _ _ _ us hl => match us, hl with | [_, _], _ => rfl, ⟨ma_Units_take_back, mi_Units_take_back, mk_Units_take_back⟩⟩
  have m_CUnits := PySem.W.mg_of X G aCUnits
  have cls_CUnits : L2.Cls K CUnits := ⟨pg_CUnits, hd_CUnits, po_CUnits, sa_CUnits⟩
  cases e
  exact ⟨fd_law, fun s v => .of_eq rfl, fun base _ _ => by
    have UKK : UK K CUnits := ⟨cls_CUnits, fun d => match d with | .vs => n_CUnits_variables | .nu => n_CUnits_numbers | .st => n_CUnits_state | .ro => n_CUnits_rows | .wa => n_CUnits_waiting | .pa => n_CUnits_pairs | .ca => n_CUnits_causes | .le => n_CUnits_levels | .lv => n_CUnits_level | .tr => n_CUnits_trail | .dn => n_CUnits_done | .br => n_CUnits_broken⟩
    have RKK : RK K CRow := ⟨cls_CRow, n_CRow_link, n_CRow_parts⟩
    have RK1K : RK1 K CRow := ⟨n_CRow_number, n_CRow_choices, n_CRow_last_use, n_CRow_dropped⟩
    have o_give := ok_give (P := l.prog) (w := w) (base := base) (Cr := CRow) T UKK C_TRUE C_FALSE D_Units_give
    have o_sp := ok_spread_pairs (P := l.prog) (w := w) (base := base) T UKK C_OPEN C_FALSE D_Units_spread_pairs o_give
    have o_sr := ok_spread_rows (P := l.prog) (w := w) (base := base) T UKK RKK C_OPEN C_FALSE C_TRUE D_Units_spread_rows o_give
    have o_spread := ok_spread (P := l.prog) (w := w) (base := base) T UKK D_Units_spread o_sp o_sr
    have o_row := ok_Row (P := l.prog) (w := w) (base := base) RKK RK1K D_Row___init__ M_Row m_CRow
    have o_attach := ok_attach (P := l.prog) (w := w) (base := base) T UKK RKK D_Units_attach
    have o_enter := ok_enter (P := l.prog) (w := w) (base := base) T UKK C_OPEN C_TRUE D_Units_enter o_give o_attach o_row
    have o_units := ok_Units (P := l.prog) (w := w) (base := base) (Cr := CRow) T UKK C_OPEN D_Units___init__ M_Units m_CUnits
    have o_back := ok_take_back (P := l.prog) (w := w) (base := base) (Cr := CRow) T UKK C_OPEN D_Units_take_back
    have o_vars := ok_variables_of (P := l.prog) (w := w) (base := base) T D_variables_of
    have o_num := ok_numbered (P := l.prog) (w := w) (base := base) (Cr := CRow) T UKK D_numbered
    have o_settle := ok_settle (P := l.prog) (w := w) (base := base) T UKK D_settle o_spread
    have o_forced := ok_is_forced (P := l.prog) (w := w) (base := base) T UKK C_OPEN C_TRUE D_is_forced o_spread o_give o_back
    have o_loaded := ok_loaded (P := l.prog) (w := w) (base := base) T UKK D_loaded o_vars o_num o_settle o_enter o_units
    have o_follows := ok_follows (P := l.prog) (w := w) (base := base) T D_follows o_loaded o_forced o_num
    have l_draw := ok__law_draw (P := l.prog) (w := w) (base := base) T D__law_draw
    have l_take := ok__law_take (P := l.prog) (w := w) (base := base) T D__law_take
    have l_clause := ok__law_clause (P := l.prog) (w := w) (base := base) T D__law_clause l_take
    have l_clauses := ok__law_clauses (P := l.prog) (w := w) (base := base) T D__law_clauses l_take l_clause
    have l_follows := ok__law_follows (P := l.prog) (w := w) (base := base) T D__law_follows
    have l_less := ok__law_less (P := l.prog) (w := w) (base := base) T D__law_less
    have l_can := ok__law_can (P := l.prog) (w := w) (base := base) T D__law_can l_less 8
    exact ok_law T D_law l_draw l_take l_clause l_clauses l_follows o_follows l_can⟩
theorem walk {l : PySem.W.OpenLaw} {q : Program} {loose : List Str} {XP : (Str → Option Value) → Heap → Prop} {YP : World → Heap → Prop} {d : DefRec} {K : Params → PySem.W.Frag} (hn : l.most = some 63) (hdf : d.params.defaults = [])
    (hY : ∀ (w : World) (h : Heap), YP w h → (K w.params).In h)
    (F : ∀ (w : World) (mg : Str → Option Value) (fa : Addr) (h : Heap), (K w.params).In h → h.Ns mainGlobals mg → mg d.name = some (.ref fa) →
      ∃ fd : FuncData, (∀ (s : Shared) (u : Value), BindsTo s fd ⟨[u], []⟩ [("script", u)]) ∧ ∀ base : Heap, (K w.params).In base → base.Ns mainGlobals mg → FnOk l.prog w (K w.params) mg base CX0 10 fa fd ["script"] (spLaw (K w.params))) :
    PySem.W.WalkO q loose XP YP l.row.toRowW d [] (fun f vs => PySem.call f vs) :=
  L2.walk_of (n := 63) (k := 10) (x := "script") (CX := fun _ => CX0) (sp := fun w => spLaw (K w.params)) hn (by decide) hdf ⟨rfl, by decide, by decide⟩ hY F (fun _ _ a ns hl _ hS => ⟨a, ns, rfl, hS, hl, fun _ => rfl⟩) fun _ _ _ _ _ z => z
end My

open PySem PySem.W PyProof.Rows in
set_option maxRecDepth 100000 in
set_option maxHeartbeats 0 in
theorem PySem.Challenge.cw_inputways_k35_what_follows_by_units_holds : PySem.Challenge.rw_inputways_k35_what_follows_by_units.Holds := by
  w_on; o_law; k_head; (case hw => w_witness2)
  k_fill
  refine My.walk (l := PySem.Challenge.rw_inputways_k35_what_follows_by_units) rfl rfl (fun w h Y => PySem.W.kIn_of Y) ?F
  case F =>
    intro w mg fa h KX G hmg
    refine' My.all_mk KX G hmg ?a0 ?l0 ?c0 ?k0 ?a1 ?l1 ?c1 ?k1 ?a2 ?l2 ?c2 ?k2 ?a3 ?l3 ?c3 ?k3 ?a4 ?l4 ?c4 ?k4 ?a5 ?l5 ?c5 ?k5 ?a6 ?l6 ?c6 ?k6 ?a7 ?l7 ?c7 ?k7 ?a8 ?l8 ?c8 ?k8 ?a9 ?l9 ?c9 ?k9 ?a10 ?l10 ?c10 ?k10 ?a11 ?l11 ?c11 ?k11 ?a12 ?l12 ?c12 ?k12 ?a13 ?l13 ?c13 ?k13 ?i_FALSE ?i_TRUE ?i_OPEN ?aCRow ?ma_Row___init__ ?mi_Row___init__ ?ml_Row___init__ ?mc_Row___init__ ?mk_Row___init__ ?pg_CRow ?hd_CRow ?po_CRow ?sa_CRow ?mk_CRow ?kc_CRow ?n_CRow_parts ?n_CRow_link ?n_CRow_number ?n_CRow_choices ?n_CRow_last_use ?n_CRow_dropped ?aCUnits ?ma_Units___init__ ?mi_Units___init__ ?ml_Units___init__ ?mc_Units___init__ ?mk_Units___init__ ?ma_Units_enter ?mi_Units_enter ?ml_Units_enter ?mc_Units_enter ?mk_Units_enter ?ma_Units_attach ?mi_Units_attach ?ml_Units_attach ?mc_Units_attach ?mk_Units_attach ?ma_Units_give ?mi_Units_give ?ml_Units_give ?mc_Units_give ?mk_Units_give ?ma_Units_spread ?mi_Units_spread ?ml_Units_spread ?mc_Units_spread ?mk_Units_spread ?ma_Units_spread_pairs ?mi_Units_spread_pairs ?ml_Units_spread_pairs ?mc_Units_spread_pairs ?mk_Units_spread_pairs ?ma_Units_spread_rows ?mi_Units_spread_rows ?ml_Units_spread_rows ?mc_Units_spread_rows ?mk_Units_spread_rows ?ma_Units_take_back ?mi_Units_take_back ?ml_Units_take_back ?mc_Units_take_back ?mk_Units_take_back ?pg_CUnits ?hd_CUnits ?po_CUnits ?sa_CUnits ?mk_CUnits ?kc_CUnits ?n_CUnits_variables ?n_CUnits_numbers ?n_CUnits_state ?n_CUnits_rows ?n_CUnits_waiting ?n_CUnits_pairs ?n_CUnits_causes ?n_CUnits_levels ?n_CUnits_level ?n_CUnits_trail ?n_CUnits_done ?n_CUnits_broken ?z_abs ?z_bool ?z_enumerate ?z_int ?z_isinstance ?z_len ?z_list ?z_range ?z_reversed ?z_sorted ?z_tuple
    (case a0 => k_is)
    (case l0 => k_is)
    (case c0 => k_is)
    (case k0 => k_is)
    (case a1 => k_is)
    (case l1 => k_is)
    (case c1 => k_is)
    (case k1 => k_is)
    (case a2 => k_is)
    (case l2 => k_is)
    (case c2 => k_is)
    (case k2 => k_is)
    (case a3 => k_is)
    (case l3 => k_is)
    (case c3 => k_is)
    (case k3 => k_is)
    (case a4 => k_is)
    (case l4 => k_is)
    (case c4 => k_is)
    (case k4 => k_is)
    (case a5 => k_is)
    (case l5 => k_is)
    (case c5 => k_is)
    (case k5 => k_is)
    (case a6 => k_is)
    (case l6 => k_is)
    (case c6 => k_is)
    (case k6 => k_is)
    (case a7 => k_is)
    (case l7 => k_is)
    (case c7 => k_is)
    (case k7 => k_is)
    (case a8 => k_is)
    (case l8 => k_is)
    (case c8 => k_is)
    (case k8 => k_is)
    (case a9 => k_is)
    (case l9 => k_is)
    (case c9 => k_is)
    (case k9 => k_is)
    (case a10 => k_is)
    (case l10 => k_is)
    (case c10 => k_is)
    (case k10 => k_is)
    (case a11 => k_is)
    (case l11 => k_is)
    (case c11 => k_is)
    (case k11 => k_is)
    (case a12 => k_is)
    (case l12 => k_is)
    (case c12 => k_is)
    (case k12 => k_is)
    (case a13 => k_is)
    (case l13 => k_is)
    (case c13 => k_is)
    (case k13 => k_is)
    (case i_FALSE => k_is)
    (case i_TRUE => k_is)
    (case i_OPEN => k_is)
    (case aCRow => k_is)
    (case ma_Row___init__ => k_is)
    (case mi_Row___init__ => k_is)
    (case ml_Row___init__ => k_is)
    (case mc_Row___init__ => k_is)
    (case mk_Row___init__ => k_is)
    (case pg_CRow => k_is)
    (case hd_CRow => k_is)
    (case po_CRow => k_is)
    (case sa_CRow => k_is)
    (case mk_CRow => k_is)
    (case kc_CRow => k_is)
    (case n_CRow_parts => k_is)
    (case n_CRow_link => k_is)
    (case n_CRow_number => k_is)
    (case n_CRow_choices => k_is)
    (case n_CRow_last_use => k_is)
    (case n_CRow_dropped => k_is)
    (case aCUnits => k_is)
    (case ma_Units___init__ => k_is)
    (case mi_Units___init__ => k_is)
    (case ml_Units___init__ => k_is)
    (case mc_Units___init__ => k_is)
    (case mk_Units___init__ => k_is)
    (case ma_Units_enter => k_is)
    (case mi_Units_enter => k_is)
    (case ml_Units_enter => k_is)
    (case mc_Units_enter => k_is)
    (case mk_Units_enter => k_is)
    (case ma_Units_attach => k_is)
    (case mi_Units_attach => k_is)
    (case ml_Units_attach => k_is)
    (case mc_Units_attach => k_is)
    (case mk_Units_attach => k_is)
    (case ma_Units_give => k_is)
    (case mi_Units_give => k_is)
    (case ml_Units_give => k_is)
    (case mc_Units_give => k_is)
    (case mk_Units_give => k_is)
    (case ma_Units_spread => k_is)
    (case mi_Units_spread => k_is)
    (case ml_Units_spread => k_is)
    (case mc_Units_spread => k_is)
    (case mk_Units_spread => k_is)
    (case ma_Units_spread_pairs => k_is)
    (case mi_Units_spread_pairs => k_is)
    (case ml_Units_spread_pairs => k_is)
    (case mc_Units_spread_pairs => k_is)
    (case mk_Units_spread_pairs => k_is)
    (case ma_Units_spread_rows => k_is)
    (case mi_Units_spread_rows => k_is)
    (case ml_Units_spread_rows => k_is)
    (case mc_Units_spread_rows => k_is)
    (case mk_Units_spread_rows => k_is)
    (case ma_Units_take_back => k_is)
    (case mi_Units_take_back => k_is)
    (case ml_Units_take_back => k_is)
    (case mc_Units_take_back => k_is)
    (case mk_Units_take_back => k_is)
    (case pg_CUnits => k_is)
    (case hd_CUnits => k_is)
    (case po_CUnits => k_is)
    (case sa_CUnits => k_is)
    (case mk_CUnits => k_is)
    (case kc_CUnits => k_is)
    (case n_CUnits_variables => k_is)
    (case n_CUnits_numbers => k_is)
    (case n_CUnits_state => k_is)
    (case n_CUnits_rows => k_is)
    (case n_CUnits_waiting => k_is)
    (case n_CUnits_pairs => k_is)
    (case n_CUnits_causes => k_is)
    (case n_CUnits_levels => k_is)
    (case n_CUnits_level => k_is)
    (case n_CUnits_trail => k_is)
    (case n_CUnits_done => k_is)
    (case n_CUnits_broken => k_is)
    (case z_abs => k_is)
    (case z_bool => k_is)
    (case z_enumerate => k_is)
    (case z_int => k_is)
    (case z_isinstance => k_is)
    (case z_len => k_is)
    (case z_list => k_is)
    (case z_range => k_is)
    (case z_reversed => k_is)
    (case z_sorted => k_is)
    (case z_tuple => k_is)
