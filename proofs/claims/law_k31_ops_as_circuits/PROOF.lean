import PyProof.Rows.All
import Wide.All
import OpenK.AllK
import Wide.FinOn
import HandS.Base
import HandS.Call
import HandS.List
import HandS.Comp
import HandS.Ends
import HandS.Dict
import HandS.Iter
import HandS.Words
import HandS.IsInst
import HandS.Codes
import HandS.Text
import HandS.TupSets
import KE.SortCalls
import HandS.Deep
import KE.KeyNested
import HandS.SetIn
import KE.KDictKeyed
import HandS.Small
import PyProof.Rows.BitMore
import KE.BitLaws
import HandS.Style
import HandS.NoneIn
import HandS.Zip
import HandS.More
import HandS.SortInts
import HandS.Walk
import HandS.SetFor
import PySem.Challenge.RW_inputways_k31_ops_as_circuits
set_option Elab.async false
set_option maxRecDepth 100000
set_option maxHeartbeats 4000000
set_option linter.all false
namespace My
open PySem L2
open C8 (pss_cut)
/-! ### a def of the text, as the top has written it; a def that keeps a promise -/
structure Def (K : PySem.W.Frag) (mg : Str → Option Value) (x : Str) (ps : List Str) (st : Stmt) (f : Addr) (fd : FuncData) : Prop where
  fn : Fun K x x st f fd
  mg : mg x = some (.ref f)
  bd : Binds K fd ps []
def Own (P : Program) (w : World) (K : PySem.W.Frag) (mg : Str → Option Value) (base : Heap) (x : Str) (ps : List Str) (k : Nat) (sp : Sp) : Prop :=
  ∃ (f : Addr) (fd : FuncData), mg x = some (.ref f) ∧ PySem.W.keepIn K (.ref f) = true ∧ Binds K fd ps [] ∧ FnOk P w K mg base CX0 k f fd ps sp
/-- a def whose promise nobody can ask for -/
theorem fn_never {P : Program} {w : World} {K : PySem.W.Frag} {mg : Str → Option Value} {base : Heap} {k : Nat} {f : Addr} {fd : FuncData} {ps : List Str} {sp : Sp} (no : ∀ vs H Q E, ¬ sp vs H Q E) : FnOk P w K mg base CX0 k f fd ps sp :=
  ⟨fun vs H Q E h => absurd h (no vs H Q E), fun A outer s H args us vs Q E _ _ _ _ h => absurd h (no vs H Q E)⟩
/-- a constant of the top: a tuple of these -/
def Con (K : PySem.W.Frag) (mg : Str → Option Value) (x : Str) (xs : List V) : Prop :=
  ∃ (a : Addr) (od : Option Addr) (its : Array Value) (n : Nat) (sl : Array (Option Value)), mg x = some (.ref a) ∧ K.lookup a = some ⟨.type "tuple", od, .seq its n, sl⟩ ∧ its.size ≤ sizeLine ∧ Vals xs its.toList
theorem con_seq {K : PySem.W.Frag} {H : Hp} {a : Addr} {od : Option Addr} {its : Array Value} {n : Nat} {sl : Array (Option Value)} {xs : List V} (l : K.lookup a = some ⟨.type "tuple", od, .seq its n, sl⟩) (s : its.size ≤ sizeLine) (v : Vals xs its.toList) : SqT K H a xs :=
  .inr ⟨_, its, n, l, rfl, rfl, s, v⟩

/-! ### small words -/
theorem same_new {H : Hp} {p : Addr} (h : H p = none) (o : HO) : Same H (upd H p o) := fun b u q => by rw [upd_ne (ne_of_none q h)]; exact q
theorem streq {a b : Str} (c : decide (V.str a = V.str b) = true) : a = b := V.str.inj (of_decide_eq_true c)
theorem strne {a b : Str} (c : ¬ decide (V.str a = V.str b) = true) : a ≠ b := fun e => c (by rw [e]; exact decide_eq_true rfl)
theorem inteq {a b : Int} (c : decide (V.int a = V.int b) = true) : a = b := V.int.inj (of_decide_eq_true c)
theorem intne {a b : Int} (c : ¬ decide (V.int a = V.int b) = true) : a ≠ b := fun e => c (by rw [e]; exact decide_eq_true rfl)
theorem toI {Q : V → Hp → Prop} {H : Hp} {a b : Int} (e : a = b) (q : Q (.int b) H) : Q (.int a) H := by rw [e]; exact q
theorem toB {Q : V → Hp → Prop} {H : Hp} {a b : Bool} (e : a = b) (q : Q (.bl b) H) : Q (.bl a) H := by rw [e]; exact q
theorem inS {x : Str} : ∀ {xs : List Str}, inV (.str x) (xs.map V.str) = decide (x ∈ xs)
  | [] => by simp [inV]
  | y :: ys => by
    have ih := inS (x := x) (xs := ys)
    unfold inV at ih ⊢
    rw [List.map_cons, List.any_cons, ih]
    show (y == x || decide (x ∈ ys)) = decide (x ∈ y :: ys)
    by_cases h : y = x
    · subst h
      simp
    · have h' : ¬ x = y := fun e => h e.symm
      simp [h, h']
theorem atI_get {ns : List Int} {k : Int} (h0 : 0 ≤ k) (h : k < (ns.length : Int)) : ∃ z : Int, z ∈ ns ∧ atI (ns.map V.int) k = some (.int z) := by
  have hk : k.toNat < ns.length := by omega
  have ek : k = ((k.toNat : Nat) : Int) := by omega
  have q : atI (ns.map V.int) ((k.toNat : Nat) : Int) = some (.int ns[k.toNat]) := atI_nat (by rw [List.getElem?_map, List.getElem?_eq_getElem hk] <;> rfl)
  rw [← ek] at q
  exact ⟨_, List.getElem_mem hk, q⟩
/-- an item in bounds -/
theorem atI_in {xs : List V} {k : Int} (h0 : 0 ≤ k) (h : k < (xs.length : Int)) : ∃ v : V, atI xs k = some v ∧ xs[k.toNat]? = some v ∧ v ∈ xs := by
  have hk : k.toNat < xs.length := by omega
  have ek : k = ((k.toNat : Nat) : Int) := by omega
  have q : atI xs ((k.toNat : Nat) : Int) = some xs[k.toNat] := atI_nat (List.getElem?_eq_getElem hk)
  rw [← ek] at q
  exact ⟨_, q, List.getElem?_eq_getElem hk, List.getElem_mem hk⟩
theorem map_at {ns : List Int} {i : Nat} {y : V} (hi : (ns.map V.int)[i]? = some y) : ∃ z, y = V.int z ∧ ns[i]? = some z := by
  rw [List.getElem?_map] at hi
  cases e : ns[i]? with
  | none =>
    rw [e] at hi
    cases hi
  | some z =>
    rw [e] at hi
    exact ⟨z, (Option.some.inj hi).symm, rfl⟩
theorem yes2 {σ : L2.St} {H : Hp} {A B : Hp → Prop} (h : A H) : tYes σ H (fun b H3 => if b = true then A H3 else B H3) := iteT (A := A H) (B := B H) h
theorem small {n : Nat} (h : n ≤ 1000) : n ≤ sizeLine := Nat.le_of_lt (small1000 h)

/-! ### a heap without one object -/
def hide (d : Addr) (H : Hp) : Hp := fun b => if b = d then none else H b
theorem hide_at {d : Addr} {H : Hp} : hide d H d = none := if_pos rfl
theorem hide_ne {d b : Addr} {H : Hp} (h : b ≠ d) : hide d H b = H b := if_neg h
theorem hide_some {d b : Addr} {H : Hp} {o : HO} (h : hide d H b = some o) : b ≠ d ∧ H b = some o := by
  unfold hide at h
  by_cases e : b = d
  · rw [if_pos e] at h
    cases h
  · rw [if_neg e] at h
    exact ⟨e, h⟩
theorem hide_le {d : Addr} {H : Hp} : Same (hide d H) H := fun b o h => (hide_some h).2
theorem hide_new {d p : Addr} {H : Hp} (hp : H p = none) (o : HO) : Same (hide d H) (hide d (upd H p o)) := fun b u h => by
  obtain ⟨h1, h2⟩ := hide_some h
  rw [hide_ne h1, upd_ne (ne_of_none h2 hp)]
  exact h2
theorem hide_put {d : Addr} {H : Hp} (o : HO) : Same (hide d H) (hide d (upd H d o)) := fun b u h => by
  obtain ⟨h1, h2⟩ := hide_some h
  rw [hide_ne h1, upd_ne h1]
  exact h2
theorem hide_same {d : Addr} {H H' : Hp} (e : Same H H') : Same (hide d H) (hide d H') := fun b u h => by
  obtain ⟨h1, h2⟩ := hide_some h
  rw [hide_ne h1]
  exact e b u h2
/-- what stands apart from d and is tracked, is tracked without d -/
theorem hide_in {d b : Addr} {H : Hp} {o : HO} (h : H b = some o) (hb : b ≠ d) : hide d H b = some o := by rw [hide_ne hb]; exact h
/-- a new object behind the draw -/
theorem hide_upd {d p : Addr} {H : Hp} {o u : HO} (hd : H d = some u) (hp : H p = none) : hide d (upd H p o) p = some o := by
  rw [hide_ne (fun e => by rw [e, hd] at hp; cases hp), upd_same]

/-! ### sequences and data in a heap that has grown -/
theorem rd_mono {H H' : Hp} {a : Addr} {u : HO} (e : Same H H') (h : Rd H a u) : Rd H' a u := by
  rcases h with h | ⟨o, h⟩
  · exact .inl (e _ _ h)
  · exact .inr ⟨o, e _ _ h⟩
theorem sqt_mono {K : PySem.W.Frag} {H H' : Hp} {a : Addr} {xs : List V} (e : Same H H') (h : SqT K H a xs) : SqT K H' a xs := by
  rcases h with h | h
  · exact .inl (rd_mono e h)
  · exact .inr h
theorem sql_mono {K : PySem.W.Frag} {H H' : Hp} {a : Addr} {xs : List V} (e : Same H H') (h : SqL K H a xs) : SqL K H' a xs := e.seq h
mutual
theorem dp_mono {K : PySem.W.Frag} {H H' : Hp} (e : Same H H') : ∀ (d : PyData) {v : V}, Dp K H v d → Dp K H' v d
  | .none, _, .non => .non
  | .bool _, _, .bl b => .bl b
  | .int _, _, .int i => .int i
  | .str _, _, .str x => .str x
  | .list ds, _, .lst h hs => .lst (sql_mono e h) (dpa_mono e ds hs)
  | .tuple ds, _, .tup h hs => .tup (sqt_mono e h) (dpa_mono e ds hs)
  | .dict _, _, h => by cases h
theorem dpa_mono {K : PySem.W.Frag} {H H' : Hp} (e : Same H H') : ∀ (ds : List PyData) {vs : List V}, DpAll K H vs ds → DpAll K H' vs ds
  | [], _, .nil => .nil
  | d :: ds, _, .cons h hs => .cons (dp_mono e d h) (dpa_mono e ds hs)
end
section
variable {K : PySem.W.Frag} {H : Hp}
theorem dpa_len : ∀ {vs : List V} {ds : List PyData}, DpAll K H vs ds → vs.length = ds.length
  | _, _, .nil => rfl
  | _, _, .cons _ t => by rw [List.length_cons, List.length_cons, dpa_len t]
theorem dpa_get : ∀ {vs : List V} {ds : List PyData} {i : Nat} {v : V}, DpAll K H vs ds → vs[i]? = some v → ∃ d, ds[i]? = some d ∧ Dp K H v d
  | _, _, _, _, .nil, e => by cases e
  | _, _, 0, _, .cons h _, e => by
    cases e
    exact ⟨_, rfl, h⟩
  | _, _, i + 1, _, .cons _ t, e => dpa_get (i := i) t e
theorem dpa_app : ∀ {vs us : List V} {ds es : List PyData}, DpAll K H vs ds → DpAll K H us es → DpAll K H (vs ++ us) (ds ++ es)
  | _, _, _, _, .nil, h => h
  | _, _, _, _, .cons a t, h => .cons a (dpa_app t h)
theorem dpa_one {v : V} {d : PyData} (h : Dp K H v d) : DpAll K H [v] [d] := .cons h .nil
theorem dpa_take : ∀ {vs : List V} {ds : List PyData} (n : Nat), DpAll K H vs ds → DpAll K H (vs.take n) (ds.take n)
  | _, _, 0, _ => .nil
  | _, _, _ + 1, .nil => .nil
  | _, _, n + 1, .cons h t => .cons h (dpa_take n t)
theorem dpa_drop : ∀ {vs : List V} {ds : List PyData} (n : Nat), DpAll K H vs ds → DpAll K H (vs.drop n) (ds.drop n)
  | _, _, 0, h => h
  | _, _, _ + 1, .nil => .nil
  | _, _, n + 1, .cons _ t => dpa_drop n t
theorem dpa_map {α : Type} (f : α → V) (g : α → PyData) (h : ∀ x, Dp K H (f x) (g x)) : ∀ l : List α, DpAll K H (l.map f) (l.map g)
  | [] => .nil
  | x :: xs => .cons (h x) (dpa_map f g h xs)
/-- a tuple that is data: its items -/
theorem dp_tup {v : V} {ds : List PyData} (h : Dp K H v (.tuple ds)) : ∃ a xs, v = .ref a ∧ SqT K H a xs ∧ DpAll K H xs ds := by
  cases h with
  | tup hs ha => exact ⟨_, _, rfl, hs, ha⟩
theorem dp_lst {v : V} {ds : List PyData} (h : Dp K H v (.list ds)) : ∃ a xs, v = .ref a ∧ SqL K H a xs ∧ DpAll K H xs ds := by
  cases h with
  | lst hs ha => exact ⟨_, _, rfl, hs, ha⟩
theorem dp_int {v : V} {i : Int} (h : Dp K H v (.int i)) : v = .int i := by cases h; rfl
theorem dp_str {v : V} {x : Str} (h : Dp K H v (.str x)) : v = .str x := by cases h; rfl
theorem dp_bool {v : V} {b : Bool} (h : Dp K H v (.bool b)) : v = .bl b := by cases h; rfl
theorem dp_none {v : V} (h : Dp K H v .none) : v = .non := by cases h; rfl
end

/-! ### a draw: the cells, the place, what is left of the cell, the seed -/
def DrawAt (H : Hp) (d L : Addr) : Prop := ∃ (ns : List Int) (at_ left seed : Int), H d = some (.lst [.ref L, .int at_, .int left, .int seed]) ∧ H L = some (.lst (ns.map V.int)) ∧ d ≠ L ∧ (∀ z, z ∈ ns → 0 ≤ z) ∧ -1 ≤ at_ ∧ 0 ≤ left ∧ 0 ≤ seed ∧ seed < 2147483647
theorem DrawAt.mono {H H' : Hp} {d L : Addr} (h : DrawAt H d L) (e : Same H H') : DrawAt H' d L := by
  obtain ⟨ns, a, l, s, h1, h2, r⟩ := h
  exact ⟨ns, a, l, s, e _ _ h1, e _ _ h2, r⟩
theorem DrawAt.at {H : Hp} {d L : Addr} (h : DrawAt H d L) : ∃ u, H d = some u := by
  obtain ⟨ns, a, l, s, h1, _⟩ := h
  exact ⟨_, h1⟩
theorem DrawAt.cells {H : Hp} {d L : Addr} (h : DrawAt H d L) : ∃ u, H L = some u := by
  obtain ⟨ns, a, l, s, _, h1, _⟩ := h
  exact ⟨_, h1⟩
/-- a new object is no draw -/
theorem DrawAt.new {H : Hp} {d L p : Addr} {o : HO} (h : DrawAt H d L) (hp : H p = none) : DrawAt (upd H p o) d L := h.mono (same_new hp o)
theorem DrawAt.ne {H : Hp} {d L p : Addr} (h : DrawAt H d L) (hp : H p = none) : d ≠ p := by
  obtain ⟨u, hu⟩ := h.at
  exact ne_of_none hu hp
theorem DrawAt.neL {H : Hp} {d L p : Addr} (h : DrawAt H d L) (hp : H p = none) : L ≠ p := by
  obtain ⟨u, hu⟩ := h.cells
  exact ne_of_none hu hp
/-- an object apart from the draw may change -/
theorem DrawAt.put {H : Hp} {d L p : Addr} (o : HO) (h : DrawAt H d L) (h1 : d ≠ p) (h2 : L ≠ p) : DrawAt (upd H p o) d L := by
  obtain ⟨ns, a, l, s, g1, g2, r⟩ := h
  exact ⟨ns, a, l, s, by rw [upd_ne h1]; exact g1, by rw [upd_ne h2]; exact g2, r⟩
theorem DrawAt.in {H : Hp} {d L p : Addr} {o : HO} (h : DrawAt H d L) (hp : H p = none) : hide d (upd H p o) p = some o := by
  obtain ⟨u, hu⟩ := h.at
  exact hide_upd hu hp

/-! ### a word between a test, an expression, and what follows -/
def tCutT (t : TT) : TT := fun σ H Q => ∃ Mid : Bool → Hp → Prop, t σ H Mid ∧ ∀ b H', Mid b H' → Q b H'
theorem pt_cut {X : Cx} {e : Expr} {t : TT} (h : PT X e t) : PT X e (tCutT t) := ⟨fun pins s σ H Q I ⟨Mid, h1, h2⟩ => thn (h.run pins s σ H Mid I h1) fun b s' ⟨H', I', q⟩ => ⟨H', I', h2 b H' q⟩⟩
def tCutE (t : TE) : TE := fun σ H Q => ∃ Mid : V → Hp → Prop, t σ H Mid ∧ ∀ v H', Mid v H' → Q v H'
theorem pe_cut {X : Cx} {e : Expr} {t : TE} (h : PE X e t) : PE X e (tCutE t) := ⟨fun pins s σ H Q I ⟨Mid, h1, h2⟩ => thn (h.run pins s σ H Mid I h1) fun u s' ⟨v, H', I', r, q⟩ => ⟨v, H', I', r, h2 v H' q⟩⟩
/-- a test that leaves the heap as it is and says b -/
theorem cut_same {t : TT} {σ : L2.St} {H : Hp} {Q : Bool → Hp → Prop} (b : Bool) (h : t σ H fun c H' => c = b ∧ H' = H) (q : Q b H) : tCutT t σ H Q :=
  ⟨_, h, fun c H' ⟨e1, e2⟩ => by rw [e1, e2]; exact q⟩
theorem cutE_same {t : TE} {σ : L2.St} {H : Hp} {Q : V → Hp → Prop} (v : V) (h : t σ H fun c H' => c = v ∧ H' = H) (q : Q v H) : tCutE t σ H Q :=
  ⟨_, h, fun c H' ⟨e1, e2⟩ => by rw [e1, e2]; exact q⟩
/-- a dict's key, written: the first, the second, the third .. -/
theorem get_k {H : Hp} {a : Addr} {kvs : List (Key × V)} {x : Str} {v : V} (e : H a = some (.dK kvs)) (g : valV kvs (Sum.inr x : Key) = some v) : DGet H a (.str x) (some v) := by
  have q := DGet.k (k := (Sum.inr x : Key)) e
  rw [g] at q
  exact q
/-- a new tuple of data behind the draw -/
theorem dp_new {K : PySem.W.Frag} {H : Hp} {d L p : Addr} {xs : List V} {ds : List PyData} (D : DrawAt H d L) (hp : H p = none) (h : DpAll K (hide d H) xs ds) : Dp K (hide d (upd H p (.tup xs))) (.ref p) (.tuple ds) :=
  .tup (SqT.of (D.in hp)) (dpa_mono (hide_new hp _) _ h)

/-! ### a list that grows apart from the data -/
mutual
def noLst : PyData → Bool
  | .none => true
  | .bool _ => true
  | .int _ => true
  | .str _ => true
  | .list _ => false
  | .tuple ds => noLsts ds
  | .dict _ => false
def noLsts : List PyData → Bool
  | [] => true
  | d :: ds => noLst d && noLsts ds
end
theorem sqt_hide {K : PySem.W.Frag} {H : Hp} {D a : Addr} {ys xs : List V} (hD : H D = some (.lst ys)) (h : SqT K H a xs) : SqT K (hide D H) a xs := by
  rcases h with (h | ⟨o, h⟩) | h
  · exact .inl (.inl (hide_in h (ne_of h hD (by intro z; cases z))))
  · exact .inl (.inr ⟨o, hide_in h (ne_of h hD (by intro z; cases z))⟩)
  · exact .inr h
mutual
theorem dp_hide {K : PySem.W.Frag} {H : Hp} {D : Addr} {ys : List V} (hD : H D = some (.lst ys)) : ∀ (d : PyData) {v : V}, noLst d = true → Dp K H v d → Dp K (hide D H) v d
  | .none, _, _, .non => .non
  | .bool _, _, _, .bl b => .bl b
  | .int _, _, _, .int i => .int i
  | .str _, _, _, .str x => .str x
  | .list ds, _, n, _ => by cases (show false = true from n)
  | .tuple ds, _, n, .tup h hs => .tup (sqt_hide hD h) (dpa_hide hD ds n hs)
  | .dict _, _, _, h => by cases h
theorem dpa_hide {K : PySem.W.Frag} {H : Hp} {D : Addr} {ys : List V} (hD : H D = some (.lst ys)) : ∀ (ds : List PyData) {vs : List V}, noLsts ds = true → DpAll K H vs ds → DpAll K (hide D H) vs ds
  | [], _, _, .nil => .nil
  | d :: ds, _, n, .cons h hs => by
    have n' := Bool.and_eq_true_iff.mp (show (noLst d && noLsts ds) = true from n)
    exact .cons (dp_hide hD d n'.1 h) (dpa_hide hD ds n'.2 hs)
end
theorem noLsts_map {α : Type} {g : α → PyData} (h : ∀ x, noLst (g x) = true) : ∀ l : List α, noLsts (l.map g) = true
  | [] => rfl
  | x :: xs => by
    show (noLst (g x) && noLsts (xs.map g)) = true
    rw [h x, noLsts_map h xs]
    rfl
/-- the new list of a comprehension, D, behind the draw at d: what stands in it so far, as data -/
structure Grows (K : PySem.W.Frag) (H0 H : Hp) (d L D : Addr) (vs : List V) (ds : List PyData) : Prop where
  at_ : H D = some (.lst vs)
  all : DpAll K (hide D (hide d H)) vs ds
  dr : DrawAt H d L
  old : Same (hide d H0) (hide d H)
  nd : d ≠ D
  nL : L ≠ D
  fr : hide d H0 D = none
theorem Grows.start {K : PySem.W.Frag} {H : Hp} {d L D : Addr} (h : DrawAt H d L) (hD : H D = none) : Grows K H (upd H D (.lst [])) d L D [] [] :=
  ⟨upd_same, .nil, h.new hD, hide_new hD _, h.ne hD, h.neL hD, by rw [hide_ne (h.ne hD).symm]; exact hD⟩
/-- what a call leaves -/
theorem Grows.step {K : PySem.W.Frag} {H0 H H' : Hp} {d L D : Addr} {vs : List V} {ds : List PyData} (g : Grows K H0 H d L D vs ds) (h : DrawAt H' d L) (e : Same (hide d H) (hide d H')) : Grows K H0 H' d L D vs ds :=
  ⟨hide_le _ _ (e _ _ (hide_in g.at_ g.nd.symm)), dpa_mono (hide_same e) _ g.all, h, g.old.trans e, g.nd, g.nL, g.fr⟩
theorem Grows.push {K : PySem.W.Frag} {H0 H : Hp} {d L D : Addr} {vs : List V} {ds : List PyData} {v : V} {x : PyData} (g : Grows K H0 H d L D vs ds) (n : noLst x = true) (h : Dp K (hide d H) v x) : Grows K H0 (upd H D (.lst (vs ++ [v]))) d L D (vs ++ [v]) (ds ++ [x]) := by
  have h' := dp_hide (hide_in g.at_ g.nd.symm) x n h
  have e : Same (hide D (hide d H)) (hide D (hide d (upd H D (.lst (vs ++ [v]))))) := fun b o hb => by
    obtain ⟨h1, h2⟩ := hide_some hb
    obtain ⟨h3, h4⟩ := hide_some h2
    rw [hide_ne h1, hide_ne h3, upd_ne h1]
    exact h4
  refine ⟨upd_same, dpa_mono e _ (dpa_app g.all (dpa_one h')), g.dr.put _ g.nd g.nL, fun b o hb => ?_, g.nd, g.nL, g.fr⟩
  have hbD : b ≠ D := ne_of_none hb g.fr
  obtain ⟨h3, h4⟩ := hide_some (g.old _ _ hb)
  rw [hide_ne h3, upd_ne hbD]
  exact h4
theorem Grows.data {K : PySem.W.Frag} {H0 H : Hp} {d L D : Addr} {vs : List V} {ds : List PyData} (g : Grows K H0 H d L D vs ds) : DpAll K (hide d H) vs ds := dpa_mono hide_le _ g.all

/-! ### promises of the drawing -/
def spTop : Sp := fun vs H Q _ => ∃ n : Nat, vs = [.int n] ∧ n ≤ 1000 ∧ Q (.int (2 ^ n - 1)) H
def spDraw (K : PySem.W.Frag) : Sp := fun vs H Q _ => ∃ (a : Addr) (ns : List Int), vs = [.ref a] ∧ SqL K H a (ns.map V.int) ∧ ns.length ≤ 63 ∧ ∀ d L H', H d = none → H L = none → Same H H' → DrawAt H' d L → Q (.ref d) H'
def spTake : Sp := fun vs H Q _ => ∃ (d L : Addr) (m : Int), vs = [.ref d, .int m] ∧ 0 < m ∧ m < 1073741824 ∧ DrawAt H d L ∧ ∀ v H', 0 ≤ v → v < m → DrawAt H' d L → Same (hide d H) (hide d H') → Q (.int v) H'
def spWord : Sp := fun vs H Q _ => ∃ (d L : Addr) (n : Nat), vs = [.ref d, .int n] ∧ n ≤ 16 ∧ DrawAt H d L ∧ ∀ v H', 0 ≤ v → v < 2 ^ n → DrawAt H' d L → Same (hide d H) (hide d H') → Q (.int v) H'
def opsL : List V := [.str "add", .str "sub", .str "mul", .str "and", .str "or", .str "xor", .str "shl", .str "shr", .str "less", .str "equal"]
def opsS : List Str := ["add", "sub", "mul", "and", "or", "xor", "shl", "shr", "less", "equal"]
def spOps : Sp := fun vs H Q _ => vs = [] ∧ ∀ p H', H p = none → Same H H' → H' p = some (.lst opsL) → Q (.ref p) H'
end My

set_option autoImplicit false
/-! Clauses, pure: what units give, fillings. -/
namespace MC
open Classical
abbrev Cl := List Int
/-- the bit of an item -/
def lit (A : Int → Bool) (x : Int) : Bool := if 0 < x then A x else !A (-x)
def Keeps (A : Int → Bool) (cs : List Cl) : Prop := ∀ c ∈ cs, ∃ x ∈ c, lit A x = true
def Sat (cs : List Cl) : Prop := ∃ A, Keeps A cs
def Nz (cs : List Cl) : Prop := ∀ c ∈ cs, ∀ x ∈ c, x ≠ 0
theorem lit_neg {A : Int → Bool} {x : Int} (h : x ≠ 0) : lit A (-x) = !lit A x := by
  unfold lit
  by_cases c : 0 < x
  · have c2 : ¬ 0 < -x := by omega
    rw [if_pos c, if_neg c2, Int.neg_neg]
  · have c2 : 0 < -x := by omega
    rw [if_neg c, if_pos c2, Bool.not_not]
def rest (l : Int) (c : Cl) : Cl := c.filter fun x => decide (x ≠ -l)
def less (cs : List Cl) (l : Int) : List Cl := (cs.filter fun c => decide (l ∉ c)).map (rest l)
theorem mem_less {cs : List Cl} {l : Int} {d : Cl} : d ∈ less cs l ↔ ∃ c ∈ cs, l ∉ c ∧ rest l c = d := by
  unfold less
  rw [List.mem_map]
  constructor
  · rintro ⟨c, h, e⟩
    obtain ⟨h1, h2⟩ := List.mem_filter.mp h
    exact ⟨c, h1, of_decide_eq_true h2, e⟩
  · rintro ⟨c, h1, h2, e⟩
    exact ⟨c, List.mem_filter.mpr ⟨h1, decide_eq_true h2⟩, e⟩
theorem mem_rest {l x : Int} {c : Cl} : x ∈ rest l c ↔ x ∈ c ∧ x ≠ -l := by
  unfold rest
  rw [List.mem_filter]
  exact ⟨fun ⟨a, b⟩ => ⟨a, of_decide_eq_true b⟩, fun ⟨a, b⟩ => ⟨a, decide_eq_true b⟩⟩
theorem nz_less {cs : List Cl} {l : Int} (h : Nz cs) : Nz (less cs l) := fun d hd x hx => by
  obtain ⟨c, hc, _, rfl⟩ := mem_less.1 hd
  exact h c hc x (mem_rest.1 hx).1
theorem keeps_less {A : Int → Bool} {cs : List Cl} {l : Int} (hl : l ≠ 0) (h : Keeps A cs) (t : lit A l = true) : Keeps A (less cs l) := fun d hd => by
  obtain ⟨c, hc, _, rfl⟩ := mem_less.1 hd
  obtain ⟨x, hx, tx⟩ := h c hc
  refine ⟨x, mem_rest.2 ⟨hx, fun e => ?_⟩, tx⟩
  rw [e, lit_neg hl, t] at tx
  cases tx
def put (A : Int → Bool) (l : Int) : Int → Bool := fun v => if v = l then true else if v = -l then false else A v
theorem lit_put {A : Int → Bool} {l : Int} (hl : l ≠ 0) : lit (put A l) l = true := by
  unfold lit put
  by_cases c : 0 < l
  · rw [if_pos c, if_pos rfl]
  · rw [if_neg c, if_neg (by omega), if_pos rfl] <;> rfl
theorem lit_put_ne {A : Int → Bool} {l x : Int} (h1 : x ≠ l) (h2 : x ≠ -l) : lit (put A l) x = lit A x := by
  unfold lit put
  by_cases c : 0 < x
  · rw [if_pos c, if_pos c, if_neg h1, if_neg h2]
  · rw [if_neg c, if_neg c, if_neg (by omega), if_neg (by omega)]
theorem keeps_put {A : Int → Bool} {cs : List Cl} {l : Int} (hl : l ≠ 0) (h : Keeps A (less cs l)) : Keeps (put A l) cs := fun c hc => by
  by_cases m : l ∈ c
  · exact ⟨l, m, lit_put hl⟩
  · obtain ⟨x, hx, tx⟩ := h _ (mem_less.2 ⟨c, hc, m, rfl⟩)
    obtain ⟨x1, x2⟩ := mem_rest.1 hx
    have x3 : x ≠ l := fun e => m (by rw [← e]; exact x1)
    exact ⟨x, x1, by rw [lit_put_ne x3 x2]; exact tx⟩
theorem sat_less_of {cs : List Cl} {l : Int} (hl : l ≠ 0) (h : Sat (less cs l)) : Sat cs := by
  obtain ⟨A, h⟩ := h
  exact ⟨_, keeps_put hl h⟩
theorem sat_unit {cs : List Cl} {l : Int} (hl : l ≠ 0) (m : [l] ∈ cs) : Sat cs ↔ Sat (less cs l) := by
  refine ⟨fun ⟨A, h⟩ => ⟨A, keeps_less hl h ?_⟩, sat_less_of hl⟩
  obtain ⟨x, hx, t⟩ := h _ m
  rw [List.mem_singleton] at hx
  rw [← hx]
  exact t
theorem sat_split {cs : List Cl} {l : Int} (hl : l ≠ 0) : Sat cs ↔ Sat (less cs l) ∨ Sat (less cs (-l)) := by
  refine ⟨fun ⟨A, h⟩ => ?_, fun h => h.elim (sat_less_of hl) (sat_less_of (by omega))⟩
  cases t : lit A l with
  | true => exact .inl ⟨A, keeps_less hl h t⟩
  | false => exact .inr ⟨A, keeps_less (by omega) h (by rw [lit_neg hl, t] <;> rfl)⟩
theorem not_sat_empty {cs : List Cl} (h : [] ∈ cs) : ¬ Sat cs := fun ⟨A, k⟩ => by
  obtain ⟨x, hx, _⟩ := k _ h
  cases hx
theorem sat_nil : Sat [] := ⟨fun _ => true, fun c h => by cases h⟩
/-- some row is left empty -/
def Bare (cs : List Cl) (l : Int) : Prop := ∃ c ∈ cs, l ∉ c ∧ rest l c = []
theorem bare_iff {cs : List Cl} {l : Int} : Bare cs l ↔ [] ∈ less cs l := by
  rw [mem_less]
  exact Iff.rfl
/-! the variables: the law takes one at a time -/
def vars (cs : List Cl) : List Int := ((cs.flatten).map fun x => if 0 < x then x else -x).eraseDups
def Vin (n : Nat) (cs : List Cl) : Prop := ∃ vs : List Int, vs.length ≤ n ∧ ∀ c ∈ cs, ∀ x ∈ c, (x ∈ vs ∨ -x ∈ vs)
theorem vin_less {n : Nat} {cs : List Cl} {l : Int} {c0 : Cl} (h : Vin n cs) (hc : c0 ∈ cs) (m : l ∈ c0 ∨ -l ∈ c0) : ∃ k, n = k + 1 ∧ Vin k (less cs l) := by
  obtain ⟨vs, hl, hv⟩ := h
  have hm : l ∈ vs ∨ -l ∈ vs := by
    rcases m with m | m
    · exact hv c0 hc l m
    · rcases hv c0 hc _ m with z | z
      · exact .inr z
      · rw [Int.neg_neg] at z; exact .inl z
  have key : ∀ w : Int, w ∈ vs → (w = l ∨ w = -l) → ∃ k, n = k + 1 ∧ Vin k (less cs l) := fun w hw ew => by
    have hlen := List.length_erase_of_mem hw
    have hp : 0 < vs.length := List.length_pos_of_mem hw
    refine ⟨n - 1, by omega, vs.erase w, by omega, fun d hd x hx => ?_⟩
    obtain ⟨c, hc, hn, rfl⟩ := mem_less.1 hd
    obtain ⟨x1, x2⟩ := mem_rest.1 hx
    have x3 : x ≠ l := fun e => hn (by rw [← e]; exact x1)
    rcases hv c hc x x1 with z | z
    · exact .inl ((List.mem_erase_of_ne (by omega)).2 z)
    · exact .inr ((List.mem_erase_of_ne (by omega)).2 z)
  rcases hm with h | h
  · exact key l h (.inl rfl)
  · exact key _ h (.inr rfl)
/-! units -/
inductive Forced (cs : List Cl) (row : Cl) : Int → Prop
  | start {x : Int} : x ∈ row → Forced cs row (-x)
  | unit {c : Cl} {l : Int} : c ∈ cs → l ∈ c → (∀ x ∈ c, x ≠ l → Forced cs row (-x)) → Forced cs row l
def Conf (cs : List Cl) (row : Cl) : Prop := ∃ c ∈ cs, ∀ x ∈ c, Forced cs row (-x)
theorem forced_mono {cs ds : List Cl} {row : Cl} (h : ∀ c, c ∈ cs → c ∈ ds) {x : Int} (f : Forced cs row x) : Forced ds row x := by
  induction f with
  | start m => exact .start m
  | unit hc hl _ ih => exact .unit (h _ hc) hl ih
theorem conf_mono {cs ds : List Cl} {row : Cl} (h : ∀ c, c ∈ cs → c ∈ ds) (f : Conf cs row) : Conf ds row := by
  obtain ⟨c, hc, k⟩ := f
  exact ⟨c, h c hc, fun x hx => forced_mono h (k x hx)⟩
theorem forced_true {cs : List Cl} {row : Cl} {A : Int → Bool} (nz : Nz cs) (_nr : ∀ x ∈ row, x ≠ 0) (k : Keeps A cs) (r : ∀ x ∈ row, lit A (-x) = true) {x : Int} (f : Forced cs row x) : lit A x = true := by
  induction f with
  | start m => exact r _ m
  | @unit c l hc hl _ ih =>
    obtain ⟨x, hx, t⟩ := k c hc
    by_cases e : x = l
    · rw [← e]; exact t
    · have := ih x hx e
      rw [lit_neg (nz c hc x hx), t] at this
      cases this
theorem conf_unsat {cs : List Cl} {row : Cl} (nz : Nz cs) (nr : ∀ x ∈ row, x ≠ 0) (f : Conf cs row) : ¬ Sat (cs ++ row.map fun x => [-x]) := fun ⟨A, k⟩ => by
  obtain ⟨c, hc, h⟩ := f
  have k1 : Keeps A cs := fun c hc => k c (List.mem_append_left _ hc)
  have r : ∀ x ∈ row, lit A (-x) = true := fun x hx => by
    obtain ⟨y, hy, t⟩ := k [-x] (List.mem_append_right _ (List.mem_map.mpr ⟨x, hx, rfl⟩))
    rw [List.mem_singleton] at hy
    rw [← hy]; exact t
  obtain ⟨x, hx, t⟩ := k1 c hc
  have := forced_true nz nr k1 r (h x hx)
  rw [lit_neg (nz c hc x hx), t] at this
  cases this
/-! a set of given items that is closed -/
theorem conf_of {cs : List Cl} {row : Cl} {g : Int → Prop} (sound : ∀ x, g x → Forced cs row x) {c : Cl} (hc : c ∈ cs) (all : ∀ x ∈ c, g (-x)) : Conf cs row := ⟨c, hc, fun x hx => sound _ (all x hx)⟩
theorem not_conf {cs : List Cl} {row : Cl} {g : Int → Prop} (st : ∀ x ∈ row, g (-x)) (two : ∀ x, g x → ¬ g (-x)) (cl : ∀ c ∈ cs, (∃ x ∈ c, g x) ∨ ∃ x ∈ c, ∃ y ∈ c, x ≠ y ∧ ¬ g (-x) ∧ ¬ g (-y)) : ¬ Conf cs row := by
  have all : ∀ x, Forced cs row x → g x := by
    intro x f
    induction f with
    | start m => exact st _ m
    | @unit c l hc hl _ ih =>
      rcases cl c hc with ⟨x, hx, gx⟩ | ⟨x, hx, y, hy, ne, nx, ny⟩
      · by_cases e : x = l
        · rw [← e]; exact gx
        · exact absurd (ih x hx e) (two x gx)
      · by_cases e : x = l
        · exact absurd (ih y hy (fun z => ne (e.trans z.symm))) ny
        · exact absurd (ih x hx e) nx
  rintro ⟨c, hc, h⟩
  rcases cl c hc with ⟨x, hx, gx⟩ | ⟨x, hx, _, _, _, nx, _⟩
  · exact two x gx (all _ (h x hx))
  · exact nx (all _ (h x hx))
end MC

set_option Elab.async false
set_option maxRecDepth 100000
set_option maxHeartbeats 4000000
set_option linter.all false
/-! sorted(xs), of a list or of a set, the items alike data of any depth. -/
namespace My
open PySem PySem.Spec PyProof.Rows L2
open PySem.W (EachIs alike dataLt dataKind keyToks SortsAt AllAlike Sortable sortVals)
abbrev leD (p q : V × PyData) : Bool := PySem.W.sortLe (PyProof.Rows.listOrd PyProof.Rows.itemOrd) false (fun p : V × PyData => keyToks p.2) p q
theorem leD_lt {p q : V × PyData} : leD p q = !dataLt q.2 p.2 := rfl
/-- values and what they read as -/
def Twos (K : PySem.W.Frag) (H : Hp) (ps : List (V × PyData)) : Prop := ∀ p ∈ ps, Dp K H p.1 p.2
theorem twos_of {K : PySem.W.Frag} {H : Hp} : ∀ {xs : List V} {ds : List PyData}, DpAll K H xs ds → ∃ ps : List (V × PyData), ps.map (·.1) = xs ∧ ps.map (·.2) = ds ∧ Twos K H ps
  | _, _, .nil => ⟨[], rfl, rfl, fun p h => by cases h⟩
  | _, _, .cons (v := v) (d := d) h t => by
    obtain ⟨ps, h1, h2, h3⟩ := twos_of t
    refine ⟨(v, d) :: ps, by rw [List.map_cons, h1], by rw [List.map_cons, h2], fun p hp => ?_⟩
    rcases List.mem_cons.mp hp with e | hp
    · rw [e]; exact h
    · exact h3 p hp
theorem Twos.all {K : PySem.W.Frag} {H : Hp} : ∀ {ps : List (V × PyData)}, Twos K H ps → DpAll K H (ps.map (·.1)) (ps.map (·.2))
  | [], _ => .nil
  | p :: ps, h => .cons (h p List.mem_cons_self) (Twos.all fun q hq => h q (List.mem_cons_of_mem _ hq))
theorem each_vals : ∀ {ps : List (V × PyData)} {us : List Value}, Vals (ps.map (·.1)) us → EachIs (fun u (p : V × PyData) => RelV p.1 u) us ps
  | [], _, .nil => .nil
  | p :: ps, _, .cons r t => .cons r (each_vals t)
theorem vals_each : ∀ {ps : List (V × PyData)} {us : List Value}, EachIs (fun u (p : V × PyData) => RelV p.1 u) us ps → Vals (ps.map (·.1)) us
  | _, _, .nil => .nil
  | _, _, .cons r t => .cons r (vals_each t)
theorem each_snd {R : Value → PyData → Prop} : ∀ {us : List Value} {ps : List (V × PyData)}, EachIs (fun u (p : V × PyData) => R u p.2) us ps → EachIs R us (ps.map (·.2))
  | _, _, .nil => .nil
  | _, _, .cons r t => .cons r (each_snd t)
/-- what sorting gives -/
structure SortedD (ps qs : List (V × PyData)) : Prop where
  perm : qs.Perm ps
  asc : qs.Pairwise fun p q => dataLt q.2 p.2 = false
theorem sortedD_of (ps : List (V × PyData)) : SortedD ps (ps.mergeSort leD) where
  perm := List.mergeSort_perm _ _
  asc := by
    have := PySem.W.sort_pairwise (PySem.W.sortLe_total (PyProof.Rows.listOrd PyProof.Rows.itemOrd) false fun p : V × PyData => keyToks p.2) ps
    refine List.Pairwise.imp (fun {p q} h => ?_) this
    have h' : (!dataLt q.2 p.2) = true := h
    cases e : dataLt q.2 p.2 with
    | false => rfl
    | true => rw [e] at h'; cases h'
section
variable {X : Cx} {pins : List (Addr × Obj)} {σ : L2.St} {H : Hp} {s : Shared}
theorem reads_each (I : Inv X pins σ H s) : ∀ {ps : List (V × PyData)} {us : List Value}, Twos X.K H ps → Vals (ps.map (·.1)) us → EachIs (fun u (p : V × PyData) => ∃ as, Reads s.heap u p.2 as) us ps
  | [], _, _, .nil => .nil
  | p :: ps, _, h, .cons r t => .cons (Dp.reads I p.2 p.1 _ (h p List.mem_cons_self) r) (reads_each I (fun q hq => h q (List.mem_cons_of_mem _ hq)) t)
/-- the sorted values, told -/
theorem sorted_each {h : Heap} {ps : List (V × PyData)} {us : List Value} (hal : AllAlike (ps.map (·.2))) (r : Vals (ps.map (·.1)) us) (e : EachIs (fun u (p : V × PyData) => ∃ as, Reads h u p.2 as) us ps) : EachIs (fun u (p : V × PyData) => RelV p.1 u) (sortVals (dataKind h (ps.map (·.2))) false us us) (ps.mergeSort leD) := by
  refine PySem.W.sortVals_each (κ := dataKind h (ps.map (·.2))) (fun p : V × PyData => keyToks p.2) (each_vals r) ?_
  have key : ∀ {qs : List (V × PyData)} {us : List Value}, (∀ q ∈ qs, q ∈ ps) → EachIs (fun u (p : V × PyData) => ∃ as, Reads h u p.2 as) us qs → EachIs (fun v (b : V × PyData) => (dataKind h (ps.map (·.2))).keyOf v = some (keyToks b.2)) us qs := by
    intro qs us hq e
    induction e with
    | nil => exact .nil
    | @cons u p us qs h1 _ ih =>
      obtain ⟨as, h1⟩ := h1
      exact .cons (PySem.W.dataKind_some hal (List.mem_map.mpr ⟨p, hq p List.mem_cons_self, rfl⟩) h1) (ih fun q m => hq q (List.mem_cons_of_mem _ m))
  exact key (fun q m => m) e
theorem sorts_at {P : Program} {w : World} {A : Around} {s0 s1 : Shared} {ps : List (V × PyData)} {us : List Value} (e : EachIs (fun u (p : V × PyData) => ∃ as, Reads s0.heap u p.2 as) us ps) (kp : ∀ b o, s0.heap.get? b = some o → s1.heap.get? b = some o) (hal : AllAlike (ps.map (·.2))) (hk : Sortable (ps.map (·.2))) (hu : ∀ d, d ∈ ps.map (·.2) → A.units + d.depth < cLine) :
    SortsAt P w A s1 (dataKind s1.heap (ps.map (·.2))) us := by
  refine SortsAt.data (each_snd (R := fun u d => ∃ as, Reads s1.heap u d as) ?_) hal hk hu
  exact EachIs.mono (fun u p ⟨as, r⟩ => ⟨as, PyProof.Rows.Reads.keeps kp r⟩) e
/-- sorted(xs), xs a list -/
def rSortedD (K : PySem.W.Frag) : List V → Hp → VK → Prop := fun vs H Q => ∃ (a : Addr) (ps : List (V × PyData)), vs = [V.ref a] ∧ SqL K H a (ps.map (·.1)) ∧ Twos K H ps ∧ AllAlike (ps.map (·.2)) ∧ Sortable (ps.map (·.2)) ∧ (∀ p ∈ ps, p.2.depth ≤ 60) ∧
  ∀ qs p, SortedD ps qs → H p = none → Q (.ref p) (upd H p (.lst (qs.map (·.1))))
theorem cr_sortedD (hu : X.A.units + 64 < cLine) : CallR X (.builtin "sorted") (rSortedD X.K) := by
  intro pins s σ H vs us Q I r h
  obtain ⟨a, ps, rfl, hs, hd, hal, hk, hdp, q⟩ := h
  obtain ⟨its, rv, hl, hz⟩ := I.list hs
  obtain ⟨u, rfl, ru⟩ := vals1 r
  obtain rfl : u = Value.ref a := ru
  have e0 := reads_each I hd rv
  have kp1 : ∀ b o, s.heap.get? b = some o → (PySem.W.sortingHeap (PySem.W.copyHeap s.heap its) (s.heap.objs.size + 1) its).get? b = some o := fun b o e => PySem.W.sorting_copy_old e
  have S := sorts_at (P := X.prog) (w := X.w) (A := X.A.in1.in1) (s0 := s) (s1 := { s with heap := PySem.W.sortingHeap (PySem.W.copyHeap s.heap its) (s.heap.objs.size + 1) its }) e0 kp1 hal hk fun d m => by
    obtain ⟨p, hp, rfl⟩ := List.mem_map.mp m
    have := hdp p hp
    show X.A.units + 1 + 1 + p.2.depth < cLine
    omega
  refine PySem.W.sorted_vals hl.isList S (by rw [← rv.length]; exact hz) ?_
  have e1 : EachIs (fun u (p : V × PyData) => ∃ as, Reads (PySem.W.sortingHeap (PySem.W.copyHeap s.heap its) (s.heap.objs.size + 1) its) u p.2 as) its ps := EachIs.mono (fun u p ⟨as, r⟩ => ⟨as, PyProof.Rows.Reads.keeps kp1 r⟩) e0
  have out := vals_each (sorted_each hal rv e1)
  have hperm := (sortedD_of ps).perm
  obtain ⟨ep, he'⟩ := sortedAll_at s.heap its (sortVals (dataKind (PySem.W.sortingHeap (PySem.W.copyHeap s.heap its) (s.heap.objs.size + 1) its) (ps.map (·.2))) false its its).toArray
  refine ⟨.ref _, upd H (s.heap.objs.size + 1) (.lst ((ps.mergeSort leD).map (·.1))), I.laid (t' := s.toks) (fun _ _ => sortedAll_old) (Nat.le_succ _) ⟨?_, _, ep, out, he'⟩, rfl, q _ _ (sortedD_of ps) (I.hok.fresh (Nat.le_succ _))⟩
  rw [List.length_map, hperm.length_eq, ← List.length_map (f := (·.1))]
  exact hz
/-! ### a set, its values -/
structure SetV0 (w : World) (h : Heap) (a : Addr) (vs : List V) : Prop where
  ex : ∃ (es : Array (Int × Value)) (ep : Nat) (t : SetTable), (∃ o, h.get? a = some o ∧ o.ExactSet ∧ o.data = .set es ep t) ∧ t.fits es.size = true ∧ Ris t.place.toList ∧ (w.params.followText "set-order" = true ∨ t.led = true) ∧ es.size < 2000 ∧ Vals vs (es.toList.map (·.2))
def SetV (w : World) (a : Addr) (vs : List V) : HO := .ext fun h => SetV0 w h a vs
theorem setV_new {P : Program} {w : World} {H : Hp} {h : Heap} {a : Addr} {vs : List V} (R : SetV0 w h a vs) : ObjOk P w H h a (SetV w a vs) := by
  have ⟨es, ep, t, ⟨o, ho, r⟩, q⟩ := R.ex
  refine ⟨R, ⟨o, ho⟩, fun h1 h2 p k => ?_⟩
  have ⟨es', ep', t', ⟨o', ho', r'⟩, q'⟩ := SetV0.ex p
  exact ⟨es', ep', t', ⟨o', k o' ho', r'⟩, q'⟩
end
theorem each_perm {α β : Type} {R : α → β → Prop} : ∀ {us us' : List α}, us'.Perm us → ∀ {bs : List β}, EachIs R us bs → ∃ bs', EachIs R us' bs' ∧ bs'.Perm bs := by
  intro us us' p
  induction p with
  | nil => intro bs h; exact ⟨bs, h, .refl _⟩
  | cons x _ ih =>
    intro bs h
    cases h with
    | cons r t =>
      obtain ⟨bs', e, pm⟩ := ih t
      exact ⟨_ :: bs', .cons r e, pm.cons _⟩
  | swap x y l =>
    intro bs h
    cases h with
    | cons r t =>
      cases t with
      | cons r2 t2 => exact ⟨_, .cons r2 (.cons r t2), .swap _ _ _⟩
  | trans _ _ ih1 ih2 =>
    intro bs h
    obtain ⟨b2, e2, p2⟩ := ih2 h
    obtain ⟨b1, e1, p1⟩ := ih1 e2
    exact ⟨b1, e1, p1.trans p2⟩
section
variable {X : Cx}
/-- sorted(xs), xs a set -/
def rSortedS (K : PySem.W.Frag) (w : World) : List V → Hp → VK → Prop := fun vs H Q => ∃ (a : Addr) (ps : List (V × PyData)), vs = [V.ref a] ∧ H a = some (SetV w a (ps.map (·.1))) ∧ Twos K H ps ∧ AllAlike (ps.map (·.2)) ∧ Sortable (ps.map (·.2)) ∧ (∀ p ∈ ps, p.2.depth ≤ 60) ∧
  ∀ qs p, SortedD ps qs → H p = none → Q (.ref p) (upd H p (.lst (qs.map (·.1))))
theorem cr_sortedS (hc : X.calm = true) (hu : X.A.units + 64 < cLine) : CallR X (.builtin "sorted") (rSortedS X.K X.w) := by
  intro pins s σ H vs us Q I r h
  obtain ⟨a, ps, rfl, ha, hd, hal, hk, hdp, q⟩ := h
  have R : SetV0 X.w s.heap a (ps.map (·.1)) := (I.hok a _ ha).1
  obtain ⟨es, ep, t, ⟨o, ho, hex, hdt⟩, hf, hr, hl, hsz, rv⟩ := R.ex
  obtain ⟨u, rfl, ru⟩ := vals1 r
  obtain rfl : u = Value.ref a := ru
  have e0 := reads_each I hd rv
  refine Calls.call_function_entry kind_sorted plain_sorted entry_sorted (args_sorted1 _) ?_
  unfold Builtin.«sorted»
  refine wpAny_bind (m := checkCount "sorted" 1 1 _) (wpAny_pure ?_)
  refine wpAny_bind (collect_set (A := X.A.in1) (I.ok.hd hc) ⟨o, ho, hex.1, hdt⟩ hf (by unfold scanBound; omega) hr hl fun s1 vs k1 hz g1 o1 pm => ?_)
  obtain ⟨ps1, e1, pm1⟩ := each_perm pm (R := fun u (p : V × PyData) => RelV p.1 u ∧ ∃ as, Reads s.heap u p.2 as) (bs := ps) (by
    have := each_vals rv
    have key : ∀ {us : List Value} {ps : List (V × PyData)}, EachIs (fun u (p : V × PyData) => RelV p.1 u) us ps → EachIs (fun u (p : V × PyData) => ∃ as, Reads s.heap u p.2 as) us ps → EachIs (fun u (p : V × PyData) => RelV p.1 u ∧ ∃ as, Reads s.heap u p.2 as) us ps := by
      intro us ps h1 h2
      induction h1 with
      | nil => exact .nil
      | cons a _ ih =>
        cases h2 with
        | cons b t => exact .cons ⟨a, b⟩ (ih t)
    exact key this e0)
  have hvl : vs.length < 2000 := by
    rw [pm.length_eq, List.length_map, Array.length_toList]
    exact hsz
  have hvz : vs.length ≤ sizeLine := by rw [sizeLine_eq]; omega
  refine wpAny_bind (wpAny_newList ?_ hvz)
  have hoL : (s1.heap.push (seqObj "list" vs.toArray 0)).get? s1.heap.objs.size = some (seqObj "list" vs.toArray 0) := Heap.get?_push_size _ rfl
  have kp1 : ∀ b o, s.heap.get? b = some o → (PySem.W.sortingHeap (s1.heap.push (seqObj "list" vs.toArray 0)) s1.heap.objs.size vs).get? b = some o := fun b o e => by
    have e2 := k1 b o e
    exact PySem.W.sortingHeap_old (Nat.ne_of_lt (Heap.lt_size e2)) (Heap.get?_push_of_some _ e2)
  have hal1 : AllAlike (ps1.map (·.2)) := fun d hd d' hd' => hal d ((pm1.map (·.2)).mem_iff.mp hd) d' ((pm1.map (·.2)).mem_iff.mp hd')
  have hk1 : Sortable (ps1.map (·.2)) := by
    rcases hk with k | k
    · exact .inl fun d m => k d ((pm1.map (·.2)).mem_iff.mp m)
    · exact .inr fun d m => k d ((pm1.map (·.2)).mem_iff.mp m)
  have er : EachIs (fun u (p : V × PyData) => ∃ as, Reads s.heap u p.2 as) vs ps1 := EachIs.mono (fun u p h => h.2) e1
  have S := sorts_at (P := X.prog) (w := X.w) (A := X.A.in1.in1) (s0 := s) (s1 := { s1 with heap := PySem.W.sortingHeap (s1.heap.push (seqObj "list" vs.toArray 0)) s1.heap.objs.size vs }) er kp1 hal1 hk1 fun d m => by
    obtain ⟨p, hp, rfl⟩ := List.mem_map.mp m
    have := hdp p (pm1.mem_iff.mp hp)
    show X.A.units + 1 + 1 + p.2.depth < cLine
    omega
  refine wpAny_bind (wpAny_holding (wpAny_call_entry slot_list_sort ⟨_, hoL, rfl⟩ entry_list_sort (PySem.W.list_sort_vals (s := { s1 with heap := s1.heap.push (seqObj "list" vs.toArray 0) }) hoL S hvz ⟨_, rfl, ?_⟩) (args_list_sort _)))
  have rv1 : Vals (ps1.map (·.1)) vs := vals_each (EachIs.mono (fun u p h => h.1) e1)
  have out := vals_each (sorted_each hal1 rv1 (EachIs.mono (fun u p ⟨as, r⟩ => ⟨as, PyProof.Rows.Reads.keeps kp1 r⟩) er))
  have sd := sortedD_of ps1
  obtain ⟨c, hc'⟩ := sortedHeap_at (vs := vs) (out := (sortVals (dataKind (PySem.W.sortingHeap (s1.heap.push (seqObj "list" vs.toArray 0)) s1.heap.objs.size vs) (ps1.map (·.2))) false vs vs).toArray) hoL
  have hn : H s1.heap.objs.size = none := I.hok.fresh hz
  have keep : ∀ b u, s.heap.get? b = some u → (sortedHeap (s1.heap.push (seqObj "list" vs.toArray 0)) s1.heap.objs.size vs (sortVals (dataKind (PySem.W.sortingHeap (s1.heap.push (seqObj "list" vs.toArray 0)) s1.heap.objs.size vs) (ps1.map (·.2))) false vs vs).toArray).get? b = some u := fun b u e => by
    have q := k1 b u e
    have hlt := Heap.lt_size q
    rw [sortedHeap_old (Nat.ne_of_lt hlt) (by rw [size_push']; exact Nat.lt_succ_of_lt hlt)]
    exact Heap.get?_push_of_some _ q
  have hlen : ((ps1.mergeSort leD).map (·.1)).length ≤ sizeLine := by
    rw [List.length_map, sd.perm.length_eq, ← List.length_map (f := (·.1)), rv1.length]
    exact hvz
  have J : Inv X pins σ (upd H s1.heap.objs.size (.lst ((ps1.mergeSort leD).map (·.1)))) { s with heap := _, gens := s1.gens, drawn := s1.drawn, toks := s1.toks } :=
    I.call (ch := []) (Un.laid keep hz hn) (I.hok.laid keep hz ⟨hlen, _, c, out, hc'⟩) (by rw [g1]; exact I.bare) (fun _ z => nomatch z)
  have e2 : ∀ hh : Heap, ({ heap := hh, gens := s1.gens, drawn := s1.drawn, toks := s1.toks, os := s1.os } : Shared) = { s with heap := hh, gens := s1.gens, drawn := s1.drawn, toks := s1.toks } := fun hh => by rw [o1]
  refine wpAny_pure ⟨_, rfl, ?_⟩
  show EP X pins σ Q _ ({ heap := _, gens := s1.gens, drawn := s1.drawn, toks := s1.toks, os := s1.os } : Shared)
  rw [e2]
  exact ⟨.ref s1.heap.objs.size, _, J, rfl, q _ _ ⟨sd.perm.trans pm1, sd.asc⟩ hn⟩
end
end My

set_option Elab.async false
set_option maxRecDepth 100000
set_option maxHeartbeats 4000000
set_option linter.all false
/-! Rules that the clauses' laws share. -/
namespace My
open PySem L2
theorem ints_all {K : PySem.W.Frag} {H : Hp} : ∀ c : List Int, DpAll K H (c.map V.int) (c.map PyData.int)
  | [] => .nil
  | x :: c => .cons (.int x) (ints_all c)
theorem inV_ints {x : Int} : ∀ {ms : List Int}, inV (.int x) (ms.map V.int) = decide (x ∈ ms)
  | [] => by simp [inV]
  | y :: ys => by
    have ih := inV_ints (x := x) (ms := ys)
    unfold inV at ih ⊢
    rw [List.map_cons, List.any_cons, ih]
    show (y == x || decide (x ∈ ys)) = decide (x ∈ y :: ys)
    by_cases h : y = x
    · subst h
      simp
    · have h' : ¬ x = y := fun e => h e.symm
      simp [h, h']
theorem flat_ints : ∀ ms : List Int, (ms.map V.int).all flatV = true
  | [] => rfl
  | x :: ms => by rw [List.map_cons, List.all_cons, flat_ints ms] <;> rfl
/-! rules within a comprehension: the fragment named from outside -/
section
variable {X : Cx} {K : PySem.W.Frag}
theorem ix_seqK (h : X.K = K) : IxR X (rIx K) := h ▸ ix_seq
theorem ix_listK (h : X.K = K) : IxR X (rIxL K) := h ▸ ix_list
theorem ix_tupK (h : X.K = K) : IxR X (rIxT K) := h ▸ ix_tup
theorem call_len_seqK (h : X.K = K) : CallR X (.builtin "len") (fun xs H Q => ∃ p ys, xs = [.ref p] ∧ (SqL K H p ys ∨ SqT K H p ys) ∧ Q (.int ys.length) H) := h ▸ call_len_seq
theorem op_in_seqK (h : X.K = K) : OpR X (compareOp .In) (rIn K false) := h ▸ op_in_seq
theorem op_notIn_seqK (h : X.K = K) : OpR X (compareOp .NotIn) (rIn K true) := h ▸ op_notIn_seq
theorem op_neDK (h : X.K = K) (hu : X.A.units + 64 < cLine) : OpR X (compareOp .NotEq) (rNeD K) := h ▸ op_neD hu
theorem op_eqDK (h : X.K = K) (hu : X.A.units + 64 < cLine) : OpR X (compareOp .Eq) (rEqD K) := h ▸ op_eqD hu
end
section
variable {X : Cx} {tg : Expr}
/-- over a list or a tuple -/
def iSeq (K : PySem.W.Frag) (tl : TE) : TI := fun σ H R => tl σ H fun x H1 => ∃ a, x = .ref a ∧ (((∃ xs, SqL K H1 a xs) ∧ R (Itl K a) H1) ∨ ((∃ xs, SqT K H1 a xs) ∧ R (Itt K a) H1))
theorem pi_seq {l : Expr} {tl : TE} (hl : PE X l tl) : PI X tg l (iSeq X.K tl) := by
  refine ⟨fun pins s σ H R I h => ?_⟩
  refine thn (hl.run pins s σ H _ I h) fun v s1 ⟨x, H1, I1, r1, q1⟩ => ?_
  have none' : ∀ b ∈ [s1.heap.objs.size], FpOk X pins H1 b := fun b hb => by
    have e : b = s1.heap.objs.size := by simpa using hb
    rw [e]
    exact I1.fpOk (Nat.le_refl _) (I1.hok.fresh (Nat.le_refl _))
  obtain ⟨a, rfl, ⟨⟨xs, hq⟩, q⟩ | ⟨⟨xs, hq⟩, q⟩⟩ := q1
  · obtain ⟨its, _, p, _⟩ := I1.list hq
    obtain rfl : v = Value.ref a := r1
    exact wpAny_pyIter_list p.isList ⟨_, _, _, _, H1, rfl, I1.kept (t' := s1.toks) fun b o e => Heap.get?_push_of_some _ e, turn_list a _, ⟨_, Heap.get?_push_size _ rfl, rfl, rfl⟩, none', q⟩
  · obtain ⟨its, _, p, _⟩ := I1.tuple hq
    obtain rfl : v = Value.ref a := r1
    exact wpAny_pyIter_tuple (show s1.heap.IsTuple a its.toArray from p) ⟨_, _, _, _, H1, rfl, I1.kept (t' := s1.toks) fun b o e => Heap.get?_push_of_some _ e, turn_tuple a _, ⟨_, Heap.get?_push_size _ rfl, rfl, rfl⟩, none', q⟩
end
end My

set_option Elab.async false
set_option maxRecDepth 100000
set_option maxHeartbeats 4000000
set_option linter.all false
/-! Sets of nested tuples (whole numbers, texts, None, tuples of such), fewer than 64: set(xs), sorted(set(xs)). -/
namespace My
open PySem PySem.Spec PyProof.Rows L2
abbrev NK := NestedKey
abbrev hN (w : World) (k : NK) : Int := NestedKey.hash w k
/-- the tuple at a is the key k -/
abbrev IsN (h : Heap) (k : NK) (a : Addr) : Prop := NestedIs h k (.ref a) ∧ k.depth ≤ 8
theorem IsN.keep {h h' : Heap} {k : NK} {a : Addr} (x : IsN h k a) (kp : ∀ b o, h.get? b = some o → h'.get? b = some o) : IsN h' k a := ⟨NestedIs.at (fun b o _ _ e _ => kp b o e) k _ x.1, x.2⟩
theorem IsN.but {h h' : Heap} {k : NK} {a d : Addr} {o : Obj} {es : Array (Int × Value)} {ep : Nat} {t : SetTable} (x : IsN h k a) (ho : h.get? d = some o) (hd : o.data = .set es ep t) (sb : Heap.SameBut d h h') : IsN h' k a :=
  ⟨NestedIs.at (fun b u vs n e c => (sb.2 b fun z => by
    subst z
    rw [ho] at e
    cases e
    rw [hd] at c
    cases c).trans e) k _ x.1, x.2⟩
section
variable {P : Program} {w : World}
/-- a walk that asks each item and goes on -/
theorem ask_each {A : Around} {E : Value → Shared → Prop} {s : Shared} {β : Type} {b0 : β} {body : Value → β → Sem (ForInStep β)} {Q : β → Shared → Prop} :
    ∀ (vs : List Value), (∀ v ∈ vs, ∀ (Q' : ForInStep β → Shared → Prop), Q' (.yield b0) s → (∀ b, Q b s → Q' (.done b) s) → wpAny (model P w) A (body v b0) Q' E s) → Q b0 s → wpAny (model P w) A (forIn vs b0 body) Q E s
  | [], _, h => wpAny_pure h
  | v :: vs, hb, h => by
    rw [List.forIn_cons]
    exact wpAny_bind (hb v List.mem_cons_self _ (ask_each vs (fun u hu => hb u (List.mem_cons_of_mem _ hu)) h) fun b q => wpAny_pure q)
mutual
/-- no class statement made it -/
theorem cls_key : ∀ (k : NK) (v : Value) (n : Nat) (s : Shared), NestedIs s.heap k v → k.depth ≤ n → ∀ (A : Around) (E : Value → Shared → Prop) (Q : Bool → Shared → Prop), Q false s → wpAny (model P w) A (ofAClassStatement n v) Q E s
  | .none, _, n, s, x, _, A, E, Q, h => by cases x; cases n <;> exact wpAny_pure h
  | .num i, _, n, s, x, _, A, E, Q, h => by cases x <;> cases n <;> exact wpAny_pure h
  | .text y, _, n, s, x, _, A, E, Q, h => by cases x; cases n <;> exact wpAny_pure h
  | .tup ks, _, n, s, x, hn, A, E, Q, h => by
    cases x with
    | @tup a o vs m _ ho hc hd hk =>
      simp only [NestedKey.depth] at hn
      cases n with
      | zero => omega
      | succ n =>
        have hT : s.TypeIs (.ref a) "tuple" := ⟨o, ho, hc⟩
        unfold ofAClassStatement
        refine wpAny_bind (wpAny_typeOf hT ?_)
        dsimp only
        have e : (("tuple" : String) == "tuple") = true := by decide
        simp only [e, if_true, Bool.not_true, Bool.false_eq_true, if_false]
        try refine wpAny_bind (wpAny_pure ?_)
        try simp only [Bool.not_true, Bool.false_eq_true, if_false]
        show wpAny _ _ (seqItems? (.ref a) >>= _) _ _ s
        refine wpAny_bind (wpAny_seqItems ho hd ?_)
        dsimp only
        refine wpAny_bind ?_
        show wpAny _ _ (forIn vs _ _) _ _ s
        rw [← Array.forIn_toList]
        have ih := cls_keys ks vs.toList n s hk (by omega)
        refine ask_each vs.toList (fun v hv Q' hQ _ => ?_) ?_
        case refine_2 => exact wpAny_pure h
        refine wpAny_bind (ih v hv _ _ _ ?_)
        simp only [Bool.false_eq_true, if_false]
        exact wpAny_pure hQ
theorem cls_keys : ∀ (ks : List NK) (vs : List Value) (n : Nat) (s : Shared), NestedAll s.heap ks vs → NestedKey.depthAll ks ≤ n → ∀ v ∈ vs, ∀ (A : Around) (E : Value → Shared → Prop) (Q : Bool → Shared → Prop), Q false s → wpAny (model P w) A (ofAClassStatement n v) Q E s
  | [], _, n, s, x, _, v, hv, _, _, _, _ => by cases x; cases hv
  | k :: ks, _, n, s, x, hn, v, hv, A, E, Q, h => by
    cases x with
    | cons x1 x2 =>
      simp only [NestedKey.depthAll] at hn
      rcases List.mem_cons.mp hv with e | hv
      · rw [e]; exact cls_key k _ n s x1 (by omega) A E Q h
      · exact cls_keys ks _ n s x2 (by omega) v hv A E Q h
end
mutual
/-- whether its hash is its value's: one of both answers -/
theorem val_key : ∀ (k : NK) (v : Value) (n : Nat) (s : Shared), NestedIs s.heap k v → ∀ (A : Around) (E : Value → Shared → Prop) (Q : Bool → Shared → Prop), (∀ b, Q b s) → wpAny (model P w) A (hashByValue n v) Q E s
  | .none, _, n, s, x, A, E, Q, h => by cases x; cases n <;> exact wpAny_pure (h _)
  | .num i, _, n, s, x, A, E, Q, h => by cases x <;> cases n <;> exact wpAny_pure (h _)
  | .text y, _, n, s, x, A, E, Q, h => by cases x; cases n <;> exact wpAny_pure (h _)
  | .tup ks, _, n, s, x, A, E, Q, h => by
    cases x with
    | @tup a o vs m _ ho hc hd hk =>
      cases n with
      | zero => exact wpAny_pure (h _)
      | succ n =>
        have hT : s.TypeIs (.ref a) "tuple" := ⟨o, ho, hc⟩
        unfold hashByValue
        refine wpAny_bind (wpAny_specialOf hT F.slot_tuple_hash.lookup ?_)
        show wpAny _ _ (seqItems? (.ref a) >>= _) _ _ s
        refine wpAny_bind (wpAny_seqItems ho hd ?_)
        refine wpAny_bind ?_
        show wpAny _ _ (forIn vs _ _) _ _ s
        rw [← Array.forIn_toList]
        have ih := val_keys ks vs.toList n s hk
        refine ask_each vs.toList (fun v hv Q' hQ hD => ?_) ?_
        case refine_2 => exact wpAny_pure (h _)
        refine wpAny_bind (ih v hv _ _ _ fun b => ?_)
        cases b with
        | true =>
          simp only [Bool.not_true, Bool.false_eq_true, if_false]
          exact wpAny_pure hQ
        | false =>
          simp only [Bool.not_false, if_true]
          exact wpAny_pure (hD _ (wpAny_pure (h _)))
theorem val_keys : ∀ (ks : List NK) (vs : List Value) (n : Nat) (s : Shared), NestedAll s.heap ks vs → ∀ v ∈ vs, ∀ (A : Around) (E : Value → Shared → Prop) (Q : Bool → Shared → Prop), (∀ b, Q b s) → wpAny (model P w) A (hashByValue n v) Q E s
  | [], _, n, s, x, v, hv, _, _, _, _ => by cases x; cases hv
  | k :: ks, _, n, s, x, v, hv, A, E, Q, h => by
    cases x with
    | cons x1 x2 =>
      rcases List.mem_cons.mp hv with e | hv
      · rw [e]; exact val_key k _ n s x1 A E Q h
      · exact val_keys ks _ n s x2 v hv A E Q h
end
variable {A : Around} {E : Value → Shared → Prop} {s : Shared}
/-- a search among such tuples shows nothing -/
theorem seenN {k : NK} {b : Addr} {Q : Bool → Shared → Prop} (hk : IsN s.heap k b) {ys : List Value} (hy : ∀ y ∈ ys, ∃ k' c, y = Value.ref c ∧ IsN s.heap k' c) (h : Q false s) : wpAny (model P w) A (searchCouldBeSeen (.ref b) ys) Q E s := by
  unfold searchCouldBeSeen
  refine wpAny_bind (ask_each ys (fun v hv Q' hQ _ => ?_) ?_)
  case refine_2 => exact wpAny_pure h
  obtain ⟨k', c, rfl, hc⟩ := hy v hv
  dsimp only
  by_cases hv : (b == c || (carriedByValue (.ref b) && carriedByValue (.ref c))) = true
  · exact wp_if_pos hv (wpAny_pure hQ)
  · refine wp_if_neg hv ?_
    refine wpAny_bind (quiet_key k _ 8 s hk.1 hk.2 A E _ ?_)
    simp only [Bool.not_true, Bool.false_eq_true, if_false]
    refine wpAny_bind (quiet_key k' _ 8 s hc.1 hc.2 A E _ ?_)
    simp only [Bool.not_true, Bool.false_eq_true, if_false]
    refine wpAny_bind (cls_key k _ 8 s hk.1 hk.2 A E _ ?_)
    simp only [Bool.false_eq_true, if_false]
    refine wpAny_bind (cls_key k' _ 8 s hc.1 hc.2 A E _ ?_)
    simp only [Bool.false_eq_true, if_false]
    exact wpAny_pure hQ
end
end My

set_option Elab.async false
set_option maxRecDepth 100000
set_option maxHeartbeats 4000000
set_option linter.all false
namespace My
open PySem PySem.Spec PyProof.Rows L2
abbrev rowN (w : World) (p : Addr × NK) : Int × Value := (hN w p.2, Value.ref p.1)
structure SetN (w : World) (h : Heap) (a : Addr) (L : List (Addr × NK)) (es : Array (Int × Value)) (ep : Nat) (t : SetTable) : Prop where
  ob : ∃ o, h.get? a = some o ∧ o.ExactSet ∧ o.data = .set es ep t
  rows : es.toList = L.map (rowN w)
  tab : TabOk t (L.map fun p => hN w p.2)
  nd : (L.map (·.2)).Nodup
  is_ : ∀ p ∈ L, IsN h p.2 p.1
  led : w.params.followText "set-order" = true ∨ t.led = true
  room : L.length * 5 < t.mask * 3
  few : L.length < 64
section
variable {P : Program} {w : World} {A : Around} {E : Value → Shared → Prop} {s : Shared} {a : Addr} {L : List (Addr × NK)} {es : Array (Int × Value)} {ep : Nat} {t : SetTable}
theorem rows_size (h : es.toList = L.map (rowN w)) : es.size = L.length := by
  have := congrArg List.length h
  rwa [Array.length_toList, List.length_map] at this
theorem rows_at (h : es.toList = L.map (rowN w)) {i : Nat} {p : Addr × NK} (e : L[i]? = some p) : es[i]? = some (rowN w p) := by
  rw [← Array.getElem?_toList, h, List.getElem?_map, e] <;> rfl
theorem fits_of (h1 : t.place.size = es.size) (h2 : t.dummies = #[]) (h3 : es.size ≤ t.mask) : t.fits es.size = true := by
  unfold SetTable.fits SetTable.fill
  rw [h2, Bool.and_eq_true, beq_iff_eq, decide_eq_true_eq]
  exact ⟨h1, by show t.place.size + 0 ≤ t.mask; omega⟩
theorem SetN.psz (R : SetN w s.heap a L es ep t) : t.place.size = L.length := by
  have := R.tab.sz
  rwa [List.length_map] at this
theorem SetN.fits (R : SetN w s.heap a L es ep t) : t.fits es.size = true := by
  have h1 := R.psz
  have h2 := rows_size R.rows
  have h3 := R.room
  exact fits_of (by omega) R.tab.dm (by omega)
theorem gave_not {t : SetTable} {hs : List Int} (T : TabOk t hs) : ¬ t.gaveWay = true := by
  unfold SetTable.gaveWay
  rw [mask_odd T.mok]
  decide
theorem nth_dummy (m : Nat) : ∀ (n : Nat) (p : SetTable.Probe), p.dummy = none → (nth m p n).dummy = none
  | 0, _, h => h
  | n + 1, p, h => nth_dummy m n (adv m p) (by unfold adv; split <;> exact h)
abbrev wayS (m : Nat) (g : Int) : SetTable.Probe := runAt m (SetTable.bits g % (m + 1)) (SetTable.bits g)
/-- the search, from the c-th step of its way on -/
theorem searchN (R : SetN w s.heap a L es ep t) {x : Addr} {k : NK} (hx : IsN s.heap k x) (hu : A.units + 8 < cLine) {g : Int} (hg : g = hN w k) {K : Nat} (hKf : K < 10 * SetTable.turns t.mask)
    (hK : way t.mask g K ∉ t.place.toList) (hKb : ∀ c, c < K → way t.mask g c ∈ t.place.toList) {Q : SetFound → Shared → Prop} (hin : k ∈ L.map (·.2) → Q (.there none) s) (hout : k ∉ L.map (·.2) → Q (.free (way t.mask g K) false) s) :
    ∀ (f c : Nat) (stand : Option SetTable.Probe), stand.getD (t.probeStart g) = nth t.mask (wayS t.mask g) c → c ≤ K → K - c < f → (∀ (i : Nat) p, L[i]? = some p → p.2 = k → ∃ c', c ≤ c' ∧ c' < K ∧ t.place.toList[i]? = some (way t.mask g c')) →
      wpAny (model P w) A (setSearchFrom a (.ref x) g true f stand) Q E s
  | 0, _, _, _, _, hf, _ => absurd hf (Nat.not_lt_zero _)
  | f + 1, c, stand, hst, hc, hf, hre => by
    obtain ⟨o, ho, hex, hd⟩ := R.ob
    rw [setSearchFrom_succ]
    refine wpAny_bind (wpAny_setState_of ho hd R.fits ?_)
    dsimp only
    refine wp_if_neg (gave_not R.tab) ?_
    try refine wpAny_bind (wpAny_pure ?_)
    have step : ∀ q, (nth t.mask (nth t.mask (wayS t.mask g) c) q).j = way t.mask g (c + q) := fun q => congrArg SetTable.Probe.j (nth_add t.mask c _ q).symm
    have hs : ∀ (i : Nat) p, L[i]? = some p → (es[i]?.map (fun e : Int × Value => e.1)).getD 0 = hN w p.2 := fun i p e => by rw [rows_at R.rows e] <;> rfl
    -- where a row with the key stands, it is not passed
    have late : ∀ (q : Nat), (∀ k' i', k' < q → t.place.toList[i']? = some (nth t.mask (nth t.mask (wayS t.mask g) c) k').j → (es[i']?.map (fun e : Int × Value => e.1)).getD 0 ≠ g) → ∀ (i : Nat) p, L[i]? = some p → p.2 = k → ∃ c', c + q ≤ c' ∧ c' < K ∧ t.place.toList[i]? = some (way t.mask g c') := fun q no i p e1 e2 => by
      obtain ⟨c', a1, a2, a3⟩ := hre i p e1 e2
      refine ⟨c', ?_, a2, a3⟩
      rcases Nat.lt_or_ge c' (c + q) with z | z
      · refine absurd (show (es[i]?.map (fun e : Int × Value => e.1)).getD 0 = g by rw [hs i p e1, e2, hg]) (no (c' - c) i (by omega) ?_)
        rw [step, show c + (c' - c) = c' by omega]
        exact a3
      · exact z
    rcases go_spec t R.tab.ris R.tab.dm (fun i => (es[i]?.map (fun e : Int × Value => e.1)).getD 0) g (10 * SetTable.turns t.mask) (K - c) (nth t.mask (wayS t.mask g) c) (nth_dummy _ _ _ rfl) (by omega) (fun q hq => by rw [step]; exact hKb _ (by omega)) (by rw [step, show c + (K - c) = K by omega]; exact hK) with ⟨q, i, hq, hi, hh, hno, hpr⟩ | ⟨hno, hpr⟩
    · rw [← nth_add t.mask c (wayS t.mask g) (q + 1)] at hpr
      rw [step] at hi hpr
      have hpr' : t.probe (fun i => (es[i]?.map (fun e : Int × Value => e.1)).getD 0) g (stand.getD (t.probeStart g)) = some (.candidate (way t.mask g (c + q)) i (nth t.mask (wayS t.mask g) (c + (q + 1)))) := by rw [hst]; exact hpr
      rw [hpr']
      dsimp only
      have hil : i < L.length := by
        have := (List.getElem?_eq_some_iff.mp hi).1
        rw [Array.length_toList, R.psz] at this
        exact this
      obtain ⟨p, hp⟩ : ∃ p, L[i]? = some p := ⟨_, List.getElem?_eq_getElem hil⟩
      have hm := List.mem_of_getElem? hp
      have rest : wpAny (model P w) A (searchRest a (.ref x) g true f es t (way t.mask g (c + q)) i (nth t.mask (wayS t.mask g) (c + (q + 1)))) Q E s := by
        unfold searchRest
        rw [rows_at R.rows hp]
        dsimp only
        refine wpAny_bind (wpAny_holding ((nestedKind P w).eqBool hu (R.is_ p hm) hx ?_))
        refine wpAny_bind (wpAny_setState_of ho hd R.fits ?_)
        dsimp only
        by_cases hkk : p.2 = k
        · exact wp_if_pos (by simp [hkk]) (wpAny_pure (hin (List.mem_map.mpr ⟨p, hm, hkk⟩)))
        · refine wp_if_neg (by simp [hkk]) ?_
          try refine wpAny_bind (wpAny_pure ?_)
          rw [sameMem]
          dsimp only
          have hsl : t.slot (way t.mask g (c + q)) = .live i := slot_live R.tab.ris hi
          simp only [if_true, hsl, rows_at R.rows hp]
          refine wpAny_bind (wpAny_isSame_ref_self (wpAny_bind (wpAny_pure ?_)))
          simp only [if_true]
          refine wp_if_neg (by simp [hkk]) ?_
          refine searchN R hx hu hg hKf hK hKb hin hout f (c + (q + 1)) _ rfl (by omega) (by omega) fun i0 p0 h0 hk0 => ?_
          obtain ⟨c', a1, a2, a3⟩ := late q (fun k' i' lt e => hno k' i' lt e) i0 p0 h0 hk0
          refine ⟨c', ?_, a2, a3⟩
          rcases Nat.lt_or_ge (c + q) c' with z | z
          · omega
          · have ec : c' = c + q := Nat.le_antisymm z a1
            rw [ec] at a3
            have s0 := slot_live R.tab.ris a3
            rw [hsl] at s0
            injection s0 with s0
            rw [← s0, hp] at h0
            exact absurd (by rw [Option.some.inj h0]; exact hk0) hkk
      by_cases hl : t.led = true
      · refine wp_if_neg (by simp [hl]) ?_
        try refine wpAny_bind (wpAny_pure ?_)
        exact rest
      · refine wp_if_pos (by simp [hl]) ?_
        refine wpAny_bind (seenN hx (fun y hy => ?_) ?_)
        · obtain ⟨e, he, ee⟩ := List.mem_map.mp hy
          have he1 : e ∈ es ∧ e.1 = g := by simpa using he
          have he2 : e ∈ es.toList := by simpa using he1.1
          rw [R.rows] at he2
          obtain ⟨p2, hp2, e2⟩ := List.mem_map.mp he2
          exact ⟨p2.2, p2.1, by rw [← ee, ← e2], R.is_ p2 hp2⟩
        · refine wp_if_neg (by decide) ?_
          try refine wpAny_bind (wpAny_pure ?_)
          exact rest
    · rw [step, show c + (K - c) = K by omega] at hpr
      have hpr' : t.probe (fun i => (es[i]?.map (fun e : Int × Value => e.1)).getD 0) g (stand.getD (t.probeStart g)) = some (.empty (way t.mask g K) none) := by rw [hst]; exact hpr
      rw [hpr']
      dsimp only
      refine wpAny_pure (hout fun hm => ?_)
      obtain ⟨p0, h0, hk0⟩ := List.mem_map.mp hm
      obtain ⟨i0, e0⟩ := List.getElem?_of_mem h0
      obtain ⟨c', a1, a2, a3⟩ := late (K - c) hno i0 p0 e0 hk0
      omega
theorem searchN_all (R : SetN w s.heap a L es ep t) {x : Addr} {k : NK} (hx : IsN s.heap k x) (hu : A.units + 8 < cLine) {Q : SetFound → Shared → Prop} (hin : k ∈ L.map (·.2) → Q (.there none) s)
    (hout : ∀ K, k ∉ L.map (·.2) → way t.mask (hN w k) K ∉ t.place.toList → (∀ c, c < K → way t.mask (hN w k) c ∈ t.place.toList) → Q (.free (way t.mask (hN w k) K) false) s) : wpAny (model P w) A (setSearch a (.ref x) (hN w k) true) Q E s := by
  have hroom := R.room
  obtain ⟨K, hKf, hK, hKb⟩ := R.tab.first (by rw [List.length_map]; omega) (hN w k)
  have hbig : K < 100000 := by
    have : 10 * SetTable.turns t.mask ≤ 1420 := by
      unfold SetTable.turns
      rcases R.tab.mok with e | e | e <;> omega
    omega
  unfold setSearch
  refine searchN R hx hu rfl hKf hK hKb hin (fun hn => hout K hn hK hKb) 100000 0 none rfl (Nat.zero_le _) (by omega) fun i p hp hk => ?_
  have hil : i < t.place.toList.length := by
    have := (List.getElem?_eq_some_iff.mp hp).1
    rw [Array.length_toList, R.psz]
    exact this
  have hj := List.getElem?_eq_getElem hil
  obtain ⟨c, hc, e⟩ := R.tab.before hK (show (L.map fun p => hN w p.2)[i]? = some (hN w k) by rw [List.getElem?_map, hp, ← hk] <;> rfl) hj
  exact ⟨c, Nat.zero_le _, hc, by rw [hj, e]⟩
end
end My

set_option Elab.async false
set_option maxRecDepth 100000
set_option maxHeartbeats 4000000
set_option linter.all false
namespace My
open PySem PySem.Spec PyProof.Rows L2
/-! picking rows by their numbers -/
theorem pick_map {α β : Type} (f : α → β) (L : List α) : ∀ l : List Nat, l.filterMap (fun i => (L.map f)[i]?) = (l.filterMap fun i => L[i]?).map f
  | [] => rfl
  | i :: l => by
    rw [List.filterMap_cons, List.filterMap_cons, List.getElem?_map, pick_map f L l]
    cases L[i]? <;> rfl
theorem pick_getD {α : Type} (d : α) (L : List α) : ∀ l : List Nat, (∀ i ∈ l, i < L.length) → l.filterMap (fun i => L[i]?) = l.map fun i => L.getD i d
  | [], _ => rfl
  | i :: l, h => by
    have hi := h i List.mem_cons_self
    rw [List.filterMap_cons_some (List.getElem?_eq_getElem hi), List.map_cons, pick_getD d L l fun j hj => h j (List.mem_cons_of_mem _ hj), List.getD_eq_getElem?_getD, List.getElem?_eq_getElem hi] <;> rfl
theorem pick_all {α : Type} (L : List α) : (List.range L.length).filterMap (fun i => L[i]?) = L := by
  refine List.ext_getElem? fun i => ?_
  induction L generalizing i with
  | nil => rfl
  | cons x L ih =>
    rw [List.length_cons, List.range_succ_eq_map, List.filterMap_cons_some (by rfl : (x :: L)[0]? = some x), List.filterMap_map]
    cases i with
    | zero => rfl
    | succ i => exact ih i
section
variable {P : Program} {w : World} {A : Around} {E : Value → Shared → Prop} {s : Shared} {a : Addr} {L : List (Addr × NK)} {es : Array (Int × Value)} {ep : Nat} {t : SetTable}
theorem order_rowsN {order : Array Nat} (hr : es.toList = L.map (rowN w)) (hp : order.toList.Perm (List.range L.length)) :
    ∃ L2 : List (Addr × NK), (order.filterMap (es[·]?)).toList = L2.map (rowN w) ∧ L2.Perm L ∧ (L2.map fun p => hN w p.2) = order.toList.map fun i => (es.map (·.1)).getD i 0 := by
  refine ⟨order.toList.filterMap fun i => L[i]?, ?_, ?_, ?_⟩
  · rw [Array.toList_filterMap, ← pick_map, ← hr]
    refine congrFun (congrArg _ (funext fun i => ?_)) _
    rw [Array.getElem?_toList]
  · have := hp.filterMap fun i => L[i]?
    rwa [pick_all] at this
  · rw [← pick_map (fun p : Addr × NK => hN w p.2), pick_getD 0 _ _ fun i hi => by rw [List.length_map]; exact List.mem_range.mp (hp.mem_iff.mp hi)]
    refine List.map_congr_left fun i _ => ?_
    have e : (L.map fun p => hN w p.2) = (es.map (·.1)).toList := by
      rw [Array.toList_map, hr, List.map_map] <;> rfl
    rw [e, List.getD_eq_getElem?_getD, Array.getElem?_toList, ← Array.getD_eq_getD_getElem?]
/-- the table laid anew -/
theorem relayN {o : Obj} (ho : s.heap.get? a = some o) (hex : o.ExactSet) (hd : o.data = .set es ep t) (hrows : es.toList = L.map (rowN w)) (hsz : t.place.size = es.size) (hdm : t.dummies = #[]) (hfl : es.size ≤ t.mask)
    (nd : (L.map (·.2)).Nodup) (is_ : ∀ p ∈ L, IsN s.heap p.2 p.1) (ld : w.params.followText "set-order" = true ∨ t.led = true) (few : L.length < 64) {wanted M : Nat}
    (hw : SetTable.sizeAbove wanted - 1 = M) (hM : MaskOk M) (hw2 : SetTable.sizeAbove wanted ≤ 128) (hn : L.length * 5 < M * 3) {Q : Unit → Shared → Prop}
    (hQ : ∀ h' L' es' ep' t', Heap.SameBut a s.heap h' → SetN w h' a L' es' ep' t' → L'.Perm L → Q () { s with heap := h' }) : wpAny (model P w) A (setRelay a wanted) Q E s := by
  have hsl := rows_size hrows
  obtain ⟨t', order, e, hp, T, em, el, epl, ed⟩ := relaid_ok t (hs := es.map (·.1)) (wanted := wanted) hw hM (by rw [Array.size_map, hsl]; omega)
  rw [Array.size_map, hsl] at hp
  obtain ⟨L2, r1, r2, r3⟩ := order_rowsN hrows hp
  rw [← r3] at T
  have hs2 : (order.filterMap (es[·]?)).size = es.size := by rw [rows_size r1, r2.length_eq, hsl]
  rw [setRelay_eq]
  refine wpAny_bind (wpAny_setState_of ho hd (fits_of hsz hdm hfl) ?_)
  dsimp only
  refine wp_if_neg (by rw [sizeLine_eq]; omega) ?_
  try refine wpAny_bind (wpAny_pure ?_)
  rw [e]
  dsimp only
  refine wpAny_bind ?_
  refine wp_if_neg (by rw [hs2]; simp) ?_
  try refine wpAny_bind (wpAny_pure ?_)
  refine wpAny_pure ?_
  dsimp only
  refine wpAny_storeSet_of ho hd ?_ (by rw [hs2, hsl, sizeLine_eq]; omega)
  have sb : Heap.SameBut a s.heap (s.heap.update a (Obj.putSet (order.filterMap (es[·]?)) t')) := Heap.SameBut.update ..
  refine hQ _ L2 _ (ep + 1) t' sb ⟨⟨_, store_at ho hd, ⟨hex.1, hex.2.1, hex.2.2⟩, rfl⟩, r1, T, (r2.map (·.2)).nodup_iff.mpr nd, fun p hpm => (is_ p (r2.mem_iff.mp hpm)).but ho hd sb, by rw [el]; exact ld, by rw [r2.length_eq, em]; exact hn, by rw [r2.length_eq]; exact few⟩ r2
theorem TabOk.unplain {t : SetTable} {hs : List Int} (T : TabOk t hs) : TabOk { t with plain := false } hs := ⟨T.ris, T.dm, T.sz, T.mok, T.bd, T.reach⟩
/-- one more -/
theorem addN (R : SetN w s.heap a L es ep t) {x : Addr} {k : NK} (hx : IsN s.heap k x) (hu : A.units + 8 < cLine) (hfew : L.length + 1 < 64) {Q : Bool → Shared → Prop}
    (hQ : ∀ b h' L' es' ep' t', Heap.SameBut a s.heap h' → SetN w h' a L' es' ep' t' → (k ∈ L.map (·.2) → L' = L) → (k ∉ L.map (·.2) → L'.Perm ((x, k) :: L)) → Q b { s with heap := h' }) :
    wpAny (model P w) A (setAddHashed a (.ref x) (hN w k)) Q E s := by
  obtain ⟨o, ho, hex, hd⟩ := R.ob
  have hsl := rows_size R.rows
  have hroom := R.room
  unfold setAddHashed
  refine wpAny_holding ?_
  rw [show (100000 : Nat) = 99999 + 1 from rfl, setAddHashedIn_succ]
  refine wpAny_bind (wpAny_setState_of ho hd R.fits ?_)
  dsimp only
  refine wp_if_neg (by simp [byScan, Value.scannable]) ?_
  try refine wpAny_bind (wpAny_pure ?_)
  refine wpAny_bind (searchN_all R hx hu (fun hm => ?_) fun K hm hK hb => ?_)
  · dsimp only
    exact wpAny_pure (hQ false s.heap L es ep t (Heap.SameBut.refl a s.heap) R (fun _ => rfl) fun z => absurd hm z)
  · dsimp only
    refine wpAny_bind (wpAny_setState_of ho hd R.fits ?_)
    dsimp only
    obtain ⟨q1, q2, q3, q4, q5, q6, q7, q8, q9⟩ := R.tab.put hK hb
    generalize hpt : t.put (way t.mask (hN w k) K) = pt at q1 q3 q4 q5 q6 q7 q8 q9 ⊢
    obtain ⟨t1, p⟩ := pt
    dsimp only at q1 q3 q4 q5 q6 q7 q8 q9 ⊢
    subst q1
    -- whatever becomes of the mark plain
    have main : ∀ t2 : SetTable, (t2 = t1 ∨ t2 = { t1 with plain := false }) → wpAny (model P w) A (do
        storeSet a (SetTable.insertAt es (SetTable.below t.place (way t.mask (hN w k) K)) (hN w k, Value.ref x)) t2
        if (!false && t2.tooFull) = true then setRelay a (SetTable.grown (es.size + 1))
        return true) Q E s := by
      intro t2 ht2
      have hin : (SetTable.insertAt es (SetTable.below t.place (way t.mask (hN w k) K)) (hN w k, Value.ref x)).toList = (L.take (SetTable.below t.place (way t.mask (hN w k) K)) ++ (x, k) :: L.drop (SetTable.below t.place (way t.mask (hN w k) K))).map (rowN w) := by
        rw [SetTable.toList_insertAt, R.rows, List.map_append, List.map_cons, List.map_take, List.map_drop]
      have hh : (L.take (SetTable.below t.place (way t.mask (hN w k) K)) ++ (x, k) :: L.drop (SetTable.below t.place (way t.mask (hN w k) K))).map (fun p => hN w p.2) = (L.map fun p => hN w p.2).take (SetTable.below t.place (way t.mask (hN w k) K)) ++ hN w k :: (L.map fun p => hN w p.2).drop (SetTable.below t.place (way t.mask (hN w k) K)) := by
        rw [List.map_append, List.map_cons, List.map_take, List.map_drop]
      rw [← hh] at q3
      have pm := put_perm L (SetTable.below t.place (way t.mask (hN w k) K)) (x, k)
      generalize SetTable.below t.place (way t.mask (hN w k) K) = p at q2 q3 hin pm ⊢
      have hlen : (L.take p ++ (x, k) :: L.drop p).length = L.length + 1 := pm.length_eq
      have hes := rows_size hin
      generalize SetTable.insertAt es p (hN w k, Value.ref x) = es1 at hin hes ⊢
      generalize L.take p ++ (x, k) :: L.drop p = L1 at pm hlen q3 hin hes
      have nd1 : (L1.map (·.2)).Nodup := (pm.map (·.2)).nodup_iff.mpr (by rw [List.map_cons]; exact List.nodup_cons.mpr ⟨hm, R.nd⟩)
      have T2 : TabOk t2 (L1.map fun p => hN w p.2) := by
        rcases ht2 with e | e
        · rw [e]; exact q3
        · rw [e]; exact TabOk.unplain q3
      have m2 : t2.mask = t.mask := by rcases ht2 with e | e <;> (rw [e]; exact q4)
      have l2 : t2.led = t.led := by rcases ht2 with e | e <;> (rw [e]; exact q5)
      have ld2 : w.params.followText "set-order" = true ∨ t2.led = true := by rw [l2]; exact R.led
      have f2 : t2.fill = L.length + 1 := by
        have e9 : t1.fill = L.length + 1 := by rw [q9, List.length_map]
        rcases ht2 with e | e
        · rw [e]; exact e9
        · rw [e]; exact e9
      refine wpAny_bind (wpAny_storeSet_of ho hd ?_ (by rw [hes, hlen, sizeLine_eq]; omega))
      have sb : Heap.SameBut a s.heap (s.heap.update a (Obj.putSet es1 t2)) := Heap.SameBut.update ..
      have ho1 := store_at (es' := es1) (t' := t2) ho hd
      generalize s.heap.update a (Obj.putSet es1 t2) = h1 at sb ho1 ⊢
      have is1 : ∀ p ∈ L1, IsN h1 p.2 p.1 := fun p hp => by
        rcases List.mem_cons.mp (pm.mem_iff.mp hp) with e | hp
        · rw [e]; exact hx.but ho hd sb
        · exact (R.is_ p hp).but ho hd sb
      have tf : t2.tooFull = decide ((L.length + 1) * 5 ≥ t.mask * 3) := by
        unfold SetTable.tooFull
        rw [f2, m2]
      by_cases hf : (L.length + 1) * 5 ≥ t.mask * 3
      · have hc : (!false && t2.tooFull) = true := by rw [tf, decide_eq_true hf] <;> rfl
        first
          | (refine wpAny_bind ?_; refine wp_if_pos hc ?_)
          | (refine wp_if_pos hc ?_; refine wpAny_bind ?_)
        have cases2 : (t.mask = 7 ∧ L.length = 4) ∨ (t.mask = 31 ∧ L.length = 18) := by
          rcases R.tab.mok with e | e | e
          · left; rw [e] at hf hroom; exact ⟨e, by omega⟩
          · right; rw [e] at hf hroom; exact ⟨e, by omega⟩
          · exfalso; rw [e] at hf; omega
        rw [hsl]
        have psz : t2.place.size = es1.size := by rw [T2.sz, List.length_map, hes]
        have go : ∀ M, SetTable.sizeAbove (SetTable.grown (L.length + 1)) - 1 = M → MaskOk M → SetTable.sizeAbove (SetTable.grown (L.length + 1)) ≤ 128 → (L.length + 1) * 5 < M * 3 →
            wpAny (model P w) A (setRelay a (SetTable.grown (L.length + 1))) (fun _ s' => wpAny (model P w) A (pure true) Q E s') E { s with heap := h1 } := fun M a1 a2 a3 a4 => by
          refine relayN (s := { s with heap := h1 }) ho1 ⟨hex.1, hex.2.1, hex.2.2⟩ rfl hin psz T2.dm (by rw [hes, hlen, m2]; omega) nd1 is1 ld2 (by rw [hlen]; exact hfew) a1 a2 a3 (by rw [hlen]; exact a4) ?_
          intro h2 L2 es2 ep2 t3 sb2 R2 pm2
          exact wpAny_pure (hQ true h2 L2 es2 ep2 t3 (sb.trans sb2) R2 (fun z => absurd z hm) fun _ => pm2.trans pm)
        rcases cases2 with ⟨_, e2⟩ | ⟨_, e2⟩
        · exact go 31 (by rw [e2, size_20]) (.inr (.inl rfl)) (by rw [e2, size_20]; decide) (by omega)
        · exact go 127 (by rw [e2, size_76]) (.inr (.inr rfl)) (by rw [e2, size_76]; decide) (by omega)
      · have hc : ¬ (!false && t2.tooFull) = true := by rw [tf, decide_eq_false hf]; decide
        first
          | refine wp_if_neg hc ?_
          | (refine wpAny_bind ?_; refine wp_if_neg hc ?_; refine wpAny_pure ?_)
        refine wpAny_pure (hQ true h1 L1 es1 (ep + 1) t2 sb ⟨⟨_, ho1, ⟨hex.1, hex.2.1, hex.2.2⟩, rfl⟩, hin, T2, nd1, is1, ld2, by rw [hlen, m2]; omega, by rw [hlen]; exact hfew⟩ (fun z => absurd z hm) fun _ => pm)
    by_cases hpl : t1.plain = true
    · first
        | (refine wpAny_bind ?_; refine wp_if_pos hpl ?_; refine val_key k _ 8 s hx.1 _ _ _ fun b => ?_)
        | refine wp_if_pos hpl (wpAny_bind (val_key k _ 8 s hx.1 _ _ _ fun b => ?_))
      cases b with
      | true =>
        simp only [if_true]
        exact main _ (.inl rfl)
      | false =>
        simp only [Bool.false_eq_true, if_false]
        exact main _ (.inr rfl)
    · first
        | (refine wpAny_bind ?_; refine wp_if_neg hpl ?_; refine wpAny_pure ?_)
        | refine wp_if_neg hpl (wpAny_bind (wpAny_pure ?_))
      simp only [if_true]
      exact main _ (.inl rfl)
end
end My

set_option Elab.async false
set_option maxRecDepth 100000
set_option maxHeartbeats 4000000
set_option linter.all false
namespace My
open PySem PySem.Spec PyProof.Rows L2
abbrev set0 (w : World) : Obj := { cls := .type "set", dict := none, data := .set #[] 0 (.fresh 0 0 (!w.params.followText "set-order")) }
/-- what one item more does to the set at S: T i says what the set is behind i items -/
def Adds (P : Program) (w : World) (A : Around) (h0 : Heap) (S : Addr) (n : Nat) (Pv : Nat → Value → Prop) (T : Nat → Obj → Prop) : Prop :=
  ∀ (i : Nat) (v : Value) (o : Obj) (s : Shared) (E : Value → Shared → Prop) (Q : Bool → Shared → Prop), i < n → Pv i v → s.heap.get? S = some o → T i o → (∀ b u, h0.get? b = some u → s.heap.get? b = some u) →
    (∀ b h' tk o', s.toks ≤ tk → Heap.SameBut S s.heap h' → h'.get? S = some o' → T (i + 1) o' → Q b { s with heap := h', toks := tk }) → wpAny (model P w) A (setAdd S v) Q E s
section
variable {P : Program} {w : World} {A : Around} {E : Value → Shared → Prop} {s : Shared}
theorem update_any {I : Addr} {fp wr : List Addr} {G : Array GenState → Array GenState → Prop} {n : Nat} {Pv : Nat → Value → Prop} {St : Nat → Shared → Prop} {R : Result → Shared → Prop}
    (W : WalksS P w A.in1 I fp wr G n Pv St) {S : Addr} (hSf : S ∉ fp) {T : Nat → Obj → Prop} {h0 : Heap} (hS0 : h0.get? S = none) (hw0 : ∀ b ∈ wr, h0.get? b = none) (add : Adds P w A.in1 h0 S n Pv T) :
    ∀ (k i : Nat) (s : Shared), n - i = k → i ≤ n → St i s → (∀ b o, h0.get? b = some o → s.heap.get? b = some o) → (∃ o, s.heap.get? S = some o ∧ T i o) →
      (∀ s' o, Moved (S :: wr) G s s' → s'.heap.get? S = some o → T n o → (∀ b o, h0.get? b = some o → s'.heap.get? b = some o) → R (.ok (.ret .none)) s') →
      codeAny (model P w) A (.builtin "set.update.loop" ⟨[.ref S, .ref I], []⟩) R s := by
  have hSw : S ∉ wr := fun h => hSf (W.sub _ h)
  have hsub : ∀ b ∈ wr, b ∈ S :: wr := fun b hb => List.mem_cons_of_mem _ hb
  have keepM : ∀ {s s' : Shared}, Moved wr G s s' → (∀ b o, h0.get? b = some o → s.heap.get? b = some o) → ∀ b o, h0.get? b = some o → s'.heap.get? b = some o := fun hm hkp b o e =>
    hm.heap b o (fun hb => by rw [hw0 b hb] at e; cases e) (hkp b o e)
  intro k
  induction k with
  | zero =>
    intro i s hk' hi hst hkp ⟨o, hS, hT⟩ hR
    obtain rfl : i = n := by omega
    refine codeAny_builtin F.entry_set_update_loop ?_
    rw [Around.under_plainId F.plain_set_update_loop _]
    show wpAny _ A.in1 (pyNext (.ref I) >>= _) _ _ s
    refine wpAny_bind (W.done s _ _ hst fun s' hm => ?_)
    show wpAny _ A.in1 (ret Value.none) _ _ s'
    exact wpAny_pure (hR s' o (hm.mono hsub) (hm.heap S o hSw hS) hT (keepM hm hkp))
  | succ k ih =>
    intro i s hk' hi hst hkp ⟨o, hS, hT⟩ hR
    have hlt : i < n := by omega
    refine codeAny_builtin F.entry_set_update_loop ?_
    rw [Around.under_plainId F.plain_set_update_loop _]
    show wpAny _ A.in1 (pyNext (.ref I) >>= _) _ _ s
    refine wpAny_bind (W.item i s _ _ hlt hst fun v s' hP hst' hm => ?_)
    have hkp' := keepM hm hkp
    show wpAny _ A.in1 (holding [v] (setAdd S v) >>= _) _ _ s'
    refine wpAny_bind (wpAny_holding (add i v o s' _ _ hlt hP (hm.heap S o hSw hS) hT hkp' fun b h' tk o' htk hsb hS2 hT2 => ?_))
    have hkp2 : ∀ b o, h0.get? b = some o → h'.get? b = some o := fun b o e => (hsb.2 b (fun z => by rw [z, hS0] at e; cases e)).trans (hkp' b o e)
    refine wpAny_pure ⟨plainId_quiet F.plain_set_update_loop _, ih (i + 1) _ (by omega) hlt (W.frame _ s' _ _ hst' htk fun b hb o e => ?_) hkp2 ⟨o', hS2, hT2⟩ fun s'' o2 hm'' hS'' hT'' hkp'' => ?_⟩
    · rw [hsb.2 b (fun h : b = S => hSf (by rw [← h]; exact hb))]; exact e
    · refine hR s'' o2 (Moved.trans W.gtrans ((hm.mono hsub).then_heap htk fun b o hb e => ?_) hm'') hS'' hT'' hkp''
      rw [hsb.2 b (fun h : b = S => hb (by rw [h]; exact List.mem_cons_self))]; exact e
set_option maxHeartbeats 3200000 in
/-- set(xs), xs a list -/
theorem call_set_any {l : Addr} {items : Array Value} {Q : Value → Shared → Prop} (hh : A.handled = none) (hl : s.heap.IsList l items) {T : Nat → Obj → Prop} (t0 : T 0 (set0 w))
    (add : Adds P w A.in1.in1.in1 s.heap s.heap.objs.size items.size (fun i v => items[i]? = some v) T)
    (h : ∀ (h' : Heap) (tk : Nat) (o : Obj), h'.get? s.heap.objs.size = some o → T items.size o → (∀ b o, s.heap.get? b = some o → h'.get? b = some o) → Q (.ref s.heap.objs.size) { s with heap := h', toks := tk }) :
    wpAny (model P w) A (call (.type "set") [.ref l]) Q E s := by
  obtain ⟨c, tl, hmro⟩ := F.called_set.mro
  have hmade := F.called_set.made
  have hsub := F.called_set.sub
  refine wpAny_call (codeAny_of_tree ?_)
  show wpAny _ _ (callAny (.type "set") _) _ _ _
  refine wpAny_pure ⟨Code.quiet_builtin _ (by decide +kernel), codeAny_builtin F.entry_type_call ?_⟩
  rw [Around.under_plain (weight_type_call_type "set" [.ref l] []) rfl]
  have h1 := F.called_set.notType
  have h2 := F.called_set.canCreate
  have hct := F.typeCall_set_1 (.ref l)
  repeat (any_goals (first | assumption | wp_step))
  refine codeAny_mono (code_set_led1 (.ref l) (E := E) (Q₁ := fun obj s₁ => obj = .ref s.heap.objs.size ∧ s₁ = { s with heap := s.heap.push (set0 w) }) ⟨rfl, rfl⟩) fun r s₁ hr => ?_
  cases r with
  | error e => exact hr
  | ok fl =>
    cases fl with
    | ret obj =>
      obtain ⟨rfl, rfl⟩ := hr
      have hS : (s.heap.push (set0 w)).get? s.heap.objs.size = some (set0 w) := Heap.get?_push_size _ rfl
      have hT : Shared.TypeIs { s with heap := s.heap.push (set0 w) } (.ref s.heap.objs.size) "set" := ⟨_, hS, rfl⟩
      have hli := F.called_set.init.lookup
      have hbi := F.called_set.init.bind (.ref s.heap.objs.size)
      repeat (any_goals (first | assumption | wp_step))
      refine codeAny_mono (codeAny_call_builtin (R := wants (fun r s₂ => r = .none ∧ ∃ h' tk o, s₂ = { s with heap := h', toks := tk } ∧ h'.get? s.heap.objs.size = some o ∧ T items.size o ∧ (∀ b o, s.heap.get? b = some o → h'.get? b = some o)) E)
        F.called_set.init.plain F.entry_set_init (check_set_init_1 hT ?_)) fun r₂ s₂ hr₂ => ?_
      · obtain ⟨ol, hol, hcl, nl, hdl⟩ := hl
        obtain ⟨ocls, odict, odata, oslots⟩ := ol
        simp only at hcl hdl
        subst hcl; subst hdl
        have hol' : (s.heap.push (set0 w)).get? l = some { cls := .type "list", dict := odict, data := .seq items nl, slots := oslots } := Heap.get?_push_of_some _ hol
        have hsls := F.sub_list_set
        have hslf := F.sub_list_frozenset
        have hne : (Value.type "list" == Value.type "dict") = false := by decide
        have hl1 : (s.heap.push (set0 w)).IsList l items := ⟨_, hol', rfl, nl, rfl⟩
        unfold Builtin.«set.__init__» noKeywords Builtin.Frozenset.updateFrom
        generalize hPI : pyIter = PI
        wp_walk
        subst hPI
        refine wpAny_pyIter_list hl1 ?_
        refine wpAny_bind (wpAny_runValue ?_)
        have hlS : l < s.heap.objs.size := Heap.lt_size hol
        have hh3 : A.in1.in1.in1.handled = none := by simp [hh]
        have hneI : l ≠ (s.heap.push (set0 w)).objs.size := by
          rw [Heap.size_push]; exact Nat.ne_of_lt (Nat.lt_succ_of_lt hlS)
        have hSf : s.heap.objs.size ∉ [(s.heap.push (set0 w)).objs.size, l] := by
          rw [Heap.size_push]; simp only [List.mem_cons, List.mem_singleton, List.not_mem_nil, or_false, not_or]
          exact ⟨Nat.ne_of_lt (Nat.lt_succ_self _), Nat.ne_of_gt hlS⟩
        have none_of : ∀ b, s.heap.objs.size ≤ b → s.heap.get? b = none := fun b hb => by
          cases q : s.heap.get? b with
          | none => rfl
          | some o => exact absurd (Nat.lt_of_lt_of_le (Heap.lt_size q) hb) (Nat.lt_irrefl _)
        refine update_any ((Walks.list hh3 _ l hneI items).toS) hSf (T := T) (h0 := s.heap) (none_of _ (Nat.le_refl _)) (fun b hb => none_of b (by
            rw [List.mem_singleton.mp hb, Heap.size_push]
            exact Nat.le_succ _)) ?hadd (items.size - 0) 0 _ (by omega) (Nat.zero_le _)
          ⟨⟨_, Heap.get?_push_size _ rfl, rfl, rfl⟩, (hl1.push _)⟩ (fun b o e => Heap.get?_push_of_some _ (Heap.get?_push_of_some _ e)) ⟨_, Heap.get?_push_of_some _ hS, t0⟩ ?hR
        case hadd => exact add
        case hR =>
          intro s' o hm hS' hT' hkp
          obtain ⟨h', g2, d', tk', os'⟩ := s'
          have eg : g2 = s.gens := hm.gens
          have ed : d' = s.drawn := hm.drawn
          have eo : os' = s.os := hm.os
          subst eg; subst ed; subst eo
          show wpAny _ _ _ _ _ _
          refine wpAny_pure ?_
          show wpAny _ _ (ret Value.none) _ _ _
          exact wpAny_pure ⟨rfl, h', tk', o, rfl, hS', hT', hkp⟩
      · cases r₂ with
        | error e => exact hr₂
        | ok fl₂ =>
          cases fl₂ with
          | ret r =>
            obtain ⟨rfl, h', tk, o, rfl, hS', hT', hk'⟩ := hr₂
            repeat (any_goals (first | assumption | wp_step))
            exact h _ _ _ hS' hT' hk'
          | _ => exact hr₂.elim
    | _ => exact hr.elim
end
end My

set_option Elab.async false
set_option maxRecDepth 100000
set_option maxHeartbeats 4000000
set_option linter.all false
namespace My
open PySem PySem.Spec PyProof.Rows L2
/-! ### tuples -/
structure TupT (w : World) (h0 : Heap) (ks : List (Addr × NK)) (i : Nat) (o : Obj) : Prop where
  ex : ∃ (L : List (Addr × NK)) (es : Array (Int × Value)) (ep : Nat) (t : SetTable), o.ExactSet ∧ o.data = .set es ep t ∧ es.toList = L.map (rowN w) ∧ TabOk t (L.map fun p => hN w p.2) ∧ (L.map (·.2)).Nodup ∧ (w.params.followText "set-order" = true ∨ t.led = true) ∧ L.length * 5 < t.mask * 3 ∧
    L.length ≤ i ∧ (∀ p ∈ L, p ∈ ks.take i) ∧ ∀ p ∈ ks.take i, p.2 ∈ L.map (·.2)
theorem mem_take_next {α : Type} {l : List α} {i : Nat} {x : α} (h : l[i]? = some x) {y : α} : y ∈ l.take (i + 1) ↔ y ∈ l.take i ∨ y = x := by
  rw [take_next h, List.mem_append, List.mem_singleton]
theorem led_new (w : World) : w.params.followText "set-order" = true ∨ (SetTable.fresh 0 0 (!w.params.followText "set-order")).led = true := by
  show _ ∨ (!w.params.followText "set-order") = true
  cases w.params.followText "set-order"
  · exact .inr rfl
  · exact .inl rfl
theorem tupT_new {w : World} {h0 : Heap} {ks : List (Addr × NK)} : TupT w h0 ks 0 (set0 w) :=
  ⟨[], #[], 0, _, ⟨rfl, rfl, rfl⟩, rfl, rfl, ⟨List.Pairwise.nil, rfl, rfl, .inl rfl, fun x hx => (by cases hx), fun i h j hi => (by simp at hi)⟩, List.nodup_nil, led_new w, (by show 0 * 5 < 7 * 3; decide), Nat.le_refl _, fun p h => (by cases h), fun p h => (by simp at h)⟩
theorem tupT_adds {P : Program} {w : World} {A : Around} {h0 : Heap} {S : Addr} {n : Nat} {Pv : Nat → Value → Prop} {ks : List (Addr × NK)} (hS0 : h0.get? S = none) (hn : n = ks.length) (hfew : ks.length < 64) (hval : ∀ i v, Pv i v → ∃ p, ks[i]? = some p ∧ v = .ref p.1) (hk : ∀ p ∈ ks, IsN h0 p.2 p.1) (hu : A.units + 8 < cLine) : Adds P w A h0 S n Pv (TupT w h0 ks) := by
  intro i v o s E Q hi hP hS hT kp hQ
  obtain ⟨p, hp, rfl⟩ := hval i v hP
  obtain ⟨L, es, ep, t, hex, hd, hr, tab, nd, ld, room, len, sub, all⟩ := hT.ex
  have hpm := List.mem_of_getElem? hp
  have hx : IsN s.heap p.2 p.1 := (hk p hpm).keep kp
  have R : SetN w s.heap S L es ep t := ⟨⟨o, hS, hex, hd⟩, hr, tab, nd, fun q hq => (hk q (List.mem_of_mem_take (sub q hq))).keep kp, ld, room, by omega⟩
  unfold setAdd
  refine wpAny_holding ?_
  refine wpAny_bind (pyHash_key p.2 _ A s _ hx.1 (by have := hx.2; omega) ?_)
  refine addN (s := { s with toks := s.toks + p.2.draws }) R hx hu (by omega) fun b h' L' es' ep' t' sb R' c1 c2 => ?_
  obtain ⟨o', ho', hex', hd'⟩ := R'.ob
  refine hQ b h' _ o' (Nat.le_add_right _ _) sb ho' ⟨L', es', ep', t', hex', hd', R'.rows, R'.tab, R'.nd, R'.led, R'.room, ?_⟩
  rcases Classical.em (p.2 ∈ L.map (·.2)) with c | c
  · rw [c1 c]
    refine ⟨by omega, fun q hq => (mem_take_next hp).2 (.inl (sub q hq)), fun q hq => ?_⟩
    rcases (mem_take_next hp).1 hq with z | z
    · exact all q z
    · rw [z]; exact c
  · have pm := c2 c
    refine ⟨by rw [pm.length_eq, List.length_cons]; omega, fun q hq => ?_, fun q hq => ?_⟩
    · rcases List.mem_cons.mp (pm.mem_iff.mp hq) with e | z
      · exact (mem_take_next hp).2 (.inr e)
      · exact (mem_take_next hp).2 (.inl (sub q z))
    · rw [(pm.map (·.2)).mem_iff, List.map_cons]
      rcases (mem_take_next hp).1 hq with z | z
      · exact List.mem_cons_of_mem _ (all q z)
      · rw [z]; exact List.mem_cons_self
/-! data as keys -/
mutual
theorem dp_nested {X : Cx} {pins : List (Addr × Obj)} {σ : L2.St} {H : Hp} {s : Shared} (I : Inv X pins σ H s) : ∀ (k : NK) (v : V) (u : Value), Dp X.K H v k.data → RelV v u → NestedIs s.heap k u
  | .none, _, u, h, r => by
    cases h
    cases r
    exact .none
  | .num i, _, u, h, r => by
    cases h
    obtain ⟨t, rfl⟩ := r
    exact .int _ _
  | .text x, _, u, h, r => by
    cases h
    obtain ⟨t, rfl⟩ := r
    exact .text _ _
  | .tup ks, v, u, h, r => by
    have h' : Dp X.K H v (.tuple (NestedKey.datas ks)) := h
    cases h' with
    | tup hs ha =>
      obtain rfl : u = Value.ref _ := r
      obtain ⟨its, rv, ⟨o, ho, hc, n, hd⟩, _⟩ := I.tuple hs
      exact .tup ho hc hd (by simpa using dp_nesteds I ks _ its ha rv)
theorem dp_nesteds {X : Cx} {pins : List (Addr × Obj)} {σ : L2.St} {H : Hp} {s : Shared} (I : Inv X pins σ H s) : ∀ (ks : List NK) (vs : List V) (us : List Value), DpAll X.K H vs (NestedKey.datas ks) → Vals vs us → NestedAll s.heap ks us
  | [], _, us, h, r => by
    cases h
    cases r
    exact .nil
  | k :: ks, _, us, h, r => by
    cases h with
    | cons h t =>
      cases r with
      | cons r rt => exact .cons (dp_nested I k _ _ h r) (dp_nesteds I ks _ _ t rt)
end
theorem datas_map : ∀ ks : List NK, NestedKey.datas ks = ks.map NestedKey.data
  | [] => rfl
  | k :: ks => by rw [NestedKey.datas, datas_map ks, List.map_cons]
theorem data_inj {H : Hp} {K : PySem.W.Frag} : True := trivial
def isTup : NK → Bool
  | .tup _ => true
  | _ => false
/-- set(xs), xs a list of fewer than 64 tuples -/
def rSetT (K : PySem.W.Frag) (w : World) : List V → Hp → VK → Prop := fun xs H Q => ∃ (l : Addr) (ps : List (Addr × NK)), xs = [V.ref l] ∧ SqL K H l (ps.map fun p => V.ref p.1) ∧ (∀ p ∈ ps, Dp K H (.ref p.1) p.2.data ∧ p.2.depth ≤ 8) ∧ ps.length < 64 ∧
  ∀ a (L : List (Addr × NK)), H a = none → (∀ p ∈ L, p ∈ ps) → (L.map (·.2)).Nodup → (∀ p ∈ ps, p.2 ∈ L.map (·.2)) → Q (.ref a) (upd H a (SetV w a (L.map fun p => V.ref p.1)))
theorem refs_back2 : ∀ {ks : List (Addr × NK)} {us : List Value}, Vals (ks.map fun p => V.ref p.1) us → us = ks.map fun p => Value.ref p.1
  | [], _, .nil => rfl
  | p :: ks, _, .cons r t => by
    cases r
    rw [refs_back2 t] <;> rfl
theorem vals_refs2 : ∀ (ks : List (Addr × NK)), Vals (ks.map fun p => V.ref p.1) (ks.map fun p => Value.ref p.1)
  | [] => .nil
  | p :: ks => .cons rfl (vals_refs2 ks)
section
variable {X : Cx}
theorem cr_setT (hc : X.calm = true) (hu : X.A.units + 65 < cLine) : CallR X (.type "set") (rSetT X.K X.w) := by
  intro pins s σ H xs us Q I r h
  obtain ⟨l, ps, rfl, hl, hk, hf, q⟩ := h
  obtain ⟨u, rfl, ru⟩ := vals1 r
  obtain rfl : u = Value.ref l := ru
  obtain ⟨its, rv, pl, hz⟩ := I.list hl
  have hn : H s.heap.objs.size = none := I.hok.fresh (Nat.le_refl _)
  have hits : its = ps.map fun p => Value.ref p.1 := refs_back2 rv
  have hz2 : its.toArray.size = ps.length := by rw [List.size_toArray, hits, List.length_map]
  have hk' : ∀ p ∈ ps, IsN s.heap p.2 p.1 := fun p hp => ⟨dp_nested I p.2 _ _ (hk p hp).1 rfl, (hk p hp).2⟩
  have hfresh : s.heap.get? s.heap.objs.size = none := by
    cases z : s.heap.get? s.heap.objs.size with
    | none => rfl
    | some o => exact absurd (Heap.lt_size z) (Nat.lt_irrefl _)
  refine call_set_any (P := X.prog) (w := X.w) (I.ok.hd hc) pl.isList (T := TupT X.w s.heap ps) tupT_new ?_ fun h' tk o ho hT kp => ?_
  · refine tupT_adds hfresh hz2 hf (fun i v hv => ?_) hk' (by show X.A.units + 1 + 1 + 1 + 8 < cLine; omega)
    rw [← Array.getElem?_toList, hits] at hv
    have hv' : (ps.map fun p => Value.ref p.1)[i]? = some v := by simpa using hv
    rw [List.getElem?_map] at hv'
    cases e : ps[i]? with
    | none => rw [e] at hv'; cases hv'
    | some p =>
      rw [e] at hv'
      exact ⟨p, rfl, (Option.some.inj hv').symm⟩
  · obtain ⟨L, es, ep, t, hex, hd, hr, tab, nd, ld, room, len, sub, all⟩ := hT.ex
    rw [hz2] at len sub all
    rw [List.take_length] at sub all
    have hsl := rows_size hr
    have psz : t.place.size = es.size := by rw [tab.sz, List.length_map, hsl]
    have sv : SetV0 X.w h' s.heap.objs.size (L.map fun p => V.ref p.1) := ⟨es, ep, t, ⟨o, ho, hex, hd⟩, fits_of psz tab.dm (by omega), tab.ris, ld, by omega, by
      rw [hr, List.map_map]
      exact vals_refs2 L⟩
    exact ⟨.ref s.heap.objs.size, upd H s.heap.objs.size (SetV X.w s.heap.objs.size (L.map fun p => V.ref p.1)), I.laid (t' := tk) kp (Nat.le_refl _) (setV_new sv), rfl, q _ L hn sub nd all⟩
end
/-! ### texts -/
def keyS (e : Int × Value) : Str := match e.2 with | .str x _ => x | _ => ""
def IsS (w : World) (e : Int × Value) : Prop := ∃ x tk, e = (hashStr w x, Value.str x tk)
structure TxtT (w : World) (xs : List Str) (i : Nat) (o : Obj) : Prop where
  ex : ∃ (es : Array (Int × Value)) (ep : Nat) (t : SetTable), o.ExactSet ∧ o.data = .set es ep t ∧ t.fits es.size = true ∧ Ris t.place.toList ∧ (w.params.followText "set-order" = true ∨ t.led = true) ∧ (∀ e ∈ es.toList, IsS w e) ∧ (es.toList.map keyS).Nodup ∧ (∀ x, x ∈ xs.take i ↔ x ∈ es.toList.map keyS) ∧ es.size ≤ i
theorem txtT_new {w : World} {xs : List Str} : TxtT w xs 0 (set0 w) :=
  ⟨#[], 0, _, ⟨rfl, rfl, rfl⟩, rfl, rfl, List.Pairwise.nil, led_new w, fun e he => (by simp at he), List.nodup_nil, fun x => by simp, Nat.le_refl _⟩
section
variable {P : Program} {w : World} {A : Around} {E : Value → Shared → Prop} {s : Shared}
theorem isS_elems {l : List (Int × Value)} (g : ∀ e ∈ l, IsS w e) : ElemsOf (strKind P w) l := fun e he => by
  obtain ⟨x, tk, rfl⟩ := g e he
  exact ⟨⟨x, by show Value.isStr (.str x tk) x = true; simp [Value.isStr], rfl⟩, rfl⟩
theorem isS_is {e : Int × Value} (g : IsS w e) (x : Str) : (strKind P w).is x e.2 = true ↔ keyS e = x := by
  obtain ⟨y, tk, rfl⟩ := g
  show Value.isStr (.str y tk) x = true ↔ y = x
  simp [Value.isStr]
  try exact eq_comm
theorem add_txt {S : Addr} {o : Obj} {es : Array (Int × Value)} {ep : Nat} {t : SetTable} (ho : s.heap.get? S = some o) (hex : o.ExactSet) (hd : o.data = .set es ep t) (hf : t.fits es.size = true) (hr : Ris t.place.toList) (hl : w.params.followText "set-order" = true ∨ t.led = true)
    (g : ∀ e ∈ es.toList, IsS w e) (hb : es.size + 1 < scanBound) {x : Str} {tk : Tok} {Q : Bool → Shared → Prop}
    (hQ : ∀ b h' o' es' ep' t', Heap.SameBut S s.heap h' → h'.get? S = some o' → o'.ExactSet → o'.data = .set es' ep' t' → t'.fits es'.size = true → Ris t'.place.toList → (w.params.followText "set-order" = true ∨ t'.led = true) →
      (x ∈ es.toList.map keyS → es'.toList.Perm es.toList) → (x ∉ es.toList.map keyS → es'.toList.Perm ((hashStr w x, Value.str x tk) :: es.toList)) → Q b { s with heap := h' }) :
    wpAny (model P w) A (setAddHashed S (.str x tk) (hashStr w x)) Q E s := by
  have hkey : (strKind P w).is x (.str x tk) = true := by show Value.isStr (.str x tk) x = true; simp [Value.isStr]
  have hsc : (Value.str x tk).scannable = true := rfl
  have hel : ElemsOf (strKind P w) es.toList := isS_elems g
  have hx : hashStr w x = (strKind P w).hash x := rfl
  unfold setAddHashed setAddHashedIn
  refine wpAny_holding (wpAny_bind (wpAny_setState_of ho hd hf ?_))
  dsimp only
  rw [byScan_of hsc (by omega) hel]
  simp only [↓reduceIte]
  unfold setAddByScan
  refine wpAny_bind ?_
  refine wpAny_bind (wpAny_rule ?_)
  refine wpAny_bind (wpAny_setScan_of hkey ho hd hf hel ?_)
  cases hfi : List.findIdx? (fun e => (strKind P w).is x e.2) es.toList with
  | some j =>
    dsimp only
    obtain ⟨hj, pj, _⟩ := List.findIdx?_eq_some_iff_getElem.mp hfi
    have hin : x ∈ es.toList.map keyS := List.mem_map.mpr ⟨es.toList[j], List.getElem_mem hj, (isS_is (P := P) (g _ (List.getElem_mem hj)) x).1 pj⟩
    exact wpAny_pure (wpAny_pure (hQ _ s.heap o es ep t (Heap.SameBut.refl S s.heap) ho hex hd hf hr hl (fun _ => .refl _) fun z => absurd hin z))
  | none =>
    dsimp only
    have hnx : x ∉ es.toList.map keyS := fun z => by
      obtain ⟨e, he, q⟩ := List.mem_map.mp z
      have c := List.findIdx?_eq_none_iff.mp hfi e he
      rw [(isS_is (P := P) (g e he) x).2 q] at c
      cases c
    have hgw : ∀ (b : Bool) {s₁ : Shared} {Q' : Unit → Shared → Prop}, Q' () s₁ → wpAny (model P w) A (match b with | true => rule "set.scan.the-table-gave-way" | false => pure ()) Q' E s₁ :=
      fun b s₁ Q' q => by cases b <;> first | exact wpAny_pure q | exact wpAny_rule q
    have pm := layNew_perm t es ((strKind P w).hash x) (.str x tk)
    have hf1 := layNew_fits t es ((strKind P w).hash x) (.str x tk)
    have hr1 := layNew_ris t es ((strKind P w).hash x) (.str x tk) hr
    have hl1 := layNew_led t es ((strKind P w).hash x) (.str x tk)
    rw [hx] at hQ ⊢
    generalize layNew t es ((strKind P w).hash x) (.str x tk) = Z at pm hf1 hr1 hl1 ⊢
    obtain ⟨es1, t1, wasDummy, gave⟩ := Z
    dsimp only at pm hf1 hr1 hl1 ⊢
    rw [Array.toList_push] at pm
    have pc : es1.toList.Perm (((strKind P w).hash x, Value.str x tk) :: es.toList) := pm.trans (List.perm_append_singleton _ _)
    have hsz : es1.size = es.size + 1 := by rw [← Array.length_toList, pc.length_eq, List.length_cons, Array.length_toList]
    have hled : w.params.followText "set-order" = true ∨ t1.led = true := hl.imp id fun z => by rw [hl1]; exact z
    -- what comes behind the laying, whatever the mark
    have tail : ∀ (t2 : SetTable) (R : Option Bool → Shared → Prop) (gg : Bool → Sem Unit), (∀ (b : Bool) (s₁ : Shared) (Q' : Unit → Shared → Prop), Q' () s₁ → wpAny (model P w) A (gg b) Q' E s₁) → t2.fits es1.size = true → Ris t2.place.toList → (w.params.followText "set-order" = true ∨ t2.led = true) →
        (∀ s', (∀ b, Q b s') → R (some true) s') → wpAny (model P w) A (do
        storeSet S es1 t2
        if (!wasDummy && t2.tooFull) = true then do
            gg (relayAll t2 es1 (SetTable.grown es1.size)).2.2
            storeSet S (relayAll t2 es1 (SetTable.grown es1.size)).1 (relayAll t2 es1 (SetTable.grown es1.size)).2.1
            pure (some true)
          else pure (some true)) R E s := by
      intro t2 R gg hgg f2 r2 l2 hR
      refine wpAny_bind (wpAny_storeSet_of ho hd ?_ (fits_of_scanBound (by omega)))
      have ho1 := store_at (es' := es1) (t' := t2) ho hd
      have sb1 := Heap.SameBut.update s.heap S (Obj.putSet es1 t2)
      split
      · have pm3 := relayAll_perm t2 es1 (SetTable.grown es1.size)
        have hf3 := relayAll_fits t2 es1 (SetTable.grown es1.size)
        have hr3 := relayAll_ris t2 es1 (SetTable.grown es1.size)
        have hl3 := relayAll_led t2 es1 (SetTable.grown es1.size)
        generalize relayAll t2 es1 (SetTable.grown es1.size) = Z at pm3 hf3 hr3 hl3 ⊢
        obtain ⟨es2, t3, gave2⟩ := Z
        dsimp only at pm3 hf3 hr3 hl3 ⊢
        have hsz2 : es2.size = es1.size := by rw [← Array.length_toList, pm3.length_eq, Array.length_toList]
        refine wpAny_bind (hgg _ _ _ ?_)
        refine wpAny_bind (wpAny_storeSet_of ho1 rfl ?_ (fits_of_scanBound (by omega)))
        have ho2 := store_at (es' := es2) (t' := t3) ho1 rfl
        refine wpAny_pure (hR _ fun b => ?_)
        exact hQ b _ _ es2 _ t3 (sb1.trans (Heap.SameBut.update _ S _)) ho2 ⟨hex.1, hex.2.1, hex.2.2⟩ rfl (by rw [hsz2]; first | exact hf3 | (rw [← hsz2]; exact hf3)) hr3 (l2.imp id fun z => by rw [hl3]; exact z) (fun z => absurd z hnx) fun _ => pm3.trans pc
      · exact wpAny_pure (hR _ fun b => hQ b _ _ es1 _ t2 sb1 ho1 ⟨hex.1, hex.2.1, hex.2.2⟩ rfl f2 r2 l2 (fun z => absurd z hnx) fun _ => pc)
    refine wpAny_bind (hgw _ ?_)
    split
    · refine wpAny_bind ?_
      rw [hashByValue_scannable 8 hsc]
      refine wpAny_pure ?_
      refine tail _ _ _ ?_ ?_ ?_ ?_ ?_
      · intro b s₁ Q' q; cases b <;> first | exact wpAny_pure q | exact wpAny_rule q
      · first | (split <;> first | exact hf1 | exact SetTable.fits_plain_off hf1) | exact hf1
      · first | (split <;> exact hr1) | exact hr1
      · first | (split <;> exact hled) | exact hled
      · intro s' q; dsimp only; exact wpAny_pure (q _)
    · refine wpAny_bind (wpAny_pure ?_)
      simp only [↓reduceIte]
      refine tail _ _ _ ?_ hf1 hr1 hled ?_
      · intro b s₁ Q' q; cases b <;> first | exact wpAny_pure q | exact wpAny_rule q
      · intro s' q; dsimp only; exact wpAny_pure (q _)
theorem txtT_adds {h0 : Heap} {S : Addr} {n : Nat} {Pv : Nat → Value → Prop} {xs : List Str} (hn : n = xs.length) (hfew : xs.length < 1000) (hval : ∀ i v, Pv i v → ∃ x tk, xs[i]? = some x ∧ v = .str x tk) : Adds P w A h0 S n Pv (TxtT w xs) := by
  intro i v o s E Q hi hP hS hT kp hQ
  obtain ⟨x, tk, hx, rfl⟩ := hval i v hP
  obtain ⟨es, ep, t, hex, hd, hf, hr, hl, g, nd, mem, len⟩ := hT.ex
  unfold setAdd
  refine wpAny_holding ?_
  refine wpAny_bind (wpAny_pyHash_str ?_)
  refine add_txt (s := { s with toks := s.toks + 1 }) hS hex hd hf hr hl g (by unfold scanBound; omega) fun b h' o' es' ep' t' sb ho' hex' hd' hf' hr' hl' c1 c2 => ?_
  refine hQ b h' _ o' (Nat.le_succ _) sb ho' ⟨es', ep', t', hex', hd', hf', hr', hl', ?_⟩
  rcases Classical.em (x ∈ es.toList.map keyS) with c | c
  · have pm := c1 c
    refine ⟨fun e he => g e (pm.mem_iff.mp he), (pm.map keyS).nodup_iff.mpr nd, fun y => ?_, ?_⟩
    · rw [(pm.map keyS).mem_iff, ← mem y, mem_take_next hx]
      constructor
      · rintro (z | z)
        · exact z
        · rw [z]; exact (mem x).2 c
      · exact .inl
    · rw [← Array.length_toList, pm.length_eq, Array.length_toList]; omega
  · have pm := c2 c
    have pk : (es'.toList.map keyS).Perm (x :: es.toList.map keyS) := pm.map keyS
    refine ⟨fun e he => ?_, pk.nodup_iff.mpr (List.nodup_cons.mpr ⟨c, nd⟩), fun y => ?_, ?_⟩
    · rcases List.mem_cons.mp (pm.mem_iff.mp he) with z | z
      · exact ⟨x, tk, z⟩
      · exact g e z
    · rw [pk.mem_iff, List.mem_cons, ← mem y, mem_take_next hx]
      exact Or.comm
    · rw [← Array.length_toList, pm.length_eq, List.length_cons, Array.length_toList]; omega
end
/-- set(xs), xs a list of texts -/
def rSetS (K : PySem.W.Frag) (w : World) : List V → Hp → VK → Prop := fun vs H Q => ∃ (l : Addr) (xs : List Str), vs = [V.ref l] ∧ SqL K H l (xs.map V.str) ∧ xs.length < 1000 ∧
  ∀ a (ys : List Str), H a = none → ys.Nodup → (∀ x, x ∈ ys ↔ x ∈ xs) → Q (.ref a) (upd H a (SetV w a (ys.map V.str)))
theorem vals_strs : ∀ {l : List (Int × Value)} {w : World}, (∀ e ∈ l, IsS w e) → Vals ((l.map keyS).map V.str) (l.map (·.2))
  | [], _, _ => .nil
  | e :: l, w, g => by
    obtain ⟨x, tk, h⟩ := g e List.mem_cons_self
    subst h
    exact .cons ⟨tk, rfl⟩ (vals_strs fun e he => g e (List.mem_cons_of_mem _ he))
theorem strs_at : ∀ {xs : List Str} {us : List Value}, Vals (xs.map V.str) us → ∀ (i : Nat) (v : Value), us[i]? = some v → ∃ x tk, xs[i]? = some x ∧ v = .str x tk
  | [], _, .nil, i, v, h => by simp at h
  | x :: xs, _, .cons r t, 0, v, h => by
    obtain ⟨tk, e⟩ := r
    exact ⟨x, tk, rfl, by rw [← Option.some.inj h]; exact e⟩
  | x :: xs, _, .cons r t, i + 1, v, h => strs_at t i v h
section
variable {X : Cx}
theorem cr_setS (hc : X.calm = true) : CallR X (.type "set") (rSetS X.K X.w) := by
  intro pins s σ H vs us Q I r h
  obtain ⟨l, xs, rfl, hl, hf, q⟩ := h
  obtain ⟨u, rfl, ru⟩ := vals1 r
  obtain rfl : u = Value.ref l := ru
  obtain ⟨its, rv, pl, hz⟩ := I.list hl
  have hn : H s.heap.objs.size = none := I.hok.fresh (Nat.le_refl _)
  have hz2 : its.toArray.size = xs.length := by rw [List.size_toArray, ← rv.length, List.length_map]
  refine call_set_any (P := X.prog) (w := X.w) (I.ok.hd hc) pl.isList (T := TxtT X.w xs) txtT_new (txtT_adds hz2 hf fun i v hv => strs_at rv i v (by simpa using hv)) fun h' tk o ho hT kp => ?_
  obtain ⟨es, ep, t, hex, hd, hft, hr, hl, g, nd, mem, len⟩ := hT.ex
  rw [hz2, List.take_length] at mem
  rw [hz2] at len
  have sv : SetV0 X.w h' s.heap.objs.size ((es.toList.map keyS).map V.str) := ⟨es, ep, t, ⟨o, ho, hex, hd⟩, hft, hr, hl, by omega, vals_strs g⟩
  exact ⟨.ref s.heap.objs.size, upd H s.heap.objs.size (SetV X.w s.heap.objs.size ((es.toList.map keyS).map V.str)), I.laid (t' := tk) kp (Nat.le_refl _) (setV_new sv), rfl, q _ _ hn nd fun x => (mem x).symm⟩
end
end My

set_option Elab.async false
set_option maxRecDepth 100000
set_option maxHeartbeats 4000000
set_option linter.all false
/-! Dicts whose keys are tuples, also of tuples. -/
namespace My
open PySem PySem.Spec PyProof.Rows L2
abbrev NRow := NK × Addr × V
abbrev NRows := List NRow
def NRel (p : NRow) (q : NK × Addr × Value) : Prop := p.1 = q.1 ∧ p.2.1 = q.2.1 ∧ RelV p.2.2 q.2.2
def dnP (P : Program) (w : World) (d : Addr) (xs : NRows) (h : Heap) : Prop :=
  (d == sysModules) = false ∧ ∃ vs : List (NK × Addr × Value), Paired NRel xs vs ∧ ∃ o es ep, h.get? d = some o ∧ o.ExactDict ∧ o.data = .dict es ep ∧ es.toList = vs.map (entryOfKey (nestedKind P w)) ∧ (vs.map (·.1)).Nodup
def dnO (P : Program) (w : World) (d : Addr) (xs : NRows) : HO := .ext (dnP P w d xs)
theorem dnO_ok {P : Program} {w : World} {H : Hp} {h : Heap} {d : Addr} {xs : NRows} (x : dnP P w d xs h) : ObjOk P w H h d (dnO P w d xs) := by
  obtain ⟨hd, vs, r, o, es, ep, e, c⟩ := x
  refine ⟨⟨hd, vs, r, o, es, ep, e, c⟩, ⟨o, e⟩, fun h1 h2 x k => ?_⟩
  obtain ⟨hd, vs, r, o, es, ep, e, c⟩ := x
  exact ⟨hd, vs, r, o, es, ep, k o e, c⟩
def valN (xs : NRows) (k : NK) : Option V := (xs.find? fun x => decide (x.1 = k)).map (·.2.2)
structure DN (P : Program) (w : World) (K : PySem.W.Frag) (H : Hp) (d : Addr) (xs : NRows) : Prop where
  at_ : H d = some (dnO P w d xs) ∨ (xs = [] ∧ H d = some (.dK []))
  len : xs.length ≤ sizeLine
  keys : ∀ x ∈ xs, Dp K H (.ref x.2.1) x.1.data ∧ x.1.depth ≤ 8
theorem nrel_val {k : NK} : ∀ {xs : NRows} {vs : List (NK × Addr × Value)}, Paired NRel xs vs → RelO (valN xs k) ((atKey vs k).map (·.2))
  | _, _, .nil => True.intro
  | _, _, .cons (a := p) (b := q) h t => by
    have ih := nrel_val (k := k) t
    unfold valN atKey at *
    by_cases e : p.1 = k
    · have e2 : q.1 = k := h.1.symm.trans e
      rw [List.find?_cons_of_pos (by simp [e]), List.find?_cons_of_pos (by simp [e2])]
      exact h.2.2
    · have e2 : ¬ q.1 = k := fun z => e (h.1.trans z)
      rw [List.find?_cons_of_neg (by simp [e]), List.find?_cons_of_neg (by simp [e2])]
      exact ih
theorem nrel_mem {xs : NRows} {vs : List (NK × Addr × Value)} (r : Paired NRel xs vs) : ∀ q ∈ vs, ∃ p ∈ xs, NRel p q := by
  induction r with
  | nil => intro q hq; cases hq
  | @cons p q ps qs h t ih =>
    intro z hz
    rcases List.mem_cons.mp hz with e | hz
    · exact ⟨p, .head _, by rw [e]; exact h⟩
    · obtain ⟨y, h1, h2⟩ := ih z hz
      exact ⟨y, .tail _ h1, h2⟩
section
variable {X : Cx} {pins : List (Addr × Obj)} {σ : L2.St} {H : Hp} {s : Shared} {d : Addr} {xs : NRows}
theorem dn_of (I : Inv X pins σ H s) (D : DN X.prog X.w X.K H d xs) : (d == sysModules) = false ∧ ∃ vs, Paired NRel xs vs ∧ s.heap.DictOfH (nestedKind X.prog X.w) d vs := by
  rcases D.at_ with e | ⟨rfl, e⟩
  · obtain ⟨⟨hd, vs, r, o, es, ep, h1, h2, h3, h4, h5⟩, _⟩ := (show ObjOk X.prog X.w H s.heap d (dnO X.prog X.w d xs) from I.hok d _ e)
    refine ⟨hd, vs, r, o, es, ep, h1, h2, h3, h4, fun q hq => ?_, h5⟩
    obtain ⟨p, hp, e1, e2, _⟩ := nrel_mem r q hq
    obtain ⟨k1, k2⟩ := D.keys p hp
    rw [e1, e2] at k1
    rw [e1] at k2
    exact ⟨dp_nested I q.1 _ _ k1 rfl, k2⟩
  · obtain ⟨z, hd, vs, rel, o, es, ep, h1, h2, h3, h4, h5, h6⟩ := dk_of I.hok e
    cases rel
    have e0 : es.toList = [] := by
      cases hes : es.toList with
      | nil => rfl
      | cons y ys => rw [hes] at h5; cases h5
    exact ⟨hd, [], .nil, o, es, ep, h1, h2, h3, e0, (fun q hq => by cases hq), List.nodup_nil⟩
end
section
variable {X : Cx}
/-- k not in d -/
def rNotInN (P : Program) (w : World) (K : PySem.W.Frag) : R2 := fun x y H Q => ∃ (b : Addr) (k : NK) (d : Addr) (xs : NRows), x = .ref b ∧ y = .ref d ∧ Dp K H (.ref b) k.data ∧ k.depth ≤ 8 ∧ DN P w K H d xs ∧ Q (.bl (!(valN xs k).isSome)) H
theorem op_notinN (hu : X.A.units + 65 < cLine) : OpR X (compareOp .NotIn) (rNotInN X.prog X.w X.K) := by
  intro pins s σ H x y v u Q I rx ry h
  obtain ⟨b, k, d, xs, rfl, rfl, hk, h8, D, q⟩ := h
  cases rx
  cases ry
  obtain ⟨hd, vs, r, dd⟩ := dn_of I D
  refine wpAny_notIn_heap (knd := nestedKind X.prog X.w) (k := k) (by show X.A.units + 1 + 8 < cLine; omega) ⟨dp_nested I k _ _ hk rfl, h8⟩ hd dd ?_
  have e := (nrel_val (k := k) r).isSome_eq
  rw [Option.isSome_map] at e
  rw [← e]
  exact ⟨.bl _, H, I.tok _, rfl, q⟩
/-- d[k] -/
def rIxN (P : Program) (w : World) (K : PySem.W.Frag) : R2 := fun x y H Q => ∃ (b : Addr) (k : NK) (d : Addr) (xs : NRows) (v : V), x = .ref d ∧ y = .ref b ∧ Dp K H (.ref b) k.data ∧ k.depth ≤ 8 ∧ DN P w K H d xs ∧ valN xs k = some v ∧ Q v H
theorem ix_N (hu : X.A.units + 65 < cLine) : IxR X (rIxN X.prog X.w X.K) := by
  intro value slice pins s σ H x y v u Q I rx ry h hs
  obtain ⟨b, k, d, xs, z, rfl, rfl, hk, h8, D, hv, q⟩ := h
  cases rx
  cases ry
  obtain ⟨hd, vs, r, dd⟩ := dn_of I D
  obtain ⟨w', hw, rw'⟩ := RelO.some_of (v := z) (o := (atKey vs k).map (·.2)) (by rw [← hv]; exact nrel_val r)
  obtain ⟨p, hp, rfl⟩ := Option.map_eq_some_iff.mp hw
  exact subscriptTail_builtinR (x := p.2) dd.typeIs PySem.F.slot_dict_getitem.lookup
    (wpAny_getItem_heap (knd := nestedKind X.prog X.w) (k := k) (by show X.A.units + 1 + 8 < cLine; omega) ⟨dp_nested I k _ _ hk rfl, h8⟩ dd hp ⟨rfl, z, H, I.tok _, rw', q⟩) hs
/-- d[k] = v, k not yet in d -/
def rSetN (P : Program) (w : World) (K : PySem.W.Frag) : TSet := fun o i v H Q => ∃ (b : Addr) (k : NK) (d : Addr) (xs : NRows), o = .ref d ∧ i = .ref b ∧ Dp K H (.ref b) k.data ∧ k.depth ≤ 8 ∧ DN P w K H d xs ∧ xs.length < sizeLine ∧ valN xs k = none ∧ Q (upd H d (dnO P w d (xs ++ [(k, b, v)])))
theorem set_N (hu : X.A.units + 65 < cLine) : PSet X (rSetN X.prog X.w X.K) := by
  intro pins s σ H o i v ov iv u Q I ro ri rv h
  obtain ⟨b, k, d, xs, rfl, rfl, hk, h8, D, hl, hv, q⟩ := h
  cases ro
  cases ri
  obtain ⟨hd, vs, r, dd⟩ := dn_of I D
  have hz : vs.length ≤ sizeLine := by rw [← Paired.length r]; omega
  have ek : atKey vs k = none := by
    have e := (nrel_val (k := k) r).isSome_eq
    rw [hv, Option.isSome_map] at e
    exact Option.isNone_iff_eq_none.mp (by rw [Option.isNone_iff_eq_none, ← Option.not_isSome_iff_eq_none, ← e]; decide)
  refine wpAny_setItem_heap (knd := nestedKind X.prog X.w) (k := k) (hsz := hz) (by show X.A.units + 1 + 8 < cLine; omega) ⟨dp_nested I k _ _ hk rfl, h8⟩ dd fun h' dd' hs => ?_
  rw [storedH_new ek] at dd'
  obtain ⟨o, es, ep, h1, h2, h3, h4, _, h5⟩ := dd'
  refine ⟨_, d_write I ?_ hs ⟨o, h1⟩ (dnO_ok ⟨hd, _, Paired.snoc r ⟨rfl, rfl, rv⟩, o, es, ep, h1, h2, h3, h4, h5⟩), q⟩
  rcases D.at_ with e | ⟨_, e⟩ <;> rw [e] <;> exact True.intro
end
/-! what stays -/
/-- all but the thing at d stays -/
theorem hide_upd_self {d : Addr} {H : Hp} (o : HO) : hide d (upd H d o) = hide d H := funext fun b => by
  by_cases e : b = d
  · rw [e, hide_at, hide_at]
  · rw [hide_ne e, hide_ne e, upd_ne e]
end My

set_option Elab.async false
set_option maxRecDepth 100000
set_option maxHeartbeats 4000000
set_option linter.all false
/-! Pools as data: gates, what they say of named bits. -/
namespace My
open PySem PySem.Spec PyProof.Rows L2
inductive Gt where
  | no | bit (n : NK) | both (x y : Int) | unlike (x y : Int) | chosen (c x y : Int) | most (x y z : Int)
def Gt.nk : Gt → NK
  | .no => .tup [.text "no"]
  | .bit n => .tup [.text "bit", n]
  | .both x y => .tup [.text "both", .num x, .num y]
  | .unlike x y => .tup [.text "unlike", .num x, .num y]
  | .chosen c x y => .tup [.text "chosen", .num c, .num x, .num y]
  | .most x y z => .tup [.text "most", .num x, .num y, .num z]
def Gt.parts : Gt → List Int
  | .no => []
  | .bit _ => []
  | .both x y => [x, y]
  | .unlike x y => [x, y]
  | .chosen c x y => [c, x, y]
  | .most x y z => [x, y, z]
/-- the bit of a literal, the gates' bits being bs -/
def litv (bs : List Int) (x : Int) : Int := if x % 2 = 0 then bs.getD (x / 2).toNat 0 else 1 - bs.getD (x / 2).toNat 0
abbrev Bits := NK → Int
def Gt.val (env : Bits) (bs : List Int) : Gt → Int
  | .no => 0
  | .bit n => env n
  | .both x y => if litv bs x + litv bs y ≥ 2 then 1 else 0
  | .unlike x y => if litv bs x = litv bs y then 0 else 1
  | .chosen c x y => if litv bs c = 1 then litv bs x else litv bs y
  | .most x y z => if litv bs x + litv bs y + litv bs z ≥ 2 then 1 else 0
def bitsOf (env : Bits) (gs : List Gt) : List Int := gs.foldl (fun bs g => bs ++ [g.val env bs]) []
theorem bitsOf_snoc (env : Bits) (gs : List Gt) (g : Gt) : bitsOf env (gs ++ [g]) = bitsOf env gs ++ [g.val env (bitsOf env gs)] := by
  unfold bitsOf
  rw [List.foldl_append]
  rfl
theorem snoc_cases {α : Type} (xs : List α) : xs = [] ∨ ∃ ys y, xs = ys ++ [y] := by
  rcases xs.eq_nil_or_concat with h | ⟨ys, y, h⟩
  · exact .inl h
  · exact .inr ⟨ys, y, by rw [h, List.concat_eq_append]⟩
theorem snoc_rec {α : Type} {p : List α → Prop} (h0 : p []) (h1 : ∀ xs x, p xs → p (xs ++ [x])) : ∀ xs, p xs := by
  intro xs
  have : ∀ n (xs : List α), xs.length = n → p xs := by
    intro n
    induction n with
    | zero => intro xs h; rw [List.length_eq_zero_iff.mp h]; exact h0
    | succ n ih =>
      intro xs h
      rcases snoc_cases xs with e | ⟨ys, y, e⟩
      · rw [e]; exact h0
      · rw [e] at h ⊢
        exact h1 ys y (ih ys (by rw [List.length_append, List.length_singleton] at h; omega))
  exact this _ xs rfl
theorem bitsOf_len (env : Bits) (gs : List Gt) : (bitsOf env gs).length = gs.length := by
  induction gs using snoc_rec with
  | h0 => rfl
  | h1 xs x ih => rw [bitsOf_snoc, List.length_append, List.length_append, ih]; rfl
theorem bitsOf_pre (env : Bits) (gs more : List Gt) : ∃ t, bitsOf env (gs ++ more) = bitsOf env gs ++ t := by
  induction more using snoc_rec with
  | h0 => exact ⟨[], by rw [List.append_nil, List.append_nil]⟩
  | h1 xs x ih =>
    obtain ⟨t, ht⟩ := ih
    rw [← List.append_assoc, bitsOf_snoc, ht]
    exact ⟨t ++ [x.val env (bitsOf env gs ++ t)], by rw [List.append_assoc]⟩
def okL (gs : List Gt) (x : Int) : Prop := 0 ≤ x ∧ x < 2 * (gs.length : Int)
theorem okL.mono {gs gs' : List Gt} {x : Int} (h : okL gs x) (p : gs <+: gs') : okL gs' x := ⟨h.1, by have := p.length_le; have := h.2; omega⟩
theorem litv_pre {env : Bits} {gs gs' : List Gt} {x : Int} (h : okL gs x) (p : gs <+: gs') : litv (bitsOf env gs') x = litv (bitsOf env gs) x := by
  obtain ⟨more, rfl⟩ := p
  obtain ⟨t, e⟩ := bitsOf_pre env gs more
  have hl : (x / 2).toNat < (bitsOf env gs).length := by rw [bitsOf_len]; have := h.1; have := h.2; omega
  unfold litv
  rw [e, List.getD_eq_getElem?_getD, List.getElem?_append_left hl, ← List.getD_eq_getElem?_getD]
/-- gates in order -/
structure okGs (gs : List Gt) : Prop where
  first : gs[0]? = some .no
  parts : ∀ (i : Nat) (g : Gt), gs[i]? = some g → ∀ x ∈ g.parts, 0 ≤ x ∧ x < 2 * (i : Int)
theorem okGs.pos {gs : List Gt} (h : okGs gs) : 0 < gs.length := by
  have := h.first
  cases gs with
  | nil => cases this
  | cons g r => exact Nat.succ_pos _
theorem okGs.snoc {gs : List Gt} (h : okGs gs) {g : Gt} (hg : ∀ x ∈ g.parts, okL gs x) : okGs (gs ++ [g]) := by
  refine ⟨?_, fun i g' e x hx => ?_⟩
  · rw [List.getElem?_append_left h.pos]
    exact h.first
  · by_cases hi : i < gs.length
    · rw [List.getElem?_append_left hi] at e
      exact h.parts i g' e x hx
    · rw [List.getElem?_append_right (by omega)] at e
      have hi2 : i = gs.length := by
        have := (List.getElem?_eq_some_iff.mp e).1
        rw [List.length_singleton] at this
        omega
      rw [hi2, Nat.sub_self] at e
      cases e
      rw [hi2]
      exact hg x hx
def bitEnv (env : Bits) : Prop := ∀ n, env n = 0 ∨ env n = 1
theorem getD_app {α : Type} {xs : List α} {y d : α} {i : Nat} : (xs ++ [y]).getD i d = if i < xs.length then xs.getD i d else if i = xs.length then y else d := by
  rw [List.getD_eq_getElem?_getD, List.getD_eq_getElem?_getD]
  by_cases h : i < xs.length
  · rw [if_pos h, List.getElem?_append_left h]
  · rw [if_neg h, List.getElem?_append_right (by omega)]
    by_cases h2 : i = xs.length
    · rw [if_pos h2, h2, Nat.sub_self]; rfl
    · rw [if_neg h2, List.getElem?_eq_none (by rw [List.length_singleton]; omega)]; rfl
theorem litv_bit {bs : List Int} (h : ∀ b ∈ bs, b = 0 ∨ b = 1) (x : Int) : litv bs x = 0 ∨ litv bs x = 1 := by
  have k : bs.getD (x / 2).toNat 0 = 0 ∨ bs.getD (x / 2).toNat 0 = 1 := by
    rw [List.getD_eq_getElem?_getD]
    cases e : bs[(x / 2).toNat]? with
    | none => exact .inl rfl
    | some b => exact h b (List.mem_of_getElem? e)
  unfold litv
  split <;> omega
theorem bits_bit {env : Bits} (he : bitEnv env) (gs : List Gt) : ∀ b ∈ bitsOf env gs, b = 0 ∨ b = 1 := by
  induction gs using snoc_rec with
  | h0 => intro b hb; cases hb
  | h1 xs g ih =>
    intro b hb
    rw [bitsOf_snoc] at hb
    rcases List.mem_append.mp hb with hb | hb
    · exact ih b hb
    · rw [List.mem_singleton.mp hb]
      cases g with
      | no => exact .inl rfl
      | bit n => exact he n
      | both x y => show (if _ then (1 : Int) else 0) = 0 ∨ (if _ then (1 : Int) else 0) = 1; split <;> simp
      | unlike x y => show (if _ then (0 : Int) else 1) = 0 ∨ (if _ then (0 : Int) else 1) = 1; split <;> simp
      | chosen c x y =>
        show (if litv (bitsOf env xs) c = 1 then litv (bitsOf env xs) x else litv (bitsOf env xs) y) = 0 ∨ (if litv (bitsOf env xs) c = 1 then litv (bitsOf env xs) x else litv (bitsOf env xs) y) = 1
        split
        · exact litv_bit ih x
        · exact litv_bit ih y
      | most x y z => show (if _ then (1 : Int) else 0) = 0 ∨ (if _ then (1 : Int) else 0) = 1; split <;> simp
/-- the bit of gate i -/
theorem bits_at {env : Bits} : ∀ (gs : List Gt), okGs gs → ∀ (i : Nat) (g : Gt), gs[i]? = some g → (bitsOf env gs).getD i 0 = g.val env (bitsOf env gs) := by
  have vcongr : ∀ (g : Gt) (a b : List Int), (∀ x ∈ g.parts, litv a x = litv b x) → g.val env a = g.val env b := by
    intro g a b h
    cases g with
    | no => rfl
    | bit n => rfl
    | both x y => show (if litv a x + litv a y ≥ 2 then (1 : Int) else 0) = _; rw [h x (.head _), h y (.tail _ (.head _))]; rfl
    | unlike x y => show (if litv a x = litv a y then (0 : Int) else 1) = _; rw [h x (.head _), h y (.tail _ (.head _))]; rfl
    | chosen c x y => show (if litv a c = 1 then litv a x else litv a y) = _; rw [h c (.head _), h x (.tail _ (.head _)), h y (.tail _ (.tail _ (.head _)))]; rfl
    | most x y z => show (if litv a x + litv a y + litv a z ≥ 2 then (1 : Int) else 0) = _; rw [h x (.head _), h y (.tail _ (.head _)), h z (.tail _ (.tail _ (.head _)))]; rfl
  intro gs hk i g hg
  have hi := (List.getElem?_eq_some_iff.mp hg).1
  have e : gs = gs.take i ++ ([g] ++ gs.drop (i + 1)) := by
    have hgi : gs[i] = g := (List.getElem?_eq_some_iff.mp hg).2
    conv => lhs; rw [← List.take_append_drop i gs, List.drop_eq_getElem_cons hi, hgi]
    rfl
  have hpre : gs.take i <+: gs := List.take_prefix _ _
  have hlen : (gs.take i).length = i := by rw [List.length_take]; omega
  have hparts := hk.parts i g hg
  obtain ⟨t, ht⟩ := bitsOf_pre env (gs.take i ++ [g]) (gs.drop (i + 1))
  rw [List.append_assoc, ← e] at ht
  have h1 : (bitsOf env gs).getD i 0 = g.val env (bitsOf env (gs.take i)) := by
    rw [ht, bitsOf_snoc, List.getD_eq_getElem?_getD, List.getElem?_append_left (by rw [List.length_append, bitsOf_len, hlen, List.length_singleton]; omega), ← List.getD_eq_getElem?_getD, getD_app, bitsOf_len, hlen, if_neg (Nat.lt_irrefl i), if_pos rfl]
  rw [h1]
  refine vcongr g _ _ fun x hx => (litv_pre ⟨(hparts x hx).1, by rw [hlen]; exact (hparts x hx).2⟩ hpre).symm
/-! ### literals -/
theorem xor1 (x : Int) : Builtin.bitXor x 1 = if x % 2 = 0 then x + 1 else x - 1 := by
  rw [bitXor_and, bitAnd_m1]
  split <;> omega
theorem litv_xor1 {bs : List Int} {x : Int} (h0 : 0 ≤ x) : litv bs (Builtin.bitXor x 1) = 1 - litv bs x := by
  rw [xor1]
  unfold litv
  by_cases h : x % 2 = 0
  · rw [if_pos h, if_pos h, if_neg (by omega), show (x + 1) / 2 = x / 2 by omega]
  · rw [if_neg h, if_neg h, if_pos (by omega), show (x - 1) / 2 = x / 2 by omega]
    omega
theorem okL_xor1 {gs : List Gt} {x : Int} (h : okL gs x) : okL gs (Builtin.bitXor x 1) := by
  rw [xor1]
  have := h.1
  have := h.2
  unfold okL
  split <;> omega
theorem xor_t {x t : Int} (ht : t = 0 ∨ t = 1) : Builtin.bitXor x t = if t = 0 then x else Builtin.bitXor x 1 := by
  rcases ht with h | h <;> rw [h]
  · rw [bitXor_zero, if_pos rfl]
  · rw [if_neg (by decide)]
theorem litv_xort {bs : List Int} {x t : Int} (h0 : 0 ≤ x) (ht : t = 0 ∨ t = 1) : litv bs (Builtin.bitXor x t) = if t = 0 then litv bs x else 1 - litv bs x := by
  rw [xor_t ht]
  split
  · rfl
  · exact litv_xor1 h0
theorem okL_xort {gs : List Gt} {x t : Int} (h : okL gs x) (ht : t = 0 ∨ t = 1) : okL gs (Builtin.bitXor x t) := by
  rw [xor_t ht]
  split
  · exact h
  · exact okL_xor1 h
/-- the literal without its turn -/
theorem even_of (x : Int) : Builtin.bitXor x (Builtin.bitAnd x 1) = x - x % 2 := by
  rw [bitAnd_m1, bitXor_and]
  have h : x % 2 = 0 ∨ x % 2 = 1 := by omega
  rcases h with h | h <;> rw [h]
  · rw [bitAnd_zero]; omega
  · rw [bitAnd_m1]; omega
theorem turned_of (x y : Int) : Builtin.bitAnd (Builtin.bitXor x y) 1 = (x + y) % 2 := by
  rw [bitAnd_m1, bitXor_and]
  omega
theorem litv_even {bs : List Int} (x : Int) : litv bs (x - x % 2) = if x % 2 = 0 then litv bs x else 1 - litv bs x := by
  unfold litv
  by_cases h : x % 2 = 0
  · rw [if_pos h, if_pos h, if_pos (by omega), show x - x % 2 = x by omega]
  · rw [if_neg h, if_neg h, if_pos (by omega), show (x - x % 2) / 2 = x / 2 by omega]
    omega
theorem litv_no {env : Bits} {gs : List Gt} (h : okGs gs) : litv (bitsOf env gs) 0 = 0 := by
  show (if (0 : Int) % 2 = 0 then (bitsOf env gs).getD 0 0 else 1 - (bitsOf env gs).getD 0 0) = 0
  rw [if_pos (by decide), bits_at gs h 0 .no h.first]
  rfl
theorem litv_yes {env : Bits} {gs : List Gt} (h : okGs gs) : litv (bitsOf env gs) 1 = 1 := by
  show (if (1 : Int) % 2 = 0 then (bitsOf env gs).getD 0 0 else 1 - (bitsOf env gs).getD 0 0) = 1
  rw [if_neg (by decide), bits_at gs h 0 .no h.first]
  rfl
end My

set_option Elab.async false
set_option maxRecDepth 100000
set_option maxHeartbeats 4000000
set_option linter.all false
/-! Pools in the heap. -/
namespace My
open PySem PySem.Spec PyProof.Rows L2
/-! ### all but some things stays -/
def But (A : List Addr) (H H' : Hp) : Prop := ∀ b o, b ∉ A → H b = some o → H' b = some o
theorem But.refl (A : List Addr) (H : Hp) : But A H H := fun _ _ _ h => h
theorem But.trans {A : List Addr} {H H' H'' : Hp} (h : But A H H') (k : But A H' H'') : But A H H'' := fun b o n e => k b o n (h b o n e)
theorem But.wide {A B : List Addr} {H H' : Hp} (h : But A H H') (s : ∀ a ∈ A, a ∈ B) : But B H H' := fun b o n e => h b o (fun m => n (s b m)) e
theorem But.of_same {A : List Addr} {H H' : Hp} (h : Same H H') : But A H H' := fun b o _ e => h b o e
theorem But.of_hide {d : Addr} {H H' : Hp} (h : Same (hide d H) (hide d H')) : But [d] H H' := fun b o n e => hide_le _ _ (h b o (hide_in e fun z => n (by rw [z]; exact List.mem_singleton_self d)))
theorem But.to_hide {d : Addr} {H H' : Hp} (h : But [d] H H') : Same (hide d H) (hide d H') := fun b o e => by
  obtain ⟨h1, h2⟩ := hide_some e
  exact hide_in (h b o (fun m => h1 (List.mem_singleton.mp m)) h2) h1
theorem But.new {A : List Addr} {H : Hp} {p : Addr} (h : H p = none) (o : HO) : But A H (upd H p o) := .of_same (same_new h o)
theorem But.put {A : List Addr} {H : Hp} {p : Addr} (h : p ∈ A) (o : HO) : But A H (upd H p o) := fun b u n e => by
  rw [upd_ne fun z => n (by rw [z]; exact h)]
  exact e
theorem sqt_but {K : PySem.W.Frag} {A : List Addr} {H H' : Hp} (hA : ∀ a ∈ A, Mut (H a)) (hb : But A H H') {a : Addr} {xs : List V} (h : SqT K H a xs) : SqT K H' a xs := by
  rcases h with (h | ⟨o, h⟩) | h
  · refine .inl (.inl (hb a _ (fun m => ?_) h))
    have := hA a m
    rw [h] at this
    exact this
  · refine .inl (.inr ⟨o, hb a _ (fun m => ?_) h⟩)
    have := hA a m
    rw [h] at this
    exact this
  · exact .inr h
mutual
theorem dp_but {K : PySem.W.Frag} {A : List Addr} {H H' : Hp} (hA : ∀ a ∈ A, Mut (H a)) (hb : But A H H') : ∀ (d : PyData) {v : V}, noLst d = true → Dp K H v d → Dp K H' v d
  | .none, _, _, .non => .non
  | .bool _, _, _, .bl b => .bl b
  | .int _, _, _, .int i => .int i
  | .str _, _, _, .str x => .str x
  | .list ds, _, n, _ => by cases (show false = true from n)
  | .tuple ds, _, n, .tup h hs => .tup (sqt_but hA hb h) (dpa_but hA hb ds n hs)
  | .dict _, _, _, h => by cases h
theorem dpa_but {K : PySem.W.Frag} {A : List Addr} {H H' : Hp} (hA : ∀ a ∈ A, Mut (H a)) (hb : But A H H') : ∀ (ds : List PyData) {vs : List V}, noLsts ds = true → DpAll K H vs ds → DpAll K H' vs ds
  | [], _, _, .nil => .nil
  | d :: ds, _, n, .cons h hs => by
    have n' := Bool.and_eq_true_iff.mp (show (noLst d && noLsts ds) = true from n)
    exact .cons (dp_but hA hb d n'.1 h) (dpa_but hA hb ds n'.2 hs)
end
mutual
theorem nk_noLst : ∀ k : NK, noLst k.data = true
  | .none => rfl
  | .num _ => rfl
  | .text _ => rfl
  | .tup ks => nks_noLst ks
theorem nks_noLst : ∀ ks : List NK, noLsts (NestedKey.datas ks) = true
  | [] => rfl
  | k :: ks => by
    show (noLst k.data && noLsts (NestedKey.datas ks)) = true
    rw [nk_noLst k, nks_noLst ks]
    rfl
end
/-! ### the class, a pool -/
structure PlK (K : PySem.W.Frag) (C : Addr) : Prop where
  cls : L2.Cls K C
  g : L2.NoAttr K C "gates"
  l : L2.NoAttr K C "literals"
def plFs (G D : Addr) : List (Str × V) := putF "literals" (.ref D) (putF "gates" (.ref G) [])
theorem plFs_g (G D : Addr) : (plFs G D).lookup ("gates" : Str) = some (.ref G) := by
  unfold plFs
  rw [lookup_putF, if_neg (by decide +kernel), lookup_putF, if_pos rfl]
theorem plFs_l (G D : Addr) : (plFs G D).lookup ("literals" : Str) = some (.ref D) := by
  unfold plFs
  rw [lookup_putF, if_pos rfl]
theorem plFs_no (G D : Addr) {m : Str} (h1 : ¬ m = "literals") (h2 : ¬ m = "gates") : (plFs G D).lookup m = none := by
  unfold plFs
  rw [lookup_putF, if_neg h1, lookup_putF, if_neg h2]
  rfl
/-- the literals' rows from gate i on -/
def plRows : Nat → List Gt → List Addr → NRows
  | i, g :: gs, t :: ts => (g.nk, t, .int (2 * (i : Int))) :: plRows (i + 1) gs ts
  | _, _, _ => []
theorem plRows_snoc {g : Gt} {t : Addr} : ∀ {i : Nat} {gs : List Gt} {ts : List Addr}, gs.length = ts.length → plRows i (gs ++ [g]) (ts ++ [t]) = plRows i gs ts ++ [(g.nk, t, .int (2 * ((i + gs.length : Nat) : Int)))]
  | i, [], [], _ => rfl
  | i, g' :: gs, t' :: ts, h => by
    show (g'.nk, t', V.int (2 * (i : Int))) :: plRows (i + 1) (gs ++ [g]) (ts ++ [t]) = _
    rw [plRows_snoc (by simpa using h), show i + 1 + gs.length = i + (g' :: gs).length by simp; omega]
    rfl
theorem plRows_len : ∀ {i : Nat} {gs : List Gt} {ts : List Addr}, gs.length = ts.length → (plRows i gs ts).length = gs.length
  | i, [], [], _ => rfl
  | i, g' :: gs, t' :: ts, h => by
    show (plRows (i + 1) gs ts).length + 1 = gs.length + 1
    rw [plRows_len (by simpa using h)]
theorem plRows_mem {x : NRow} : ∀ {i : Nat} {gs : List Gt} {ts : List Addr}, x ∈ plRows i gs ts → ∃ (j : Nat) (g : Gt), gs[j]? = some g ∧ ts[j]? = some x.2.1 ∧ x.1 = g.nk ∧ x.2.2 = .int (2 * ((i + j : Nat) : Int))
  | i, [], _, h => by cases h
  | i, _ :: _, [], h => by cases h
  | i, g :: gs, t :: ts, h => by
    rcases List.mem_cons.mp (show x ∈ (g.nk, t, V.int (2 * (i : Int))) :: plRows (i + 1) gs ts from h) with e | h
    · rw [e]
      exact ⟨0, g, rfl, rfl, rfl, rfl⟩
    · obtain ⟨j, g', h1, h2, h3, h4⟩ := plRows_mem h
      exact ⟨j + 1, g', by rw [List.getElem?_cons_succ]; exact h1, by rw [List.getElem?_cons_succ]; exact h2, h3, by rw [h4, show i + 1 + j = i + (j + 1) by omega]⟩
theorem plRows_has {g : Gt} : ∀ {i j : Nat} {gs : List Gt} {ts : List Addr}, gs.length = ts.length → gs[j]? = some g → ∃ x ∈ plRows i gs ts, x.1 = g.nk
  | i, j, [], _, _, h => by simp at h
  | i, j, _ :: _, [], h, _ => by simp at h
  | i, 0, g' :: gs, t :: ts, h, e => by
    rw [List.getElem?_cons_zero] at e
    cases e
    exact ⟨_, .head _, rfl⟩
  | i, j + 1, g' :: gs, t :: ts, h, e => by
    rw [List.getElem?_cons_succ] at e
    obtain ⟨x, h1, h2⟩ := plRows_has (i := i + 1) (gs := gs) (ts := ts) (by simpa using h) e
    exact ⟨x, .tail _ h1, h2⟩
def drop1 (gs : List Gt) (ts : List Addr) : NRows := plRows 1 (gs.drop 1) (ts.drop 1)
theorem Gt.nk_inj : ∀ {a b : Gt}, a.nk = b.nk → a = b := by
  intro a b h
  cases a <;> cases b <;> simp only [Gt.nk, NestedKey.tup.injEq, List.cons.injEq, NestedKey.text.injEq, NestedKey.num.injEq, and_true, reduceCtorEq, and_false, false_and, true_and] at h <;> first
    | rfl
    | (exfalso; revert h; decide +kernel)
    | (exfalso; exact absurd h.1 (by decide +kernel))
    | (obtain ⟨rfl, rfl, rfl⟩ := h; rfl)
    | (obtain ⟨rfl, rfl⟩ := h; rfl)
    | (subst h; rfl)
structure PoolAt (P : Program) (w : World) (K : PySem.W.Frag) (H : Hp) (C p G D : Addr) (gs : List Gt) : Prop where
  cl : PlK K C
  ok : okGs gs
  nd : (gs.map Gt.nk).Nodup
  len : gs.length ≤ 100000
  nm : ∀ n, Gt.bit n ∈ gs → ∃ ks, n = NestedKey.tup ks
  at_ : ∃ (dx : Addr) (ts : List Addr), H p = some (.ins C dx (plFs G D)) ∧ H G = some (.lst (ts.map V.ref)) ∧ ts.length = gs.length ∧ (∀ (i : Nat) (g : Gt) (t : Addr), gs[i]? = some g → ts[i]? = some t → Dp K H (.ref t) g.nk.data ∧ g.nk.depth ≤ 8) ∧ (H D = some (dnO P w D (drop1 gs ts)) ∨ (drop1 gs ts = [] ∧ H D = some (.dK [])))
section
variable {P : Program} {w : World} {K : PySem.W.Frag} {H H' : Hp} {C p G D : Addr} {gs : List Gt}
theorem PoolAt.mut (A : PoolAt P w K H C p G D gs) : ∀ a ∈ [G, D], Mut (H a) := by
  obtain ⟨dx, ts, h1, h2, h3, h4, h5⟩ := A.at_
  intro a ha
  rcases List.mem_cons.mp ha with e | ha
  · rw [e, h2]; exact True.intro
  · rw [List.mem_singleton.mp ha]
    rcases h5 with e | ⟨_, e⟩ <;> rw [e] <;> exact True.intro
theorem PoolAt.dn (A : PoolAt P w K H C p G D gs) {dx : Addr} {ts : List Addr} (h3 : ts.length = gs.length) (h4 : ∀ (i : Nat) (g : Gt) (t : Addr), gs[i]? = some g → ts[i]? = some t → Dp K H (.ref t) g.nk.data ∧ g.nk.depth ≤ 8) (h5 : H D = some (dnO P w D (drop1 gs ts)) ∨ (drop1 gs ts = [] ∧ H D = some (.dK []))) : DN P w K H D (drop1 gs ts) := by
  refine ⟨h5, ?_, fun x hx => ?_⟩
  · unfold drop1
    rw [plRows_len (by rw [List.length_drop, List.length_drop, h3]), List.length_drop]
    have := A.len
    exact Nat.le_trans (by omega) (show 100000 ≤ sizeLine by decide)
  · obtain ⟨j, g, e1, e2, e3, e4⟩ := plRows_mem hx
    rw [List.getElem?_drop] at e1 e2
    rw [e3]
    exact h4 _ _ _ e1 e2
/-- a pool stays while other things change -/
theorem PoolAt.keep (A : PoolAt P w K H C p G D gs) {S : List Addr} (hS : ∀ a ∈ S, Mut (H a)) (hb : But S H H') (np : p ∉ S) (nG : G ∉ S) (nD : D ∉ S) : PoolAt P w K H' C p G D gs := by
  obtain ⟨dx, ts, h1, h2, h3, h4, h5⟩ := A.at_
  refine ⟨A.cl, A.ok, A.nd, A.len, A.nm, dx, ts, hb _ _ np h1, hb _ _ nG h2, h3, fun i g t e1 e2 => ?_, ?_⟩
  · obtain ⟨k1, k2⟩ := h4 i g t e1 e2
    exact ⟨dp_but hS hb _ (nk_noLst _) k1, k2⟩
  · rcases h5 with e | ⟨e0, e⟩
    · exact .inl (hb _ _ nD e)
    · exact .inr ⟨e0, hb _ _ nD e⟩
theorem PoolAt.same (A : PoolAt P w K H C p G D gs) (s : Same H H') : PoolAt P w K H' C p G D gs := A.keep (S := []) (fun _ h => nomatch h) (.of_same s) (fun h => nomatch h) (fun h => nomatch h) (fun h => nomatch h)
end
end My


set_option Elab.async false
set_option maxRecDepth 100000
set_option maxHeartbeats 4000000
set_option linter.all false
namespace My
open PySem L2
open C8 (pss_cut)
def top (i : Nat) : Stmt := PySem.Challenge.pw_inputways_k31_ops_as_circuits.main.body.getD i (.Pass ⟨0, 0, 0, 0⟩)
abbrev s__law_draw : Stmt := top 20
abbrev N__law_draw : List Str := ["script", "seed", "cell"]
theorem sc__law_draw : FnScope N__law_draw ["script"] (defScope s__law_draw) := ⟨rfl, rfl, rfl, by decide +kernel, rfl, by decide +kernel, by decide +kernel⟩
abbrev s__law_take : Stmt := top 21
abbrev N__law_take : List Str := ["draw", "many", "found"]
theorem sc__law_take : FnScope N__law_take ["draw", "many"] (defScope s__law_take) := ⟨rfl, rfl, rfl, by decide +kernel, rfl, by decide +kernel, by decide +kernel⟩
abbrev s_Pool___init__ : Stmt := inClass (top 4) 0
abbrev N_Pool___init__ : List Str := ["self"]
theorem sc_Pool___init__ : FnScope N_Pool___init__ ["self"] (defScope s_Pool___init__) := ⟨rfl, rfl, rfl, by decide +kernel, rfl, by decide +kernel, by decide +kernel⟩
abbrev s_Pool_bit : Stmt := inClass (top 4) 1
abbrev N_Pool_bit : List Str := ["self", "name"]
theorem sc_Pool_bit : FnScope N_Pool_bit ["self", "name"] (defScope s_Pool_bit) := ⟨rfl, rfl, rfl, by decide +kernel, rfl, by decide +kernel, by decide +kernel⟩
abbrev s_Pool_both : Stmt := inClass (top 4) 2
abbrev N_Pool_both : List Str := ["self", "x", "y"]
theorem sc_Pool_both : FnScope N_Pool_both ["self", "x", "y"] (defScope s_Pool_both) := ⟨rfl, rfl, rfl, by decide +kernel, rfl, by decide +kernel, by decide +kernel⟩
abbrev s_Pool_either : Stmt := inClass (top 4) 3
abbrev N_Pool_either : List Str := ["self", "x", "y"]
theorem sc_Pool_either : FnScope N_Pool_either ["self", "x", "y"] (defScope s_Pool_either) := ⟨rfl, rfl, rfl, by decide +kernel, rfl, by decide +kernel, by decide +kernel⟩
abbrev s_Pool_unlike : Stmt := inClass (top 4) 4
abbrev N_Pool_unlike : List Str := ["self", "x", "y", "turned"]
theorem sc_Pool_unlike : FnScope N_Pool_unlike ["self", "x", "y"] (defScope s_Pool_unlike) := ⟨rfl, rfl, rfl, by decide +kernel, rfl, by decide +kernel, by decide +kernel⟩
abbrev s_Pool_chosen : Stmt := inClass (top 4) 5
abbrev N_Pool_chosen : List Str := ["self", "c", "x", "y", "turned"]
theorem sc_Pool_chosen : FnScope N_Pool_chosen ["self", "c", "x", "y"] (defScope s_Pool_chosen) := ⟨rfl, rfl, rfl, by decide +kernel, rfl, by decide +kernel, by decide +kernel⟩
abbrev s_Pool_most : Stmt := inClass (top 4) 6
abbrev N_Pool_most : List Str := ["self", "x", "y", "z", "turned"]
theorem sc_Pool_most : FnScope N_Pool_most ["self", "x", "y", "z"] (defScope s_Pool_most) := ⟨rfl, rfl, rfl, by decide +kernel, rfl, by decide +kernel, by decide +kernel⟩
abbrev s_Pool_literal_of : Stmt := inClass (top 4) 12
abbrev N_Pool_literal_of : List Str := ["self", "gate"]
theorem sc_Pool_literal_of : FnScope N_Pool_literal_of ["self", "gate"] (defScope s_Pool_literal_of) := ⟨rfl, rfl, rfl, by decide +kernel, rfl, by decide +kernel, by decide +kernel⟩
abbrev s_Pool_computed : Stmt := inClass (top 4) 15
abbrev N_Pool_computed : List Str := ["self", "literals", "bits", "found", "k", "x"]
theorem sc_Pool_computed : FnScope N_Pool_computed ["self", "literals", "bits"] (defScope s_Pool_computed) := ⟨rfl, rfl, rfl, by decide +kernel, rfl, by decide +kernel, by decide +kernel⟩
abbrev s_Pool_cone : Stmt := inClass (top 4) 16
abbrev N_Pool_cone : List Str := ["self", "literals", "seen", "found", "todo", "k", "gate", "x"]
theorem sc_Pool_cone : FnScope N_Pool_cone ["self", "literals", "seen"] (defScope s_Pool_cone) := ⟨rfl, rfl, rfl, by decide +kernel, rfl, by decide +kernel, by decide +kernel⟩
abbrev s_both_gate : Stmt := top 5
abbrev N_both_gate : List Str := ["x", "y"]
theorem sc_both_gate : FnScope N_both_gate ["x", "y"] (defScope s_both_gate) := ⟨rfl, rfl, rfl, by decide +kernel, rfl, by decide +kernel, by decide +kernel⟩
abbrev s_gate_value : Stmt := top 6
abbrev N_gate_value : List Str := ["gate", "found", "bits", "kind", "parts", "x"]
theorem sc_gate_value : FnScope N_gate_value ["gate", "found", "bits"] (defScope s_gate_value) := ⟨rfl, rfl, rfl, by decide +kernel, rfl, by decide +kernel, by decide +kernel⟩
abbrev s_constant : Stmt := top 8
abbrev N_constant : List Str := ["pool", "n", "w", "k"]
theorem sc_constant : FnScope N_constant ["pool", "n", "w"] (defScope s_constant) := ⟨rfl, rfl, rfl, by decide +kernel, rfl, by decide +kernel, by decide +kernel⟩
abbrev s_added : Stmt := top 9
abbrev N_added : List Str := ["pool", "x", "y", "carry", "total", "a", "b"]
theorem sc_added : FnScope N_added ["pool", "x", "y", "carry"] (defScope s_added) := ⟨rfl, rfl, rfl, by decide +kernel, rfl, by decide +kernel, by decide +kernel⟩
abbrev s_computed : Stmt := top 10
abbrev N_computed : List Str := ["pool", "op", "x", "y", "truth", "a", "b"]
theorem sc_computed : FnScope N_computed ["pool", "op", "x", "y"] (defScope s_computed) := ⟨rfl, rfl, rfl, by decide +kernel, rfl, by decide +kernel, by decide +kernel⟩
abbrev s_single : Stmt := top 11
abbrev N_single : List Str := ["pool", "op", "x"]
theorem sc_single : FnScope N_single ["pool", "op", "x"] (defScope s_single) := ⟨rfl, rfl, rfl, by decide +kernel, rfl, by decide +kernel, by decide +kernel⟩
abbrev s_turned : Stmt := top 12
abbrev N_turned : List Str := ["x", "a"]
theorem sc_turned : FnScope N_turned ["x"] (defScope s_turned) := ⟨rfl, rfl, rfl, by decide +kernel, rfl, by decide +kernel, by decide +kernel⟩
abbrev s_multiplied : Stmt := top 13
abbrev N_multiplied : List Str := ["pool", "x", "y", "total", "k", "bit", "row", "a"]
theorem sc_multiplied : FnScope N_multiplied ["pool", "x", "y"] (defScope s_multiplied) := ⟨rfl, rfl, rfl, by decide +kernel, rfl, by decide +kernel, by decide +kernel⟩
abbrev s_shifted_left : Stmt := top 14
abbrev N_shifted_left : List Str := ["pool", "x", "y", "w", "k", "bit", "far"]
theorem sc_shifted_left : FnScope N_shifted_left ["pool", "x", "y"] (defScope s_shifted_left) := ⟨rfl, rfl, rfl, by decide +kernel, rfl, by decide +kernel, by decide +kernel⟩
abbrev s_less_word : Stmt := top 15
abbrev N_less_word : List Str := ["pool", "x", "y", "less", "a", "b"]
theorem sc_less_word : FnScope N_less_word ["pool", "x", "y"] (defScope s_less_word) := ⟨rfl, rfl, rfl, by decide +kernel, rfl, by decide +kernel, by decide +kernel⟩
abbrev s_equal_word : Stmt := top 16
abbrev N_equal_word : List Str := ["pool", "x", "y", "equal", "a", "b"]
theorem sc_equal_word : FnScope N_equal_word ["pool", "x", "y"] (defScope s_equal_word) := ⟨rfl, rfl, rfl, by decide +kernel, rfl, by decide +kernel, by decide +kernel⟩
abbrev s_chosen_word : Stmt := top 17
abbrev N_chosen_word : List Str := ["pool", "c", "x", "y", "a", "b"]
theorem sc_chosen_word : FnScope N_chosen_word ["pool", "c", "x", "y"] (defScope s_chosen_word) := ⟨rfl, rfl, rfl, by decide +kernel, rfl, by decide +kernel, by decide +kernel⟩
abbrev s_word_value : Stmt := top 18
abbrev N_word_value : List Str := ["pool", "x", "bits", "number", "k", "bit"]
theorem sc_word_value : FnScope N_word_value ["pool", "x", "bits"] (defScope s_word_value) := ⟨rfl, rfl, rfl, by decide +kernel, rfl, by decide +kernel, by decide +kernel⟩
abbrev s__law_top : Stmt := top 22
abbrev N__law_top : List Str := ["w"]
theorem sc__law_top : FnScope N__law_top ["w"] (defScope s__law_top) := ⟨rfl, rfl, rfl, by decide +kernel, rfl, by decide +kernel, by decide +kernel⟩
abbrev s__law_compute : Stmt := top 23
abbrev N__law_compute : List Str := ["op", "w", "x", "y", "size", "found", "k", "both"]
theorem sc__law_compute : FnScope N__law_compute ["op", "w", "x", "y"] (defScope s__law_compute) := ⟨rfl, rfl, rfl, by decide +kernel, rfl, by decide +kernel, by decide +kernel⟩
abbrev s__law_word : Stmt := top 24
abbrev N__law_word : List Str := ["draw", "pool", "w", "rows", "what", "n", "v", "at", "k"]
theorem sc__law_word : FnScope N__law_word ["draw", "pool", "w", "rows"] (defScope s__law_word) := ⟨rfl, rfl, rfl, by decide +kernel, rfl, by decide +kernel, by decide +kernel⟩
abbrev s__law_number : Stmt := top 25
abbrev N__law_number : List Str := ["made", "words", "values"]
theorem sc__law_number : FnScope N__law_number ["made", "words", "values"] (defScope s__law_number) := ⟨rfl, rfl, rfl, by decide +kernel, rfl, by decide +kernel, by decide +kernel⟩
abbrev s__law_words : Stmt := top 26
abbrev N__law_words : List Str := ["draw", "w", "v"]
theorem sc__law_words : FnScope N__law_words ["draw", "w"] (defScope s__law_words) := ⟨rfl, rfl, rfl, by decide +kernel, rfl, by decide +kernel, by decide +kernel⟩
abbrev s__law_bits : Stmt := top 27
abbrev N__law_bits : List Str := ["words", "w", "bits", "v", "k"]
theorem sc__law_bits : FnScope N__law_bits ["words", "w"] (defScope s__law_bits) := ⟨rfl, rfl, rfl, by decide +kernel, rfl, by decide +kernel, by decide +kernel⟩
abbrev s_law : Stmt := top 28
abbrev N_law : List Str := ["script", "draw", "w", "pool", "rows", "k", "x", "y", "op", "turn", "words", "values", "bits", "row"]
theorem sc_law : FnScope N_law ["script"] (defScope s_law) := ⟨rfl, rfl, rfl, by decide +kernel, rfl, by decide +kernel, by decide +kernel⟩
/-- what the top binds: built-ins that are not shadowed -/
structure Txt (K : PySem.W.Frag) (mg : Str → Option Value) : Prop where
  m_abs : mg "abs" = none
  m_enumerate : mg "enumerate" = none
  m_int : mg "int" = none
  m_len : mg "len" = none
  m_list : mg "list" = none
  m_max : mg "max" = none
  m_min : mg "min" = none
  m_range : mg "range" = none
  m_sorted : mg "sorted" = none
  m_sum : mg "sum" = none
  m_zip : mg "zip" = none
section
variable {P : Program} {w : World} {K : PySem.W.Frag} {mg : Str → Option Value} {base : Heap} {f : Addr} {fd : FuncData}
theorem ok__law_take (T : Txt K mg) (D : Def K mg "_law_take" ["draw", "many"] s__law_take f fd) : Own P w K mg base "_law_take" ["draw", "many"] 1 spTake := by
  refine ⟨f, fd, D.mg, D.fn.kp, D.bd, D.fn.ok sc__law_take (fun vs H Q E h => ?_) (fun cdv A outer s H vs Q E hr h => ?_)⟩
  · obtain ⟨d, L, m, rfl, _⟩ := h
    rfl
  · obtain ⟨d, L, m, rfl, hm0, hm1, hD, q⟩ := h
    obtain ⟨ns, at_, left, seed, h1, h2, hdL, hpos, ha, hl, hs, hs2⟩ := hD
    refine ⟨_, (pss_cut (ps_if (pt_cmpR op_eq (pe_ix ix_list (pv 0) pe_int (fun _ _ => rfl)) pe_int (nomark _)) (pss_cons (ps_asg (pe_op op_add (pe_ix ix_list (pv 0) pe_int (fun _ _ => rfl)) pe_int) (pg_sub (pv 0) pe_int set_list))
      (pss_cut (ps_if (pt_cmpR op_lt (pe_ix ix_list (pv 0) pe_int (fun _ _ => rfl)) (pe_callB call_len_seq (by rfl) T.m_len (by decide +kernel) (pa_cons (pe_ix ix_list (pv 0) pe_int (fun _ _ => rfl)) pa_nil)) (nomark _)) (pss_one (ps_asg (pe_ix ix_list (pe_ix ix_list (pv 0) pe_int (fun _ _ => rfl)) (pe_ix ix_list (pv 0) pe_int (fun _ _ => rfl)) (fun _ _ => rfl)) (pg_sub (pv 0) pe_int set_list))) pss_nil)
      (pss_one (ps_if (pt_cmpR op_eq (pe_ix ix_list (pv 0) pe_int (fun _ _ => rfl)) pe_int (nomark _)) (pss_cons (ps_asg (pe_op op_mod (pe_callTy call_int1 (by rfl) T.m_int (by decide +kernel) (pa_cons (pe_op op_add (pe_op op_mul (pe_ix ix_list (pv 0) pe_int (fun _ _ => rfl)) pe_int) pe_int) pa_nil)) pe_int) (pg_sub (pv 0) pe_int set_list))
      (pss_one (ps_asg (pe_ix ix_list (pv 0) pe_int (fun _ _ => rfl)) (pg_sub (pv 0) pe_int set_list)))) pss_nil)))) pss_nil)
      (pss_cons (ps_set (i := 2) sc__law_take.nd rfl (Or.inl rfl) (pe_op op_mod (pe_callTy call_int1 (by rfl) T.m_int (by decide +kernel) (pa_cons (pe_ix ix_list (pv 0) pe_int (fun _ _ => rfl)) pa_nil)) (pv 1)))
      (pss_cons (ps_asg (pe_op op_fdiv (pe_ix ix_list (pv 0) pe_int (fun _ _ => rfl)) (pv 1)) (pg_sub (pv 0) pe_int set_list))
      (pss_one (ps_ret (pv 2)))))), ?_⟩
    refine ⟨fun σ' H' => σ' = [some (.ref d), some (.int m), none] ∧ DrawAt H' d L ∧ Same (hide d H) (hide d H'), ?_, ?_⟩
    · refine ⟨_, rfl, d, _, _, _, rfl, rfl, SqL.of h1, rfl, rfl, _, rfl, ite2 (fun c => ?_) (fun c => ?_)⟩
      · refine ⟨_, rfl, d, _, _, _, rfl, rfl, SqL.of h1, rfl, _, _, rfl, rfl, _, rfl, d, _, _, _, rfl, rfl, h1, rfl, ?_⟩
        refine ⟨fun σ' H' => σ' = [some (.ref d), some (.int m), none] ∧ (∃ l2, 0 ≤ l2 ∧ H' d = some (.lst [.ref L, .int (at_ + 1), .int l2, .int seed])) ∧ H' L = some (.lst (ns.map V.int)) ∧ Same (hide d H) (hide d H'), ?_, ?_⟩
        · have g1 : (upd H d (.lst ([.ref L, .int at_, .int left, .int seed].set 1 (.int (at_ + 1))))) L = some (.lst (ns.map V.int)) := by rw [upd_ne hdL.symm]; exact h2
          refine ⟨_, rfl, d, _, _, _, rfl, rfl, SqL.of upd_same, rfl, _, rfl, d, _, _, _, rfl, rfl, SqL.of upd_same, rfl, L, _, rfl, .inl (SqL.of g1), _, _, rfl, rfl, _, rfl, ite2 (fun e => ?_) (fun e => ?_)⟩
          · have e' : at_ + 1 < ((ns.map V.int).length : Int) := of_decide_eq_true e
            rw [List.length_map] at e'
            obtain ⟨z, hz, ez⟩ := atI_get (ns := ns) (k := at_ + 1) (by omega) e'
            refine ⟨_, rfl, d, _, _, _, rfl, rfl, SqL.of upd_same, rfl, _, rfl, d, _, _, _, rfl, rfl, SqL.of upd_same, rfl, L, _, _, _, rfl, rfl, SqL.of g1, ez, _, rfl, d, _, _, _, rfl, rfl, upd_same, rfl, ?_⟩
            exact ⟨rfl, ⟨z, hpos z hz, upd_same⟩, by rw [upd_ne hdL.symm]; exact g1, (hide_put _).trans (hide_put _)⟩
          · exact ⟨rfl, ⟨left, hl, upd_same⟩, g1, hide_put _⟩
        · rintro σ' H' ⟨rfl, ⟨l2, hl2, k1⟩, k2, kb⟩
          refine ⟨_, rfl, d, _, _, _, rfl, rfl, SqL.of k1, rfl, rfl, _, rfl, ite2 (fun e => ?_) (fun e => ?_)⟩
          · refine ⟨_, rfl, d, _, _, _, rfl, rfl, SqL.of k1, rfl, _, _, rfl, rfl, .inl ⟨by omega, by omega⟩, _, _, rfl, rfl, .inl ⟨_, rfl, _, _, rfl, rfl, (by show (0 : Int) < 2147483647; decide), _, rfl, d, _, _, _, rfl, rfl, k1, rfl, ?_⟩⟩
            refine ⟨_, rfl, d, _, _, _, rfl, rfl, SqL.of upd_same, rfl, _, rfl, d, _, _, _, rfl, rfl, upd_same, rfl, ?_⟩
            have p0 : 0 ≤ (seed * 48271 + 11) % 2147483647 := Int.emod_nonneg _ (by decide)
            have p1 : (seed * 48271 + 11) % 2147483647 < 2147483647 := Int.emod_lt_of_pos _ (by decide)
            exact ⟨rfl, ⟨ns, at_ + 1, _, _, upd_same, by rw [upd_ne hdL.symm, upd_ne hdL.symm]; exact k2, hdL, hpos, by omega, p0, p0, p1⟩, (kb.trans (hide_put _)).trans (hide_put _)⟩
          · exact ⟨rfl, ⟨ns, at_ + 1, l2, seed, k1, k2, hdL, hpos, by omega, hl2, hs, hs2⟩, kb⟩
      · exact ⟨rfl, ⟨ns, at_, left, seed, h1, h2, hdL, hpos, ha, hl, hs, hs2⟩, Same.refl _⟩
    · rintro σ' H' ⟨rfl, ⟨ns, at_, left, seed, h1, h2, hdL, hpos, ha, hl, hs, hs2⟩, kb⟩
      refine ⟨_, rfl, d, _, _, _, rfl, rfl, SqL.of h1, rfl, .inl ⟨_, rfl, _, rfl, _, _, rfl, rfl, hm0, ?_⟩⟩
      refine ⟨_, rfl, d, _, _, _, rfl, rfl, SqL.of h1, rfl, _, rfl, _, _, rfl, rfl, ⟨hm0, hm1⟩, _, rfl, d, _, _, _, rfl, rfl, h1, rfl, ?_⟩
      refine ⟨_, rfl, ?_⟩
      exact q _ _ (Int.emod_nonneg _ (by omega)) (Int.emod_lt_of_pos _ hm0) ⟨ns, at_, _, seed, upd_same, by rw [upd_ne hdL.symm]; exact h2, hdL, hpos, ha, Int.ediv_nonneg hl (by omega), hs, hs2⟩ (kb.trans (hide_put _))
theorem ok__law_draw (T : Txt K mg) (D : Def K mg "_law_draw" ["script"] s__law_draw f fd) : Own P w K mg base "_law_draw" ["script"] 1 (spDraw K) := by
  refine ⟨f, fd, D.mg, D.fn.kp, D.bd, D.fn.ok sc__law_draw (fun vs H Q E h => ?_) (fun cdv A outer s H vs Q E hr h => ?_)⟩
  · obtain ⟨a, ns, rfl, _⟩ := h
    rfl
  · obtain ⟨a, ns, rfl, hS, h63, q⟩ := h
    refine ⟨_, (pss_cons (ps_set (i := 1) sc__law_draw.nd rfl (Or.inl rfl) pe_int)
      (pss_cons (ps_for PassesOwn.never rfl (pi_list (pv 0)) (pg_name (i := 2) sc__law_draw.nd rfl (Or.inl rfl)) (pss_one (ps_set (i := 1) sc__law_draw.nd rfl (Or.inl rfl) (pe_op op_mod (pe_callTy call_int1 (by rfl) T.m_int (by decide +kernel) (pa_cons (pe_op op_add (pe_op op_add (pe_op op_mul (pv 1) pe_int) (pe_op op_mod (pe_callB call_abs (by rfl) T.m_abs (by decide +kernel) (pa_cons (pe_callTy call_int1 (by rfl) T.m_int (by decide +kernel) (pa_cons (pv 2) pa_nil)) pa_nil)) pe_int)) pe_int) pa_nil)) pe_int))))
      (pss_one (ps_ret (pe_lst (pa_cons (pe_lc (own := [("cell", 2)]) (g := gName 2) (tt := tYes) rfl sc__law_draw.nd (pi_list (pv 0)) (blkOk_by (N := N__law_draw) (sc := defScope s__law_draw) (own := [("cell", 2)]) (by decide +kernel)) (fun _ _ _ _ _ => (pg_name (i := 2) sc__law_draw.nd rfl (Or.inl rfl))) (fun _ _ _ _ _ => pts_nil) (fun _ _ _ _ _ => (pe_callB call_abs (by rfl) T.m_abs (by decide +kernel) (pa_cons (pe_callTy call_int1 (by rfl) T.m_int (by decide +kernel) (pa_cons (pv 2) pa_nil)) pa_nil)))) (pa_cons (pe_un un_neg pe_int) (pa_cons pe_int (pa_cons (pv 1) pa_nil))))))))), ?_⟩
    refine ⟨_, rfl, a, rfl, ⟨_, hS⟩, for_list (K := K) (a := a) (xs := ns.map V.int) (fun i σ H' => ∃ (sd : Int) (v : Option V), σ = [some (.ref a), some (.int sd), v] ∧ Same H H' ∧ 0 ≤ sd ∧ sd < 2147483647)
      ⟨7, none, rfl, Same.refl H, by decide, by decide⟩ (fun i σ H' _ ⟨_, _, _, e, _⟩ => e.seq hS) ?_ ?_⟩
    · rintro i y σ H' hi ⟨sd, v, rfl, e, s0, s1⟩
      obtain ⟨z, rfl, _⟩ := map_at hi
      refine ⟨_, rfl, _, _, rfl, rfl, .inl ⟨by omega, by omega⟩, _, rfl, .inl ⟨_, rfl, _, rfl, _, _, rfl, rfl, (by show (0 : Int) < 65521; decide), _, _, rfl, rfl, _, _, rfl, rfl, .inl ⟨_, rfl, _, _, rfl, rfl, (by show (0 : Int) < 2147483647; decide), ?_⟩⟩⟩
      exact ⟨_, _, rfl, e, Int.emod_nonneg _ (by decide), Int.emod_lt_of_pos _ (by decide)⟩
    · rintro σ H' ⟨sd, v, rfl, e, s0, s1⟩
      refine ⟨_, rfl, a, rfl, ⟨_, e.seq hS⟩, fun D hD => lc_list (K := K) (a := a) (xs := ns.map V.int) (fun i H2 => ∃ ms : List Int, H2 D = some (.lst (ms.map V.int)) ∧ ms.length = i ∧ (∀ z, z ∈ ms → 0 ≤ z) ∧ (∀ b o, H' b = some o → H2 b = some o) ∧ i ≤ ns.length)
        ⟨[], upd_same, rfl, (fun z hz => by cases hz), same_new hD _, Nat.zero_le _⟩ (fun i H2 _ ⟨_, _, _, _, s, _⟩ => Same.seq s (e.seq hS)) ?_ ?_⟩
      · rintro i y H2 hi ⟨ms, hm, hml, hm0, s, _⟩
        obtain ⟨z, rfl, hz⟩ := map_at hi
        have hi' : i < ns.length := (List.getElem?_eq_some_iff.mp hz).1
        refine ⟨rfl, yes2 ?_⟩
        refine ⟨_, rfl, .inl ⟨_, rfl, _, rfl, _, hm, by rw [List.length_map]; exact small1000 (by omega), ms ++ [if z < 0 then -z else z], ?_, by rw [List.length_append, hml]; rfl, ?_, ?_, hi'⟩⟩
        · rw [upd_same, List.map_append]
          all_goals rfl
        · intro u hu
          rcases List.mem_append.mp hu with hu | hu
          · exact hm0 u hu
          · rw [List.mem_singleton] at hu
            rw [hu]
            split <;> omega
        · intro b o hb
          rw [upd_ne (ne_of_none hb hD)]
          exact s b o hb
      · rintro H2 ⟨ms, hm, hml, hm0, s, _⟩
        refine ⟨_, rfl, _, rfl, by show 4 ≤ sizeLine; decide, fun l hl => ?_⟩
        have nDl : D ≠ l := ne_of_none hm hl
        refine q l D _ (Same.free (e.trans s) hl) (Same.free e hD) ((e.trans s).trans (same_new hl _)) ⟨ms, -1, 0, sd, upd_same, by rw [upd_ne nDl]; exact hm, nDl.symm, hm0, by omega, by omega, s0, s1⟩
end
end My

set_option linter.all false
namespace My
open PySem L2
theorem room65 {A : Around} {k : Nat} (hr : Room k A) : A.units + 65 < cLine := by have := hr.un; omega
end My


set_option Elab.async false
set_option maxRecDepth 100000
set_option maxHeartbeats 4000000
set_option linter.all false
namespace My
open PySem L2
open C8 (pss_cut)
/-- a method of the text -/
structure DefM (K : PySem.W.Frag) (C : Addr) (x qx : Str) (ps : List Str) (st : Stmt) (f : Addr) (fd : FuncData) : Prop where
  fn : Fun K x qx st f fd
  bd : Binds K fd ps []
  me : Meth K C x f
def OwnM (P : Program) (w : World) (K : PySem.W.Frag) (mg : Str → Option Value) (base : Heap) (C : Addr) (x : Str) (ps : List Str) (k : Nat) (sp : Sp) : Prop :=
  ∃ (f : Addr) (fd : FuncData), Meth K C x f ∧ Binds K fd ps [] ∧ FnOk P w K mg base CX0 k f fd ps sp
def spMade (P : Program) (w : World) (K : PySem.W.Frag) (C : Addr) : Sp := fun vs H Q _ => ∃ (p G D t : Addr) (gs : List Gt) (g : Gt), vs = [.ref p, .ref t] ∧ PoolAt P w K H C p G D gs ∧ Dp K H (.ref t) g.nk.data ∧ g.nk.depth ≤ 8 ∧ g ≠ .no ∧ (∀ n, g = .bit n → ∃ ks, n = NestedKey.tup ks) ∧ (∀ x ∈ g.parts, okL gs x) ∧ gs.length < 100000 ∧
  ∀ H' gs' (j : Nat), PoolAt P w K H' C p G D gs' → But [G, D] H H' → gs <+: gs' → gs'.length ≤ gs.length + 1 → gs'[j]? = some g → Q (.int (2 * (j : Int))) H'
section
variable {P : Program} {w : World} {K : PySem.W.Frag} {mg : Str → Option Value} {base : Heap} {f C : Addr} {fd : FuncData}
theorem valN_app {xs : NRows} {k : NK} {b : Addr} {v : V} (h : valN xs k = none) : valN (xs ++ [(k, b, v)]) k = some v := by
  unfold valN at *
  rw [List.find?_append, Option.map_eq_none_iff.mp h]
  rw [List.find?_cons_of_pos (by simp)]
  rfl
theorem valN_some {xs : NRows} {k : NK} {v : V} (h : valN xs k = some v) : ∃ x ∈ xs, x.1 = k ∧ x.2.2 = v := by
  unfold valN at h
  obtain ⟨x, h1, h2⟩ := Option.map_eq_some_iff.mp h
  exact ⟨x, List.mem_of_find?_eq_some h1, of_decide_eq_true (List.find?_some (p := fun (x : NRow) => decide (x.1 = k)) h1), h2⟩
theorem valN_none {xs : NRows} {k : NK} (h : valN xs k = none) : ∀ x ∈ xs, x.1 ≠ k := by
  unfold valN at h
  intro x hx e
  have := List.find?_eq_none.mp (Option.map_eq_none_iff.mp h) x hx
  exact this (decide_eq_true e)
theorem ok_literal_of (T : Txt K mg) (PK : PlK K C) (D : DefM K C "literal_of" "Pool.literal_of" ["self", "gate"] s_Pool_literal_of f fd) : OwnM P w K mg base C "literal_of" ["self", "gate"] 1 (spMade P w K C) := by
  refine ⟨f, fd, D.me, D.bd, D.fn.ok sc_Pool_literal_of (fun vs H Q E h => ?_) (fun cdv A outer s H vs Q E hr h => ?_)⟩
  · obtain ⟨p, G, D', t, gs, g, rfl, _⟩ := h
    rfl
  · obtain ⟨p, G, D', t, gs, g, rfl, A0, ht, h8, hno, hnm, hpa, hl, q⟩ := h
    obtain ⟨dx, ts, h1, h2, h3, h4, h5⟩ := A0.at_
    have DN0 := A0.dn (dx := dx) h3 h4 h5
    refine ⟨_, (pss_cut (ps_if (pt_cmpR (op_notinN (room65 hr)) (pv 1) (pe_fld (pv 0) (by rfl)) (by rfl)) (pss_cons (ps_asg (pe_op op_mul pe_int (pe_callB call_len_seq (by rfl) T.m_len (by decide +kernel) (pa_cons (pe_fld (pv 0) (by rfl)) pa_nil))) (pg_sub (pe_fld (pv 0) (by rfl)) (pv 1) (set_N (room65 hr))))
      (pss_one (ps_expr (pe_bm PySem.F.plainAttrs_list PySem.F.slot_list_append PySem.F.type_list_append mt_append (pe_fld (pv 0) (by rfl)) (pa_cons (pv 1) pa_nil))))) pss_nil)
      (pss_one (ps_ret (pe_ix (ix_N (room65 hr)) (pe_fld (pv 0) (by rfl)) (pv 1) (fun _ _ => rfl))))), ?_⟩
    refine ⟨fun σ' H' => ∃ (gs' : List Gt) (ts' : List Addr) (j : Nat), σ' = [some (.ref p), some (.ref t)] ∧ PoolAt P w K H' C p G D' gs' ∧ But [G, D'] H H' ∧ gs <+: gs' ∧ gs'.length ≤ gs.length + 1 ∧ gs'[j]? = some g ∧ H' p = some (.ins C dx (plFs G D')) ∧ DN P w K H' D' (drop1 gs' ts') ∧ valN (drop1 gs' ts') g.nk = some (.int (2 * (j : Int))), ?_, ?_⟩
    · refine ⟨_, rfl, _, rfl, p, C, dx, _, _, rfl, h1, PK.cls, PK.l, plFs_l _ _, t, g.nk, D', _, rfl, rfl, ht, h8, DN0, _, rfl, ?_⟩
      cases hv : valN (drop1 gs ts) g.nk with
      | some v =>
        refine iteF ?_
        obtain ⟨x, hx, e1, e2⟩ := valN_some hv
        obtain ⟨j, g', k1, k2, k3, k4⟩ := plRows_mem hx
        have eg : g' = g := Gt.nk_inj (k3.symm.trans e1)
        rw [List.getElem?_drop] at k1
        rw [eg] at k1
        refine ⟨gs, ts, 1 + j, rfl, A0, .refl _ _, List.prefix_refl _, Nat.le_succ _, k1, h1, DN0, ?_⟩
        rw [hv, ← e2, k4]
      | none =>
        refine iteT ?_
        have nDp : p ≠ D' := by
          rcases h5 with e | ⟨_, e⟩ <;> exact ne_of h1 e (by intro z; cases z)
        have nDG : G ≠ D' := by
          rcases h5 with e | ⟨_, e⟩ <;> exact ne_of h2 e (by intro z; cases z)
        have npG : p ≠ G := ne_of h1 h2 (by intro z; cases z)
        have hlen : (ts.map V.ref).length = gs.length := by rw [List.length_map, h3]
        have hz : (drop1 gs ts).length < sizeLine := by
          unfold drop1
          rw [plRows_len (by rw [List.length_drop, List.length_drop, h3]), List.length_drop]
          exact Nat.lt_of_lt_of_le (by omega) (show 100000 ≤ sizeLine by decide)
        refine ⟨_, rfl, p, C, dx, _, _, rfl, h1, PK.cls, PK.g, plFs_g _ _, G, _, rfl, .inl (SqL.of h2), _, _, rfl, rfl, .inl ⟨by omega, by omega⟩, ?_⟩
        refine ⟨_, rfl, p, C, dx, _, _, rfl, h1, PK.cls, PK.l, plFs_l _ _, _, rfl, t, g.nk, D', _, rfl, rfl, ht, h8, DN0, hz, hv, ?_⟩
        refine ⟨_, rfl, p, C, dx, _, _, rfl, (by rw [upd_ne nDp]; exact h1), PK.cls, PK.g, plFs_g _ _, .inl ⟨rfl, _, SqL.of (by rw [upd_ne nDG]; exact h2)⟩, _, rfl, G, _, _, rfl, rfl, (by rw [upd_ne nDG]; exact h2), by rw [hlen]; exact Nat.lt_of_lt_of_le hl (by decide), ?_⟩
        have hb : But [G, D'] H (upd (upd H D' (dnO P w D' (drop1 gs ts ++ [(g.nk, t, .int (2 * (((ts.map V.ref).length : Nat) : Int)))]))) G (.lst (ts.map V.ref ++ [.ref t]))) := (But.put (.tail _ (.head _)) _).trans (But.put (.head _) _)
        have ep : (upd (upd H D' (dnO P w D' (drop1 gs ts ++ [(g.nk, t, .int (2 * (((ts.map V.ref).length : Nat) : Int)))]))) G (.lst (ts.map V.ref ++ [.ref t]))) p = some (.ins C dx (plFs G D')) := by rw [upd_ne npG, upd_ne nDp]; exact h1
        have pos := A0.ok.pos
        have er : drop1 (gs ++ [g]) (ts ++ [t]) = drop1 gs ts ++ [(g.nk, t, .int (2 * (((ts.map V.ref).length : Nat) : Int)))] := by
          unfold drop1
          rw [List.drop_append_of_le_length (by omega), List.drop_append_of_le_length (by omega), plRows_snoc (by rw [List.length_drop, List.length_drop, h3]), List.length_drop, hlen, show 1 + (gs.length - 1) = gs.length by omega]
        have h4' : ∀ (i : Nat) (g' : Gt) (t' : Addr), (gs ++ [g])[i]? = some g' → (ts ++ [t])[i]? = some t' → Dp K (upd (upd H D' (dnO P w D' (drop1 gs ts ++ [(g.nk, t, .int (2 * (((ts.map V.ref).length : Nat) : Int)))]))) G (.lst (ts.map V.ref ++ [.ref t]))) (.ref t') g'.nk.data ∧ g'.nk.depth ≤ 8 := by
          intro i g' t' e1 e2
          by_cases hi : i < gs.length
          · rw [List.getElem?_append_left hi] at e1
            rw [List.getElem?_append_left (by omega)] at e2
            obtain ⟨k1, k2⟩ := h4 i g' t' e1 e2
            exact ⟨dp_but A0.mut hb _ (nk_noLst _) k1, k2⟩
          · have hi2 : i = gs.length := by
              have := (List.getElem?_eq_some_iff.mp e1).1
              rw [List.length_append, List.length_singleton] at this
              omega
            rw [hi2, List.getElem?_append_right (Nat.le_refl _), Nat.sub_self] at e1
            rw [hi2, ← h3, List.getElem?_append_right (Nat.le_refl _), Nat.sub_self] at e2
            cases e1
            cases e2
            exact ⟨dp_but A0.mut hb _ (nk_noLst _) ht, h8⟩
        have h5' : (upd (upd H D' (dnO P w D' (drop1 gs ts ++ [(g.nk, t, .int (2 * (((ts.map V.ref).length : Nat) : Int)))]))) G (.lst (ts.map V.ref ++ [.ref t]))) D' = some (dnO P w D' (drop1 (gs ++ [g]) (ts ++ [t]))) := by rw [upd_ne nDG.symm, upd_same, er]
        have A1 : PoolAt P w K (upd (upd H D' (dnO P w D' (drop1 gs ts ++ [(g.nk, t, .int (2 * (((ts.map V.ref).length : Nat) : Int)))]))) G (.lst (ts.map V.ref ++ [.ref t]))) C p G D' (gs ++ [g]) := by
          refine ⟨PK, A0.ok.snoc hpa, ?_, by rw [List.length_append, List.length_singleton]; omega, (fun n hn => (List.mem_append.mp hn).elim (fun h => A0.nm n h) fun h => hnm n (List.mem_singleton.mp h).symm), dx, ts ++ [t], ep, by rw [upd_same, List.map_append]; rfl, by rw [List.length_append, List.length_append, h3]; rfl, h4', .inl h5'⟩
          rw [List.map_append, List.nodup_append]
          refine ⟨A0.nd, (by simp), fun k hk k' hk' e => ?_⟩
          rw [List.mem_singleton.mp hk'] at e
          obtain ⟨g2, hg2, rfl⟩ := List.mem_map.mp hk
          have eg := Gt.nk_inj e
          rw [eg] at hg2
          obtain ⟨i, hi⟩ := List.getElem?_of_mem hg2
          cases i with
          | zero =>
            rw [A0.ok.first] at hi
            cases hi
            exact hno rfl
          | succ i =>
            obtain ⟨x, hx, ex⟩ := plRows_has (g := g) (i := 1) (j := i) (gs := gs.drop 1) (ts := ts.drop 1) (by rw [List.length_drop, List.length_drop, h3]) (by rw [List.getElem?_drop, Nat.add_comm]; exact hi)
            exact valN_none hv x hx ex
        refine ⟨gs ++ [g], ts ++ [t], gs.length, rfl, A1, hb, List.prefix_append _ _, by rw [List.length_append]; exact Nat.le_refl _, by rw [List.getElem?_append_right (Nat.le_refl _), Nat.sub_self]; rfl, ep, A1.dn (dx := dx) (by rw [List.length_append, List.length_append, h3]; rfl) h4' (.inl h5'), ?_⟩
        rw [er, valN_app hv, hlen]
    · rintro σ' H' ⟨gs', ts', j, rfl, A, hb, hp, hl', hj, h1', DN1, hv⟩
      exact ⟨_, rfl, p, C, dx, _, _, rfl, h1', PK.cls, PK.l, plFs_l _ _, _, rfl, t, g.nk, D', _, _, rfl, rfl, dp_but A0.mut hb _ (nk_noLst _) ht, h8, DN1, hv, q H' gs' j A hb hp hl' hj⟩
end
end My

set_option Elab.async false
set_option maxRecDepth 100000
set_option maxHeartbeats 4000000
set_option linter.all false
/-! Plain values as data: what asks them. -/
namespace My
open PySem PySem.Spec PyProof.Rows L2
mutual
/-- texts are not long -/
def short : PyData → Bool
  | .str x => decide (x.length ≤ 1000)
  | .list ds => decide (ds.length ≤ 1000) && shorts ds
  | .tuple ds => decide (ds.length ≤ 1000) && shorts ds
  | _ => true
def shorts : List PyData → Bool
  | [] => true
  | d :: ds => short d && shorts ds
end
theorem shorts_of : ∀ {ds : List PyData}, shorts ds = true → ∀ d ∈ ds, short d = true
  | x :: xs, h, d, hm => by
    have h' := Bool.and_eq_true_iff.mp (show (short x && shorts xs) = true from h)
    rcases List.mem_cons.mp hm with e | hm
    · rw [e]; exact h'.1
    · exact shorts_of h'.2 d hm
def okD (d : PyData) : Prop := d.canLay0 = true ∧ d.depth ≤ 60 ∧ short d = true
theorem okD.sh {d : PyData} (h : okD d) : SeqAt.shaped d = true := by
  show (d.canLay0 && decide (d.depth ≤ 64)) = true
  rw [h.1, decide_eq_true (by have := h.2.1; omega)] <;> rfl
theorem okAll_of : ∀ {ds : List PyData} {n : Nat}, PyData.canLayAll0 ds = true → PyData.depthAll ds ≤ n → ∀ d ∈ ds, d.canLay0 = true ∧ d.depth ≤ n
  | [], _, _, _, d, h => by cases h
  | x :: xs, n, h, hd, d, hm => by
    simp only [PyData.canLayAll0, Bool.and_eq_true] at h
    simp only [PyData.depthAll] at hd
    rcases List.mem_cons.mp hm with e | hm
    · rw [e]; exact ⟨h.1, by omega⟩
    · exact okAll_of h.2 (by omega) d hm
theorem okD_tlen {ds : List PyData} (h : okD (.tuple ds)) : ds.length ≤ 1000 := of_decide_eq_true (Bool.and_eq_true_iff.mp (show (decide (ds.length ≤ 1000) && shorts ds) = true from h.2.2)).1
theorem okD_tup {ds : List PyData} (h : okD (.tuple ds)) : ∀ d ∈ ds, okD d := fun d hd => by
  obtain ⟨h1, h2, h3⟩ := h
  have h3 := (Bool.and_eq_true_iff.mp (show (decide (ds.length ≤ 1000) && shorts ds) = true from h3)).2
  simp only [PyData.canLay0] at h1
  simp only [PyData.depth] at h2
  have := okAll_of (n := 59) h1 (by omega) d hd
  exact ⟨this.1, by omega, shorts_of h3 d hd⟩
theorem okD_lst {ds : List PyData} (h : okD (.list ds)) : ∀ d ∈ ds, okD d := fun d hd => by
  obtain ⟨h1, h2, h3⟩ := h
  have h3 := (Bool.and_eq_true_iff.mp (show (decide (ds.length ≤ 1000) && shorts ds) = true from h3)).2
  simp only [PyData.canLay0] at h1
  simp only [PyData.depth] at h2
  have := okAll_of (n := 59) h1 (by omega) d hd
  exact ⟨this.1, by omega, shorts_of h3 d hd⟩
theorem okD_int (i : Int) : okD (.int i) := ⟨rfl, by simp [PyData.depth], rfl⟩
theorem okD_nil : okD (.tuple []) := ⟨rfl, by decide, rfl⟩
theorem okD_nilL : okD (.list []) := ⟨rfl, by decide, rfl⟩
/-! isinstance -/
def tyN : PyData → String
  | .none => "NoneType"
  | .bool _ => "bool"
  | .int _ => "int"
  | .str _ => "str"
  | .list _ => "list"
  | .tuple _ => "tuple"
  | .dict _ => "dict"
theorem ty_dp {K : PySem.W.Frag} {H : Hp} {v : V} {d : PyData} (h : Dp K H v d) : TyX K H v (.type (tyN d)) := by
  cases h with
  | non => exact .base .non
  | bl b => exact .base (.bl b)
  | int i => exact .base (.int i)
  | str x => exact .base (.str x)
  | lst hs ha =>
    rcases hs with (h | ⟨o, h⟩) | ⟨o, its, n, hk, hc, hd, hs, hz, r⟩
    · exact .base (.lst h)
    · exact .base (.frz h)
    · exact .kList hk hc
  | tup hs ha =>
    rcases hs with (h | ⟨o, h⟩) | ⟨o, its, n, hk, hc, hs, hz, r⟩
    · exact .base (.tup h)
    · exact .fTuple h
    · exact .kTuple hk hc
def isI : PyData → Bool
  | .int _ => true
  | .bool _ => true
  | _ => false
def isB : PyData → Bool
  | .bool _ => true
  | _ => false
def isS : PyData → Bool
  | .str _ => true
  | _ => false
def isT : PyData → Bool
  | .tuple _ => true
  | _ => false
def isL : PyData → Bool
  | .list _ => true
  | _ => false
theorem kit_I : ∀ d : PyData, kitB (tyN d) "int" = some (isI d)
  | .none => (by decide +kernel : kitB "NoneType" "int" = some false)
  | .bool _ => (by decide +kernel : kitB "bool" "int" = some true)
  | .int _ => (by decide +kernel : kitB "int" "int" = some true)
  | .str _ => (by decide +kernel : kitB "str" "int" = some false)
  | .list _ => (by decide +kernel : kitB "list" "int" = some false)
  | .tuple _ => (by decide +kernel : kitB "tuple" "int" = some false)
  | .dict _ => (by decide +kernel : kitB "dict" "int" = some false)
theorem kit_B : ∀ d : PyData, kitB (tyN d) "bool" = some (isB d)
  | .none => (by decide +kernel : kitB "NoneType" "bool" = some false)
  | .bool _ => (by decide +kernel : kitB "bool" "bool" = some true)
  | .int _ => (by decide +kernel : kitB "int" "bool" = some false)
  | .str _ => (by decide +kernel : kitB "str" "bool" = some false)
  | .list _ => (by decide +kernel : kitB "list" "bool" = some false)
  | .tuple _ => (by decide +kernel : kitB "tuple" "bool" = some false)
  | .dict _ => (by decide +kernel : kitB "dict" "bool" = some false)
theorem kit_S : ∀ d : PyData, kitB (tyN d) "str" = some (isS d)
  | .none => (by decide +kernel : kitB "NoneType" "str" = some false)
  | .bool _ => (by decide +kernel : kitB "bool" "str" = some false)
  | .int _ => (by decide +kernel : kitB "int" "str" = some false)
  | .str _ => (by decide +kernel : kitB "str" "str" = some true)
  | .list _ => (by decide +kernel : kitB "list" "str" = some false)
  | .tuple _ => (by decide +kernel : kitB "tuple" "str" = some false)
  | .dict _ => (by decide +kernel : kitB "dict" "str" = some false)
theorem kit_T : ∀ d : PyData, kitB (tyN d) "tuple" = some (isT d)
  | .none => (by decide +kernel : kitB "NoneType" "tuple" = some false)
  | .bool _ => (by decide +kernel : kitB "bool" "tuple" = some false)
  | .int _ => (by decide +kernel : kitB "int" "tuple" = some false)
  | .str _ => (by decide +kernel : kitB "str" "tuple" = some false)
  | .list _ => (by decide +kernel : kitB "list" "tuple" = some false)
  | .tuple _ => (by decide +kernel : kitB "tuple" "tuple" = some true)
  | .dict _ => (by decide +kernel : kitB "dict" "tuple" = some false)
theorem kit_L : ∀ d : PyData, kitB (tyN d) "list" = some (isL d)
  | .none => (by decide +kernel : kitB "NoneType" "list" = some false)
  | .bool _ => (by decide +kernel : kitB "bool" "list" = some false)
  | .int _ => (by decide +kernel : kitB "int" "list" = some false)
  | .str _ => (by decide +kernel : kitB "str" "list" = some false)
  | .list _ => (by decide +kernel : kitB "list" "list" = some true)
  | .tuple _ => (by decide +kernel : kitB "tuple" "list" = some false)
  | .dict _ => (by decide +kernel : kitB "dict" "list" = some false)
/-- isinstance(x, T), x data, T a built-in type -/
def rIsiD (K : PySem.W.Frag) : List V → Hp → VK → Prop := fun xs H Q => ∃ (v : V) (d : PyData) (T : String) (b : Bool), xs = [v, .ty T] ∧ Dp K H v d ∧ kitB (tyN d) T = some b ∧ Q (.bl b) H
section
variable {X : Cx}
theorem cr_isiD : CallR X (.builtin "isinstance") (rIsiD X.K) := by
  intro pins s σ H xs us Q I r h
  obtain ⟨v, d, T, b, rfl, hd, hk, q⟩ := h
  exact call_isi pins s σ H _ us Q I r ⟨v, .ty T, .type (tyN d), .type T, b, rfl, .ty T, ty_dp hd, kit_ty hk, q⟩
theorem cr_isiDK {K : PySem.W.Frag} (h : X.K = K) : CallR X (.builtin "isinstance") (rIsiD K) := h ▸ cr_isiD
/-! in: lists and tuples of data -/
def rInDD (K : PySem.W.Frag) (neg : Bool) : R2 := fun x y H Q => ∃ (d : PyData) (ds : List PyData), Dp K H x d ∧ (Dp K H y (.list ds) ∨ Dp K H y (.tuple ds)) ∧ okD d ∧ okD (.list ds) ∧ Q (.bl (if neg then !ds.any fun z => PyData.eqv z d else ds.any fun z => PyData.eqv z d)) H
theorem room_in2 {A : Around} {d : PyData} {ds : List PyData} (hd : okD d) (hu : A.units + 65 < cLine) : A.units + 1 + min (PyData.depthAll ds) d.depth < cLine := by
  have h1 := hd.2.1
  have h2 : min (PyData.depthAll ds) d.depth ≤ d.depth := Nat.min_le_right _ _
  omega
theorem op_inDD (hu : X.A.units + 65 < cLine) : OpR X (compareOp .In) (rInDD X.K false) := by
  intro pins s σ H x y v u Q I rx ry h
  obtain ⟨d, ds, hd, he, sd, se, q⟩ := h
  obtain ⟨as, r1⟩ := Dp.reads I d x v hd rx
  have lay : PyData.canLayAll0 ds = true := by have := se.1; simpa only [PyData.canLay0] using this
  rcases he with he | he
  · obtain ⟨bs, r2⟩ := Dp.reads I (.list ds) y u he ry
    exact SeqAt.in_list_reads r2 r1 lay sd.1 (room_in2 sd hu) ⟨.bl _, H, I, rfl, q⟩
  · obtain ⟨bs, r2⟩ := Dp.reads I (.tuple ds) y u he ry
    exact SeqAt.in_tuple_reads r2 r1 lay sd.1 (room_in2 sd hu) ⟨.bl _, H, I, rfl, q⟩
theorem op_notInDD (hu : X.A.units + 65 < cLine) : OpR X (compareOp .NotIn) (rInDD X.K true) := by
  intro pins s σ H x y v u Q I rx ry h
  obtain ⟨d, ds, hd, he, sd, se, q⟩ := h
  obtain ⟨as, r1⟩ := Dp.reads I d x v hd rx
  have lay : PyData.canLayAll0 ds = true := by have := se.1; simpa only [PyData.canLay0] using this
  rcases he with he | he
  · obtain ⟨bs, r2⟩ := Dp.reads I (.list ds) y u he ry
    exact SeqAt.notIn_list_reads r2 r1 lay sd.1 (room_in2 sd hu) ⟨.bl _, H, I, rfl, q⟩
  · obtain ⟨bs, r2⟩ := Dp.reads I (.tuple ds) y u he ry
    exact SeqAt.notIn_tuple_reads r2 r1 lay sd.1 (room_in2 sd hu) ⟨.bl _, H, I, rfl, q⟩
end
/-! texts among data -/
def isX (x : Str) : PyData → Bool
  | .str y => decide (x = y)
  | _ => false
theorem eqv_strL (x : Str) (d : PyData) : PyData.eqv (.str x) d = isX x d := by
  cases d with
  | str y =>
    show (x == y) = decide (x = y)
    by_cases h : x = y
    · rw [h]; simp
    · rw [decide_eq_false h]; exact beq_eq_false_iff_ne.mpr h
  | _ => rfl
theorem eqv_strR (x : Str) (d : PyData) : PyData.eqv d (.str x) = isX x d := by
  cases d with
  | str y =>
    show (y == x) = decide (x = y)
    by_cases h : x = y
    · rw [h]; simp
    · rw [decide_eq_false h]; exact beq_eq_false_iff_ne.mpr fun e => h e.symm
  | _ => rfl
theorem isX_iff {x : Str} {d : PyData} : isX x d = true ↔ d = .str x := by
  cases d with
  | str y =>
    show decide (x = y) = true ↔ _
    rw [decide_eq_true_eq]
    exact ⟨fun e => by rw [e], fun e => by injection e with e; exact e.symm⟩
  | _ => exact ⟨fun e => (by cases (show false = true from e)), fun e => by cases e⟩
def inX (xs : List Str) (d : PyData) : Bool := xs.any fun x => isX x d
theorem any_strs (xs : List Str) (d : PyData) : ((xs.map PyData.str).any fun z => PyData.eqv z d) = inX xs d := by
  unfold inX
  rw [List.any_map]
  exact congrArg (fun f => xs.any f) (funext fun x => eqv_strL x d)
/-! whole numbers among data -/
def bw (lo hi : Int) : PyData → Bool
  | .int n => decide (lo ≤ n ∧ n ≤ hi)
  | _ => false
def isRow (n : Int) : PyData → Bool
  | .tuple ds => decide ((ds.length : Int) = n)
  | _ => false
theorem bw_iff {lo hi : Int} {d : PyData} : bw lo hi d = true ↔ ∃ n, d = .int n ∧ lo ≤ n ∧ n ≤ hi := by
  cases d with
  | int n => exact ⟨fun e => ⟨n, rfl, of_decide_eq_true e⟩, fun ⟨m, e, h⟩ => by cases e; exact decide_eq_true h⟩
  | _ => exact ⟨fun e => (by cases (show false = true from e)), fun ⟨n, e, _⟩ => by cases e⟩
theorem isRow_iff {n : Int} {d : PyData} : isRow n d = true ↔ ∃ ds, d = .tuple ds ∧ (ds.length : Int) = n := by
  cases d with
  | tuple ds => exact ⟨fun e => ⟨ds, rfl, of_decide_eq_true e⟩, fun ⟨es, e, h⟩ => by cases e; exact decide_eq_true h⟩
  | _ => exact ⟨fun e => (by cases (show false = true from e)), fun ⟨n, e, _⟩ => by cases e⟩
/-- item i of a tuple -/
def rowAt (d : PyData) (i : Nat) : PyData := match d with
  | .tuple ds => ds.getD i .none
  | _ => .none
theorem dp_row2 {K : PySem.W.Frag} {H : Hp} {v : V} {d : PyData} (h : Dp K H v d) (r : isRow 2 d = true) : ∃ t a b x y, v = .ref t ∧ d = .tuple [x, y] ∧ SqT K H t [a, b] ∧ Dp K H a x ∧ Dp K H b y := by
  obtain ⟨ds, rfl, hl⟩ := isRow_iff.1 r
  match ds, hl with
  | [x, y], _ =>
    obtain ⟨t, us, rfl, ht, hts⟩ := dp_tup h
    cases hts with
    | cons h1 r1 =>
      cases r1 with
      | cons h2 r2 =>
        cases r2
        exact ⟨t, _, _, x, y, rfl, rfl, ht, h1, h2⟩
  | [], h => exact absurd h (by decide)
  | [_], h => exact absurd h (by simp)
  | _ :: _ :: _ :: r, h => exact absurd h (by simp only [List.length_cons]; omega)
theorem dp_row3 {K : PySem.W.Frag} {H : Hp} {v : V} {d : PyData} (h : Dp K H v d) (r : isRow 3 d = true) : ∃ t a b c x y z, v = .ref t ∧ d = .tuple [x, y, z] ∧ SqT K H t [a, b, c] ∧ Dp K H a x ∧ Dp K H b y ∧ Dp K H c z := by
  obtain ⟨ds, rfl, hl⟩ := isRow_iff.1 r
  match ds, hl with
  | [x, y, z], _ =>
    obtain ⟨t, us, rfl, ht, hts⟩ := dp_tup h
    cases hts with
    | cons h1 r1 =>
      cases r1 with
      | cons h2 r2 =>
        cases r2 with
        | cons h3 r3 =>
          cases r3
          exact ⟨t, _, _, _, x, y, z, rfl, rfl, ht, h1, h2, h3⟩
  | [], h => exact absurd h (by decide)
  | [_], h => exact absurd h (by simp)
  | [_, _], h => exact absurd h (by simp)
  | _ :: _ :: _ :: _ :: r, h => exact absurd h (by simp only [List.length_cons]; omega)
def ConI (mg : Str → Option Value) (x : Str) (n : Int) : Prop := ∃ t, mg x = some (.int n t)
def ConS (mg : Str → Option Value) (x y : Str) : Prop := ∃ t, mg x = some (.str y t)
end My


set_option Elab.async false
set_option maxRecDepth 100000
set_option maxHeartbeats 4000000
set_option linter.all false
namespace My
open PySem L2
open C8 (pss_cut)
def fB (a b : Int) : Int := if a + b ≥ 2 then 1 else 0
def fE (a b : Int) : Int := if a + b ≥ 1 then 1 else 0
def fU (a b : Int) : Int := if a = b then 0 else 1
def fC (c a b : Int) : Int := if c = 1 then a else b
/-- what a call that makes a literal leaves -/
def Res (P : Program) (w : World) (K : PySem.W.Frag) (C p G D : Addr) (gs : List Gt) (H : Hp) (m : Nat) (φ : Bits → Int) (Q : VK) : Prop :=
  ∀ (H' : Hp) (gs' : List Gt) (r : Int), PoolAt P w K H' C p G D gs' → But [G, D] H H' → gs <+: gs' → gs'.length ≤ gs.length + m → okL gs' r → (∀ env, bitEnv env → litv (bitsOf env gs') r = φ env) → Q (.int r) H'
def sp2 (P : Program) (w : World) (K : PySem.W.Frag) (C : Addr) (m : Nat) (f : Int → Int → Int) : Sp := fun vs H Q _ => ∃ (p G D : Addr) (gs : List Gt) (x y : Int), vs = [.ref p, .int x, .int y] ∧ PoolAt P w K H C p G D gs ∧ okL gs x ∧ okL gs y ∧ gs.length + m ≤ 100000 ∧
  Res P w K C p G D gs H m (fun env => f (litv (bitsOf env gs) x) (litv (bitsOf env gs) y)) Q
def spBit (P : Program) (w : World) (K : PySem.W.Frag) (C : Addr) : Sp := fun vs H Q _ => ∃ (p G D t : Addr) (gs : List Gt) (n : NK), vs = [.ref p, .ref t] ∧ PoolAt P w K H C p G D gs ∧ Dp K H (.ref t) n.data ∧ n.depth ≤ 7 ∧ gs.length + 1 ≤ 100000 ∧
  ∀ H' gs' (j : Nat), PoolAt P w K H' C p G D gs' → But [G, D] H H' → gs <+: gs' → gs'.length ≤ gs.length + 1 → gs'[j]? = some (.bit n) → Q (.int (2 * (j : Int))) H'
section
variable {P : Program} {w : World} {K : PySem.W.Frag} {mg : Str → Option Value} {base : Heap} {f C : Addr} {fd : FuncData}
theorem lit_gate {gs : List Gt} (h : okGs gs) {j : Nat} {g : Gt} (hj : gs[j]? = some g) (env : Bits) : litv (bitsOf env gs) (2 * (j : Int)) = g.val env (bitsOf env gs) := by
  unfold litv
  rw [if_pos (by omega), show (2 * (j : Int) / 2).toNat = j by omega]
  exact bits_at gs h j g hj
theorem okL_gate {gs : List Gt} {j : Nat} {g : Gt} (hj : gs[j]? = some g) : okL gs (2 * (j : Int)) := by
  have := (List.getElem?_eq_some_iff.mp hj).1
  unfold okL
  omega
theorem both_depth (x y : Int) : (Gt.both x y).nk.depth ≤ 8 := by simp only [Gt.nk, NestedKey.depth, NestedKey.depthAll]; decide
theorem unlike_depth (x y : Int) : (Gt.unlike x y).nk.depth ≤ 8 := by simp only [Gt.nk, NestedKey.depth, NestedKey.depthAll]; decide
theorem chosen_depth (c x y : Int) : (Gt.chosen c x y).nk.depth ≤ 8 := by simp only [Gt.nk, NestedKey.depth, NestedKey.depthAll]; decide
theorem ref_tup {K : PySem.W.Frag} {H : Hp} {t : Addr} {n : NK} (h : Dp K H (.ref t) n.data) : ∃ ks, n = NestedKey.tup ks := by
  cases n with
  | tup ks => exact ⟨ks, rfl⟩
  | none => cases h
  | num z => cases h
  | text z => cases h
theorem int_of {x y : Int} (h : decide (V.int x = V.int y) = true) : x = y := by
  have := of_decide_eq_true h
  injection this
theorem ok_bit (T : Txt K mg) (PK : PlK K C) (D : DefM K C "bit" "Pool.bit" ["self", "name"] s_Pool_bit f fd) (O1 : OwnM P w K mg base C "literal_of" ["self", "gate"] 1 (spMade P w K C)) : OwnM P w K mg base C "bit" ["self", "name"] 2 (spBit P w K C) := by
  obtain ⟨fliteral_of, fdliteral_of, Mliteral_of, bliteral_of, Gliteral_of⟩ := O1
  refine ⟨f, fd, D.me, D.bd, D.fn.ok sc_Pool_bit (fun vs H Q E h => ?_) (fun cdv A outer s H vs Q E hr h => ?_)⟩
  · obtain ⟨p, G, D', t, gs, n, rfl, _⟩ := h
    rfl
  · obtain ⟨p, G, D', t, gs, n, rfl, A0, ht, h8, hl, q⟩ := h
    obtain ⟨dx, ts, h1, _⟩ := A0.at_
    refine ⟨_, (pss_one (ps_ret (pe_meth (pv 0) PK.cls Mliteral_of Gliteral_of (hr.mono (by omega)) bliteral_of .nil pass0 (pa_cons (pe_tup (pa_cons pe_str (pa_cons (pv 1) pa_nil))) pa_nil)))), ?_⟩
    refine ⟨_, rfl, p, dx, _, rfl, h1, plFs_no _ _ (by decide +kernel) (by decide +kernel), _, rfl, by show 2 ≤ sizeLine; decide, fun g hg => ?_⟩
    have sn := same_new hg (.tup [.str "bit", .ref t])
    exact ⟨p, G, D', g, gs, .bit n, rfl, A0.same sn, .tup (SqT.of upd_same) (.cons (.str _) (.cons (dp_mono sn _ ht) .nil)), by simp only [Gt.nk, NestedKey.depth, NestedKey.depthAll]; omega, (by intro z; cases z), (fun m e => by cases e; exact ref_tup ht), (fun x hx => nomatch hx), by omega, fun H' gs' j A1 hb hp hle hj => q H' gs' j A1 ((But.of_same sn).trans hb) hp hle hj⟩
def spBothG : Sp := fun vs H Q _ => ∃ x y : Int, vs = [.int x, .int y] ∧ x ≤ y ∧ ∀ g, H g = none → Q (.ref g) (upd H g (.tup [.str "both", .int x, .int y]))
theorem ok_both_gate (T : Txt K mg) (D : Def K mg "both_gate" ["x", "y"] s_both_gate f fd) : Own P w K mg base "both_gate" ["x", "y"] 1 spBothG := by
  refine ⟨f, fd, D.mg, D.fn.kp, D.bd, D.fn.ok sc_both_gate (fun vs H Q E h => ?_) (fun cdv A outer s H vs Q E hr h => ?_)⟩
  · obtain ⟨x, y, rfl, _⟩ := h
    rfl
  · obtain ⟨x, y, rfl, hxy, q⟩ := h
    refine ⟨_, (pss_one (ps_ret (pe_tup (pa_cons pe_str (pa_cons (pe_callB (call_min2 rfl) (by rfl) T.m_min (by decide +kernel) (pa_cons (pv 0) (pa_cons (pv 1) pa_nil))) (pa_cons (pe_callB (call_max2 rfl) (by rfl) T.m_max (by decide +kernel) (pa_cons (pv 0) (pa_cons (pv 1) pa_nil))) pa_nil)))))), ?_⟩
    have e1 : (if y < x then y else x) = x := if_neg (by omega)
    have e2 : (if y > x then y else x) = y := by split <;> omega
    refine ⟨_, rfl, _, rfl, x, y, rfl, _, rfl, _, rfl, x, y, rfl, by show 3 ≤ sizeLine; decide, fun g hg => ?_⟩
    rw [e1, e2]
    exact q g hg
theorem ok_both (T : Txt K mg) (PK : PlK K C) (C1 : ConI mg "NO" 0) (C2 : ConI mg "YES" 1) (D : DefM K C "both" "Pool.both" ["self", "x", "y"] s_Pool_both f fd) (O1 : OwnM P w K mg base C "literal_of" ["self", "gate"] 1 (spMade P w K C)) (O2 : Own P w K mg base "both_gate" ["x", "y"] 1 spBothG) : OwnM P w K mg base C "both" ["self", "x", "y"] 2 (sp2 P w K C 1 fB) := by
  obtain ⟨fliteral_of, fdliteral_of, Mliteral_of, bliteral_of, Gliteral_of⟩ := O1
  obtain ⟨fboth_gate, fdboth_gate, mboth_gate, kboth_gate, bboth_gate, Gboth_gate⟩ := O2
  obtain ⟨t_NO, c_NO⟩ := C1
  obtain ⟨t_YES, c_YES⟩ := C2
  refine ⟨f, fd, D.me, D.bd, D.fn.ok sc_Pool_both (fun vs H Q E h => ?_) (fun cdv A outer s H vs Q E hr h => ?_)⟩
  · obtain ⟨p, G, D', gs, x, y, rfl, _⟩ := h
    rfl
  · obtain ⟨p, G, D', gs, x0, y0, rfl, A0, hx0, hy0, hl, q0⟩ := h
    obtain ⟨dx, ts, h1, _⟩ := A0.at_
    have no := fun env => litv_no (env := env) A0.ok
    have yes := fun env => litv_yes (env := env) A0.ok
    refine ⟨_, (pss_cut (ps_if (pt_cmpR op_gt (pv 1) (pv 2) (nomark _)) (pss_one (ps_par (i := 1) (j := 2) rfl sc_Pool_both.nd rfl rfl (by decide) rfl rfl (pa_cons (pv 2) (pa_cons (pv 1) pa_nil)) (by rfl))) pss_nil)
      (pss_cons (ps_if (PW.pt (pw_or (pt_cmpR op_eq (pv 1) (pe_glob (v := .int 0) (u := .int 0 t_NO) (by rfl) c_NO ⟨t_NO, rfl⟩) (nomark _)) (pw_or1 (pt_cmpR op_eq (pv 1) (pe_op op_xor (pv 2) pe_int) (nomark _))))) (pss_one (ps_ret (pe_glob (v := .int 0) (u := .int 0 t_NO) (by rfl) c_NO ⟨t_NO, rfl⟩))) pss_nil)
      (pss_cons (ps_if (PW.pt (pw_or (pt_cmpR op_eq (pv 1) (pe_glob (v := .int 1) (u := .int 1 t_YES) (by rfl) c_YES ⟨t_YES, rfl⟩) (nomark _)) (pw_or1 (pt_cmpR op_eq (pv 1) (pv 2) (nomark _))))) (pss_one (ps_ret (pv 2))) pss_nil)
      (pss_one (ps_ret (pe_meth (pv 0) PK.cls Mliteral_of Gliteral_of (hr.mono (by omega)) bliteral_of .nil pass0 (pa_cons (pe_call Gboth_gate (hr.mono (by omega)) rfl mboth_gate kboth_gate bboth_gate .nil pass0 (pa_cons (pv 1) (pa_cons (pv 2) pa_nil))) pa_nil))))))), ?_⟩
    refine ⟨fun σ' H' => H' = H ∧ ∃ x y, σ' = [some (.ref p), some (.int x), some (.int y)] ∧ okL gs x ∧ okL gs y ∧ x ≤ y ∧ Res P w K C p G D' gs H 1 (fun env => fB (litv (bitsOf env gs) x) (litv (bitsOf env gs) y)) Q, ?_, ?_⟩
    · refine ⟨_, rfl, _, rfl, _, _, rfl, rfl, _, rfl, ite2 (fun c => ?_) (fun c => ?_)⟩
      · refine ⟨_, rfl, _, rfl, _, _, rfl, rfl, _, _, rfl, hy0, hx0, by have := of_decide_eq_true c; omega, fun H' gs' r k1 k2 k3 k4 k5 k6 => q0 H' gs' r k1 k2 k3 k4 k5 fun env he => ?_⟩
        rw [k6 env he]
        show fB _ _ = fB _ _
        unfold fB
        rw [Int.add_comm]
      · exact ⟨rfl, _, _, rfl, hx0, hy0, by have : ¬ (x0 > y0) := fun z => c (decide_eq_true z); omega, q0⟩
    · rintro σ' H' ⟨rfl, x, y, rfl, hx, hy, hxy, q⟩
      have lb : ∀ env z, bitEnv env → litv (bitsOf env gs) z = 0 ∨ litv (bitsOf env gs) z = 1 := fun env z he => litv_bit (bits_bit he gs) z
      have rno : (∀ env, bitEnv env → fB (litv (bitsOf env gs) x) (litv (bitsOf env gs) y) = 0) → Q (.int 0) H' := fun h0 => q H' gs 0 A0 (.refl _ _) (List.prefix_refl _) (Nat.le_succ _) ⟨Int.le_refl _, by have := A0.ok.pos; omega⟩ fun env he => by rw [no env]; exact (h0 env he).symm
      have ry : (∀ env, bitEnv env → fB (litv (bitsOf env gs) x) (litv (bitsOf env gs) y) = litv (bitsOf env gs) y) → Q (.int y) H' := fun h0 => q H' gs y A0 (.refl _ _) (List.prefix_refl _) (Nat.le_succ _) hy fun env he => (h0 env he).symm
      refine ⟨_, rfl, rfl, _, rfl, ite2 (fun c => ?_) (fun c => ?_)⟩
      · have e : x = 0 := int_of c
        refine iteT ?_
        exact rno fun env he => by
          rw [e, no env]
          have := lb env y he
          unfold fB
          rw [if_neg (by omega)]
      · refine ⟨_, rfl, _, rfl, _, _, rfl, rfl, rfl, _, rfl, ite2 (fun c => ?_) (fun c => ?_)⟩
        · have e : x = Builtin.bitXor y 1 := int_of c
          exact rno fun env he => by
            rw [e, litv_xor1 hy.1]
            have := lb env y he
            unfold fB
            rw [if_neg (by omega)]
        · refine ⟨_, rfl, rfl, _, rfl, ite2 (fun c => ?_) (fun c => ?_)⟩
          · have e : x = 1 := int_of c
            refine iteT ?_
            exact ⟨_, rfl, ry fun env he => by
              rw [e, yes env]
              have := lb env y he
              unfold fB
              split <;> omega⟩
          · refine ⟨_, rfl, _, rfl, rfl, _, rfl, ite2 (fun c => ?_) (fun c => ?_)⟩
            · have e : x = y := int_of c
              exact ⟨_, rfl, ry fun env he => by
                rw [e]
                have := lb env y he
                unfold fB
                split <;> omega⟩
            · refine ⟨_, rfl, p, dx, _, rfl, h1, plFs_no _ _ (by decide +kernel) (by decide +kernel), _, rfl, _, rfl, x, y, rfl, hxy, fun g hg => ?_⟩
              have sn := same_new hg (.tup [.str "both", .int x, .int y])
              refine ⟨p, G, D', g, gs, .both x y, rfl, A0.same sn, .tup (SqT.of upd_same) (.cons (.str _) (.cons (.int _) (.cons (.int _) .nil))), both_depth x y, (by intro z; cases z), (fun m e => by cases e), (fun z hz => ?_), by omega, fun H2 gs' j A1 hb hp hle hj => ?_⟩
              · rcases List.mem_cons.mp hz with e | hz
                · rw [e]; exact hx
                · rw [List.mem_singleton.mp hz]; exact hy
              · refine q H2 gs' _ A1 ((But.of_same sn).trans hb) hp hle (okL_gate hj) fun env he => ?_
                rw [lit_gate A1.ok hj env]
                show (if litv (bitsOf env gs') x + litv (bitsOf env gs') y ≥ 2 then (1 : Int) else 0) = _
                rw [litv_pre hx hp, litv_pre hy hp]
                rfl
theorem ok_either (T : Txt K mg) (PK : PlK K C) (D : DefM K C "either" "Pool.either" ["self", "x", "y"] s_Pool_either f fd) (O1 : OwnM P w K mg base C "both" ["self", "x", "y"] 2 (sp2 P w K C 1 fB)) : OwnM P w K mg base C "either" ["self", "x", "y"] 3 (sp2 P w K C 1 fE) := by
  obtain ⟨fboth, fdboth, Mboth, bboth, Gboth⟩ := O1
  refine ⟨f, fd, D.me, D.bd, D.fn.ok sc_Pool_either (fun vs H Q E h => ?_) (fun cdv A outer s H vs Q E hr h => ?_)⟩
  · obtain ⟨p, G, D', gs, x, y, rfl, _⟩ := h
    rfl
  · obtain ⟨p, G, D', gs, x, y, rfl, A0, hx, hy, hl, q⟩ := h
    obtain ⟨dx, ts, h1, _⟩ := A0.at_
    refine ⟨_, (pss_one (ps_ret (pe_op op_xor (pe_meth (pv 0) PK.cls Mboth Gboth (hr.mono (by omega)) bboth .nil pass0 (pa_cons (pe_op op_xor (pv 1) pe_int) (pa_cons (pe_op op_xor (pv 2) pe_int) pa_nil))) pe_int))), ?_⟩
    refine ⟨_, rfl, p, dx, _, rfl, h1, plFs_no _ _ (by decide +kernel) (by decide +kernel), _, rfl, _, _, rfl, rfl, _, rfl, _, _, rfl, rfl, p, G, D', gs, _, _, rfl, A0, okL_xor1 hx, okL_xor1 hy, hl, fun H' gs' r k1 k2 k3 k4 k5 k6 => ?_⟩
    refine ⟨_, _, rfl, rfl, q H' gs' _ k1 k2 k3 k4 (okL_xor1 k5) fun env he => ?_⟩
    rw [litv_xor1 k5.1, k6 env he]
    show 1 - fB (litv (bitsOf env gs) (Builtin.bitXor x 1)) (litv (bitsOf env gs) (Builtin.bitXor y 1)) = _
    rw [litv_xor1 hx.1, litv_xor1 hy.1]
    have lx := litv_bit (bits_bit he gs) x
    have ly := litv_bit (bits_bit he gs) y
    show 1 - fB _ _ = fE _ _
    unfold fB fE
    split <;> split <;> omega
theorem fU_turn {a b : Int} (ha : a = 0 ∨ a = 1) (hb : b = 0 ∨ b = 1) (s t : Int) : fU (if s % 2 = 0 then a else 1 - a) (if t % 2 = 0 then b else 1 - b) = if (s + t) % 2 = 0 then fU a b else 1 - fU a b := by
  unfold fU
  rcases ha with rfl | rfl <;> rcases hb with rfl | rfl <;> (split <;> split <;> split <;> simp <;> omega)
theorem litv_parts {bs : List Int} (x : Int) : litv bs x = if x % 2 = 0 then litv bs (x - x % 2) else 1 - litv bs (x - x % 2) := by
  rw [litv_even]
  split <;> omega
theorem ok_unlike (T : Txt K mg) (PK : PlK K C) (C1 : ConI mg "NO" 0) (D : DefM K C "unlike" "Pool.unlike" ["self", "x", "y"] s_Pool_unlike f fd) (O1 : OwnM P w K mg base C "literal_of" ["self", "gate"] 1 (spMade P w K C)) : OwnM P w K mg base C "unlike" ["self", "x", "y"] 2 (sp2 P w K C 1 fU) := by
  obtain ⟨fliteral_of, fdliteral_of, Mliteral_of, bliteral_of, Gliteral_of⟩ := O1
  obtain ⟨t_NO, c_NO⟩ := C1
  refine ⟨f, fd, D.me, D.bd, D.fn.ok sc_Pool_unlike (fun vs H Q E h => ?_) (fun cdv A outer s H vs Q E hr h => ?_)⟩
  · obtain ⟨p, G, D', gs, x, y, rfl, _⟩ := h
    rfl
  · obtain ⟨p, G, D', gs, x0, y0, rfl, A0, hx0, hy0, hl, q0⟩ := h
    obtain ⟨dx, ts, h1, _⟩ := A0.at_
    have no := fun env => litv_no (env := env) A0.ok
    have yes := fun env => litv_yes (env := env) A0.ok
    have hX : okL gs (x0 - x0 % 2) := by have := hx0.1; have := hx0.2; unfold okL; omega
    have hY : okL gs (y0 - y0 % 2) := by have := hy0.1; have := hy0.2; unfold okL; omega
    obtain ⟨tn, htn⟩ : ∃ tn, tn = (x0 + y0) % 2 := ⟨_, rfl⟩
    have ht : tn = 0 ∨ tn = 1 := by omega
    refine ⟨_, (pss_cons (ps_set (i := 3) sc_Pool_unlike.nd rfl (Or.inl rfl) (pe_op op_and (pe_op op_xor (pv 1) (pv 2)) pe_int))
      (pss_cons (ps_set (i := 1) sc_Pool_unlike.nd rfl (Or.inl rfl) (pe_op op_xor (pv 1) (pe_op op_and (pv 1) pe_int)))
      (pss_cons (ps_set (i := 2) sc_Pool_unlike.nd rfl (Or.inl rfl) (pe_op op_xor (pv 2) (pe_op op_and (pv 2) pe_int)))
      (pss_cut (ps_if (pt_cmpR op_gt (pv 1) (pv 2) (nomark _)) (pss_one (ps_par (i := 1) (j := 2) rfl sc_Pool_unlike.nd rfl rfl (by decide) rfl rfl (pa_cons (pv 2) (pa_cons (pv 1) pa_nil)) (by rfl))) pss_nil)
      (pss_cons (ps_if (pt_cmpR op_eq (pv 1) (pv 2) (nomark _)) (pss_one (ps_ret (pv 3))) pss_nil)
      (pss_cons (ps_if (pt_cmpR op_eq (pv 1) (pe_glob (v := .int 0) (u := .int 0 t_NO) (by rfl) c_NO ⟨t_NO, rfl⟩) (nomark _)) (pss_one (ps_ret (pe_op op_xor (pv 2) (pv 3)))) pss_nil)
      (pss_one (ps_ret (pe_op op_xor (pe_meth (pv 0) PK.cls Mliteral_of Gliteral_of (hr.mono (by omega)) bliteral_of .nil pass0 (pa_cons (pe_tup (pa_cons pe_str (pa_cons (pv 1) (pa_cons (pv 2) pa_nil)))) pa_nil)) (pv 3)))))))))), ?_⟩
    refine ⟨_, rfl, _, rfl, _, _, rfl, rfl, _, _, rfl, rfl, ?_⟩
    refine ⟨_, rfl, _, rfl, _, _, rfl, rfl, _, _, rfl, rfl, ?_⟩
    refine ⟨_, rfl, _, rfl, _, _, rfl, rfl, _, _, rfl, rfl, ?_⟩
    dsimp only
    rw [turned_of, even_of, even_of, ← htn]
    refine ⟨fun σ' H' => H' = H ∧ ∃ x y, σ' = [some (.ref p), some (.int x), some (.int y), some (.int tn)] ∧ okL gs x ∧ okL gs y ∧ Res P w K C p G D' gs H 1 (fun env => if tn = 0 then fU (litv (bitsOf env gs) x) (litv (bitsOf env gs) y) else 1 - fU (litv (bitsOf env gs) x) (litv (bitsOf env gs) y)) Q, ?_, ?_⟩
    · have q1 : Res P w K C p G D' gs H 1 (fun env => if tn = 0 then fU (litv (bitsOf env gs) (x0 - x0 % 2)) (litv (bitsOf env gs) (y0 - y0 % 2)) else 1 - fU (litv (bitsOf env gs) (x0 - x0 % 2)) (litv (bitsOf env gs) (y0 - y0 % 2))) Q := fun H' gs' r k1 k2 k3 k4 k5 k6 => q0 H' gs' r k1 k2 k3 k4 k5 fun env he => by
        rw [k6 env he, htn]
        show _ = fU (litv (bitsOf env gs) x0) (litv (bitsOf env gs) y0)
        rw [litv_parts x0, litv_parts y0, fU_turn (litv_bit (bits_bit he gs) _) (litv_bit (bits_bit he gs) _)]
      refine ⟨_, rfl, _, rfl, _, _, rfl, rfl, _, rfl, ite2 (fun c => ?_) (fun c => ?_)⟩
      · refine ⟨_, rfl, _, rfl, _, _, rfl, rfl, _, _, rfl, hY, hX, fun H' gs' r k1 k2 k3 k4 k5 k6 => q1 H' gs' r k1 k2 k3 k4 k5 fun env he => ?_⟩
        rw [k6 env he]
        have e : ∀ a b : Int, fU a b = fU b a := fun a b => by unfold fU; split <;> split <;> omega
        show (if tn = 0 then fU (litv (bitsOf env gs) (y0 - y0 % 2)) (litv (bitsOf env gs) (x0 - x0 % 2)) else 1 - fU (litv (bitsOf env gs) (y0 - y0 % 2)) (litv (bitsOf env gs) (x0 - x0 % 2))) = _
        rw [e (litv (bitsOf env gs) (y0 - y0 % 2))]
      · exact ⟨rfl, _, _, rfl, hX, hY, q1⟩
    · rintro σ' H' ⟨rfl, x, y, rfl, hx, hy, q⟩
      refine ⟨_, rfl, _, rfl, rfl, _, rfl, ite2 (fun c => ?_) (fun c => ?_)⟩
      · have e : x = y := int_of c
        refine ⟨_, rfl, q H' gs tn A0 (.refl _ _) (List.prefix_refl _) (Nat.le_succ _) ?_ fun env he => ?_⟩
        · have := A0.ok.pos
          unfold okL
          omega
        · have z : ∀ a : Int, fU a a = 0 := fun a => by unfold fU; rw [if_pos rfl]
          show _ = if tn = 0 then fU (litv (bitsOf env gs) x) (litv (bitsOf env gs) y) else 1 - fU (litv (bitsOf env gs) x) (litv (bitsOf env gs) y)
          rw [e, z]
          rcases ht with h | h <;> rw [h]
          · rw [no env, if_pos rfl]
          · rw [yes env, if_neg (by decide)]; rfl
      · refine ⟨_, rfl, rfl, _, rfl, ite2 (fun c => ?_) (fun c => ?_)⟩
        · have e : x = 0 := int_of c
          refine ⟨_, rfl, _, rfl, _, _, rfl, rfl, q H' gs _ A0 (.refl _ _) (List.prefix_refl _) (Nat.le_succ _) (okL_xort hy ht) fun env he => ?_⟩
          rw [litv_xort hy.1 ht]
          show _ = if tn = 0 then fU (litv (bitsOf env gs) x) (litv (bitsOf env gs) y) else 1 - fU (litv (bitsOf env gs) x) (litv (bitsOf env gs) y)
          have := litv_bit (bits_bit he gs) y
          have eU : fU (litv (bitsOf env gs) x) (litv (bitsOf env gs) y) = litv (bitsOf env gs) y := by
            rw [e, no env]
            unfold fU
            split <;> omega
          rw [eU]
        · refine ⟨_, rfl, p, dx, _, rfl, h1, plFs_no _ _ (by decide +kernel) (by decide +kernel), _, rfl, _, rfl, by show 3 ≤ sizeLine; decide, fun g hg => ?_⟩
          have sn := same_new hg (.tup [.str "unlike", .int x, .int y])
          refine ⟨p, G, D', g, gs, .unlike x y, rfl, A0.same sn, .tup (SqT.of upd_same) (.cons (.str _) (.cons (.int _) (.cons (.int _) .nil))), unlike_depth x y, (by intro z; cases z), (fun m e => by cases e), (fun z hz => ?_), by omega, fun H2 gs' j A1 hb hp hle hj => ?_⟩
          · rcases List.mem_cons.mp hz with e | hz
            · rw [e]; exact hx
            · rw [List.mem_singleton.mp hz]; exact hy
          · refine ⟨_, rfl, _, _, rfl, rfl, q H2 gs' _ A1 ((But.of_same sn).trans hb) hp hle (okL_xort (okL_gate hj) ht) fun env he => ?_⟩
            rw [litv_xort (by omega) ht, lit_gate A1.ok hj env]
            show (if tn = 0 then (if litv (bitsOf env gs') x = litv (bitsOf env gs') y then (0 : Int) else 1) else 1 - (if litv (bitsOf env gs') x = litv (bitsOf env gs') y then (0 : Int) else 1)) = _
            rw [litv_pre hx hp, litv_pre hy hp]
            rfl
end
end My


set_option Elab.async false
set_option maxRecDepth 100000
set_option maxHeartbeats 4000000
set_option linter.all false
namespace My
open PySem L2 PyProof.Rows
open C8 (pss_cut)
theorem xor_half {x c : Int} (hx : 0 ≤ x) (hc : 0 ≤ c) (h : x / 2 = c / 2) : Builtin.bitXor x c = if x = c then 0 else 1 := by
  rw [Bits.bitXor_pp hx hc]
  have hn : x.toNat / 2 = c.toNat / 2 := by omega
  have h1 : (x.toNat ^^^ c.toNat) / 2 = 0 := by rw [Nat.xor_div_two, hn, Nat.xor_self]
  have h2 : (Builtin.bitXor x c) % 2 = (x + c) % 2 := by rw [bitXor_and]; omega
  rw [Bits.bitXor_pp hx hc] at h2
  split <;> omega
def sp3 (P : Program) (w : World) (K : PySem.W.Frag) (C : Addr) (m : Nat) (f : Int → Int → Int → Int) : Sp := fun vs H Q _ => ∃ (p G D : Addr) (gs : List Gt) (c x y : Int), vs = [.ref p, .int c, .int x, .int y] ∧ PoolAt P w K H C p G D gs ∧ okL gs c ∧ okL gs x ∧ okL gs y ∧ gs.length + m ≤ 100000 ∧
  Res P w K C p G D gs H m (fun env => f (litv (bitsOf env gs) c) (litv (bitsOf env gs) x) (litv (bitsOf env gs) y)) Q
section
variable {P : Program} {w : World} {K : PySem.W.Frag} {mg : Str → Option Value} {base : Heap} {f C : Addr} {fd : FuncData}
theorem Res.imp {p G D : Addr} {gs : List Gt} {H : Hp} {m : Nat} {φ ψ : Bits → Int} {Q : VK} (r : Res P w K C p G D gs H m φ Q) (h : ∀ env, bitEnv env → ψ env = φ env) : Res P w K C p G D gs H m ψ Q := fun H' gs' r' k1 k2 k3 k4 k5 k6 => r H' gs' r' k1 k2 k3 k4 k5 fun env he => by rw [k6 env he, h env he]
theorem Res.here {p G D : Addr} {gs : List Gt} {H : Hp} {m : Nat} {φ : Bits → Int} {Q : VK} (r : Res P w K C p G D gs H m φ Q) (A : PoolAt P w K H C p G D gs) {x : Int} (hx : okL gs x) (h : ∀ env, bitEnv env → litv (bitsOf env gs) x = φ env) : Q (.int x) H :=
  r H gs x A (.refl _ _) (List.prefix_refl _) (Nat.le_add_right _ _) hx h
theorem ok_chosen (T : Txt K mg) (PK : PlK K C) (C1 : ConI mg "NO" 0) (C2 : ConI mg "YES" 1) (D : DefM K C "chosen" "Pool.chosen" ["self", "c", "x", "y"] s_Pool_chosen f fd) (O1 : OwnM P w K mg base C "literal_of" ["self", "gate"] 1 (spMade P w K C)) (O2 : OwnM P w K mg base C "both" ["self", "x", "y"] 2 (sp2 P w K C 1 fB)) (O3 : OwnM P w K mg base C "either" ["self", "x", "y"] 3 (sp2 P w K C 1 fE)) (O4 : OwnM P w K mg base C "unlike" ["self", "x", "y"] 2 (sp2 P w K C 1 fU)) :
    OwnM P w K mg base C "chosen" ["self", "c", "x", "y"] 4 (sp3 P w K C 1 fC) := by
  obtain ⟨fliteral_of, fdliteral_of, Mliteral_of, bliteral_of, Gliteral_of⟩ := O1
  obtain ⟨fboth, fdboth, Mboth, bboth, Gboth⟩ := O2
  obtain ⟨feither, fdeither, Meither, beither, Geither⟩ := O3
  obtain ⟨funlike, fdunlike, Munlike, bunlike, Gunlike⟩ := O4
  obtain ⟨t_NO, c_NO⟩ := C1
  obtain ⟨t_YES, c_YES⟩ := C2
  refine ⟨f, fd, D.me, D.bd, D.fn.ok sc_Pool_chosen (fun vs H Q E h => ?_) (fun cdv A outer s H vs Q E hr h => ?_)⟩
  · obtain ⟨p, G, D', gs, c, x, y, rfl, _⟩ := h
    rfl
  · obtain ⟨p, G, D', gs, c0, x0, y0, rfl, A0, hc0, hx0, hy0, hl, q0⟩ := h
    obtain ⟨dx, ts, h1, _⟩ := A0.at_
    have no := fun env => litv_no (env := env) A0.ok
    have yes := fun env => litv_yes (env := env) A0.ok
    have lb : ∀ env z, bitEnv env → litv (bitsOf env gs) z = 0 ∨ litv (bitsOf env gs) z = 1 := fun env z he => litv_bit (bits_bit he gs) z
    have okno : okL gs 0 := by have := A0.ok.pos; unfold okL; omega
    have okyes : okL gs 1 := by have := A0.ok.pos; unfold okL; omega
    have meth : ∀ {m : Str}, ¬ m = "literals" → ¬ m = "gates" → (plFs G D').lookup m = none := fun a b => plFs_no _ _ a b
    refine ⟨_, (pss_cut (ps_if (pt_truth (pe_op op_and (pv 1) pe_int) (by intro _; rfl)) (pss_one (ps_par3 (i := 1) (j := 2) (l := 3) rfl sc_Pool_chosen.nd rfl rfl rfl (by decide) (by decide) (by decide) rfl rfl rfl (pa_cons (pe_op op_xor (pv 1) pe_int) (pa_cons (pv 3) (pa_cons (pv 2) pa_nil))) (by rfl))) pss_nil)
      (pss_cons (ps_if (PW.pt (pw_or (pt_cmpR op_eq (pv 1) (pe_glob (v := .int 0) (u := .int 0 t_NO) (by rfl) c_NO ⟨t_NO, rfl⟩) (nomark _)) (pw_or1 (pt_cmpR op_eq (pv 2) (pv 3) (nomark _))))) (pss_one (ps_ret (pv 3))) pss_nil)
      (pss_cut (ps_if (pt_cmpR op_eq (pe_op op_shr (pv 2) pe_int) (pe_op op_shr (pv 1) pe_int) (nomark _)) (pss_one (ps_set (i := 2) sc_Pool_chosen.nd rfl (Or.inl rfl) (pe_op op_xor (pe_op op_xor (pv 2) (pv 1)) pe_int))) pss_nil)
      (pss_cut (ps_if (pt_cmpR op_eq (pe_op op_shr (pv 3) pe_int) (pe_op op_shr (pv 1) pe_int) (nomark _)) (pss_one (ps_set (i := 3) sc_Pool_chosen.nd rfl (Or.inl rfl) (pe_op op_xor (pv 3) (pv 1)))) pss_nil)
      (pss_cons (ps_if (pt_cmpR op_eq (pv 2) (pe_op op_xor (pv 3) pe_int) (nomark _)) (pss_one (ps_ret (pe_meth (pv 0) PK.cls Munlike Gunlike (hr.mono (by omega)) bunlike .nil pass0 (pa_cons (pv 1) (pa_cons (pv 3) pa_nil))))) pss_nil)
      (pss_cons (ps_if (pt_cmpR op_eq (pv 2) (pe_glob (v := .int 0) (u := .int 0 t_NO) (by rfl) c_NO ⟨t_NO, rfl⟩) (nomark _)) (pss_one (ps_ret (pe_meth (pv 0) PK.cls Mboth Gboth (hr.mono (by omega)) bboth .nil pass0 (pa_cons (pe_op op_xor (pv 1) pe_int) (pa_cons (pv 3) pa_nil))))) pss_nil)
      (pss_cons (ps_if (pt_cmpR op_eq (pv 2) (pe_glob (v := .int 1) (u := .int 1 t_YES) (by rfl) c_YES ⟨t_YES, rfl⟩) (nomark _)) (pss_one (ps_ret (pe_meth (pv 0) PK.cls Meither Geither (hr.mono (by omega)) beither .nil pass0 (pa_cons (pv 1) (pa_cons (pv 3) pa_nil))))) pss_nil)
      (pss_cons (ps_if (pt_cmpR op_eq (pv 3) (pe_glob (v := .int 0) (u := .int 0 t_NO) (by rfl) c_NO ⟨t_NO, rfl⟩) (nomark _)) (pss_one (ps_ret (pe_meth (pv 0) PK.cls Mboth Gboth (hr.mono (by omega)) bboth .nil pass0 (pa_cons (pv 1) (pa_cons (pv 2) pa_nil))))) pss_nil)
      (pss_cons (ps_if (pt_cmpR op_eq (pv 3) (pe_glob (v := .int 1) (u := .int 1 t_YES) (by rfl) c_YES ⟨t_YES, rfl⟩) (nomark _)) (pss_one (ps_ret (pe_meth (pv 0) PK.cls Meither Geither (hr.mono (by omega)) beither .nil pass0 (pa_cons (pe_op op_xor (pv 1) pe_int) (pa_cons (pv 2) pa_nil))))) pss_nil)
      (pss_cons (ps_set (i := 4) sc_Pool_chosen.nd rfl (Or.inl rfl) (pe_op op_and (pv 2) pe_int))
      (pss_one (ps_ret (pe_op op_xor (pe_meth (pv 0) PK.cls Mliteral_of Gliteral_of (hr.mono (by omega)) bliteral_of .nil pass0 (pa_cons (pe_tup (pa_cons pe_str (pa_cons (pv 1) (pa_cons (pe_op op_xor (pv 2) (pv 4)) (pa_cons (pe_op op_xor (pv 3) (pv 4)) pa_nil))))) pa_nil)) (pv 4)))))))))))))), ?_⟩
    refine ⟨fun σ' H' => H' = H ∧ ∃ c x y, σ' = [some (.ref p), some (.int c), some (.int x), some (.int y), none] ∧ okL gs c ∧ okL gs x ∧ okL gs y ∧ Res P w K C p G D' gs H 1 (fun env => fC (litv (bitsOf env gs) c) (litv (bitsOf env gs) x) (litv (bitsOf env gs) y)) Q, ?_, ?_⟩
    · refine ⟨_, rfl, _, _, rfl, rfl, _, rfl, ite2 (fun c => ?_) (fun c => ?_)⟩
      · refine ⟨_, rfl, _, _, rfl, rfl, _, rfl, _, rfl, _, _, _, rfl, rfl, _, _, _, rfl, okL_xor1 hc0, hy0, hx0, q0.imp fun env he => ?_⟩
        show fC _ _ _ = fC _ _ _
        rw [litv_xor1 hc0.1]
        have := lb env c0 he
        unfold fC
        split <;> split <;> omega
      · exact ⟨rfl, _, _, _, rfl, hc0, hx0, hy0, q0⟩
    · rintro σ' H1 ⟨e0, c, x, y, rfl, hc, hx, hy, q⟩
      subst e0
      refine ⟨_, rfl, rfl, _, rfl, ite2 (fun b => ?_) (fun b => ?_)⟩
      · have e : c = 0 := int_of b
        refine iteT ?_
        exact ⟨_, rfl, q.here A0 hy fun env he => by
          show _ = fC _ _ _
          rw [e, no env]
          rfl⟩
      refine ⟨_, rfl, _, rfl, rfl, _, rfl, ite2 (fun b => ?_) (fun b => ?_)⟩
      · have e : x = y := int_of b
        exact ⟨_, rfl, q.here A0 hy fun env he => by
          show _ = fC _ _ _
          rw [e]
          unfold fC
          split <;> rfl⟩
      refine ⟨fun σ' H' => H' = H1 ∧ ∃ x, σ' = [some (.ref p), some (.int c), some (.int x), some (.int y), none] ∧ okL gs x ∧ Res P w K C p G D' gs H1 1 (fun env => fC (litv (bitsOf env gs) c) (litv (bitsOf env gs) x) (litv (bitsOf env gs) y)) Q, ?_, ?_⟩
      · refine ⟨_, rfl, _, _, rfl, rfl, (by show (0 : Int) ≤ 1; decide), _, rfl, _, _, rfl, rfl, (by show (0 : Int) ≤ 1; decide), rfl, _, rfl, ite2 (fun b => ?_) (fun b => ?_)⟩
        · have e : x / 2 = c / 2 := int_of b
          refine ⟨_, rfl, _, rfl, _, _, rfl, rfl, _, _, rfl, rfl, rfl, _, rfl, ?_, ?_⟩
          · rw [xor_half hx.1 hc.1 e]
            split
            · exact okyes
            · exact okno
          · refine q.imp fun env he => ?_
            show fC _ (litv _ (Builtin.bitXor (Builtin.bitXor x c) 1)) _ = fC _ _ _
            rw [xor_half hx.1 hc.1 e]
            by_cases h : x = c
            · rw [if_pos h, h, show Builtin.bitXor 0 1 = 1 from rfl, yes env]
              unfold fC
              split
              · omega
              · rfl
            · have ex : x = Builtin.bitXor c 1 := by rw [xor1]; split <;> omega
              rw [if_neg h, ex, litv_xor1 hc.1, show Builtin.bitXor 1 1 = 0 from rfl, no env]
              unfold fC
              split
              · omega
              · rfl
        · exact ⟨rfl, _, rfl, hx, q⟩
      rintro σ' H2 ⟨e0, x, rfl, hx, q⟩
      subst e0
      refine ⟨fun σ' H' => H' = H2 ∧ ∃ y, σ' = [some (.ref p), some (.int c), some (.int x), some (.int y), none] ∧ okL gs y ∧ Res P w K C p G D' gs H2 1 (fun env => fC (litv (bitsOf env gs) c) (litv (bitsOf env gs) x) (litv (bitsOf env gs) y)) Q, ?_, ?_⟩
      · refine ⟨_, rfl, _, _, rfl, rfl, (by show (0 : Int) ≤ 1; decide), _, rfl, _, _, rfl, rfl, (by show (0 : Int) ≤ 1; decide), rfl, _, rfl, ite2 (fun b => ?_) (fun b => ?_)⟩
        · have e : y / 2 = c / 2 := int_of b
          refine ⟨_, rfl, _, rfl, _, _, rfl, rfl, rfl, _, rfl, ?_, ?_⟩
          · rw [xor_half hy.1 hc.1 e]
            split
            · exact okno
            · exact okyes
          · refine q.imp fun env he => ?_
            show fC _ _ (litv _ (Builtin.bitXor y c)) = fC _ _ _
            rw [xor_half hy.1 hc.1 e]
            have := lb env c he
            by_cases h : y = c
            · rw [if_pos h, h, no env]
              unfold fC
              split
              · rfl
              · omega
            · have ex : y = Builtin.bitXor c 1 := by rw [xor1]; split <;> omega
              rw [if_neg h, ex, litv_xor1 hc.1, yes env]
              unfold fC
              split
              · rfl
              · omega
        · exact ⟨rfl, _, rfl, hy, q⟩
      rintro σ' H3 ⟨e0, y, rfl, hy, q⟩
      subst e0
      refine ⟨_, rfl, _, rfl, _, _, rfl, rfl, rfl, _, rfl, ite2 (fun b => ?_) (fun b => ?_)⟩
      · have e : x = Builtin.bitXor y 1 := int_of b
        refine ⟨_, rfl, p, dx, _, rfl, h1, meth (by decide +kernel) (by decide +kernel), _, rfl, _, rfl, p, G, D', gs, _, _, rfl, A0, hc, hy, hl, q.imp fun env he => ?_⟩
        show fU _ _ = fC _ _ _
        rw [e, litv_xor1 hy.1]
        have := lb env c he
        have := lb env y he
        unfold fU fC
        split <;> split <;> omega
      refine ⟨_, rfl, rfl, _, rfl, ite2 (fun b => ?_) (fun b => ?_)⟩
      · have e : x = 0 := int_of b
        refine ⟨_, rfl, p, dx, _, rfl, h1, meth (by decide +kernel) (by decide +kernel), _, rfl, _, _, rfl, rfl, _, rfl, p, G, D', gs, _, _, rfl, A0, okL_xor1 hc, hy, hl, q.imp fun env he => ?_⟩
        show fB _ _ = fC _ _ _
        rw [e, no env, litv_xor1 hc.1]
        have := lb env c he
        have := lb env y he
        unfold fB fC
        split <;> split <;> omega
      refine ⟨_, rfl, rfl, _, rfl, ite2 (fun b => ?_) (fun b => ?_)⟩
      · have e : x = 1 := int_of b
        refine ⟨_, rfl, p, dx, _, rfl, h1, meth (by decide +kernel) (by decide +kernel), _, rfl, _, rfl, p, G, D', gs, _, _, rfl, A0, hc, hy, hl, q.imp fun env he => ?_⟩
        show fE _ _ = fC _ _ _
        rw [e, yes env]
        have := lb env c he
        have := lb env y he
        unfold fE fC
        split <;> split <;> omega
      refine ⟨_, rfl, rfl, _, rfl, ite2 (fun b => ?_) (fun b => ?_)⟩
      · have e : y = 0 := int_of b
        refine ⟨_, rfl, p, dx, _, rfl, h1, meth (by decide +kernel) (by decide +kernel), _, rfl, _, rfl, p, G, D', gs, _, _, rfl, A0, hc, hx, hl, q.imp fun env he => ?_⟩
        show fB _ _ = fC _ _ _
        rw [e, no env]
        have := lb env c he
        have := lb env x he
        unfold fB fC
        split <;> split <;> omega
      refine ⟨_, rfl, rfl, _, rfl, ite2 (fun b => ?_) (fun b => ?_)⟩
      · have e : y = 1 := int_of b
        refine ⟨_, rfl, p, dx, _, rfl, h1, meth (by decide +kernel) (by decide +kernel), _, rfl, _, _, rfl, rfl, _, rfl, p, G, D', gs, _, _, rfl, A0, okL_xor1 hc, hx, hl, q.imp fun env he => ?_⟩
        show fE _ _ = fC _ _ _
        rw [e, yes env, litv_xor1 hc.1]
        have := lb env c he
        have := lb env x he
        unfold fE fC
        split <;> split <;> omega
      refine ⟨_, rfl, _, _, rfl, rfl, ?_⟩
      have ht : Builtin.bitAnd x 1 = 0 ∨ Builtin.bitAnd x 1 = 1 := by rw [bitAnd_m1]; omega
      refine ⟨_, rfl, p, dx, _, rfl, h1, meth (by decide +kernel) (by decide +kernel), _, rfl, _, rfl, _, rfl, _, _, rfl, rfl, _, rfl, _, rfl, _, _, rfl, rfl, by show 4 ≤ sizeLine; decide, fun g hg => ?_⟩
      have sn := same_new hg (.tup [.str "chosen", .int c, .int (Builtin.bitXor x (Builtin.bitAnd x 1)), .int (Builtin.bitXor y (Builtin.bitAnd x 1))])
      refine ⟨p, G, D', g, gs, .chosen c (Builtin.bitXor x (Builtin.bitAnd x 1)) (Builtin.bitXor y (Builtin.bitAnd x 1)), rfl, A0.same sn, .tup (SqT.of upd_same) (.cons (.str _) (.cons (.int _) (.cons (.int _) (.cons (.int _) .nil)))), chosen_depth _ _ _, (by intro z; cases z), (fun m e => by cases e), (fun z hz => ?_), by omega, fun H4 gs' j A1 hb hp hle hj => ?_⟩
      · rcases List.mem_cons.mp hz with e | hz
        · rw [e]; exact hc
        · rcases List.mem_cons.mp hz with e | hz
          · rw [e]; exact okL_xort hx ht
          · rw [List.mem_singleton.mp hz]; exact okL_xort hy ht
      · refine ⟨_, rfl, _, _, rfl, rfl, q H4 gs' _ A1 ((But.of_same sn).trans hb) hp hle (okL_xort (okL_gate hj) ht) fun env he => ?_⟩
        rw [litv_xort (by omega) ht, lit_gate A1.ok hj env]
        show (if Builtin.bitAnd x 1 = 0 then (if litv (bitsOf env gs') c = 1 then litv (bitsOf env gs') (Builtin.bitXor x (Builtin.bitAnd x 1)) else litv (bitsOf env gs') (Builtin.bitXor y (Builtin.bitAnd x 1))) else 1 - (if litv (bitsOf env gs') c = 1 then litv (bitsOf env gs') (Builtin.bitXor x (Builtin.bitAnd x 1)) else litv (bitsOf env gs') (Builtin.bitXor y (Builtin.bitAnd x 1)))) = fC _ _ _
        rw [litv_xort hx.1 ht, litv_xort hy.1 ht, litv_pre hc hp, litv_pre hx hp, litv_pre hy hp]
        unfold fC
        rcases ht with h | h <;> rw [h]
        · rw [if_pos rfl, if_pos rfl, if_pos rfl]
        · have n1 : ¬ (1 : Int) = 0 := by decide
          rw [if_neg n1, if_neg n1, if_neg n1]
          split <;> omega
end
end My


set_option Elab.async false
set_option maxRecDepth 100000
set_option maxHeartbeats 4000000
set_option linter.all false
namespace My
open PySem L2 PyProof.Rows
open C8 (pss_cut)
def fM (a b c : Int) : Int := if a + b + c ≥ 2 then 1 else 0
theorem most_depth (x y z : Int) : (Gt.most x y z).nk.depth ≤ 8 := by simp only [Gt.nk, NestedKey.depth, NestedKey.depthAll]; decide
theorem fM_perm {f : Int → Int} {x y z a b c : Int} (h : [a, b, c].Perm [x, y, z]) : fM (f a) (f b) (f c) = fM (f x) (f y) (f z) := by
  have e : ([a, b, c].map f).foldr (fun u v => u + v) 0 = ([x, y, z].map f).foldr (fun u v => u + v) 0 := (h.map f).foldr_eq' (fun u _ v _ w => by omega) 0
  unfold fM
  simp only [List.map_cons, List.map_nil, List.foldr_cons, List.foldr_nil] at e
  rw [show f a + f b + f c = f x + f y + f z by omega]
section
variable {P : Program} {w : World} {K : PySem.W.Frag} {mg : Str → Option Value} {base : Heap} {f C : Addr} {fd : FuncData}
theorem ok_most (T : Txt K mg) (PK : PlK K C) (C1 : ConI mg "NO" 0) (C2 : ConI mg "YES" 1) (D : DefM K C "most" "Pool.most" ["self", "x", "y", "z"] s_Pool_most f fd) (O1 : OwnM P w K mg base C "literal_of" ["self", "gate"] 1 (spMade P w K C)) (O2 : OwnM P w K mg base C "both" ["self", "x", "y"] 2 (sp2 P w K C 1 fB)) (O3 : OwnM P w K mg base C "either" ["self", "x", "y"] 3 (sp2 P w K C 1 fE)) :
    OwnM P w K mg base C "most" ["self", "x", "y", "z"] 4 (sp3 P w K C 1 fM) := by
  obtain ⟨fliteral_of, fdliteral_of, Mliteral_of, bliteral_of, Gliteral_of⟩ := O1
  obtain ⟨fboth, fdboth, Mboth, bboth, Gboth⟩ := O2
  obtain ⟨feither, fdeither, Meither, beither, Geither⟩ := O3
  obtain ⟨t_NO, c_NO⟩ := C1
  obtain ⟨t_YES, c_YES⟩ := C2
  refine ⟨f, fd, D.me, D.bd, D.fn.ok sc_Pool_most (fun vs H Q E h => ?_) (fun cdv A outer s H vs Q E hr h => ?_)⟩
  · obtain ⟨p, G, D', gs, c, x, y, rfl, _⟩ := h
    rfl
  · obtain ⟨p, G, D', gs, x0, y0, z0, rfl, A00, hx0, hy0, hz0, hl, q0⟩ := h
    refine ⟨_, (pss_cons (ps_asg (pe_callB cr_sorted (by rfl) T.m_sorted (by decide +kernel) (pa_cons (pe_lst (pa_cons (pv 1) (pa_cons (pv 2) (pa_cons (pv 3) pa_nil)))) pa_nil)) (pg_unl (by rfl) (pgs_cons (pg_name (i := 1) sc_Pool_most.nd rfl (Or.inl rfl)) (pgs_cons (pg_name (i := 2) sc_Pool_most.nd rfl (Or.inl rfl)) (pgs_cons (pg_name (i := 3) sc_Pool_most.nd rfl (Or.inl rfl)) pgs_nil)))))
      (pss_cons (ps_if (PW.pt (pw_or (pt_cmpR op_eq (pv 1) (pv 2) (nomark _)) (pw_or1 (pt_cmpR op_eq (pv 2) (pv 3) (nomark _))))) (pss_one (ps_ret (pv 2))) pss_nil)
      (pss_cons (ps_if (pt_cmpR op_eq (pv 1) (pe_op op_xor (pv 2) pe_int) (nomark _)) (pss_one (ps_ret (pv 3))) pss_nil)
      (pss_cons (ps_if (pt_cmpR op_eq (pv 2) (pe_op op_xor (pv 3) pe_int) (nomark _)) (pss_one (ps_ret (pv 1))) pss_nil)
      (pss_cons (ps_if (pt_cmpR op_eq (pv 1) (pe_glob (v := .int 0) (u := .int 0 t_NO) (by rfl) c_NO ⟨t_NO, rfl⟩) (nomark _)) (pss_one (ps_ret (pe_meth (pv 0) PK.cls Mboth Gboth (hr.mono (by omega)) bboth .nil pass0 (pa_cons (pv 2) (pa_cons (pv 3) pa_nil))))) pss_nil)
      (pss_cons (ps_if (pt_cmpR op_eq (pv 1) (pe_glob (v := .int 1) (u := .int 1 t_YES) (by rfl) c_YES ⟨t_YES, rfl⟩) (nomark _)) (pss_one (ps_ret (pe_meth (pv 0) PK.cls Meither Geither (hr.mono (by omega)) beither .nil pass0 (pa_cons (pv 2) (pa_cons (pv 3) pa_nil))))) pss_nil)
      (pss_cons (ps_set (i := 4) sc_Pool_most.nd rfl (Or.inl rfl) (pe_op op_and (pv 1) pe_int))
      (pss_one (ps_ret (pe_op op_xor (pe_meth (pv 0) PK.cls Mliteral_of Gliteral_of (hr.mono (by omega)) bliteral_of .nil pass0 (pa_cons (pe_tup (pa_cons pe_str (pa_cons (pe_op op_xor (pv 1) (pv 4)) (pa_cons (pe_op op_xor (pv 2) (pv 4)) (pa_cons (pe_op op_xor (pv 3) (pv 4)) pa_nil))))) pa_nil)) (pv 4))))))))))), ?_⟩
    refine ⟨_, rfl, _, rfl, _, rfl, by show 3 ≤ sizeLine; decide, fun l fl => ?_⟩
    have s1 := same_new fl (.lst [.int x0, .int y0, .int z0])
    refine ⟨l, [x0, y0, z0], rfl, SqL.of upd_same, by show 3 < 64; decide, fun ns r pm asc fr => ?_⟩
    have s2 := s1.trans (same_new fr (.lst (ns.map V.int)))
    obtain ⟨x, y, z, rfl⟩ : ∃ x y z, ns = [x, y, z] := by
      have hl3 := pm.length_eq
      match ns, hl3 with
      | [x, y, z], _ => exact ⟨x, y, z, rfl⟩
    have A0 := A00.same s2
    obtain ⟨dx, ts, h1, _⟩ := A0.at_
    have okm : ∀ u ∈ [x, y, z], okL gs u := fun u hu => by
      have := pm.mem_iff.mp hu
      rcases List.mem_cons.mp this with e | this
      · rw [e]; exact hx0
      · rcases List.mem_cons.mp this with e | this
        · rw [e]; exact hy0
        · rw [List.mem_singleton.mp this]; exact hz0
    have hx := okm x (.head _)
    have hy := okm y (.tail _ (.head _))
    have hz := okm z (.tail _ (.tail _ (.head _)))
    have no := fun env => litv_no (env := env) A0.ok
    have yes := fun env => litv_yes (env := env) A0.ok
    have lb : ∀ env z, bitEnv env → litv (bitsOf env gs) z = 0 ∨ litv (bitsOf env gs) z = 1 := fun env z he => litv_bit (bits_bit he gs) z
    have meth : ∀ {m : Str}, ¬ m = "literals" → ¬ m = "gates" → (plFs G D').lookup m = none := fun a b => plFs_no _ _ a b
    have q : Res P w K C p G D' gs (upd (upd H l (.lst [.int x0, .int y0, .int z0])) r (.lst ([x, y, z].map V.int))) 1 (fun env => fM (litv (bitsOf env gs) x) (litv (bitsOf env gs) y) (litv (bitsOf env gs) z)) Q := fun H' gs' r' k1 k2 k3 k4 k5 k6 => q0 H' gs' r' k1 ((But.of_same s2).trans k2) k3 k4 k5 fun env he => by
      rw [k6 env he]
      exact fM_perm pm
    refine ⟨r, _, rfl, SqL.of upd_same, rfl, _, _, rfl, _, _, rfl, _, _, rfl, rfl, ?_⟩
    refine ⟨_, rfl, _, rfl, rfl, _, rfl, ite2 (fun b => ?_) (fun b => ?_)⟩
    · have e : x = y := int_of b
      refine iteT ?_
      exact ⟨_, rfl, q.here A0 hy fun env he => by
        show _ = fM _ _ _
        rw [e]
        have := lb env y he
        have := lb env z he
        unfold fM
        split <;> omega⟩
    refine ⟨_, rfl, _, rfl, rfl, _, rfl, ite2 (fun b => ?_) (fun b => ?_)⟩
    · have e : y = z := int_of b
      exact ⟨_, rfl, q.here A0 hy fun env he => by
        show _ = fM _ _ _
        rw [e]
        have := lb env x he
        have := lb env z he
        unfold fM
        split <;> omega⟩
    refine ⟨_, rfl, _, rfl, _, _, rfl, rfl, rfl, _, rfl, ite2 (fun b => ?_) (fun b => ?_)⟩
    · have e : x = Builtin.bitXor y 1 := int_of b
      exact ⟨_, rfl, q.here A0 hz fun env he => by
        show _ = fM _ _ _
        rw [e, litv_xor1 hy.1]
        have := lb env y he
        have := lb env z he
        unfold fM
        split <;> omega⟩
    refine ⟨_, rfl, _, rfl, _, _, rfl, rfl, rfl, _, rfl, ite2 (fun b => ?_) (fun b => ?_)⟩
    · have e : y = Builtin.bitXor z 1 := int_of b
      exact ⟨_, rfl, q.here A0 hx fun env he => by
        show _ = fM _ _ _
        rw [e, litv_xor1 hz.1]
        have := lb env x he
        have := lb env z he
        unfold fM
        split <;> omega⟩
    refine ⟨_, rfl, rfl, _, rfl, ite2 (fun b => ?_) (fun b => ?_)⟩
    · have e : x = 0 := int_of b
      refine ⟨_, rfl, p, dx, _, rfl, h1, meth (by decide +kernel) (by decide +kernel), _, rfl, _, rfl, p, G, D', gs, _, _, rfl, A0, hy, hz, hl, q.imp fun env he => ?_⟩
      show fB _ _ = fM _ _ _
      rw [e, no env]
      unfold fB fM
      split <;> split <;> omega
    refine ⟨_, rfl, rfl, _, rfl, ite2 (fun b => ?_) (fun b => ?_)⟩
    · have e : x = 1 := int_of b
      refine ⟨_, rfl, p, dx, _, rfl, h1, meth (by decide +kernel) (by decide +kernel), _, rfl, _, rfl, p, G, D', gs, _, _, rfl, A0, hy, hz, hl, q.imp fun env he => ?_⟩
      show fE _ _ = fM _ _ _
      rw [e, yes env]
      unfold fE fM
      split <;> split <;> omega
    refine ⟨_, rfl, _, _, rfl, rfl, ?_⟩
    have ht : Builtin.bitAnd x 1 = 0 ∨ Builtin.bitAnd x 1 = 1 := by rw [bitAnd_m1]; omega
    refine ⟨_, rfl, p, dx, _, rfl, h1, meth (by decide +kernel) (by decide +kernel), _, rfl, _, rfl, _, _, rfl, rfl, _, rfl, _, rfl, _, _, rfl, rfl, _, rfl, _, rfl, _, _, rfl, rfl, by show 4 ≤ sizeLine; decide, fun g hg => ?_⟩
    have sn := same_new hg (.tup [.str "most", .int (Builtin.bitXor x (Builtin.bitAnd x 1)), .int (Builtin.bitXor y (Builtin.bitAnd x 1)), .int (Builtin.bitXor z (Builtin.bitAnd x 1))])
    refine ⟨p, G, D', g, gs, .most (Builtin.bitXor x (Builtin.bitAnd x 1)) (Builtin.bitXor y (Builtin.bitAnd x 1)) (Builtin.bitXor z (Builtin.bitAnd x 1)), rfl, A0.same sn, .tup (SqT.of upd_same) (.cons (.str _) (.cons (.int _) (.cons (.int _) (.cons (.int _) .nil)))), most_depth _ _ _, (by intro z; cases z), (fun m e => by cases e), (fun u hu => ?_), by omega, fun H4 gs' j A1 hb hp hle hj => ?_⟩
    · rcases List.mem_cons.mp hu with e | hu
      · rw [e]; exact okL_xort hx ht
      · rcases List.mem_cons.mp hu with e | hu
        · rw [e]; exact okL_xort hy ht
        · rw [List.mem_singleton.mp hu]; exact okL_xort hz ht
    · refine ⟨_, rfl, _, _, rfl, rfl, q H4 gs' _ A1 ((But.of_same sn).trans hb) hp hle (okL_xort (okL_gate hj) ht) fun env he => ?_⟩
      rw [litv_xort (by omega) ht, lit_gate A1.ok hj env]
      show (if Builtin.bitAnd x 1 = 0 then fM (litv (bitsOf env gs') (Builtin.bitXor x (Builtin.bitAnd x 1))) (litv (bitsOf env gs') (Builtin.bitXor y (Builtin.bitAnd x 1))) (litv (bitsOf env gs') (Builtin.bitXor z (Builtin.bitAnd x 1))) else 1 - fM (litv (bitsOf env gs') (Builtin.bitXor x (Builtin.bitAnd x 1))) (litv (bitsOf env gs') (Builtin.bitXor y (Builtin.bitAnd x 1))) (litv (bitsOf env gs') (Builtin.bitXor z (Builtin.bitAnd x 1)))) = fM _ _ _
      rw [litv_xort hx.1 ht, litv_xort hy.1 ht, litv_xort hz.1 ht, litv_pre hx hp, litv_pre hy hp, litv_pre hz hp]
      have := lb env x he
      have := lb env y he
      have := lb env z he
      unfold fM
      rcases ht with h | h <;> rw [h]
      · rw [if_pos rfl, if_pos rfl, if_pos rfl, if_pos rfl]
      · have n1 : ¬ (1 : Int) = 0 := by decide
        rw [if_neg n1, if_neg n1, if_neg n1, if_neg n1]
        split <;> split <;> omega
end
end My

set_option Elab.async false
set_option maxRecDepth 100000
set_option maxHeartbeats 4000000
set_option linter.all false
/-! Words of literals as numbers. -/
namespace My
open PySem PySem.Spec PyProof.Rows L2
def wv (bs : List Int) : List Int → Int
  | [] => 0
  | x :: xs => litv bs x + 2 * wv bs xs
theorem wv_snoc (bs : List Int) (x : Int) : ∀ xs : List Int, wv bs (xs ++ [x]) = wv bs xs + 2 ^ xs.length * litv bs x
  | [] => by show litv bs x + 2 * 0 = 0 + 2 ^ 0 * litv bs x; rw [Int.pow_zero]; omega
  | y :: ys => by
    show litv bs y + 2 * wv bs (ys ++ [x]) = litv bs y + 2 * wv bs ys + 2 ^ (ys.length + 1) * litv bs x
    rw [wv_snoc bs x ys, Int.pow_succ]
    rw [Int.mul_add, ← Int.mul_assoc, Int.mul_comm 2 (2 ^ ys.length)]
    omega
theorem wv_rng {bs : List Int} (h : ∀ b ∈ bs, b = 0 ∨ b = 1) : ∀ xs : List Int, 0 ≤ wv bs xs ∧ wv bs xs < 2 ^ xs.length
  | [] => ⟨Int.le_refl _, by show (0 : Int) < 2 ^ 0; decide⟩
  | y :: ys => by
    have ih := wv_rng h ys
    have hb := litv_bit h y
    show 0 ≤ litv bs y + 2 * wv bs ys ∧ litv bs y + 2 * wv bs ys < 2 ^ (ys.length + 1)
    rw [Int.pow_succ]
    omega
theorem wv_pre {env : Bits} {gs gs' : List Gt} (p : gs <+: gs') : ∀ {xs : List Int}, (∀ x ∈ xs, okL gs x) → wv (bitsOf env gs') xs = wv (bitsOf env gs) xs
  | [], _ => rfl
  | x :: xs, h => by
    show litv _ x + 2 * wv _ xs = litv _ x + 2 * wv _ xs
    rw [litv_pre (h x (.head _)) p, wv_pre p fun y hy => h y (.tail _ hy)]
theorem take_snoc' {xs : List Int} {i : Nat} {x : Int} (h : xs[i]? = some x) : xs.take (i + 1) = xs.take i ++ [x] := by
  rw [List.take_add_one, h]
  rfl
theorem wv_step {bs xs : List Int} {i : Nat} {x : Int} (h : xs[i]? = some x) : wv bs (xs.take (i + 1)) = wv bs (xs.take i) + 2 ^ i * litv bs x := by
  have hi := (List.getElem?_eq_some_iff.mp h).1
  rw [take_snoc' h, wv_snoc, List.length_take, Nat.min_eq_left (by omega)]
theorem pow_p (i : Nat) : (0 : Int) < 2 ^ i := Int.pow_pos (by decide)
end My


set_option Elab.async false
set_option maxRecDepth 100000
set_option maxHeartbeats 4000000
set_option linter.all false
namespace My
open PySem L2 PyProof.Rows
open C8 (pss_cut)
theorem sql_but {K : PySem.W.Frag} {A : List Addr} {H H' : Hp} (hb : But A H H') {a : Addr} (na : a ∉ A) {xs : List V} (h : SqL K H a xs) : SqL K H' a xs := by
  rcases h with (h | ⟨o, h⟩) | h
  · exact .inl (.inl (hb a _ na h))
  · exact .inl (.inr ⟨o, hb a _ na h⟩)
  · exact .inr h
def spW1 (P : Program) (w : World) (K : PySem.W.Frag) (C : Addr) (m : Nat → Nat) (f : Int → Int) : Sp := fun vs H Q _ => ∃ (p G D x : Addr) (gs : List Gt) (xs : List Int), vs = [.ref p, .ref x] ∧ PoolAt P w K H C p G D gs ∧ SqL K H x (xs.map V.int) ∧ x ∉ [G, D] ∧ (∀ z ∈ xs, okL gs z) ∧ gs.length + m xs.length ≤ 100000 ∧
  Res P w K C p G D gs H (m xs.length) (fun env => f (wv (bitsOf env gs) xs)) Q
def spW2 (P : Program) (w : World) (K : PySem.W.Frag) (C : Addr) (m : Nat → Nat) (f : Int → Int → Int) : Sp := fun vs H Q _ => ∃ (p G D x y : Addr) (gs : List Gt) (xs ys : List Int), vs = [.ref p, .ref x, .ref y] ∧ PoolAt P w K H C p G D gs ∧ SqL K H x (xs.map V.int) ∧ SqL K H y (ys.map V.int) ∧ x ∉ [G, D] ∧ y ∉ [G, D] ∧ xs.length = ys.length ∧ (∀ z ∈ xs, okL gs z) ∧ (∀ z ∈ ys, okL gs z) ∧ gs.length + m xs.length ≤ 100000 ∧
  Res P w K C p G D gs H (m xs.length) (fun env => f (wv (bitsOf env gs) xs) (wv (bitsOf env gs) ys)) Q
theorem less_step {A B a b : Int} {i : Nat} (hA : 0 ≤ A ∧ A < 2 ^ i) (hB : 0 ≤ B ∧ B < 2 ^ i) (ha : a = 0 ∨ a = 1) (hb : b = 0 ∨ b = 1) : fM (1 - a) b (if A < B then 1 else 0) = if A + 2 ^ i * a < B + 2 ^ i * b then 1 else 0 := by
  generalize (2 : Int) ^ i = p at *
  by_cases h : A < B
  · rw [if_pos h]
    rcases ha with rfl | rfl <;> rcases hb with rfl | rfl <;> simp only [Int.mul_zero, Int.mul_one, Int.add_zero]
    · rw [if_pos h]; decide
    · rw [if_pos (by omega)]; decide
    · rw [if_neg (by omega)]; decide
    · rw [if_pos (by omega)]; decide
  · rw [if_neg h]
    rcases ha with rfl | rfl <;> rcases hb with rfl | rfl <;> simp only [Int.mul_zero, Int.mul_one, Int.add_zero]
    · rw [if_neg h]; decide
    · rw [if_pos (by omega)]; decide
    · rw [if_neg (by omega)]; decide
    · rw [if_neg (by omega)]; decide
theorem eq_step {A B a b : Int} {i : Nat} (hA : 0 ≤ A ∧ A < 2 ^ i) (hB : 0 ≤ B ∧ B < 2 ^ i) (ha : a = 0 ∨ a = 1) (hb : b = 0 ∨ b = 1) : fB (if A = B then 1 else 0) (1 - fU a b) = if A + 2 ^ i * a = B + 2 ^ i * b then 1 else 0 := by
  generalize (2 : Int) ^ i = p at *
  by_cases h : A = B
  · rw [if_pos h]
    rcases ha with rfl | rfl <;> rcases hb with rfl | rfl <;> simp only [Int.mul_zero, Int.mul_one, Int.add_zero]
    · rw [if_pos h]; decide
    · rw [if_neg (by omega)]; decide
    · rw [if_neg (by omega)]; decide
    · rw [if_pos (by omega)]; decide
  · rw [if_neg h]
    rcases ha with rfl | rfl <;> rcases hb with rfl | rfl <;> simp only [Int.mul_zero, Int.mul_one, Int.add_zero]
    · rw [if_neg h]; decide
    · rw [if_neg (by omega)]; decide
    · rw [if_neg (by omega)]; decide
    · rw [if_neg (by omega)]; decide
theorem true_step {A a : Int} {i : Nat} (hA : 0 ≤ A ∧ A < 2 ^ i) (ha : a = 0 ∨ a = 1) : fE (if A = 0 then 0 else 1) a = if A + 2 ^ i * a = 0 then 0 else 1 := by
  unfold fE
  rcases ha with rfl | rfl <;> simp only [Int.mul_zero, Int.mul_one] <;> (repeat' split) <;> omega
theorem get_int {xs : List Int} {i : Nat} {y : V} (h : (xs.map V.int)[i]? = some y) : ∃ z, xs[i]? = some z ∧ y = .int z := by
  rw [List.getElem?_map] at h
  obtain ⟨z, h1, h2⟩ := Option.map_eq_some_iff.mp h
  exact ⟨z, h1, h2.symm⟩
section
variable {P : Program} {w : World} {K : PySem.W.Frag} {mg : Str → Option Value} {base : Heap} {f C : Addr} {fd : FuncData}
theorem ok_less_word (T : Txt K mg) (PK : PlK K C) (C1 : ConI mg "NO" 0) (D : Def K mg "less_word" ["pool", "x", "y"] s_less_word f fd) (O1 : OwnM P w K mg base C "most" ["self", "x", "y", "z"] 4 (sp3 P w K C 1 fM)) : Own P w K mg base "less_word" ["pool", "x", "y"] 5 (spW2 P w K C (fun n => n) (fun A B => if A < B then 1 else 0)) := by
  obtain ⟨fmost, fdmost, Mmost, bmost, Gmost⟩ := O1
  obtain ⟨t_NO, c_NO⟩ := C1
  refine ⟨f, fd, D.mg, D.fn.kp, D.bd, D.fn.ok sc_less_word (fun vs H Q E h => ?_) (fun cdv A outer s H vs Q E hr h => ?_)⟩
  · obtain ⟨p, G, D', x, y, gs, xs, ys, rfl, _⟩ := h
    rfl
  · obtain ⟨p, G, D', x, y, gs, xs, ys, rfl, A0, hx, hy, nx, ny, el, okx, oky, hl, q⟩ := h
    have hl : gs.length + xs.length ≤ 100000 := hl
    refine ⟨_, (pss_cons (ps_set (i := 3) sc_less_word.nd rfl (Or.inl rfl) (pe_glob (v := .int 0) (u := .int 0 t_NO) (by rfl) c_NO ⟨t_NO, rfl⟩))
      (pss_cons (ps_for PassesOwn.never rfl (pi_zip (by rfl) T.m_zip (pa_cons (pv 1) (pa_cons (pv 2) pa_nil))) (pg_tup (by rfl) (pgs_cons (pg_name (i := 4) sc_less_word.nd rfl (Or.inl rfl)) (pgs_cons (pg_name (i := 5) sc_less_word.nd rfl (Or.inl rfl)) pgs_nil))) (pss_one (ps_set (i := 3) sc_less_word.nd rfl (Or.inl rfl) (pe_meth (pv 0) PK.cls Mmost Gmost (hr.mono (by omega)) bmost .nil pass0 (pa_cons (pe_op op_xor (pv 4) pe_int) (pa_cons (pv 5) (pa_cons (pv 3) pa_nil)))))))
      (pss_one (ps_ret (pv 3))))), ?_⟩
    refine ⟨_, rfl, _, rfl, x, y, _, _, rfl, hx, hy, RZ.for_zipL (K := K) (xs := xs.map V.int) (ys := ys.map V.int) (by rw [List.length_map, List.length_map, el]) (fun i σ' H' => ∃ (gs' : List Gt) (cur : Int) (o4 o5 : Option V), σ' = [some (.ref p), some (.ref x), some (.ref y), some (.int cur), o4, o5] ∧ PoolAt P w K H' C p G D' gs' ∧ But [G, D'] H H' ∧ gs <+: gs' ∧ gs'.length ≤ gs.length + i ∧ okL gs' cur ∧ ∀ env, bitEnv env → litv (bitsOf env gs') cur = if wv (bitsOf env gs) (xs.take i) < wv (bitsOf env gs) (ys.take i) then 1 else 0) ⟨gs, 0, none, none, rfl, A0, .refl _ _, List.prefix_refl _, Nat.le_refl _, ⟨Int.le_refl _, by have := A0.ok.pos; omega⟩, fun env he => by rw [litv_no A0.ok]; rfl⟩ (fun i σ' H' ⟨_, _, _, _, _, _, b, _⟩ => ⟨sql_but b nx hx, sql_but b ny hy⟩) ?_ ?_⟩
    · rintro i u v Tt σ' H1 hu hv ⟨gs1, cur, o4, o5, rfl, A1, b1, pg1, lg1, okc, sem⟩ fT
      obtain ⟨a, ha, rfl⟩ := get_int hu
      obtain ⟨b, hb, rfl⟩ := get_int hv
      have sT := same_new fT (.tup [.int a, .int b])
      have A1' := A1.same sT
      obtain ⟨dx, ts, h1, _⟩ := A1'.at_
      have oka := okx a (List.mem_of_getElem? ha)
      have okb := oky b (List.mem_of_getElem? hb)
      have hil := (List.getElem?_eq_some_iff.mp ha).1
      refine ⟨Tt, _, rfl, SqT.of upd_same, rfl, _, _, rfl, _, _, rfl, rfl, ?_⟩
      refine ⟨_, rfl, p, dx, _, rfl, h1, plFs_no _ _ (by decide +kernel) (by decide +kernel), _, rfl, _, _, rfl, rfl, _, rfl, _, rfl, p, G, D', gs1, _, _, _, rfl, A1', okL_xor1 (oka.mono pg1), okb.mono pg1, okc, by omega, fun H2 gs2 r A2 b2 pg2 lg2 okr semr => ?_⟩
      refine ⟨gs2, r, _, _, rfl, A2, (b1.trans (.of_same sT)).trans b2, pg1.trans pg2, by omega, okr, fun env he => ?_⟩
      rw [semr env he]
      show fM (litv (bitsOf env gs1) (Builtin.bitXor a 1)) (litv (bitsOf env gs1) b) (litv (bitsOf env gs1) cur) = _
      rw [sem env he, litv_xor1 oka.1, litv_pre oka pg1, litv_pre okb pg1, wv_step ha, wv_step hb]
      have hb2 := bits_bit he gs
      have rg := wv_rng hb2 (xs.take i)
      have rg2 := wv_rng hb2 (ys.take i)
      rw [List.length_take, Nat.min_eq_left (by omega)] at rg rg2
      exact less_step rg rg2 (litv_bit hb2 a) (litv_bit hb2 b)
    · rintro σ' H1 ⟨gs1, cur, o4, o5, rfl, A1, b1, pg1, lg1, okc, sem⟩
      rw [List.length_map] at lg1
      simp only [List.length_map, List.take_length] at sem
      rw [el, List.take_length] at sem
      exact ⟨_, rfl, q H1 gs1 cur A1 b1 pg1 lg1 okc sem⟩
theorem ok_equal_word (T : Txt K mg) (PK : PlK K C) (C1 : ConI mg "YES" 1) (D : Def K mg "equal_word" ["pool", "x", "y"] s_equal_word f fd) (O1 : OwnM P w K mg base C "both" ["self", "x", "y"] 2 (sp2 P w K C 1 fB)) (O2 : OwnM P w K mg base C "unlike" ["self", "x", "y"] 2 (sp2 P w K C 1 fU)) : Own P w K mg base "equal_word" ["pool", "x", "y"] 5 (spW2 P w K C (fun n => 2 * n) (fun A B => if A = B then 1 else 0)) := by
  obtain ⟨fboth, fdboth, Mboth, bboth, Gboth⟩ := O1
  obtain ⟨funlike, fdunlike, Munlike, bunlike, Gunlike⟩ := O2
  obtain ⟨t_YES, c_YES⟩ := C1
  refine ⟨f, fd, D.mg, D.fn.kp, D.bd, D.fn.ok sc_equal_word (fun vs H Q E h => ?_) (fun cdv A outer s H vs Q E hr h => ?_)⟩
  · obtain ⟨p, G, D', x, y, gs, xs, ys, rfl, _⟩ := h
    rfl
  · obtain ⟨p, G, D', x, y, gs, xs, ys, rfl, A0, hx, hy, nx, ny, el, okx, oky, hl, q⟩ := h
    have hl : gs.length + 2 * xs.length ≤ 100000 := hl
    refine ⟨_, (pss_cons (ps_set (i := 3) sc_equal_word.nd rfl (Or.inl rfl) (pe_glob (v := .int 1) (u := .int 1 t_YES) (by rfl) c_YES ⟨t_YES, rfl⟩))
      (pss_cons (ps_for PassesOwn.never rfl (pi_zip (by rfl) T.m_zip (pa_cons (pv 1) (pa_cons (pv 2) pa_nil))) (pg_tup (by rfl) (pgs_cons (pg_name (i := 4) sc_equal_word.nd rfl (Or.inl rfl)) (pgs_cons (pg_name (i := 5) sc_equal_word.nd rfl (Or.inl rfl)) pgs_nil))) (pss_one (ps_set (i := 3) sc_equal_word.nd rfl (Or.inl rfl) (pe_meth (pv 0) PK.cls Mboth Gboth (hr.mono (by omega)) bboth .nil pass0 (pa_cons (pv 3) (pa_cons (pe_op op_xor (pe_meth (pv 0) PK.cls Munlike Gunlike (hr.mono (by omega)) bunlike .nil pass0 (pa_cons (pv 4) (pa_cons (pv 5) pa_nil))) pe_int) pa_nil))))))
      (pss_one (ps_ret (pv 3))))), ?_⟩
    refine ⟨_, rfl, _, rfl, x, y, _, _, rfl, hx, hy, RZ.for_zipL (K := K) (xs := xs.map V.int) (ys := ys.map V.int) (by rw [List.length_map, List.length_map, el]) (fun i σ' H' => ∃ (gs' : List Gt) (cur : Int) (o4 o5 : Option V), σ' = [some (.ref p), some (.ref x), some (.ref y), some (.int cur), o4, o5] ∧ PoolAt P w K H' C p G D' gs' ∧ But [G, D'] H H' ∧ gs <+: gs' ∧ gs'.length ≤ gs.length + 2 * i ∧ okL gs' cur ∧ ∀ env, bitEnv env → litv (bitsOf env gs') cur = if wv (bitsOf env gs) (xs.take i) = wv (bitsOf env gs) (ys.take i) then 1 else 0) ⟨gs, 1, none, none, rfl, A0, .refl _ _, List.prefix_refl _, Nat.le_refl _, ⟨by decide, by have := A0.ok.pos; omega⟩, fun env he => by rw [litv_yes A0.ok]; rfl⟩ (fun i σ' H' ⟨_, _, _, _, _, _, b, _⟩ => ⟨sql_but b nx hx, sql_but b ny hy⟩) ?_ ?_⟩
    · rintro i u v Tt σ' H1 hu hv ⟨gs1, cur, o4, o5, rfl, A1, b1, pg1, lg1, okc, sem⟩ fT
      obtain ⟨a, ha, rfl⟩ := get_int hu
      obtain ⟨b, hb, rfl⟩ := get_int hv
      have sT := same_new fT (.tup [.int a, .int b])
      have A1' := A1.same sT
      obtain ⟨dx, ts, h1, _⟩ := A1'.at_
      have oka := okx a (List.mem_of_getElem? ha)
      have okb := oky b (List.mem_of_getElem? hb)
      have hil := (List.getElem?_eq_some_iff.mp ha).1
      refine ⟨Tt, _, rfl, SqT.of upd_same, rfl, _, _, rfl, _, _, rfl, rfl, ?_⟩
      refine ⟨_, rfl, p, dx, _, rfl, h1, plFs_no _ _ (by decide +kernel) (by decide +kernel), _, rfl, _, rfl, p, dx, _, rfl, h1, plFs_no _ _ (by decide +kernel) (by decide +kernel), _, rfl, _, rfl, p, G, D', gs1, _, _, rfl, A1', oka.mono pg1, okb.mono pg1, by omega, fun H2 gs2 r A2 b2 pg2 lg2 okr semr => ?_⟩
      refine ⟨_, _, rfl, rfl, p, G, D', gs2, _, _, rfl, A2, okc.mono pg2, okL_xor1 okr, by omega, fun H3 gs3 r3 A3 b3 pg3 lg3 okr3 semr3 => ?_⟩
      refine ⟨gs3, r3, _, _, rfl, A3, ((b1.trans (.of_same sT)).trans b2).trans b3, (pg1.trans pg2).trans pg3, by omega, okr3, fun env he => ?_⟩
      rw [semr3 env he]
      show fB (litv (bitsOf env gs2) cur) (litv (bitsOf env gs2) (Builtin.bitXor r 1)) = _
      rw [litv_xor1 okr.1, semr env he, litv_pre okc pg2, sem env he]
      show fB _ (1 - fU (litv (bitsOf env gs1) a) (litv (bitsOf env gs1) b)) = _
      rw [litv_pre oka pg1, litv_pre okb pg1, wv_step ha, wv_step hb]
      have hb2 := bits_bit he gs
      have rg := wv_rng hb2 (xs.take i)
      have rg2 := wv_rng hb2 (ys.take i)
      rw [List.length_take, Nat.min_eq_left (by omega)] at rg rg2
      exact eq_step rg rg2 (litv_bit hb2 a) (litv_bit hb2 b)
    · rintro σ' H1 ⟨gs1, cur, o4, o5, rfl, A1, b1, pg1, lg1, okc, sem⟩
      rw [List.length_map] at lg1
      simp only [List.length_map, List.take_length] at sem
      rw [el, List.take_length] at sem
      exact ⟨_, rfl, q H1 gs1 cur A1 b1 pg1 lg1 okc sem⟩
end
end My


set_option Elab.async false
set_option maxRecDepth 100000
set_option maxHeartbeats 4000000
set_option linter.all false
namespace My
open PySem L2 PyProof.Rows
open C8 (pss_cut)
/-- what a call that makes a word leaves -/
def ResW (P : Program) (w : World) (K : PySem.W.Frag) (C p G D : Addr) (gs : List Gt) (H : Hp) (m n : Nat) (φ : Bits → Int) (Q : VK) : Prop :=
  ∀ (H' : Hp) (gs' : List Gt) (r : Addr) (zs : List Int), PoolAt P w K H' C p G D gs' → But [G, D] H H' → gs <+: gs' → gs'.length ≤ gs.length + m → H r = none → H' r = some (.lst (zs.map V.int)) → zs.length = n → (∀ z ∈ zs, okL gs' z) → (∀ env, bitEnv env → wv (bitsOf env gs') zs = φ env) → Q (.ref r) H'
def spAdded (P : Program) (w : World) (K : PySem.W.Frag) (C : Addr) : Sp := fun vs H Q _ => ∃ (p G D x y : Addr) (c : Int) (gs : List Gt) (xs ys : List Int), vs = [.ref p, .ref x, .ref y, .int c] ∧ PoolAt P w K H C p G D gs ∧ SqL K H x (xs.map V.int) ∧ SqL K H y (ys.map V.int) ∧ x ∉ [G, D] ∧ y ∉ [G, D] ∧ xs.length = ys.length ∧ xs.length ≤ 1000 ∧ (∀ z ∈ xs, okL gs z) ∧ (∀ z ∈ ys, okL gs z) ∧ okL gs c ∧ gs.length + 3 * xs.length ≤ 100000 ∧
  ResW P w K C p G D gs H (3 * xs.length) xs.length (fun env => (wv (bitsOf env gs) xs + wv (bitsOf env gs) ys + litv (bitsOf env gs) c) % 2 ^ xs.length) Q
theorem full_add {a b c : Int} (ha : a = 0 ∨ a = 1) (hb : b = 0 ∨ b = 1) (hc : c = 0 ∨ c = 1) : fU (fU a b) c + 2 * fM a b c = a + b + c := by
  rcases ha with rfl | rfl <;> rcases hb with rfl | rfl <;> rcases hc with rfl | rfl <;> decide
section
variable {P : Program} {w : World} {K : PySem.W.Frag} {mg : Str → Option Value} {base : Heap} {f C : Addr} {fd : FuncData}
theorem ok_added (T : Txt K mg) (PK : PlK K C) (D : Def K mg "added" ["pool", "x", "y", "carry"] s_added f fd) (O1 : OwnM P w K mg base C "most" ["self", "x", "y", "z"] 4 (sp3 P w K C 1 fM)) (O2 : OwnM P w K mg base C "unlike" ["self", "x", "y"] 2 (sp2 P w K C 1 fU)) : Own P w K mg base "added" ["pool", "x", "y", "carry"] 5 (spAdded P w K C) := by
  obtain ⟨fmost, fdmost, Mmost, bmost, Gmost⟩ := O1
  obtain ⟨funlike, fdunlike, Munlike, bunlike, Gunlike⟩ := O2
  refine ⟨f, fd, D.mg, D.fn.kp, D.bd, D.fn.ok sc_added (fun vs H Q E h => ?_) (fun cdv A outer s H vs Q E hr h => ?_)⟩
  · obtain ⟨p, G, D', x, y, c, gs, xs, ys, rfl, _⟩ := h
    rfl
  · obtain ⟨p, G, D', x, y, c, gs, xs, ys, rfl, A0, hx, hy, nx, ny, el, h1000, okx, oky, okc0, hl, q⟩ := h
    refine ⟨_, (pss_cons (ps_set (i := 4) sc_added.nd rfl (Or.inl rfl) (pe_lst pa_nil))
      (pss_cons (ps_for PassesOwn.never rfl (pi_zip (by rfl) T.m_zip (pa_cons (pv 1) (pa_cons (pv 2) pa_nil))) (pg_tup (by rfl) (pgs_cons (pg_name (i := 5) sc_added.nd rfl (Or.inl rfl)) (pgs_cons (pg_name (i := 6) sc_added.nd rfl (Or.inl rfl)) pgs_nil))) (pss_cons (ps_expr (pe_bm PySem.F.plainAttrs_list PySem.F.slot_list_append PySem.F.type_list_append mt_append (pv 4) (pa_cons (pe_meth (pv 0) PK.cls Munlike Gunlike (hr.mono (by omega)) bunlike .nil pass0 (pa_cons (pe_meth (pv 0) PK.cls Munlike Gunlike (hr.mono (by omega)) bunlike .nil pass0 (pa_cons (pv 5) (pa_cons (pv 6) pa_nil))) (pa_cons (pv 3) pa_nil))) pa_nil)))
      (pss_one (ps_set (i := 3) sc_added.nd rfl (Or.inl rfl) (pe_meth (pv 0) PK.cls Mmost Gmost (hr.mono (by omega)) bmost .nil pass0 (pa_cons (pv 5) (pa_cons (pv 6) (pa_cons (pv 3) pa_nil))))))))
      (pss_one (ps_ret (pv 4))))), ?_⟩
    refine ⟨Nat.zero_le _, fun R fR => ?_⟩
    have s0 := same_new fR (.lst [])
    have nR : ∀ b o, H b = some o → b ≠ R := fun b o e => ne_of_none e fR
    have nRG : R ∉ [G, D'] := fun m => by
      have := A0.mut R m
      rw [fR] at this
      exact this
    refine ⟨_, rfl, _, rfl, x, y, _, _, rfl, sql_mono s0 hx, sql_mono s0 hy, RZ.for_zipL (K := K) (xs := xs.map V.int) (ys := ys.map V.int) (by rw [List.length_map, List.length_map, el]) (fun i σ' H' => ∃ (gs' : List Gt) (cur : Int) (zs : List Int) (o5 o6 : Option V), σ' = [some (.ref p), some (.ref x), some (.ref y), some (.int cur), some (.ref R), o5, o6] ∧ PoolAt P w K H' C p G D' gs' ∧ But [G, D'] H H' ∧ gs <+: gs' ∧ gs'.length ≤ gs.length + 3 * i ∧ okL gs' cur ∧ H' R = some (.lst (zs.map V.int)) ∧ zs.length = i ∧ (∀ z ∈ zs, okL gs' z) ∧ ∀ env, bitEnv env → wv (bitsOf env gs') zs + 2 ^ i * litv (bitsOf env gs') cur = wv (bitsOf env gs) (xs.take i) + wv (bitsOf env gs) (ys.take i) + litv (bitsOf env gs) c) ⟨gs, c, [], none, none, rfl, A0.same s0, .of_same s0, List.prefix_refl _, Nat.le_refl _, okc0, upd_same, rfl, (fun z hz => nomatch hz), fun env he => by show 0 + 2 ^ 0 * _ = 0 + 0 + _; rw [Int.pow_zero]; omega⟩ (fun i σ' H' ⟨_, _, _, _, _, _, _, b, _⟩ => ⟨sql_but b nx hx, sql_but b ny hy⟩) ?_ ?_⟩
    · rintro i u v Tt σ' H1 hu hv ⟨gs1, cur, zs, o5, o6, rfl, A1, b1, pg1, lg1, okc, hR1, lz, okz, sem⟩ fT
      obtain ⟨a, ha, rfl⟩ := get_int hu
      obtain ⟨b, hb, rfl⟩ := get_int hv
      have sT := same_new fT (.tup [.int a, .int b])
      have A1' := A1.same sT
      obtain ⟨dx, ts, h1, _⟩ := A1'.at_
      have oka := okx a (List.mem_of_getElem? ha)
      have okb := oky b (List.mem_of_getElem? hb)
      have hil := (List.getElem?_eq_some_iff.mp ha).1
      have hRT := sT _ _ hR1
      have no : ∀ {m : Str}, ¬ m = "literals" → ¬ m = "gates" → (plFs G D').lookup m = none := fun a b => plFs_no _ _ a b
      refine ⟨Tt, _, rfl, SqT.of upd_same, rfl, _, _, rfl, _, _, rfl, rfl, ?_⟩
      refine ⟨_, rfl, .inl ⟨rfl, _, SqL.of hRT⟩, _, rfl, p, dx, _, rfl, h1, no (by decide +kernel) (by decide +kernel), _, rfl, p, dx, _, rfl, h1, no (by decide +kernel) (by decide +kernel), _, rfl, _, rfl, p, G, D', gs1, _, _, rfl, A1', oka.mono pg1, okb.mono pg1, by omega, fun H2 gs2 r2 A2 b2 pg2 lg2 okr2 sem2 => ?_⟩
      refine ⟨_, rfl, p, G, D', gs2, _, _, rfl, A2, okr2, okc.mono pg2, by omega, fun H3 gs3 r3 A3 b3 pg3 lg3 okr3 sem3 => ?_⟩
      have hR3 := b3 _ _ nRG (b2 _ _ nRG hRT)
      refine ⟨R, _, _, rfl, rfl, hR3, by rw [List.length_map, lz]; exact Nat.lt_of_lt_of_le (show i < 1000 by omega) (by decide), ?_⟩
      have mutR : ∀ a ∈ [R], Mut (H3 a) := fun a ha => by rw [List.mem_singleton.mp ha, hR3]; exact True.intro
      have bR : But [R] H3 (upd H3 R (.lst (zs.map V.int ++ [.int r3]))) := .put (.head _) _
      have nG1 : ∀ {b : Addr}, b ≠ R → b ∉ [R] := fun h m => h (List.mem_singleton.mp m)
      obtain ⟨dx3, ts3, hp3, hG3, _⟩ := A3.at_
      have npR : p ≠ R := ne_of hp3 hR3 (by intro z; cases z)
      have nGR : G ≠ R := fun e => nRG (by rw [← e]; exact .head _)
      have nDR : D' ≠ R := fun e => nRG (by rw [← e]; exact .tail _ (.head _))
      have A4 := A3.keep mutR bR (nG1 npR) (nG1 nGR) (nG1 nDR)
      obtain ⟨dx4, ts4, h4, _⟩ := A4.at_
      refine ⟨_, rfl, p, dx4, _, rfl, h4, no (by decide +kernel) (by decide +kernel), _, rfl, _, rfl, _, rfl, p, G, D', gs3, _, _, _, rfl, A4, (oka.mono pg1).mono (pg2.trans pg3), (okb.mono pg1).mono (pg2.trans pg3), okc.mono (pg2.trans pg3), by omega, fun H5 gs5 r5 A5 b5 pg5 lg5 okr5 sem5 => ?_⟩
      have hR5 := b5 _ _ nRG (show (upd H3 R (.lst (zs.map V.int ++ [.int r3]))) R = some (.lst (zs.map V.int ++ [.int r3])) from upd_same)
      have b13 : But [G, D'] H H3 := ((b1.trans (.of_same sT)).trans b2).trans b3
      have b14 : But [G, D'] H (upd H3 R (.lst (zs.map V.int ++ [.int r3]))) := fun z o n e => by rw [upd_ne (nR _ _ e)]; exact b13 _ _ n e
      have pgall := (pg2.trans pg3).trans pg5
      refine ⟨gs5, r5, zs ++ [r3], _, _, rfl, A5, b14.trans b5, pg1.trans pgall, by omega, okr5, by rw [hR5, List.map_append]; rfl, by rw [List.length_append, List.length_singleton, lz], fun z hz => ?_, fun env he => ?_⟩
      · rcases List.mem_append.mp hz with h | h
        · exact (okz z h).mono pgall
        · rw [List.mem_singleton.mp h]; exact okr3.mono pg5
      · have hb2 := bits_bit he gs
        have e3 : litv (bitsOf env gs5) r3 = fU (fU (litv (bitsOf env gs) a) (litv (bitsOf env gs) b)) (litv (bitsOf env gs1) cur) := by
          rw [litv_pre okr3 pg5, sem3 env he]
          show fU (litv _ r2) (litv _ cur) = _
          rw [sem2 env he, litv_pre okc pg2]
          show fU (fU (litv (bitsOf env gs1) a) (litv (bitsOf env gs1) b)) _ = _
          rw [litv_pre oka pg1, litv_pre okb pg1]
        have e5 : litv (bitsOf env gs5) r5 = fM (litv (bitsOf env gs) a) (litv (bitsOf env gs) b) (litv (bitsOf env gs1) cur) := by
          rw [sem5 env he]
          show fM (litv (bitsOf env gs3) a) (litv (bitsOf env gs3) b) (litv (bitsOf env gs3) cur) = _
          rw [litv_pre (oka.mono pg1) (pg2.trans pg3), litv_pre (okb.mono pg1) (pg2.trans pg3), litv_pre okc (pg2.trans pg3), litv_pre oka pg1, litv_pre okb pg1]
        have fa := full_add (litv_bit hb2 a) (litv_bit hb2 b) (litv_bit (bits_bit he gs1) cur)
        have hs := sem env he
        rw [wv_snoc, lz, wv_pre pgall okz, e3, e5, wv_step ha, wv_step hb, Int.pow_succ]
        generalize (2 : Int) ^ i = pw at *
        generalize litv (bitsOf env gs) a = la at *
        generalize litv (bitsOf env gs) b = lb at *
        generalize litv (bitsOf env gs1) cur = lc at *
        generalize fU (fU la lb) lc = su at *
        generalize fM la lb lc = ca at *
        have e1 : pw * su + pw * (2 * ca) = pw * la + pw * lb + pw * lc := by rw [← Int.mul_add, fa, Int.mul_add, Int.mul_add]
        rw [Int.mul_assoc pw 2 ca]
        omega
    · rintro σ' H1 ⟨gs1, cur, zs, o5, o6, rfl, A1, b1, pg1, lg1, okc, hR1, lz, okz, sem⟩
      rw [List.length_map] at lg1 lz
      simp only [List.length_map] at sem
      refine ⟨_, rfl, q H1 gs1 R zs A1 b1 pg1 lg1 fR hR1 lz okz fun env he => ?_⟩
      have hs := sem env he
      rw [List.take_length, el, List.take_length, ← el] at hs
      have rg := wv_rng (bits_bit he gs1) zs
      rw [lz] at rg
      show _ = (wv (bitsOf env gs) xs + wv (bitsOf env gs) ys + litv (bitsOf env gs) c) % 2 ^ xs.length
      rw [← hs, Int.add_mul_emod_self_left, Int.emod_eq_of_lt rg.1 rg.2]
end
end My

set_option Elab.async false
set_option maxRecDepth 100000
set_option maxHeartbeats 4000000
set_option linter.all false
namespace My
open PySem PySem.Spec L2
theorem yesV {σ : L2.St} {H : Hp} {Q : Bool → Hp → Prop} (h : Q true H) : tYes σ H Q := h
theorem take_nextV {α : Type} {l : List α} {i : Nat} {x : α} (h : l[i]? = some x) : l.take (i + 1) = l.take i ++ [x] := by
  rw [List.take_add_one, h]
  rfl
theorem lenV {n : Nat} (h : n ≤ 1000) : n < sizeLine := Nat.lt_of_le_of_lt h (by decide)
/-- [f(x) for x in t], t a tuple -/
theorem lc_mapT {K : PySem.W.Frag} {a : Addr} {xs : List V} {k : Nat} {te : TE} {vs : List Nat} {σ : L2.St} {H1 : Hp} {D : Addr} {Qd : Hp → Prop} (f : V → V) (ha : SqT K H1 a xs) (hl : xs.length ≤ 1000) (hD : H1 D = none) (hw : ∀ x, wipe ((wipe σ vs).set k (some x)) vs = wipe σ vs)
    (he : ∀ y H2 (R : VK), y ∈ xs → Same H1 H2 → R (f y) H2 → te ((wipe σ vs).set k (some y)) H2 R)
    (hq : ∀ H2, H2 D = some (.lst (xs.map f)) → Same H1 H2 → Qd H2) :
    ∃ W : Nat → Nat → Hp → Prop, (∃ m, W 0 m (upd H1 D (.lst []))) ∧ ∀ i m H, W i m H →
      ((Itt K a).stop i H ∧ Qd H) ∨ ((Itt K a).go i H ∧ ∃ Nx : Hp → Prop, (∀ H', Nx H' → ∃ m', m' < m ∧ W (i + 1) m' H') ∧ ∀ x H', (Itt K a).yld i H x H' → gName k x (wipe σ vs) H' fun σ2 H2 => wipe σ2 vs = wipe σ vs ∧ tYes σ2 H2 fun b H3 =>
        if b = true then te σ2 H3 fun y H4 => ∃ acc, H4 D = some (.lst acc) ∧ acc.length < sizeLine ∧ Nx (upd H4 D (.lst (acc ++ [y]))) else Nx H3) := by
  refine lc_tup (K := K) (a := a) (xs := xs) (fun i H2 => H2 D = some (.lst ((xs.take i).map f)) ∧ Same H1 H2 ∧ i ≤ xs.length) ⟨upd_same, same_new hD _, Nat.zero_le _⟩ (fun i H2 _ ⟨_, s, _⟩ => sqt_mono s ha) ?_ ?_
  · rintro i y H2 hi ⟨h1, s, _⟩
    have hi' : i < xs.length := (List.getElem?_eq_some_iff.mp hi).1
    refine ⟨hw y, ?_⟩
    refine yesV ?_
    rw [if_pos rfl]
    refine he y H2 _ (List.mem_of_getElem? hi) s ⟨_, h1, ?_, ?_, fun b o hb => ?_, hi'⟩
    · rw [List.length_map, List.length_take]
      exact lenV (by omega)
    · rw [upd_same, take_nextV hi, List.map_append] <;> rfl
    · rw [upd_ne (ne_of_none hb hD)]
      exact s b o hb
  · rintro H2 ⟨h1, s, _⟩
    rw [List.take_length] at h1
    exact hq H2 h1 s
/-- [f(x) for x in xs], xs a list -/
theorem lc_mapL {K : PySem.W.Frag} {a : Addr} {xs : List V} {k : Nat} {te : TE} {vs : List Nat} {σ : L2.St} {H1 : Hp} {D : Addr} {Qd : Hp → Prop} (f : V → V) (ha : SqL K H1 a xs) (hl : xs.length ≤ 1000) (hD : H1 D = none) (hw : ∀ x, wipe ((wipe σ vs).set k (some x)) vs = wipe σ vs)
    (he : ∀ y H2 (R : VK), y ∈ xs → Same H1 H2 → R (f y) H2 → te ((wipe σ vs).set k (some y)) H2 R)
    (hq : ∀ H2, H2 D = some (.lst (xs.map f)) → Same H1 H2 → Qd H2) :
    ∃ W : Nat → Nat → Hp → Prop, (∃ m, W 0 m (upd H1 D (.lst []))) ∧ ∀ i m H, W i m H →
      ((Itl K a).stop i H ∧ Qd H) ∨ ((Itl K a).go i H ∧ ∃ Nx : Hp → Prop, (∀ H', Nx H' → ∃ m', m' < m ∧ W (i + 1) m' H') ∧ ∀ x H', (Itl K a).yld i H x H' → gName k x (wipe σ vs) H' fun σ2 H2 => wipe σ2 vs = wipe σ vs ∧ tYes σ2 H2 fun b H3 =>
        if b = true then te σ2 H3 fun y H4 => ∃ acc, H4 D = some (.lst acc) ∧ acc.length < sizeLine ∧ Nx (upd H4 D (.lst (acc ++ [y]))) else Nx H3) := by
  refine lc_list (K := K) (a := a) (xs := xs) (fun i H2 => H2 D = some (.lst ((xs.take i).map f)) ∧ Same H1 H2 ∧ i ≤ xs.length) ⟨upd_same, same_new hD _, Nat.zero_le _⟩ (fun i H2 _ ⟨_, s, _⟩ => sql_mono s ha) ?_ ?_
  · rintro i y H2 hi ⟨h1, s, _⟩
    have hi' : i < xs.length := (List.getElem?_eq_some_iff.mp hi).1
    refine ⟨hw y, ?_⟩
    refine yesV ?_
    rw [if_pos rfl]
    refine he y H2 _ (List.mem_of_getElem? hi) s ⟨_, h1, ?_, ?_, fun b o hb => ?_, hi'⟩
    · rw [List.length_map, List.length_take]
      exact lenV (by omega)
    · rw [upd_same, take_nextV hi, List.map_append] <;> rfl
    · rw [upd_ne (ne_of_none hb hD)]
      exact s b o hb
  · rintro H2 ⟨h1, s, _⟩
    rw [List.take_length] at h1
    exact hq H2 h1 s
/-- [f(x) for x in xs], where the heap may grow -/
theorem lc_mapLS {K : PySem.W.Frag} {a : Addr} {xs : List V} {k : Nat} {te : TE} {vs : List Nat} {σ : L2.St} {H1 : Hp} {D : Addr} {Qd : Hp → Prop} (f : V → V) (ha : SqL K H1 a xs) (hl : xs.length ≤ 1000) (hD : H1 D = none) (hw : ∀ x, wipe ((wipe σ vs).set k (some x)) vs = wipe σ vs)
    (he : ∀ y H2 (R : VK), y ∈ xs → Same H1 H2 → (∀ H3, Same H2 H3 → R (f y) H3) → te ((wipe σ vs).set k (some y)) H2 R)
    (hq : ∀ H2, H2 D = some (.lst (xs.map f)) → Same H1 H2 → Qd H2) :
    ∃ W : Nat → Nat → Hp → Prop, (∃ m, W 0 m (upd H1 D (.lst []))) ∧ ∀ i m H, W i m H →
      ((Itl K a).stop i H ∧ Qd H) ∨ ((Itl K a).go i H ∧ ∃ Nx : Hp → Prop, (∀ H', Nx H' → ∃ m', m' < m ∧ W (i + 1) m' H') ∧ ∀ x H', (Itl K a).yld i H x H' → gName k x (wipe σ vs) H' fun σ2 H2 => wipe σ2 vs = wipe σ vs ∧ tYes σ2 H2 fun b H3 =>
        if b = true then te σ2 H3 fun y H4 => ∃ acc, H4 D = some (.lst acc) ∧ acc.length < sizeLine ∧ Nx (upd H4 D (.lst (acc ++ [y]))) else Nx H3) := by
  refine lc_list (K := K) (a := a) (xs := xs) (fun i H2 => H2 D = some (.lst ((xs.take i).map f)) ∧ Same H1 H2 ∧ i ≤ xs.length) ⟨upd_same, same_new hD _, Nat.zero_le _⟩ (fun i H2 _ ⟨_, s, _⟩ => sql_mono s ha) ?_ ?_
  · rintro i y H2 hi ⟨h1, s, _⟩
    have hi' : i < xs.length := (List.getElem?_eq_some_iff.mp hi).1
    refine ⟨hw y, ?_⟩
    refine yesV ?_
    rw [if_pos rfl]
    refine he y H2 _ (List.mem_of_getElem? hi) s fun H3 s3 => ⟨_, s3 _ _ h1, ?_, ?_, fun b o hb => ?_, hi'⟩
    · rw [List.length_map, List.length_take]
      exact lenV (by omega)
    · rw [upd_same, take_nextV hi, List.map_append] <;> rfl
    · rw [upd_ne (ne_of_none hb hD)]
      exact s3 _ _ (s b o hb)
  · rintro H2 ⟨h1, s, _⟩
    rw [List.take_length] at h1
    exact hq H2 h1 s
end My

set_option Elab.async false
set_option maxRecDepth 100000
set_option maxHeartbeats 4000000
set_option linter.all false
namespace My
open PySem PySem.Spec L2
/-- [.. for x, y in zip(xs, ys)], two lists of one length -/
theorem lc_zipL {K : PySem.W.Frag} {a b : Addr} {xs ys : List V} {g : TG} {tt : TT} {te : TE} {vs : List Nat} {σ : L2.St} {H1 : Hp} {D : Addr} {Qd : Hp → Prop} (el : xs.length = ys.length) (Pv : Nat → Hp → Prop) (h0 : Pv 0 (upd H1 D (.lst []))) (hq : ∀ i H, Pv i H → SqL K H a xs ∧ SqL K H b ys)
    (hs : ∀ i x y T H, xs[i]? = some x → ys[i]? = some y → Pv i H → H T = none → g (.ref T) (wipe σ vs) (upd H T (.tup [x, y])) fun σ2 H2 => wipe σ2 vs = wipe σ vs ∧ tt σ2 H2 fun b H3 =>
      if b = true then te σ2 H3 fun y H4 => ∃ acc, H4 D = some (.lst acc) ∧ acc.length < sizeLine ∧ Pv (i + 1) (upd H4 D (.lst (acc ++ [y]))) else Pv (i + 1) H3) (hd : ∀ H, Pv xs.length H → Qd H) :
    ∃ W : Nat → Nat → Hp → Prop, (∃ m, W 0 m (upd H1 D (.lst []))) ∧ ∀ i m H, W i m H →
      ((Itz K a b).stop i H ∧ Qd H) ∨ ((Itz K a b).go i H ∧ ∃ Nx : Hp → Prop, (∀ H', Nx H' → ∃ m', m' < m ∧ W (i + 1) m' H') ∧ ∀ x H', (Itz K a b).yld i H x H' → g x (wipe σ vs) H' fun σ2 H2 => wipe σ2 vs = wipe σ vs ∧ tt σ2 H2 fun b H3 =>
        if b = true then te σ2 H3 fun y H4 => ∃ acc, H4 D = some (.lst acc) ∧ acc.length < sizeLine ∧ Nx (upd H4 D (.lst (acc ++ [y]))) else Nx H3) := by
  refine ⟨fun i m H => m + i = xs.length ∧ Pv i H, ⟨xs.length, Nat.add_zero _, h0⟩, fun i m H ⟨em, pv⟩ => ?_⟩
  obtain ⟨sx, sy⟩ := hq i H pv
  rcases Nat.eq_zero_or_pos m with z | pos
  · have ei : i = xs.length := by omega
    rw [ei] at pv ⊢
    exact .inl ⟨⟨xs, ys, sx, sy, .inl (Nat.le_refl _)⟩, hd H pv⟩
  · have h1 : i < xs.length := by omega
    have h2 : i < ys.length := by omega
    refine .inr ⟨⟨xs, ys, _, _, sx, sy, List.getElem?_eq_getElem h1, List.getElem?_eq_getElem h2⟩, Pv (i + 1), fun H' p' => ⟨m - 1, by omega, by omega, p'⟩, ?_⟩
    rintro _ _ ⟨T, x, y, rfl, fT, rfl, k1, k2⟩
    exact hs i x y T H (k1 xs sx) (k2 ys sy) pv fT
end My
namespace My
open PySem PySem.Spec L2
/-- the truth of a value, inside a comprehension -/
theorem pt_truthK {X : Cx} {K : PySem.W.Frag} {a : Expr} {ta : TE} (h : X.K = K) (ha : PE X a ta) (he : ∀ whole, isTrue a X.env whole = (do let v ← whole; standAt a.pos; holding [v] (truthy v))) :
    PT X a (fun σ H Q => ta σ H fun x H' => ∃ k, TruV K x H' k ∧ Q k H') := h ▸ pt_truth ha he
end My


set_option Elab.async false
set_option maxRecDepth 100000
set_option maxHeartbeats 4000000
set_option linter.all false
namespace My
open PySem L2 PyProof.Rows
open C8 (pss_cut)
def spChosenW (P : Program) (w : World) (K : PySem.W.Frag) (C : Addr) : Sp := fun vs H Q _ => ∃ (p G D x y : Addr) (c : Int) (gs : List Gt) (xs ys : List Int), vs = [.ref p, .int c, .ref x, .ref y] ∧ PoolAt P w K H C p G D gs ∧ SqL K H x (xs.map V.int) ∧ SqL K H y (ys.map V.int) ∧ x ∉ [G, D] ∧ y ∉ [G, D] ∧ xs.length = ys.length ∧ xs.length ≤ 1000 ∧ (∀ z ∈ xs, okL gs z) ∧ (∀ z ∈ ys, okL gs z) ∧ okL gs c ∧ gs.length + xs.length ≤ 100000 ∧
  ResW P w K C p G D gs H xs.length xs.length (fun env => fC (litv (bitsOf env gs) c) (wv (bitsOf env gs) xs) (wv (bitsOf env gs) ys)) Q
section
variable {P : Program} {w : World} {K : PySem.W.Frag} {mg : Str → Option Value} {base : Heap} {f C : Addr} {fd : FuncData}
theorem ok_chosen_word (T : Txt K mg) (PK : PlK K C) (D : Def K mg "chosen_word" ["pool", "c", "x", "y"] s_chosen_word f fd) (O1 : OwnM P w K mg base C "chosen" ["self", "c", "x", "y"] 4 (sp3 P w K C 1 fC)) : Own P w K mg base "chosen_word" ["pool", "c", "x", "y"] 5 (spChosenW P w K C) := by
  obtain ⟨fchosen, fdchosen, Mchosen, bchosen, Gchosen⟩ := O1
  refine ⟨f, fd, D.mg, D.fn.kp, D.bd, D.fn.ok sc_chosen_word (fun vs H Q E h => ?_) (fun cdv A outer s H vs Q E hr h => ?_)⟩
  · obtain ⟨p, G, D', x, y, c, gs, xs, ys, rfl, _⟩ := h
    rfl
  · obtain ⟨p, G, D', x, y, c, gs, xs, ys, rfl, A0, hx, hy, nx, ny, el, h1000, okx, oky, okc, hl, q⟩ := h
    refine ⟨_, (pss_one (ps_ret (pe_lc (own := [("a", 4), ("b", 5)]) (g := gTup K 2 (gCons (gName 4) (gCons (gName 5) gNil))) (tt := tYes) rfl sc_chosen_word.nd (pi_zip (by rfl) T.m_zip (pa_cons (pv 2) (pa_cons (pv 3) pa_nil))) (blkOk_by (N := N_chosen_word) (sc := defScope s_chosen_word) (own := [("a", 4), ("b", 5)]) (by decide +kernel)) (fun _ _ _ _ _ => (pg_tup (by rfl) (pgs_cons (pg_name (i := 4) sc_chosen_word.nd rfl (Or.inl rfl)) (pgs_cons (pg_name (i := 5) sc_chosen_word.nd rfl (Or.inl rfl)) pgs_nil)))) (fun _ _ _ _ _ => pts_nil) (fun _ _ _ _ _ => (pe_meth (pv 0) PK.cls Mchosen Gchosen (hr.mono (by omega)) bchosen .nil pass0 (pa_cons (pv 1) (pa_cons (pv 4) (pa_cons (pv 5) pa_nil)))))))), ?_⟩
    refine ⟨_, rfl, _, rfl, x, y, _, _, rfl, hx, hy, fun R fR => ?_⟩
    have s0 := same_new fR (.lst [])
    have nR : ∀ b o, H b = some o → b ≠ R := fun b o e => ne_of_none e fR
    have nRG : R ∉ [G, D'] := fun m => by
      have := A0.mut R m
      rw [fR] at this
      exact this
    refine lc_zipL (K := K) (xs := xs.map V.int) (ys := ys.map V.int) (by rw [List.length_map, List.length_map, el]) (fun i H' => ∃ (gs' : List Gt) (zs : List Int), PoolAt P w K H' C p G D' gs' ∧ But [G, D'] H H' ∧ gs <+: gs' ∧ gs'.length ≤ gs.length + i ∧ H' R = some (.lst (zs.map V.int)) ∧ zs.length = i ∧ (∀ z ∈ zs, okL gs' z) ∧ ∀ env, bitEnv env → wv (bitsOf env gs') zs = fC (litv (bitsOf env gs) c) (wv (bitsOf env gs) (xs.take i)) (wv (bitsOf env gs) (ys.take i))) ⟨gs, [], A0.same s0, .of_same s0, List.prefix_refl _, Nat.le_refl _, upd_same, rfl, (fun z hz => nomatch hz), fun env he => by show (0 : Int) = fC _ 0 0; unfold fC; split <;> rfl⟩ (fun i H' ⟨_, _, _, b, _⟩ => ⟨sql_but b nx hx, sql_but b ny hy⟩) ?_ ?_
    · rintro i u v Tt H1 hu hv ⟨gs1, zs, A1, b1, pg1, lg1, hR1, lz, okz, sem⟩ fT
      obtain ⟨a, ha, rfl⟩ := get_int hu
      obtain ⟨b, hb, rfl⟩ := get_int hv
      have sT := same_new fT (.tup [.int a, .int b])
      have A1' := A1.same sT
      obtain ⟨dx, ts, h1, _⟩ := A1'.at_
      have oka := okx a (List.mem_of_getElem? ha)
      have okb := oky b (List.mem_of_getElem? hb)
      have hil := (List.getElem?_eq_some_iff.mp ha).1
      refine ⟨Tt, _, rfl, SqT.of upd_same, rfl, _, _, rfl, _, _, rfl, rfl, rfl, yesV ?_⟩
      rw [if_pos rfl]
      refine ⟨_, rfl, p, dx, _, rfl, h1, plFs_no _ _ (by decide +kernel) (by decide +kernel), _, rfl, _, rfl, _, rfl, p, G, D', gs1, _, _, _, rfl, A1', okc.mono pg1, oka.mono pg1, okb.mono pg1, by omega, fun H2 gs2 r2 A2 b2 pg2 lg2 okr2 sem2 => ?_⟩
      have hR2 := b2 _ _ nRG (sT _ _ hR1)
      have mutR : ∀ a ∈ [R], Mut (H2 a) := fun a ha => by rw [List.mem_singleton.mp ha, hR2]; exact True.intro
      have bR : But [R] H2 (upd H2 R (.lst (zs.map V.int ++ [.int r2]))) := .put (.head _) _
      have nG1 : ∀ {b : Addr}, b ≠ R → b ∉ [R] := fun h m => h (List.mem_singleton.mp m)
      obtain ⟨dx3, ts3, hp3, hG3, _⟩ := A2.at_
      have npR : p ≠ R := ne_of hp3 hR2 (by intro z; cases z)
      have nGR : G ≠ R := fun e => nRG (by rw [← e]; exact .head _)
      have nDR : D' ≠ R := fun e => nRG (by rw [← e]; exact .tail _ (.head _))
      have b12 : But [G, D'] H H2 := (b1.trans (.of_same sT)).trans b2
      refine ⟨zs.map V.int, hR2, by rw [List.length_map, lz]; exact Nat.lt_of_lt_of_le (show i < 1000 by omega) (by decide), gs2, zs ++ [r2], A2.keep mutR bR (nG1 npR) (nG1 nGR) (nG1 nDR), fun z o n e => by rw [upd_ne (nR _ _ e)]; exact b12 _ _ n e, pg1.trans pg2, by omega, by rw [upd_same, List.map_append]; rfl, by rw [List.length_append, List.length_singleton, lz], fun z hz => ?_, fun env he => ?_⟩
      · rcases List.mem_append.mp hz with h | h
        · exact (okz z h).mono pg2
        · rw [List.mem_singleton.mp h]; exact okr2
      · rw [wv_snoc, lz, wv_pre pg2 okz, sem env he, sem2 env he]
        show _ + 2 ^ i * fC (litv (bitsOf env gs1) c) (litv (bitsOf env gs1) a) (litv (bitsOf env gs1) b) = _
        rw [litv_pre okc pg1, litv_pre oka pg1, litv_pre okb pg1, wv_step ha, wv_step hb]
        unfold fC
        split <;> rfl
    · rintro H1 ⟨gs1, zs, A1, b1, pg1, lg1, hR1, lz, okz, sem⟩
      rw [List.length_map] at lg1 lz
      refine q H1 gs1 R zs A1 b1 pg1 lg1 fR hR1 lz okz fun env he => ?_
      have hs := sem env he
      rw [List.length_map, List.take_length, el, List.take_length] at hs
      exact hs
end
end My


set_option Elab.async false
set_option maxRecDepth 100000
set_option maxHeartbeats 4000000
set_option linter.all false
namespace My
open PySem L2 PyProof.Rows
open C8 (pss_cut)
/-- literals that are numbers' bits -/
def bitsN (n : Nat) : Nat → List Int
  | 0 => []
  | k + 1 => bitsN n k ++ [((n / 2 ^ k % 2 : Nat) : Int)]
theorem bitsN_len (n : Nat) : ∀ k, (bitsN n k).length = k
  | 0 => rfl
  | k + 1 => by
    show (bitsN n k ++ [_]).length = k + 1
    rw [List.length_append, bitsN_len n k]
    rfl
theorem bitsN_bit (n : Nat) : ∀ k, ∀ z ∈ bitsN n k, z = 0 ∨ z = 1
  | 0, z, h => by cases h
  | k + 1, z, h => by
    rcases List.mem_append.mp (show z ∈ bitsN n k ++ [((n / 2 ^ k % 2 : Nat) : Int)] from h) with h | h
    · exact bitsN_bit n k z h
    · rw [List.mem_singleton.mp h]
      omega
theorem bitsN_wv {env : Bits} {gs : List Gt} (h : okGs gs) (n : Nat) : ∀ k, wv (bitsOf env gs) (bitsN n k) = ((n % 2 ^ k : Nat) : Int)
  | 0 => by show (0 : Int) = ((n % 2 ^ 0 : Nat) : Int); rw [Nat.pow_zero, Nat.mod_one]; rfl
  | k + 1 => by
    show wv (bitsOf env gs) (bitsN n k ++ [((n / 2 ^ k % 2 : Nat) : Int)]) = _
    rw [wv_snoc, bitsN_wv h n k, bitsN_len, Nat.pow_succ, Nat.mod_mul]
    have e : litv (bitsOf env gs) ((n / 2 ^ k % 2 : Nat) : Int) = ((n / 2 ^ k % 2 : Nat) : Int) := by
      have : n / 2 ^ k % 2 = 0 ∨ n / 2 ^ k % 2 = 1 := by omega
      rcases this with e | e <;> rw [e]
      · exact litv_no h
      · exact litv_yes h
    rw [e, Int.natCast_add, Int.natCast_mul, Int.natCast_pow]
    rfl
def spConst (K : PySem.W.Frag) : Sp := fun vs H Q _ => ∃ (p : Addr) (n w : Nat), vs = [.ref p, .int n, .int w] ∧ w ≤ 1000 ∧ ∀ H' r, Same H H' → H r = none → H' r = some (.lst ((bitsN n w).map V.int)) → Q (.ref r) H'
section
variable {P : Program} {w : World} {K : PySem.W.Frag} {mg : Str → Option Value} {base : Heap} {f C : Addr} {fd : FuncData}
theorem ok_constant (T : Txt K mg) (C1 : ConI mg "NO" 0) (C2 : ConI mg "YES" 1) (D : Def K mg "constant" ["pool", "n", "w"] s_constant f fd) : Own P w K mg base "constant" ["pool", "n", "w"] 1 (spConst K) := by
  obtain ⟨t_NO, c_NO⟩ := C1
  obtain ⟨t_YES, c_YES⟩ := C2
  refine ⟨f, fd, D.mg, D.fn.kp, D.bd, D.fn.ok sc_constant (fun vs H Q E h => ?_) (fun cdv A outer s H vs Q E hr h => ?_)⟩
  · obtain ⟨p, n, w', rfl, _⟩ := h
    rfl
  · obtain ⟨p, n, w', rfl, hw, q⟩ := h
    refine ⟨_, (pss_one (ps_ret (pe_lc (own := [("k", 3)]) (g := gName 3) (tt := tYes) rfl sc_constant.nd (pi_range1 (by rfl) T.m_range (pa_cons (pv 2) pa_nil)) (blkOk_by (N := N_constant) (sc := defScope s_constant) (own := [("k", 3)]) (by decide +kernel)) (fun _ _ _ _ _ => (pg_name (i := 3) sc_constant.nd rfl (Or.inl rfl))) (fun _ _ _ _ _ => pts_nil) (fun _ _ _ _ _ => (pe_ifExp (pt_truthK (K := K) rfl (pe_op op_and (pe_op op_shr (pv 1) (pv 3)) pe_int) (by intro _; rfl)) (pe_glob (v := .int 1) (u := .int 1 t_YES) (by rfl) c_YES ⟨t_YES, rfl⟩) (pe_glob (v := .int 0) (u := .int 0 t_NO) (by rfl) c_NO ⟨t_NO, rfl⟩)))))), ?_⟩
    refine ⟨_, rfl, _, rfl, by omega, by omega, fun R fR => lc_range (lo := 0) (n := w') (fun i H' => H' R = some (.lst ((bitsN n i).map V.int)) ∧ Same H H') ⟨upd_same, same_new fR _⟩ ?_ ?_⟩
    · rintro i H1 hi ⟨hR1, s1⟩
      refine ⟨rfl, yesV ?_⟩
      rw [if_pos rfl]
      have e : Builtin.bitAnd ((n : Int) / 2 ^ ((0 : Int) + (i : Int)).toNat) 1 = ((n / 2 ^ i % 2 : Nat) : Int) := by
        rw [bitAnd_m1, show ((0 : Int) + (i : Int)).toNat = i by omega, Int.natCast_emod, Int.natCast_ediv, Int.natCast_pow]
        rfl
      have fin : ∀ v : Int, v = ((n / 2 ^ i % 2 : Nat) : Int) → ∃ acc, H1 R = some (.lst acc) ∧ acc.length < sizeLine ∧ (upd H1 R (.lst (acc ++ [V.int v]))) R = some (.lst ((bitsN n (i + 1)).map V.int)) ∧ Same H (upd H1 R (.lst (acc ++ [V.int v]))) := fun v hv => by
        refine ⟨_, hR1, by rw [List.length_map, bitsN_len]; exact Nat.lt_of_lt_of_le (show i < 1000 by omega) (by decide), ?_, fun b o e => ?_⟩
        · rw [upd_same, hv]
          show _ = some (HO.lst ((bitsN n i ++ [((n / 2 ^ i % 2 : Nat) : Int)]).map V.int))
          rw [List.map_append]
          rfl
        · rw [upd_ne (ne_of_none e fR)]
          exact s1 _ _ e
      refine ⟨_, rfl, _, rfl, _, _, rfl, rfl, (by show (0 : Int) ≤ 0 + (i : Int); omega), _, _, rfl, rfl, _, rfl, ?_⟩
      have hb : n / 2 ^ i % 2 = 0 ∨ n / 2 ^ i % 2 = 1 := by omega
      show if (Builtin.bitAnd ((n : Int) / 2 ^ ((0 : Int) + (i : Int)).toNat) 1 != 0) = true then _ else _
      rw [e]
      rcases hb with h | h
      · rw [h]
        exact iteF (fin 0 (by rw [h]; rfl))
      · rw [h]
        exact iteT (fin 1 (by rw [h]; rfl))
    · rintro H1 ⟨hR1, s1⟩
      exact q H1 R s1 fR hR1
end
end My

set_option Elab.async false
set_option maxRecDepth 100000
set_option maxHeartbeats 4000000
set_option linter.all false
namespace My
open PySem PySem.Spec PyProof.Rows L2
theorem RelO.getD' {o : Option V} {p : Option Value} {d : V} {r : Value} (h : RelO o p) (hd : RelV d r) : RelV (o.getD d) (p.getD r) := h.getD hd
/-- d.get(k, x) -/
def tGetN (P : Program) (w : World) (K : PySem.W.Frag) (td ty tx : TE) : TE := fun σ H Q => td σ H fun x H1 => ∃ (a : Addr) (xs : NRows), x = .ref a ∧ DN P w K H1 a xs ∧ ty σ H1 fun y H2 => tx σ H2 fun z H3 => ∃ (b : Addr) (k : NK) (xs : NRows), y = .ref b ∧ Dp K H3 (.ref b) k.data ∧ k.depth ≤ 8 ∧ DN P w K H3 a xs ∧ Q ((valN xs k).getD z) H3
section
variable {X : Cx} {o e f : Expr} {apos cpos : Pos} {td ty tx : TE}
theorem pe_getN (hu : X.A.units + 65 < cLine) (ho : PE X o td) (he : PE X e ty) (hf : PE X f tx) (m : M2 X o "get" apos e f cpos) : PE X (.Call (.Attribute o "get" apos) [e, f] [] cpos) (tGetN X.prog X.w X.K td ty tx) := by
  refine ⟨fun pins s σ H Q I h => ?_⟩
  refine wpAny_Call_method m.base m.few m.line PySem.F.plainAttrs_dict PySem.F.slot_dict_get PySem.F.type_dict_get (thn (ho.run pins s σ H _ I h) fun u s1 ⟨x, H1, I1, rx, a, xs, ex, D1, q1⟩ => ?_)
  subst ex
  obtain rfl : u = Value.ref a := rx
  obtain ⟨hd1, vs1, r1, dd1⟩ := dn_of I1 D1
  refine ⟨dd1.typeIs, fun b q => ?_, ?_⟩
  · cases q
    obtain ⟨ob, _, _, h1, h2, _⟩ := dd1
    exact ⟨ob, h1, h2.2.1⟩
  rw [m.trees]
  refine Calls.callWith_builtin rfl (Calls.evalArgs_plain (Calls.spliced_cons (thn (he.run pins s1 σ H1 _ I1 q1) fun iv s2 ⟨y, H2, I2, ry, q2⟩ =>
    Calls.spliced_cons (thn (hf.run pins s2 σ H2 _ I2 q2) fun fv s3 ⟨z, H3, I3, rz, b, k, ys, ey, hk, h8, D3, q3⟩ => Calls.spliced_nil ?_))))
  subst ey
  obtain rfl : iv = Value.ref b := ry
  obtain ⟨hd, vs, r, dd⟩ := dn_of I3 D3
  refine call_meetsIn PySem.F.slot_dict_get dd.typeIs PySem.F.entry_dict_get (PySem.F.args_dict_get_3 _ _ _) (meetsH_dict_get_default (nestedKind X.prog X.w) a b hd fv) ⟨(by show X.A.units + 1 + 8 < cLine; omega), k, vs, ⟨dp_nested I3 k _ _ hk rfl, h8⟩, dd, ?_⟩
  exact ⟨_, H3, I3.tok _, RelO.getD' (nrel_val r) rz, q3⟩
end
end My


set_option Elab.async false
set_option maxRecDepth 100000
set_option maxHeartbeats 4000000
set_option linter.all false
namespace My
open PySem L2 PyProof.Rows
open C8 (pss_cut)
def envOf (rows : NRows) : Bits := fun n => match valN rows n with
  | some (.int b) => b
  | _ => 0
structure BitsAt (P : Program) (w : World) (K : PySem.W.Frag) (H : Hp) (a : Addr) (rows : NRows) : Prop where
  dn : DN P w K H a rows
  bit : ∀ x ∈ rows, ∃ b, x.2.2 = .int b ∧ (b = 0 ∨ b = 1)
theorem envOf_bit {P : Program} {w : World} {K : PySem.W.Frag} {H : Hp} {a : Addr} {rows : NRows} (h : BitsAt P w K H a rows) : bitEnv (envOf rows) := fun n => by
  unfold envOf
  cases e : valN rows n with
  | none => exact .inl rfl
  | some v =>
    obtain ⟨x, hx, _, ev⟩ := valN_some e
    obtain ⟨b, eb, hb⟩ := h.bit x hx
    rw [← ev, eb]
    exact hb
theorem envOf_get {P : Program} {w : World} {K : PySem.W.Frag} {H : Hp} {a : Addr} {rows : NRows} (h : BitsAt P w K H a rows) (n : NK) : (valN rows n).getD (.int 0) = .int (envOf rows n) := by
  unfold envOf
  cases e : valN rows n with
  | none => rfl
  | some v =>
    obtain ⟨x, hx, _, ev⟩ := valN_some e
    obtain ⟨b, eb, hb⟩ := h.bit x hx
    rw [← ev, eb]
    rfl
def kindS : Gt → Str
  | .no => "no"
  | .bit _ => "bit"
  | .both _ _ => "both"
  | .unlike _ _ => "unlike"
  | .chosen _ _ _ => "chosen"
  | .most _ _ _ => "most"
def Gt.isBit : Gt → Bool
  | .bit _ => true
  | _ => false
theorem dp_nil {K : PySem.W.Frag} {H : Hp} {vs : List V} (h : DpAll K H vs []) : vs = [] := by cases h; rfl
theorem gt_seq {K : PySem.W.Frag} {H : Hp} {t : Addr} : ∀ {g : Gt}, g.isBit = false → Dp K H (.ref t) g.nk.data → SqT K H t (.str (kindS g) :: g.parts.map V.int) := by
  have hints : ∀ (zs : List Int) (vs : List V), DpAll K H vs (NestedKey.datas (zs.map NestedKey.num)) → vs = zs.map V.int := by
    intro zs
    induction zs with
    | nil => intro vs h; exact dp_nil h
    | cons z zs ih =>
      intro vs h
      cases h with
      | cons h1 h2 =>
        cases h1
        rw [ih _ h2]
        rfl
  have gen : ∀ (x : Str) (zs : List Int), Dp K H (.ref t) (NestedKey.data (.tup (.text x :: zs.map NestedKey.num))) → SqT K H t (.str x :: zs.map V.int) := by
    intro x zs h
    cases h with
    | tup hs ha =>
      cases ha with
      | cons h1 h2 =>
        cases h1
        rw [← hints zs _ h2]
        exact hs
  intro g hg h
  cases g with
  | bit n => cases hg
  | no => exact gen "no" [] h
  | both x y => exact gen "both" [x, y] h
  | unlike x y => exact gen "unlike" [x, y] h
  | chosen c x y => exact gen "chosen" [c, x, y] h
  | most x y z => exact gen "most" [x, y, z] h
theorem bit_seq {K : PySem.W.Frag} {H : Hp} {t : Addr} {n : NK} (h : Dp K H (.ref t) (Gt.bit n).nk.data) : ∃ v, SqT K H t [.str "bit", v] ∧ Dp K H v n.data := by
  cases (show Dp K H (.ref t) (.tuple [.str "bit", n.data]) from h) with
  | tup hs ha =>
    cases ha with
    | cons h1 h2 =>
      cases h1
      cases h2 with
      | cons h3 h4 =>
        cases h4
        exact ⟨_, hs, h3⟩
theorem at0' {α : Type} {x : α} {xs : List α} : atI (x :: xs) 0 = some x := atI_nat (j := 0) rfl
theorem hu_of {k : Nat} {A : Around} (hr : Room k A) : A.units + 1 < cLine := by
  have := room65 hr
  omega
theorem cut_from1 (xs : List V) : cutV xs (some 1) none = xs.drop 1 := by
  unfold cutV
  rw [HT.sIx_none]
  have e1 : HT.sIx xs.length 0 (some 1) = min 1 xs.length := by
    show (if (1 : Int) < 0 then ((1 : Int) + (xs.length : Int)).toNat else min (1 : Int).toNat xs.length) = min 1 xs.length
    rw [if_neg (by decide)] <;> rfl
  rw [e1]
  by_cases h : 1 ≤ xs.length
  · rw [Nat.min_eq_left h, List.take_of_length_le (by rw [List.length_drop]; exact Nat.le_refl _)]
  · have h0 : xs = [] := List.length_eq_zero_iff.mp (by omega)
    rw [h0]
    rfl
theorem not_whole (x : V) (xs : List V) (hi : Option Int) : ¬ (HT.sIx (x :: xs).length 0 (some 1) = 0 ∧ HT.sIx (x :: xs).length (x :: xs).length hi = (x :: xs).length) := fun h => by
  have e1 : HT.sIx (x :: xs).length 0 (some 1) = min 1 (x :: xs).length := by
    show (if (1 : Int) < 0 then ((1 : Int) + ((x :: xs).length : Int)).toNat else min (1 : Int).toNat (x :: xs).length) = min 1 (x :: xs).length
    rw [if_neg (by decide)] <;> rfl
  rw [e1, List.length_cons] at h
  omega
theorem getD_bit {bs : List Int} (h : ∀ b ∈ bs, b = 0 ∨ b = 1) (i : Nat) : bs.getD i 0 = 0 ∨ bs.getD i 0 = 1 := by
  rw [List.getD_eq_getElem?_getD]
  cases e : bs[i]? with
  | none => exact .inl rfl
  | some b => exact h b (List.mem_of_getElem? e)
theorem litv_xor {bs : List Int} (h : ∀ b ∈ bs, b = 0 ∨ b = 1) (x : Int) : Builtin.bitXor (bs.getD (x / 2).toNat 0) (Builtin.bitAnd x 1) = litv bs x := by
  rw [bitAnd_m1]
  unfold litv
  have hb := getD_bit h (x / 2).toNat
  by_cases e : x % 2 = 0
  · rw [e, if_pos rfl, bitXor_zero]
  · rw [if_neg e, show x % 2 = 1 by omega, xor1]
    rcases hb with b | b <;> rw [b] <;> decide
def litV (bs : List Int) : V → V
  | .int x => .int (litv bs x)
  | v => v
theorem litV_map (bs : List Int) (xs : List Int) : (xs.map V.int).map (litV bs) = (xs.map (litv bs)).map V.int := by
  rw [List.map_map, List.map_map]
  rfl
theorem kind_no {g : Gt} (h : g.isBit = false) : ¬ (decide (V.str (kindS g) = V.str "bit") = true) := by
  cases g with
  | bit n => cases h
  | no => show ¬ (decide (V.str "no" = V.str "bit") = true); decide +kernel
  | both x y => show ¬ (decide (V.str "both" = V.str "bit") = true); decide +kernel
  | unlike x y => show ¬ (decide (V.str "unlike" = V.str "bit") = true); decide +kernel
  | chosen c x y => show ¬ (decide (V.str "chosen" = V.str "bit") = true); decide +kernel
  | most x y z => show ¬ (decide (V.str "most" = V.str "bit") = true); decide +kernel
theorem xor_bits {a b : Int} (ha : a = 0 ∨ a = 1) (hb : b = 0 ∨ b = 1) : Builtin.bitXor a b = if a = b then 0 else 1 := by
  rcases ha with rfl | rfl <;> rcases hb with rfl | rfl <;> decide +kernel
/-- the bits of the parts are known -/
def FoundAt (H : Hp) (F : Addr) (kvs : List (Key × V)) (bs : List Int) (xs : List Int) : Prop := H F = some (.dK kvs) ∧ ∀ x ∈ xs, 0 ≤ x ∧ valV kvs (.inl (x / 2)) = some (.int (bs.getD (x / 2).toNat 0))
def spGV (P : Program) (w : World) (K : PySem.W.Frag) : Sp := fun vs H Q _ => ∃ (t F a : Addr) (g : Gt) (kvs : List (Key × V)) (bs : List Int) (rows : NRows), vs = [.ref t, .ref F, .ref a] ∧ Dp K H (.ref t) g.nk.data ∧ g.nk.depth ≤ 8 ∧ (∀ n, g = .bit n → ∃ ks, n = NestedKey.tup ks) ∧ FoundAt H F kvs bs g.parts ∧ (∀ b ∈ bs, b = 0 ∨ b = 1) ∧ BitsAt P w K H a rows ∧ ∀ H', Same H H' → Q (.int (g.val (envOf rows) bs)) H'
section
variable {P : Program} {w : World} {K : PySem.W.Frag} {mg : Str → Option Value} {base : Heap} {f C : Addr} {fd : FuncData}
theorem ok_gate_value (T : Txt K mg) (D : Def K mg "gate_value" ["gate", "found", "bits"] s_gate_value f fd) : Own P w K mg base "gate_value" ["gate", "found", "bits"] 1 (spGV P w K) := by
  refine ⟨f, fd, D.mg, D.fn.kp, D.bd, D.fn.ok sc_gate_value (fun vs H Q E h => ?_) (fun cdv A outer s H vs Q E hr h => ?_)⟩
  · obtain ⟨t, F, a, g, kvs, bs, rows, rfl, _⟩ := h
    rfl
  · obtain ⟨t, F, a, g, kvs, bs, rows, rfl, ht, h8, hnm, hF, hbs, hB, q⟩ := h
    have hu := hu_of hr
    refine ⟨_, (pss_cons (ps_set (i := 3) sc_gate_value.nd rfl (Or.inl rfl) (pe_ix ix_tup (pv 0) pe_int (fun _ _ => rfl)))
      (pss_cons (ps_if (pt_cmpR op_eq (pv 3) pe_str (nomark _)) (pss_one (ps_ret (pe_getN (room65 hr) (pv 2) (pe_ix ix_tup (pv 0) pe_int (fun _ _ => rfl)) pe_int ⟨rfl, rfl, rfl, rfl⟩))) pss_nil)
      (pss_cons (ps_setLc (i := 4) (own := [("x", 5)]) (g := gName 5) (tt := tYes) rfl sc_gate_value.nd rfl rfl (sw_true rfl rfl rfl (by decide +kernel)) (pi_tup (pe_slice sl_tup (pv 0) (po_some pe_int) po_none)) (blkOk_by (N := N_gate_value) (sc := defScope s_gate_value) (own := [("x", 5)]) (by decide +kernel)) (fun _ _ _ _ _ => (pg_name (i := 5) sc_gate_value.nd rfl (Or.inl rfl))) (fun _ _ _ _ _ => pts_nil) (fun _ _ _ _ _ => (pe_op op_xor (pe_dget hu (pv 1) (pe_op op_shr (pv 5) pe_int) (fun _ _ => rfl)) (pe_op op_and (pv 5) pe_int))))
      (pss_cons (ps_if (pt_cmpR op_eq (pv 3) pe_str (nomark _)) (pss_one (ps_ret (pe_op op_xor (pe_ix ix_list (pv 4) pe_int (fun _ _ => rfl)) (pe_ix ix_list (pv 4) pe_int (fun _ _ => rfl))))) pss_nil)
      (pss_cons (ps_if (pt_cmpR op_eq (pv 3) pe_str (nomark _)) (pss_one (ps_ret (pe_ifExp (pt_cmpR op_eq (pe_ix ix_list (pv 4) pe_int (fun _ _ => rfl)) pe_int (nomark _)) (pe_ix ix_list (pv 4) pe_int (fun _ _ => rfl)) (pe_ix ix_list (pv 4) pe_int (fun _ _ => rfl))))) pss_nil)
      (pss_one (ps_ret (pe_ifExp (pt_cmpR op_ge (pe_callB (cr_sum rfl) (by rfl) T.m_sum (by decide +kernel) (pa_cons (pv 4) pa_nil)) pe_int (nomark _)) pe_int pe_int)))))))), ?_⟩
    cases hb : g.isBit with
    | true =>
      obtain ⟨n, rfl⟩ : ∃ n, g = .bit n := by
        cases g with
        | bit n => exact ⟨n, rfl⟩
        | _ => cases hb
      obtain ⟨v, hs, hv⟩ := bit_seq ht
      obtain ⟨ks, rfl⟩ := hnm n rfl
      obtain ⟨b, rfl⟩ : ∃ b, v = .ref b := by cases hv; exact ⟨_, rfl⟩
      refine ⟨_, rfl, t, _, _, _, rfl, rfl, hs, rfl, ?_⟩
      refine ⟨_, rfl, rfl, _, rfl, ite2 (fun _ => ?_) (fun c => absurd (decide_eq_true rfl) c)⟩
      refine ⟨_, rfl, a, rows, rfl, hB.dn, _, rfl, t, _, _, _, rfl, rfl, hs, rfl, b, _, rows, rfl, hv, ?_, hB.dn, ?_⟩
      · simp only [Gt.nk, NestedKey.depth, NestedKey.depthAll] at h8 ⊢
        omega
      · rw [envOf_get hB]
        exact q H (Same.refl _)
    | false =>
      have hs := gt_seq hb ht
      refine ⟨_, rfl, t, _, _, _, rfl, rfl, hs, at0', ?_⟩
      refine ⟨_, rfl, rfl, _, rfl, ite2 (fun c => absurd c (kind_no hb)) (fun _ => ?_)⟩
      refine ⟨_, rfl, _, rfl, t, _, rfl, hs, not_whole _ _ _, fun p hp => ?_⟩
      rw [cut_from1]
      have s1 := same_new hp (.tup ((V.str (kindS g) :: g.parts.map V.int).drop 1))
      have hlen : ((V.str (kindS g) :: g.parts.map V.int).drop 1).length ≤ 1000 := by
        show (g.parts.map V.int).length ≤ 1000
        rw [List.length_map]
        cases g <;> (simp only [Gt.parts, List.length_cons, List.length_nil]; omega)
      refine ⟨p, rfl, ⟨_, SqT.of upd_same⟩, fun D1 hD1 => lc_mapT (litV bs) (SqT.of upd_same) hlen hD1 (fun _ => rfl) (fun y H2 R hy s2 r => ?_) fun H1 h1 s2 => ?_⟩
      · obtain ⟨x, hx, rfl⟩ := List.mem_map.mp (show y ∈ g.parts.map V.int from hy)
        obtain ⟨x0, hv⟩ := hF.2 x hx
        have hF2 := s2 _ _ (s1 _ _ hF.1)
        refine ⟨_, rfl, _, rfl, _, _, rfl, rfl, (by show (0 : Int) ≤ 1; decide), F, _, rfl, (by rw [← hv]; show DGet H2 F (V.int (x / 2)) _; exact DGet.k (k := .inl (x / 2)) hF2), _, rfl, _, _, rfl, rfl, _, _, rfl, rfl, ?_⟩
        show R (V.int (Builtin.bitXor (bs.getD (x / 2).toNat 0) (Builtin.bitAnd x 1))) H2
        rw [litv_xor hbs]
        exact r
      · rw [show (V.str (kindS g) :: g.parts.map V.int).drop 1 = g.parts.map V.int from rfl, litV_map] at h1
        have sA := s1.trans s2
        have lb := fun x => litv_bit hbs x
        have h1L := SqL.of (K := K) h1
        cases g with
        | bit n => cases hb
        | no =>
          refine ⟨_, rfl, rfl, _, rfl, ite2 (fun c => absurd c (by show ¬ (decide (V.str "no" = V.str "unlike") = true); decide +kernel)) (fun _ => ?_)⟩
          refine ⟨_, rfl, rfl, _, rfl, ite2 (fun c => absurd c (by show ¬ (decide (V.str "no" = V.str "chosen") = true); decide +kernel)) (fun _ => ?_)⟩
          exact ⟨_, rfl, D1, _, rfl, h1L, _, _, rfl, rfl, _, rfl, q H1 sA⟩
        | both x y =>
          refine ⟨_, rfl, rfl, _, rfl, ite2 (fun c => absurd c (by show ¬ (decide (V.str "both" = V.str "unlike") = true); decide +kernel)) (fun _ => ?_)⟩
          refine ⟨_, rfl, rfl, _, rfl, ite2 (fun c => absurd c (by show ¬ (decide (V.str "both" = V.str "chosen") = true); decide +kernel)) (fun _ => ?_)⟩
          refine ⟨_, rfl, D1, _, rfl, h1L, _, _, rfl, rfl, _, rfl, ?_⟩
          have hq := q H1 sA
          have e : Gt.val (envOf rows) bs (.both x y) = if litv bs x + litv bs y ≥ 2 then 1 else 0 := rfl
          rw [e] at hq
          refine ite2 (fun c => ?_) (fun c => ?_)
          · have c : (2 : Int) ≤ litv bs x + (litv bs y + 0) := of_decide_eq_true c
            rw [if_pos (by omega)] at hq
            exact hq
          · rw [if_neg (fun z => c (decide_eq_true (by show (2 : Int) ≤ litv bs x + (litv bs y + 0); omega)))] at hq
            exact hq
        | unlike x y =>
          refine ⟨_, rfl, rfl, _, rfl, ite2 (fun _ => ?_) (fun c => absurd (decide_eq_true rfl) c)⟩
          refine ⟨_, rfl, D1, _, _, _, rfl, rfl, h1L, rfl, _, rfl, D1, _, _, _, rfl, rfl, h1L, rfl, _, _, rfl, rfl, ?_⟩
          have hq := q H1 sA
          have e : Gt.val (envOf rows) bs (.unlike x y) = Builtin.bitXor (litv bs x) (litv bs y) := by
            rw [xor_bits (lb x) (lb y)]
            rfl
          rw [e] at hq
          exact hq
        | chosen c x y =>
          refine ⟨_, rfl, rfl, _, rfl, ite2 (fun c => absurd c (by show ¬ (decide (V.str "chosen" = V.str "unlike") = true); decide +kernel)) (fun _ => ?_)⟩
          refine ⟨_, rfl, rfl, _, rfl, ite2 (fun _ => ?_) (fun c => absurd (decide_eq_true rfl) c)⟩
          have hq := q H1 sA
          have e : Gt.val (envOf rows) bs (.chosen c x y) = if litv bs c = 1 then litv bs x else litv bs y := rfl
          rw [e] at hq
          refine ⟨_, rfl, D1, _, _, _, rfl, rfl, h1L, rfl, rfl, _, rfl, ite2 (fun b => ?_) (fun b => ?_)⟩
          · rw [if_pos (int_of b)] at hq
            exact ⟨_, rfl, D1, _, _, _, rfl, rfl, h1L, rfl, hq⟩
          · rw [if_neg (fun z => b (decide_eq_true (by rw [z])))] at hq
            exact ⟨_, rfl, D1, _, _, _, rfl, rfl, h1L, rfl, hq⟩
        | most x y z =>
          refine ⟨_, rfl, rfl, _, rfl, ite2 (fun c => absurd c (by show ¬ (decide (V.str "most" = V.str "unlike") = true); decide +kernel)) (fun _ => ?_)⟩
          refine ⟨_, rfl, rfl, _, rfl, ite2 (fun c => absurd c (by show ¬ (decide (V.str "most" = V.str "chosen") = true); decide +kernel)) (fun _ => ?_)⟩
          refine ⟨_, rfl, D1, _, rfl, h1L, _, _, rfl, rfl, _, rfl, ?_⟩
          have hq := q H1 sA
          have e : Gt.val (envOf rows) bs (.most x y z) = if litv bs x + litv bs y + litv bs z ≥ 2 then 1 else 0 := rfl
          rw [e] at hq
          refine ite2 (fun c => ?_) (fun c => ?_)
          · have c : (2 : Int) ≤ litv bs x + (litv bs y + (litv bs z + 0)) := of_decide_eq_true c
            rw [if_pos (by omega)] at hq
            exact hq
          · rw [if_neg (fun e => c (decide_eq_true (by show (2 : Int) ≤ litv bs x + (litv bs y + (litv bs z + 0)); omega)))] at hq
            exact hq
end
end My


set_option Elab.async false
set_option maxRecDepth 100000
set_option maxHeartbeats 4000000
set_option linter.all false
namespace My
open PySem L2 PyProof.Rows
open C8 (pss_cut)
def seenK (ys : List Int) : List (Key × V) := ys.map fun y => (Sum.inl y, V.bl true)
theorem seen_val (ys : List Int) (k : Int) : (valV (seenK ys) (.inl k)).isSome = decide (k ∈ ys) := by
  unfold seenK
  induction ys with
  | nil => rfl
  | cons y ys ih =>
    unfold valV at *
    rw [List.map_cons]
    by_cases h : y = k
    · rw [List.find?_cons_of_pos (by simp [h]), decide_eq_true (by rw [h]; exact List.mem_cons_self)]
      rfl
    · rw [List.find?_cons_of_neg (by simp [h]), ih]
      by_cases h2 : k ∈ ys
      · rw [decide_eq_true h2, decide_eq_true (List.mem_cons_of_mem _ h2)]
      · rw [decide_eq_false h2, decide_eq_false (fun m => (List.mem_cons.mp m).elim (fun e => h e.symm) h2)]
theorem seen_put {ys : List Int} {k : Int} (h : k ∉ ys) : putK (seenK ys) (.inl k) (.bl true) = seenK (ys ++ [k]) := by
  have e := seen_val ys k
  rw [decide_eq_false h] at e
  unfold putK
  rw [valV_any, e]
  unfold seenK
  rw [List.map_append]
  rfl
/-- a set of gates that holds the gates of the parts, too -/
structure Cone (gs : List Gt) (xs ys : List Int) : Prop where
  asc : ys.Pairwise (· < ·)
  rng : ∀ y ∈ ys, 0 ≤ y ∧ y < (gs.length : Int)
  has : ∀ x ∈ xs, x / 2 ∈ ys
  cl : ∀ y ∈ ys, ∀ g, gs[y.toNat]? = some g → ∀ z ∈ g.parts, z / 2 ∈ ys
def halfV : V → V
  | .int x => .int (x / 2)
  | v => v
theorem halfV_map (xs : List Int) : (xs.map V.int).map halfV = (xs.map fun x => x / 2).map V.int := by
  rw [List.map_map, List.map_map]
  rfl
structure CI (gs : List Gt) (xs : List Int) (H0 H' : Hp) (S T F : Addr) (ys ts : List Int) : Prop where
  s : Same H0 H'
  sS : H' S = some (.dK (seenK ys))
  sT : H' T = some (.lst (ts.map V.int))
  sF : H' F = some (.lst (ys.map V.int))
  nTF : T ≠ F
  fS : H0 S = none
  fT : H0 T = none
  fF : H0 F = none
  nd : ys.Nodup
  ry : ∀ y ∈ ys, 0 ≤ y ∧ y < (gs.length : Int)
  rt : ∀ y ∈ ts, 0 ≤ y ∧ y < (gs.length : Int)
  has : ∀ x ∈ xs, x / 2 ∈ ys ∨ x / 2 ∈ ts
  cl : ∀ y ∈ ys, ∀ g, gs[y.toNat]? = some g → ∀ z ∈ g.parts, z / 2 ∈ ys ∨ z / 2 ∈ ts
  len : ts.length ≤ 100 + 3 * ys.length
theorem few_of {ys : List Int} {n : Nat} (nd : ys.Nodup) (h : ∀ y ∈ ys, 0 ≤ y ∧ y < (n : Int)) : ys.length ≤ n := by
  have := List.Nodup.length_le_of_subset (l₂ := (List.range n).map fun (i : Nat) => (i : Int)) nd fun y hy => List.mem_map.mpr ⟨y.toNat, List.mem_range.mpr (by have := h y hy; omega), by have := h y hy; omega⟩
  rw [List.length_map, List.length_range] at this
  exact this
theorem parts_len (g : Gt) : g.parts.length ≤ 3 := by cases g <;> simp [Gt.parts]
def spCone (P : Program) (w : World) (K : PySem.W.Frag) (C : Addr) : Sp := fun vs H Q _ => ∃ (H0 : Hp) (p G D l S : Addr) (gs : List Gt) (xs : List Int), vs = [.ref p, .ref l, .ref S] ∧ Same H0 H ∧ H0 S = none ∧ H S = some (.dK []) ∧ PoolAt P w K H0 C p G D gs ∧ SqL K H0 l (xs.map V.int) ∧ (∀ x ∈ xs, okL gs x) ∧ xs.length ≤ 100 ∧ gs.length ≤ 10000 ∧
  ∀ H' r ys, Same H0 H' → H' r = some (.lst (ys.map V.int)) → Cone gs xs ys → Q (.ref r) H'
section
variable {P : Program} {w : World} {K : PySem.W.Frag} {mg : Str → Option Value} {base : Heap} {f C : Addr} {fd : FuncData}
theorem ok_cone (T : Txt K mg) (PK : PlK K C) (D : DefM K C "cone" "Pool.cone" ["self", "literals", "seen"] s_Pool_cone f fd) : OwnM P w K mg base C "cone" ["self", "literals", "seen"] 1 (spCone P w K C) := by
  refine ⟨f, fd, D.me, D.bd, D.fn.ok sc_Pool_cone (fun vs H Q E h => ?_) (fun cdv A outer s H9 vs Q E hr h => ?_)⟩
  · obtain ⟨H0, p, G, D', l, S, gs, xs, rfl, _⟩ := h
    rfl
  · obtain ⟨H, p, G, D', l, S, gs, xs, rfl, s1, hS, hS1, A0, hl, hx, hxl, h64, q⟩ := h
    obtain ⟨dx, ts0, h1, h2, h3, h4, h5⟩ := A0.at_
    have hu := hu_of hr
    refine ⟨_, (pss_cons (ps_set (i := 3) sc_Pool_cone.nd rfl (Or.inl rfl) (pe_lst pa_nil))
      (pss_cons (ps_setLc (i := 4) (own := [("x", 7)]) (g := gName 7) (tt := tYes) rfl sc_Pool_cone.nd rfl rfl (sw_true rfl rfl rfl (by decide +kernel)) (pi_list (pv 1)) (blkOk_by (N := N_Pool_cone) (sc := defScope s_Pool_cone) (own := [("x", 7)]) (by decide +kernel)) (fun _ _ _ _ _ => (pg_name (i := 7) sc_Pool_cone.nd rfl (Or.inl rfl))) (fun _ _ _ _ _ => pts_nil) (fun _ _ _ _ _ => (pe_op op_shr (pv 7) pe_int)))
      (pss_cons (ps_while PassesOwn.never (pt_cmpR op_gt (pe_callB call_len_seq (by rfl) T.m_len (by decide +kernel) (pa_cons (pv 4) pa_nil)) pe_int (nomark _)) (pss_cons (ps_set (i := 5) sc_Pool_cone.nd rfl (Or.inl rfl) (pe_bm0 PySem.F.plainAttrs_list PySem.F.slot_list_pop PySem.F.type_list_pop mt_pop (pv 4)))
      (pss_one (ps_if (pt_cmp (pc_dnotin hu (pv 5) (pv 2))) (pss_cons (ps_dput hu (pv 2) (pv 5) pe_bl rfl)
      (pss_cons (ps_expr (pe_bm PySem.F.plainAttrs_list PySem.F.slot_list_append PySem.F.type_list_append mt_append (pv 3) (pa_cons (pv 5) pa_nil)))
      (pss_cons (ps_set (i := 6) sc_Pool_cone.nd rfl (Or.inl rfl) (pe_ix ix_list (pe_fld (pv 0) (by rfl)) (pv 5) (fun _ _ => rfl)))
      (pss_one (ps_if (pt_cmpR op_ne (pe_ix ix_tup (pv 6) pe_int (fun _ _ => rfl)) pe_str (nomark _)) (pss_one (ps_expr (pe_bm PySem.F.plainAttrs_list PySem.F.slot_list_extend PySem.F.type_list_extend mt_extend (pv 4) (pa_cons (pe_lc (own := [("x", 7)]) (g := gName 7) (tt := tYes) rfl sc_Pool_cone.nd (pi_tup (pe_slice sl_tup (pv 6) (po_some pe_int) po_none)) (blkOk_by (N := N_Pool_cone) (sc := defScope s_Pool_cone) (own := [("x", 7)]) (by decide +kernel)) (fun _ _ _ _ _ => (pg_name (i := 7) sc_Pool_cone.nd rfl (Or.inl rfl))) (fun _ _ _ _ _ => pts_nil) (fun _ _ _ _ _ => (pe_op op_shr (pv 7) pe_int))) pa_nil)))) pss_nil))))) pss_nil))))
      (pss_one (ps_ret (pe_callB cr_sortedI (by rfl) T.m_sorted (by decide +kernel) (pa_cons (pv 3) pa_nil))))))), ?_⟩
    have hN : ∀ x ∈ xs.map (fun x => x / 2), 0 ≤ x ∧ x < (gs.length : Int) := fun x hm => by
      obtain ⟨z, hz, rfl⟩ := List.mem_map.mp hm
      have := (hx z hz).1
      have := (hx z hz).2
      omega
    refine ⟨by show 0 ≤ sizeLine; decide, fun F hF => ?_⟩
    have s0 := same_new hF (.lst [])
    have sF := s1.trans s0
    refine ⟨_, rfl, l, rfl, ⟨_, sql_mono sF hl⟩, fun TD hTD => lc_mapL halfV (sql_mono sF hl) (by rw [List.length_map]; omega) hTD (fun _ => rfl) (fun y H2 R hy s2 r => ?_) fun H1 h1' s2 => ?_⟩
    · obtain ⟨x, hx', rfl⟩ := List.mem_map.mp hy
      exact ⟨_, rfl, _, _, rfl, rfl, (by show (0 : Int) ≤ 1; decide), r⟩
    rw [halfV_map] at h1'
    have fT : H TD = none := by
      cases e : H TD with
      | none => rfl
      | some u =>
        rw [sF _ _ e] at hTD
        cases hTD
    have fF : H F = none := by
      cases e : H F with
      | none => rfl
      | some u =>
        rw [s1 _ _ e] at hF
        cases hF
    have nTF : TD ≠ F := fun e => by rw [e, upd_same] at hTD; cases hTD
    have I0 : CI gs xs H H1 S TD F [] (xs.map fun x => x / 2) := ⟨sF.trans s2, s2 _ _ (s0 _ _ hS1), h1', s2 _ _ upd_same, nTF, hS, fT, fF, List.nodup_nil, (fun y hy => nomatch hy), hN, (fun x hx => .inr (List.mem_map.mpr ⟨x, hx, rfl⟩)), (fun y hy => nomatch hy), by rw [List.length_map]; omega⟩
    refine ⟨fun m σ' H' => ∃ (ys ts : List Int) (o4 o5 : Option V), σ' = [some (.ref p), some (.ref l), some (.ref S), some (.ref F), some (.ref TD), o4, o5, none] ∧ CI gs xs H H' S TD F ys ts ∧ m = 4 * (gs.length - ys.length) + ts.length, ⟨_, [], _, none, none, rfl, I0, rfl⟩, ?_⟩
    rintro m σ' H' ⟨ys, ts, o4, o5, rfl, I, rfl⟩
    have nST : S ≠ TD := ne_of I.sS I.sT (by intro z; cases z)
    have nSF : S ≠ F := ne_of I.sS I.sF (by intro z; cases z)
    refine ⟨_, rfl, TD, _, rfl, .inl (SqL.of I.sT), _, _, rfl, rfl, _, rfl, ite2 (fun c => ?_) (fun c => ?_)⟩
    · have c : (0 : Int) < ((ts.map V.int).length : Int) := of_decide_eq_true c
      rw [List.length_map] at c
      obtain ⟨t1, k, rfl⟩ : ∃ t1 k, ts = t1 ++ [k] := by
        rcases snoc_cases ts with e | e
        · rw [e] at c; exact absurd c (by decide)
        · exact e
      have rk := I.rt k (List.mem_append_right _ (List.mem_singleton_self k))
      refine ⟨fun σ2 H2 => ∃ (ys2 ts2 : List Int) (o4 o5 : Option V), σ2 = [some (.ref p), some (.ref l), some (.ref S), some (.ref F), some (.ref TD), o4, o5, none] ∧ CI gs xs H H2 S TD F ys2 ts2 ∧ 4 * (gs.length - ys2.length) + ts2.length < 4 * (gs.length - ys.length) + (t1 ++ [k]).length, fun σ2 H2 ⟨ys2, ts2, o4, o5, e1, e2, e3⟩ => ⟨_, e3, ys2, ts2, o4, o5, e1, e2, rfl⟩, ?_⟩
      have hdl : ((t1 ++ [k]).map V.int).dropLast = t1.map V.int := by rw [List.map_append]; exact List.dropLast_concat
      refine ⟨_, rfl, .inl ⟨rfl, _, SqL.of I.sT⟩, TD, _, .int k, rfl, rfl, I.sT, ?_, ?_⟩
      · rw [List.map_append, List.length_append]
        show (t1.map V.int ++ [V.int k])[(t1.map V.int).length + 1 - 1]? = _
        rw [List.getElem?_append_right (by omega), show (t1.map V.int).length + 1 - 1 - (t1.map V.int).length = 0 by omega]
        rfl
      rw [hdl]
      have sA : Same H (upd H' TD (.lst (t1.map V.int))) := fun b o hb => by
        rw [upd_ne (ne_of_none hb I.fT)]
        exact I.s b o hb
      have sFA : (upd H' TD (.lst (t1.map V.int))) F = some (.lst (ys.map V.int)) := by rw [upd_ne nTF.symm]; exact I.sF
      have sSA : (upd H' TD (.lst (t1.map V.int))) S = some (.dK (seenK ys)) := by rw [upd_ne nST]; exact I.sS
      refine ⟨_, rfl, _, rfl, S, _, rfl, DGet.k (k := .inl k) sSA, _, rfl, ?_⟩
      rw [seen_val]
      by_cases hk : k ∈ ys
      · rw [decide_eq_true hk]
        refine iteF ?_
        refine ⟨ys, t1, _, _, rfl, ⟨sA, sSA, upd_same, sFA, nTF, I.fS, I.fT, I.fF, I.nd, I.ry, fun y hy => I.rt y (List.mem_append_left _ hy), fun x hx => ?_, fun y hy g hg z hz => ?_, by have := I.len; rw [List.length_append] at this; omega⟩, by rw [List.length_append, List.length_singleton]; omega⟩
        · rcases I.has x hx with h | h
          · exact .inl h
          · rcases List.mem_append.mp h with h | h
            · exact .inr h
            · rw [List.mem_singleton.mp h]; exact .inl hk
        · rcases I.cl y hy g hg z hz with h | h
          · exact .inl h
          · rcases List.mem_append.mp h with h | h
            · exact .inr h
            · rw [List.mem_singleton.mp h]; exact .inl hk
      · rw [decide_eq_false hk]
        refine iteT ?_
        have ysl := few_of I.nd I.ry
        have nd2 : (ys ++ [k]).Nodup := by
          rw [List.nodup_append]
          exact ⟨I.nd, by simp, fun a ha b hb e => hk (by rw [← List.mem_singleton.mp hb, ← e]; exact ha)⟩
        have ry2 : ∀ y ∈ ys ++ [k], 0 ≤ y ∧ y < (gs.length : Int) := fun y hy => by
          rcases List.mem_append.mp hy with h | h
          · exact I.ry y h
          · rw [List.mem_singleton.mp h]; exact rk
        have ysl2 := few_of nd2 ry2
        rw [List.length_append, List.length_singleton] at ysl2
        refine ⟨_, rfl, _, rfl, S, _, rfl, DPut.k (k := .inl k) sSA (by unfold seenK; rw [List.length_map]; exact Nat.lt_of_le_of_lt (Nat.le_trans ysl h64) (by decide)), ?_⟩
        rw [seen_put hk]
        have sB0 : Same H (upd (upd H' TD (.lst (t1.map V.int))) S (.dK (seenK (ys ++ [k])))) := fun b o hb => by
          rw [upd_ne (ne_of_none hb I.fS)]
          exact sA b o hb
        have sFB0 : (upd (upd H' TD (.lst (t1.map V.int))) S (.dK (seenK (ys ++ [k])))) F = some (.lst (ys.map V.int)) := by rw [upd_ne nSF.symm]; exact sFA
        refine ⟨_, rfl, .inl ⟨rfl, _, SqL.of sFB0⟩, _, rfl, F, _, _, rfl, rfl, sFB0, by rw [List.length_map]; exact Nat.lt_of_le_of_lt (Nat.le_trans ysl h64) (by decide), ?_⟩
        have eF : ys.map V.int ++ [V.int k] = (ys ++ [k]).map V.int := by rw [List.map_append]; rfl
        rw [eF]
        have sB : Same H (upd (upd (upd H' TD (.lst (t1.map V.int))) S (.dK (seenK (ys ++ [k])))) F (.lst ((ys ++ [k]).map V.int))) := fun b o hb => by
          rw [upd_ne (ne_of_none hb I.fF)]
          exact sB0 b o hb
        have sSB : (upd (upd (upd H' TD (.lst (t1.map V.int))) S (.dK (seenK (ys ++ [k])))) F (.lst ((ys ++ [k]).map V.int))) S = some (.dK (seenK (ys ++ [k]))) := by rw [upd_ne nSF]; exact upd_same
        have sTB : (upd (upd (upd H' TD (.lst (t1.map V.int))) S (.dK (seenK (ys ++ [k])))) F (.lst ((ys ++ [k]).map V.int))) TD = some (.lst (t1.map V.int)) := by rw [upd_ne nTF, upd_ne nST.symm]; exact upd_same
        have sFB : (upd (upd (upd H' TD (.lst (t1.map V.int))) S (.dK (seenK (ys ++ [k])))) F (.lst ((ys ++ [k]).map V.int))) F = some (.lst ((ys ++ [k]).map V.int)) := upd_same
        obtain ⟨g, hg⟩ : ∃ g, gs[k.toNat]? = some g := ⟨gs[k.toNat]'(by omega), List.getElem?_eq_getElem (by omega)⟩
        obtain ⟨t, htk⟩ : ∃ t, ts0[k.toNat]? = some t := ⟨ts0[k.toNat]'(by omega), List.getElem?_eq_getElem (by omega)⟩
        obtain ⟨hd, _⟩ := h4 _ g t hg htk
        have hdB := dp_mono sB _ hd
        have hat : atI (ts0.map V.ref) k = some (.ref t) := by
          have e := atI_nat (xs := ts0.map V.ref) (j := k.toNat) (v := .ref t) (by rw [List.getElem?_map, htk]; rfl)
          rw [show ((k.toNat : Nat) : Int) = k by omega] at e
          exact e
        refine ⟨_, rfl, p, C, dx, _, _, rfl, sB _ _ h1, PK.cls, PK.g, plFs_g _ _, _, rfl, G, _, k, _, rfl, rfl, SqL.of (sB _ _ h2), hat, ?_⟩
        have cl2 : ∀ (more : List Int), (∀ z ∈ g.parts, z / 2 ∈ more) → ∀ y ∈ ys ++ [k], ∀ g', gs[y.toNat]? = some g' → ∀ z ∈ g'.parts, z / 2 ∈ ys ++ [k] ∨ z / 2 ∈ t1 ++ more := fun more hm y hy g' hg' z hz => by
          rcases List.mem_append.mp hy with h | h
          · rcases I.cl y h g' hg' z hz with h | h
            · exact .inl (List.mem_append_left _ h)
            · rcases List.mem_append.mp h with h | h
              · exact .inr (List.mem_append_left _ h)
              · exact .inl (List.mem_append_right _ h)
          · rw [List.mem_singleton.mp h, hg] at hg'
            cases hg'
            exact .inr (List.mem_append_right _ (hm z hz))
        have has2 : ∀ (more : List Int), ∀ x ∈ xs, x / 2 ∈ ys ++ [k] ∨ x / 2 ∈ t1 ++ more := fun more x hx => by
          rcases I.has x hx with h | h
          · exact .inl (List.mem_append_left _ h)
          · rcases List.mem_append.mp h with h | h
            · exact .inr (List.mem_append_left _ h)
            · exact .inl (List.mem_append_right _ h)
        have hlen := I.len
        rw [List.length_append, List.length_singleton] at hlen
        cases hb : g.isBit with
        | true =>
          obtain ⟨n, rfl⟩ : ∃ n, g = .bit n := by
            cases g with
            | bit n => exact ⟨n, rfl⟩
            | _ => cases hb
          obtain ⟨v, hs, hv⟩ := bit_seq hdB
          refine ⟨_, rfl, t, _, _, _, rfl, rfl, hs, rfl, rfl, _, rfl, ite2 (fun c => absurd c (by show ¬ ((!decide (V.str "bit" = V.str "bit")) = true); decide +kernel)) (fun _ => ?_)⟩
          refine ⟨ys ++ [k], t1, _, _, rfl, ⟨sB, sSB, sTB, sFB, nTF, I.fS, I.fT, I.fF, nd2, ry2, fun y hy => I.rt y (List.mem_append_left _ hy), fun x hx => ?_, fun y hy g hg z hz => ?_, by rw [List.length_append]; omega⟩, by rw [List.length_append, List.length_append, List.length_singleton]; omega⟩
          · have := has2 [] x hx
            rw [List.append_nil] at this
            exact this
          · have := cl2 [] (fun z hz => nomatch hz) y hy g hg z hz
            rw [List.append_nil] at this
            exact this
        | false =>
          have hs := gt_seq hb hdB
          refine ⟨_, rfl, t, _, _, _, rfl, rfl, hs, at0', rfl, _, rfl, ite2 (fun _ => ?_) (fun c => absurd (by show (!decide (V.str (kindS g) = V.str "bit")) = true; rw [Bool.not_eq_true'] ; exact Bool.eq_false_iff.mpr (kind_no hb)) c)⟩
          refine ⟨_, rfl, .inl ⟨rfl, _, SqL.of sTB⟩, _, rfl, _, rfl, t, _, rfl, hs, not_whole _ _ _, fun p2 hp2 => ?_⟩
          rw [cut_from1]
          have sC := same_new hp2 (.tup ((V.str (kindS g) :: g.parts.map V.int).drop 1))
          have hl3 := parts_len g
          refine ⟨p2, rfl, ⟨_, SqT.of upd_same⟩, fun D1 hD1 => lc_mapT halfV (SqT.of upd_same) (by show (g.parts.map V.int).length ≤ 1000; rw [List.length_map]; omega) hD1 (fun _ => rfl) (fun y H2 R hy s2 r => ?_) fun H3 h3' s3 => ?_⟩
          · obtain ⟨x, hx, rfl⟩ := List.mem_map.mp (show y ∈ g.parts.map V.int from hy)
            exact ⟨_, rfl, _, _, rfl, rfl, (by show (0 : Int) ≤ 1; decide), r⟩
          rw [show (V.str (kindS g) :: g.parts.map V.int).drop 1 = g.parts.map V.int from rfl, halfV_map] at h3'
          have sD := (sC.trans s3)
          refine ⟨TD, D1, _, _, rfl, rfl, sD _ _ sTB, h3', ?_, ?_⟩
          · rw [List.length_map, List.length_map, List.length_map]
            exact Nat.le_trans (by omega) (show 40000 ≤ sizeLine by decide)
          have sE : Same H (upd H3 TD (.lst (t1.map V.int ++ (g.parts.map fun x => x / 2).map V.int))) := fun b o hb => by
            rw [upd_ne (ne_of_none hb I.fT)]
            exact sD _ _ (sB b o hb)
          refine ⟨ys ++ [k], t1 ++ g.parts.map (fun x => x / 2), _, _, rfl, ⟨sE, by rw [upd_ne nST]; exact sD _ _ sSB, by rw [upd_same, List.map_append], by rw [upd_ne nTF.symm]; exact sD _ _ sFB, nTF, I.fS, I.fT, I.fF, nd2, ry2, fun y hy => ?_, has2 _, cl2 _ (fun z hz => List.mem_map.mpr ⟨z, hz, rfl⟩), by rw [List.length_append, List.length_append, List.length_map, List.length_singleton]; omega⟩, ?_⟩
          · rcases List.mem_append.mp hy with h | h
            · exact I.rt y (List.mem_append_left _ h)
            · obtain ⟨z, hz, rfl⟩ := List.mem_map.mp h
              have := A0.ok.parts _ g hg z hz
              omega
          · rw [List.length_append, List.length_append, List.length_append, List.length_map, List.length_singleton]
            omega
    · have c : ¬ (0 : Int) < ((ts.map V.int).length : Int) := fun z => c (decide_eq_true z)
      rw [List.length_map] at c
      have e0 : ts = [] := List.length_eq_zero_iff.mp (by omega)
      rw [e0] at I
      have ysl := few_of I.nd I.ry
      refine ⟨_, rfl, F, ys, rfl, SqL.of I.sF, fun zs r pm asc hr' => ?_⟩
      refine q _ r zs (I.s.trans (same_new hr' _)) upd_same ⟨?_, fun y hy => I.ry y (pm.mem_iff.mp hy), fun x hx => ?_, fun y hy g hg z hz => ?_⟩
      · have ndz : zs.Nodup := pm.nodup_iff.mpr I.nd
        exact (asc.and ndz).imp fun {a b} h => by have := h.1; have := h.2; omega
      · rcases I.has x hx with h | h
        · exact pm.mem_iff.mpr h
        · cases h
      · rcases I.cl y (pm.mem_iff.mp hy) g hg z hz with h | h
        · exact pm.mem_iff.mpr h
        · cases h
end
end My


set_option Elab.async false
set_option maxRecDepth 100000
set_option maxHeartbeats 4000000
set_option linter.all false
namespace My
open PySem L2 PyProof.Rows
open C8 (pss_cut)
def foundK (bs : List Int) (ys : List Int) : List (Key × V) := ys.map fun y => (Sum.inl y, V.int (bs.getD y.toNat 0))
theorem found_val {bs ys : List Int} {k : Int} (h : k ∈ ys) : valV (foundK bs ys) (.inl k) = some (.int (bs.getD k.toNat 0)) := by
  unfold foundK
  induction ys with
  | nil => cases h
  | cons y ys ih =>
    unfold valV at *
    rw [List.map_cons]
    by_cases e : y = k
    · rw [List.find?_cons_of_pos (by simp [e]), e]
      rfl
    · rw [List.find?_cons_of_neg (by simp [e])]
      exact ih ((List.mem_cons.mp h).resolve_left fun z => e z.symm)
theorem found_no {bs ys : List Int} {k : Int} (h : k ∉ ys) : valV (foundK bs ys) (.inl k) = none := by
  unfold foundK
  induction ys with
  | nil => rfl
  | cons y ys ih =>
    unfold valV at *
    rw [List.map_cons, List.find?_cons_of_neg (by simp; exact fun e => h (by rw [e]; exact List.mem_cons_self))]
    exact ih fun m => h (List.mem_cons_of_mem _ m)
theorem found_put {bs ys : List Int} {k : Int} (h : k ∉ ys) : putK (foundK bs ys) (.inl k) (.int (bs.getD k.toNat 0)) = foundK bs (ys ++ [k]) := by
  have e := found_no (bs := bs) h
  unfold putK
  rw [valV_any, e]
  unfold foundK
  rw [List.map_append]
  rfl
def spComp (P : Program) (w : World) (K : PySem.W.Frag) (C : Addr) : Sp := fun vs H Q _ => ∃ (p G D l a : Addr) (gs : List Gt) (xs : List Int) (rows : NRows), vs = [.ref p, .ref l, .ref a] ∧ PoolAt P w K H C p G D gs ∧ SqL K H l (xs.map V.int) ∧ (∀ x ∈ xs, okL gs x) ∧ xs.length ≤ 100 ∧ gs.length ≤ 10000 ∧ BitsAt P w K H a rows ∧
  ∀ H' r, Same H H' → H' r = some (.lst ((xs.map (litv (bitsOf (envOf rows) gs))).map V.int)) → Q (.ref r) H'
def spVal (P : Program) (w : World) (K : PySem.W.Frag) (C : Addr) : Sp := fun vs H Q _ => ∃ (p G D a : Addr) (gs : List Gt) (x : Int) (rows : NRows), vs = [.ref p, .int x, .ref a] ∧ PoolAt P w K H C p G D gs ∧ okL gs x ∧ gs.length ≤ 10000 ∧ BitsAt P w K H a rows ∧
  ∀ H', Same H H' → Q (.int (litv (bitsOf (envOf rows) gs) x)) H'
theorem BitsAt.keep {P : Program} {w : World} {K : PySem.W.Frag} {H H' : Hp} {a : Addr} {rows : NRows} (B : BitsAt P w K H a rows) {S : List Addr} (hS : ∀ a ∈ S, Mut (H a)) (hb : But S H H') (na : a ∉ S) : BitsAt P w K H' a rows := by
  refine ⟨⟨?_, B.dn.len, fun x hx => ?_⟩, B.bit⟩
  · rcases B.dn.at_ with e | ⟨e0, e⟩
    · exact .inl (hb _ _ na e)
    · exact .inr ⟨e0, hb _ _ na e⟩
  · obtain ⟨k1, k2⟩ := B.dn.keys x hx
    exact ⟨dp_but hS hb _ (nk_noLst _) k1, k2⟩
theorem BitsAt.same {P : Program} {w : World} {K : PySem.W.Frag} {H H' : Hp} {a : Addr} {rows : NRows} (B : BitsAt P w K H a rows) (s : Same H H') : BitsAt P w K H' a rows := B.keep (S := []) (fun _ h => nomatch h) (.of_same s) (fun h => nomatch h)
section
variable {P : Program} {w : World} {K : PySem.W.Frag} {mg : Str → Option Value} {base : Heap} {f C : Addr} {fd : FuncData}
theorem ok_computed (T : Txt K mg) (PK : PlK K C) (D : DefM K C "computed" "Pool.computed" ["self", "literals", "bits"] s_Pool_computed f fd) (O1 : OwnM P w K mg base C "cone" ["self", "literals", "seen"] 1 (spCone P w K C)) (O2 : Own P w K mg base "gate_value" ["gate", "found", "bits"] 1 (spGV P w K)) : OwnM P w K mg base C "computed" ["self", "literals", "bits"] 2 (spComp P w K C) := by
  obtain ⟨fcone, fdcone, Mcone, bcone, Gcone⟩ := O1
  obtain ⟨fgate_value, fdgate_value, mgate_value, kgate_value, bgate_value, Ggate_value⟩ := O2
  refine ⟨f, fd, D.me, D.bd, D.fn.ok sc_Pool_computed (fun vs H Q E h => ?_) (fun cdv A outer s H vs Q E hr h => ?_)⟩
  · obtain ⟨p, G, D', l, a, gs, xs, rows, rfl, _⟩ := h
    rfl
  · obtain ⟨p, G, D', l, a, gs, xs, rows, rfl, A0, hl, hx, hxl, h64, hB, q⟩ := h
    obtain ⟨dx, ts0, h1, h2, h3, h4, h5⟩ := A0.at_
    have hu := hu_of hr
    have hbits := bits_bit (envOf_bit hB) gs
    refine ⟨_, (pss_cons (ps_set (i := 3) sc_Pool_computed.nd rfl (Or.inr rfl) pe_dnewK)
      (pss_cons (ps_for PassesOwn.never rfl (pi_list (pe_meth (pv 0) PK.cls Mcone Gcone (hr.mono (by omega)) bcone .nil pass0 (pa_cons (pv 1) (pa_cons pe_dnewK pa_nil)))) (pg_name (i := 4) sc_Pool_computed.nd rfl (Or.inl rfl)) (pss_one (ps_dput hu (pv 3) (pv 4) (pe_call Ggate_value (hr.mono (by omega)) rfl mgate_value kgate_value bgate_value .nil pass0 (pa_cons (pe_ix ix_list (pe_fld (pv 0) (by rfl)) (pv 4) (fun _ _ => rfl)) (pa_cons (pv 3) (pa_cons (pv 2) pa_nil)))) rfl)))
      (pss_one (ps_ret (pe_lc (own := [("x", 5)]) (g := gName 5) (tt := tYes) rfl sc_Pool_computed.nd (pi_list (pv 1)) (blkOk_by (N := N_Pool_computed) (sc := defScope s_Pool_computed) (own := [("x", 5)]) (by decide +kernel)) (fun _ _ _ _ _ => (pg_name (i := 5) sc_Pool_computed.nd rfl (Or.inl rfl))) (fun _ _ _ _ _ => pts_nil) (fun _ _ _ _ _ => (pe_op op_xor (pe_dget hu (pv 3) (pe_op op_shr (pv 5) pe_int) (fun _ _ => rfl)) (pe_op op_and (pv 5) pe_int)))))))), ?_⟩
    refine fun F hF => ?_
    have s1 := same_new hF (.dK [])
    refine ⟨_, rfl, p, dx, _, rfl, s1 _ _ h1, plFs_no _ _ (by decide +kernel) (by decide +kernel), _, rfl, fun S hS => ⟨upd H F (.dK []), p, G, D', l, S, gs, xs, rfl, same_new hS _, hS, upd_same, A0.same s1, sql_mono s1 hl, hx, hxl, h64, fun H2 r ys s2 hr2 hC => ?_⟩⟩
    have nd : ys.Nodup := hC.asc.imp fun {a b} h => by omega
    have ysl := few_of nd hC.rng
    have fF : ∀ b o, H b = some o → b ≠ F := fun b o e => ne_of_none e hF
    have hFr : F ≠ r := by
      intro e
      have := s2 _ _ (upd_same : upd H F (.dK []) F = _)
      rw [e, hr2] at this
      cases this
    refine ⟨r, rfl, ⟨_, SqL.of hr2⟩, for_list (K := K) (a := r) (xs := ys.map V.int) (fun i σ' H' => ∃ o4, σ' = [some (.ref p), some (.ref l), some (.ref a), some (.ref F), o4, none] ∧ Same H H' ∧ H' r = some (.lst (ys.map V.int)) ∧ H' F = some (.dK (foundK (bitsOf (envOf rows) gs) (ys.take i)))) ⟨none, rfl, s1.trans s2, hr2, s2 _ _ upd_same⟩ (fun i σ' H' _ ⟨_, _, _, h, _⟩ => SqL.of h) ?_ ?_⟩
    · rintro i y σ' H' hi ⟨o4, rfl, s3, hr3, hF3⟩
      obtain ⟨k, hk, rfl⟩ : ∃ k, ys[i]? = some k ∧ y = .int k := by
        rw [List.getElem?_map] at hi
        cases e : ys[i]? with
        | none => rw [e] at hi; cases hi
        | some k => rw [e] at hi; exact ⟨k, rfl, (Option.some.inj hi).symm⟩
      have hkm := List.mem_of_getElem? hk
      have rk := hC.rng k hkm
      obtain ⟨g, hg⟩ : ∃ g, gs[k.toNat]? = some g := ⟨gs[k.toNat]'(by omega), List.getElem?_eq_getElem (by omega)⟩
      obtain ⟨t, htk⟩ : ∃ t, ts0[k.toNat]? = some t := ⟨ts0[k.toNat]'(by omega), List.getElem?_eq_getElem (by omega)⟩
      obtain ⟨hd, hd8⟩ := h4 _ g t hg htk
      have hat : atI (ts0.map V.ref) k = some (.ref t) := by
        have e := atI_nat (xs := ts0.map V.ref) (j := k.toNat) (v := .ref t) (by rw [List.getElem?_map, htk]; rfl)
        rw [show ((k.toNat : Nat) : Int) = k by omega] at e
        exact e
      have hknot : k ∉ ys.take i := fun m => by
        obtain ⟨j, hj⟩ := List.getElem?_of_mem m
        have hji : j < i := by
          have := (List.getElem?_eq_some_iff.mp hj).1
          rw [List.length_take] at this
          omega
        rw [List.getElem?_take_of_lt hji] at hj
        have := (List.getElem?_inj (by have := (List.getElem?_eq_some_iff.mp hk).1; omega) nd).mp (hj.trans hk.symm)
        omega
      refine ⟨_, rfl, p, C, dx, _, _, rfl, s3 _ _ h1, PK.cls, PK.g, plFs_g _ _, _, rfl, G, _, k, _, rfl, rfl, SqL.of (s3 _ _ h2), hat, _, rfl, _, rfl, ?_⟩
      refine ⟨t, F, a, g, _, bitsOf (envOf rows) gs, rows, rfl, dp_mono s3 _ hd, hd8, (fun n e => A0.nm n (by rw [← e]; exact List.mem_of_getElem? hg)), ⟨hF3, fun z hz => ?_⟩, hbits, hB.same s3, fun H4 s4 => ?_⟩
      · have hp := A0.ok.parts _ g hg z hz
        refine ⟨hp.1, found_val ?_⟩
        have hm := hC.cl k hkm g hg z hz
        obtain ⟨j, hj⟩ := List.getElem?_of_mem hm
        refine List.mem_of_getElem? (i := j) ?_
        have hji : j < i := by
          rcases Nat.lt_or_ge j i with h | h
          · exact h
          · exfalso
            have hj' := (List.getElem?_eq_some_iff.mp hj)
            have hk' := (List.getElem?_eq_some_iff.mp hk)
            rcases Nat.eq_or_lt_of_le h with e | h
            · subst e
              rw [hk] at hj
              have := Option.some.inj hj
              omega
            · have := List.pairwise_iff_getElem.mp hC.asc i j hk'.1 hj'.1 h
              rw [hk'.2, hj'.2] at this
              omega
        rw [List.getElem?_take_of_lt hji]
        exact hj
      · rw [← bits_at gs A0.ok k.toNat g hg]
        have hil := (List.getElem?_eq_some_iff.mp hk).1
        refine ⟨_, rfl, _, rfl, F, _, rfl, DPut.k (k := .inl k) (s4 _ _ hF3) (by unfold foundK; rw [List.length_map, List.length_take]; exact Nat.lt_of_le_of_lt (show min i ys.length ≤ 10000 by omega) (by decide)), ?_⟩
        rw [found_put hknot]
        refine ⟨_, rfl, fun b o e => ?_, ?_, ?_⟩
        · rw [upd_ne (fF b o e)]
          exact s4 _ _ (s3 b o e)
        · rw [upd_ne hFr.symm]
          exact s4 _ _ hr3
        · rw [upd_same, ← take_nextV hk]
    · rintro σ' H' ⟨o4, rfl, s3, hr3, hF3⟩
      rw [List.length_map, List.take_length] at hF3
      refine ⟨_, rfl, l, rfl, ⟨_, sql_mono s3 hl⟩, fun D1 hD1 => lc_mapL (litV (bitsOf (envOf rows) gs)) (sql_mono s3 hl) (by rw [List.length_map]; omega) hD1 (fun _ => rfl) (fun y H2 R hy s4 rr => ?_) fun H5 h5' s5 => ?_⟩
      · obtain ⟨x, hx', rfl⟩ := List.mem_map.mp hy
        refine ⟨_, rfl, _, rfl, _, _, rfl, rfl, (by show (0 : Int) ≤ 1; decide), F, _, rfl, (by rw [← found_val (bs := bitsOf (envOf rows) gs) (hC.has x hx')]; show DGet H2 F (V.int (x / 2)) _; exact DGet.k (k := .inl (x / 2)) (s4 _ _ hF3)), _, rfl, _, _, rfl, rfl, _, _, rfl, rfl, ?_⟩
        show R (V.int (Builtin.bitXor ((bitsOf (envOf rows) gs).getD (x / 2).toNat 0) (Builtin.bitAnd x 1))) H2
        rw [litv_xor hbits]
        exact rr
      · rw [litV_map] at h5'
        exact q _ D1 (s3.trans s5) h5'
end
end My


set_option Elab.async false
set_option maxRecDepth 100000
set_option maxHeartbeats 4000000
set_option linter.all false
namespace My
open PySem L2 PyProof.Rows
open C8 (pss_cut)
def spWordV (P : Program) (w : World) (K : PySem.W.Frag) (C : Addr) : Sp := fun vs H Q _ => ∃ (p G D x a : Addr) (gs : List Gt) (xs : List Int) (rows : NRows), vs = [.ref p, .ref x, .ref a] ∧ PoolAt P w K H C p G D gs ∧ SqL K H x (xs.map V.int) ∧ (∀ z ∈ xs, okL gs z) ∧ xs.length ≤ 50 ∧ gs.length ≤ 10000 ∧ BitsAt P w K H a rows ∧
  ∀ H', Same H H' → Q (.int (wv (bitsOf (envOf rows) gs) xs)) H'
section
variable {P : Program} {w : World} {K : PySem.W.Frag} {mg : Str → Option Value} {base : Heap} {f C : Addr} {fd : FuncData}
theorem ok_word_value (T : Txt K mg) (PK : PlK K C) (D : Def K mg "word_value" ["pool", "x", "bits"] s_word_value f fd) (O1 : OwnM P w K mg base C "computed" ["self", "literals", "bits"] 2 (spComp P w K C)) : Own P w K mg base "word_value" ["pool", "x", "bits"] 3 (spWordV P w K C) := by
  obtain ⟨fcomputed, fdcomputed, Mcomputed, bcomputed, Gcomputed⟩ := O1
  refine ⟨f, fd, D.mg, D.fn.kp, D.bd, D.fn.ok sc_word_value (fun vs H Q E h => ?_) (fun cdv A outer s H vs Q E hr h => ?_)⟩
  · obtain ⟨p, G, D', x, a, gs, xs, rows, rfl, _⟩ := h
    rfl
  · obtain ⟨p, G, D', x, a, gs, xs, rows, rfl, A0, hx, okx, hl, hg, hB, q⟩ := h
    obtain ⟨dx, ts, h1, _⟩ := A0.at_
    refine ⟨_, (pss_cons (ps_set (i := 3) sc_word_value.nd rfl (Or.inl rfl) pe_int)
      (pss_cons (ps_for PassesOwn.never rfl (pi_enum (by rfl) T.m_enumerate (pa_cons (pe_meth (pv 0) PK.cls Mcomputed Gcomputed (hr.mono (by omega)) bcomputed .nil pass0 (pa_cons (pv 1) (pa_cons (pv 2) pa_nil))) pa_nil)) (pg_tup (by rfl) (pgs_cons (pg_name (i := 4) sc_word_value.nd rfl (Or.inl rfl)) (pgs_cons (pg_name (i := 5) sc_word_value.nd rfl (Or.inl rfl)) pgs_nil))) (pss_one (ps_aug (i := 3) sc_word_value.nd rfl (Or.inl rfl) (pe_op op_shl (pv 5) (pv 4)) iop_or)))
      (pss_one (ps_ret (pv 3))))), ?_⟩
    have hbits := bits_bit (envOf_bit hB) gs
    refine ⟨_, rfl, p, dx, _, rfl, h1, plFs_no _ _ (by decide +kernel) (by decide +kernel), _, rfl, _, rfl, p, G, D', x, a, gs, xs, rows, rfl, A0, hx, okx, by omega, hg, hB, fun H1 r s1 hr1 => ?_⟩
    have lv : ((xs.map (litv (bitsOf (envOf rows) gs))).map V.int).length = xs.length := by rw [List.length_map, List.length_map]
    refine ⟨r, _, rfl, SqL.of hr1, for_it walk_enum (fun i σ' H' => ∃ (o4 o5 : Option V), σ' = [some (.ref p), some (.ref x), some (.ref a), some (.int (wv (bitsOf (envOf rows) gs) (xs.take i))), o4, o5] ∧ Same H H' ∧ H' r = some (.lst ((xs.map (litv (bitsOf (envOf rows) gs))).map V.int))) ⟨none, none, rfl, s1, hr1⟩ (fun i σ' H' _ ⟨_, _, _, _, h⟩ => SqL.of h) ?_ ?_⟩
    · rintro i _ σ' H2 _ hi ⟨o4, o5, rfl, s2, hr2⟩ ⟨Tt, u, v, rfl, fT, rfl, e1, e2⟩
      cases e1
      have e2 : ((xs.map (litv (bitsOf (envOf rows) gs))).map V.int)[i]? = some v := e2
      rw [List.getElem?_map, List.getElem?_map] at e2
      obtain ⟨b, hb, rfl⟩ := Option.map_eq_some_iff.mp e2
      obtain ⟨z, hz, rfl⟩ := Option.map_eq_some_iff.mp hb
      have hil := (List.getElem?_eq_some_iff.mp hz).1
      have sT := same_new fT (.tup [.int (i : Nat), .int (litv (bitsOf (envOf rows) gs) z)])
      have lb := litv_bit hbits z
      have rg := wv_rng hbits (xs.take i)
      rw [List.length_take, Nat.min_eq_left (by omega)] at rg
      refine ⟨Tt, _, rfl, SqT.of upd_same, rfl, _, _, rfl, _, _, rfl, rfl, ?_⟩
      refine ⟨_, rfl, _, rfl, _, rfl, _, _, rfl, rfl, ⟨by omega, by omega, by omega⟩, _, _, rfl, rfl, ?_⟩
      have e : Builtin.bitOr (wv (bitsOf (envOf rows) gs) (xs.take i)) (litv (bitsOf (envOf rows) gs) z * 2 ^ ((i : Nat) : Int).toNat) = wv (bitsOf (envOf rows) gs) (xs.take (i + 1)) := by
        rw [show ((i : Nat) : Int).toNat = i by omega, Bits.bitOr_join rg.1 rg.2 (by omega), wv_step hz, Int.mul_comm]
      exact ⟨some (.int (i : Nat)), some (.int (litv (bitsOf (envOf rows) gs) z)), by rw [← e]; rfl, s2.trans sT, sT _ _ hr2⟩
    · rintro σ' H2 ⟨o4, o5, rfl, s2, hr2⟩
      rw [lv, List.take_length]
      exact ⟨_, rfl, q H2 s2⟩
end
end My


set_option Elab.async false
set_option maxRecDepth 100000
set_option maxHeartbeats 4000000
set_option linter.all false
namespace My
open PySem L2 PyProof.Rows
open C8 (pss_cut)
def x1 (z : Int) : Int := Builtin.bitXor z 1
def x1V : V → V
  | .int z => .int (x1 z)
  | v => v
theorem x1V_map (xs : List Int) : (xs.map V.int).map x1V = (xs.map x1).map V.int := by
  rw [List.map_map, List.map_map]
  rfl
theorem wv_x1 {bs : List Int} : ∀ {xs : List Int}, (∀ z ∈ xs, 0 ≤ z) → wv bs (xs.map x1) = 2 ^ xs.length - 1 - wv bs xs
  | [], _ => by show (0 : Int) = 2 ^ 0 - 1 - 0; decide
  | z :: zs, h => by
    show litv bs (Builtin.bitXor z 1) + 2 * wv bs (zs.map x1) = 2 ^ (zs.length + 1) - 1 - (litv bs z + 2 * wv bs zs)
    rw [litv_xor1 (h z (.head _)), wv_x1 fun u hu => h u (.tail _ hu), Int.pow_succ]
    omega
def spTurned (K : PySem.W.Frag) : Sp := fun vs H Q _ => ∃ (x : Addr) (xs : List Int), vs = [.ref x] ∧ SqL K H x (xs.map V.int) ∧ xs.length ≤ 1000 ∧ ∀ H' r, Same H H' → H r = none → H' r = some (.lst ((xs.map x1).map V.int)) → Q (.ref r) H'
section
variable {P : Program} {w : World} {K : PySem.W.Frag} {mg : Str → Option Value} {base : Heap} {f C : Addr} {fd : FuncData}
theorem ok_turned (T : Txt K mg) (D : Def K mg "turned" ["x"] s_turned f fd) : Own P w K mg base "turned" ["x"] 1 (spTurned K) := by
  refine ⟨f, fd, D.mg, D.fn.kp, D.bd, D.fn.ok sc_turned (fun vs H Q E h => ?_) (fun cdv A outer s H vs Q E hr h => ?_)⟩
  · obtain ⟨x, xs, rfl, _⟩ := h
    rfl
  · obtain ⟨x, xs, rfl, hx, hl, q⟩ := h
    refine ⟨_, (pss_one (ps_ret (pe_lc (own := [("a", 1)]) (g := gName 1) (tt := tYes) rfl sc_turned.nd (pi_list (pv 0)) (blkOk_by (N := N_turned) (sc := defScope s_turned) (own := [("a", 1)]) (by decide +kernel)) (fun _ _ _ _ _ => (pg_name (i := 1) sc_turned.nd rfl (Or.inl rfl))) (fun _ _ _ _ _ => pts_nil) (fun _ _ _ _ _ => (pe_op op_xor (pv 1) pe_int))))), ?_⟩
    refine ⟨_, rfl, x, rfl, ⟨_, hx⟩, fun R fR => lc_mapL x1V hx (by rw [List.length_map]; exact hl) fR (fun _ => rfl) (fun y H2 R hy s2 r => ?_) fun H1 h1 s1 => ?_⟩
    · obtain ⟨z, hz, rfl⟩ := List.mem_map.mp hy
      exact ⟨_, rfl, _, _, rfl, rfl, r⟩
    · rw [x1V_map] at h1
      exact q H1 R s1 fR h1
end
end My

set_option Elab.async false
set_option maxRecDepth 100000
set_option maxHeartbeats 4000000
set_option linter.all false
namespace My
open PySem PySem.Spec PyProof.Rows L2
theorem wv_app (bs : List Int) : ∀ (xs ys : List Int), wv bs (xs ++ ys) = wv bs xs + 2 ^ xs.length * wv bs ys
  | [], ys => by show wv bs ys = 0 + 2 ^ 0 * wv bs ys; rw [Int.pow_zero]; omega
  | x :: xs, ys => by
    show litv bs x + 2 * wv bs (xs ++ ys) = litv bs x + 2 * wv bs xs + 2 ^ (xs.length + 1) * wv bs ys
    rw [wv_app bs xs ys, Int.pow_succ, Int.mul_add, ← Int.mul_assoc, Int.mul_comm 2 (2 ^ xs.length)]
    omega
theorem wv_no {env : Bits} {gs : List Gt} (h : okGs gs) : ∀ n, wv (bitsOf env gs) (List.replicate n 0) = 0
  | 0 => rfl
  | n + 1 => by
    show litv (bitsOf env gs) 0 + 2 * wv (bitsOf env gs) (List.replicate n 0) = 0
    rw [litv_no h, wv_no h n]
    rfl
theorem wv_take {bs : List Int} (h : ∀ b ∈ bs, b = 0 ∨ b = 1) (xs : List Int) {m : Nat} (hm : m ≤ xs.length) : wv bs (xs.take m) = wv bs xs % 2 ^ m := by
  have e := wv_app bs (xs.take m) (xs.drop m)
  rw [List.take_append_drop, List.length_take, Nat.min_eq_left hm] at e
  have r := wv_rng h (xs.take m)
  rw [List.length_take, Nat.min_eq_left hm] at r
  rw [e, Int.add_mul_emod_self_left, Int.emod_eq_of_lt r.1 r.2]
/-- shifted by far places, in w places -/
theorem wv_shift {env : Bits} {gs : List Gt} (hk : okGs gs) (he : bitEnv env) {xs : List Int} {far : Nat} (hf : far ≤ xs.length) : wv (bitsOf env gs) (List.replicate far 0 ++ xs.take (xs.length - far)) = (wv (bitsOf env gs) xs * 2 ^ far) % 2 ^ xs.length := by
  rw [wv_app, wv_no hk, List.length_replicate, wv_take (bits_bit he gs) xs (Nat.sub_le _ _), Int.zero_add, Int.mul_comm]
  have e : (2 : Int) ^ xs.length = 2 ^ (xs.length - far) * 2 ^ far := by rw [← Int.pow_add, Nat.sub_add_cancel hf]
  rw [e, Int.mul_comm (2 ^ (xs.length - far)) (2 ^ far), Int.mul_comm (wv (bitsOf env gs) xs) (2 ^ far), Int.mul_emod_mul_of_pos _ _ (pow_p far), Int.mul_comm]
end My
namespace My
open PySem PySem.Spec PyProof.Rows L2
theorem shl_far (A : Int) (w i : Nat) : (A * 2 ^ (if w < 2 ^ i then w else 2 ^ i)) % 2 ^ w = (A * 2 ^ (2 ^ i)) % 2 ^ w := by
  by_cases h : w < 2 ^ i
  · rw [if_pos h]
    have e : (2 : Int) ^ (2 ^ i) = 2 ^ w * 2 ^ (2 ^ i - w) := by rw [← Int.pow_add]; congr 1; omega
    rw [e, Int.mul_emod_left, ← Int.mul_assoc, Int.mul_comm A (2 ^ w), Int.mul_assoc, Int.mul_emod_right]
  · rw [if_neg h]
theorem rep_flat (n : Nat) : (List.replicate n [V.int 0]).flatten = (List.replicate n (0 : Int)).map V.int := by
  induction n with
  | zero => rfl
  | succ n ih =>
    rw [List.replicate_succ, List.flatten_cons, ih, List.replicate_succ, List.map_cons]
    rfl
theorem cut_upto (xs : List V) (k : Nat) (h : k ≤ xs.length) : cutV xs none (some (k : Int)) = xs.take k := by
  unfold cutV
  rw [HT.sIx_nat, HT.sIx_none, Nat.min_eq_left h]
  rfl
theorem shl_step {X Y b : Int} {i w : Nat} (hY : 0 ≤ Y) (hb : b = 0 ∨ b = 1) : (if b = 1 then ((X * 2 ^ Y.toNat) % 2 ^ w * 2 ^ (if w < 2 ^ i then w else 2 ^ i)) % 2 ^ w else (X * 2 ^ Y.toNat) % 2 ^ w) = (X * 2 ^ (Y + 2 ^ i * b).toNat) % 2 ^ w := by
  have hp : (0 : Int) < 2 ^ i := Int.pow_pos (by decide)
  rcases hb with rfl | rfl
  · rw [if_neg (by decide), Int.mul_zero, Int.add_zero]
  · rw [if_pos rfl, shl_far, Int.mul_emod, Int.emod_emod, ← Int.mul_emod, Int.mul_one, Int.mul_assoc, ← Int.pow_add]
    have e : (Y + 2 ^ i).toNat = Y.toNat + 2 ^ i := by
      have e0 : ((2 ^ i : Nat) : Int) = (2 : Int) ^ i := by
        rw [Int.natCast_pow]
        rfl
      rw [← e0]
      omega
    rw [e]
end My


set_option Elab.async false
set_option maxRecDepth 100000
set_option maxHeartbeats 4000000
set_option linter.all false
namespace My
open PySem L2 PyProof.Rows
open C8 (pss_cut)
/-- what a call that makes a word leaves; the word may be one that stood before -/
def ResV (P : Program) (w : World) (K : PySem.W.Frag) (C p G D : Addr) (gs : List Gt) (H : Hp) (m n : Nat) (φ : Bits → Int) (Q : VK) : Prop :=
  ∀ (H' : Hp) (gs' : List Gt) (r : Addr) (zs : List Int), PoolAt P w K H' C p G D gs' → But [G, D] H H' → gs <+: gs' → gs'.length ≤ gs.length + m → SqL K H' r (zs.map V.int) → r ∉ [G, D] → zs.length = n → (∀ z ∈ zs, okL gs' z) → (∀ env, bitEnv env → wv (bitsOf env gs') zs = φ env) → Q (.ref r) H'
def spShl (P : Program) (w : World) (K : PySem.W.Frag) (C : Addr) : Sp := fun vs H Q _ => ∃ (p G D x y : Addr) (gs : List Gt) (xs ys : List Int), vs = [.ref p, .ref x, .ref y] ∧ PoolAt P w K H C p G D gs ∧ SqL K H x (xs.map V.int) ∧ SqL K H y (ys.map V.int) ∧ x ∉ [G, D] ∧ y ∉ [G, D] ∧ xs.length ≤ 20 ∧ ys.length ≤ 20 ∧ (∀ z ∈ xs, okL gs z) ∧ (∀ z ∈ ys, okL gs z) ∧ gs.length + 400 ≤ 100000 ∧
  ResV P w K C p G D gs H 400 xs.length (fun env => (wv (bitsOf env gs) xs * 2 ^ (wv (bitsOf env gs) ys).toNat) % 2 ^ xs.length) Q
section
variable {P : Program} {w : World} {K : PySem.W.Frag} {mg : Str → Option Value} {base : Heap} {f C : Addr} {fd : FuncData}
theorem ok_shifted_left (T : Txt K mg) (PK : PlK K C) (C1 : ConI mg "NO" 0) (D : Def K mg "shifted_left" ["pool", "x", "y"] s_shifted_left f fd) (O1 : Own P w K mg base "chosen_word" ["pool", "c", "x", "y"] 5 (spChosenW P w K C)) : Own P w K mg base "shifted_left" ["pool", "x", "y"] 6 (spShl P w K C) := by
  obtain ⟨t_NO, c_NO⟩ := C1
  obtain ⟨fchosen_word, fdchosen_word, mchosen_word, kchosen_word, bchosen_word, Gchosen_word⟩ := O1
  refine ⟨f, fd, D.mg, D.fn.kp, D.bd, D.fn.ok sc_shifted_left (fun vs H Q E h => ?_) (fun cdv A outer s H vs Q E hr h => ?_)⟩
  · obtain ⟨p, G, D', x, y, gs, xs, ys, rfl, _⟩ := h
    rfl
  · obtain ⟨p, G, D', x, y, gs, xs, ys, rfl, A0, hx, hy, nx, ny, lx, ly, okx, oky, hl, q⟩ := h
    refine ⟨_, (pss_cons (ps_set (i := 3) sc_shifted_left.nd rfl (Or.inl rfl) (pe_callB call_len_seq (by rfl) T.m_len (by decide +kernel) (pa_cons (pv 1) pa_nil)))
      (pss_cons (ps_for PassesOwn.never rfl (pi_enum (by rfl) T.m_enumerate (pa_cons (pv 2) pa_nil)) (pg_tup (by rfl) (pgs_cons (pg_name (i := 4) sc_shifted_left.nd rfl (Or.inl rfl)) (pgs_cons (pg_name (i := 5) sc_shifted_left.nd rfl (Or.inl rfl)) pgs_nil))) (pss_cons (ps_set (i := 6) sc_shifted_left.nd rfl (Or.inl rfl) (pe_callB (call_min2 rfl) (by rfl) T.m_min (by decide +kernel) (pa_cons (pe_op op_shl pe_int (pv 4)) (pa_cons (pv 3) pa_nil))))
      (pss_one (ps_set (i := 1) sc_shifted_left.nd rfl (Or.inl rfl) (pe_call Gchosen_word (hr.mono (by omega)) rfl mchosen_word kchosen_word bchosen_word .nil pass0 (pa_cons (pv 0) (pa_cons (pv 5) (pa_cons (pe_op op_cat (pe_op op_rep (pe_lst (pa_cons (pe_glob (v := .int 0) (u := .int 0 t_NO) (by rfl) c_NO ⟨t_NO, rfl⟩) pa_nil)) (pv 6)) (pe_slice sl_list (pv 1) po_none (po_some (pe_op op_sub (pv 3) (pv 6))))) (pa_cons (pv 1) pa_nil)))))))))
      (pss_one (ps_ret (pv 1))))), ?_⟩
    have lxm : ((xs.map V.int).length : Int) = (xs.length : Int) := by rw [List.length_map]
    refine ⟨_, rfl, x, _, rfl, .inl hx, ?_⟩
    refine ⟨_, rfl, y, _, rfl, hy, for_it walk_enum (fun i σ' H' => ∃ (gs' : List Gt) (rk : Addr) (zs : List Int) (o4 o5 o6 : Option V), σ' = [some (.ref p), some (.ref rk), some (.ref y), some (.int ((xs.map V.int).length : Nat)), o4, o5, o6] ∧ PoolAt P w K H' C p G D' gs' ∧ But [G, D'] H H' ∧ gs <+: gs' ∧ gs'.length ≤ gs.length + 20 * i ∧ SqL K H' rk (zs.map V.int) ∧ rk ∉ [G, D'] ∧ zs.length = xs.length ∧ (∀ z ∈ zs, okL gs' z) ∧ ∀ env, bitEnv env → wv (bitsOf env gs') zs = (wv (bitsOf env gs) xs * 2 ^ (wv (bitsOf env gs) (ys.take i)).toNat) % 2 ^ xs.length) ⟨gs, x, xs, none, none, none, rfl, A0, .refl _ _, List.prefix_refl _, Nat.le_refl _, hx, nx, rfl, okx, fun env he => ?_⟩ (fun i σ' H' _ ⟨_, _, _, _, _, _, _, _, b, _⟩ => sql_but b ny hy) ?_ ?_⟩
    · have rg := wv_rng (bits_bit he gs) xs
      show _ = (wv (bitsOf env gs) xs * 2 ^ (0 : Int).toNat) % 2 ^ xs.length
      rw [show (2 : Int) ^ (0 : Int).toNat = 1 from rfl, Int.mul_one, Int.emod_eq_of_lt rg.1 rg.2]
    · rintro i _ σ' H1 _ hi ⟨gs1, rk, zs, o4, o5, o6, rfl, A1, b1, pg1, lg1, hrk, nrk, lz, okz, sem⟩ ⟨Tt, u, v, rfl, fT, rfl, e1, e2⟩
      cases e1
      obtain ⟨b, hb, rfl⟩ := get_int (show (ys.map V.int)[i]? = some v from e2)
      have sT := same_new fT (.tup [.int (i : Nat), .int b])
      have A1' := A1.same sT
      have okb := oky b (List.mem_of_getElem? hb)
      have hil := (List.getElem?_eq_some_iff.mp hb).1
      refine ⟨Tt, _, rfl, SqT.of upd_same, rfl, _, _, rfl, _, _, rfl, rfl, ?_⟩
      refine ⟨_, rfl, _, _, rfl, rfl, ⟨by omega, by omega, by decide⟩, _, rfl, _, _, rfl, ?_⟩
      obtain ⟨far, hfar⟩ : ∃ far : Nat, far = if xs.length < 2 ^ i then xs.length else 2 ^ i := ⟨_, rfl⟩
      have hfl : far ≤ xs.length := by rw [hfar]; split <;> omega
      have hmin : (if ((((xs.map V.int).length : Nat) : Int)) < 1 * 2 ^ ((i : Nat) : Int).toNat then (((xs.map V.int).length : Nat) : Int) else 1 * 2 ^ ((i : Nat) : Int).toNat) = (far : Int) := by
        have ep : (1 : Int) * 2 ^ ((i : Nat) : Int).toNat = ((2 ^ i : Nat) : Int) := by
          rw [show ((i : Nat) : Int).toNat = i by omega, Int.one_mul, Int.natCast_pow]
          rfl
        rw [ep, List.length_map, hfar]
        by_cases h : xs.length < 2 ^ i
        · rw [if_pos h, if_pos (by omega)]
        · rw [if_neg h, if_neg (by omega)]
      rw [hmin]
      refine ⟨_, rfl, _, rfl, by show 1 ≤ sizeLine; decide, fun l fl => ?_⟩
      refine ⟨_, rfl, l, far, [.int 0], rfl, rfl, upd_same, by omega, by omega, by show 1 * (far : Int).toNat ≤ sizeLine; exact Nat.le_trans (show _ ≤ 20 by omega) (by decide), fun l2 fl2 => ?_⟩
      have t1 := sT.trans (same_new fl (.lst [.int 0]))
      have t2 := t1.trans (same_new fl2 (.lst (List.replicate (far : Int).toNat [V.int 0]).flatten))
      refine ⟨_, rfl, _, rfl, _, rfl, _, _, rfl, rfl, _, rfl, rk, _, rfl, sql_mono t2 hrk, fun l3 fl3 => ?_⟩
      have ec : cutV (zs.map V.int) none (some (((((xs.map V.int).length : Nat) : Int)) - (far : Int))) = (zs.take (zs.length - far)).map V.int := by
        rw [show ((((xs.map V.int).length : Nat) : Int)) - (far : Int) = ((zs.length - far : Nat) : Int) by rw [List.length_map]; omega, cut_upto _ _ (by rw [List.length_map]; omega), List.map_take]
      have er : (List.replicate (far : Int).toNat [V.int 0]).flatten = (List.replicate far (0 : Int)).map V.int := by
        rw [show (far : Int).toNat = far by omega, rep_flat]
      have t3 := t2.trans (same_new fl3 (.lst (cutV (zs.map V.int) none (some (((((xs.map V.int).length : Nat) : Int)) - (far : Int))))))
      have hl2 := same_new fl3 (.lst (cutV (zs.map V.int) none (some (((((xs.map V.int).length : Nat) : Int)) - (far : Int))))) _ _ (upd_same : (upd _ l2 (.lst (List.replicate (far : Int).toNat [V.int 0]).flatten)) l2 = _)
      refine ⟨l2, l3, _, _, rfl, rfl, hl2, upd_same, ?_, fun l4 fl4 => ?_⟩
      · rw [er, ec, List.length_map, List.length_map, List.length_replicate, List.length_take]
        exact Nat.le_trans (show _ ≤ 100 by omega) (by decide)
      have t4 := t3.trans (same_new fl4 (.lst ((List.replicate (far : Int).toNat [V.int 0]).flatten ++ cutV (zs.map V.int) none (some (((((xs.map V.int).length : Nat) : Int)) - (far : Int))))))
      have A4 := A1.same t4
      have n4 : l4 ∉ [G, D'] := fun m => by
        have := (A1.same t3).mut l4 m
        rw [fl4] at this
        exact this
      have okno : ∀ {g : List Gt}, okGs g → okL g 0 := fun h => ⟨Int.le_refl _, by have := h.pos; omega⟩
      refine ⟨_, rfl, p, G, D', l4, rk, b, gs1, List.replicate far 0 ++ zs.take (zs.length - far), zs, rfl, A4, SqL.of (by rw [upd_same, er, ec, ← List.map_append]), sql_mono t4 hrk, n4, nrk, by rw [List.length_append, List.length_replicate, List.length_take]; omega, by rw [List.length_append, List.length_replicate, List.length_take]; omega, fun z hz => ?_, okz, okb.mono pg1, by rw [List.length_append, List.length_replicate, List.length_take]; omega, fun H5 gs5 r5 zs5 A5 b5 pg5 lg5 fr5 hr5 lz5 okz5 sem5 => ?_⟩
      · rcases List.mem_append.mp hz with h | h
        · rw [List.eq_of_mem_replicate h]; exact okno A1.ok
        · exact okz z (List.mem_of_mem_take h)
      have ll : (List.replicate far (0 : Int) ++ zs.take (zs.length - far)).length = xs.length := by rw [List.length_append, List.length_replicate, List.length_take]; omega
      rw [ll] at lg5 lz5
      have n5 : r5 ∉ [G, D'] := fun m => by
        have := A4.mut r5 m
        rw [fr5] at this
        exact this
      refine ⟨gs5, r5, zs5, _, _, _, rfl, A5, (b1.trans (.of_same t4)).trans b5, pg1.trans pg5, by omega, SqL.of hr5, n5, lz5, okz5, fun env he => ?_⟩
      rw [sem5 env he]
      show fC (litv (bitsOf env gs1) b) (wv (bitsOf env gs1) (List.replicate far 0 ++ zs.take (zs.length - far))) (wv (bitsOf env gs1) zs) = _
      rw [wv_shift A1.ok he (by omega), litv_pre okb pg1, sem env he, lz, hfar, wv_step hb]
      have hb2 := bits_bit he gs
      have rgY := wv_rng hb2 (ys.take i)
      exact shl_step rgY.1 (litv_bit hb2 b)
    · rintro σ' H1 ⟨gs1, rk, zs, o4, o5, o6, rfl, A1, b1, pg1, lg1, hrk, nrk, lz, okz, sem⟩
      rw [List.length_map] at lg1
      simp only [List.length_map, List.take_length] at sem
      exact ⟨_, rfl, q H1 gs1 rk zs A1 b1 pg1 (by omega) hrk nrk lz okz sem⟩
end
end My

set_option Elab.async false
set_option maxRecDepth 100000
namespace M00
open PySem PyProof.Rows

theorem nat_and_mask (a n : Nat) : a &&& (2 ^ n - 1) = a % 2 ^ n := Nat.and_two_pow_sub_one_eq_mod a n

/-- & with a mask is the rest, for ints of either sign -/
theorem and_mask (x : Int) (n : Nat) : Builtin.bitAnd x (2 ^ n - 1) = x % 2 ^ n := by
  have hp : (0 : Int) < 2 ^ n := by exact_mod_cast Nat.two_pow_pos n
  have hm : (0 : Int) ≤ 2 ^ n - 1 := by omega
  have hmt : ((2 : Int) ^ n - 1).toNat = 2 ^ n - 1 := by
    have h1 : ((2 : Int) ^ n) = ((2 ^ n : Nat) : Int) := by norm_cast
    rw [h1]
    have := Nat.two_pow_pos n
    omega
  by_cases hx : 0 ≤ x
  · rw [bitAnd_pp hx hm, hmt, nat_and_mask]
    have e : x = ((x.toNat : Nat) : Int) := by omega
    have h1 : ((2 : Int) ^ n) = ((2 ^ n : Nat) : Int) := by norm_cast
    rw [h1]
    conv => rhs; rw [e]
    norm_cast
  · rw [bitAnd_np hx hm, hmt, Nat.and_comm, nat_and_mask]
    have h1 : ((2 : Int) ^ n) = ((2 ^ n : Nat) : Int) := by norm_cast
    have hk : Builtin.bitNot x = -x - 1 := rfl
    rw [hk]
    generalize hN : 2 ^ n = N at *
    have hNp : 0 < N := by omega
    rw [h1]
    -- x = -(y) - 1, y natural
    obtain ⟨y, hy⟩ : ∃ y : Nat, -x - 1 = (y : Int) := ⟨(-x - 1).toNat, by omega⟩
    rw [hy, Int.toNat_natCast]
    have ex : x = -(y : Int) - 1 := by omega
    rw [ex]
    have hyd := Nat.div_add_mod y N
    have hyl := Nat.mod_lt y hNp
    have e2 : -(y : Int) - 1 = ((N : Int) - 1 - ((y % N : Nat) : Int)) + (N : Int) * (-((y / N : Nat) : Int) - 1) := by
      have : (y : Int) = (N : Int) * ((y / N : Nat) : Int) + ((y % N : Nat) : Int) := by exact_mod_cast hyd.symm
      rw [Int.mul_sub, Int.mul_neg]
      omega
    rw [e2, Int.add_mul_emod_self_left]
    rw [Int.emod_eq_of_lt (by omega) (by omega)]

theorem pow_pos' (n : Nat) : (0 : Int) < 2 ^ n := by exact_mod_cast Nat.two_pow_pos n
theorem pow_cast (n : Nat) : ((2 ^ n : Nat) : Int) = 2 ^ n := by norm_cast
theorem pow_lt (n : Nat) (h : n ≤ 16) : (2 : Int) ^ n ≤ 65536 := by
  have h2 : (2 : Nat) ^ n ≤ 2 ^ 16 := Nat.pow_le_pow_right (by decide) h
  have h3 := pow_cast n
  rw [← h3]
  exact Int.ofNat_le.mpr h2

/-- x ^ top = top - x -/
theorem xor_top (x : Int) (n : Nat) (h0 : 0 ≤ x) (h1 : x < 2 ^ n) : Builtin.bitXor x (2 ^ n - 1) = 2 ^ n - 1 - x := by
  unfold Builtin.bitXor
  rw [bitOr_and, and_mask, Int.emod_eq_of_lt h0 h1]
  omega

/-! ### the word that an op gives -/
def val (op : Str) (n : Nat) (x y : Int) : Int :=
  if op = "add" then (x + y) % 2 ^ n
  else if op = "sub" then (x - y) % 2 ^ n
  else if op = "mul" then (x * y) % 2 ^ n
  else if op = "and" then ((x.toNat &&& y.toNat : Nat) : Int)
  else if op = "or" then ((x.toNat ||| y.toNat : Nat) : Int)
  else if op = "xor" then ((x.toNat ^^^ y.toNat : Nat) : Int)
  else if op = "shl" then (if y < n then (x * 2 ^ y.toNat) % 2 ^ n else 0)
  else if op = "shr" then (if y < n then x / 2 ^ y.toNat else 0)
  else if op = "less" then (if x < y then 1 else 0)
  else if op = "equal" then (if x = y then 1 else 0)
  else if op = "not" then 2 ^ n - 1 - x
  else (0 - x) % 2 ^ n

/-! ### bits -/
theorem bit_nat (z k : Nat) : z % 2 ^ (k + 1) = z % 2 ^ k + (z / 2 ^ k % 2) * 2 ^ k := by
  rw [Nat.pow_succ, Nat.mod_mul]
  rw [Nat.mul_comm (2 ^ k)]
theorem land_bit (x y k : Nat) : (x &&& y) / 2 ^ k % 2 = (x / 2 ^ k % 2) * (y / 2 ^ k % 2) := by
  have h := Nat.testBit_and x y k
  simp only [Nat.testBit_eq_decide_div_mod_eq] at h
  have a1 := Nat.mod_two_eq_zero_or_one (x / 2 ^ k)
  have a2 := Nat.mod_two_eq_zero_or_one (y / 2 ^ k)
  have a3 := Nat.mod_two_eq_zero_or_one ((x &&& y) / 2 ^ k)
  rcases a1 with a1 | a1 <;> rcases a2 with a2 | a2 <;> rcases a3 with a3 | a3 <;> simp_all
theorem lor_bit (x y k : Nat) : (x ||| y) / 2 ^ k % 2 = max (x / 2 ^ k % 2) (y / 2 ^ k % 2) := by
  have h := Nat.testBit_or x y k
  simp only [Nat.testBit_eq_decide_div_mod_eq] at h
  have a1 := Nat.mod_two_eq_zero_or_one (x / 2 ^ k)
  have a2 := Nat.mod_two_eq_zero_or_one (y / 2 ^ k)
  have a3 := Nat.mod_two_eq_zero_or_one ((x ||| y) / 2 ^ k)
  rcases a1 with a1 | a1 <;> rcases a2 with a2 | a2 <;> rcases a3 with a3 | a3 <;> simp_all
theorem lxor_bit (x y k : Nat) : (x ^^^ y) / 2 ^ k % 2 = if x / 2 ^ k % 2 = y / 2 ^ k % 2 then 0 else 1 := by
  have h := Nat.testBit_xor x y k
  simp only [Nat.testBit_eq_decide_div_mod_eq] at h
  have a1 := Nat.mod_two_eq_zero_or_one (x / 2 ^ k)
  have a2 := Nat.mod_two_eq_zero_or_one (y / 2 ^ k)
  have a3 := Nat.mod_two_eq_zero_or_one ((x ^^^ y) / 2 ^ k)
  rcases a1 with a1 | a1 <;> rcases a2 with a2 | a2 <;> rcases a3 with a3 | a3 <;> simp_all

/-- one more bit of z below place k -/
theorem bit_step (z k : Nat) : ((z % 2 ^ k : Nat) : Int) + ((z / 2 ^ k % 2 : Nat) : Int) * (1 * 2 ^ k) = ((z % 2 ^ (k + 1) : Nat) : Int) := by
  rw [bit_nat, Int.one_mul]
  push_cast
  rfl
theorem fdiv_bit (x : Int) (h : 0 ≤ x) (k : Nat) : (x / (1 * 2 ^ k)) % 2 = ((x.toNat / 2 ^ k % 2 : Nat) : Int) := by
  have e : x = ((x.toNat : Nat) : Int) := by omega
  rw [Int.one_mul]
  conv => lhs; rw [e]
  norm_cast
theorem and_lt (x y n : Nat) (h : x < 2 ^ n) : x &&& y < 2 ^ n := Nat.lt_of_le_of_lt Nat.and_le_left h
theorem or_lt (x y n : Nat) (h : x < 2 ^ n) (h2 : y < 2 ^ n) : x ||| y < 2 ^ n := Nat.or_lt_two_pow h h2
theorem xor_lt (x y n : Nat) (h : x < 2 ^ n) (h2 : y < 2 ^ n) : x ^^^ y < 2 ^ n := Nat.xor_lt_two_pow h h2
/-- shifted as often as the smaller of y and n -/
theorem shl_plain (x y : Int) (n : Nat) (hy : 0 ≤ y) : (x * 2 ^ (min y (n : Int)).toNat) % 2 ^ n = if y < n then (x * 2 ^ y.toNat) % 2 ^ n else 0 := by
  by_cases h : y < n
  · rw [if_pos h]
    have : min y (n : Int) = y := by omega
    rw [this]
  · rw [if_neg h]
    have : min y (n : Int) = n := by omega
    rw [this, Int.toNat_natCast]
    exact Int.mul_emod_left _ _
theorem shr_plain (x y : Int) (n : Nat) (h0 : 0 ≤ x) (h1 : x < 2 ^ n) (hy : 0 ≤ y) : (x / 2 ^ (min y (n : Int)).toNat) % 2 ^ n = if y < n then x / 2 ^ y.toNat else 0 := by
  by_cases h : y < n
  · rw [if_pos h]
    have : min y (n : Int) = y := by omega
    rw [this]
    have hp := pow_pos' y.toNat
    refine Int.emod_eq_of_lt (Int.ediv_nonneg h0 (by omega)) ?_
    exact Int.lt_of_le_of_lt (Int.ediv_le_self _ h0) h1
  · rw [if_neg h]
    have : min y (n : Int) = n := by omega
    rw [this, Int.toNat_natCast, Int.ediv_eq_zero_of_lt h0 h1]
    rfl
theorem mul_step (x : Int) (k : Nat) : x * 2 ^ k * 2 = x * 2 ^ (k + 1) := by
  rw [Int.pow_succ, Int.mul_assoc]
theorem div_step (x : Int) (k : Nat) : x / 2 ^ k / 2 = x / 2 ^ (k + 1) := by
  rw [Int.pow_succ, Int.ediv_ediv_of_nonneg (Int.le_of_lt (pow_pos' k))]

section
variable (n : Nat) (x y : Int)
theorem val_add : val "add" n x y = (x + y) % 2 ^ n := by unfold val; rw [if_pos rfl]
theorem val_sub : val "sub" n x y = (x - y) % 2 ^ n := by unfold val; rw [if_neg (by decide +kernel), if_pos rfl]
theorem val_mul : val "mul" n x y = (x * y) % 2 ^ n := by unfold val; rw [if_neg (by decide +kernel), if_neg (by decide +kernel), if_pos rfl]
theorem val_and : val "and" n x y = ((x.toNat &&& y.toNat : Nat) : Int) := by unfold val; rw [if_neg (by decide +kernel), if_neg (by decide +kernel), if_neg (by decide +kernel), if_pos rfl]
theorem val_or : val "or" n x y = ((x.toNat ||| y.toNat : Nat) : Int) := by unfold val; rw [if_neg (by decide +kernel), if_neg (by decide +kernel), if_neg (by decide +kernel), if_neg (by decide +kernel), if_pos rfl]
theorem val_xor : val "xor" n x y = ((x.toNat ^^^ y.toNat : Nat) : Int) := by unfold val; rw [if_neg (by decide +kernel), if_neg (by decide +kernel), if_neg (by decide +kernel), if_neg (by decide +kernel), if_neg (by decide +kernel), if_pos rfl]
theorem val_shl : val "shl" n x y = if y < n then (x * 2 ^ y.toNat) % 2 ^ n else 0 := by unfold val; rw [if_neg (by decide +kernel), if_neg (by decide +kernel), if_neg (by decide +kernel), if_neg (by decide +kernel), if_neg (by decide +kernel), if_neg (by decide +kernel), if_pos rfl]
theorem val_shr : val "shr" n x y = if y < n then x / 2 ^ y.toNat else 0 := by unfold val; rw [if_neg (by decide +kernel), if_neg (by decide +kernel), if_neg (by decide +kernel), if_neg (by decide +kernel), if_neg (by decide +kernel), if_neg (by decide +kernel), if_neg (by decide +kernel), if_pos rfl]
theorem val_less : val "less" n x y = if x < y then 1 else 0 := by unfold val; rw [if_neg (by decide +kernel), if_neg (by decide +kernel), if_neg (by decide +kernel), if_neg (by decide +kernel), if_neg (by decide +kernel), if_neg (by decide +kernel), if_neg (by decide +kernel), if_neg (by decide +kernel), if_pos rfl]
theorem val_equal : val "equal" n x y = if x = y then 1 else 0 := by unfold val; rw [if_neg (by decide +kernel), if_neg (by decide +kernel), if_neg (by decide +kernel), if_neg (by decide +kernel), if_neg (by decide +kernel), if_neg (by decide +kernel), if_neg (by decide +kernel), if_neg (by decide +kernel), if_neg (by decide +kernel), if_pos rfl]
theorem val_not : val "not" n x y = 2 ^ n - 1 - x := by unfold val; rw [if_neg (by decide +kernel), if_neg (by decide +kernel), if_neg (by decide +kernel), if_neg (by decide +kernel), if_neg (by decide +kernel), if_neg (by decide +kernel), if_neg (by decide +kernel), if_neg (by decide +kernel), if_neg (by decide +kernel), if_neg (by decide +kernel), if_pos rfl]
theorem val_neg : val "neg" n x y = (0 - x) % 2 ^ n := by unfold val; rw [if_neg (by decide +kernel), if_neg (by decide +kernel), if_neg (by decide +kernel), if_neg (by decide +kernel), if_neg (by decide +kernel), if_neg (by decide +kernel), if_neg (by decide +kernel), if_neg (by decide +kernel), if_neg (by decide +kernel), if_neg (by decide +kernel), if_neg (by decide +kernel)]
end
def zz (op : Str) (x y : Int) : Nat := if op = "and" then x.toNat &&& y.toNat else if op = "or" then x.toNat ||| y.toNat else x.toNat ^^^ y.toNat
theorem zz_and (x y : Int) : zz "and" x y = x.toNat &&& y.toNat := if_pos rfl
theorem zz_or (x y : Int) : zz "or" x y = x.toNat ||| y.toNat := by unfold zz; rw [if_neg (by decide +kernel), if_pos rfl]
theorem zz_xor (x y : Int) : zz "xor" x y = x.toNat ^^^ y.toNat := by unfold zz; rw [if_neg (by decide +kernel), if_neg (by decide +kernel)]
theorem zz_val {op : Str} {n : Nat} {x y : Int} (h : op = "and" ∨ op = "or" ∨ op = "xor") (x0 : 0 ≤ x) (x1 : x < 2 ^ n) (y0 : 0 ≤ y) (y1 : y < 2 ^ n) : (((zz op x y % 2 ^ n : Nat) : Int)) % 2 ^ n = val op n x y := by
  have hx : x.toNat < 2 ^ n := by
    have := pow_cast n
    omega
  have hy : y.toNat < 2 ^ n := by
    have := pow_cast n
    omega
  have hz : zz op x y < 2 ^ n ∧ ((zz op x y : Nat) : Int) = val op n x y := by
    rcases h with h | h | h <;> subst h
    · rw [zz_and, val_and]; exact ⟨and_lt _ _ _ hx, rfl⟩
    · rw [zz_or, val_or]; exact ⟨or_lt _ _ _ hx hy, rfl⟩
    · rw [zz_xor, val_xor]; exact ⟨xor_lt _ _ _ hx hy, rfl⟩
  rw [Nat.mod_eq_of_lt hz.1, ← hz.2, ← pow_cast]
  exact Int.emod_eq_of_lt (by omega) (by exact_mod_cast hz.1)
theorem zz_bit_and (x y : Int) (i : Nat) : ((x.toNat / 2 ^ i % 2 : Nat) : Int) * ((y.toNat / 2 ^ i % 2 : Nat) : Int) = ((zz "and" x y / 2 ^ i % 2 : Nat) : Int) := by
  rw [zz_and, land_bit]
  norm_cast
theorem zz_bit_or (x y : Int) (i : Nat) : (if ((y.toNat / 2 ^ i % 2 : Nat) : Int) > ((x.toNat / 2 ^ i % 2 : Nat) : Int) then ((y.toNat / 2 ^ i % 2 : Nat) : Int) else ((x.toNat / 2 ^ i % 2 : Nat) : Int)) = ((zz "or" x y / 2 ^ i % 2 : Nat) : Int) := by
  rw [zz_or, lor_bit]
  generalize x.toNat / 2 ^ i % 2 = a
  generalize y.toNat / 2 ^ i % 2 = b
  by_cases h : (b : Int) > (a : Int)
  · rw [if_pos h, Nat.max_def, if_pos (by omega)]
  · rw [if_neg h, Nat.max_def]
    by_cases h2 : a ≤ b
    · rw [if_pos h2]
      omega
    · rw [if_neg h2]
theorem zz_bit_xor (x y : Int) (i : Nat) : (if ((x.toNat / 2 ^ i % 2 : Nat) : Int) = ((y.toNat / 2 ^ i % 2 : Nat) : Int) then 0 else 1 : Int) = ((zz "xor" x y / 2 ^ i % 2 : Nat) : Int) := by
  rw [zz_xor, lxor_bit]
  generalize x.toNat / 2 ^ i % 2 = a
  generalize y.toNat / 2 ^ i % 2 = b
  by_cases h : a = b
  · rw [if_pos (by omega), if_pos h]; rfl
  · rw [if_neg (by omega), if_neg h]; rfl
def ops : List Str := ["add", "sub", "mul", "and", "or", "xor", "shl", "shr", "less", "equal", "not", "neg"]
/-- what no other test has found is equal, is neg -/
theorem last_equal {op : Str} (h : op ∈ ops) (a : op ≠ "not") (b : op ≠ "neg") (c : op ≠ "add") (d : op ≠ "sub") (e : op ≠ "mul") (f : op ≠ "and") (g : op ≠ "or") (i : op ≠ "xor") (j : op ≠ "shl") (k : op ≠ "shr") (l : op ≠ "less") : op = "equal" := by
  simp only [ops, List.mem_cons, List.mem_nil_iff, or_false] at h
  rcases h with h | h | h | h | h | h | h | h | h | h | h | h <;> first | exact h | exact absurd h (by assumption)
theorem last_neg {op : Str} (h : op ∈ ops) (a : op ≠ "not") (b : op ≠ "equal") (c : op ≠ "add") (d : op ≠ "sub") (e : op ≠ "mul") (f : op ≠ "and") (g : op ≠ "or") (i : op ≠ "xor") (j : op ≠ "shl") (k : op ≠ "shr") (l : op ≠ "less") : op = "neg" := by
  simp only [ops, List.mem_cons, List.mem_nil_iff, or_false] at h
  rcases h with h | h | h | h | h | h | h | h | h | h | h | h <;> first | exact h | exact absurd h (by assumption)

/-- what min of two ints prints, as min -/
theorem min_if (a b : Int) : (if b < a then b else a) = min a b := by
  rw [Int.min_def]
  by_cases h : b < a
  · rw [if_pos h, if_neg (by omega)]
  · rw [if_neg h, if_pos (by omega)]
theorem small_mod {n : Nat} (h : 1 ≤ n) (c : Bool) : (if c = true then 1 else 0 : Int) % 2 ^ n = if c = true then 1 else 0 := by
  have h1 : (2 : Int) ^ 1 ≤ 2 ^ n := by
    have := Nat.pow_le_pow_right (n := 2) (by decide) h
    exact_mod_cast this
  have h2 : (2 : Int) ≤ 2 ^ n := h1
  cases c <;> simp
  exact Int.emod_eq_of_lt (by omega) (by omega)
end M00

set_option Elab.async false
set_option maxRecDepth 100000
set_option maxHeartbeats 4000000
set_option linter.all false
/-! Words of literals: what the ops give, pure. -/
namespace My
open PySem PySem.Spec PyProof.Rows L2
theorem wv_bit {bs : List Int} (h : ∀ b ∈ bs, b = 0 ∨ b = 1) {xs : List Int} {i : Nat} {x : Int} (hx : xs[i]? = some x) : litv bs x = (((wv bs xs).toNat / 2 ^ i % 2 : Nat) : Int) := by
  have hi := (List.getElem?_eq_some_iff.mp hx).1
  have hg : xs[i] = x := (List.getElem?_eq_some_iff.mp hx).2
  have e : xs = xs.take i ++ (x :: xs.drop (i + 1)) := by
    conv => lhs; rw [← List.take_append_drop i xs, List.drop_eq_getElem_cons hi, hg]
  have hl : (xs.take i).length = i := by rw [List.length_take]; omega
  have e2 : wv bs xs = wv bs (xs.take i) + 2 ^ i * (litv bs x + 2 * wv bs (xs.drop (i + 1))) := by
    conv => lhs; rw [e]
    rw [wv_app, hl]
    rfl
  have r1 := wv_rng h (xs.take i)
  rw [hl] at r1
  have r2 := wv_rng h (xs.drop (i + 1))
  have r3 := wv_rng h xs
  have lb := litv_bit h x
  have p : ((2 ^ i : Nat) : Int) = 2 ^ i := by rw [Int.natCast_pow]; rfl
  rw [Int.natCast_emod, Int.natCast_ediv, p, Int.toNat_of_nonneg r3.1, e2, Int.add_mul_ediv_left _ _ (by have := pow_p i; omega), Int.ediv_eq_zero_of_lt r1.1 r1.2, Int.zero_add]
  show _ = (litv bs x + 2 * wv bs (xs.drop (i + 1))) % 2
  omega
theorem wv_testBit {bs : List Int} (h : ∀ b ∈ bs, b = 0 ∨ b = 1) {xs : List Int} {i : Nat} {x : Int} (hx : xs[i]? = some x) : (wv bs xs).toNat.testBit i = decide (litv bs x = 1) := by
  rw [Nat.testBit_eq_decide_div_mod_eq, wv_bit h hx]
  by_cases e : (wv bs xs).toNat / 2 ^ i % 2 = 1
  · rw [decide_eq_true e, decide_eq_true (by omega)]
  · rw [decide_eq_false e, decide_eq_false (by omega)]
theorem wv_lt {bs : List Int} (h : ∀ b ∈ bs, b = 0 ∨ b = 1) (xs : List Int) : (wv bs xs).toNat < 2 ^ xs.length := by
  have r := wv_rng h xs
  have p : ((2 ^ xs.length : Nat) : Int) = 2 ^ xs.length := by rw [Int.natCast_pow]; rfl
  omega
theorem wv_far {bs : List Int} (h : ∀ b ∈ bs, b = 0 ∨ b = 1) {xs : List Int} {i : Nat} (hi : xs.length ≤ i) : (wv bs xs).toNat.testBit i = false :=
  Nat.testBit_lt_two_pow (Nat.lt_of_lt_of_le (wv_lt h xs) (Nat.pow_le_pow_right (by decide) hi))
/-- shifted left in the mirror is shifted right -/
theorem wv_shr {bs bs' : List Int} (h : ∀ b ∈ bs, b = 0 ∨ b = 1) (h' : ∀ b ∈ bs', b = 0 ∨ b = 1) {xs zs : List Int} {Y : Nat} (hl : zs.length = xs.length) (e : wv bs' zs = (wv bs xs.reverse * 2 ^ Y) % 2 ^ xs.length) : wv bs' zs.reverse = wv bs xs / 2 ^ Y := by
  have r1 := wv_rng h xs
  have r2 := wv_rng h' zs.reverse
  have r3 := wv_rng h xs.reverse
  have p : ∀ n : Nat, ((2 ^ n : Nat) : Int) = 2 ^ n := fun n => by rw [Int.natCast_pow]; rfl
  have eN : (wv bs' zs).toNat = ((wv bs xs.reverse).toNat <<< Y) % 2 ^ xs.length := by
    apply Int.ofNat.inj
    show (((wv bs' zs).toNat : Nat) : Int) = (((wv bs xs.reverse).toNat <<< Y % 2 ^ xs.length : Nat) : Int)
    rw [Nat.shiftLeft_eq, Int.natCast_emod, Int.natCast_mul, p, p, Int.toNat_of_nonneg r3.1, Int.toNat_of_nonneg (wv_rng h' zs).1, e]
  have key : (wv bs' zs.reverse).toNat = (wv bs xs).toNat >>> Y := by
    apply Nat.eq_of_testBit_eq
    intro i
    rw [Nat.testBit_shiftRight]
    by_cases hi : i < xs.length
    · have hz : zs.reverse[i]? = some zs[zs.length - 1 - i] := by
        rw [List.getElem?_reverse (by omega), List.getElem?_eq_getElem (by omega)]
      have hz2 : zs[zs.length - 1 - i]? = some zs[zs.length - 1 - i] := List.getElem?_eq_getElem (by omega)
      rw [wv_testBit h' hz, ← wv_testBit h' hz2, eN, Nat.testBit_mod_two_pow, Nat.testBit_shiftLeft]
      rw [decide_eq_true (show zs.length - 1 - i < xs.length by omega), Bool.true_and]
      by_cases hY : Y + i < xs.length
      · rw [decide_eq_true (show zs.length - 1 - i ≥ Y by omega), Bool.true_and]
        have hr : xs.reverse[zs.length - 1 - i - Y]? = some xs[Y + i] := by
          rw [List.getElem?_reverse (by omega), List.getElem?_eq_getElem (by omega)]
          congr 2
          omega
        rw [wv_testBit h hr, wv_testBit h (List.getElem?_eq_getElem hY)]
      · rw [wv_far h (xs := xs) (i := Y + i) (by omega), decide_eq_false (by omega), Bool.false_and]
    · rw [wv_far h' (by rw [List.length_reverse]; omega), wv_far h (by omega)]
  have : (((wv bs' zs.reverse).toNat : Nat) : Int) = (((wv bs xs).toNat >>> Y : Nat) : Int) := by rw [key]
  rw [Nat.shiftRight_eq_div_pow, Int.natCast_ediv, p, Int.toNat_of_nonneg r1.1, Int.toNat_of_nonneg r2.1] at this
  exact this
theorem shr_val {bs : List Int} (h : ∀ b ∈ bs, b = 0 ∨ b = 1) {xs : List Int} {Y : Int} (hY : 0 ≤ Y) : wv bs xs / 2 ^ Y.toNat = M00.val "shr" xs.length (wv bs xs) Y := by
  rw [M00.val_shr]
  by_cases c : Y < (xs.length : Int)
  · rw [if_pos c]
  · rw [if_neg c]
    have r := wv_rng h xs
    refine Int.ediv_eq_zero_of_lt r.1 (Int.lt_of_lt_of_le r.2 ?_)
    have p : ∀ n : Nat, ((2 ^ n : Nat) : Int) = 2 ^ n := fun n => by rw [Int.natCast_pow]; rfl
    rw [← p, ← p]
    exact Int.ofNat_le.mpr (Nat.pow_le_pow_right (by decide) (by omega))
theorem shl_val {A Y : Int} {w : Nat} (hY : 0 ≤ Y) : (A * 2 ^ Y.toNat) % 2 ^ w = M00.val "shl" w A Y := by
  rw [M00.val_shl]
  by_cases c : Y < (w : Int)
  · rw [if_pos c]
  · rw [if_neg c]
    have e : (2 : Int) ^ Y.toNat = 2 ^ w * 2 ^ (Y.toNat - w) := by rw [← Int.pow_add]; congr 1; omega
    rw [e, ← Int.mul_assoc, Int.mul_comm A, Int.mul_assoc, Int.mul_emod_right]
theorem mod_is {x m c : Int} (h : 0 ≤ x ∧ x < m) : x = (x + m * c) % m := by
  rw [Int.add_mul_emod_self_left, Int.emod_eq_of_lt h.1 h.2]
/-- one more row of a product -/
theorem mul_row {X Y b T : Int} {k w : Nat} (hk : k ≤ w) (eT : T = (X * Y) % 2 ^ w) (hT : 0 ≤ T ∧ T < 2 ^ w) : T % 2 ^ k + 2 ^ k * ((T / 2 ^ k + b * (X % 2 ^ (w - k))) % 2 ^ (w - k)) = (X * (Y + 2 ^ k * b)) % 2 ^ w := by
  have ew : (2 : Int) ^ w = 2 ^ k * 2 ^ (w - k) := by rw [← Int.pow_add]; congr 1; omega
  have pk := pow_p k
  have pd := pow_p (w - k)
  obtain ⟨u, hu⟩ : ∃ u, u = T / 2 ^ k + b * (X % 2 ^ (w - k)) := ⟨_, rfl⟩
  rw [← hu]
  have m1 := Int.emod_nonneg u (show (2 : Int) ^ (w - k) ≠ 0 by omega)
  have m2 := Int.emod_lt_of_pos u pd
  have m3 := Int.emod_nonneg T (show (2 : Int) ^ k ≠ 0 by omega)
  have m4 := Int.emod_lt_of_pos T pk
  have d1 := Int.emod_add_mul_ediv u (2 ^ (w - k))
  have d2 := Int.emod_add_mul_ediv T (2 ^ k)
  have d3 := Int.emod_add_mul_ediv X (2 ^ (w - k))
  have d4 := Int.emod_add_mul_ediv (X * Y) (2 ^ w)
  rw [← eT] at d4
  have rng : 0 ≤ T % 2 ^ k + 2 ^ k * (u % 2 ^ (w - k)) ∧ T % 2 ^ k + 2 ^ k * (u % 2 ^ (w - k)) < 2 ^ w := by
    have a := Int.mul_nonneg (Int.le_of_lt pk) m1
    have c : 2 ^ k * (u % 2 ^ (w - k)) ≤ 2 ^ k * (2 ^ (w - k) - 1) := Int.mul_le_mul_of_nonneg_left (by omega) (by omega)
    rw [Int.mul_sub, ← ew] at c
    omega
  have main : X * (Y + 2 ^ k * b) = (T % 2 ^ k + 2 ^ k * (u % 2 ^ (w - k))) + 2 ^ w * (X * Y / 2 ^ w + u / 2 ^ (w - k) + b * (X / 2 ^ (w - k))) := by
    generalize X * Y / 2 ^ w = q4 at *
    generalize u / 2 ^ (w - k) = q1 at *
    generalize X / 2 ^ (w - k) = q3 at *
    generalize X % 2 ^ (w - k) = r3 at *
    generalize u % 2 ^ (w - k) = r1 at *
    generalize T / 2 ^ k = q2 at *
    generalize T % 2 ^ k = r2 at *
    rw [ew] at d4 ⊢
    generalize (2 : Int) ^ k = P at *
    generalize (2 : Int) ^ (w - k) = R at *
    subst hu
    rw [Int.mul_add, ← d4, ← d2, ← d3]
    have e1 : r1 = q2 + b * r3 - R * q1 := by omega
    rw [e1]
    have : ∀ a c d e g i j : Int, True := fun _ _ _ _ _ _ _ => trivial
    simp only [Int.mul_add, Int.add_mul, Int.mul_sub, Int.sub_mul]
    have z1 : r3 * (P * b) = P * (b * r3) := by rw [Int.mul_comm r3, Int.mul_assoc]
    have z2 : R * q3 * (P * b) = P * R * (b * q3) := by
      rw [Int.mul_comm (R * q3), Int.mul_assoc, Int.mul_assoc, ← Int.mul_assoc b, Int.mul_comm b R, Int.mul_assoc]
    have z3 : P * (R * q1) = P * R * q1 := by rw [Int.mul_assoc]
    rw [z1, z2, z3]
    omega
  rw [main]
  exact mod_is rng
theorem wv_drop {bs : List Int} (h : ∀ b ∈ bs, b = 0 ∨ b = 1) (xs : List Int) {m : Nat} (hm : m ≤ xs.length) : wv bs (xs.drop m) = wv bs xs / 2 ^ m := by
  have e := wv_app bs (xs.take m) (xs.drop m)
  rw [List.take_append_drop, List.length_take, Nat.min_eq_left hm] at e
  have r := wv_rng h (xs.take m)
  rw [List.length_take, Nat.min_eq_left hm] at r
  rw [e, Int.add_mul_ediv_left _ _ (by have := pow_p m; omega), Int.ediv_eq_zero_of_lt r.1 r.2, Int.zero_add]
theorem wv_head {env : Bits} {gs : List Gt} (hk : okGs gs) (t : Int) (n : Nat) : wv (bitsOf env gs) (t :: List.replicate n 0) = litv (bitsOf env gs) t := by
  show litv _ t + 2 * wv _ (List.replicate n 0) = _
  rw [wv_no hk]
  omega
theorem cut_past (xs : List V) (k : Nat) (h : k ≤ xs.length) : cutV xs (some (k : Int)) none = xs.drop k := by
  unfold cutV
  rw [HT.sIx_nat, HT.sIx_none, Nat.min_eq_left h, List.take_of_length_le (by rw [List.length_drop]; exact Nat.le_refl _)]
end My


set_option Elab.async false
set_option maxRecDepth 100000
set_option maxHeartbeats 4000000
set_option linter.all false
namespace My
open PySem L2 PyProof.Rows
open C8 (pss_cut)
def spMul (P : Program) (w : World) (K : PySem.W.Frag) (C : Addr) : Sp := fun vs H Q _ => ∃ (p G D x y : Addr) (gs : List Gt) (xs ys : List Int), vs = [.ref p, .ref x, .ref y] ∧ PoolAt P w K H C p G D gs ∧ SqL K H x (xs.map V.int) ∧ SqL K H y (ys.map V.int) ∧ x ∉ [G, D] ∧ y ∉ [G, D] ∧ xs.length ≤ 20 ∧ ys.length = xs.length ∧ (∀ z ∈ xs, okL gs z) ∧ (∀ z ∈ ys, okL gs z) ∧ gs.length + 1600 ≤ 100000 ∧
  ResV P w K C p G D gs H 1600 xs.length (fun env => (wv (bitsOf env gs) xs * wv (bitsOf env gs) ys) % 2 ^ xs.length) Q
section
variable {P : Program} {w : World} {K : PySem.W.Frag} {mg : Str → Option Value} {base : Heap} {f C : Addr} {fd : FuncData}
theorem ok_multiplied (T : Txt K mg) (PK : PlK K C) (C1 : ConI mg "NO" 0) (D : Def K mg "multiplied" ["pool", "x", "y"] s_multiplied f fd) (O1 : OwnM P w K mg base C "both" ["self", "x", "y"] 2 (sp2 P w K C 1 fB)) (O2 : Own P w K mg base "added" ["pool", "x", "y", "carry"] 5 (spAdded P w K C)) : Own P w K mg base "multiplied" ["pool", "x", "y"] 6 (spMul P w K C) := by
  obtain ⟨t_NO, c_NO⟩ := C1
  obtain ⟨fboth, fdboth, Mboth, bboth, Gboth⟩ := O1
  obtain ⟨fadded, fdadded, madded, kadded, badded, Gadded⟩ := O2
  refine ⟨f, fd, D.mg, D.fn.kp, D.bd, D.fn.ok sc_multiplied (fun vs H Q E h => ?_) (fun cdv A outer s H vs Q E hr h => ?_)⟩
  · obtain ⟨p, G, D', x, y, gs, xs, ys, rfl, _⟩ := h
    rfl
  · obtain ⟨p, G, D', x0, y0, gs, xs0, ys0, rfl, A0, hx0, hy0, nx0, ny0, lx0, ly0, okx0, oky0, hl, q0⟩ := h
    refine ⟨_, (pss_cut (ps_if (pt_cmpR op_gt (pe_bm PySem.F.plainAttrs_list PySem.F.slot_list_count PySem.F.type_list_count mt_lcount (pv 1) (pa_cons (pe_glob (v := .int 0) (u := .int 0 t_NO) (by rfl) c_NO ⟨t_NO, rfl⟩) pa_nil)) (pe_bm PySem.F.plainAttrs_list PySem.F.slot_list_count PySem.F.type_list_count mt_lcount (pv 2) (pa_cons (pe_glob (v := .int 0) (u := .int 0 t_NO) (by rfl) c_NO ⟨t_NO, rfl⟩) pa_nil)) (nomark _)) (pss_one (ps_par (i := 1) (j := 2) rfl sc_multiplied.nd rfl rfl (by decide) rfl rfl (pa_cons (pv 2) (pa_cons (pv 1) pa_nil)) (by rfl))) pss_nil)
      (pss_cons (ps_set (i := 3) sc_multiplied.nd rfl (Or.inl rfl) (pe_op op_rep (pe_lst (pa_cons (pe_glob (v := .int 0) (u := .int 0 t_NO) (by rfl) c_NO ⟨t_NO, rfl⟩) pa_nil)) (pe_callB call_len_seq (by rfl) T.m_len (by decide +kernel) (pa_cons (pv 1) pa_nil))))
      (pss_cons (ps_for PassesOwn.never rfl (pi_enum (by rfl) T.m_enumerate (pa_cons (pv 2) pa_nil)) (pg_tup (by rfl) (pgs_cons (pg_name (i := 4) sc_multiplied.nd rfl (Or.inl rfl)) (pgs_cons (pg_name (i := 5) sc_multiplied.nd rfl (Or.inr rfl)) pgs_nil))) (pss_cons (ps_setLc (i := 6) (own := [("a", 7)]) (g := gName 7) (tt := tYes) rfl sc_multiplied.nd rfl rfl (sw_true rfl rfl rfl (by decide +kernel)) (pi_list (pe_slice sl_list (pv 1) po_none (po_some (pe_op op_sub (pe_callB call_len_seq (by rfl) T.m_len (by decide +kernel) (pa_cons (pv 1) pa_nil)) (pv 4))))) (blkOk_by (N := N_multiplied) (sc := defScope s_multiplied) (own := [("a", 7)]) (by decide +kernel)) (fun _ _ _ _ _ => (pg_name (i := 7) sc_multiplied.nd rfl (Or.inl rfl))) (fun _ _ _ _ _ => pts_nil) (fun _ _ _ _ _ => (pe_meth (pv 0) PK.cls Mboth Gboth (hr.mono (by omega)) bboth .nil pass0 (pa_cons (pv 5) (pa_cons (pv 7) pa_nil)))))
      (pss_one (ps_set (i := 3) sc_multiplied.nd rfl (Or.inl rfl) (pe_op op_cat (pe_slice sl_list (pv 3) po_none (po_some (pv 4))) (pe_call Gadded (hr.mono (by omega)) rfl madded kadded badded .nil pass0 (pa_cons (pv 0) (pa_cons (pe_slice sl_list (pv 3) (po_some (pv 4)) po_none) (pa_cons (pv 6) (pa_cons (pe_glob (v := .int 0) (u := .int 0 t_NO) (by rfl) c_NO ⟨t_NO, rfl⟩) pa_nil))))))))))
      (pss_one (ps_ret (pv 3)))))), ?_⟩
    refine ⟨fun σ' H' => H' = H ∧ ∃ (x y : Addr) (xs ys : List Int), σ' = [some (.ref p), some (.ref x), some (.ref y), none, none, none, none, none] ∧ SqL K H x (xs.map V.int) ∧ SqL K H y (ys.map V.int) ∧ x ∉ [G, D'] ∧ y ∉ [G, D'] ∧ xs.length ≤ 20 ∧ ys.length = xs.length ∧ (∀ z ∈ xs, okL gs z) ∧ (∀ z ∈ ys, okL gs z) ∧ ResV P w K C p G D' gs H 1600 xs.length (fun env => (wv (bitsOf env gs) xs * wv (bitsOf env gs) ys) % 2 ^ xs.length) Q, ?_, ?_⟩
    · refine ⟨_, rfl, .inl ⟨rfl, _, hx0⟩, x0, xs0, 0, rfl, rfl, hx0, _, rfl, .inl ⟨rfl, _, hy0⟩, y0, ys0, 0, rfl, rfl, hy0, _, _, rfl, rfl, _, rfl, ite2 (fun c => ?_) (fun c => ?_)⟩
      · refine ⟨_, rfl, _, rfl, _, _, rfl, rfl, y0, x0, ys0, xs0, rfl, hy0, hx0, ny0, nx0, by omega, by omega, oky0, okx0, fun H' gs' r zs k1 k2 k3 k4 k5 k6 k7 k8 k9 => q0 H' gs' r zs k1 k2 k3 k4 k5 k6 (by omega) k8 fun env he => ?_⟩
        rw [k9 env he, ly0]
        show (wv _ ys0 * wv _ xs0) % _ = (wv _ xs0 * wv _ ys0) % _
        rw [Int.mul_comm]
      · exact ⟨rfl, x0, y0, xs0, ys0, rfl, hx0, hy0, nx0, ny0, lx0, ly0, okx0, oky0, q0⟩
    · rintro σ' H' ⟨rfl, x, y, xs, ys, rfl, hx, hy, nx, ny, lx, ly, okx, oky, q⟩
      refine ⟨by show 1 ≤ sizeLine; decide, fun l fl => ?_⟩
      have s1 := same_new fl (.lst [.int 0])
      have lxm : ((xs.map V.int).length : Int) = (xs.length : Int) := by rw [List.length_map]
      refine ⟨_, rfl, x, _, rfl, .inl (sql_mono s1 hx), l, _, [.int 0], rfl, rfl, upd_same, by omega, by omega, by show 1 * ((xs.map V.int).length : Int).toNat ≤ sizeLine; exact Nat.le_trans (show _ ≤ 20 by omega) (by decide), fun l2 fl2 => ?_⟩
      have s2 := s1.trans (same_new fl2 (.lst (List.replicate ((xs.map V.int).length : Int).toNat [V.int 0]).flatten))
      have er : (List.replicate ((xs.map V.int).length : Int).toNat [V.int 0]).flatten = (List.replicate xs.length (0 : Int)).map V.int := by
        rw [show ((xs.map V.int).length : Int).toNat = xs.length by omega, rep_flat]
      have hl2 : (upd (upd H' l (.lst [.int 0])) l2 (.lst (List.replicate ((xs.map V.int).length : Int).toNat [V.int 0]).flatten)) l2 = some (.lst ((List.replicate xs.length (0 : Int)).map V.int)) := by rw [upd_same, er]
      have n2 : l2 ∉ [G, D'] := fun m => by
        have := (A0.same s1).mut l2 m
        rw [fl2] at this
        exact this
      have okno : ∀ {g : List Gt}, okGs g → okL g 0 := fun h => ⟨Int.le_refl _, by have := h.pos; omega⟩
      refine ⟨_, rfl, y, _, rfl, sql_mono s2 hy, for_it walk_enum (fun i σ' H'' => ∃ (gs' : List Gt) (rk : Addr) (zs : List Int) (o4 o5 o6 o7 : Option V), σ' = [some (.ref p), some (.ref x), some (.ref y), some (.ref rk), o4, o5, o6, o7] ∧ PoolAt P w K H'' C p G D' gs' ∧ But [G, D'] H' H'' ∧ gs <+: gs' ∧ gs'.length ≤ gs.length + 80 * i ∧ SqL K H'' rk (zs.map V.int) ∧ rk ∉ [G, D'] ∧ zs.length = xs.length ∧ (∀ z ∈ zs, okL gs' z) ∧ i ≤ ys.length ∧ ∀ env, bitEnv env → wv (bitsOf env gs') zs = (wv (bitsOf env gs) xs * wv (bitsOf env gs) (ys.take i)) % 2 ^ xs.length)
        ⟨gs, l2, _, none, none, none, none, rfl, A0.same s2, .of_same s2, List.prefix_refl _, Nat.le_refl _, SqL.of hl2, n2, by rw [List.length_replicate], fun z hz => by rw [List.eq_of_mem_replicate hz]; exact okno A0.ok, Nat.zero_le _, fun env he => ?_⟩ (fun i σ' H' _ ⟨_, _, _, _, _, _, _, _, _, b, _⟩ => sql_but b ny hy) ?_ ?_⟩
      · rw [wv_no A0.ok]
        show (0 : Int) = (_ * 0) % _
        rw [Int.mul_zero, Int.zero_emod]
      · rintro i _ σ' H1 _ hi ⟨gs1, rk, zs, o4, o5, o6, o7, rfl, A1, b1, pg1, lg1, hrk, nrk, lz, okz, hil0, sem⟩ ⟨Tt, u, v, rfl, fT, rfl, e1, e2⟩
        cases e1
        obtain ⟨b, hb, rfl⟩ := get_int (show (ys.map V.int)[i]? = some v from e2)
        have hil := (List.getElem?_eq_some_iff.mp hb).1
        have sT := same_new fT (.tup [.int (i : Nat), .int b])
        have okb := oky b (List.mem_of_getElem? hb)
        have hx1 := sql_but b1 nx hx
        refine ⟨Tt, _, rfl, SqT.of upd_same, rfl, _, _, rfl, _, _, rfl, rfl, ?_⟩
        have hxT := sql_mono sT hx1
        have A1' := A1.same sT
        refine ⟨_, rfl, _, rfl, x, _, rfl, .inl hxT, _, rfl, _, _, rfl, rfl, _, rfl, x, _, rfl, hxT, fun l3 fl3 => ?_⟩
        have ec : cutV (xs.map V.int) none (some ((((xs.map V.int).length : Nat) : Int) - ((i : Nat) : Int))) = (xs.take (xs.length - i)).map V.int := by
          rw [show ((((xs.map V.int).length : Nat) : Int)) - ((i : Nat) : Int) = ((xs.length - i : Nat) : Int) by rw [List.length_map]; omega, cut_upto _ _ (by rw [List.length_map]; omega), List.map_take]
        rw [ec]
        have s3 := sT.trans (same_new fl3 (.lst ((xs.take (xs.length - i)).map V.int)))
        have A3 := A1.same s3
        have lt3 : (xs.take (xs.length - i)).length = xs.length - i := by rw [List.length_take]; omega
        have n3 : l3 ∉ [G, D'] := fun m => by
          have := A1'.mut l3 m
          rw [fl3] at this
          exact this
        refine ⟨l3, rfl, ⟨_, SqL.of upd_same⟩, fun R fR => ?_⟩
        have nRG : R ∉ [G, D'] := fun m => by
          have := A3.mut R m
          rw [fR] at this
          exact this
        have nR : ∀ q0 o, (upd (upd H1 Tt (.tup [.int (i : Nat), .int b])) l3 (.lst ((xs.take (xs.length - i)).map V.int))) q0 = some o → q0 ≠ R := fun q0 o e => ne_of_none e fR
        have s0 := same_new fR (.lst [])
        refine lc_list (K := K) (a := l3) (xs := (xs.take (xs.length - i)).map V.int) (fun j H' => ∃ (gs' : List Gt) (rs : List Int), PoolAt P w K H' C p G D' gs' ∧ But [G, D'] (upd (upd H1 Tt (.tup [.int (i : Nat), .int b])) l3 (.lst ((xs.take (xs.length - i)).map V.int))) H' ∧ gs1 <+: gs' ∧ gs'.length ≤ gs1.length + j ∧ H' R = some (.lst (rs.map V.int)) ∧ rs.length = j ∧ (∀ z ∈ rs, okL gs' z) ∧ ∀ env, bitEnv env → wv (bitsOf env gs') rs = litv (bitsOf env gs) b * wv (bitsOf env gs) ((xs.take (xs.length - i)).take j)) ⟨gs1, [], A3.same s0, .of_same s0, List.prefix_refl _, Nat.le_refl _, upd_same, rfl, (fun z hz => nomatch hz), fun env he => by show (0 : Int) = _ * 0; rw [Int.mul_zero]⟩ (fun j H' _ ⟨_, _, _, b, _⟩ => sql_but b n3 (SqL.of upd_same)) ?_ ?_
        · rintro j u H2 hu ⟨gs2, rs, A2, b2, pg2, lg2, hR2, lr, okr, semr⟩
          obtain ⟨a, ha, rfl⟩ := get_int hu
          have hjl := (List.getElem?_eq_some_iff.mp ha).1
          have oka : okL gs a := okx a (List.mem_of_mem_take (List.mem_of_getElem? ha))
          obtain ⟨dx, ts, h1, _⟩ := A2.at_
          refine ⟨rfl, yesV ?_⟩
          rw [if_pos rfl]
          refine ⟨_, rfl, p, dx, _, rfl, h1, plFs_no _ _ (by decide +kernel) (by decide +kernel), _, rfl, _, rfl, p, G, D', gs2, _, _, rfl, A2, (okb.mono pg1).mono pg2, (oka.mono pg1).mono pg2, by omega, fun H4 gs4 r4 A4 b4 pg4 lg4 okr4 sem4 => ?_⟩
          have hR4 := b4 _ _ nRG hR2
          have mutR : ∀ a ∈ [R], Mut (H4 a) := fun a ha => by rw [List.mem_singleton.mp ha, hR4]; exact True.intro
          have bR : But [R] H4 (upd H4 R (.lst (rs.map V.int ++ [.int r4]))) := .put (.head _) _
          have nG1 : ∀ {b : Addr}, b ≠ R → b ∉ [R] := fun h m => h (List.mem_singleton.mp m)
          obtain ⟨dx3, ts3, hp3, hG3, _⟩ := A4.at_
          have npR : p ≠ R := ne_of hp3 hR4 (by intro z; cases z)
          have nGR : G ≠ R := fun e => nRG (by rw [← e]; exact .head _)
          have nDR : D' ≠ R := fun e => nRG (by rw [← e]; exact .tail _ (.head _))
          refine ⟨rs.map V.int, hR4, by rw [List.length_map, lr]; exact Nat.lt_of_lt_of_le (show j < 1000 by omega) (by decide), gs4, rs ++ [r4], A4.keep mutR bR (nG1 npR) (nG1 nGR) (nG1 nDR), fun z o n e => by rw [upd_ne (nR _ _ e)]; exact (b2.trans b4) _ _ n e, pg2.trans pg4, by omega, by rw [upd_same, List.map_append]; rfl, by rw [List.length_append, List.length_singleton, lr], fun z hz => ?_, fun env he => ?_⟩
          · rcases List.mem_append.mp hz with h | h
            · exact (okr z h).mono pg4
            · rw [List.mem_singleton.mp h]; exact okr4
          · rw [wv_snoc, lr, wv_pre pg4 okr, semr env he, sem4 env he]
            show _ + 2 ^ j * fB (litv (bitsOf env gs2) b) (litv (bitsOf env gs2) a) = _
            rw [litv_pre (okb.mono pg1) pg2, litv_pre okb pg1, litv_pre (oka.mono pg1) pg2, litv_pre oka pg1, wv_step ha, Int.mul_add, ← Int.mul_assoc, Int.mul_comm _ ((2 : Int) ^ j), Int.mul_assoc]
            have lb := litv_bit (bits_bit he gs) b
            have la := litv_bit (bits_bit he gs) a
            have : fB (litv (bitsOf env gs) b) (litv (bitsOf env gs) a) = litv (bitsOf env gs) b * litv (bitsOf env gs) a := by
              rcases lb with e | e <;> rcases la with e' | e' <;> rw [e, e'] <;> decide
            rw [this]
        · rintro H2 ⟨gs2, rs, A2, b2, pg2, lg2, hR2, lr, okr, semr⟩
          rw [List.length_map, lt3] at lg2 lr
          simp only [List.length_map, List.take_length] at semr
          have b02 : But [G, D'] H1 H2 := (But.of_same s3).trans b2
          have hrk2 := sql_but b02 nrk hrk
          refine ⟨_, rfl, _, rfl, _, rfl, rk, _, rfl, hrk2, fun l4 fl4 => ?_⟩
          have ec4 : cutV (zs.map V.int) none (some ((i : Nat) : Int)) = (zs.take i).map V.int := by rw [cut_upto _ _ (by rw [List.length_map]; omega), List.map_take]
          rw [ec4]
          have s4 := same_new fl4 (.lst ((zs.take i).map V.int))
          refine ⟨_, rfl, _, rfl, _, rfl, _, rfl, rk, _, rfl, sql_mono s4 hrk2, fun l5 fl5 => ?_⟩
          have ec5 : cutV (zs.map V.int) (some ((i : Nat) : Int)) none = (zs.drop i).map V.int := by rw [cut_past _ _ (by rw [List.length_map]; omega), List.map_drop]
          rw [ec5]
          have s5 := s4.trans (same_new fl5 (.lst ((zs.drop i).map V.int)))
          have A5 := A2.same s5
          have n4 : l4 ∉ [G, D'] := fun m => by
            have := A2.mut l4 m
            rw [fl4] at this
            exact this
          have n5 : l5 ∉ [G, D'] := fun m => by
            have := (A2.same s4).mut l5 m
            rw [fl5] at this
            exact this
          have ld : (zs.drop i).length = xs.length - i := by rw [List.length_drop, lz]
          refine ⟨_, rfl, p, G, D', l5, R, 0, gs2, zs.drop i, rs, rfl, A5, SqL.of upd_same, SqL.of (s5 _ _ hR2), n5, nRG, by rw [ld, lr], by omega, fun z hz => (okz z (List.mem_of_mem_drop hz)).mono pg2, okr, okno A2.ok, by omega, fun H6 gs6 r6 zs6 A6 b6 pg6 lg6 fr6 hr6 lz6 okz6 sem6 => ?_⟩
          have h46 := b6 _ _ n4 (same_new fl5 (.lst ((zs.drop i).map V.int)) _ _ (upd_same : (upd H2 l4 (.lst ((zs.take i).map V.int))) l4 = _))
          have n6 : r6 ∉ [G, D'] := fun m => by
            have := A5.mut r6 m
            rw [fr6] at this
            exact this
          refine ⟨l4, r6, _, _, rfl, rfl, h46, hr6, by rw [List.length_map, List.length_map, List.length_take, lz6]; exact Nat.le_trans (show _ ≤ 100 by omega) (by decide), fun l7 fl7 => ?_⟩
          have s7 := same_new fl7 (.lst ((zs.take i).map V.int ++ zs6.map V.int))
          have n7 : l7 ∉ [G, D'] := fun m => by
            have := A6.mut l7 m
            rw [fl7] at this
            exact this
          rw [ld] at lz6 lg6
          refine ⟨gs6, l7, zs.take i ++ zs6, _, _, _, _, rfl, A6.same s7, ((((b1.trans b02).trans (.of_same s5)).trans b6).trans (.of_same s7)), pg1.trans (pg2.trans pg6), by omega, SqL.of (by rw [upd_same, List.map_append]), n7, by rw [List.length_append, List.length_take, lz6]; omega, fun z hz => ?_, by omega, fun env he => ?_⟩
          · rcases List.mem_append.mp hz with h | h
            · exact (okz z (List.mem_of_mem_take h)).mono (pg2.trans pg6)
            · exact okz6 z h
          · have hb2 := bits_bit he gs
            have hb1 := bits_bit he gs1
            rw [wv_app, wv_pre (pg2.trans pg6) (fun z hz => okz z (List.mem_of_mem_take hz)), sem6 env he, List.length_take, Nat.min_eq_left (by omega)]
            show _ + 2 ^ i * ((wv (bitsOf env gs2) (zs.drop i) + wv (bitsOf env gs2) rs + litv (bitsOf env gs2) 0) % 2 ^ (zs.drop i).length) = _
            rw [wv_pre pg2 (fun z hz => okz z (List.mem_of_mem_drop hz)), semr env he, litv_no A2.ok, Int.add_zero, ld, wv_take hb1 zs (by omega), wv_drop hb1 zs (by omega), wv_take hb2 xs (Nat.sub_le _ _), wv_step hb]
            have rz := wv_rng hb1 zs
            rw [lz] at rz
            exact mul_row (by omega) (sem env he) rz
      · rintro σ' H1 ⟨gs1, rk, zs, o4, o5, o6, o7, rfl, A1, b1, pg1, lg1, hrk, nrk, lz, okz, hil0, sem⟩
        simp only [List.length_map, List.take_length] at sem lg1
        exact ⟨_, rfl, q H1 gs1 rk zs A1 b1 pg1 (by omega) hrk nrk lz okz sem⟩
end
end My


set_option Elab.async false
set_option maxRecDepth 100000
set_option maxHeartbeats 4000000
set_option linter.all false
namespace My
open PySem L2 PyProof.Rows
open C8 (pss_cut)
/-- what a bit of a bitwise op is -/
def fN (op : Str) : Int → Int → Int := if op = "and" then fB else if op = "or" then fE else fU
theorem fN_and : fN "and" = fB := if_pos rfl
theorem fN_or : fN "or" = fE := by unfold fN; rw [if_neg (by decide +kernel), if_pos rfl]
theorem fN_xor : fN "xor" = fU := by unfold fN; rw [if_neg (by decide +kernel), if_neg (by decide +kernel)]
theorem fN_zz {op : Str} (h : op = "and" ∨ op = "or" ∨ op = "xor") {a b : Nat} {A B : Int} {i : Nat} (eA : a = A.toNat / 2 ^ i % 2) (eB : b = B.toNat / 2 ^ i % 2) : fN op (a : Int) (b : Int) = ((M00.zz op A B / 2 ^ i % 2 : Nat) : Int) := by
  have ha : a = 0 ∨ a = 1 := by omega
  have hb : b = 0 ∨ b = 1 := by omega
  rcases h with h | h | h <;> subst h
  · rw [← M00.zz_bit_and, ← eA, ← eB, fN_and]
    rcases ha with e | e <;> rcases hb with e' | e' <;> rw [e, e'] <;> decide +kernel
  · rw [← M00.zz_bit_or, ← eA, ← eB, fN_or]
    rcases ha with e | e <;> rcases hb with e' | e' <;> rw [e, e'] <;> decide +kernel
  · rw [← M00.zz_bit_xor, ← eA, ← eB, fN_xor]
    rcases ha with e | e <;> rcases hb with e' | e' <;> rw [e, e'] <;> decide +kernel
def spComputed (P : Program) (w : World) (K : PySem.W.Frag) (C : Addr) : Sp := fun vs H Q _ => ∃ (p G D x y : Addr) (op : Str) (gs : List Gt) (xs ys : List Int), vs = [.ref p, .str op, .ref x, .ref y] ∧ PoolAt P w K H C p G D gs ∧ SqL K H x (xs.map V.int) ∧ SqL K H y (ys.map V.int) ∧ x ∉ [G, D] ∧ y ∉ [G, D] ∧ 1 ≤ xs.length ∧ xs.length ≤ 16 ∧ ys.length = xs.length ∧ (∀ z ∈ xs, okL gs z) ∧ (∀ z ∈ ys, okL gs z) ∧ op ∈ M00.ops ∧ op ≠ "not" ∧ op ≠ "neg" ∧ gs.length + 1600 ≤ 100000 ∧
  ResV P w K C p G D gs H 1600 xs.length (fun env => M00.val op xs.length (wv (bitsOf env gs) xs) (wv (bitsOf env gs) ys)) Q
section
variable {P : Program} {w : World} {K : PySem.W.Frag} {mg : Str → Option Value} {base : Heap} {f C : Addr} {fd : FuncData}
theorem streqC {a b : Str} (h : decide (V.str a = V.str b) = true) : a = b := by
  have := of_decide_eq_true h
  injection this
theorem strneC {a b : Str} (h : ¬ decide (V.str a = V.str b) = true) : a ≠ b := fun e => h (by rw [e]; exact decide_eq_true rfl)
theorem ok_computedW (T : Txt K mg) (PK : PlK K C) (C1 : ConI mg "NO" 0) (C2 : ConI mg "YES" 1) (D : Def K mg "computed" ["pool", "op", "x", "y"] s_computed f fd)
    (O1 : OwnM P w K mg base C "both" ["self", "x", "y"] 2 (sp2 P w K C 1 fB)) (O2 : OwnM P w K mg base C "either" ["self", "x", "y"] 3 (sp2 P w K C 1 fE)) (O3 : OwnM P w K mg base C "unlike" ["self", "x", "y"] 2 (sp2 P w K C 1 fU))
    (O4 : Own P w K mg base "added" ["pool", "x", "y", "carry"] 5 (spAdded P w K C)) (O5 : Own P w K mg base "turned" ["x"] 1 (spTurned K)) (O6 : Own P w K mg base "multiplied" ["pool", "x", "y"] 6 (spMul P w K C)) (O7 : Own P w K mg base "shifted_left" ["pool", "x", "y"] 6 (spShl P w K C))
    (O8 : Own P w K mg base "less_word" ["pool", "x", "y"] 5 (spW2 P w K C (fun n => n) (fun A B => if A < B then 1 else 0))) (O9 : Own P w K mg base "equal_word" ["pool", "x", "y"] 5 (spW2 P w K C (fun n => 2 * n) (fun A B => if A = B then 1 else 0))) : Own P w K mg base "computed" ["pool", "op", "x", "y"] 7 (spComputed P w K C) := by
  obtain ⟨t_NO, c_NO⟩ := C1
  obtain ⟨t_YES, c_YES⟩ := C2
  obtain ⟨fboth, fdboth, Mboth, bboth, Gboth⟩ := O1
  obtain ⟨feither, fdeither, Meither, beither, Geither⟩ := O2
  obtain ⟨funlike, fdunlike, Munlike, bunlike, Gunlike⟩ := O3
  obtain ⟨fadded, fdadded, madded, kadded, badded, Gadded⟩ := O4
  obtain ⟨fturned, fdturned, mturned, kturned, bturned, Gturned⟩ := O5
  obtain ⟨fmultiplied, fdmultiplied, mmultiplied, kmultiplied, bmultiplied, Gmultiplied⟩ := O6
  obtain ⟨fshifted_left, fdshifted_left, mshifted_left, kshifted_left, bshifted_left, Gshifted_left⟩ := O7
  obtain ⟨fless_word, fdless_word, mless_word, kless_word, bless_word, Gless_word⟩ := O8
  obtain ⟨fequal_word, fdequal_word, mequal_word, kequal_word, bequal_word, Gequal_word⟩ := O9
  refine ⟨f, fd, D.mg, D.fn.kp, D.bd, D.fn.ok sc_computed (fun vs H Q E h => ?_) (fun cdv A outer s H vs Q E hr h => ?_)⟩
  · obtain ⟨p, G, D', x, y, op, gs, xs, ys, rfl, _⟩ := h
    rfl
  · obtain ⟨p, G, D', x, y, op, gs, xs, ys, rfl, A0, hx, hy, nx, ny, n1, n2, ly, okx, oky, hop, hnot, hneg, hl, q⟩ := h
    have okno : ∀ {g : List Gt}, okGs g → okL g 0 := fun h => ⟨Int.le_refl _, by have := h.pos; omega⟩
    have okyes : ∀ {g : List Gt}, okGs g → okL g 1 := fun h => ⟨by decide, by have := h.pos; omega⟩
    have fresh : ∀ {Hx gx r}, PoolAt P w K Hx C p G D' gx → Hx r = none → r ∉ [G, D'] := fun Ax e m => by
      have := Ax.mut _ m
      rw [e] at this
      exact this
    -- the bitwise ops
    have zipq : ∀ (fn : Int → Int → Int) (R : Addr) (H2 : Hp) (gs2 : List Gt) (zs : List Int), fn = fN op → (op = "and" ∨ op = "or" ∨ op = "xor") → PoolAt P w K H2 C p G D' gs2 → But [G, D'] H H2 → gs <+: gs2 → gs2.length ≤ gs.length + xs.length → H R = none → H2 R = some (.lst (zs.map V.int)) → zs.length = xs.length → (∀ z ∈ zs, okL gs2 z) →
        (∀ env, bitEnv env → wv (bitsOf env gs2) zs = ((M00.zz op (wv (bitsOf env gs) xs) (wv (bitsOf env gs) ys) % 2 ^ xs.length : Nat) : Int)) → Q (.ref R) H2 := fun fn R H2 gs2 zs _ hop3 A2 b2 pg2 lg2 fR hR2 lz okz sem => by
      refine q H2 gs2 R zs A2 b2 pg2 (by omega) (SqL.of hR2) (fresh A0 fR) lz okz fun env he => ?_
      have rx := wv_rng (bits_bit he gs) xs
      have ry := wv_rng (bits_bit he gs) ys
      rw [ly] at ry
      have e := M00.zz_val hop3 rx.1 rx.2 ry.1 ry.2
      have rz := wv_rng (bits_bit he gs2) zs
      rw [lz] at rz
      rw [← sem env he, Int.emod_eq_of_lt rz.1 rz.2] at e
      exact e
    refine ⟨_, (pss_cons (ps_if (pt_cmpR op_eq (pv 1) pe_str (nomark _)) (pss_one (ps_ret (pe_call Gadded (hr.mono (by omega)) rfl madded kadded badded .nil pass0 (pa_cons (pv 0) (pa_cons (pv 2) (pa_cons (pv 3) (pa_cons (pe_glob (v := .int 0) (u := .int 0 t_NO) (by rfl) c_NO ⟨t_NO, rfl⟩) pa_nil))))))) pss_nil)
      (pss_cons (ps_if (pt_cmpR op_eq (pv 1) pe_str (nomark _)) (pss_one (ps_ret (pe_call Gadded (hr.mono (by omega)) rfl madded kadded badded .nil pass0 (pa_cons (pv 0) (pa_cons (pv 2) (pa_cons (pe_call Gturned (hr.mono (by omega)) rfl mturned kturned bturned .nil pass0 (pa_cons (pv 3) pa_nil)) (pa_cons (pe_glob (v := .int 1) (u := .int 1 t_YES) (by rfl) c_YES ⟨t_YES, rfl⟩) pa_nil))))))) pss_nil)
      (pss_cons (ps_if (pt_cmpR op_eq (pv 1) pe_str (nomark _)) (pss_one (ps_ret (pe_call Gmultiplied (hr.mono (by omega)) rfl mmultiplied kmultiplied bmultiplied .nil pass0 (pa_cons (pv 0) (pa_cons (pv 2) (pa_cons (pv 3) pa_nil)))))) pss_nil)
      (pss_cons (ps_if (pt_cmpR op_eq (pv 1) pe_str (nomark _)) (pss_one (ps_ret (pe_lc (own := [("a", 5), ("b", 6)]) (g := gTup K 2 (gCons (gName 5) (gCons (gName 6) gNil))) (tt := tYes) rfl sc_computed.nd (pi_zip (by rfl) T.m_zip (pa_cons (pv 2) (pa_cons (pv 3) pa_nil))) (blkOk_by (N := N_computed) (sc := defScope s_computed) (own := [("a", 5), ("b", 6)]) (by decide +kernel)) (fun _ _ _ _ _ => (pg_tup (by rfl) (pgs_cons (pg_name (i := 5) sc_computed.nd rfl (Or.inl rfl)) (pgs_cons (pg_name (i := 6) sc_computed.nd rfl (Or.inl rfl)) pgs_nil)))) (fun _ _ _ _ _ => pts_nil) (fun _ _ _ _ _ => (pe_meth (pv 0) PK.cls Mboth Gboth (hr.mono (by omega)) bboth .nil pass0 (pa_cons (pv 5) (pa_cons (pv 6) pa_nil))))))) pss_nil)
      (pss_cons (ps_if (pt_cmpR op_eq (pv 1) pe_str (nomark _)) (pss_one (ps_ret (pe_lc (own := [("a", 5), ("b", 6)]) (g := gTup K 2 (gCons (gName 5) (gCons (gName 6) gNil))) (tt := tYes) rfl sc_computed.nd (pi_zip (by rfl) T.m_zip (pa_cons (pv 2) (pa_cons (pv 3) pa_nil))) (blkOk_by (N := N_computed) (sc := defScope s_computed) (own := [("a", 5), ("b", 6)]) (by decide +kernel)) (fun _ _ _ _ _ => (pg_tup (by rfl) (pgs_cons (pg_name (i := 5) sc_computed.nd rfl (Or.inl rfl)) (pgs_cons (pg_name (i := 6) sc_computed.nd rfl (Or.inl rfl)) pgs_nil)))) (fun _ _ _ _ _ => pts_nil) (fun _ _ _ _ _ => (pe_meth (pv 0) PK.cls Meither Geither (hr.mono (by omega)) beither .nil pass0 (pa_cons (pv 5) (pa_cons (pv 6) pa_nil))))))) pss_nil)
      (pss_cons (ps_if (pt_cmpR op_eq (pv 1) pe_str (nomark _)) (pss_one (ps_ret (pe_lc (own := [("a", 5), ("b", 6)]) (g := gTup K 2 (gCons (gName 5) (gCons (gName 6) gNil))) (tt := tYes) rfl sc_computed.nd (pi_zip (by rfl) T.m_zip (pa_cons (pv 2) (pa_cons (pv 3) pa_nil))) (blkOk_by (N := N_computed) (sc := defScope s_computed) (own := [("a", 5), ("b", 6)]) (by decide +kernel)) (fun _ _ _ _ _ => (pg_tup (by rfl) (pgs_cons (pg_name (i := 5) sc_computed.nd rfl (Or.inl rfl)) (pgs_cons (pg_name (i := 6) sc_computed.nd rfl (Or.inl rfl)) pgs_nil)))) (fun _ _ _ _ _ => pts_nil) (fun _ _ _ _ _ => (pe_meth (pv 0) PK.cls Munlike Gunlike (hr.mono (by omega)) bunlike .nil pass0 (pa_cons (pv 5) (pa_cons (pv 6) pa_nil))))))) pss_nil)
      (pss_cons (ps_if (pt_cmpR op_eq (pv 1) pe_str (nomark _)) (pss_one (ps_ret (pe_call Gshifted_left (hr.mono (by omega)) rfl mshifted_left kshifted_left bshifted_left .nil pass0 (pa_cons (pv 0) (pa_cons (pv 2) (pa_cons (pv 3) pa_nil)))))) pss_nil)
      (pss_cons (ps_if (pt_cmpR op_eq (pv 1) pe_str (nomark _)) (pss_one (ps_ret (pe_revL (pe_call Gshifted_left (hr.mono (by omega)) rfl mshifted_left kshifted_left bshifted_left .nil pass0 (pa_cons (pv 0) (pa_cons (pe_revL (pv 2)) (pa_cons (pv 3) pa_nil))))))) pss_nil)
      (pss_cons (ps_set (i := 4) sc_computed.nd rfl (Or.inl rfl) (pe_cut (pe_ifExp (pt_cmpR op_eq (pv 1) pe_str (nomark _)) (pe_call Gless_word (hr.mono (by omega)) rfl mless_word kless_word bless_word .nil pass0 (pa_cons (pv 0) (pa_cons (pv 2) (pa_cons (pv 3) pa_nil)))) (pe_call Gequal_word (hr.mono (by omega)) rfl mequal_word kequal_word bequal_word .nil pass0 (pa_cons (pv 0) (pa_cons (pv 2) (pa_cons (pv 3) pa_nil)))))))
      (pss_one (ps_ret (pe_op op_cat (pe_lst (pa_cons (pv 4) pa_nil)) (pe_op op_rep (pe_lst (pa_cons (pe_glob (v := .int 0) (u := .int 0 t_NO) (by rfl) c_NO ⟨t_NO, rfl⟩) pa_nil)) (pe_op op_sub (pe_callB call_len_seq (by rfl) T.m_len (by decide +kernel) (pa_cons (pv 2) pa_nil)) pe_int)))))))))))))), ?_⟩
    -- add
    refine ⟨_, rfl, rfl, _, rfl, ite2 (fun c => ?_) (fun d1 => ?_)⟩
    · have eo := streqC c
      refine ⟨_, rfl, _, rfl, _, rfl, p, G, D', x, y, 0, gs, xs, ys, rfl, A0, hx, hy, nx, ny, ly.symm, by omega, okx, oky, okno A0.ok, by omega, fun H' gs' r zs k1 k2 k3 k4 k5 k6 k7 k8 k9 => q H' gs' r zs k1 k2 k3 (by omega) (SqL.of k6) (fresh A0 k5) k7 k8 fun env he => ?_⟩
      rw [k9 env he, eo]
      dsimp only
      rw [M00.val_add]
      show (_ + _ + litv (bitsOf env gs) 0) % _ = _
      rw [litv_no A0.ok, Int.add_zero]
    -- sub
    refine ⟨_, rfl, rfl, _, rfl, ite2 (fun c => ?_) (fun d2 => ?_)⟩
    · have eo := streqC c
      refine ⟨_, rfl, _, rfl, _, rfl, y, ys, rfl, hy, by omega, fun H1 r1 s1 f1 h1 => ?_⟩
      have A1 := A0.same s1
      have okt : ∀ z ∈ ys.map x1, okL gs z := fun z hz => by
        obtain ⟨u, hu, rfl⟩ := List.mem_map.mp hz
        exact okL_xor1 (oky u hu)
      refine ⟨p, G, D', x, r1, 1, gs, xs, ys.map x1, rfl, A1, sql_mono s1 hx, SqL.of h1, nx, fresh A0 f1, by rw [List.length_map, ly], by omega, okx, okt, okyes A0.ok, by omega, fun H' gs' r zs k1 k2 k3 k4 k5 k6 k7 k8 k9 => q H' gs' r zs k1 ((But.of_same s1).trans k2) k3 (by omega) (SqL.of k6) (fresh A1 k5) k7 k8 fun env he => ?_⟩
      rw [k9 env he, eo]
      dsimp only
      rw [M00.val_sub]
      show (wv _ xs + wv _ (ys.map x1) + litv (bitsOf env gs) 1) % _ = _
      rw [litv_yes A0.ok, wv_x1 (fun z hz => (oky z hz).1), ly]
      rw [show wv (bitsOf env gs) xs + (2 ^ xs.length - 1 - wv (bitsOf env gs) ys) + 1 = wv (bitsOf env gs) xs - wv (bitsOf env gs) ys + 2 ^ xs.length * 1 by omega, Int.add_mul_emod_self_left]
    -- mul
    refine ⟨_, rfl, rfl, _, rfl, ite2 (fun c => ?_) (fun d3 => ?_)⟩
    · have eo := streqC c
      refine ⟨_, rfl, _, rfl, _, rfl, p, G, D', x, y, gs, xs, ys, rfl, A0, hx, hy, nx, ny, by omega, ly, okx, oky, hl, fun H' gs' r zs k1 k2 k3 k4 k5 k6 k7 k8 k9 => q H' gs' r zs k1 k2 k3 k4 k5 k6 k7 k8 fun env he => ?_⟩
      rw [k9 env he, eo]
      dsimp only
      rw [M00.val_mul]
    -- and
    refine ⟨_, rfl, rfl, _, rfl, ite2 (fun c => ?_) (fun d4 => ?_)⟩
    · have eo := streqC c
      have hop3 : op = "and" ∨ op = "or" ∨ op = "xor" := by rw [eo]; simp
      refine ⟨_, rfl, _, rfl, x, y, _, _, rfl, hx, hy, fun R fR => ?_⟩
      have s0 := same_new fR (.lst [])
      have nR : ∀ b o, H b = some o → b ≠ R := fun b o e => ne_of_none e fR
      have nRG : R ∉ [G, D'] := fresh A0 fR
      refine lc_zipL (K := K) (xs := xs.map V.int) (ys := ys.map V.int) (by rw [List.length_map, List.length_map, ly]) (fun i H' => ∃ (gs' : List Gt) (zs : List Int), PoolAt P w K H' C p G D' gs' ∧ But [G, D'] H H' ∧ gs <+: gs' ∧ gs'.length ≤ gs.length + i ∧ H' R = some (.lst (zs.map V.int)) ∧ zs.length = i ∧ (∀ z ∈ zs, okL gs' z) ∧ ∀ env, bitEnv env → wv (bitsOf env gs') zs = ((M00.zz op (wv (bitsOf env gs) xs) (wv (bitsOf env gs) ys) % 2 ^ i : Nat) : Int)) ⟨gs, [], A0.same s0, .of_same s0, List.prefix_refl _, Nat.le_refl _, upd_same, rfl, (fun z hz => nomatch hz), fun env he => by show (0 : Int) = ((_ % 2 ^ 0 : Nat) : Int); rw [Nat.pow_zero, Nat.mod_one]; rfl⟩ (fun i H' ⟨_, _, _, b, _⟩ => ⟨sql_but b nx hx, sql_but b ny hy⟩) ?_ ?_
      · rintro i u v Tt H1 hu hv ⟨gs1, zs, A1, b1, pg1, lg1, hR1, lz, okz, sem⟩ fT
        obtain ⟨a, ha, rfl⟩ := get_int hu
        obtain ⟨b, hb, rfl⟩ := get_int hv
        have sT := same_new fT (.tup [.int a, .int b])
        have A1' := A1.same sT
        obtain ⟨dx, ts, h1, _⟩ := A1'.at_
        have oka := okx a (List.mem_of_getElem? ha)
        have okb := oky b (List.mem_of_getElem? hb)
        have hil := (List.getElem?_eq_some_iff.mp ha).1
        refine ⟨Tt, _, rfl, SqT.of upd_same, rfl, _, _, rfl, _, _, rfl, rfl, rfl, yesV ?_⟩
        rw [if_pos rfl]
        refine ⟨_, rfl, p, dx, _, rfl, h1, plFs_no _ _ (by decide +kernel) (by decide +kernel), _, rfl, _, rfl, p, G, D', gs1, _, _, rfl, A1', oka.mono pg1, okb.mono pg1, by omega, fun H2 gs2 r2 A2 b2 pg2 lg2 okr2 sem2 => ?_⟩
        have hR2 := b2 _ _ nRG (sT _ _ hR1)
        have mutR : ∀ a ∈ [R], Mut (H2 a) := fun a ha => by rw [List.mem_singleton.mp ha, hR2]; exact True.intro
        have bR : But [R] H2 (upd H2 R (.lst (zs.map V.int ++ [.int r2]))) := .put (.head _) _
        have nG1 : ∀ {b : Addr}, b ≠ R → b ∉ [R] := fun h m => h (List.mem_singleton.mp m)
        obtain ⟨dx3, ts3, hp3, hG3, _⟩ := A2.at_
        have npR : p ≠ R := ne_of hp3 hR2 (by intro z; cases z)
        have nGR : G ≠ R := fun e => nRG (by rw [← e]; exact .head _)
        have nDR : D' ≠ R := fun e => nRG (by rw [← e]; exact .tail _ (.head _))
        have b12 : But [G, D'] H H2 := (b1.trans (.of_same sT)).trans b2
        refine ⟨zs.map V.int, hR2, by rw [List.length_map, lz]; exact Nat.lt_of_lt_of_le (show i < 1000 by omega) (by decide), gs2, zs ++ [r2], A2.keep mutR bR (nG1 npR) (nG1 nGR) (nG1 nDR), fun z o n e => by rw [upd_ne (nR _ _ e)]; exact b12 _ _ n e, pg1.trans pg2, by omega, by rw [upd_same, List.map_append]; rfl, by rw [List.length_append, List.length_singleton, lz], fun z hz => ?_, fun env he => ?_⟩
        · rcases List.mem_append.mp hz with h | h
          · exact (okz z h).mono pg2
          · rw [List.mem_singleton.mp h]; exact okr2
        · have hb2 := bits_bit he gs
          rw [wv_snoc, lz, wv_pre pg2 okz, sem env he, sem2 env he]
          show _ + 2 ^ i * fB (litv (bitsOf env gs1) a) (litv (bitsOf env gs1) b) = _
          have efn : fB = fN op := by rw [eo]; exact fN_and.symm
          rw [litv_pre oka pg1, litv_pre okb pg1, wv_bit hb2 ha, wv_bit hb2 hb, efn, fN_zz hop3 rfl rfl, ← M00.bit_step, Int.one_mul, Int.mul_comm]
      · rintro H1 ⟨gs1, zs, A1, b1, pg1, lg1, hR1, lz, okz, sem⟩
        rw [List.length_map] at lg1 lz
        simp only [List.length_map] at sem
        exact zipq (fN op) R H1 gs1 zs rfl hop3 A1 b1 pg1 lg1 fR hR1 lz okz sem
    -- or
    refine ⟨_, rfl, rfl, _, rfl, ite2 (fun c => ?_) (fun d5 => ?_)⟩
    · have eo := streqC c
      have hop3 : op = "and" ∨ op = "or" ∨ op = "xor" := by rw [eo]; simp
      refine ⟨_, rfl, _, rfl, x, y, _, _, rfl, hx, hy, fun R fR => ?_⟩
      have s0 := same_new fR (.lst [])
      have nR : ∀ b o, H b = some o → b ≠ R := fun b o e => ne_of_none e fR
      have nRG : R ∉ [G, D'] := fresh A0 fR
      refine lc_zipL (K := K) (xs := xs.map V.int) (ys := ys.map V.int) (by rw [List.length_map, List.length_map, ly]) (fun i H' => ∃ (gs' : List Gt) (zs : List Int), PoolAt P w K H' C p G D' gs' ∧ But [G, D'] H H' ∧ gs <+: gs' ∧ gs'.length ≤ gs.length + i ∧ H' R = some (.lst (zs.map V.int)) ∧ zs.length = i ∧ (∀ z ∈ zs, okL gs' z) ∧ ∀ env, bitEnv env → wv (bitsOf env gs') zs = ((M00.zz op (wv (bitsOf env gs) xs) (wv (bitsOf env gs) ys) % 2 ^ i : Nat) : Int)) ⟨gs, [], A0.same s0, .of_same s0, List.prefix_refl _, Nat.le_refl _, upd_same, rfl, (fun z hz => nomatch hz), fun env he => by show (0 : Int) = ((_ % 2 ^ 0 : Nat) : Int); rw [Nat.pow_zero, Nat.mod_one]; rfl⟩ (fun i H' ⟨_, _, _, b, _⟩ => ⟨sql_but b nx hx, sql_but b ny hy⟩) ?_ ?_
      · rintro i u v Tt H1 hu hv ⟨gs1, zs, A1, b1, pg1, lg1, hR1, lz, okz, sem⟩ fT
        obtain ⟨a, ha, rfl⟩ := get_int hu
        obtain ⟨b, hb, rfl⟩ := get_int hv
        have sT := same_new fT (.tup [.int a, .int b])
        have A1' := A1.same sT
        obtain ⟨dx, ts, h1, _⟩ := A1'.at_
        have oka := okx a (List.mem_of_getElem? ha)
        have okb := oky b (List.mem_of_getElem? hb)
        have hil := (List.getElem?_eq_some_iff.mp ha).1
        refine ⟨Tt, _, rfl, SqT.of upd_same, rfl, _, _, rfl, _, _, rfl, rfl, rfl, yesV ?_⟩
        rw [if_pos rfl]
        refine ⟨_, rfl, p, dx, _, rfl, h1, plFs_no _ _ (by decide +kernel) (by decide +kernel), _, rfl, _, rfl, p, G, D', gs1, _, _, rfl, A1', oka.mono pg1, okb.mono pg1, by omega, fun H2 gs2 r2 A2 b2 pg2 lg2 okr2 sem2 => ?_⟩
        have hR2 := b2 _ _ nRG (sT _ _ hR1)
        have mutR : ∀ a ∈ [R], Mut (H2 a) := fun a ha => by rw [List.mem_singleton.mp ha, hR2]; exact True.intro
        have bR : But [R] H2 (upd H2 R (.lst (zs.map V.int ++ [.int r2]))) := .put (.head _) _
        have nG1 : ∀ {b : Addr}, b ≠ R → b ∉ [R] := fun h m => h (List.mem_singleton.mp m)
        obtain ⟨dx3, ts3, hp3, hG3, _⟩ := A2.at_
        have npR : p ≠ R := ne_of hp3 hR2 (by intro z; cases z)
        have nGR : G ≠ R := fun e => nRG (by rw [← e]; exact .head _)
        have nDR : D' ≠ R := fun e => nRG (by rw [← e]; exact .tail _ (.head _))
        have b12 : But [G, D'] H H2 := (b1.trans (.of_same sT)).trans b2
        refine ⟨zs.map V.int, hR2, by rw [List.length_map, lz]; exact Nat.lt_of_lt_of_le (show i < 1000 by omega) (by decide), gs2, zs ++ [r2], A2.keep mutR bR (nG1 npR) (nG1 nGR) (nG1 nDR), fun z o n e => by rw [upd_ne (nR _ _ e)]; exact b12 _ _ n e, pg1.trans pg2, by omega, by rw [upd_same, List.map_append]; rfl, by rw [List.length_append, List.length_singleton, lz], fun z hz => ?_, fun env he => ?_⟩
        · rcases List.mem_append.mp hz with h | h
          · exact (okz z h).mono pg2
          · rw [List.mem_singleton.mp h]; exact okr2
        · have hb2 := bits_bit he gs
          rw [wv_snoc, lz, wv_pre pg2 okz, sem env he, sem2 env he]
          show _ + 2 ^ i * fE (litv (bitsOf env gs1) a) (litv (bitsOf env gs1) b) = _
          have efn : fE = fN op := by rw [eo]; exact fN_or.symm
          rw [litv_pre oka pg1, litv_pre okb pg1, wv_bit hb2 ha, wv_bit hb2 hb, efn, fN_zz hop3 rfl rfl, ← M00.bit_step, Int.one_mul, Int.mul_comm]
      · rintro H1 ⟨gs1, zs, A1, b1, pg1, lg1, hR1, lz, okz, sem⟩
        rw [List.length_map] at lg1 lz
        simp only [List.length_map] at sem
        exact zipq (fN op) R H1 gs1 zs rfl hop3 A1 b1 pg1 lg1 fR hR1 lz okz sem
    -- xor
    refine ⟨_, rfl, rfl, _, rfl, ite2 (fun c => ?_) (fun d6 => ?_)⟩
    · have eo := streqC c
      have hop3 : op = "and" ∨ op = "or" ∨ op = "xor" := by rw [eo]; simp
      refine ⟨_, rfl, _, rfl, x, y, _, _, rfl, hx, hy, fun R fR => ?_⟩
      have s0 := same_new fR (.lst [])
      have nR : ∀ b o, H b = some o → b ≠ R := fun b o e => ne_of_none e fR
      have nRG : R ∉ [G, D'] := fresh A0 fR
      refine lc_zipL (K := K) (xs := xs.map V.int) (ys := ys.map V.int) (by rw [List.length_map, List.length_map, ly]) (fun i H' => ∃ (gs' : List Gt) (zs : List Int), PoolAt P w K H' C p G D' gs' ∧ But [G, D'] H H' ∧ gs <+: gs' ∧ gs'.length ≤ gs.length + i ∧ H' R = some (.lst (zs.map V.int)) ∧ zs.length = i ∧ (∀ z ∈ zs, okL gs' z) ∧ ∀ env, bitEnv env → wv (bitsOf env gs') zs = ((M00.zz op (wv (bitsOf env gs) xs) (wv (bitsOf env gs) ys) % 2 ^ i : Nat) : Int)) ⟨gs, [], A0.same s0, .of_same s0, List.prefix_refl _, Nat.le_refl _, upd_same, rfl, (fun z hz => nomatch hz), fun env he => by show (0 : Int) = ((_ % 2 ^ 0 : Nat) : Int); rw [Nat.pow_zero, Nat.mod_one]; rfl⟩ (fun i H' ⟨_, _, _, b, _⟩ => ⟨sql_but b nx hx, sql_but b ny hy⟩) ?_ ?_
      · rintro i u v Tt H1 hu hv ⟨gs1, zs, A1, b1, pg1, lg1, hR1, lz, okz, sem⟩ fT
        obtain ⟨a, ha, rfl⟩ := get_int hu
        obtain ⟨b, hb, rfl⟩ := get_int hv
        have sT := same_new fT (.tup [.int a, .int b])
        have A1' := A1.same sT
        obtain ⟨dx, ts, h1, _⟩ := A1'.at_
        have oka := okx a (List.mem_of_getElem? ha)
        have okb := oky b (List.mem_of_getElem? hb)
        have hil := (List.getElem?_eq_some_iff.mp ha).1
        refine ⟨Tt, _, rfl, SqT.of upd_same, rfl, _, _, rfl, _, _, rfl, rfl, rfl, yesV ?_⟩
        rw [if_pos rfl]
        refine ⟨_, rfl, p, dx, _, rfl, h1, plFs_no _ _ (by decide +kernel) (by decide +kernel), _, rfl, _, rfl, p, G, D', gs1, _, _, rfl, A1', oka.mono pg1, okb.mono pg1, by omega, fun H2 gs2 r2 A2 b2 pg2 lg2 okr2 sem2 => ?_⟩
        have hR2 := b2 _ _ nRG (sT _ _ hR1)
        have mutR : ∀ a ∈ [R], Mut (H2 a) := fun a ha => by rw [List.mem_singleton.mp ha, hR2]; exact True.intro
        have bR : But [R] H2 (upd H2 R (.lst (zs.map V.int ++ [.int r2]))) := .put (.head _) _
        have nG1 : ∀ {b : Addr}, b ≠ R → b ∉ [R] := fun h m => h (List.mem_singleton.mp m)
        obtain ⟨dx3, ts3, hp3, hG3, _⟩ := A2.at_
        have npR : p ≠ R := ne_of hp3 hR2 (by intro z; cases z)
        have nGR : G ≠ R := fun e => nRG (by rw [← e]; exact .head _)
        have nDR : D' ≠ R := fun e => nRG (by rw [← e]; exact .tail _ (.head _))
        have b12 : But [G, D'] H H2 := (b1.trans (.of_same sT)).trans b2
        refine ⟨zs.map V.int, hR2, by rw [List.length_map, lz]; exact Nat.lt_of_lt_of_le (show i < 1000 by omega) (by decide), gs2, zs ++ [r2], A2.keep mutR bR (nG1 npR) (nG1 nGR) (nG1 nDR), fun z o n e => by rw [upd_ne (nR _ _ e)]; exact b12 _ _ n e, pg1.trans pg2, by omega, by rw [upd_same, List.map_append]; rfl, by rw [List.length_append, List.length_singleton, lz], fun z hz => ?_, fun env he => ?_⟩
        · rcases List.mem_append.mp hz with h | h
          · exact (okz z h).mono pg2
          · rw [List.mem_singleton.mp h]; exact okr2
        · have hb2 := bits_bit he gs
          rw [wv_snoc, lz, wv_pre pg2 okz, sem env he, sem2 env he]
          show _ + 2 ^ i * fU (litv (bitsOf env gs1) a) (litv (bitsOf env gs1) b) = _
          have efn : fU = fN op := by rw [eo]; exact fN_xor.symm
          rw [litv_pre oka pg1, litv_pre okb pg1, wv_bit hb2 ha, wv_bit hb2 hb, efn, fN_zz hop3 rfl rfl, ← M00.bit_step, Int.one_mul, Int.mul_comm]
      · rintro H1 ⟨gs1, zs, A1, b1, pg1, lg1, hR1, lz, okz, sem⟩
        rw [List.length_map] at lg1 lz
        simp only [List.length_map] at sem
        exact zipq (fN op) R H1 gs1 zs rfl hop3 A1 b1 pg1 lg1 fR hR1 lz okz sem
    -- shl
    refine ⟨_, rfl, rfl, _, rfl, ite2 (fun c => ?_) (fun d7 => ?_)⟩
    · have eo := streqC c
      refine ⟨_, rfl, _, rfl, _, rfl, p, G, D', x, y, gs, xs, ys, rfl, A0, hx, hy, nx, ny, by omega, by omega, okx, oky, by omega, fun H' gs' r zs k1 k2 k3 k4 k5 k6 k7 k8 k9 => q H' gs' r zs k1 k2 k3 (by omega) k5 k6 k7 k8 fun env he => ?_⟩
      rw [k9 env he, eo]
      exact shl_val (wv_rng (bits_bit he gs) ys).1
    -- shr
    refine ⟨_, rfl, rfl, _, rfl, ite2 (fun c => ?_) (fun d8 => ?_)⟩
    · have eo := streqC c
      refine ⟨_, rfl, _, rfl, x, _, rfl, hx, fun r0 f0 => ?_⟩
      have s0 := same_new f0 (.lst (xs.map V.int).reverse)
      have A1 := A0.same s0
      refine ⟨_, rfl, p, G, D', r0, y, gs, xs.reverse, ys, rfl, A1, SqL.of (by rw [upd_same, List.map_reverse]), sql_mono s0 hy, fresh A0 f0, ny, by rw [List.length_reverse]; omega, by omega, (fun z hz => okx z (List.mem_reverse.mp hz)), oky, by omega, fun H' gs' r zs k1 k2 k3 k4 k5 k6 k7 k8 k9 => ?_⟩
      rw [List.length_reverse] at k7
      refine ⟨r, _, rfl, k5, fun r3 f3 => ?_⟩
      have s3 := same_new f3 (.lst (zs.map V.int).reverse)
      refine q _ gs' r3 zs.reverse (k1.same s3) (((But.of_same s0).trans k2).trans (.of_same s3)) k3 (by omega) (SqL.of (by rw [upd_same, List.map_reverse])) (fresh k1 f3) (by rw [List.length_reverse, k7]) (fun z hz => k8 z (List.mem_reverse.mp hz)) fun env he => ?_
      have e9 := k9 env he
      rw [List.length_reverse] at e9
      rw [wv_shr (bits_bit he gs) (bits_bit he gs') k7 e9, eo]
      exact shr_val (bits_bit he gs) (wv_rng (bits_bit he gs) ys).1
    -- less, equal
    have fin : ∀ (t : Int) (H2 : Hp) (gs2 : List Gt), PoolAt P w K H2 C p G D' gs2 → But [G, D'] H H2 → gs <+: gs2 → gs2.length ≤ gs.length + 1600 → okL gs2 t → (∀ env, bitEnv env → litv (bitsOf env gs2) t = M00.val op xs.length (wv (bitsOf env gs) xs) (wv (bitsOf env gs) ys)) →
        ∀ (Hn : Hp) (r : Addr), Same H2 Hn → Hn r = some (.lst ((t :: List.replicate (xs.length - 1) 0).map V.int)) → r ∉ [G, D'] → Q (.ref r) Hn := fun t H2 gs2 A2 b2 pg2 lg2 okt sem Hn r sn hr nr => by
      refine q Hn gs2 r _ (A2.same sn) (b2.trans (.of_same sn)) pg2 lg2 (SqL.of hr) nr (by rw [List.length_cons, List.length_replicate]; omega) (fun z hz => ?_) fun env he => ?_
      · rcases List.mem_cons.mp hz with e | e
        · rw [e]; exact okt
        · rw [List.eq_of_mem_replicate e]; exact okno A2.ok
      · rw [wv_head A2.ok, sem env he]
    refine ⟨fun v H2 => ∃ (t : Int) (gs2 : List Gt), v = .int t ∧ PoolAt P w K H2 C p G D' gs2 ∧ But [G, D'] H H2 ∧ gs <+: gs2 ∧ gs2.length ≤ gs.length + 1600 ∧ okL gs2 t ∧ (∀ env, bitEnv env → litv (bitsOf env gs2) t = M00.val op xs.length (wv (bitsOf env gs) xs) (wv (bitsOf env gs) ys)), ?_, ?_⟩
    · refine ⟨_, rfl, rfl, _, rfl, ite2 (fun c => ?_) (fun c => ?_)⟩
      · have eo := streqC c
        refine ⟨_, rfl, _, rfl, _, rfl, p, G, D', x, y, gs, xs, ys, rfl, A0, hx, hy, nx, ny, ly.symm, okx, oky, by dsimp only; omega, fun H' gs' r k1 k2 k3 k4 k5 k6 => ⟨r, gs', rfl, k1, k2, k3, by dsimp only at k4; omega, k5, fun env he => ?_⟩⟩
        rw [k6 env he, eo]
        dsimp only
        rw [M00.val_less]
      · have eo := M00.last_equal hop hnot hneg (strneC d1) (strneC d2) (strneC d3) (strneC d4) (strneC d5) (strneC d6) (strneC d7) (strneC d8) (strneC c)
        refine ⟨_, rfl, _, rfl, _, rfl, p, G, D', x, y, gs, xs, ys, rfl, A0, hx, hy, nx, ny, ly.symm, okx, oky, by dsimp only; omega, fun H' gs' r k1 k2 k3 k4 k5 k6 => ⟨r, gs', rfl, k1, k2, k3, by dsimp only at k4; omega, k5, fun env he => ?_⟩⟩
        rw [k6 env he, eo]
        dsimp only
        rw [M00.val_equal]
    · rintro v H2 ⟨t, gs2, rfl, A2, b2, pg2, lg2, okt, sem⟩
      refine ⟨_, rfl, by show 1 ≤ sizeLine; decide, fun l1 f1 => ?_⟩
      have s1 := same_new f1 (.lst [.int t])
      refine ⟨by show 1 ≤ sizeLine; decide, fun l2 f2 => ?_⟩
      have s2 := s1.trans (same_new f2 (.lst [.int 0]))
      have hx2 := sql_mono s2 (sql_but b2 nx hx)
      refine ⟨_, rfl, x, _, rfl, .inl hx2, _, _, rfl, rfl, l2, _, [.int 0], rfl, rfl, upd_same, by rw [List.length_map]; omega, by rw [List.length_map]; omega, by rw [List.length_map]; show 1 * ((xs.length : Int) - 1).toNat ≤ sizeLine; exact Nat.le_trans (show _ ≤ 20 by omega) (by decide), fun l3 f3 => ?_⟩
      have er : (List.replicate ((((xs.map V.int).length : Nat) : Int) - 1).toNat [V.int 0]).flatten = (List.replicate (xs.length - 1) (0 : Int)).map V.int := by
        rw [List.length_map, show ((xs.length : Int) - 1).toNat = xs.length - 1 by omega, rep_flat]
      rw [er]
      have s3 := s2.trans (same_new f3 (.lst ((List.replicate (xs.length - 1) (0 : Int)).map V.int)))
      refine ⟨l1, l3, _, _, rfl, rfl, (same_new f3 _) _ _ ((same_new f2 _) _ _ upd_same), upd_same, by rw [List.length_map, List.length_replicate]; exact Nat.le_trans (show _ ≤ 20 by show 1 + (xs.length - 1) ≤ 20; omega) (by decide), fun l4 f4 => ?_⟩
      exact fin t H2 gs2 A2 b2 pg2 lg2 okt sem _ l4 (s3.trans (same_new f4 _)) upd_same (fresh (A2.same s3) f4)
end
end My

set_option Elab.async false
set_option maxRecDepth 100000
set_option maxHeartbeats 4000000
set_option linter.all false
/-! The laws of words: where a word comes from, what it is worth. -/
namespace My
open PySem PySem.Spec PyProof.Rows L2
inductive Src where
  | is (n : Nat) | name (v : Nat) | row (k : Nat)
def Src.data : Src → PyData
  | .is n => .tuple [.str "is", .int n]
  | .name v => .tuple [.str "name", .int v]
  | .row k => .tuple [.str "row", .int k]
def Src.val (ws : Nat → Int) (vals : List Int) : Src → Int
  | .is n => n
  | .name v => ws v
  | .row k => vals.getD k 0
def Src.ok (w m : Nat) : Src → Prop
  | .is n => n < 2 ^ w
  | .name v => v < 3
  | .row k => k < m
theorem Src.ok.mono {w m m' : Nat} {s : Src} (h : s.ok w m) (e : m ≤ m') : s.ok w m' := by
  cases s with
  | is n => exact h
  | name v => exact h
  | row k => exact Nat.lt_of_lt_of_le h e
structure Ds where
  op : Str
  x : Src
  y : Src
def Ds.data (d : Ds) : PyData := .tuple [.str d.op, d.x.data, d.y.data]
def dsVals (w : Nat) (ws : Nat → Int) (ds : List Ds) : List Int := ds.foldl (fun vals d => vals ++ [M00.val d.op w (d.x.val ws vals) (d.y.val ws vals)]) []
theorem dsVals_snoc (w : Nat) (ws : Nat → Int) (ds : List Ds) (d : Ds) : dsVals w ws (ds ++ [d]) = dsVals w ws ds ++ [M00.val d.op w (d.x.val ws (dsVals w ws ds)) (d.y.val ws (dsVals w ws ds))] := by
  unfold dsVals
  rw [List.foldl_append]
  rfl
theorem dsVals_len (w : Nat) (ws : Nat → Int) (ds : List Ds) : (dsVals w ws ds).length = ds.length := by
  induction ds using snoc_rec with
  | h0 => rfl
  | h1 xs x ih => rw [dsVals_snoc, List.length_append, List.length_append, ih]; rfl
theorem Src.val_pre {w : Nat} {ws : Nat → Int} {ds : List Ds} {d : Ds} {s : Src} (h : s.ok w ds.length) : s.val ws (dsVals w ws (ds ++ [d])) = s.val ws (dsVals w ws ds) := by
  cases s with
  | is n => rfl
  | name v => rfl
  | row k =>
    show (dsVals w ws (ds ++ [d])).getD k 0 = (dsVals w ws ds).getD k 0
    have h : k < ds.length := h
    rw [dsVals_snoc, List.getD_eq_getElem?_getD, List.getElem?_append_left (by rw [dsVals_len]; exact h), ← List.getD_eq_getElem?_getD]
def nmVK (v k : Nat) : NK := .tup [.num (v : Int), .num (k : Int)]
theorem nmVK_inj {v k v' k' : Nat} (h : nmVK v k = nmVK v' k') : v = v' ∧ k = k' := by
  unfold nmVK at h
  injection h with h
  injection h with h1 h
  injection h with h2 _
  injection h1 with h1
  injection h2 with h2
  exact ⟨by omega, by omega⟩
theorem nmVK_depth (v k : Nat) : (nmVK v k).depth ≤ 7 := by simp only [nmVK, NestedKey.depth, NestedKey.depthAll]; decide
structure EnvW (w : Nat) (env : Bits) (ws : Nat → Int) : Prop where
  bit : bitEnv env
  rng : ∀ v, v < 3 → 0 ≤ ws v ∧ ws v < 2 ^ w
  val : ∀ v k, v < 3 → k < w → env (nmVK v k) = ws v / 2 ^ k % 2
theorem val_rng {op : Str} {w : Nat} {x y : Int} (hop : op ∈ M00.ops) (w1 : 1 ≤ w) (x0 : 0 ≤ x) (x1 : x < 2 ^ w) (y0 : 0 ≤ y) (y1 : y < 2 ^ w) : 0 ≤ M00.val op w x y ∧ M00.val op w x y < 2 ^ w := by
  have p := pow_p w
  have two : (2 : Int) ≤ 2 ^ w := by
    have := Nat.pow_le_pow_right (n := 2) (by decide) w1
    have e : ((2 ^ w : Nat) : Int) = 2 ^ w := by rw [Int.natCast_pow]; rfl
    omega
  have md : ∀ z : Int, 0 ≤ z % 2 ^ w ∧ z % 2 ^ w < 2 ^ w := fun z => ⟨Int.emod_nonneg _ (by omega), Int.emod_lt_of_pos _ p⟩
  have zzr : (op = "and" ∨ op = "or" ∨ op = "xor") → 0 ≤ M00.val op w x y ∧ M00.val op w x y < 2 ^ w := fun h => by
    rw [← M00.zz_val h x0 x1 y0 y1]
    exact md _
  simp only [M00.ops, List.mem_cons, List.mem_nil_iff, or_false] at hop
  rcases hop with h | h | h | h | h | h | h | h | h | h | h | h
  · rw [h, M00.val_add]; exact md _
  · rw [h, M00.val_sub]; exact md _
  · rw [h, M00.val_mul]; exact md _
  · exact zzr (.inl h)
  · exact zzr (.inr (.inl h))
  · exact zzr (.inr (.inr h))
  · rw [h, M00.val_shl]
    split
    · exact md _
    · omega
  · rw [h, M00.val_shr]
    split
    · have := pow_p y.toNat
      exact ⟨Int.ediv_nonneg x0 (by omega), Int.lt_of_le_of_lt (Int.ediv_le_self _ x0) x1⟩
    · omega
  · rw [h, M00.val_less]
    split <;> omega
  · rw [h, M00.val_equal]
    split <;> omega
  · rw [h, M00.val_not]; omega
  · rw [h, M00.val_neg]; exact md _
structure DsOk (w : Nat) (ds : List Ds) : Prop where
  each : ∀ (i : Nat) (d : Ds), ds[i]? = some d → d.op ∈ M00.ops ∧ d.x.ok w i ∧ d.y.ok w i
theorem DsOk.snoc {w : Nat} {ds : List Ds} (h : DsOk w ds) {d : Ds} (h1 : d.op ∈ M00.ops) (h2 : d.x.ok w ds.length) (h3 : d.y.ok w ds.length) : DsOk w (ds ++ [d]) := by
  refine ⟨fun i e he => ?_⟩
  by_cases hi : i < ds.length
  · rw [List.getElem?_append_left hi] at he
    exact h.each i e he
  · have : i = ds.length := by
      have := (List.getElem?_eq_some_iff.mp he).1
      rw [List.length_append, List.length_singleton] at this
      omega
    rw [this, List.getElem?_append_right (Nat.le_refl _), Nat.sub_self] at he
    cases he
    rw [this]
    exact ⟨h1, h2, h3⟩
theorem src_rng {w : Nat} {ws : Nat → Int} {vals : List Int} (hw : ∀ v, v < 3 → 0 ≤ ws v ∧ ws v < 2 ^ w) (hv : ∀ v ∈ vals, 0 ≤ v ∧ v < 2 ^ w) {s : Src} (h : s.ok w vals.length) : 0 ≤ s.val ws vals ∧ s.val ws vals < 2 ^ w := by
  cases s with
  | is n =>
    have h : n < 2 ^ w := h
    show 0 ≤ (n : Int) ∧ (n : Int) < 2 ^ w
    have e : ((2 ^ w : Nat) : Int) = 2 ^ w := by rw [Int.natCast_pow]; rfl
    omega
  | name v => exact hw v h
  | row k =>
    have h : k < vals.length := h
    show 0 ≤ vals.getD k 0 ∧ vals.getD k 0 < 2 ^ w
    rw [List.getD_eq_getElem?_getD, List.getElem?_eq_getElem h]
    exact hv _ (List.getElem_mem h)
theorem dsVals_rng {w : Nat} (w1 : 1 ≤ w) {ws : Nat → Int} (hw : ∀ v, v < 3 → 0 ≤ ws v ∧ ws v < 2 ^ w) : ∀ ds : List Ds, DsOk w ds → ∀ v ∈ dsVals w ws ds, 0 ≤ v ∧ v < 2 ^ w := by
  intro ds
  induction ds using snoc_rec with
  | h0 => intro _ v hv; cases hv
  | h1 xs x ih =>
    intro ok v hv
    have okp : DsOk w xs := ⟨fun i d e => ok.each i d (by rw [List.getElem?_append_left (List.getElem?_eq_some_iff.mp e).1]; exact e)⟩
    have ox := ok.each xs.length x (by rw [List.getElem?_append_right (Nat.le_refl _), Nat.sub_self]; rfl)
    rw [dsVals_snoc] at hv
    rcases List.mem_append.mp hv with h | h
    · exact ih okp v h
    · rw [List.mem_singleton.mp h]
      have r1 := src_rng hw (ih okp) (s := x.x) (by rw [dsVals_len]; exact ox.2.1)
      have r2 := src_rng hw (ih okp) (s := x.y) (by rw [dsVals_len]; exact ox.2.2)
      exact val_rng ox.1 w1 r1.1 r1.2 r2.1 r2.2
/-- a word of literals has the worth of its source -/
def Sem (w : Nat) (ds : List Ds) (gs : List Gt) (zs : List Int) (s : Src) : Prop := ∀ env ws, EnvW w env ws → wv (bitsOf env gs) zs = s.val ws (dsVals w ws ds)
theorem Sem.pre {w : Nat} {ds : List Ds} {gs gs' : List Gt} {zs : List Int} {s : Src} (h : Sem w ds gs zs s) (hz : ∀ z ∈ zs, okL gs z) (p : gs <+: gs') : Sem w ds gs' zs s := fun env ws e => by rw [wv_pre p hz]; exact h env ws e
theorem Sem.snoc {w : Nat} {ds : List Ds} {gs : List Gt} {zs : List Int} {s : Src} (h : Sem w ds gs zs s) (ok : s.ok w ds.length) (d : Ds) : Sem w (ds ++ [d]) gs zs s := fun env ws e => by rw [Src.val_pre ok]; exact h env ws e
/-- a word of named bits -/
theorem name_wv {w : Nat} {env : Bits} {ws : Nat → Int} (e : EnvW w env ws) {v : Nat} (hv : v < 3) {bs zs : List Int} (hl : zs.length = w) (h : ∀ (k : Nat) (z : Int), zs[k]? = some z → litv bs z = env (nmVK v k)) : wv bs zs = ws v := by
  have gen : ∀ n, n ≤ w → wv bs (zs.take n) = ws v % 2 ^ n := by
    intro n
    induction n with
    | zero => intro _; show (0 : Int) = ws v % 2 ^ 0; rw [Int.pow_zero, Int.emod_one]
    | succ n ih =>
      intro hn
      have hz : zs[n]? = some zs[n] := List.getElem?_eq_getElem (by omega)
      rw [wv_step hz, ih (by omega), h n _ hz, e.val v n hv (by omega)]
      have p := pow_p n
      rw [Int.pow_succ]
      have d1 := Int.emod_add_mul_ediv (ws v) (2 ^ n)
      have d2 := Int.emod_add_mul_ediv (ws v / 2 ^ n) 2
      have m1 := Int.emod_nonneg (ws v) (show (2 : Int) ^ n ≠ 0 by omega)
      have m2 := Int.emod_lt_of_pos (ws v) p
      have m3 : ws v / 2 ^ n % 2 = 0 ∨ ws v / 2 ^ n % 2 = 1 := by omega
      generalize ws v / 2 ^ n / 2 = q at *
      generalize ws v / 2 ^ n % 2 = r at *
      generalize ws v / 2 ^ n = t at *
      generalize ws v % 2 ^ n = u at *
      rw [← d1, ← d2, Int.mul_add, ← Int.mul_assoc, ← Int.add_assoc, Int.add_mul_emod_self_left]
      rw [Int.emod_eq_of_lt]
      · rcases m3 with e | e <;> rw [e] <;> omega
      · rcases m3 with e | e <;> rw [e] <;> omega
  have g := gen w (Nat.le_refl _)
  rw [List.take_of_length_le (by omega), Int.emod_eq_of_lt (e.rng v hv).1 (e.rng v hv).2] at g
  exact g
end My

set_option Elab.async false
set_option maxRecDepth 100000
set_option maxHeartbeats 4000000
set_option linter.all false
/-! Pools and draws stand apart; small words. -/
namespace My
open PySem L2 PyProof.Rows
theorem DrawAt.but {S : List Addr} {H H' : Hp} {d L : Addr} (h : DrawAt H d L) (b : But S H H') (nd : d ∉ S) (nL : L ∉ S) : DrawAt H' d L := by
  obtain ⟨ns, a, l, s, h1, h2, r⟩ := h
  exact ⟨ns, a, l, s, b _ _ nd h1, b _ _ nL h2, r⟩
structure Apart (d L p G D : Addr) : Prop where
  dp : d ≠ p
  dG : d ≠ G
  dD : d ≠ D
  Lp : L ≠ p
  LG : L ≠ G
  LD : L ≠ D
theorem PoolAt.apart {P : Program} {w : World} {K : PySem.W.Frag} {H : Hp} {C p G D d L : Addr} {gs : List Gt} (A : PoolAt P w K H C p G D gs) (h : DrawAt H d L) : Apart d L p G D := by
  obtain ⟨ns, a, l, s, h1, h2, _⟩ := h
  obtain ⟨dx, ts, k1, k2, k3, _, k5⟩ := A.at_
  have pos := A.ok.pos
  have hts : ∃ t tr, ts = t :: tr := by
    cases ts with
    | nil => rw [List.length_nil] at k3; omega
    | cons t tr => exact ⟨t, tr, rfl⟩
  obtain ⟨t, tr, rfl⟩ := hts
  refine ⟨ne_of h1 k1 (by intro z; cases z), ?_, ?_, ne_of h2 k1 (by intro z; cases z), ?_, ?_⟩
  · refine ne_of h1 k2 fun z => ?_
    have z := HO.lst.inj z
    cases tr with
    | nil => simp at z
    | cons t2 tr => simp at z
  · rcases k5 with e | ⟨_, e⟩ <;> exact ne_of h1 e (by intro z; cases z)
  · refine ne_of h2 k2 fun z => ?_
    have z := HO.lst.inj z
    cases ns with
    | nil => simp at z
    | cons n nr => simp at z
  · rcases k5 with e | ⟨_, e⟩ <;> exact ne_of h2 e (by intro z; cases z)
theorem dpa_intsV {K : PySem.W.Frag} {H : Hp} : ∀ ns : List Int, DpAll K H (ns.map V.int) (ns.map PyData.int)
  | [] => .nil
  | n :: ns => .cons (.int n) (dpa_intsV ns)
theorem eqvAll_self : ∀ ns : List Int, PyData.eqvAll (ns.map PyData.int) (ns.map PyData.int) = true
  | [] => rfl
  | n :: ns => by
    rw [List.map_cons, PyData.eqvAll, eqvAll_self ns]
    show ((n == n) && true) = true
    simp
theorem eqv_listI (ns : List Int) : PyData.eqv (.list (ns.map PyData.int)) (.list (ns.map PyData.int)) = true := eqvAll_self ns
theorem dp_two {K : PySem.W.Frag} {H : Hp} {v : V} {x y : PyData} (h : Dp K H v (.tuple [x, y])) : ∃ t a b, v = .ref t ∧ SqT K H t [a, b] ∧ Dp K H a x ∧ Dp K H b y := by
  cases h with
  | tup hs ha =>
    cases ha with
    | cons h1 h2 =>
      cases h2 with
      | cons h3 h4 =>
        cases h4
        exact ⟨_, _, _, rfl, hs, h1, h3⟩
theorem DrawAt.mut {H : Hp} {d L : Addr} (h : DrawAt H d L) : Mut (H d) := by
  obtain ⟨ns, a, l, s, h1, _⟩ := h
  rw [h1]
  exact True.intro
theorem sql_but' {K : PySem.W.Frag} {A : List Addr} {H H' : Hp} (hb : But A H H') {a : Addr} (na : a ∉ A) {xs : List V} (h : SqL K H a xs) : SqL K H' a xs := by
  rcases h with (h | ⟨o, h⟩) | h
  · exact .inl (.inl (hb a _ na h))
  · exact .inl (.inr ⟨o, hb a _ na h⟩)
  · exact .inr h
end My


set_option Elab.async false
set_option maxRecDepth 100000
set_option maxHeartbeats 4000000
set_option linter.all false
namespace My
open PySem L2 PyProof.Rows
open C8 (pss_cut)
theorem in3 {x a b c : Str} (h : inV (.str x) [.str a, .str b, .str c] = true) : x = a ∨ x = b ∨ x = c := by
  have e := inS (x := x) (xs := [a, b, c])
  have h2 : decide (x ∈ [a, b, c]) = true := e.symm.trans h
  simpa using of_decide_eq_true h2
theorem not3 {x a b c : Str} (h : ¬ inV (.str x) [.str a, .str b, .str c] = true) : x ≠ a ∧ x ≠ b ∧ x ≠ c := by
  have e := inS (x := x) (xs := [a, b, c])
  have h2 : ¬ decide (x ∈ [a, b, c]) = true := fun z => h (e.trans z)
  simpa using h2


def spLComp : Sp := fun vs H Q _ => ∃ (op : Str) (n : Nat) (x y : Int), vs = [.str op, .int n, .int x, .int y] ∧ op ∈ M00.ops ∧ 1 ≤ n ∧ n ≤ 16 ∧ 0 ≤ x ∧ x < 2 ^ n ∧ 0 ≤ y ∧ y < 2 ^ n ∧ ∀ H', Same H H' → Q (.int (M00.val op n x y)) H'
theorem mod_sub (z p : Int) : z - z / p * p = z % p := by rw [Int.emod_def, Int.mul_comm]
section
variable {P : Program} {w : World} {K : PySem.W.Frag} {mg : Str → Option Value} {base : Heap} {f C : Addr} {fd : FuncData}
theorem ok__law_top (D : Def K mg "_law_top" ["w"] s__law_top f fd) : Own P w K mg base "_law_top" ["w"] 1 spTop := by
  refine ⟨f, fd, D.mg, D.fn.kp, D.bd, D.fn.ok sc__law_top (fun vs H Q E h => ?_) (fun cdv A outer s H vs Q E hr h => ?_)⟩
  · obtain ⟨n, rfl, _⟩ := h
    rfl
  · obtain ⟨n, rfl, hn, q⟩ := h
    refine ⟨_, (pss_one (ps_ret (pe_op op_sub (pe_op op_shl pe_int (pv 0)) pe_int))), ?_⟩
    refine ⟨_, rfl, _, _, rfl, rfl, ⟨by omega, by omega, by decide⟩, _, _, rfl, rfl, ?_⟩
    exact toI (by rw [Int.one_mul]; rfl) q
theorem ok__law_compute (T : Txt K mg) (D : Def K mg "_law_compute" ["op", "w", "x", "y"] s__law_compute f fd) : Own P w K mg base "_law_compute" ["op", "w", "x", "y"] 1 spLComp := by
  refine ⟨f, fd, D.mg, D.fn.kp, D.bd, D.fn.ok sc__law_compute (fun vs H Q E h => ?_) (fun cdv A outer s H vs Q E hr h => ?_)⟩
  · obtain ⟨op, n, x, y, rfl, _⟩ := h
    rfl
  · obtain ⟨op, n, x, y, rfl, hop, n1, n2, x0, x1, y0, y1, q⟩ := h
    have hp := M00.pow_lt n n2
    have hp0 := M00.pow_pos' n
    have one : 1 * (2 : Int) ^ n = 2 ^ n := Int.one_mul _
    have q0 := q H (Same.refl H)
    refine ⟨_, (pss_cons (ps_set (i := 4) sc__law_compute.nd rfl (Or.inl rfl) (pe_op op_shl pe_int (pv 1)))
      (pss_cons (ps_if (pt_cmpR op_eq (pv 0) pe_str (nomark _)) (pss_one (ps_ret (pe_ifExp (pt_cmpR op_lt (pe_op op_add (pv 2) (pv 3)) (pv 4) (nomark _)) (pe_op op_add (pv 2) (pv 3)) (pe_op op_sub (pe_op op_add (pv 2) (pv 3)) (pv 4))))) pss_nil)
      (pss_cons (ps_if (pt_cmpR op_eq (pv 0) pe_str (nomark _)) (pss_one (ps_ret (pe_ifExp (pt_cmpR op_ge (pv 2) (pv 3) (nomark _)) (pe_op op_sub (pv 2) (pv 3)) (pe_op op_add (pe_op op_sub (pv 2) (pv 3)) (pv 4))))) pss_nil)
      (pss_cons (ps_if (pt_cmpR op_eq (pv 0) pe_str (nomark _)) (pss_one (ps_ret (pe_op op_sub (pe_op op_mul (pv 2) (pv 3)) (pe_op op_mul (pe_op op_fdiv (pe_op op_mul (pv 2) (pv 3)) (pv 4)) (pv 4))))) pss_nil)
      (pss_cons (ps_if (pt_cmpR op_in_seq (pv 0) (pe_lst (pa_cons pe_str (pa_cons pe_str (pa_cons pe_str pa_nil)))) (by rfl)) (pss_cons (ps_set (i := 5) sc__law_compute.nd rfl (Or.inl rfl) pe_int)
      (pss_cons (ps_for PassesOwn.never rfl (pi_range1 (by rfl) T.m_range (pa_cons (pv 1) pa_nil)) (pg_name (i := 6) sc__law_compute.nd rfl (Or.inl rfl)) (pss_cons (ps_set (i := 7) sc__law_compute.nd rfl (Or.inl rfl) (pe_op op_add (pe_op op_mod (pe_op op_fdiv (pv 2) (pe_op op_shl pe_int (pv 6))) pe_int) (pe_op op_mod (pe_op op_fdiv (pv 3) (pe_op op_shl pe_int (pv 6))) pe_int)))
      (pss_one (ps_if (pt_cut (PW.pt (pw_or (PW.pt (pw_and (pt_cmpR op_eq (pv 0) pe_str (nomark _)) (pw_and1 (pt_cmpR op_eq (pv 7) pe_int (nomark _))))) (pw_or (PW.pt (pw_and (pt_cmpR op_eq (pv 0) pe_str (nomark _)) (pw_and1 (pt_cmpR op_gt (pv 7) pe_int (nomark _))))) (pw_or1 (PW.pt (pw_and (pt_cmpR op_eq (pv 0) pe_str (nomark _)) (pw_and1 (pt_cmpR op_eq (pv 7) pe_int (nomark _)))))))))) (pss_one (ps_set (i := 5) sc__law_compute.nd rfl (Or.inl rfl) (pe_op op_add (pv 5) (pe_op op_shl pe_int (pv 6))))) pss_nil))))
      (pss_one (ps_ret (pv 5))))) pss_nil)
      (pss_cons (ps_if (pt_cmpR op_eq (pv 0) pe_str (nomark _)) (pss_one (ps_ret (pe_ifExp (pt_cmpR op_ge (pv 3) (pv 1) (nomark _)) pe_int (pe_op op_sub (pe_op op_mul (pv 2) (pe_op op_shl pe_int (pv 3))) (pe_op op_mul (pe_op op_fdiv (pe_op op_mul (pv 2) (pe_op op_shl pe_int (pv 3))) (pv 4)) (pv 4)))))) pss_nil)
      (pss_cons (ps_if (pt_cmpR op_eq (pv 0) pe_str (nomark _)) (pss_one (ps_ret (pe_ifExp (pt_cmpR op_ge (pv 3) (pv 1) (nomark _)) pe_int (pe_op op_fdiv (pv 2) (pe_op op_shl pe_int (pv 3)))))) pss_nil)
      (pss_cons (ps_if (pt_cmpR op_eq (pv 0) pe_str (nomark _)) (pss_one (ps_ret (pe_ifExp (pt_cmpR op_lt (pv 2) (pv 3) (nomark _)) pe_int pe_int))) pss_nil)
      (pss_cons (ps_if (pt_cmpR op_eq (pv 0) pe_str (nomark _)) (pss_one (ps_ret (pe_ifExp (pt_cmpR op_eq (pv 2) (pv 3) (nomark _)) pe_int pe_int))) pss_nil)
      (pss_cons (ps_if (pt_cmpR op_eq (pv 0) pe_str (nomark _)) (pss_one (ps_ret (pe_op op_sub (pe_op op_sub (pv 4) pe_int) (pv 2)))) pss_nil)
      (pss_one (ps_ret (pe_ifExp (pt_cmpR op_eq (pv 2) pe_int (nomark _)) pe_int (pe_op op_sub (pv 4) (pv 2))))))))))))))), ?_⟩
    refine ⟨_, rfl, _, _, rfl, rfl, ⟨by omega, by omega, by decide⟩, ?_⟩
    dsimp only
    rw [Int.toNat_natCast, one]
    -- add
    refine ⟨_, rfl, rfl, _, rfl, ite2 (fun c => ?_) (fun d1 => ?_)⟩
    · have eo := streqC c
      refine ⟨_, rfl, _, rfl, _, _, rfl, rfl, _, rfl, _, _, rfl, rfl, _, rfl, ite2 (fun e => ?_) (fun e => ?_)⟩
      · have e := of_decide_eq_true e
        refine ⟨_, rfl, _, rfl, _, _, rfl, rfl, toI ?_ q0⟩
        rw [eo, M00.val_add, Int.emod_eq_of_lt (by omega) e]
      · have e : ¬ (x + y < 2 ^ n) := fun z => e (decide_eq_true z)
        refine ⟨_, rfl, _, rfl, _, _, rfl, rfl, _, rfl, _, _, rfl, rfl, toI ?_ q0⟩
        rw [eo, M00.val_add, show x + y = (x + y - 2 ^ n) + 2 ^ n * 1 by omega, ← mod_is ⟨by omega, by omega⟩]
        omega
    -- sub
    refine ⟨_, rfl, rfl, _, rfl, ite2 (fun c => ?_) (fun d2 => ?_)⟩
    · have eo := streqC c
      refine ⟨_, rfl, _, rfl, _, _, rfl, rfl, _, rfl, ite2 (fun e => ?_) (fun e => ?_)⟩
      · have e := of_decide_eq_true e
        refine ⟨_, rfl, _, rfl, _, _, rfl, rfl, toI ?_ q0⟩
        rw [eo, M00.val_sub, Int.emod_eq_of_lt (by omega) (by omega)]
      · have e : ¬ (x ≥ y) := fun z => e (decide_eq_true z)
        refine ⟨_, rfl, _, rfl, _, _, rfl, rfl, _, rfl, _, _, rfl, rfl, toI ?_ q0⟩
        rw [eo, M00.val_sub, show x - y = (x - y + 2 ^ n) + 2 ^ n * (-1) by omega, ← mod_is ⟨by omega, by omega⟩]
        omega
    -- mul
    have cm : CMul x y := .inl ⟨by omega, by omega⟩
    refine ⟨_, rfl, rfl, _, rfl, ite2 (fun c => ?_) (fun d3 => ?_)⟩
    · have eo := streqC c
      have cd : CDiv (x * y) (2 ^ n) := ⟨by omega, by omega⟩
      refine ⟨_, rfl, _, rfl, _, _, rfl, rfl, cm, _, rfl, _, rfl, _, _, rfl, rfl, cm, _, rfl, _, _, rfl, rfl, cd, _, rfl, _, _, rfl, rfl, .inr ⟨by omega, by omega⟩, _, _, rfl, rfl, toI ?_ q0⟩
      rw [eo, M00.val_mul]
      exact mod_sub _ _
    -- op in ['and', 'or', 'xor']
    refine ⟨_, rfl, by show 3 ≤ sizeLine; decide, fun p hp' => ?_⟩
    have sp := same_new hp' (.lst [.str "and", .str "or", .str "xor"])
    refine ⟨p, _, rfl, .inl (SqL.of upd_same), rfl, rfl, _, rfl, ite2 (fun c => ?_) (fun d4 => ?_)⟩
    · have h3 := in3 c
      refine ⟨_, rfl, (n : Int), rfl, by omega, by omega, for_range (lo := 0) (n := n) (fun i σ' H' => i ≤ n ∧ ∃ (v6 v7 : Option V), σ' = [some (.str op), some (.int n), some (.int x), some (.int y), some (.int (2 ^ n)), some (.int ((M00.zz op x y % 2 ^ i : Nat) : Int)), v6, v7] ∧ Same H H')
        ⟨Nat.zero_le _, none, none, by rw [Nat.pow_zero, Nat.mod_one]; rfl, sp⟩ ?_ ?_⟩
      · rintro i σ' H' hi ⟨_, v6, v7, rfl, e⟩
        rw [Int.zero_add]
        have hi0 := M00.pow_pos' i
        have hi1 := M00.pow_lt i (by omega)
        have onei : 1 * (2 : Int) ^ i = 2 ^ i := Int.one_mul _
        have cp : CPow 1 (i : Int) := ⟨by omega, by omega, by decide⟩
        have cd : ∀ z : Int, CDiv z (1 * 2 ^ i) := fun z => ⟨by omega, by omega⟩
        have ea := M00.fdiv_bit x x0 i
        have eb := M00.fdiv_bit y y0 i
        refine ⟨_, rfl, _, rfl, _, _, rfl, rfl, cp, _, _, rfl, rfl, cd _, _, _, rfl, rfl, (by show (0 : Int) < 2; decide), _, rfl, _, rfl, _, _, rfl, rfl, cp, _, _, rfl, rfl, cd _, _, _, rfl, rfl, (by show (0 : Int) < 2; decide), _, _, rfl, rfl, ?_⟩
        dsimp only
        rw [Int.toNat_natCast, ea, eb]
        obtain ⟨a, ha⟩ : ∃ a : Nat, a = x.toNat / 2 ^ i % 2 := ⟨_, rfl⟩
        obtain ⟨b, hb⟩ : ∃ b : Nat, b = y.toNat / 2 ^ i % 2 := ⟨_, rfl⟩
        obtain ⟨Z, hZ⟩ : ∃ Z : Nat, Z = M00.zz op x y / 2 ^ i % 2 := ⟨_, rfl⟩
        have hf := fN_zz h3 ha hb
        rw [← hZ] at hf
        rw [← ha, ← hb]
        have a01 : a = 0 ∨ a = 1 := by omega
        have b01 : b = 0 ∨ b = 1 := by omega
        have Z01 : Z = 0 ∨ Z = 1 := by omega
        have step := M00.bit_step (M00.zz op x y) i
        rw [← hZ] at step
        refine cut_same (decide (Z = 1)) ?_ ?_
        · clear step q q0 ea eb hop
          have yes : ∀ {t : Bool}, (t = true ↔ Z = 1) → ∀ H2 : Hp, H2 = H' → t = decide (Z = 1) ∧ H2 = H' := fun {t} h H2 e => ⟨by cases t with | true => exact (decide_eq_true (h.1 rfl)).symm | false => exact (decide_eq_false fun z => by cases h.2 z).symm, e⟩
          rcases h3 with h | h | h
          · subst h
            rw [fN_and] at hf
            unfold fB at hf
            refine ⟨_, rfl, rfl, _, rfl, ite2 (fun _ => ?_) (fun c => absurd (by decide +kernel) c)⟩
            refine ⟨_, rfl, rfl, _, rfl, ite2 (fun c => yes ⟨fun _ => ?_, fun _ => rfl⟩ _ rfl) (fun c => ?_)⟩
            · have c := int_of c
              rw [if_pos (by omega)] at hf
              omega
            · have c : ¬ ((a : Int) + (b : Int) = 2) := fun z => c (decide_eq_true (by rw [z]))
              rw [if_neg (by omega)] at hf
              refine ⟨_, rfl, rfl, _, rfl, ite2 (fun c => absurd c (by decide +kernel)) (fun _ => iteF ?_)⟩
              refine ⟨_, rfl, rfl, _, rfl, ite2 (fun c => absurd c (by decide +kernel)) (fun _ => yes ⟨fun z => (by cases z), fun z => (by omega)⟩ _ rfl)⟩
          · subst h
            rw [fN_or] at hf
            unfold fE at hf
            refine ⟨_, rfl, rfl, _, rfl, ite2 (fun c => absurd c (by decide +kernel)) (fun _ => iteF ?_)⟩
            refine ⟨_, rfl, rfl, _, rfl, ite2 (fun _ => ?_) (fun c => absurd (by decide +kernel) c)⟩
            refine ⟨_, rfl, _, _, rfl, rfl, _, rfl, ite2 (fun c => yes ⟨fun _ => ?_, fun _ => rfl⟩ _ rfl) (fun c => ?_)⟩
            · have c := of_decide_eq_true c
              rw [if_pos (by omega)] at hf
              omega
            · have c : ¬ ((a : Int) + (b : Int) > 0) := fun z => c (decide_eq_true z)
              rw [if_neg (by omega)] at hf
              refine ⟨_, rfl, rfl, _, rfl, ite2 (fun c => absurd c (by decide +kernel)) (fun _ => yes ⟨fun z => (by cases z), fun z => (by omega)⟩ _ rfl)⟩
          · subst h
            rw [fN_xor] at hf
            unfold fU at hf
            refine ⟨_, rfl, rfl, _, rfl, ite2 (fun c => absurd c (by decide +kernel)) (fun _ => iteF ?_)⟩
            refine ⟨_, rfl, rfl, _, rfl, ite2 (fun c => absurd c (by decide +kernel)) (fun _ => iteF ?_)⟩
            refine ⟨_, rfl, rfl, _, rfl, ite2 (fun _ => ?_) (fun c => absurd (by decide +kernel) c)⟩
            refine ⟨_, rfl, rfl, _, rfl, ?_⟩
            refine yes ⟨fun c => ?_, fun z => ?_⟩ _ rfl
            · have c := int_of c
              rw [if_neg (by omega)] at hf
              omega
            · have : ¬ (a : Int) = (b : Int) := fun e => by rw [if_pos e] at hf; omega
              exact decide_eq_true (by rw [show (a : Int) + (b : Int) = 1 by omega])
        · refine ite2 (fun c => ?_) (fun c => ?_)
          · have c : Z = 1 := of_decide_eq_true c
            refine ⟨_, rfl, _, rfl, _, _, rfl, rfl, cp, _, _, rfl, rfl, by omega, some (.int (i : Nat)), some (.int ((a : Int) + (b : Int))), ?_, e⟩
            rw [← step, c, Int.natCast_one, Int.one_mul (1 * 2 ^ i)]
            rfl
          · have c : Z = 0 := by
              rcases Z01 with z | z
              · exact z
              · exact absurd (decide_eq_true z) c
            refine ⟨by omega, some (.int (i : Nat)), some (.int ((a : Int) + (b : Int))), ?_, e⟩
            rw [← step, c, Int.natCast_zero, Int.zero_mul, Int.add_zero]
            rfl
      · rintro σ' H' ⟨_, v6, v7, rfl, e⟩
        refine ⟨_, rfl, toI ?_ (q _ e)⟩
        have z := M00.zz_val h3 x0 x1 y0 y1
        have pn := M00.pow_cast n
        have lt : M00.zz op x y % 2 ^ n < 2 ^ n := Nat.mod_lt _ (Nat.two_pow_pos n)
        rw [Int.emod_eq_of_lt (by omega) (by omega)] at z
        exact z
    have h3 := not3 d4
    -- shl
    refine ⟨_, rfl, rfl, _, rfl, ite2 (fun c => ?_) (fun d5 => ?_)⟩
    · have eo := streqC c
      refine ⟨_, rfl, _, rfl, _, _, rfl, rfl, _, rfl, ite2 (fun e => ?_) (fun e => ?_)⟩
      · have e := of_decide_eq_true e
        refine toI ?_ (q _ sp)
        rw [eo, M00.val_shl, if_neg (by omega)]
      · have e : ¬ (y ≥ (n : Int)) := fun z => e (decide_eq_true z)
        have yp := M00.pow_lt y.toNat (by omega)
        have yp0 := M00.pow_pos' y.toNat
        have cp : CPow 1 y := ⟨by omega, by omega, by decide⟩
        have cm2 : CMul x (1 * 2 ^ y.toNat) := .inl ⟨by omega, by omega⟩
        have cd : CDiv (x * (1 * 2 ^ y.toNat)) (2 ^ n) := ⟨by omega, by omega⟩
        refine ⟨_, rfl, _, rfl, _, _, rfl, rfl, cp, _, _, rfl, rfl, cm2, _, rfl, _, rfl, _, _, rfl, rfl, cp, _, _, rfl, rfl, cm2, _, rfl, _, _, rfl, rfl, cd, _, rfl, _, _, rfl, rfl, .inr ⟨by omega, by omega⟩, _, _, rfl, rfl, toI ?_ (q _ sp)⟩
        rw [eo, M00.val_shl, if_pos (by omega), mod_sub, Int.one_mul]
    -- shr
    refine ⟨_, rfl, rfl, _, rfl, ite2 (fun c => ?_) (fun d6 => ?_)⟩
    · have eo := streqC c
      refine ⟨_, rfl, _, rfl, _, _, rfl, rfl, _, rfl, ite2 (fun e => ?_) (fun e => ?_)⟩
      · have e := of_decide_eq_true e
        refine toI ?_ (q _ sp)
        rw [eo, M00.val_shr, if_neg (by omega)]
      · have e : ¬ (y ≥ (n : Int)) := fun z => e (decide_eq_true z)
        have yp := M00.pow_lt y.toNat (by omega)
        have yp0 := M00.pow_pos' y.toNat
        have cp : CPow 1 y := ⟨by omega, by omega, by decide⟩
        refine ⟨_, rfl, _, rfl, _, _, rfl, rfl, cp, _, _, rfl, rfl, ⟨by omega, by omega⟩, toI ?_ (q _ sp)⟩
        rw [eo, M00.val_shr, if_pos (by omega), Int.one_mul]
    -- less
    refine ⟨_, rfl, rfl, _, rfl, ite2 (fun c => ?_) (fun d7 => ?_)⟩
    · have eo := streqC c
      refine ⟨_, rfl, _, rfl, _, _, rfl, rfl, _, rfl, ite2 (fun e => ?_) (fun e => ?_)⟩
      · refine toI ?_ (q _ sp)
        rw [eo, M00.val_less, if_pos (of_decide_eq_true e)]
      · refine toI ?_ (q _ sp)
        rw [eo, M00.val_less, if_neg (fun z => e (decide_eq_true z))]
    -- equal
    refine ⟨_, rfl, rfl, _, rfl, ite2 (fun c => ?_) (fun d8 => ?_)⟩
    · have eo := streqC c
      refine ⟨_, rfl, _, rfl, rfl, _, rfl, ite2 (fun e => ?_) (fun e => ?_)⟩
      · refine toI ?_ (q _ sp)
        rw [eo, M00.val_equal, if_pos (int_of e)]
      · refine toI ?_ (q _ sp)
        rw [eo, M00.val_equal, if_neg (fun z => e (decide_eq_true (by rw [z])))]
    -- not
    refine ⟨_, rfl, rfl, _, rfl, ite2 (fun c => ?_) (fun d9 => ?_)⟩
    · have eo := streqC c
      refine ⟨_, rfl, _, _, rfl, rfl, _, rfl, _, _, rfl, rfl, toI ?_ (q _ sp)⟩
      rw [eo, M00.val_not]
    have eo := M00.last_neg hop (strneC d9) (strneC d8) (strneC d1) (strneC d2) (strneC d3) h3.1 h3.2.1 h3.2.2 (strneC d5) (strneC d6) (strneC d7)
    refine ⟨_, rfl, rfl, _, rfl, ite2 (fun e => ?_) (fun e => ?_)⟩
    · have e := int_of e
      refine toI ?_ (q _ sp)
      rw [eo, M00.val_neg, e, Int.sub_zero, Int.zero_emod]
    · have e : ¬ x = 0 := fun z => e (decide_eq_true (by rw [z]))
      refine ⟨_, rfl, _, rfl, _, _, rfl, rfl, toI ?_ (q _ sp)⟩
      rw [eo, M00.val_neg, show (0 : Int) - x = (2 ^ n - x) + 2 ^ n * (-1) by omega, ← mod_is ⟨by omega, by omega⟩]
end
end My


set_option Elab.async false
set_option maxRecDepth 100000
set_option maxHeartbeats 4000000
set_option linter.all false
namespace My
open PySem L2 PyProof.Rows
open C8 (pss_cut)
def wsOf (zs : List Int) : Nat → Int := fun v => zs.getD v 0
def spNum (K : PySem.W.Frag) : Sp := fun vs H Q _ => ∃ (q0 W V0 : Addr) (s : Src) (zs vals : List Int), vs = [.ref q0, .ref W, .ref V0] ∧ Dp K H (.ref q0) s.data ∧ SqL K H W (zs.map V.int) ∧ zs.length = 3 ∧ SqL K H V0 (vals.map V.int) ∧ (∃ w, s.ok w vals.length) ∧ Q (.int (s.val (wsOf zs) vals)) H
def spWords : Sp := fun vs H Q _ => ∃ (d L : Addr) (n : Nat), vs = [.ref d, .int n] ∧ 1 ≤ n ∧ n ≤ 16 ∧ DrawAt H d L ∧ ∀ (H' : Hp) (r : Addr) (zs : List Int), DrawAt H' d L → But [d] H H' → H r = none → H' r = some (.lst (zs.map V.int)) → zs.length = 3 → (∀ z ∈ zs, 0 ≤ z ∧ z < 2 ^ n) → Q (.ref r) H'
def spLBits (P : Program) (w : World) (K : PySem.W.Frag) : Sp := fun vs H Q _ => ∃ (W : Addr) (n : Nat) (zs : List Int), vs = [.ref W, .int n] ∧ n ≤ 16 ∧ SqL K H W (zs.map V.int) ∧ zs.length = 3 ∧ (∀ z ∈ zs, 0 ≤ z ∧ z < 2 ^ n) ∧ ∀ H' B rows, Same H H' → H B = none → BitsAt P w K H' B rows → EnvW n (envOf rows) (wsOf zs) → Q (.ref B) H'
theorem valN_ne {xs : NRows} {k n : NK} {b : Addr} {v : V} (h : n ≠ k) : valN (xs ++ [(k, b, v)]) n = valN xs n := by
  unfold valN
  rw [List.find?_append, List.find?_cons_of_neg (by simpa using fun e => h e.symm), List.find?_nil, Option.or_none]
theorem at_nat' {zs : List Int} {v : Nat} (h : v < zs.length) : atI (zs.map V.int) ((v : Nat) : Int) = some (.int (wsOf zs v)) := by
  refine atI_nat ?_
  rw [List.getElem?_map, List.getElem?_eq_getElem h]
  show some (V.int _) = some (V.int (zs.getD v 0))
  rw [List.getD_eq_getElem?_getD, List.getElem?_eq_getElem h]
  rfl
/-- the bits ahead of (v, k) are entered -/
structure BitRows (zs : List Int) (n v k : Nat) (rows : NRows) : Prop where
  old : ∀ v' k', v' < 3 → k' < n → (v' < v ∨ (v' = v ∧ k' < k)) → valN rows (nmVK v' k') = if wsOf zs v' / 2 ^ k' % 2 = 1 then some (.int 1) else none
  new : ∀ v' k', (v < v' ∨ (v' = v ∧ k ≤ k')) → valN rows (nmVK v' k') = none
  len : rows.length ≤ v * n + k
  one : ∀ x ∈ rows, x.2.2 = V.int 1
theorem BitRows.next {zs : List Int} {n v : Nat} {rows : NRows} (h : BitRows zs n v n rows) : BitRows zs n (v + 1) 0 rows := by
  refine ⟨fun v' k' h1 h2 h3 => h.old v' k' h1 h2 (by omega), fun v' k' h1 => h.new v' k' (by omega), ?_, h.one⟩
  have := h.len
  rw [Nat.add_mul]
  omega
theorem BitRows.skip {zs : List Int} {n v k : Nat} {rows : NRows} (h : BitRows zs n v k rows) (c : ¬ wsOf zs v / 2 ^ k % 2 = 1) : BitRows zs n v (k + 1) rows := by
  refine ⟨fun v' k' h1 h2 h3 => ?_, fun v' k' h1 => h.new v' k' (by omega), by have := h.len; omega, h.one⟩
  by_cases e : v' = v ∧ k' = k
  · rw [e.1, e.2, if_neg c]
    exact h.new v k (.inr ⟨rfl, Nat.le_refl _⟩)
  · exact h.old v' k' h1 h2 (by omega)
theorem BitRows.push {zs : List Int} {n v k : Nat} {rows : NRows} {t : Addr} (h : BitRows zs n v k rows) (c : wsOf zs v / 2 ^ k % 2 = 1) : BitRows zs n v (k + 1) (rows ++ [(nmVK v k, t, .int 1)]) := by
  have hno := h.new v k (.inr ⟨rfl, Nat.le_refl _⟩)
  have ne : ∀ {v' k' : Nat}, ¬ (v' = v ∧ k' = k) → nmVK v' k' ≠ nmVK v k := fun h e => h (nmVK_inj e)
  refine ⟨fun v' k' h1 h2 h3 => ?_, fun v' k' h1 => ?_, by have := h.len; rw [List.length_append, List.length_singleton]; omega, fun x hx => ?_⟩
  · by_cases e : v' = v ∧ k' = k
    · rw [e.1, e.2, if_pos c]
      exact valN_app hno
    · rw [valN_ne (ne e)]
      exact h.old v' k' h1 h2 (by omega)
  · rw [valN_ne (ne (by omega))]
    exact h.new v' k' (by omega)
  · rcases List.mem_append.mp hx with h1 | h1
    · exact h.one x h1
    · rw [List.mem_singleton.mp h1]
theorem DN.same {P : Program} {w : World} {K : PySem.W.Frag} {H H' : Hp} {B : Addr} {rows : NRows} (h : DN P w K H B rows) (s : Same H H') : DN P w K H' B rows := by
  refine ⟨?_, h.len, fun x hx => ⟨dp_mono s _ (h.keys x hx).1, (h.keys x hx).2⟩⟩
  rcases h.at_ with e | ⟨e0, e⟩
  · exact .inl (s _ _ e)
  · exact .inr ⟨e0, s _ _ e⟩
/-- a key put in -/
theorem DN.push {P : Program} {w : World} {K : PySem.W.Frag} {H : Hp} {B t : Addr} {rows : NRows} {k : NK} {v : V} (h : DN P w K H B rows) (ht : Dp K H (.ref t) k.data) (h8 : k.depth ≤ 8) (hl : rows.length + 1 ≤ sizeLine) : DN P w K (upd H B (dnO P w B (rows ++ [(k, t, v)]))) B (rows ++ [(k, t, v)]) := by
  have mB : ∀ a ∈ [B], Mut (H a) := fun a ha => by
    rw [List.mem_singleton.mp ha]
    rcases h.at_ with e | ⟨_, e⟩ <;> rw [e] <;> exact True.intro
  have bB : But [B] H (upd H B (dnO P w B (rows ++ [(k, t, v)]))) := .put (.head _) _
  refine ⟨.inl upd_same, by rw [List.length_append, List.length_singleton]; exact hl, fun x hx => ?_⟩
  rcases List.mem_append.mp hx with h1 | h1
  · exact ⟨dp_but mB bB _ (nk_noLst _) (h.keys x h1).1, (h.keys x h1).2⟩
  · rw [List.mem_singleton.mp h1]
    exact ⟨dp_but mB bB _ (nk_noLst _) ht, h8⟩
section
variable {P : Program} {w : World} {K : PySem.W.Frag} {mg : Str → Option Value} {base : Heap} {f C : Addr} {fd : FuncData}
theorem ok__law_number (D : Def K mg "_law_number" ["made", "words", "values"] s__law_number f fd) : Own P w K mg base "_law_number" ["made", "words", "values"] 1 (spNum K) := by
  refine ⟨f, fd, D.mg, D.fn.kp, D.bd, D.fn.ok sc__law_number (fun vs H Q E h => ?_) (fun cdv A outer s H vs Q E hr h => ?_)⟩
  · obtain ⟨q0, W, V0, s, zs, vals, rfl, _⟩ := h
    rfl
  · obtain ⟨q0, W, V0, s, zs, vals, rfl, hd, hW, h3, hV, ⟨w', ok⟩, q⟩ := h
    refine ⟨_, (pss_one (ps_ret (pe_ifExp (pt_cmpR op_eq (pe_ix ix_tup (pv 0) pe_int (fun _ _ => rfl)) pe_str (nomark _)) (pe_ix ix_tup (pv 0) pe_int (fun _ _ => rfl)) (pe_ifExp (pt_cmpR op_eq (pe_ix ix_tup (pv 0) pe_int (fun _ _ => rfl)) pe_str (nomark _)) (pe_ix ix_list (pv 1) (pe_ix ix_tup (pv 0) pe_int (fun _ _ => rfl)) (fun _ _ => rfl)) (pe_ix ix_list (pv 2) (pe_ix ix_tup (pv 0) pe_int (fun _ _ => rfl)) (fun _ _ => rfl)))))), ?_⟩
    cases s with
    | is n =>
      obtain ⟨t, a, b, e, ht, ha, hb⟩ := dp_two (show Dp K H (.ref q0) (.tuple [.str "is", .int n]) from hd)
      cases e
      cases ha
      cases hb
      refine ⟨_, rfl, q0, _, _, _, rfl, rfl, ht, at0', rfl, _, rfl, ite2 (fun _ => ?_) (fun c => absurd (by decide +kernel) c)⟩
      exact ⟨_, rfl, q0, _, _, _, rfl, rfl, ht, atI_nat (j := 1) rfl, q⟩
    | name v =>
      obtain ⟨t, a, b, e, ht, ha, hb⟩ := dp_two (show Dp K H (.ref q0) (.tuple [.str "name", .int v]) from hd)
      cases e
      cases ha
      cases hb
      have hv : v < 3 := ok
      refine ⟨_, rfl, q0, _, _, _, rfl, rfl, ht, at0', rfl, _, rfl, ite2 (fun c => absurd c (by decide +kernel)) (fun _ => ?_)⟩
      refine ⟨_, rfl, q0, _, _, _, rfl, rfl, ht, at0', rfl, _, rfl, ite2 (fun _ => ?_) (fun c => absurd (by decide +kernel) c)⟩
      exact ⟨_, rfl, _, rfl, q0, _, _, _, rfl, rfl, ht, atI_nat (j := 1) rfl, W, _, _, _, rfl, rfl, hW, at_nat' (by omega), q⟩
    | row k =>
      obtain ⟨t, a, b, e, ht, ha, hb⟩ := dp_two (show Dp K H (.ref q0) (.tuple [.str "row", .int k]) from hd)
      cases e
      cases ha
      cases hb
      have hk : k < vals.length := ok
      refine ⟨_, rfl, q0, _, _, _, rfl, rfl, ht, at0', rfl, _, rfl, ite2 (fun c => absurd c (by decide +kernel)) (fun _ => ?_)⟩
      refine ⟨_, rfl, q0, _, _, _, rfl, rfl, ht, at0', rfl, _, rfl, ite2 (fun c => absurd c (by decide +kernel)) (fun _ => ?_)⟩
      exact ⟨_, rfl, _, rfl, q0, _, _, _, rfl, rfl, ht, atI_nat (j := 1) rfl, V0, _, _, _, rfl, rfl, hV, at_nat' hk, q⟩
theorem ok__law_words (T : Txt K mg) (D : Def K mg "_law_words" ["draw", "w"] s__law_words f fd) (O1 : Own P w K mg base "_law_take" ["draw", "many"] 1 spTake) (O2 : Own P w K mg base "_law_top" ["w"] 1 spTop) : Own P w K mg base "_law_words" ["draw", "w"] 2 spWords := by
  obtain ⟨f_law_take, fd_law_take, m_law_take, k_law_take, b_law_take, G_law_take⟩ := O1
  obtain ⟨f_law_top, fd_law_top, m_law_top, k_law_top, b_law_top, G_law_top⟩ := O2
  refine ⟨f, fd, D.mg, D.fn.kp, D.bd, D.fn.ok sc__law_words (fun vs H Q E h => ?_) (fun cdv A outer s H vs Q E hr h => ?_)⟩
  · obtain ⟨d, L, n, rfl, _⟩ := h
    rfl
  · obtain ⟨d, L, n, rfl, hn1, hn, D0, q⟩ := h
    have hp := M00.pow_lt n hn
    have hp0 := M00.pow_pos' n
    have one : 1 * (2 : Int) ^ n = 2 ^ n := Int.one_mul _
    refine ⟨_, (pss_one (ps_ret (pe_lc (own := [("v", 2)]) (g := gName 2) (tt := tYes) rfl sc__law_words.nd (pi_range1 (by rfl) T.m_range (pa_cons pe_int pa_nil)) (blkOk_by (N := N__law_words) (sc := defScope s__law_words) (own := [("v", 2)]) (by decide +kernel)) (fun _ _ _ _ _ => (pg_name (i := 2) sc__law_words.nd rfl (Or.inl rfl))) (fun _ _ _ _ _ => pts_nil) (fun _ _ _ _ _ => (pe_ix (ix_listK (K := K) rfl) (pe_lst (pa_cons pe_int (pa_cons pe_int (pa_cons (pe_call G_law_top (hr.mono (by omega)) rfl m_law_top k_law_top b_law_top .nil pass0 (pa_cons (pv 1) pa_nil)) (pa_cons (pe_call G_law_take (hr.mono (by omega)) rfl m_law_take k_law_take b_law_take .nil pass0 (pa_cons (pv 0) (pa_cons (pe_op op_shl pe_int (pv 1)) pa_nil))) pa_nil))))) (pe_call G_law_take (hr.mono (by omega)) rfl m_law_take k_law_take b_law_take .nil pass0 (pa_cons (pv 0) (pa_cons pe_int pa_nil))) (fun _ _ => rfl)))))), ?_⟩
    refine ⟨3, rfl, by decide, by decide, fun R fR => lc_range (lo := 0) (n := 3) (fun i H' => ∃ zs : List Int, H' R = some (.lst (zs.map V.int)) ∧ DrawAt H' d L ∧ But [d] H H' ∧ zs.length = i ∧ (∀ z ∈ zs, 0 ≤ z ∧ z < 2 ^ n)) ⟨[], upd_same, D0.new fR, .new fR _, rfl, fun z hz => nomatch hz⟩ ?_ ?_⟩
    · rintro i H1 hi ⟨zs, hR1, D1, b1, lz, rz⟩
      refine ⟨rfl, yesV ?_⟩
      rw [if_pos rfl]
      have nRd : R ∉ [d] := fun m => by
        obtain ⟨u, hu⟩ := D0.at
        rw [List.mem_singleton.mp m, hu] at fR
        cases fR
      refine ⟨_, rfl, n, rfl, by omega, ?_⟩
      refine ⟨_, rfl, _, rfl, _, _, rfl, rfl, ⟨by omega, by omega, by decide⟩, d, L, 1 * 2 ^ n, rfl, by omega, by omega, D1, fun u H2 u0 u1 D2 s2 => ?_⟩
      refine ⟨by show 4 ≤ sizeLine; decide, fun l fl => ?_⟩
      have D3 := D2.new fl (o := .lst [.int 0, .int 1, .int (2 ^ n - 1), .int u])
      refine ⟨_, rfl, d, L, 4, rfl, by decide, by decide, D3, fun k H4 k0 k1 D4 s4 => ?_⟩
      have hl4 : H4 l = some (.lst ([0, 1, 2 ^ n - 1, u].map V.int)) := hide_le _ _ (s4 _ _ (D2.in fl))
      obtain ⟨z, hz, ez⟩ := atI_get (ns := [0, 1, 2 ^ n - 1, u]) k0 (by show k < 4; exact k1)
      have rz1 : 0 ≤ z ∧ z < 2 ^ n := by
        simp only [List.mem_cons, List.not_mem_nil, or_false] at hz
        have two : (2 : Int) ≤ 2 ^ n := by
          have := Nat.pow_le_pow_right (n := 2) (by decide) hn1
          have e : ((2 ^ n : Nat) : Int) = 2 ^ n := by rw [Int.natCast_pow]; rfl
          omega
        rcases hz with h | h | h | h <;> omega
      have b14 : But [d] H1 H4 := (But.of_hide s2).trans ((But.new fl _).trans (But.of_hide s4))
      have hR4 := b14 _ _ nRd hR1
      refine ⟨l, _, _, _, rfl, rfl, SqL.of hl4, ez, zs.map V.int, hR4, by rw [List.length_map, lz]; exact Nat.lt_of_lt_of_le (show i < 1000 by omega) (by decide), zs ++ [z], by rw [upd_same, List.map_append]; rfl, ?_, ?_, by rw [List.length_append, lz]; rfl, fun y hy => ?_⟩
      · exact D4.put _ (fun e => nRd (by rw [← e]; exact .head _)) (fun e => by
          obtain ⟨u, hu⟩ := D0.cells
          rw [e, fR] at hu
          cases hu)
      · exact fun b o nb e => by rw [upd_ne (ne_of_none e fR)]; exact b14 _ _ nb (b1 _ _ nb e)
      · rcases List.mem_append.mp hy with h | h
        · exact rz y h
        · rw [List.mem_singleton.mp h]; exact rz1
    · rintro H1 ⟨zs, hR1, D1, b1, lz, rz⟩
      exact q H1 R zs D1 b1 fR hR1 lz rz
theorem ok__law_bits (T : Txt K mg) (D : Def K mg "_law_bits" ["words", "w"] s__law_bits f fd) : Own P w K mg base "_law_bits" ["words", "w"] 1 (spLBits P w K) := by
  refine ⟨f, fd, D.mg, D.fn.kp, D.bd, D.fn.ok sc__law_bits (fun vs H Q E h => ?_) (fun cdv A outer s H vs Q E hr h => ?_)⟩
  · obtain ⟨W, n, zs, rfl, _⟩ := h
    rfl
  · obtain ⟨W, n, zs, rfl, hn, hW, h3, hz, q⟩ := h
    refine ⟨_, (pss_cons (ps_set (i := 2) sc__law_bits.nd rfl (Or.inl rfl) pe_dnewK)
      (pss_cons (ps_for PassesOwn.never rfl (pi_range1 (by rfl) T.m_range (pa_cons pe_int pa_nil)) (pg_name (i := 3) sc__law_bits.nd rfl (Or.inl rfl)) (pss_one (ps_for PassesOwn.never rfl (pi_range1 (by rfl) T.m_range (pa_cons (pv 1) pa_nil)) (pg_name (i := 4) sc__law_bits.nd rfl (Or.inl rfl)) (pss_one (ps_if (pt_cmpR op_eq (pe_op op_mod (pe_op op_fdiv (pe_ix ix_list (pv 0) (pv 3) (fun _ _ => rfl)) (pe_op op_shl pe_int (pv 4))) pe_int) pe_int (nomark _)) (pss_one (ps_asg pe_int (pg_sub (pv 2) (pe_tup (pa_cons (pv 3) (pa_cons (pv 4) pa_nil))) (set_N (room65 hr))))) pss_nil)))))
      (pss_one (ps_ret (pv 2))))), ?_⟩
    refine fun B fB => ?_
    have sB := same_new fB (.dK [])
    refine ⟨3, rfl, by decide, by decide, for_range (lo := 0) (n := 3) (fun v σ' H' => v ≤ 3 ∧ ∃ (rows : NRows) (o3 o4 : Option V), σ' = [some (.ref W), some (.int n), some (.ref B), o3, o4] ∧ Same H H' ∧ DN P w K H' B rows ∧ BitRows zs n v 0 rows) ⟨by decide, [], none, none, rfl, sB, ⟨.inr ⟨rfl, upd_same⟩, Nat.zero_le _, fun x hx => nomatch hx⟩, ⟨fun v' k' _ _ h => absurd h (by omega), fun _ _ _ => rfl, Nat.zero_le _, fun x hx => nomatch hx⟩⟩ ?_ ?_⟩
    · rintro v σ' H1 hv ⟨_, rows, o3, o4, rfl, s1, DN1, R1⟩
      refine ⟨_, rfl, (n : Int), rfl, by omega, by omega, for_range (lo := 0) (n := n) (fun k σ' H' => k ≤ n ∧ ∃ (rows : NRows) (o4 : Option V), σ' = [some (.ref W), some (.int n), some (.ref B), some (.int (v : Nat)), o4] ∧ Same H H' ∧ DN P w K H' B rows ∧ BitRows zs n v k rows) ⟨Nat.zero_le _, rows, o4, by rw [Int.zero_add]; rfl, s1, DN1, R1⟩ ?_ ?_⟩
      · rintro k σ' H2 hk ⟨_, rows, o4, rfl, s2, DN2, R2⟩
        rw [Int.zero_add]
        have hk1 := M00.pow_lt k (by omega)
        have hk0 := M00.pow_pos' k
        have cp : CPow 1 (k : Int) := ⟨by omega, by omega, by decide⟩
        have cd : CDiv (wsOf zs v) (1 * 2 ^ k) := ⟨by omega, by omega⟩
        refine ⟨_, rfl, _, rfl, W, _, _, _, rfl, rfl, sql_mono s2 hW, at_nat' (by omega), _, rfl, _, _, rfl, rfl, cp, _, _, rfl, rfl, cd, _, _, rfl, rfl, (by show (0 : Int) < 2; decide), rfl, _, rfl, ite2 (fun c => ?_) (fun c => ?_)⟩
        · have c : wsOf zs v / (1 * 2 ^ k) % 2 = 1 := int_of c
          rw [Int.one_mul] at c
          refine ⟨_, rfl, _, rfl, _, rfl, by show 2 ≤ sizeLine; decide, fun t ft => ?_⟩
          have st := same_new ft (.tup [.int (v : Nat), .int (k : Nat)])
          have hno := R2.new v k (.inr ⟨rfl, Nat.le_refl _⟩)
          have len2 := R2.len
          have vn : v * n ≤ 2 * 16 := Nat.mul_le_mul (by omega) hn
          have DN3 := DN2.same st
          have ht : Dp K (upd H2 t (.tup [.int (v : Nat), .int (k : Nat)])) (.ref t) (nmVK v k).data := .tup (SqT.of upd_same) (.cons (.int _) (.cons (.int _) .nil))
          refine ⟨t, nmVK v k, B, rows, rfl, rfl, ht, Nat.le_trans (nmVK_depth v k) (by decide), DN3, Nat.lt_of_le_of_lt (show rows.length ≤ 1000 by omega) (by decide), hno, ?_⟩
          have sB2 : Same H (upd (upd H2 t (.tup [.int (v : Nat), .int (k : Nat)])) B (dnO P w B (rows ++ [(nmVK v k, t, .int 1)]))) := fun b o e => by
            rw [upd_ne (ne_of_none e fB)]
            exact st _ _ (s2 _ _ e)
          have DN4 := DN3.push (v := .int 1) ht (Nat.le_trans (nmVK_depth v k) (by decide)) (Nat.le_trans (show rows.length + 1 ≤ 1000 by omega) (by decide))
          exact ⟨by omega, rows ++ [(nmVK v k, t, V.int 1)], some (V.int (k : Nat)), rfl, sB2, DN4, R2.push c⟩
        · have c : ¬ (wsOf zs v / (1 * 2 ^ k) % 2 = 1) := fun z => c (decide_eq_true (congrArg V.int z))
          rw [Int.one_mul] at c
          exact ⟨by omega, rows, _, rfl, s2, DN2, R2.skip c⟩
      · rintro σ' H2 ⟨_, rows, o4, rfl, s2, DN2, R2⟩
        exact ⟨by omega, rows, _, _, rfl, s2, DN2, R2.next⟩
    · rintro σ' H1 ⟨_, rows, o3, o4, rfl, s1, DN1, R1⟩
      have B1 : BitsAt P w K H1 B rows := ⟨DN1, fun x hx => ⟨1, R1.one x hx, .inr rfl⟩⟩
      refine ⟨_, rfl, q H1 B rows s1 fB B1 ⟨envOf_bit B1, fun v hv => ?_, fun v k hv hk => ?_⟩⟩
      · unfold wsOf
        rw [List.getD_eq_getElem?_getD, List.getElem?_eq_getElem (by omega)]
        exact hz _ (List.getElem_mem _)
      · unfold envOf
        rw [R1.old v k hv hk (.inl hv)]
        have m : wsOf zs v / 2 ^ k % 2 = 0 ∨ wsOf zs v / 2 ^ k % 2 = 1 := by omega
        rcases m with e | e
        · rw [e, if_neg (by decide)]
        · rw [e, if_pos rfl]
end
end My

set_option Elab.async false
set_option maxRecDepth 100000
set_option maxHeartbeats 4000000
set_option linter.all false
/-! Rows of words in the heap. -/
namespace My
open PySem L2 PyProof.Rows
abbrev Rws := List (List Int × Ds)
structure WordT (K : PySem.W.Frag) (H : Hp) (A : List Addr) (gs : List Gt) (w : Nat) (v : V) (zs : List Int) (d : PyData) : Prop where
  ex : ∃ t r q, v = .ref t ∧ SqT K H t [.ref r, .ref q] ∧ H r = some (.lst (zs.map V.int)) ∧ r ∉ A ∧ Dp K H (.ref q) d
  nl : noLst d = true
  len : zs.length = w
  ok : ∀ z ∈ zs, okL gs z
theorem WordT.keep {K : PySem.W.Frag} {H H' : Hp} {A : List Addr} {gs gs' : List Gt} {w : Nat} {v : V} {zs : List Int} {d : PyData} (h : WordT K H A gs w v zs d) (m : ∀ a ∈ A, Mut (H a)) (b : But A H H') (p : gs <+: gs') : WordT K H' A gs' w v zs d := by
  obtain ⟨t, r, q, e, h1, h2, h3, h4⟩ := h.ex
  exact ⟨⟨t, r, q, e, sqt_but m b h1, b _ _ h3 h2, h3, dp_but m b _ h.nl h4⟩, h.nl, h.len, fun z hz => (h.ok z hz).mono p⟩
structure RowsAt (K : PySem.W.Frag) (H : Hp) (A : List Addr) (gs : List Gt) (w : Nat) (R : Addr) (rs : Rws) : Prop where
  ex : ∃ vs, H R = some (.lst vs) ∧ vs.length = rs.length ∧ ∀ (i : Nat) (v : V) (r : List Int × Ds), vs[i]? = some v → rs[i]? = some r → WordT K H A gs w v r.1 r.2.data
theorem src_noLst (s : Src) : noLst s.data = true := by cases s <;> rfl
theorem ds_noLst (d : Ds) : noLst d.data = true := by
  show (true && (noLst d.x.data && (noLst d.y.data && true))) = true
  rw [src_noLst, src_noLst]
  rfl
theorem RowsAt.keep {K : PySem.W.Frag} {H H' : Hp} {A : List Addr} {gs gs' : List Gt} {w : Nat} {R : Addr} {rs : Rws} (h : RowsAt K H A gs w R rs) (m : ∀ a ∈ A, Mut (H a)) (b : But A H H') (p : gs <+: gs') (hR : H' R = H R) : RowsAt K H' A gs' w R rs := by
  obtain ⟨vs, h1, h2, h3⟩ := h.ex
  exact ⟨vs, by rw [hR]; exact h1, h2, fun i v r e1 e2 => (h3 i v r e1 e2).keep m b p⟩
theorem RowsAt.snoc {K : PySem.W.Frag} {H : Hp} {A : List Addr} {gs : List Gt} {w : Nat} {R : Addr} {rs : Rws} {vs : List V} {v : V} {zs : List Int} {d : Ds} (h : RowsAt K H A gs w R rs) (hv : H R = some (.lst vs)) (m : ∀ a ∈ A, Mut (H a)) (hRA : R ∈ A) (hw : WordT K H A gs w v zs d.data) : RowsAt K (upd H R (.lst (vs ++ [v]))) A gs w R (rs ++ [(zs, d)]) := by
  obtain ⟨vs', h1, h2, h3⟩ := h.ex
  rw [h1] at hv
  have e := HO.lst.inj (Option.some.inj hv)
  subst e
  have b : But A H (upd H R (.lst (vs' ++ [v]))) := .put hRA _
  refine ⟨vs' ++ [v], upd_same, by rw [List.length_append, List.length_append, h2]; rfl, fun i u r e1 e2 => ?_⟩
  by_cases hi : i < vs'.length
  · rw [List.getElem?_append_left hi] at e1
    rw [List.getElem?_append_left (by omega)] at e2
    exact (h3 i u r e1 e2).keep m b (List.prefix_refl _)
  · have hi2 : i = vs'.length := by
      have := (List.getElem?_eq_some_iff.mp e1).1
      rw [List.length_append, List.length_singleton] at this
      omega
    rw [hi2, List.getElem?_append_right (Nat.le_refl _), Nat.sub_self] at e1
    rw [hi2, h2, List.getElem?_append_right (Nat.le_refl _), Nat.sub_self] at e2
    cases e1
    cases e2
    exact hw.keep m b (List.prefix_refl _)
def rowD (r : List Int × Ds) : PyData := .tuple [.list (r.1.map PyData.int), r.2.data]
theorem ints_dpa {K : PySem.W.Frag} {H : Hp} : ∀ ns : List Int, DpAll K H (ns.map V.int) (ns.map PyData.int)
  | [] => .nil
  | n :: ns => .cons (.int n) (ints_dpa ns)
theorem dpa_of_idx {K : PySem.W.Frag} {H : Hp} : ∀ {vs : List V} {ds : List PyData}, vs.length = ds.length → (∀ (i : Nat) (v : V) (d : PyData), vs[i]? = some v → ds[i]? = some d → Dp K H v d) → DpAll K H vs ds
  | [], [], _, _ => .nil
  | [], _ :: _, h, _ => by cases h
  | _ :: _, [], h, _ => by cases h
  | v :: vs, d :: ds, h, k => .cons (k 0 v d rfl rfl) (dpa_of_idx (Nat.succ.inj h) fun i u e h1 h2 => k (i + 1) u e h1 h2)
theorem RowsAt.dp {K : PySem.W.Frag} {H : Hp} {A : List Addr} {gs : List Gt} {w : Nat} {R : Addr} {rs : Rws} (h : RowsAt K H A gs w R rs) : Dp K H (.ref R) (.list (rs.map rowD)) := by
  obtain ⟨vs, h1, h2, h3⟩ := h.ex
  refine .lst (SqL.of h1) (dpa_of_idx (by rw [List.length_map]; exact h2) fun i v d e1 e2 => ?_)
  rw [List.getElem?_map] at e2
  obtain ⟨r, hr, rfl⟩ := Option.map_eq_some_iff.mp e2
  obtain ⟨t, r', q, rfl, k1, k2, _, k4⟩ := (h3 i v r e1 hr).ex
  exact .tup k1 (.cons (.lst (SqL.of k2) (ints_dpa _)) (.cons k4 .nil))
structure RowsSem (w : Nat) (gs : List Gt) (rs : Rws) : Prop where
  ok : DsOk w (rs.map (·.2))
  sem : ∀ (i : Nat) (r : List Int × Ds), rs[i]? = some r → Sem w (rs.map (·.2)) gs r.1 (.row i)
theorem RowsSem.ops {w : Nat} {gs : List Gt} {rs : Rws} (h : RowsSem w gs rs) : ∀ r ∈ rs, r.2.op ∈ M00.ops := fun r hr => by
  obtain ⟨i, hi⟩ := List.getElem?_of_mem hr
  exact (h.ok.each i r.2 (by rw [List.getElem?_map, hi]; rfl)).1
theorem RowsSem.pre {w : Nat} {gs gs' : List Gt} {rs : Rws} (h : RowsSem w gs rs) (hz : ∀ (i : Nat) (r : List Int × Ds), rs[i]? = some r → ∀ z ∈ r.1, okL gs z) (p : gs <+: gs') : RowsSem w gs' rs :=
  ⟨h.ok, fun i r e => (h.sem i r e).pre (hz i r e) p⟩
theorem RowsSem.snoc {w : Nat} {gs : List Gt} {rs : Rws} (h : RowsSem w gs rs) {zs : List Int} {d : Ds} (h1 : d.op ∈ M00.ops) (h2 : d.x.ok w rs.length) (h3 : d.y.ok w rs.length) (hs : ∀ env ws, EnvW w env ws → wv (bitsOf env gs) zs = M00.val d.op w (d.x.val ws (dsVals w ws (rs.map (·.2)))) (d.y.val ws (dsVals w ws (rs.map (·.2))))) : RowsSem w gs (rs ++ [(zs, d)]) := by
  have hl : (rs.map (·.2)).length = rs.length := List.length_map _
  refine ⟨?_, fun i r e => ?_⟩
  · rw [List.map_append]
    exact h.ok.snoc h1 (by rw [hl]; exact h2) (by rw [hl]; exact h3)
  · rw [List.map_append]
    by_cases hi : i < rs.length
    · rw [List.getElem?_append_left hi] at e
      exact (h.sem i r e).snoc (by rw [hl]; exact hi) d
    · have hi2 : i = rs.length := by
        have := (List.getElem?_eq_some_iff.mp e).1
        rw [List.length_append, List.length_singleton] at this
        omega
      rw [hi2, List.getElem?_append_right (Nat.le_refl _), Nat.sub_self] at e
      cases e
      intro env ws he
      rw [hs env ws he]
      show _ = (dsVals w ws (rs.map (·.2) ++ [d])).getD i 0
      rw [dsVals_snoc, List.getD_eq_getElem?_getD, hi2, List.getElem?_append_right (by rw [dsVals_len, hl]; exact Nat.le_refl _), dsVals_len, hl, Nat.sub_self]
      rfl
theorem lay_intsR : ∀ c : List Int, PyData.canLayAll0 (c.map PyData.int) = true
  | [] => rfl
  | x :: c => by
    rw [List.map_cons]
    simp only [PyData.canLayAll0, PyData.canLay0, Bool.true_and]
    exact lay_intsR c
theorem dep_intsR : ∀ c : List Int, PyData.depthAll (c.map PyData.int) = 0
  | [] => rfl
  | x :: c => by
    rw [List.map_cons]
    simp only [PyData.depthAll, PyData.depth]
    rw [dep_intsR c]
    rfl
theorem strOk_ops {op : Str} (h : op ∈ M00.ops) : PyData.strOk op = true := by
  simp only [M00.ops, List.mem_cons, List.mem_nil_iff, or_false] at h
  rcases h with h | h | h | h | h | h | h | h | h | h | h | h <;> rw [h] <;> decide +kernel
theorem strOk_is : PyData.strOk "is" = true := by decide +kernel
theorem strOk_name : PyData.strOk "name" = true := by decide +kernel
theorem strOk_row : PyData.strOk "row" = true := by decide +kernel
theorem lay_row (r : List Int × Ds) (h : r.2.op ∈ M00.ops) : PyData.canLay0 (rowD r) = true := by
  obtain ⟨zs, op, x, y⟩ := r
  have h := strOk_ops h
  cases x <;> cases y <;> simp [rowD, Ds.data, Src.data, PyData.canLay0, PyData.canLayAll0, lay_intsR, strOk_is, strOk_name, strOk_row] <;> exact h
theorem dep_row (r : List Int × Ds) : PyData.depth (rowD r) ≤ 10 := by
  obtain ⟨zs, op, x, y⟩ := r
  cases x <;> cases y <;> simp [rowD, Ds.data, Src.data, PyData.depth, PyData.depthAll, dep_intsR]
theorem lay_rows : ∀ rs : Rws, (∀ r ∈ rs, r.2.op ∈ M00.ops) → PyData.canLayAll0 (rs.map rowD) = true
  | [], _ => rfl
  | r :: rs, h => by
    rw [List.map_cons]
    simp only [PyData.canLayAll0, lay_row r (h r (.head _)), Bool.true_and]
    exact lay_rows rs fun x hx => h x (.tail _ hx)
theorem dep_rows : ∀ rs : Rws, PyData.depthAll (rs.map rowD) ≤ 10
  | [] => Nat.zero_le _
  | r :: rs => by
    rw [List.map_cons]
    simp only [PyData.depthAll]
    have h1 := dep_row r
    have h2 := dep_rows rs
    omega
theorem shp_rows {rs : Rws} (ho : ∀ r ∈ rs, r.2.op ∈ M00.ops) : SeqAt.shaped (.list (rs.map rowD)) = true := by
  have h := dep_rows rs
  show (PyData.canLay0 (.list (rs.map rowD)) && decide (PyData.depth (.list (rs.map rowD)) ≤ 64)) = true
  rw [Bool.and_eq_true]
  refine ⟨by simp only [PyData.canLay0]; exact lay_rows rs ho, decide_eq_true ?_⟩
  simp only [PyData.depth]
  omega
theorem eqv_nilR (rs : Rws) : PyData.eqv (.list (rs.map rowD)) (.list []) = decide (rs = []) := by
  cases rs with
  | nil => rfl
  | cons a r => rfl
theorem draw_pool_mut {P : Program} {w : World} {K : PySem.W.Frag} {H : Hp} {C p G D d L R : Addr} {gs : List Gt} (A : PoolAt P w K H C p G D gs) (h : DrawAt H d L) {vs : List V} (hR : H R = some (.lst vs)) : ∀ a ∈ [R, d, G, D], Mut (H a) := fun a ha => by
  rcases List.mem_cons.mp ha with e | ha
  · rw [e, hR]; exact True.intro
  · rcases List.mem_cons.mp ha with e | ha
    · rw [e]; exact h.mut
    · exact A.mut a ha
theorem RowsAt.descs {K : PySem.W.Frag} {H : Hp} {A : List Addr} {gs : List Gt} {w : Nat} {R : Addr} {rs : Rws} (h : RowsAt K H A gs w R rs) : ∃ vs qs : List V, H R = some (.lst vs) ∧ vs.length = rs.length ∧ qs.length = rs.length ∧ ∀ (i : Nat) (v : V) (r : List Int × Ds), vs[i]? = some v → rs[i]? = some r → ∃ t r' q, v = .ref t ∧ SqT K H t [.ref r', .ref q] ∧ qs[i]? = some (.ref q) ∧ Dp K H (.ref q) r.2.data := by
  obtain ⟨vs, h1, h2, h3⟩ := h.ex
  suffices g : ∀ (vs : List V) (rs : Rws), vs.length = rs.length → (∀ (i : Nat) (v : V) (r : List Int × Ds), vs[i]? = some v → rs[i]? = some r → WordT K H A gs w v r.1 r.2.data) → ∃ qs : List V, qs.length = rs.length ∧ ∀ (i : Nat) (v : V) (r : List Int × Ds), vs[i]? = some v → rs[i]? = some r → ∃ t r' q, v = .ref t ∧ SqT K H t [.ref r', .ref q] ∧ qs[i]? = some (.ref q) ∧ Dp K H (.ref q) r.2.data by
    obtain ⟨qs, l, e⟩ := g vs rs h2 h3
    exact ⟨vs, qs, h1, h2, l, e⟩
  intro vs
  induction vs with
  | nil =>
    intro rs hl _
    cases rs with
    | nil => exact ⟨[], rfl, fun i v r e => by simp at e⟩
    | cons _ _ => cases hl
  | cons v vs ih =>
    intro rs hl h
    cases rs with
    | nil => cases hl
    | cons r rs =>
      obtain ⟨qs, l, e⟩ := ih rs (Nat.succ.inj hl) fun i u x e1 e2 => h (i + 1) u x e1 e2
      obtain ⟨t, r', q, e1, e2, e3, e4, e5⟩ := (h 0 v r rfl rfl).ex
      refine ⟨.ref q :: qs, by rw [List.length_cons, List.length_cons, l], fun i u x k1 k2 => ?_⟩
      cases i with
      | zero =>
        cases k1
        cases k2
        exact ⟨t, r', q, e1, e2, rfl, e5⟩
      | succ i => exact e i u x k1 k2
theorem dp_three {K : PySem.W.Frag} {H : Hp} {v : V} {x y z : PyData} (h : Dp K H v (.tuple [x, y, z])) : ∃ t a b c, v = .ref t ∧ SqT K H t [a, b, c] ∧ Dp K H a x ∧ Dp K H b y ∧ Dp K H c z := by
  cases h with
  | tup hs ha =>
    cases ha with
    | cons h1 h2 =>
      cases h2 with
      | cons h3 h4 =>
        cases h4 with
        | cons h5 h6 =>
          cases h6
          exact ⟨_, _, _, _, rfl, hs, h1, h3, h5⟩
theorem src_ref {K : PySem.W.Frag} {H : Hp} {v : V} {s : Src} (h : Dp K H v s.data) : ∃ q, v = .ref q := by
  cases s <;> (cases h; exact ⟨_, rfl⟩)
theorem dsVals_take {w : Nat} {ws : Nat → Int} {ds : List Ds} {i : Nat} {d : Ds} (h : ds[i]? = some d) : dsVals w ws (ds.take (i + 1)) = dsVals w ws (ds.take i) ++ [M00.val d.op w (d.x.val ws (dsVals w ws (ds.take i))) (d.y.val ws (dsVals w ws (ds.take i)))] := by
  rw [List.take_add_one, h]
  exact dsVals_snoc w ws (ds.take i) d
theorem DsOk.take {w : Nat} {ds : List Ds} (h : DsOk w ds) (i : Nat) : DsOk w (ds.take i) := ⟨fun j d e => h.each j d (by
  have := (List.getElem?_eq_some_iff.mp e).1
  rw [List.length_take] at this
  rw [List.getElem?_take_of_lt (by omega)] at e
  exact e)⟩
theorem shp_intsR (c : List Int) : SeqAt.shaped (.list (c.map PyData.int)) = true := by
  show (PyData.canLay0 (.list (c.map PyData.int)) && decide (PyData.depth (.list (c.map PyData.int)) ≤ 64)) = true
  simp only [PyData.canLay0, PyData.depth, dep_intsR, lay_intsR]
  rfl
end My


set_option Elab.async false
set_option maxRecDepth 100000
set_option maxHeartbeats 4000000
set_option linter.all false
namespace My
open PySem L2 PyProof.Rows
open C8 (pss_cut)
def spLWord (P : Program) (w : World) (K : PySem.W.Frag) (C : Addr) : Sp := fun vs H Q _ => ∃ (d L p G D R : Addr) (n : Nat) (gs : List Gt) (rs : Rws), vs = [.ref d, .ref p, .int n, .ref R] ∧ 1 ≤ n ∧ n ≤ 16 ∧ DrawAt H d L ∧ PoolAt P w K H C p G D gs ∧ RowsAt K H [R, d, G, D] gs n R rs ∧ R ∉ [d, L, G, D] ∧ RowsSem n gs rs ∧ rs.length ≤ 100 ∧ gs.length + 100 ≤ 100000 ∧
  ∀ (H' : Hp) (gs' : List Gt) (t : Addr) (zs : List Int) (s : Src), DrawAt H' d L → PoolAt P w K H' C p G D gs' → But [d, G, D] H H' → gs <+: gs' → gs'.length ≤ gs.length + n → WordT K H' [R, d, G, D] gs' n (.ref t) zs s.data → s.ok n rs.length → Sem n (rs.map (·.2)) gs' zs s → Q (.ref t) H'
section
variable {P : Program} {w : World} {K : PySem.W.Frag} {mg : Str → Option Value} {base : Heap} {f C : Addr} {fd : FuncData}
theorem ok__law_word (T : Txt K mg) (PK : PlK K C) (D : Def K mg "_law_word" ["draw", "pool", "w", "rows"] s__law_word f fd) (O1 : Own P w K mg base "_law_take" ["draw", "many"] 1 spTake) (O2 : Own P w K mg base "_law_top" ["w"] 1 spTop) (O3 : Own P w K mg base "constant" ["pool", "n", "w"] 1 (spConst K)) (O4 : OwnM P w K mg base C "bit" ["self", "name"] 2 (spBit P w K C)) : Own P w K mg base "_law_word" ["draw", "pool", "w", "rows"] 3 (spLWord P w K C) := by
  obtain ⟨f_law_take, fd_law_take, m_law_take, k_law_take, b_law_take, G_law_take⟩ := O1
  obtain ⟨f_law_top, fd_law_top, m_law_top, k_law_top, b_law_top, G_law_top⟩ := O2
  obtain ⟨fconstant, fdconstant, mconstant, kconstant, bconstant, Gconstant⟩ := O3
  obtain ⟨fbit, fdbit, Mbit, bbit, Gbit⟩ := O4
  refine ⟨f, fd, D.mg, D.fn.kp, D.bd, D.fn.ok sc__law_word (fun vs H Q E h => ?_) (fun cdv A outer s H vs Q E hr h => ?_)⟩
  · obtain ⟨d, L, p, G, D', R, n, gs, rs, rfl, _⟩ := h
    rfl
  · obtain ⟨d, L, p, G, D', R, n, gs, rs, rfl, n1, n2, D0, A0, R0, nR, S0, hrl, hgl, q⟩ := h
    have hp := M00.pow_lt n n2
    have hp0 := M00.pow_pos' n
    have ap := A0.apart D0
    obtain ⟨vs, hR0, lvs, _⟩ := R0.ex
    have nRd : R ≠ d := fun e => nR (by rw [e]; exact .head _)
    have nRL : R ≠ L := fun e => nR (by rw [e]; exact .tail _ (.head _))
    have nRG : R ≠ G := fun e => nR (by rw [e]; exact .tail _ (.tail _ (.head _)))
    have nRD : R ≠ D' := fun e => nR (by rw [e]; exact .tail _ (.tail _ (.tail _ (.head _))))
    have nRA : R ∉ [d, G, D'] := by simp [nRd, nRG, nRD]
    have wide : ∀ {H1 H2 : Hp}, But [d, G, D'] H1 H2 → But [R, d, G, D'] H1 H2 := fun b => b.wide fun a ha => .tail _ ha
    have ofd : ∀ {H1 H2 : Hp}, Same (hide d H1) (hide d H2) → But [d, G, D'] H1 H2 := fun s => (But.of_hide s).wide fun a ha => by rw [List.mem_singleton.mp ha]; exact .head _
    have mut0 := draw_pool_mut A0 D0 hR0
    have keepP : ∀ {H1 : Hp}, But [d] H H1 → PoolAt P w K H1 C p G D' gs := fun b => A0.keep (S := [d]) (fun a ha => by rw [List.mem_singleton.mp ha]; exact D0.mut) b (by simp [ap.dp.symm]) (by simp [ap.dG.symm]) (by simp [ap.dD.symm])
    refine ⟨_, (pss_cons (ps_set (i := 4) sc__law_word.nd rfl (Or.inl rfl) (pe_call G_law_take (hr.mono (by omega)) rfl m_law_take k_law_take b_law_take .nil pass0 (pa_cons (pv 0) (pa_cons pe_int pa_nil))))
      (pss_cons (ps_if (pt_cut (PW.pt (pw_or (pt_cmpR op_eq (pv 4) pe_int (nomark _)) (pw_or1 (PW.pt (pw_and (pt_cmpR op_gt (pv 4) pe_int (nomark _)) (pw_and1 (pt_cmpR (op_eqD hr.units) (pv 3) (pe_lst pa_nil) (nomark _))))))))) (pss_cons (ps_set (i := 5) sc__law_word.nd rfl (Or.inl rfl) (pe_ix ix_list (pe_lst (pa_cons pe_int (pa_cons pe_int (pa_cons (pe_call G_law_top (hr.mono (by omega)) rfl m_law_top k_law_top b_law_top .nil pass0 (pa_cons (pv 2) pa_nil)) (pa_cons (pe_call G_law_take (hr.mono (by omega)) rfl m_law_take k_law_take b_law_take .nil pass0 (pa_cons (pv 0) (pa_cons (pe_op op_shl pe_int (pv 2)) pa_nil))) pa_nil))))) (pe_call G_law_take (hr.mono (by omega)) rfl m_law_take k_law_take b_law_take .nil pass0 (pa_cons (pv 0) (pa_cons pe_int pa_nil))) (fun _ _ => rfl)))
      (pss_one (ps_ret (pe_tup (pa_cons (pe_call Gconstant (hr.mono (by omega)) rfl mconstant kconstant bconstant .nil pass0 (pa_cons (pv 1) (pa_cons (pv 5) (pa_cons (pv 2) pa_nil)))) (pa_cons (pe_tup (pa_cons pe_str (pa_cons (pv 5) pa_nil))) pa_nil)))))) pss_nil)
      (pss_cons (ps_if (pt_cmpR op_lt (pv 4) pe_int (nomark _)) (pss_cons (ps_set (i := 6) sc__law_word.nd rfl (Or.inr rfl) (pe_call G_law_take (hr.mono (by omega)) rfl m_law_take k_law_take b_law_take .nil pass0 (pa_cons (pv 0) (pa_cons pe_int pa_nil))))
      (pss_one (ps_ret (pe_tup (pa_cons (pe_lc (own := [("k", 8)]) (g := gName 8) (tt := tYes) rfl sc__law_word.nd (pi_range1 (by rfl) T.m_range (pa_cons (pv 2) pa_nil)) (blkOk_by (N := N__law_word) (sc := defScope s__law_word) (own := [("k", 8)]) (by decide +kernel)) (fun _ _ _ _ _ => (pg_name (i := 8) sc__law_word.nd rfl (Or.inl rfl))) (fun _ _ _ _ _ => pts_nil) (fun _ _ _ _ _ => (pe_meth (pv 1) PK.cls Mbit Gbit (hr.mono (by omega)) bbit .nil pass0 (pa_cons (pe_tup (pa_cons (pv 6) (pa_cons (pv 8) pa_nil))) pa_nil)))) (pa_cons (pe_tup (pa_cons pe_str (pa_cons (pv 6) pa_nil))) pa_nil)))))) pss_nil)
      (pss_cons (ps_set (i := 7) sc__law_word.nd rfl (Or.inl rfl) (pe_call G_law_take (hr.mono (by omega)) rfl m_law_take k_law_take b_law_take .nil pass0 (pa_cons (pv 0) (pa_cons (pe_callB call_len_seq (by rfl) T.m_len (by decide +kernel) (pa_cons (pv 3) pa_nil)) pa_nil))))
      (pss_one (ps_ret (pe_tup (pa_cons (pe_ix ix_tup (pe_ix ix_list (pv 3) (pv 7) (fun _ _ => rfl)) pe_int (fun _ _ => rfl)) (pa_cons (pe_tup (pa_cons pe_str (pa_cons (pv 7) pa_nil))) pa_nil))))))))), ?_⟩
    refine ⟨_, rfl, d, L, 5, rfl, by decide, by decide, D0, fun v H1 v0 v1 D1 s1 => ?_⟩
    have A1 := keepP (But.of_hide s1)
    have b1 := ofd s1
    have hR1 := b1 _ _ nRA hR0
    have R1 := R0.keep mut0 (wide b1) (List.prefix_refl _) (by rw [hR1, hR0])
    have fin : ∀ (H' : Hp) (gs' : List Gt) (t r q0 : Addr) (zs : List Int) (s : Src), DrawAt H' d L → PoolAt P w K H' C p G D' gs' → But [d, G, D'] H H' → gs <+: gs' → gs'.length ≤ gs.length + n → SqT K H' t [.ref r, .ref q0] → H' r = some (.lst (zs.map V.int)) → r ∉ [R, d, G, D'] → Dp K H' (.ref q0) s.data → zs.length = n → (∀ z ∈ zs, okL gs' z) → s.ok n rs.length → Sem n (rs.map (·.2)) gs' zs s → Q (.ref t) H' :=
      fun H' gs' t r q0 zs s k1 k2 k3 k4 k5 k6 k7 k8 k9 k10 k11 k12 k13 => q H' gs' t zs s k1 k2 k3 k4 k5 ⟨⟨t, r, q0, rfl, k6, k7, k8, k9⟩, src_noLst s, k10, k11⟩ k12 k13
    have freshA : ∀ {Hx : Hp} {gx : List Gt} {r : Addr} {u : List V}, PoolAt P w K Hx C p G D' gx → DrawAt Hx d L → Hx R = some (.lst u) → Hx r = none → r ∉ [R, d, G, D'] := fun Ax Dx eR e m => by
      have := draw_pool_mut Ax Dx eR _ m
      rw [e] at this
      exact this
    refine ⟨fun b H2 => Same H1 H2 ∧ (b = false → v ≠ 0 ∧ (v > 2 → rs ≠ [])), ?_, ?_⟩
    · refine ⟨_, rfl, rfl, _, rfl, ite2 (fun c => ⟨.refl _, fun e => by cases e⟩) (fun c => ?_)⟩
      have c0 : ¬ v = 0 := fun e => c (decide_eq_true (congrArg V.int e))
      refine ⟨_, rfl, _, _, rfl, rfl, _, rfl, ite2 (fun c2 => ?_) (fun c2 => ⟨.refl _, fun _ => ⟨c0, fun z => absurd (decide_eq_true z) c2⟩⟩)⟩
      refine ⟨_, rfl, by show 0 ≤ sizeLine; decide, fun l fl => ?_⟩
      have sl := same_new fl (.lst [])
      have Rl := R1.keep (draw_pool_mut A1 D1 hR1) (.of_same sl) (List.prefix_refl _) (by rw [sl _ _ hR1, hR1])
      refine ⟨_, .list [], Rl.dp, .lst (SqL.of upd_same) .nil, shp_rows S0.ops, by rfl, _, rfl, ?_⟩
      rw [eqv_nilR]
      exact ⟨sl, fun e => ⟨c0, fun _ z => by rw [decide_eq_true z] at e; cases e⟩⟩
    rintro b H2 ⟨s2, hb⟩
    have D2 := D1.mono s2
    have A2 := A1.same s2
    have hR2 := s2 _ _ hR1
    have b2 := b1.trans (.of_same s2)
    cases b with
    | true =>
      refine iteT ?_
      refine ⟨_, rfl, n, rfl, by omega, ?_⟩
      have one : 1 * (2 : Int) ^ n = 2 ^ n := Int.one_mul _
      refine ⟨_, rfl, _, rfl, _, _, rfl, rfl, ⟨by omega, by omega, by decide⟩, d, L, 1 * 2 ^ n, rfl, by omega, by omega, D2, fun u H3 u0 u1 D3 s3 => ?_⟩
      refine ⟨by show 4 ≤ sizeLine; decide, fun l fl => ?_⟩
      have D4 := D3.new fl (o := .lst [.int 0, .int 1, .int (2 ^ n - 1), .int u])
      refine ⟨_, rfl, d, L, 4, rfl, by decide, by decide, D4, fun k H5 k0 k1 D5 s5 => ?_⟩
      have hl5 : H5 l = some (.lst ([0, 1, 2 ^ n - 1, u].map V.int)) := hide_le _ _ (s5 _ _ (D3.in fl))
      obtain ⟨z, hz, ez⟩ := atI_get (ns := [0, 1, 2 ^ n - 1, u]) k0 (by show k < 4; exact k1)
      have rz1 : 0 ≤ z ∧ z < 2 ^ n := by
        simp only [List.mem_cons, List.not_mem_nil, or_false] at hz
        have two : (2 : Int) ≤ 2 ^ n := by
          have := Nat.pow_le_pow_right (n := 2) (by decide) n1
          have e : ((2 ^ n : Nat) : Int) = 2 ^ n := by rw [Int.natCast_pow]; rfl
          omega
        rcases hz with h | h | h | h <;> omega
      obtain ⟨zn, rfl⟩ : ∃ zn : Nat, z = (zn : Int) := ⟨z.toNat, by omega⟩
      have b25 : But [d] H2 H5 := (But.of_hide s3).trans ((But.new fl _).trans (But.of_hide s5))
      have A5 : PoolAt P w K H5 C p G D' gs := A2.keep (S := [d]) (fun a ha => by rw [List.mem_singleton.mp ha]; exact D2.mut) b25 (by simp [ap.dp.symm]) (by simp [ap.dG.symm]) (by simp [ap.dD.symm])
      have b5 : But [d, G, D'] H H5 := b2.trans (b25.wide fun a ha => by rw [List.mem_singleton.mp ha]; exact .head _)
      refine ⟨l, _, _, _, rfl, rfl, SqL.of hl5, ez, ?_⟩
      refine ⟨_, rfl, _, rfl, _, rfl, p, zn, n, rfl, by omega, fun H6 r s6 fr hr6 => ?_⟩
      refine ⟨_, rfl, by show 2 ≤ sizeLine; decide, fun q0 fq => ?_⟩
      have s7 := s6.trans (same_new fq (.tup [.str "is", .int zn]))
      refine ⟨by show 2 ≤ sizeLine; decide, fun t ft => ?_⟩
      have s8 := s7.trans (same_new ft (.tup [.ref r, .ref q0]))
      have st := same_new ft (.tup [.ref r, .ref q0])
      have sq := same_new fq (.tup [.str "is", .int zn])
      have pn : ((2 ^ n : Nat) : Int) = 2 ^ n := by rw [Int.natCast_pow]; rfl
      refine fin _ gs t r q0 (bitsN zn n) (.is zn) (D5.mono s8) (A5.same s8) (b5.trans (.of_same s8)) (List.prefix_refl _) (Nat.le_add_right _ _) (SqT.of upd_same) (st _ _ (sq _ _ hr6)) (freshA A5 D5 (b5 _ _ nRA hR0) fr) (.tup (SqT.of (st _ _ upd_same)) (.cons (.str _) (.cons (.int _) .nil))) (bitsN_len _ _) (fun z hz => ?_) (show zn < 2 ^ n by omega) fun env ws he => ?_
      · have pos := A5.ok.pos
        rcases bitsN_bit zn n z hz with e | e <;> rw [e] <;> exact ⟨by decide, by omega⟩
      · rw [bitsN_wv A5.ok, Nat.mod_eq_of_lt (by omega)]
        rfl
    | false =>
      refine iteF ?_
      obtain ⟨v0', hne⟩ := hb rfl
      refine ⟨_, rfl, _, _, rfl, rfl, _, rfl, ite2 (fun c => ?_) (fun c => ?_)⟩
      · -- a name
        refine ⟨_, rfl, d, L, 3, rfl, by decide, by decide, D2, fun v3 H3 u0 u1 D3 s3 => ?_⟩
        obtain ⟨vn, rfl⟩ : ∃ vn : Nat, v3 = (vn : Int) := ⟨v3.toNat, by omega⟩
        have b3 := b2.trans (ofd s3)
        have A3 : PoolAt P w K H3 C p G D' gs := A2.keep (S := [d]) (fun a ha => by rw [List.mem_singleton.mp ha]; exact D2.mut) (But.of_hide s3) (by simp [ap.dp.symm]) (by simp [ap.dG.symm]) (by simp [ap.dD.symm])
        have hR3 := b3 _ _ nRA hR0
        refine ⟨_, rfl, _, rfl, by omega, by omega, fun W fW => lc_range (lo := 0) (n := n) (fun i H' => ∃ (gs' : List Gt) (zs : List Int), H' W = some (.lst (zs.map V.int)) ∧ PoolAt P w K H' C p G D' gs' ∧ But [G, D'] H3 H' ∧ gs <+: gs' ∧ gs'.length ≤ gs.length + i ∧ zs.length = i ∧ (∀ z ∈ zs, okL gs' z) ∧ ∀ (k : Nat) (z : Int), zs[k]? = some z → ∀ env, bitEnv env → litv (bitsOf env gs') z = env (nmVK vn k)) ⟨gs, [], upd_same, A3.same (same_new fW _), .of_same (same_new fW _), List.prefix_refl _, Nat.le_refl _, rfl, (fun z hz => nomatch hz), fun k z hz => by simp at hz⟩ ?_ ?_⟩
        · rintro i H4 hi ⟨gs4, zs, hW4, A4, b4, pg4, lg4, lz, okz, sem⟩
          obtain ⟨dx, ts, h1, _⟩ := A4.at_
          have nWG : W ∉ [G, D'] := fun m => by
            have := A3.mut W m
            rw [fW] at this
            exact this
          refine ⟨rfl, yesV ?_⟩
          rw [if_pos rfl]
          refine ⟨_, rfl, p, dx, _, rfl, h1, plFs_no _ _ (by decide +kernel) (by decide +kernel), _, rfl, _, rfl, by show 2 ≤ sizeLine; decide, fun t ft => ?_⟩
          have st := same_new ft (.tup [.int (vn : Nat), .int (0 + (i : Int))])
          have ht : Dp K (upd H4 t (.tup [.int (vn : Nat), .int (0 + (i : Int))])) (.ref t) (nmVK vn i).data := by
            have e : (0 : Int) + (i : Int) = (i : Int) := Int.zero_add _
            exact .tup (SqT.of upd_same) (.cons (.int _) (.cons (by rw [e]; exact .int _) .nil))
          refine ⟨p, G, D', t, gs4, nmVK vn i, rfl, A4.same st, ht, nmVK_depth _ _, by omega, fun H5 gs5 j A5 b5 pg5 lg5 hj => ?_⟩
          have hW5 := b5 _ _ nWG (st _ _ hW4)
          have mutW : ∀ a ∈ [W], Mut (H5 a) := fun a ha => by rw [List.mem_singleton.mp ha, hW5]; exact True.intro
          have bW : But [W] H5 (upd H5 W (.lst (zs.map V.int ++ [.int (2 * (j : Int))]))) := .put (.head _) _
          have nG1 : ∀ {b : Addr}, b ≠ W → b ∉ [W] := fun h m => h (List.mem_singleton.mp m)
          obtain ⟨dx3, ts3, hp3, hG3, _⟩ := A5.at_
          have npW : p ≠ W := ne_of hp3 hW5 (by intro z; cases z)
          have nGW : G ≠ W := fun e => nWG (by rw [← e]; exact .head _)
          have nDW : D' ≠ W := fun e => nWG (by rw [← e]; exact .tail _ (.head _))
          refine ⟨zs.map V.int, hW5, by rw [List.length_map, lz]; exact Nat.lt_of_lt_of_le (show i < 1000 by omega) (by decide), gs5, zs ++ [2 * (j : Int)], by rw [upd_same, List.map_append]; rfl, A5.keep mutW bW (nG1 npW) (nG1 nGW) (nG1 nDW), fun z o nz e => by rw [upd_ne (ne_of_none e fW)]; exact b5 _ _ nz (st _ _ (b4 _ _ nz e)), pg4.trans pg5, by omega, by rw [List.length_append, lz]; rfl, fun z hz => ?_, fun k z hz env he => ?_⟩
          · rcases List.mem_append.mp hz with h | h
            · exact (okz z h).mono pg5
            · rw [List.mem_singleton.mp h]; exact okL_gate hj
          · by_cases hk : k < zs.length
            · rw [List.getElem?_append_left hk] at hz
              rw [litv_pre (okz z (List.mem_of_getElem? hz)) pg5]
              exact sem k z hz env he
            · have hk2 : k = zs.length := by
                have := (List.getElem?_eq_some_iff.mp hz).1
                rw [List.length_append, List.length_singleton] at this
                omega
              rw [hk2, List.getElem?_append_right (Nat.le_refl _), Nat.sub_self] at hz
              cases hz
              rw [lit_gate A5.ok hj env, hk2, lz]
              rfl
        · rintro H4 ⟨gs4, zs, hW4, A4, b4, pg4, lg4, lz, okz, sem⟩
          refine ⟨_, rfl, by show 2 ≤ sizeLine; decide, fun q0 fq => ?_⟩
          have sq := same_new fq (.tup [.str "name", .int (vn : Nat)])
          refine ⟨by show 2 ≤ sizeLine; decide, fun t ft => ?_⟩
          have st := same_new ft (.tup [.ref W, .ref q0])
          have s8 := sq.trans st
          have b34 : But [d, G, D'] H3 H4 := b4.wide fun a ha => .tail _ ha
          have D4 : DrawAt H4 d L := D3.but b4 (by simp [ap.dG, ap.dD]) (by simp [ap.LG, ap.LD])
          exact fin _ gs4 t W q0 zs (.name vn) (D4.mono s8) (A4.same s8) ((b3.trans b34).trans (.of_same s8)) pg4 (by omega) (SqT.of upd_same) (s8 _ _ hW4) (freshA A3 D3 hR3 fW) (.tup (SqT.of (st _ _ upd_same)) (.cons (.str _) (.cons (.int _) .nil))) lz okz (show vn < 3 by omega) fun env ws he => name_wv he (by omega) lz fun k z hz => sem k z hz env he.bit
      · -- a row
        have c : ¬ v < 3 := fun z => c (decide_eq_true z)
        have rne := hne (by omega)
        have rpos : 0 < rs.length := List.length_pos_iff.mpr rne
        refine ⟨_, rfl, _, rfl, R, _, rfl, .inl (SqL.of hR2), d, L, (vs.length : Int), rfl, by omega, by omega, D2, fun at_ H3 a0 a1 D3 s3 => ?_⟩
        obtain ⟨an, rfl⟩ : ∃ an : Nat, at_ = (an : Int) := ⟨at_.toNat, by omega⟩
        have b3 := b2.trans (ofd s3)
        have A3 : PoolAt P w K H3 C p G D' gs := A2.keep (S := [d]) (fun a ha => by rw [List.mem_singleton.mp ha]; exact D2.mut) (But.of_hide s3) (by simp [ap.dp.symm]) (by simp [ap.dG.symm]) (by simp [ap.dD.symm])
        have hR3 := b3 _ _ nRA hR0
        have R3 := R0.keep mut0 (wide b3) (List.prefix_refl _) (by rw [hR3, hR0])
        obtain ⟨vs3, hv3, lv3, each⟩ := R3.ex
        rw [hR3] at hv3
        have ev := HO.lst.inj (Option.some.inj hv3)
        subst ev
        have hvi : vs[an]? = some vs[an] := List.getElem?_eq_getElem (by omega)
        have hri : rs[an]? = some rs[an] := List.getElem?_eq_getElem (by omega)
        have wt := each an _ _ hvi hri
        obtain ⟨t, r, q0, et, k1, k2, k3, k4⟩ := wt.ex
        refine ⟨_, rfl, _, rfl, R, _, _, _, rfl, rfl, SqL.of hR3, atI_nat hvi, t, _, _, _, et, rfl, k1, at0', ?_⟩
        refine ⟨_, rfl, by show 2 ≤ sizeLine; decide, fun q1 fq => ?_⟩
        have sq := same_new fq (.tup [.str "row", .int (an : Nat)])
        refine ⟨by show 2 ≤ sizeLine; decide, fun t1 ft => ?_⟩
        have st := same_new ft (.tup [.ref r, .ref q1])
        have s8 := sq.trans st
        exact fin _ gs t1 r q1 (rs[an]).1 (.row an) (D3.mono s8) (A3.same s8) (b3.trans (.of_same s8)) (List.prefix_refl _) (Nat.le_add_right _ _) (SqT.of upd_same) (s8 _ _ k2) k3 (.tup (SqT.of (st _ _ upd_same)) (.cons (.str _) (.cons (.int _) .nil))) wt.len wt.ok (show an < rs.length by omega) (S0.sem an _ hri)
end
end My


set_option Elab.async false
set_option maxRecDepth 100000
set_option maxHeartbeats 4000000
set_option linter.all false
namespace My
open PySem L2 PyProof.Rows
open C8 (pss_cut)
structure DefM0 (K : PySem.W.Frag) (x qx : Str) (ps : List Str) (st : Stmt) (f : Addr) (fd : FuncData) : Prop where
  fn : Fun K x qx st f fd
  bd : Binds K fd ps []
def OwnC (P : Program) (w : World) (K : PySem.W.Frag) (mg : Str → Option Value) (base : Heap) (x : Str) (C : Addr) (ps : List Str) (k : Nat) (sp : Sp) : Prop :=
  ∃ (f : Addr) (fd : FuncData), mg x = some (.ref C) ∧ Mk K C f ∧ Binds K fd ps [] ∧ FnOk P w K mg base CX0 k f fd ps sp
def spInit (P : Program) (w : World) (K : PySem.W.Frag) (C : Addr) : Sp := fun vs H Q _ => ∃ (p dx : Addr), vs = [.ref p] ∧ H p = some (.ins C dx []) ∧ ∀ H' G D, PoolAt P w K H' C p G D [.no] → But [p] H H' → H G = none → H D = none → Q .non H'
theorem okGs_no : okGs [.no] := ⟨rfl, fun i g h x hx => by
  cases i with
  | zero => cases h; cases hx
  | succ i => simp at h⟩
section
variable {P : Program} {w : World} {K : PySem.W.Frag} {mg : Str → Option Value} {base : Heap} {f C : Addr} {fd : FuncData}
theorem ok_Pool (PK : PlK K C) (D : DefM0 K "__init__" "Pool.__init__" ["self"] s_Pool___init__ f fd) (M : Mk K C f) (mC : mg "Pool" = some (.ref C)) : OwnC P w K mg base "Pool" C ["self"] 1 (spInit P w K C) := by
  refine ⟨f, fd, mC, M, D.bd, D.fn.ok sc_Pool___init__ (fun vs H Q E h => ?_) (fun cdv A outer s H vs Q E hr h => ?_)⟩
  · obtain ⟨p, dx, rfl, _⟩ := h
    rfl
  · obtain ⟨p, dx, rfl, hp, q⟩ := h
    refine ⟨_, (pss_cons (ps_fld (pv 0) (pe_lst (pa_cons (pe_tup (pa_cons pe_str pa_nil)) pa_nil)) rfl)
      (pss_one (ps_fld (pv 0) pe_dnewK rfl))), ?_⟩
    refine ⟨by show 1 ≤ sizeLine; decide, fun t ft => ?_⟩
    refine ⟨by show 1 ≤ sizeLine; decide, fun G fG => ?_⟩
    have st := same_new ft (.tup [.str "no"])
    have sG := same_new fG (.lst [.ref t])
    refine ⟨_, rfl, p, C, dx, [], rfl, sG _ _ (st _ _ hp), PK.cls, PK.g, by show 0 < 1000; decide, ?_⟩
    refine fun D' fD => ?_
    have nGp : G ≠ p := (ne_of_none (st _ _ hp) fG).symm
    have ntp : t ≠ p := (ne_of_none hp ft).symm
    have gT : (upd (upd H t (.tup [.str "no"])) G (.lst [.ref t])) t = some (.tup [.str "no"]) := sG _ _ upd_same
    have nDp : D' ≠ p := (ne_of_none (upd_same) fD).symm
    have nDG : D' ≠ G := (ne_of_none (show (upd (upd (upd H t (.tup [.str "no"])) G (.lst [.ref t])) p _) G = some (.lst [.ref t]) by rw [upd_ne nGp]; exact upd_same) fD).symm
    have nDt : D' ≠ t := (ne_of_none (show (upd (upd (upd H t (.tup [.str "no"])) G (.lst [.ref t])) p _) t = some (.tup [.str "no"]) by rw [upd_ne ntp]; exact gT) fD).symm
    refine ⟨_, rfl, p, C, dx, _, rfl, by rw [upd_ne nDp.symm]; exact upd_same, PK.cls, PK.l, by show 1 < 1000; decide, ?_⟩
    refine q _ G D' ⟨PK, okGs_no, by simp, by show 1 ≤ 100000; decide, (fun n hn => by cases (List.mem_singleton.mp hn)), dx, [t], upd_same, by rw [upd_ne nGp, upd_ne nDG.symm, upd_ne nGp]; exact upd_same, rfl, fun i g t' e1 e2 => ?_, .inr ⟨rfl, by rw [upd_ne nDp]; exact upd_same⟩⟩ (fun b o n e => ?_) ?_ ?_
    · cases i with
      | zero =>
        cases e1
        cases e2
        refine ⟨.tup (SqT.of (by rw [upd_ne ntp, upd_ne nDt.symm, upd_ne ntp]; exact gT)) (.cons (.str _) .nil), by decide⟩
      | succ i => simp at e1
    · have hbp : b ≠ p := fun z => n (by rw [z]; exact .head _)
      have h1 := sG _ _ (st _ _ e)
      rw [upd_ne hbp, upd_ne (ne_of_none (show (upd (upd (upd H t (.tup [.str "no"])) G (.lst [.ref t])) p _) b = some o by rw [upd_ne hbp]; exact h1) fD), upd_ne hbp]
      exact h1
    · cases e : H G with
      | none => rfl
      | some u => rw [st _ _ e] at fG; cases fG
    · cases e : H D' with
      | none => rfl
      | some u =>
        have h1 := sG _ _ (st _ _ e)
        have : (upd (upd (upd H t (.tup [.str "no"])) G (.lst [.ref t])) p (.ins C dx (putF "gates" (.ref G) []))) D' = some u := by rw [upd_ne nDp]; exact h1
        rw [fD] at this
        cases this
end
end My


set_option Elab.async false
set_option maxRecDepth 100000
set_option maxHeartbeats 4000000
set_option linter.all false
namespace My
open PySem L2 PyProof.Rows
open C8 (pss_cut)
def spSingle (P : Program) (w : World) (K : PySem.W.Frag) (C : Addr) : Sp := fun vs H Q _ => ∃ (p G D x : Addr) (op : Str) (gs : List Gt) (xs : List Int), vs = [.ref p, .str op, .ref x] ∧ PoolAt P w K H C p G D gs ∧ SqL K H x (xs.map V.int) ∧ x ∉ [G, D] ∧ 1 ≤ xs.length ∧ xs.length ≤ 16 ∧ (∀ z ∈ xs, okL gs z) ∧ (op = "not" ∨ op = "neg") ∧ gs.length + 1600 ≤ 100000 ∧
  ResV P w K C p G D gs H 1600 xs.length (fun env => M00.val op xs.length (wv (bitsOf env gs) xs) (wv (bitsOf env gs) xs)) Q
section
variable {P : Program} {w : World} {K : PySem.W.Frag} {mg : Str → Option Value} {base : Heap} {f C : Addr} {fd : FuncData}
theorem ok_single (T : Txt K mg) (PK : PlK K C) (C1 : ConI mg "NO" 0) (C2 : ConI mg "YES" 1) (D : Def K mg "single" ["pool", "op", "x"] s_single f fd)
    (O4 : Own P w K mg base "added" ["pool", "x", "y", "carry"] 5 (spAdded P w K C)) (O5 : Own P w K mg base "turned" ["x"] 1 (spTurned K)) : Own P w K mg base "single" ["pool", "op", "x"] 6 (spSingle P w K C) := by
  obtain ⟨t_NO, c_NO⟩ := C1
  obtain ⟨t_YES, c_YES⟩ := C2
  obtain ⟨fadded, fdadded, madded, kadded, badded, Gadded⟩ := O4
  obtain ⟨fturned, fdturned, mturned, kturned, bturned, Gturned⟩ := O5
  refine ⟨f, fd, D.mg, D.fn.kp, D.bd, D.fn.ok sc_single (fun vs H Q E h => ?_) (fun cdv A outer s H vs Q E hr h => ?_)⟩
  · obtain ⟨p, G, D', x, op, gs, xs, rfl, _⟩ := h
    rfl
  · obtain ⟨p, G, D', x, op, gs, xs, rfl, A0, hx, nx, n1, n2, okx, hop, hl, q⟩ := h
    have okno : ∀ {g : List Gt}, okGs g → okL g 0 := fun h => ⟨Int.le_refl _, by have := h.pos; omega⟩
    have okyes : ∀ {g : List Gt}, okGs g → okL g 1 := fun h => ⟨by decide, by have := h.pos; omega⟩
    have fresh : ∀ {Hx gx r}, PoolAt P w K Hx C p G D' gx → Hx r = none → r ∉ [G, D'] := fun Ax e m => by
      have := Ax.mut _ m
      rw [e] at this
      exact this
    have okt : ∀ z ∈ xs.map x1, okL gs z := fun z hz => by
      obtain ⟨u, hu, rfl⟩ := List.mem_map.mp hz
      exact okL_xor1 (okx u hu)
    refine ⟨_, (pss_cons (ps_if (pt_cmpR op_eq (pv 1) pe_str (nomark _)) (pss_one (ps_ret (pe_call Gturned (hr.mono (by omega)) rfl mturned kturned bturned .nil pass0 (pa_cons (pv 2) pa_nil)))) pss_nil)
      (pss_one (ps_ret (pe_call Gadded (hr.mono (by omega)) rfl madded kadded badded .nil pass0 (pa_cons (pv 0) (pa_cons (pe_call Gturned (hr.mono (by omega)) rfl mturned kturned bturned .nil pass0 (pa_cons (pv 2) pa_nil)) (pa_cons (pe_op op_rep (pe_lst (pa_cons (pe_glob (v := .int 0) (u := .int 0 t_NO) (by rfl) c_NO ⟨t_NO, rfl⟩) pa_nil)) (pe_callB call_len_seq (by rfl) T.m_len (by decide +kernel) (pa_cons (pv 2) pa_nil))) (pa_cons (pe_glob (v := .int 1) (u := .int 1 t_YES) (by rfl) c_YES ⟨t_YES, rfl⟩) pa_nil)))))))), ?_⟩
    refine ⟨_, rfl, rfl, _, rfl, ite2 (fun c => ?_) (fun d1 => ?_)⟩
    · have eo := streqC c
      refine ⟨_, rfl, x, xs, rfl, hx, by omega, fun H1 r1 s1 f1 h1 => ?_⟩
      refine q H1 gs r1 (xs.map x1) (A0.same s1) (.of_same s1) (List.prefix_refl _) (Nat.le_add_right _ _) (SqL.of h1) (fresh A0 f1) (List.length_map _) okt fun env he => ?_
      rw [eo]
      dsimp only
      rw [M00.val_not, wv_x1 fun z hz => (okx z hz).1]
    · have eo := hop.resolve_left (strneC d1)
      refine ⟨_, rfl, _, rfl, x, xs, rfl, hx, by omega, fun H1 r1 s1 f1 h1 => ?_⟩
      have A1 := A0.same s1
      refine ⟨by show 1 ≤ sizeLine; decide, fun l2 f2 => ?_⟩
      have s2 := s1.trans (same_new f2 (.lst [.int 0]))
      refine ⟨_, rfl, x, _, rfl, .inl (sql_mono s2 hx), l2, _, [.int 0], rfl, rfl, upd_same, by rw [List.length_map]; omega, by rw [List.length_map]; omega, by rw [List.length_map]; show 1 * (xs.length : Int).toNat ≤ sizeLine; exact Nat.le_trans (show _ ≤ 20 by omega) (by decide), fun l3 f3 => ?_⟩
      have er : (List.replicate (((xs.map V.int).length : Nat) : Int).toNat [V.int 0]).flatten = (List.replicate xs.length (0 : Int)).map V.int := by
        rw [List.length_map, show (xs.length : Int).toNat = xs.length by omega, rep_flat]
      rw [er]
      have s3 := s2.trans (same_new f3 (.lst ((List.replicate xs.length (0 : Int)).map V.int)))
      have hr1 := (same_new f3 (.lst ((List.replicate xs.length (0 : Int)).map V.int))) _ _ ((same_new f2 (.lst [.int 0])) _ _ h1)
      refine ⟨p, G, D', r1, l3, 1, gs, xs.map x1, List.replicate xs.length 0, rfl, A0.same s3, SqL.of hr1, SqL.of upd_same, fresh A0 f1, fresh (A0.same s2) f3, by rw [List.length_map, List.length_replicate], by rw [List.length_map]; omega, okt, (fun z hz => by rw [List.eq_of_mem_replicate hz]; exact okno A0.ok), okyes A0.ok, by rw [List.length_map]; omega, fun H' gs' r zs k1 k2 k3 k4 k5 k6 k7 k8 k9 => ?_⟩
      rw [List.length_map] at k7 k4
      refine q H' gs' r zs k1 ((But.of_same s3).trans k2) k3 (by omega) (SqL.of k6) (fresh (A0.same s3) k5) k7 k8 fun env he => ?_
      rw [k9 env he, eo]
      dsimp only
      rw [M00.val_neg, List.length_map, wv_no A0.ok, litv_yes A0.ok, wv_x1 fun z hz => (okx z hz).1]
      rw [show (2 : Int) ^ xs.length - 1 - wv (bitsOf env gs) xs + 0 + 1 = (0 - wv (bitsOf env gs) xs) + 2 ^ xs.length * 1 by omega, Int.add_mul_emod_self_left]
end
end My


set_option Elab.async false
set_option maxRecDepth 100000
set_option maxHeartbeats 4000000
set_option linter.all false
namespace My
open PySem L2 PyProof.Rows
open C8 (pss_cut)
def spLaw (K : PySem.W.Frag) : Sp := fun vs H Q _ => ∃ (a : Addr) (ns : List Int), vs = [.ref a] ∧ SqL K H a (ns.map V.int) ∧ ns.length ≤ 63 ∧ ∀ H', Q (.bl true) H'
theorem in2 {x a b : Str} (h : inV (.str x) [.str a, .str b] = true) : x = a ∨ x = b := by
  have e := inS (x := x) (xs := [a, b])
  have h2 : decide (x ∈ [a, b]) = true := e.symm.trans h
  simpa using of_decide_eq_true h2
theorem not2 {x a b : Str} (h : ¬ inV (.str x) [.str a, .str b] = true) : x ≠ a ∧ x ≠ b := by
  have e := inS (x := x) (xs := [a, b])
  have h2 : ¬ decide (x ∈ [a, b]) = true := fun z => h (e.trans z)
  simpa using h2
theorem ops12_at {k : Int} (h0 : 0 ≤ k) (h : k < 12) : ∃ op, op ∈ M00.ops ∧ atI (M00.ops.map V.str) k = some (.str op) := by
  obtain ⟨kn, rfl⟩ : ∃ kn : Nat, k = (kn : Int) := ⟨k.toNat, by omega⟩
  have hk : kn < M00.ops.length := by show kn < 12; omega
  exact ⟨M00.ops[kn], List.getElem_mem hk, atI_nat (by rw [List.getElem?_map, List.getElem?_eq_getElem hk]; rfl)⟩
section
variable {P : Program} {w : World} {K : PySem.W.Frag} {mg : Str → Option Value} {base : Heap} {f C : Addr} {fd : FuncData}
theorem ok_law (T : Txt K mg) (PK : PlK K C) (D : Def K mg "law" ["script"] s_law f fd) (O0 : Own P w K mg base "_law_draw" ["script"] 1 (spDraw K)) (O1 : Own P w K mg base "_law_take" ["draw", "many"] 1 spTake) (O2 : OwnC P w K mg base "Pool" C ["self"] 1 (spInit P w K C))
    (O4 : Own P w K mg base "_law_word" ["draw", "pool", "w", "rows"] 3 (spLWord P w K C)) (O5 : Own P w K mg base "computed" ["pool", "op", "x", "y"] 7 (spComputed P w K C)) (O6 : Own P w K mg base "single" ["pool", "op", "x"] 6 (spSingle P w K C))
    (O11 : Own P w K mg base "_law_words" ["draw", "w"] 2 spWords) (O12 : Own P w K mg base "_law_compute" ["op", "w", "x", "y"] 1 spLComp)
    (O13 : Own P w K mg base "_law_number" ["made", "words", "values"] 1 (spNum K)) (O14 : Own P w K mg base "_law_bits" ["words", "w"] 1 (spLBits P w K)) (O16 : Own P w K mg base "word_value" ["pool", "x", "bits"] 3 (spWordV P w K C)) :
    FnOk P w K mg base CX0 8 f fd ["script"] (spLaw K) := by
  obtain ⟨f_law_draw, fd_law_draw, m_law_draw, k_law_draw, b_law_draw, G_law_draw⟩ := O0
  obtain ⟨f_law_take, fd_law_take, m_law_take, k_law_take, b_law_take, G_law_take⟩ := O1
  obtain ⟨fPool, fdPool, mPool, MPool, bPool, GPool⟩ := O2
  obtain ⟨f_law_word, fd_law_word, m_law_word, k_law_word, b_law_word, G_law_word⟩ := O4
  obtain ⟨fcomputed, fdcomputed, mcomputed, kcomputed, bcomputed, Gcomputed⟩ := O5
  obtain ⟨fsingle, fdsingle, msingle, ksingle, bsingle, Gsingle⟩ := O6
  obtain ⟨f_law_words, fd_law_words, m_law_words, k_law_words, b_law_words, G_law_words⟩ := O11
  obtain ⟨f_law_compute, fd_law_compute, m_law_compute, k_law_compute, b_law_compute, G_law_compute⟩ := O12
  obtain ⟨f_law_number, fd_law_number, m_law_number, k_law_number, b_law_number, G_law_number⟩ := O13
  obtain ⟨f_law_bits, fd_law_bits, m_law_bits, k_law_bits, b_law_bits, G_law_bits⟩ := O14
  obtain ⟨fword_value, fdword_value, mword_value, kword_value, bword_value, Gword_value⟩ := O16
  refine D.fn.ok sc_law (fun vs H Q E h => ?_) (fun cdv A outer s H vs Q E hr h => ?_)
  · obtain ⟨a, ns, rfl, _⟩ := h
    rfl
  · obtain ⟨a, ns, rfl, hS, h63, q⟩ := h
    refine ⟨_, (pss_cons (ps_set (i := 1) sc_law.nd rfl (Or.inl rfl) (pe_call G_law_draw (hr.mono (by omega)) rfl m_law_draw k_law_draw b_law_draw .nil pass0 (pa_cons (pv 0) pa_nil)))
      (pss_cons (ps_set (i := 2) sc_law.nd rfl (Or.inl rfl) (pe_ix ix_list (pe_lst (pa_cons pe_int (pa_cons pe_int (pa_cons pe_int (pa_cons pe_int (pa_cons pe_int (pa_cons pe_int (pa_cons pe_int (pa_cons (pe_op op_add pe_int (pe_call G_law_take (hr.mono (by omega)) rfl m_law_take k_law_take b_law_take .nil pass0 (pa_cons (pv 1) (pa_cons pe_int pa_nil)))) pa_nil))))))))) (pe_call G_law_take (hr.mono (by omega)) rfl m_law_take k_law_take b_law_take .nil pass0 (pa_cons (pv 1) (pa_cons pe_int pa_nil))) (fun _ _ => rfl)))
      (pss_cons (ps_set (i := 3) sc_law.nd rfl (Or.inl rfl) (pe_make0 MPool GPool (hr.mono (by omega)) (by rfl) mPool bPool .nil pass0))
      (pss_cut (ps_set (i := 4) sc_law.nd rfl (Or.inl rfl) (pe_lst pa_nil))
      (pss_cons (ps_for PassesOwn.never rfl (pi_range1 (by rfl) T.m_range (pa_cons (pe_op op_add pe_int (pe_call G_law_take (hr.mono (by omega)) rfl m_law_take k_law_take b_law_take .nil pass0 (pa_cons (pv 1) (pa_cons pe_int pa_nil)))) pa_nil)) (pg_name (i := 5) sc_law.nd rfl (Or.inl rfl)) (pss_cons (ps_set (i := 6) sc_law.nd rfl (Or.inl rfl) (pe_call G_law_word (hr.mono (by omega)) rfl m_law_word k_law_word b_law_word .nil pass0 (pa_cons (pv 1) (pa_cons (pv 3) (pa_cons (pv 2) (pa_cons (pv 4) pa_nil))))))
      (pss_cons (ps_set (i := 7) sc_law.nd rfl (Or.inl rfl) (pe_call G_law_word (hr.mono (by omega)) rfl m_law_word k_law_word b_law_word .nil pass0 (pa_cons (pv 1) (pa_cons (pv 3) (pa_cons (pv 2) (pa_cons (pv 4) pa_nil))))))
      (pss_cons (ps_set (i := 8) sc_law.nd rfl (Or.inl rfl) (pe_ix ix_list (pe_lst (pa_cons pe_str (pa_cons pe_str (pa_cons pe_str (pa_cons pe_str (pa_cons pe_str (pa_cons pe_str (pa_cons pe_str (pa_cons pe_str (pa_cons pe_str (pa_cons pe_str (pa_cons pe_str (pa_cons pe_str pa_nil))))))))))))) (pe_call G_law_take (hr.mono (by omega)) rfl m_law_take k_law_take b_law_take .nil pass0 (pa_cons (pv 1) (pa_cons pe_int pa_nil))) (fun _ _ => rfl)))
      (pss_cut (ps_if (pt_cmpR op_in_seq (pv 8) (pe_lst (pa_cons pe_str (pa_cons pe_str pa_nil))) (by rfl)) (pss_one (ps_expr (pe_bm PySem.F.plainAttrs_list PySem.F.slot_list_append PySem.F.type_list_append mt_append (pv 4) (pa_cons (pe_tup (pa_cons (pe_callTy call_list_of (by rfl) T.m_list (by decide +kernel) (pa_cons (pe_call Gsingle (hr.mono (by omega)) rfl msingle ksingle bsingle .nil pass0 (pa_cons (pv 3) (pa_cons (pv 8) (pa_cons (pe_ix ix_tup (pv 6) pe_int (fun _ _ => rfl)) pa_nil)))) pa_nil)) (pa_cons (pe_tup (pa_cons (pv 8) (pa_cons (pe_ix ix_tup (pv 6) pe_int (fun _ _ => rfl)) (pa_cons (pe_ix ix_tup (pv 6) pe_int (fun _ _ => rfl)) pa_nil)))) pa_nil))) pa_nil)))) (pss_one (ps_expr (pe_bm PySem.F.plainAttrs_list PySem.F.slot_list_append PySem.F.type_list_append mt_append (pv 4) (pa_cons (pe_tup (pa_cons (pe_callTy call_list_of (by rfl) T.m_list (by decide +kernel) (pa_cons (pe_call Gcomputed (hr.mono (by omega)) rfl mcomputed kcomputed bcomputed .nil pass0 (pa_cons (pv 3) (pa_cons (pv 8) (pa_cons (pe_ix ix_tup (pv 6) pe_int (fun _ _ => rfl)) (pa_cons (pe_ix ix_tup (pv 7) pe_int (fun _ _ => rfl)) pa_nil))))) pa_nil)) (pa_cons (pe_tup (pa_cons (pv 8) (pa_cons (pe_ix ix_tup (pv 6) pe_int (fun _ _ => rfl)) (pa_cons (pe_ix ix_tup (pv 7) pe_int (fun _ _ => rfl)) pa_nil)))) pa_nil))) pa_nil)))))
      (pss_one (ps_if (pt_cmpR op_ne (pe_callB call_len_seq (by rfl) T.m_len (by decide +kernel) (pa_cons (pe_ix ix_tup (pe_ix ix_list (pv 4) (pv 5) (fun _ _ => rfl)) pe_int (fun _ _ => rfl)) pa_nil)) (pv 2) (nomark _)) (pss_one (ps_ret pe_bl)) pss_nil)))))))
      (pss_cons (ps_for PassesOwn.never rfl (pi_range1 (by rfl) T.m_range (pa_cons pe_int pa_nil)) (pg_name (i := 9) sc_law.nd rfl (Or.inl rfl)) (pss_cons (ps_set (i := 10) sc_law.nd rfl (Or.inl rfl) (pe_call G_law_words (hr.mono (by omega)) rfl m_law_words k_law_words b_law_words .nil pass0 (pa_cons (pv 1) (pa_cons (pv 2) pa_nil))))
      (pss_cons (ps_set (i := 11) sc_law.nd rfl (Or.inl rfl) (pe_lst pa_nil))
      (pss_cons (ps_for PassesOwn.never rfl (pi_list (pe_lc (own := [("row", 13)]) (g := gName 13) (tt := tYes) rfl sc_law.nd (pi_list (pv 4)) (blkOk_by (N := N_law) (sc := defScope s_law) (own := [("row", 13)]) (by decide +kernel)) (fun _ _ _ _ _ => (pg_name (i := 13) sc_law.nd rfl (Or.inl rfl))) (fun _ _ _ _ _ => pts_nil) (fun _ _ _ _ _ => (pe_ix (ix_tupK (K := K) rfl) (pv 13) pe_int (fun _ _ => rfl))))) (pg_tup (by rfl) (pgs_cons (pg_name (i := 8) sc_law.nd rfl (Or.inl rfl)) (pgs_cons (pg_name (i := 6) sc_law.nd rfl (Or.inl rfl)) (pgs_cons (pg_name (i := 7) sc_law.nd rfl (Or.inl rfl)) pgs_nil)))) (pss_one (ps_expr (pe_bm PySem.F.plainAttrs_list PySem.F.slot_list_append PySem.F.type_list_append mt_append (pv 11) (pa_cons (pe_call G_law_compute (hr.mono (by omega)) rfl m_law_compute k_law_compute b_law_compute .nil pass0 (pa_cons (pv 8) (pa_cons (pv 2) (pa_cons (pe_call G_law_number (hr.mono (by omega)) rfl m_law_number k_law_number b_law_number .nil pass0 (pa_cons (pv 6) (pa_cons (pv 10) (pa_cons (pv 11) pa_nil)))) (pa_cons (pe_call G_law_number (hr.mono (by omega)) rfl m_law_number k_law_number b_law_number .nil pass0 (pa_cons (pv 7) (pa_cons (pv 10) (pa_cons (pv 11) pa_nil)))) pa_nil))))) pa_nil)))))
      (pss_cut (ps_set (i := 12) sc_law.nd rfl (Or.inl rfl) (pe_call G_law_bits (hr.mono (by omega)) rfl m_law_bits k_law_bits b_law_bits .nil pass0 (pa_cons (pv 10) (pa_cons (pv 2) pa_nil))))
      (pss_one (ps_for PassesOwn.never rfl (pi_range1 (by rfl) T.m_range (pa_cons (pe_callB call_len_seq (by rfl) T.m_len (by decide +kernel) (pa_cons (pv 4) pa_nil)) pa_nil)) (pg_name (i := 5) sc_law.nd rfl (Or.inl rfl)) (pss_one (ps_if (pt_cmpR op_ne (pe_call Gword_value (hr.mono (by omega)) rfl mword_value kword_value bword_value .nil pass0 (pa_cons (pv 3) (pa_cons (pe_ix ix_tup (pe_ix ix_list (pv 4) (pv 5) (fun _ _ => rfl)) pe_int (fun _ _ => rfl)) (pa_cons (pv 12) pa_nil)))) (pe_ix ix_list (pv 11) (pv 5) (fun _ _ => rfl)) (nomark _)) (pss_one (ps_ret pe_bl)) pss_nil)))))))))
      (pss_one (ps_ret pe_bl)))))))), ?_⟩
    refine ⟨_, rfl, a, ns, rfl, hS, h63, fun d L H1 hd0 hL0 e1 hD1 => ?_⟩
    refine ⟨_, rfl, d, L, 16, rfl, by decide, by decide, hD1, fun v H2 v0 v1 hD2 s2 => ?_⟩
    refine ⟨_, _, rfl, rfl, by show 8 ≤ sizeLine; decide, fun l fl => ?_⟩
    have hD3 := hD2.new fl (o := .lst ([1, 2, 3, 4, 5, 8, 16, 1 + v].map V.int))
    refine ⟨_, rfl, d, L, 8, rfl, by decide, by decide, hD3, fun k H4 k0 k1 hD4 s4 => ?_⟩
    have hl4 : H4 l = some (.lst ([1, 2, 3, 4, 5, 8, 16, 1 + v].map V.int)) := hide_le _ _ (s4 _ _ (hD2.in fl))
    obtain ⟨z, hz, ez⟩ := atI_get (ns := [1, 2, 3, 4, 5, 8, 16, 1 + v]) k0 (by show k < 8; exact k1)
    have rz : 1 ≤ z ∧ z ≤ 16 := by
      simp only [List.mem_cons, List.not_mem_nil, or_false] at hz
      omega
    obtain ⟨n, rfl⟩ : ∃ n : Nat, z = (n : Int) := ⟨z.toNat, by omega⟩
    have n1 : 1 ≤ n := by omega
    have n2 : n ≤ 16 := by omega
    refine ⟨l, _, _, _, rfl, rfl, SqL.of hl4, ez, ?_⟩
    intro p dx fp fdx ndx
    have sI : Same H4 (upd (upd H4 dx (.own p)) p (.ins C dx [])) := fun b o e => by
      rw [upd_ne (ne_of_none e fp), upd_ne (ne_of_none e fdx)]
      exact e
    have D5 := hD4.mono sI
    refine ⟨p, dx, rfl, upd_same, fun H5 G D' A5 b5 fG fD => ⟨rfl, ?_⟩⟩
    have nn : ∀ {b c : Addr}, b ≠ c → b ∉ [c] := fun h m => h (List.mem_singleton.mp m)
    have dp : d ≠ p := by obtain ⟨u, hu⟩ := hD4.at; exact ne_of_none hu fp
    have Lp : L ≠ p := by obtain ⟨u, hu⟩ := hD4.cells; exact ne_of_none hu fp
    have D6 := D5.but b5 (nn dp) (nn Lp)
    refine ⟨fun σ' H' => ∃ R, σ' = [some (.ref a), some (.ref d), some (.int n), some (.ref p), some (.ref R), none, none, none, none, none, none, none, none, none] ∧ DrawAt H' d L ∧ PoolAt P w K H' C p G D' [.no] ∧ H' R = some (.lst []) ∧ R ∉ [d, L, G, D'], ?_, ?_⟩
    · refine ⟨by show 0 ≤ sizeLine; decide, fun R fR => ?_⟩
      have sR := same_new fR (.lst [])
      have nR : R ∉ [d, L, G, D'] := fun m => by
        rcases List.mem_cons.mp m with e | m
        · exact (D6.ne fR) e.symm
        · rcases List.mem_cons.mp m with e | m
          · exact (D6.neL fR) e.symm
          · have := A5.mut R m
            rw [fR] at this
            exact this
      exact ⟨R, rfl, D6.mono sR, A5.same sR, upd_same, nR⟩
    rintro σ0 H0 ⟨R, rfl, D0, A0, hR0, nR⟩
    have nRd : R ≠ d := fun e => nR (by rw [e]; exact .head _)
    have nRL : R ≠ L := fun e => nR (by rw [e]; exact .tail _ (.head _))
    have nRG : R ≠ G := fun e => nR (by rw [e]; exact .tail _ (.tail _ (.head _)))
    have nRD : R ≠ D' := fun e => nR (by rw [e]; exact .tail _ (.tail _ (.tail _ (.head _))))
    have nRA : R ∉ [d, G, D'] := by simp [nRd, nRG, nRD]
    have nRP : R ∉ [G, D'] := by simp [nRG, nRD]
    have ap := A0.apart D0
    have wide : ∀ {H1 H2 : Hp}, But [d, G, D'] H1 H2 → But [R, d, G, D'] H1 H2 := fun b => b.wide fun a ha => .tail _ ha
    have wideP : ∀ {H1 H2 : Hp}, But [G, D'] H1 H2 → But [d, G, D'] H1 H2 := fun b => b.wide fun a ha => .tail _ ha
    have wided : ∀ {H1 H2 : Hp}, But [d] H1 H2 → But [d, G, D'] H1 H2 := fun b => b.wide fun a ha => by rw [List.mem_singleton.mp ha]; exact .head _
    have dP : d ∉ [G, D'] := by simp [ap.dG, ap.dD]
    have LP : L ∉ [G, D'] := by simp [ap.LG, ap.LD]
    have zok : ∀ {gs : List Gt} {Hx : Hp} {rs : Rws}, RowsAt K Hx [R, d, G, D'] gs n R rs → ∀ (i : Nat) r, rs[i]? = some r → ∀ z ∈ r.1, okL gs z := fun Rx i r e => by
      obtain ⟨vs, _, l2, each⟩ := Rx.ex
      exact (each i _ _ (List.getElem?_eq_getElem (by have := (List.getElem?_eq_some_iff.mp e).1; omega)) e).ok
    have sub : ∀ {b : Addr}, b ∉ [R, d, G, D'] → b ∉ [G, D'] := fun h m => h (.tail _ (.tail _ m))
    refine ⟨_, rfl, d, L, 5, rfl, by decide, by decide, D0, fun u5 H00 u0 u1 D00 s00 => ?_⟩
    obtain ⟨N5, hN5⟩ : ∃ N5 : Nat, 1 + u5 = (N5 : Int) := ⟨(1 + u5).toNat, by omega⟩
    have N5le : N5 ≤ 5 := by omega
    have b00 := But.of_hide s00
    have A00 : PoolAt P w K H00 C p G D' [.no] := A0.keep (S := [d]) (fun a ha => by rw [List.mem_singleton.mp ha]; exact D0.mut) b00 (by simp [ap.dp.symm]) (by simp [ap.dG.symm]) (by simp [ap.dD.symm])
    have hR00 := b00 _ _ (nn nRd) hR0
    refine ⟨_, _, rfl, rfl, (N5 : Int), by rw [← hN5], by omega, by omega, for_range (lo := 0) (n := N5) (fun i σ' H' => ∃ (gs : List Gt) (rs : Rws) (o5 o6 o7 o8 : Option V), σ' = [some (.ref a), some (.ref d), some (.int n), some (.ref p), some (.ref R), o5, o6, o7, o8, none, none, none, none, none] ∧ DrawAt H' d L ∧ PoolAt P w K H' C p G D' gs ∧ RowsAt K H' [R, d, G, D'] gs n R rs ∧ RowsSem n gs rs ∧ rs.length = i ∧ gs.length ≤ 1 + 1632 * i) ⟨[.no], [], none, none, none, none, rfl, D00, A00, ⟨[], hR00, rfl, fun i v r e => by simp at e⟩, ⟨⟨fun i d e => by simp at e⟩, fun i r e => by simp at e⟩, rfl, Nat.le_refl _⟩ ?_ ?_⟩
    · rintro i σ' H1 hi ⟨gs, rs, o5, o6, o7, o8, rfl, D1, A1, R1, S1, lrs, lgs⟩
      refine ⟨_, rfl, _, rfl, _, rfl, _, rfl, d, L, p, G, D', R, n, gs, rs, rfl, n1, n2, D1, A1, R1, nR, S1, by omega, by omega, fun H2 gs2 tx xs sx D2 A2 b2 pg2 lg2 wx okx semx => ?_⟩
      obtain ⟨vs1, hR1, lv1, _⟩ := R1.ex
      have hR2 := b2 _ _ nRA hR1
      have m1 := draw_pool_mut A1 D1 hR1
      have R2 := R1.keep m1 (wide b2) pg2 (by rw [hR2, hR1])
      have S2 := S1.pre (zok R1) pg2
      refine ⟨_, rfl, _, rfl, _, rfl, _, rfl, d, L, p, G, D', R, n, gs2, rs, rfl, n1, n2, D2, A2, R2, nR, S2, by omega, by omega, fun H3 gs3 ty ys sy D3 A3 b3 pg3 lg3 wy oky semy => ?_⟩
      have hR3 := b3 _ _ nRA hR2
      have m2 := draw_pool_mut A2 D2 hR2
      have R3 := R2.keep m2 (wide b3) pg3 (by rw [hR3, hR2])
      have S3 := S2.pre (zok R2) pg3
      have wx3 := wx.keep m2 (wide b3) pg3
      have semx3 : Sem n (rs.map (·.2)) gs3 xs sx := semx.pre wx.ok pg3
      refine ⟨by show 12 ≤ sizeLine; decide, fun l2 fl2 => ?_⟩
      have D4 := D3.new fl2 (o := .lst (M00.ops.map V.str))
      refine ⟨_, rfl, d, L, 12, rfl, by decide, by decide, D4, fun k H5 k0 k1 D5 s5 => ?_⟩
      have hl5 : H5 l2 = some (.lst (M00.ops.map V.str)) := hide_le _ _ (s5 _ _ (D3.in fl2))
      obtain ⟨op, ho1, eo⟩ := ops12_at k0 k1
      refine ⟨l2, _, _, _, rfl, rfl, SqL.of hl5, eo, ?_⟩
      have b35 : But [d] H3 H5 := (But.new fl2 _).trans (But.of_hide s5)
      have A5 : PoolAt P w K H5 C p G D' gs3 := A3.keep (S := [d]) (fun a ha => by rw [List.mem_singleton.mp ha]; exact D3.mut) b35 (by simp [ap.dp.symm]) (by simp [ap.dG.symm]) (by simp [ap.dD.symm])
      have hR5 := wided b35 _ _ nRA hR3
      have m3 := draw_pool_mut A3 D3 hR3
      have R5 := R3.keep m3 (wide (wided b35)) (List.prefix_refl _) (by rw [hR5, hR3])
      have wx5 := wx3.keep m3 (wide (wided b35)) (List.prefix_refl _)
      have wy5 := wy.keep m3 (wide (wided b35)) (List.prefix_refl _)
      have m5 := draw_pool_mut A5 D5 hR5
      -- if op in ['not', 'neg']
      refine ⟨fun σ' H' => ∃ (gs : List Gt) (rs : Rws) (o6 o7 o8 : Option V), σ' = [some (.ref a), some (.ref d), some (.int n), some (.ref p), some (.ref R), some (.int (0 + (i : Int))), o6, o7, o8, none, none, none, none, none] ∧ DrawAt H' d L ∧ PoolAt P w K H' C p G D' gs ∧ RowsAt K H' [R, d, G, D'] gs n R rs ∧ RowsSem n gs rs ∧ rs.length = i + 1 ∧ gs.length ≤ 1 + 1632 * (i + 1), ?_, ?_⟩
      · refine ⟨_, rfl, by show 2 ≤ sizeLine; decide, fun lp flp => ?_⟩
        have sp := same_new flp (.lst [.str "not", .str "neg"])
        refine ⟨lp, _, rfl, .inl (SqL.of upd_same), rfl, rfl, _, rfl, ?_⟩
        have eH : ∃ Hq, Hq = upd H5 lp (.lst [.str "not", .str "neg"]) := ⟨_, rfl⟩
        obtain ⟨Hq, eH⟩ := eH
        rw [← eH] at sp ⊢
        have A5q := A5.same sp
        have D5q := D5.mono sp
        have hRq := sp _ _ hR5
        have Rq := R5.keep m5 (.of_same sp) (List.prefix_refl _) (by rw [hRq, hR5])
        have wxq := wx5.keep m5 (.of_same sp) (List.prefix_refl _)
        have wyq := wy5.keep m5 (.of_same sp) (List.prefix_refl _)
        have mq := draw_pool_mut A5q D5q hRq
        obtain ⟨tx', rx, qx, etx, x1, x2, x3, x4⟩ := wxq.ex
        cases etx
        obtain ⟨ty', ry, qy, ety, y1, y2, y3, y4⟩ := wyq.ex
        cases ety
        refine ite2 (fun c => ?_) (fun c => ?_)
        · have hop := in2 c
          refine ⟨_, rfl, .inl ⟨rfl, _, SqL.of hRq⟩, _, rfl, _, rfl, _, rfl, tx, _, _, _, rfl, rfl, x1, at0', ?_⟩
          refine ⟨p, G, D', rx, op, gs3, xs, rfl, A5q, SqL.of x2, sub x3, by rw [wxq.len]; exact n1, by rw [wxq.len]; exact n2, wxq.ok, hop, by omega, fun H6 gs6 r zs A6 b6 pg6 lg6 hr6 nr6 lz6 okz6 sem6 => ?_⟩
          refine ⟨r, _, rfl, .inl hr6, fun l7 f7 => ?_⟩
          have s7 := same_new f7 (.lst (zs.map V.int))
          have hR6 := wideP b6 _ _ nRA hRq
          have R6 := Rq.keep mq (wide (wideP b6)) pg6 (by rw [hR6, hRq])
          have D6' := D5q.but b6 dP LP
          have x1' := sqt_mono s7 (sqt_but mq (wide (wideP b6)) x1)
          have y1' := sqt_mono s7 (sqt_but mq (wide (wideP b6)) y1)
          refine ⟨_, rfl, _, rfl, tx, _, _, _, rfl, rfl, x1', atI_nat (j := 1) rfl, _, rfl, tx, _, _, _, rfl, rfl, x1', atI_nat (j := 1) rfl, by show 3 ≤ sizeLine; decide, fun q8 f8 => ?_⟩
          have s8 := same_new f8 (.tup [.str op, .ref qx, .ref qx])
          refine ⟨by show 2 ≤ sizeLine; decide, fun t9 f9 => ?_⟩
          have s9 := same_new f9 (.tup [.ref l7, .ref q8])
          have s79 := (s7.trans s8).trans s9
          have hR9 := s79 _ _ hR6
          have A9 := A6.same s79
          have D9 := D6'.mono s79
          have m9 := draw_pool_mut A9 D9 hR9
          have R9 := R6.keep (draw_pool_mut A6 D6' hR6) (.of_same s79) (List.prefix_refl _) (by rw [hR9, hR6])
          refine ⟨R, _, _, rfl, rfl, hR9, by rw [lv1]; exact Nat.lt_of_lt_of_le (show rs.length < 1000 by omega) (by decide), ?_⟩
          have nl7 : l7 ∉ [R, d, G, D'] := fun m => by
            have := draw_pool_mut A6 D6' hR6 _ m
            rw [f7] at this
            exact this
          have wt : WordT K _ [R, d, G, D'] gs6 n (.ref t9) zs (Ds.data ⟨op, sx, sx⟩) := ⟨⟨t9, l7, q8, rfl, SqT.of upd_same, s9 _ _ (s8 _ _ upd_same), nl7, .tup (SqT.of (s9 _ _ upd_same)) (.cons (.str _) (.cons (dp_mono (s79) _ (dp_but mq (wide (wideP b6)) _ wxq.nl x4)) (.cons (dp_mono (s79) _ (dp_but mq (wide (wideP b6)) _ wxq.nl x4)) .nil)))⟩, ds_noLst _, by rw [lz6, wxq.len], okz6⟩
          have R10 := R9.snoc hR9 m9 (.head _) wt
          have S6 := S3.pre (zok R3) pg6
          have bR : But [R] _ (upd _ R (.lst (vs1 ++ [.ref t9]))) := .put (H := upd (upd (upd H6 l7 (.lst (zs.map V.int))) q8 (.tup [.str op, .ref qx, .ref qx])) t9 (.tup [.ref l7, .ref q8])) (.head _) _
          obtain ⟨dx9, ts9, hp9, _⟩ := A9.at_
          have npR : p ≠ R := ne_of hp9 hR9 (by intro z; cases z)
          refine ⟨gs6, rs ++ [(zs, ⟨op, sx, sx⟩)], _, _, _, rfl, D9.put _ nRd.symm nRL.symm, A9.keep (S := [R]) (fun a ha => by rw [List.mem_singleton.mp ha, hR9]; exact True.intro) bR (nn npR) (nn nRG.symm) (nn nRD.symm), R10, S6.snoc ho1 okx okx (fun env ws he => ?_), by rw [List.length_append, lrs]; rfl, by omega⟩
          rw [sem6 env he.bit]
          show M00.val op xs.length (wv (bitsOf env gs3) xs) (wv (bitsOf env gs3) xs) = _
          rw [wxq.len, semx3 env ws he]
        · obtain ⟨ho2, ho3⟩ := not2 c
          refine ⟨_, rfl, .inl ⟨rfl, _, SqL.of hRq⟩, _, rfl, _, rfl, _, rfl, tx, _, _, _, rfl, rfl, x1, at0', _, rfl, ty, _, _, _, rfl, rfl, y1, at0', ?_⟩
          refine ⟨p, G, D', rx, ry, op, gs3, xs, ys, rfl, A5q, SqL.of x2, SqL.of y2, sub x3, sub y3, by rw [wxq.len]; exact n1, by rw [wxq.len]; exact n2, by rw [wxq.len, wyq.len], wxq.ok, wyq.ok, ho1, ho2, ho3, by omega, fun H6 gs6 r zs A6 b6 pg6 lg6 hr6 nr6 lz6 okz6 sem6 => ?_⟩
          refine ⟨r, _, rfl, .inl hr6, fun l7 f7 => ?_⟩
          have s7 := same_new f7 (.lst (zs.map V.int))
          have hR6 := wideP b6 _ _ nRA hRq
          have R6 := Rq.keep mq (wide (wideP b6)) pg6 (by rw [hR6, hRq])
          have D6' := D5q.but b6 dP LP
          have x1' := sqt_mono s7 (sqt_but mq (wide (wideP b6)) x1)
          have y1' := sqt_mono s7 (sqt_but mq (wide (wideP b6)) y1)
          refine ⟨_, rfl, _, rfl, tx, _, _, _, rfl, rfl, x1', atI_nat (j := 1) rfl, _, rfl, ty, _, _, _, rfl, rfl, y1', atI_nat (j := 1) rfl, by show 3 ≤ sizeLine; decide, fun q8 f8 => ?_⟩
          have s8 := same_new f8 (.tup [.str op, .ref qx, .ref qy])
          refine ⟨by show 2 ≤ sizeLine; decide, fun t9 f9 => ?_⟩
          have s9 := same_new f9 (.tup [.ref l7, .ref q8])
          have s79 := (s7.trans s8).trans s9
          have hR9 := s79 _ _ hR6
          have A9 := A6.same s79
          have D9 := D6'.mono s79
          have m9 := draw_pool_mut A9 D9 hR9
          have R9 := R6.keep (draw_pool_mut A6 D6' hR6) (.of_same s79) (List.prefix_refl _) (by rw [hR9, hR6])
          refine ⟨R, _, _, rfl, rfl, hR9, by rw [lv1]; exact Nat.lt_of_lt_of_le (show rs.length < 1000 by omega) (by decide), ?_⟩
          have nl7 : l7 ∉ [R, d, G, D'] := fun m => by
            have := draw_pool_mut A6 D6' hR6 _ m
            rw [f7] at this
            exact this
          have wt : WordT K _ [R, d, G, D'] gs6 n (.ref t9) zs (Ds.data ⟨op, sx, sy⟩) := ⟨⟨t9, l7, q8, rfl, SqT.of upd_same, s9 _ _ (s8 _ _ upd_same), nl7, .tup (SqT.of (s9 _ _ upd_same)) (.cons (.str _) (.cons (dp_mono (s79) _ (dp_but mq (wide (wideP b6)) _ wxq.nl x4)) (.cons (dp_mono (s79) _ (dp_but mq (wide (wideP b6)) _ wyq.nl y4)) .nil)))⟩, ds_noLst _, by rw [lz6, wxq.len], okz6⟩
          have R10 := R9.snoc hR9 m9 (.head _) wt
          have S6 := S3.pre (zok R3) pg6
          have bR : But [R] _ (upd _ R (.lst (vs1 ++ [.ref t9]))) := .put (H := upd (upd (upd H6 l7 (.lst (zs.map V.int))) q8 (.tup [.str op, .ref qx, .ref qy])) t9 (.tup [.ref l7, .ref q8])) (.head _) _
          obtain ⟨dx9, ts9, hp9, _⟩ := A9.at_
          have npR : p ≠ R := ne_of hp9 hR9 (by intro z; cases z)
          refine ⟨gs6, rs ++ [(zs, ⟨op, sx, sy⟩)], _, _, _, rfl, D9.put _ nRd.symm nRL.symm, A9.keep (S := [R]) (fun a ha => by rw [List.mem_singleton.mp ha, hR9]; exact True.intro) bR (nn npR) (nn nRG.symm) (nn nRD.symm), R10, S6.snoc ho1 okx oky (fun env ws he => ?_), by rw [List.length_append, lrs]; rfl, by omega⟩
          rw [sem6 env he.bit]
          show M00.val op xs.length (wv (bitsOf env gs3) xs) (wv (bitsOf env gs3) ys) = _
          rw [wxq.len, semx3 env ws he, semy env ws he]
      rintro σ' Hr ⟨gsr, rsr, o6', o7', o8', rfl, Dr, Ar, Rr, Sr, lrr, lgr⟩
      obtain ⟨vsr, hRr, lvr, each⟩ := Rr.ex
      have hvi : vsr[i]? = some vsr[i] := List.getElem?_eq_getElem (by omega)
      have hri : rsr[i]? = some rsr[i] := List.getElem?_eq_getElem (by omega)
      have wt := each i _ _ hvi hri
      obtain ⟨t, r, q0, et, k1', k2, k3, k4⟩ := wt.ex
      refine ⟨_, rfl, _, rfl, R, _, _, _, rfl, rfl, SqL.of hRr, by rw [Int.zero_add]; exact atI_nat hvi, t, _, _, _, et, rfl, k1', at0', r, _, rfl, .inl (SqL.of k2), _, rfl, rfl, _, rfl, ?_⟩
      rw [List.length_map, wt.len, decide_eq_true rfl]
      refine iteF ?_
      exact ⟨gsr, rsr, _, _, _, _, rfl, Dr, Ar, Rr, Sr, lrr, lgr⟩
    · rintro σ' Hy ⟨gz, rs, o5', o6', o7', o8', rfl, Dz, Az, Rz, Sz, lrs, lgs⟩
      refine ⟨6, rfl, by decide, by decide, for_range (lo := 0) (n := 6) (fun i σ' H' => ∃ (o5 o6 o7 o8 o9 o10 o11 o12 : Option V), σ' = [some (.ref a), some (.ref d), some (.int n), some (.ref p), some (.ref R), o5, o6, o7, o8, o9, o10, o11, o12, none] ∧ DrawAt H' d L ∧ But [d] Hy H') ⟨_, _, _, _, none, none, none, none, rfl, Dz, .refl _ _⟩ ?_ ?_⟩
      · rintro i σ' H2 hi ⟨o5, o6, o7, o8, o9, o10, o11, o12, rfl, D2, b2⟩
        have mz : ∀ a ∈ [d], Mut (Hy a) := fun a ha => by rw [List.mem_singleton.mp ha]; exact Dz.mut
        refine ⟨_, rfl, _, rfl, d, L, n, rfl, n1, n2, D2, fun H3 W wz D3 b3 fW hW3 lW rW => ?_⟩
        refine ⟨by show 0 ≤ sizeLine; decide, fun V0 fV => ?_⟩
        have sV := same_new fV (.lst [])
        have D4 := D3.mono sV
        have b24 : But [d] Hy (upd H3 V0 (.lst [])) := (b2.trans b3).trans (.of_same sV)
        have nRd' : R ∉ [d] := fun m => nRd (List.mem_singleton.mp m)
        obtain ⟨vsz, hRz, _⟩ := Rz.ex
        have mRz := draw_pool_mut Az Dz hRz
        have R4 := Rz.keep mRz (wide (wided b24)) (List.prefix_refl _) (by rw [b24 _ _ nRd' hRz, hRz])
        obtain ⟨vs4, qs, hR4, lvs4, lqs, hrow⟩ := R4.descs
        refine ⟨_, rfl, R, rfl, ⟨_, SqL.of hR4⟩, fun D1 hD1 => ?_⟩
        have s4 := same_new hD1 (.lst [])
        refine lc_list (K := K) (a := R) (xs := vs4) (fun j H' => H' D1 = some (.lst (qs.take j)) ∧ Same (upd H3 V0 (.lst [])) H') ⟨upd_same, s4⟩ (fun j H' _ ⟨_, s⟩ => SqL.of (s _ _ hR4)) ?_ ?_
        · rintro j y H5 hj ⟨hD5, s5⟩
          have hjl := (List.getElem?_eq_some_iff.mp hj).1
          obtain ⟨t, r', q0, rfl, k1, k2, k3⟩ := hrow j y _ hj (List.getElem?_eq_getElem (by omega))
          refine ⟨rfl, yesV ?_⟩
          rw [if_pos rfl]
          refine ⟨_, rfl, t, _, _, _, rfl, rfl, sqt_mono s5 k1, atI_nat (j := 1) rfl, qs.take j, hD5, by rw [List.length_take]; exact Nat.lt_of_le_of_lt (show min j qs.length ≤ 1000 by omega) (by decide), by rw [upd_same, ← take_nextV k2], fun b o e => ?_⟩
          rw [upd_ne (ne_of_none e hD1)]
          exact s5 _ _ e
        · rintro H5 ⟨hD5, s5⟩
          rw [lvs4, ← lqs, List.take_length] at hD5
          have nVD : V0 ≠ D1 := ne_of_none (upd_same : (upd H3 V0 (.lst [])) V0 = _) hD1
          have hV5 := s5 _ _ (upd_same : (upd H3 V0 (.lst [])) V0 = _)
          have D5 := D4.mono s5
          have b25 : But [d] Hy H5 := b24.trans (.of_same s5)
          have hW5 := s5 _ _ (sV _ _ hW3)
          have nWV : W ≠ V0 := ne_of_none hW3 fV
          have dsl : (rs.map (·.2)).length = rs.length := List.length_map _
          have hws : ∀ v, v < 3 → 0 ≤ wsOf wz v ∧ wsOf wz v < 2 ^ n := fun v hv => by
            unfold wsOf
            rw [List.getD_eq_getElem?_getD, List.getElem?_eq_getElem (by omega)]
            exact rW _ (List.getElem_mem _)
          refine ⟨D1, rfl, ⟨_, SqL.of hD5⟩, for_list (K := K) (a := D1) (xs := qs) (fun j σ' H' => ∃ (o6 o7 o8 : Option V), σ' = [some (.ref a), some (.ref d), some (.int n), some (.ref p), some (.ref R), o5, o6, o7, o8, some (.int (0 + (i : Int))), some (.ref W), some (.ref V0), o12, none] ∧ But [V0] H5 H' ∧ H' V0 = some (.lst ((dsVals n (wsOf wz) ((rs.map (·.2)).take j)).map V.int))) ⟨_, _, _, rfl, .refl _ _, hV5⟩ (fun j σ' H' _ ⟨_, _, _, _, b, _⟩ => SqL.of (b _ _ (nn nVD.symm) hD5)) ?_ ?_⟩
          · rintro j y σ' H6 hj ⟨o8', o16', o17', rfl, b6, hV6⟩
            have hjl := (List.getElem?_eq_some_iff.mp hj).1
            have hrj : rs[j]? = some rs[j] := List.getElem?_eq_getElem (by omega)
            have hdj : (rs.map (·.2))[j]? = some (rs[j]).2 := by rw [List.getElem?_map, hrj]; rfl
            obtain ⟨t, r', q0, _, _, k2, k3⟩ := hrow j _ _ (List.getElem?_eq_getElem (show j < vs4.length by omega)) hrj
            rw [hj] at k2
            cases k2
            have mV : ∀ a ∈ [V0], Mut (H5 a) := fun a ha => by rw [List.mem_singleton.mp ha, hV5]; exact True.intro
            have k4 := dp_but mV b6 _ (ds_noLst _) (dp_mono s5 _ k3)
            obtain ⟨t3, va, vb, vc, et, h3, ha, hb, hc⟩ := dp_three (show Dp K H6 (.ref q0) (.tuple [.str (rs[j]).2.op, (rs[j]).2.x.data, (rs[j]).2.y.data]) from k4)
            cases et
            cases dp_str ha
            obtain ⟨qa, rfl⟩ := src_ref hb
            obtain ⟨qb, rfl⟩ := src_ref hc
            obtain ⟨hop, hx, hy⟩ := Sz.ok.each j _ hdj
            have okt := Sz.ok.take j
            have vl : (dsVals n (wsOf wz) ((rs.map (·.2)).take j)).length = j := by rw [dsVals_len, List.length_take]; omega
            have vr := dsVals_rng n1 hws _ okt
            have hx' : (rs[j]).2.x.ok n (dsVals n (wsOf wz) ((rs.map (·.2)).take j)).length := by rw [vl]; exact hx
            have hy' : (rs[j]).2.y.ok n (dsVals n (wsOf wz) ((rs.map (·.2)).take j)).length := by rw [vl]; exact hy
            have rx := src_rng hws vr hx'
            have ry := src_rng hws vr hy'
            have hW6 := b6 _ _ (nn nWV) hW5
            refine ⟨q0, _, rfl, h3, rfl, _, _, rfl, _, _, rfl, _, _, rfl, rfl, ?_⟩
            refine ⟨_, rfl, .inl ⟨rfl, _, SqL.of hV6⟩, _, rfl, _, rfl, _, rfl, _, rfl, _, rfl, qa, W, V0, (rs[j]).2.x, wz, _, rfl, hb, SqL.of hW6, lW, SqL.of hV6, ⟨n, hx'⟩, ?_⟩
            refine ⟨_, rfl, _, rfl, _, rfl, qb, W, V0, (rs[j]).2.y, wz, _, rfl, hc, SqL.of hW6, lW, SqL.of hV6, ⟨n, hy'⟩, ?_⟩
            refine ⟨(rs[j]).2.op, n, _, _, rfl, hop, n1, n2, rx.1, rx.2, ry.1, ry.2, fun H7 s7 => ?_⟩
            have hV7 := s7 _ _ hV6
            refine ⟨V0, _, _, rfl, rfl, hV7, by rw [List.length_map, vl]; exact Nat.lt_of_lt_of_le (show j < 1000 by omega) (by decide), ?_⟩
            refine ⟨_, _, _, rfl, (b6.trans (.of_same s7)).trans (.put (.head _) _), ?_⟩
            rw [upd_same, dsVals_take hdj, List.map_append]
            rfl
          · rintro σ' H6 ⟨o8', o16', o17', rfl, b6, hV6⟩
            rw [lqs, ← dsl, List.take_length] at hV6
            have ndV : d ≠ V0 := D3.ne fV
            have nLV : L ≠ V0 := D3.neL fV
            have D6 := D5.but b6 (nn ndV) (nn nLV)
            have hVn : Hy V0 = none := by
              cases e : Hy V0 with
              | none => rfl
              | some u =>
                by_cases ed : V0 = d
                · exact absurd ed.symm ndV
                · have := b2.trans b3 V0 u (nn ed) e
                  rw [fV] at this
                  cases this
            have b26 : But [d] Hy H6 := fun b o nb e => b6 b o (fun m => by rw [List.mem_singleton.mp m, hVn] at e; cases e) (b25 b o nb e)
            have hW6 := b6 _ _ (nn nWV) hW5
            refine ⟨fun σ' H' => ∃ (B : Addr) (brows : NRows), σ' = [some (.ref a), some (.ref d), some (.int n), some (.ref p), some (.ref R), o5, o8', o16', o17', some (.int (0 + (i : Int))), some (.ref W), some (.ref V0), some (.ref B), none] ∧ Same H6 H' ∧ BitsAt P w K H' B brows ∧ EnvW n (envOf brows) (wsOf wz), ?_, ?_⟩
            · exact ⟨_, rfl, _, rfl, W, n, wz, rfl, n2, SqL.of hW6, lW, rW, fun H7 B brows s7 fB hB he => ⟨B, brows, rfl, s7, hB, he⟩⟩
            rintro σ' H7 ⟨B, brows, rfl, s7, hB, he⟩
            have b27 : But [d] Hy H7 := b26.trans (.of_same s7)
            have D7 := D6.mono s7
            have A7 : PoolAt P w K H7 C p G D' gz := Az.keep (S := [d]) mz b27 (by simp [ap.dp.symm]) (by simp [ap.dG.symm]) (by simp [ap.dD.symm])
            have hV7 := s7 _ _ hV6
            have R7 := Rz.keep mRz (wide (wided b27)) (List.prefix_refl _) (by rw [b27 _ _ nRd' hRz, hRz])
            obtain ⟨vs7, hR7, lvs7, each7⟩ := R7.ex
            have vl : (dsVals n (wsOf wz) (rs.map (·.2))).length = rs.length := by rw [dsVals_len, dsl]
            refine ⟨_, rfl, R, _, rfl, .inl (SqL.of hR7), _, rfl, by omega, by omega, for_range (lo := 0) (n := vs7.length) (fun j σ' H' => ∃ (o5 : Option V), σ' = [some (.ref a), some (.ref d), some (.int n), some (.ref p), some (.ref R), o5, o8', o16', o17', some (.int (0 + (i : Int))), some (.ref W), some (.ref V0), some (.ref B), none] ∧ Same H7 H') ⟨_, rfl, .refl _⟩ ?_ ?_⟩
            · rintro j σ' H8 hj ⟨o5, rfl, s8⟩
              have hvj : vs7[j]? = some vs7[j] := List.getElem?_eq_getElem hj
              have hrj : rs[j]? = some rs[j] := List.getElem?_eq_getElem (by omega)
              have wt := each7 j _ _ hvj hrj
              obtain ⟨t, r, q0, et, k1, k2, k3, k4⟩ := wt.ex
              have hvl : (dsVals n (wsOf wz) (rs.map (·.2)))[j]? = some ((dsVals n (wsOf wz) (rs.map (·.2))).getD j 0) := by
                rw [List.getElem?_eq_getElem (by omega), List.getD_eq_getElem?_getD, List.getElem?_eq_getElem (by omega)]
                rfl
              have ez := Sz.sem j _ hrj (envOf brows) (wsOf wz) he
              refine ⟨_, rfl, _, rfl, _, rfl, R, _, _, _, rfl, rfl, SqL.of (s8 _ _ hR7), by rw [Int.zero_add]; exact atI_nat hvj, t, _, _, _, et, rfl, sqt_mono s8 k1, at0', _, rfl, p, G, D', r, B, gz, (rs[j]).1, brows, rfl, A7.same s8, SqL.of (s8 _ _ k2), wt.ok, by rw [wt.len]; omega, by omega, hB.same s8, fun H9 s9 => ?_⟩
              refine ⟨_, rfl, _, rfl, V0, _, _, _, rfl, rfl, SqL.of (s9 _ _ (s8 _ _ hV7)), by rw [Int.zero_add]; exact atI_nat (by rw [List.getElem?_map, hvl]; rfl), rfl, _, rfl, ?_⟩
              rw [show wv (bitsOf (envOf brows) gz) (rs[j]).1 = (dsVals n (wsOf wz) (rs.map (·.2))).getD j 0 from ez, decide_eq_true rfl]
              refine iteF ?_
              exact ⟨_, rfl, s8.trans s9⟩
            · rintro σ' H8 ⟨o5, rfl, s8⟩
              exact ⟨_, _, _, _, _, _, _, _, rfl, D7.mono s8, b27.trans (.of_same s8)⟩
      · rintro σ' H2 ⟨o5, o6, o7, o8, o9, o10, o11, o12, rfl, D2, b2⟩
        exact q H2
end
end My

set_option Elab.async false
set_option maxRecDepth 100000
set_option maxHeartbeats 8000000
set_option linter.all false
namespace My
open PySem L2
theorem all_mk {l : PySem.W.OpenLaw} {w : World} {K : PySem.W.Frag} {h : Heap} {mg : Str → Option Value} {fa : Addr} (X : K.In h) (G : h.Ns mainGlobals mg) (hfa : mg "law" = some (.ref fa))
    {f0 : Addr} {od0 an0 : Option Addr} {sl0 : Array (Option Value)} {oc0 kV0 dc0 pm0 cd0 ct0 : Value}
    (a0 : PySem.W.nsIn K mainGlobals "both_gate" = some (some (.ref f0))) (l0 : K.lookup f0 = some ⟨oc0, od0, .func (PySem.W.fnOf "both_gate" "both_gate" (defArgs s_both_gate) (defBody s_both_gate) (defScope s_both_gate) .none kV0 dc0 pm0 an0 cd0 ct0), sl0⟩) (c0 : PySem.W.codeIn K cd0 "both_gate" = true) (k0 : PySem.W.keepIn K (.ref f0) = true)
    {f1 : Addr} {od1 an1 : Option Addr} {sl1 : Array (Option Value)} {oc1 kV1 dc1 pm1 cd1 ct1 : Value}
    (a1 : PySem.W.nsIn K mainGlobals "gate_value" = some (some (.ref f1))) (l1 : K.lookup f1 = some ⟨oc1, od1, .func (PySem.W.fnOf "gate_value" "gate_value" (defArgs s_gate_value) (defBody s_gate_value) (defScope s_gate_value) .none kV1 dc1 pm1 an1 cd1 ct1), sl1⟩) (c1 : PySem.W.codeIn K cd1 "gate_value" = true) (k1 : PySem.W.keepIn K (.ref f1) = true)
    {f2 : Addr} {od2 an2 : Option Addr} {sl2 : Array (Option Value)} {oc2 kV2 dc2 pm2 cd2 ct2 : Value}
    (a2 : PySem.W.nsIn K mainGlobals "constant" = some (some (.ref f2))) (l2 : K.lookup f2 = some ⟨oc2, od2, .func (PySem.W.fnOf "constant" "constant" (defArgs s_constant) (defBody s_constant) (defScope s_constant) .none kV2 dc2 pm2 an2 cd2 ct2), sl2⟩) (c2 : PySem.W.codeIn K cd2 "constant" = true) (k2 : PySem.W.keepIn K (.ref f2) = true)
    {f3 : Addr} {od3 an3 : Option Addr} {sl3 : Array (Option Value)} {oc3 kV3 dc3 pm3 cd3 ct3 : Value}
    (a3 : PySem.W.nsIn K mainGlobals "added" = some (some (.ref f3))) (l3 : K.lookup f3 = some ⟨oc3, od3, .func (PySem.W.fnOf "added" "added" (defArgs s_added) (defBody s_added) (defScope s_added) .none kV3 dc3 pm3 an3 cd3 ct3), sl3⟩) (c3 : PySem.W.codeIn K cd3 "added" = true) (k3 : PySem.W.keepIn K (.ref f3) = true)
    {f4 : Addr} {od4 an4 : Option Addr} {sl4 : Array (Option Value)} {oc4 kV4 dc4 pm4 cd4 ct4 : Value}
    (a4 : PySem.W.nsIn K mainGlobals "computed" = some (some (.ref f4))) (l4 : K.lookup f4 = some ⟨oc4, od4, .func (PySem.W.fnOf "computed" "computed" (defArgs s_computed) (defBody s_computed) (defScope s_computed) .none kV4 dc4 pm4 an4 cd4 ct4), sl4⟩) (c4 : PySem.W.codeIn K cd4 "computed" = true) (k4 : PySem.W.keepIn K (.ref f4) = true)
    {f5 : Addr} {od5 an5 : Option Addr} {sl5 : Array (Option Value)} {oc5 kV5 dc5 pm5 cd5 ct5 : Value}
    (a5 : PySem.W.nsIn K mainGlobals "single" = some (some (.ref f5))) (l5 : K.lookup f5 = some ⟨oc5, od5, .func (PySem.W.fnOf "single" "single" (defArgs s_single) (defBody s_single) (defScope s_single) .none kV5 dc5 pm5 an5 cd5 ct5), sl5⟩) (c5 : PySem.W.codeIn K cd5 "single" = true) (k5 : PySem.W.keepIn K (.ref f5) = true)
    {f6 : Addr} {od6 an6 : Option Addr} {sl6 : Array (Option Value)} {oc6 kV6 dc6 pm6 cd6 ct6 : Value}
    (a6 : PySem.W.nsIn K mainGlobals "turned" = some (some (.ref f6))) (l6 : K.lookup f6 = some ⟨oc6, od6, .func (PySem.W.fnOf "turned" "turned" (defArgs s_turned) (defBody s_turned) (defScope s_turned) .none kV6 dc6 pm6 an6 cd6 ct6), sl6⟩) (c6 : PySem.W.codeIn K cd6 "turned" = true) (k6 : PySem.W.keepIn K (.ref f6) = true)
    {f7 : Addr} {od7 an7 : Option Addr} {sl7 : Array (Option Value)} {oc7 kV7 dc7 pm7 cd7 ct7 : Value}
    (a7 : PySem.W.nsIn K mainGlobals "multiplied" = some (some (.ref f7))) (l7 : K.lookup f7 = some ⟨oc7, od7, .func (PySem.W.fnOf "multiplied" "multiplied" (defArgs s_multiplied) (defBody s_multiplied) (defScope s_multiplied) .none kV7 dc7 pm7 an7 cd7 ct7), sl7⟩) (c7 : PySem.W.codeIn K cd7 "multiplied" = true) (k7 : PySem.W.keepIn K (.ref f7) = true)
    {f8 : Addr} {od8 an8 : Option Addr} {sl8 : Array (Option Value)} {oc8 kV8 dc8 pm8 cd8 ct8 : Value}
    (a8 : PySem.W.nsIn K mainGlobals "shifted_left" = some (some (.ref f8))) (l8 : K.lookup f8 = some ⟨oc8, od8, .func (PySem.W.fnOf "shifted_left" "shifted_left" (defArgs s_shifted_left) (defBody s_shifted_left) (defScope s_shifted_left) .none kV8 dc8 pm8 an8 cd8 ct8), sl8⟩) (c8 : PySem.W.codeIn K cd8 "shifted_left" = true) (k8 : PySem.W.keepIn K (.ref f8) = true)
    {f9 : Addr} {od9 an9 : Option Addr} {sl9 : Array (Option Value)} {oc9 kV9 dc9 pm9 cd9 ct9 : Value}
    (a9 : PySem.W.nsIn K mainGlobals "less_word" = some (some (.ref f9))) (l9 : K.lookup f9 = some ⟨oc9, od9, .func (PySem.W.fnOf "less_word" "less_word" (defArgs s_less_word) (defBody s_less_word) (defScope s_less_word) .none kV9 dc9 pm9 an9 cd9 ct9), sl9⟩) (c9 : PySem.W.codeIn K cd9 "less_word" = true) (k9 : PySem.W.keepIn K (.ref f9) = true)
    {f10 : Addr} {od10 an10 : Option Addr} {sl10 : Array (Option Value)} {oc10 kV10 dc10 pm10 cd10 ct10 : Value}
    (a10 : PySem.W.nsIn K mainGlobals "equal_word" = some (some (.ref f10))) (l10 : K.lookup f10 = some ⟨oc10, od10, .func (PySem.W.fnOf "equal_word" "equal_word" (defArgs s_equal_word) (defBody s_equal_word) (defScope s_equal_word) .none kV10 dc10 pm10 an10 cd10 ct10), sl10⟩) (c10 : PySem.W.codeIn K cd10 "equal_word" = true) (k10 : PySem.W.keepIn K (.ref f10) = true)
    {f11 : Addr} {od11 an11 : Option Addr} {sl11 : Array (Option Value)} {oc11 kV11 dc11 pm11 cd11 ct11 : Value}
    (a11 : PySem.W.nsIn K mainGlobals "chosen_word" = some (some (.ref f11))) (l11 : K.lookup f11 = some ⟨oc11, od11, .func (PySem.W.fnOf "chosen_word" "chosen_word" (defArgs s_chosen_word) (defBody s_chosen_word) (defScope s_chosen_word) .none kV11 dc11 pm11 an11 cd11 ct11), sl11⟩) (c11 : PySem.W.codeIn K cd11 "chosen_word" = true) (k11 : PySem.W.keepIn K (.ref f11) = true)
    {f12 : Addr} {od12 an12 : Option Addr} {sl12 : Array (Option Value)} {oc12 kV12 dc12 pm12 cd12 ct12 : Value}
    (a12 : PySem.W.nsIn K mainGlobals "word_value" = some (some (.ref f12))) (l12 : K.lookup f12 = some ⟨oc12, od12, .func (PySem.W.fnOf "word_value" "word_value" (defArgs s_word_value) (defBody s_word_value) (defScope s_word_value) .none kV12 dc12 pm12 an12 cd12 ct12), sl12⟩) (c12 : PySem.W.codeIn K cd12 "word_value" = true) (k12 : PySem.W.keepIn K (.ref f12) = true)
    {f13 : Addr} {od13 an13 : Option Addr} {sl13 : Array (Option Value)} {oc13 kV13 dc13 pm13 cd13 ct13 : Value}
    (a13 : PySem.W.nsIn K mainGlobals "_law_draw" = some (some (.ref f13))) (l13 : K.lookup f13 = some ⟨oc13, od13, .func (PySem.W.fnOf "_law_draw" "_law_draw" (defArgs s__law_draw) (defBody s__law_draw) (defScope s__law_draw) .none kV13 dc13 pm13 an13 cd13 ct13), sl13⟩) (c13 : PySem.W.codeIn K cd13 "_law_draw" = true) (k13 : PySem.W.keepIn K (.ref f13) = true)
    {f14 : Addr} {od14 an14 : Option Addr} {sl14 : Array (Option Value)} {oc14 kV14 dc14 pm14 cd14 ct14 : Value}
    (a14 : PySem.W.nsIn K mainGlobals "_law_take" = some (some (.ref f14))) (l14 : K.lookup f14 = some ⟨oc14, od14, .func (PySem.W.fnOf "_law_take" "_law_take" (defArgs s__law_take) (defBody s__law_take) (defScope s__law_take) .none kV14 dc14 pm14 an14 cd14 ct14), sl14⟩) (c14 : PySem.W.codeIn K cd14 "_law_take" = true) (k14 : PySem.W.keepIn K (.ref f14) = true)
    {f15 : Addr} {od15 an15 : Option Addr} {sl15 : Array (Option Value)} {oc15 kV15 dc15 pm15 cd15 ct15 : Value}
    (a15 : PySem.W.nsIn K mainGlobals "_law_top" = some (some (.ref f15))) (l15 : K.lookup f15 = some ⟨oc15, od15, .func (PySem.W.fnOf "_law_top" "_law_top" (defArgs s__law_top) (defBody s__law_top) (defScope s__law_top) .none kV15 dc15 pm15 an15 cd15 ct15), sl15⟩) (c15 : PySem.W.codeIn K cd15 "_law_top" = true) (k15 : PySem.W.keepIn K (.ref f15) = true)
    {f16 : Addr} {od16 an16 : Option Addr} {sl16 : Array (Option Value)} {oc16 kV16 dc16 pm16 cd16 ct16 : Value}
    (a16 : PySem.W.nsIn K mainGlobals "_law_compute" = some (some (.ref f16))) (l16 : K.lookup f16 = some ⟨oc16, od16, .func (PySem.W.fnOf "_law_compute" "_law_compute" (defArgs s__law_compute) (defBody s__law_compute) (defScope s__law_compute) .none kV16 dc16 pm16 an16 cd16 ct16), sl16⟩) (c16 : PySem.W.codeIn K cd16 "_law_compute" = true) (k16 : PySem.W.keepIn K (.ref f16) = true)
    {f17 : Addr} {od17 an17 : Option Addr} {sl17 : Array (Option Value)} {oc17 kV17 dc17 pm17 cd17 ct17 : Value}
    (a17 : PySem.W.nsIn K mainGlobals "_law_word" = some (some (.ref f17))) (l17 : K.lookup f17 = some ⟨oc17, od17, .func (PySem.W.fnOf "_law_word" "_law_word" (defArgs s__law_word) (defBody s__law_word) (defScope s__law_word) .none kV17 dc17 pm17 an17 cd17 ct17), sl17⟩) (c17 : PySem.W.codeIn K cd17 "_law_word" = true) (k17 : PySem.W.keepIn K (.ref f17) = true)
    {f18 : Addr} {od18 an18 : Option Addr} {sl18 : Array (Option Value)} {oc18 kV18 dc18 pm18 cd18 ct18 : Value}
    (a18 : PySem.W.nsIn K mainGlobals "_law_number" = some (some (.ref f18))) (l18 : K.lookup f18 = some ⟨oc18, od18, .func (PySem.W.fnOf "_law_number" "_law_number" (defArgs s__law_number) (defBody s__law_number) (defScope s__law_number) .none kV18 dc18 pm18 an18 cd18 ct18), sl18⟩) (c18 : PySem.W.codeIn K cd18 "_law_number" = true) (k18 : PySem.W.keepIn K (.ref f18) = true)
    {f19 : Addr} {od19 an19 : Option Addr} {sl19 : Array (Option Value)} {oc19 kV19 dc19 pm19 cd19 ct19 : Value}
    (a19 : PySem.W.nsIn K mainGlobals "_law_words" = some (some (.ref f19))) (l19 : K.lookup f19 = some ⟨oc19, od19, .func (PySem.W.fnOf "_law_words" "_law_words" (defArgs s__law_words) (defBody s__law_words) (defScope s__law_words) .none kV19 dc19 pm19 an19 cd19 ct19), sl19⟩) (c19 : PySem.W.codeIn K cd19 "_law_words" = true) (k19 : PySem.W.keepIn K (.ref f19) = true)
    {f20 : Addr} {od20 an20 : Option Addr} {sl20 : Array (Option Value)} {oc20 kV20 dc20 pm20 cd20 ct20 : Value}
    (a20 : PySem.W.nsIn K mainGlobals "_law_bits" = some (some (.ref f20))) (l20 : K.lookup f20 = some ⟨oc20, od20, .func (PySem.W.fnOf "_law_bits" "_law_bits" (defArgs s__law_bits) (defBody s__law_bits) (defScope s__law_bits) .none kV20 dc20 pm20 an20 cd20 ct20), sl20⟩) (c20 : PySem.W.codeIn K cd20 "_law_bits" = true) (k20 : PySem.W.keepIn K (.ref f20) = true)
    {f21 : Addr} {od21 an21 : Option Addr} {sl21 : Array (Option Value)} {oc21 kV21 dc21 pm21 cd21 ct21 : Value}
    (a21 : PySem.W.nsIn K mainGlobals "law" = some (some (.ref f21))) (l21 : K.lookup f21 = some ⟨oc21, od21, .func (PySem.W.fnOf "law" "law" (defArgs s_law) (defBody s_law) (defScope s_law) .none kV21 dc21 pm21 an21 cd21 ct21), sl21⟩) (c21 : PySem.W.codeIn K cd21 "law" = true) (k21 : PySem.W.keepIn K (.ref f21) = true)
    {t_NO : Tok} (i_NO : PySem.W.nsIn K mainGlobals "NO" = some (some (.int 0 t_NO)))
    {t_YES : Tok} (i_YES : PySem.W.nsIn K mainGlobals "YES" = some (some (.int 1 t_YES)))
    {C : Addr} (aC : PySem.W.nsIn K mainGlobals "Pool" = some (some (.ref C)))
    {mf0 : Addr} {mod0 man0 : Option Addr} {msl0 : Array (Option Value)} {moc0 mkV0 mdc0 mpm0 mcd0 mct0 : Value}
    (ma0 : PySem.W.findIn K (.ref C) "__init__" = some (some (.ref mf0))) (mi0 : PySem.W.isFn K (.ref mf0) = true) (ml0 : K.lookup mf0 = some ⟨moc0, mod0, .func (PySem.W.fnOf "__init__" "Pool.__init__" (defArgs s_Pool___init__) (defBody s_Pool___init__) (defScope s_Pool___init__) .none mkV0 mdc0 mpm0 man0 mcd0 mct0), msl0⟩) (mc0 : PySem.W.codeIn K mcd0 "Pool.__init__" = true) (mk0 : PySem.W.keepIn K (.ref mf0) = true)
    {mf1 : Addr} {mod1 man1 : Option Addr} {msl1 : Array (Option Value)} {moc1 mkV1 mdc1 mpm1 mcd1 mct1 : Value}
    (ma1 : PySem.W.findIn K (.ref C) "bit" = some (some (.ref mf1))) (mi1 : PySem.W.isFn K (.ref mf1) = true) (ml1 : K.lookup mf1 = some ⟨moc1, mod1, .func (PySem.W.fnOf "bit" "Pool.bit" (defArgs s_Pool_bit) (defBody s_Pool_bit) (defScope s_Pool_bit) .none mkV1 mdc1 mpm1 man1 mcd1 mct1), msl1⟩) (mc1 : PySem.W.codeIn K mcd1 "Pool.bit" = true) (mk1 : PySem.W.keepIn K (.ref mf1) = true)
    {mf2 : Addr} {mod2 man2 : Option Addr} {msl2 : Array (Option Value)} {moc2 mkV2 mdc2 mpm2 mcd2 mct2 : Value}
    (ma2 : PySem.W.findIn K (.ref C) "both" = some (some (.ref mf2))) (mi2 : PySem.W.isFn K (.ref mf2) = true) (ml2 : K.lookup mf2 = some ⟨moc2, mod2, .func (PySem.W.fnOf "both" "Pool.both" (defArgs s_Pool_both) (defBody s_Pool_both) (defScope s_Pool_both) .none mkV2 mdc2 mpm2 man2 mcd2 mct2), msl2⟩) (mc2 : PySem.W.codeIn K mcd2 "Pool.both" = true) (mk2 : PySem.W.keepIn K (.ref mf2) = true)
    {mf3 : Addr} {mod3 man3 : Option Addr} {msl3 : Array (Option Value)} {moc3 mkV3 mdc3 mpm3 mcd3 mct3 : Value}
    (ma3 : PySem.W.findIn K (.ref C) "either" = some (some (.ref mf3))) (mi3 : PySem.W.isFn K (.ref mf3) = true) (ml3 : K.lookup mf3 = some ⟨moc3, mod3, .func (PySem.W.fnOf "either" "Pool.either" (defArgs s_Pool_either) (defBody s_Pool_either) (defScope s_Pool_either) .none mkV3 mdc3 mpm3 man3 mcd3 mct3), msl3⟩) (mc3 : PySem.W.codeIn K mcd3 "Pool.either" = true) (mk3 : PySem.W.keepIn K (.ref mf3) = true)
    {mf4 : Addr} {mod4 man4 : Option Addr} {msl4 : Array (Option Value)} {moc4 mkV4 mdc4 mpm4 mcd4 mct4 : Value}
    (ma4 : PySem.W.findIn K (.ref C) "unlike" = some (some (.ref mf4))) (mi4 : PySem.W.isFn K (.ref mf4) = true) (ml4 : K.lookup mf4 = some ⟨moc4, mod4, .func (PySem.W.fnOf "unlike" "Pool.unlike" (defArgs s_Pool_unlike) (defBody s_Pool_unlike) (defScope s_Pool_unlike) .none mkV4 mdc4 mpm4 man4 mcd4 mct4), msl4⟩) (mc4 : PySem.W.codeIn K mcd4 "Pool.unlike" = true) (mk4 : PySem.W.keepIn K (.ref mf4) = true)
    {mf5 : Addr} {mod5 man5 : Option Addr} {msl5 : Array (Option Value)} {moc5 mkV5 mdc5 mpm5 mcd5 mct5 : Value}
    (ma5 : PySem.W.findIn K (.ref C) "chosen" = some (some (.ref mf5))) (mi5 : PySem.W.isFn K (.ref mf5) = true) (ml5 : K.lookup mf5 = some ⟨moc5, mod5, .func (PySem.W.fnOf "chosen" "Pool.chosen" (defArgs s_Pool_chosen) (defBody s_Pool_chosen) (defScope s_Pool_chosen) .none mkV5 mdc5 mpm5 man5 mcd5 mct5), msl5⟩) (mc5 : PySem.W.codeIn K mcd5 "Pool.chosen" = true) (mk5 : PySem.W.keepIn K (.ref mf5) = true)
    {mf6 : Addr} {mod6 man6 : Option Addr} {msl6 : Array (Option Value)} {moc6 mkV6 mdc6 mpm6 mcd6 mct6 : Value}
    (ma6 : PySem.W.findIn K (.ref C) "most" = some (some (.ref mf6))) (mi6 : PySem.W.isFn K (.ref mf6) = true) (ml6 : K.lookup mf6 = some ⟨moc6, mod6, .func (PySem.W.fnOf "most" "Pool.most" (defArgs s_Pool_most) (defBody s_Pool_most) (defScope s_Pool_most) .none mkV6 mdc6 mpm6 man6 mcd6 mct6), msl6⟩) (mc6 : PySem.W.codeIn K mcd6 "Pool.most" = true) (mk6 : PySem.W.keepIn K (.ref mf6) = true)
    {mf7 : Addr} {mod7 man7 : Option Addr} {msl7 : Array (Option Value)} {moc7 mkV7 mdc7 mpm7 mcd7 mct7 : Value}
    (ma7 : PySem.W.findIn K (.ref C) "literal_of" = some (some (.ref mf7))) (mi7 : PySem.W.isFn K (.ref mf7) = true) (ml7 : K.lookup mf7 = some ⟨moc7, mod7, .func (PySem.W.fnOf "literal_of" "Pool.literal_of" (defArgs s_Pool_literal_of) (defBody s_Pool_literal_of) (defScope s_Pool_literal_of) .none mkV7 mdc7 mpm7 man7 mcd7 mct7), msl7⟩) (mc7 : PySem.W.codeIn K mcd7 "Pool.literal_of" = true) (mk7 : PySem.W.keepIn K (.ref mf7) = true)
    {mf8 : Addr} {mod8 man8 : Option Addr} {msl8 : Array (Option Value)} {moc8 mkV8 mdc8 mpm8 mcd8 mct8 : Value}
    (ma8 : PySem.W.findIn K (.ref C) "computed" = some (some (.ref mf8))) (mi8 : PySem.W.isFn K (.ref mf8) = true) (ml8 : K.lookup mf8 = some ⟨moc8, mod8, .func (PySem.W.fnOf "computed" "Pool.computed" (defArgs s_Pool_computed) (defBody s_Pool_computed) (defScope s_Pool_computed) .none mkV8 mdc8 mpm8 man8 mcd8 mct8), msl8⟩) (mc8 : PySem.W.codeIn K mcd8 "Pool.computed" = true) (mk8 : PySem.W.keepIn K (.ref mf8) = true)
    {mf9 : Addr} {mod9 man9 : Option Addr} {msl9 : Array (Option Value)} {moc9 mkV9 mdc9 mpm9 mcd9 mct9 : Value}
    (ma9 : PySem.W.findIn K (.ref C) "cone" = some (some (.ref mf9))) (mi9 : PySem.W.isFn K (.ref mf9) = true) (ml9 : K.lookup mf9 = some ⟨moc9, mod9, .func (PySem.W.fnOf "cone" "Pool.cone" (defArgs s_Pool_cone) (defBody s_Pool_cone) (defScope s_Pool_cone) .none mkV9 mdc9 mpm9 man9 mcd9 mct9), msl9⟩) (mc9 : PySem.W.codeIn K mcd9 "Pool.cone" = true) (mk9 : PySem.W.keepIn K (.ref mf9) = true)
    (pg : PySem.W.plainGet K C Str.empty = true) (hd : PySem.W.hasDictIn K C = true) (po : PySem.W.plainOver K C = true) (sa : PySem.W.findIn K (.ref C) "__setattr__" = some (some (.builtin "object.__setattr__"))) (mk : PySem.W.makesIn K C = true) (kc : PySem.W.keepIn K (.ref C) = true)
    (nG : PySem.W.findIn K (.ref C) "gates" = some none) (nL : PySem.W.findIn K (.ref C) "literals" = some none)
    (z_abs : PySem.W.nsIn K mainGlobals "abs" = some none)
    (z_enumerate : PySem.W.nsIn K mainGlobals "enumerate" = some none)
    (z_int : PySem.W.nsIn K mainGlobals "int" = some none)
    (z_len : PySem.W.nsIn K mainGlobals "len" = some none)
    (z_list : PySem.W.nsIn K mainGlobals "list" = some none)
    (z_max : PySem.W.nsIn K mainGlobals "max" = some none)
    (z_min : PySem.W.nsIn K mainGlobals "min" = some none)
    (z_range : PySem.W.nsIn K mainGlobals "range" = some none)
    (z_sorted : PySem.W.nsIn K mainGlobals "sorted" = some none)
    (z_sum : PySem.W.nsIn K mainGlobals "sum" = some none)
    (z_zip : PySem.W.nsIn K mainGlobals "zip" = some none)
    : ∃ fd : FuncData, (∀ (s : Shared) (v : Value), BindsTo s fd ⟨[v], []⟩ [("script", v)]) ∧ ∀ base : Heap, K.In base → base.Ns mainGlobals mg → FnOk l.prog w K mg base CX0 8 fa fd ["script"] (spLaw K) := by
  have e := hfa.symm.trans (PySem.W.mg_of X G a21)
  have T : Txt K mg := ⟨PySem.W.mg_none_of X G z_abs, PySem.W.mg_none_of X G z_enumerate, PySem.W.mg_none_of X G z_int, PySem.W.mg_none_of X G z_len, PySem.W.mg_none_of X G z_list, PySem.W.mg_none_of X G z_max, PySem.W.mg_none_of X G z_min, PySem.W.mg_none_of X G z_range, PySem.W.mg_none_of X G z_sorted, PySem.W.mg_none_of X G z_sum, PySem.W.mg_none_of X G z_zip⟩
  have C_NO : ConI mg "NO" 0 := ⟨t_NO, PySem.W.mg_of X G i_NO⟩
  have C_YES : ConI mg "YES" 1 := ⟨t_YES, PySem.W.mg_of X G i_YES⟩
  let fd_both_gate : FuncData := PySem.W.fnOf "both_gate" "both_gate" (defArgs s_both_gate) (defBody s_both_gate) (defScope s_both_gate) .none kV0 dc0 pm0 an0 cd0 ct0
  have D_both_gate : Def K mg "both_gate" ["x", "y"] s_both_gate f0 fd_both_gate := ⟨fun_mk (st := s_both_gate) l0 c0 k0, PySem.W.mg_of X G a0, (fun_mk (st := s_both_gate) l0 c0 k0).binds (ps := ["x", "y"]) fun _ _ _ _ _ _ us hl => match us, hl with | [_, _], _ => rfl⟩
  let fd_gate_value : FuncData := PySem.W.fnOf "gate_value" "gate_value" (defArgs s_gate_value) (defBody s_gate_value) (defScope s_gate_value) .none kV1 dc1 pm1 an1 cd1 ct1
  have D_gate_value : Def K mg "gate_value" ["gate", "found", "bits"] s_gate_value f1 fd_gate_value := ⟨fun_mk (st := s_gate_value) l1 c1 k1, PySem.W.mg_of X G a1, (fun_mk (st := s_gate_value) l1 c1 k1).binds (ps := ["gate", "found", "bits"]) fun _ _ _ _ _ _ us hl => match us, hl with | [_, _, _], _ => rfl⟩
  let fd_constant : FuncData := PySem.W.fnOf "constant" "constant" (defArgs s_constant) (defBody s_constant) (defScope s_constant) .none kV2 dc2 pm2 an2 cd2 ct2
  have D_constant : Def K mg "constant" ["pool", "n", "w"] s_constant f2 fd_constant := ⟨fun_mk (st := s_constant) l2 c2 k2, PySem.W.mg_of X G a2, (fun_mk (st := s_constant) l2 c2 k2).binds (ps := ["pool", "n", "w"]) fun _ _ _ _ _ _ us hl => match us, hl with | [_, _, _], _ => rfl⟩
  let fd_added : FuncData := PySem.W.fnOf "added" "added" (defArgs s_added) (defBody s_added) (defScope s_added) .none kV3 dc3 pm3 an3 cd3 ct3
  have D_added : Def K mg "added" ["pool", "x", "y", "carry"] s_added f3 fd_added := ⟨fun_mk (st := s_added) l3 c3 k3, PySem.W.mg_of X G a3, (fun_mk (st := s_added) l3 c3 k3).binds (ps := ["pool", "x", "y", "carry"]) fun _ _ _ _ _ _ us hl => match us, hl with | [_, _, _, _], _ => rfl⟩
  let fd_computed : FuncData := PySem.W.fnOf "computed" "computed" (defArgs s_computed) (defBody s_computed) (defScope s_computed) .none kV4 dc4 pm4 an4 cd4 ct4
  have D_computed : Def K mg "computed" ["pool", "op", "x", "y"] s_computed f4 fd_computed := ⟨fun_mk (st := s_computed) l4 c4 k4, PySem.W.mg_of X G a4, (fun_mk (st := s_computed) l4 c4 k4).binds (ps := ["pool", "op", "x", "y"]) fun _ _ _ _ _ _ us hl => match us, hl with | [_, _, _, _], _ => rfl⟩
  let fd_single : FuncData := PySem.W.fnOf "single" "single" (defArgs s_single) (defBody s_single) (defScope s_single) .none kV5 dc5 pm5 an5 cd5 ct5
  have D_single : Def K mg "single" ["pool", "op", "x"] s_single f5 fd_single := ⟨fun_mk (st := s_single) l5 c5 k5, PySem.W.mg_of X G a5, (fun_mk (st := s_single) l5 c5 k5).binds (ps := ["pool", "op", "x"]) fun _ _ _ _ _ _ us hl => match us, hl with | [_, _, _], _ => rfl⟩
  let fd_turned : FuncData := PySem.W.fnOf "turned" "turned" (defArgs s_turned) (defBody s_turned) (defScope s_turned) .none kV6 dc6 pm6 an6 cd6 ct6
  have D_turned : Def K mg "turned" ["x"] s_turned f6 fd_turned := ⟨fun_mk (st := s_turned) l6 c6 k6, PySem.W.mg_of X G a6, (fun_mk (st := s_turned) l6 c6 k6).binds (ps := ["x"]) fun _ _ _ _ _ _ us hl => match us, hl with | [_], _ => rfl⟩
  let fd_multiplied : FuncData := PySem.W.fnOf "multiplied" "multiplied" (defArgs s_multiplied) (defBody s_multiplied) (defScope s_multiplied) .none kV7 dc7 pm7 an7 cd7 ct7
  have D_multiplied : Def K mg "multiplied" ["pool", "x", "y"] s_multiplied f7 fd_multiplied := ⟨fun_mk (st := s_multiplied) l7 c7 k7, PySem.W.mg_of X G a7, (fun_mk (st := s_multiplied) l7 c7 k7).binds (ps := ["pool", "x", "y"]) fun _ _ _ _ _ _ us hl => match us, hl with | [_, _, _], _ => rfl⟩
  let fd_shifted_left : FuncData := PySem.W.fnOf "shifted_left" "shifted_left" (defArgs s_shifted_left) (defBody s_shifted_left) (defScope s_shifted_left) .none kV8 dc8 pm8 an8 cd8 ct8
  have D_shifted_left : Def K mg "shifted_left" ["pool", "x", "y"] s_shifted_left f8 fd_shifted_left := ⟨fun_mk (st := s_shifted_left) l8 c8 k8, PySem.W.mg_of X G a8, (fun_mk (st := s_shifted_left) l8 c8 k8).binds (ps := ["pool", "x", "y"]) fun _ _ _ _ _ _ us hl => match us, hl with | [_, _, _], _ => rfl⟩
  let fd_less_word : FuncData := PySem.W.fnOf "less_word" "less_word" (defArgs s_less_word) (defBody s_less_word) (defScope s_less_word) .none kV9 dc9 pm9 an9 cd9 ct9
  have D_less_word : Def K mg "less_word" ["pool", "x", "y"] s_less_word f9 fd_less_word := ⟨fun_mk (st := s_less_word) l9 c9 k9, PySem.W.mg_of X G a9, (fun_mk (st := s_less_word) l9 c9 k9).binds (ps := ["pool", "x", "y"]) fun _ _ _ _ _ _ us hl => match us, hl with | [_, _, _], _ => rfl⟩
  let fd_equal_word : FuncData := PySem.W.fnOf "equal_word" "equal_word" (defArgs s_equal_word) (defBody s_equal_word) (defScope s_equal_word) .none kV10 dc10 pm10 an10 cd10 ct10
  have D_equal_word : Def K mg "equal_word" ["pool", "x", "y"] s_equal_word f10 fd_equal_word := ⟨fun_mk (st := s_equal_word) l10 c10 k10, PySem.W.mg_of X G a10, (fun_mk (st := s_equal_word) l10 c10 k10).binds (ps := ["pool", "x", "y"]) fun _ _ _ _ _ _ us hl => match us, hl with | [_, _, _], _ => rfl⟩
  let fd_chosen_word : FuncData := PySem.W.fnOf "chosen_word" "chosen_word" (defArgs s_chosen_word) (defBody s_chosen_word) (defScope s_chosen_word) .none kV11 dc11 pm11 an11 cd11 ct11
  have D_chosen_word : Def K mg "chosen_word" ["pool", "c", "x", "y"] s_chosen_word f11 fd_chosen_word := ⟨fun_mk (st := s_chosen_word) l11 c11 k11, PySem.W.mg_of X G a11, (fun_mk (st := s_chosen_word) l11 c11 k11).binds (ps := ["pool", "c", "x", "y"]) fun _ _ _ _ _ _ us hl => match us, hl with | [_, _, _, _], _ => rfl⟩
  let fd_word_value : FuncData := PySem.W.fnOf "word_value" "word_value" (defArgs s_word_value) (defBody s_word_value) (defScope s_word_value) .none kV12 dc12 pm12 an12 cd12 ct12
  have D_word_value : Def K mg "word_value" ["pool", "x", "bits"] s_word_value f12 fd_word_value := ⟨fun_mk (st := s_word_value) l12 c12 k12, PySem.W.mg_of X G a12, (fun_mk (st := s_word_value) l12 c12 k12).binds (ps := ["pool", "x", "bits"]) fun _ _ _ _ _ _ us hl => match us, hl with | [_, _, _], _ => rfl⟩
  let fd__law_draw : FuncData := PySem.W.fnOf "_law_draw" "_law_draw" (defArgs s__law_draw) (defBody s__law_draw) (defScope s__law_draw) .none kV13 dc13 pm13 an13 cd13 ct13
  have D__law_draw : Def K mg "_law_draw" ["script"] s__law_draw f13 fd__law_draw := ⟨fun_mk (st := s__law_draw) l13 c13 k13, PySem.W.mg_of X G a13, (fun_mk (st := s__law_draw) l13 c13 k13).binds (ps := ["script"]) fun _ _ _ _ _ _ us hl => match us, hl with | [_], _ => rfl⟩
  let fd__law_take : FuncData := PySem.W.fnOf "_law_take" "_law_take" (defArgs s__law_take) (defBody s__law_take) (defScope s__law_take) .none kV14 dc14 pm14 an14 cd14 ct14
  have D__law_take : Def K mg "_law_take" ["draw", "many"] s__law_take f14 fd__law_take := ⟨fun_mk (st := s__law_take) l14 c14 k14, PySem.W.mg_of X G a14, (fun_mk (st := s__law_take) l14 c14 k14).binds (ps := ["draw", "many"]) fun _ _ _ _ _ _ us hl => match us, hl with | [_, _], _ => rfl⟩
  let fd__law_top : FuncData := PySem.W.fnOf "_law_top" "_law_top" (defArgs s__law_top) (defBody s__law_top) (defScope s__law_top) .none kV15 dc15 pm15 an15 cd15 ct15
  have D__law_top : Def K mg "_law_top" ["w"] s__law_top f15 fd__law_top := ⟨fun_mk (st := s__law_top) l15 c15 k15, PySem.W.mg_of X G a15, (fun_mk (st := s__law_top) l15 c15 k15).binds (ps := ["w"]) fun _ _ _ _ _ _ us hl => match us, hl with | [_], _ => rfl⟩
  let fd__law_compute : FuncData := PySem.W.fnOf "_law_compute" "_law_compute" (defArgs s__law_compute) (defBody s__law_compute) (defScope s__law_compute) .none kV16 dc16 pm16 an16 cd16 ct16
  have D__law_compute : Def K mg "_law_compute" ["op", "w", "x", "y"] s__law_compute f16 fd__law_compute := ⟨fun_mk (st := s__law_compute) l16 c16 k16, PySem.W.mg_of X G a16, (fun_mk (st := s__law_compute) l16 c16 k16).binds (ps := ["op", "w", "x", "y"]) fun _ _ _ _ _ _ us hl => match us, hl with | [_, _, _, _], _ => rfl⟩
  let fd__law_word : FuncData := PySem.W.fnOf "_law_word" "_law_word" (defArgs s__law_word) (defBody s__law_word) (defScope s__law_word) .none kV17 dc17 pm17 an17 cd17 ct17
  have D__law_word : Def K mg "_law_word" ["draw", "pool", "w", "rows"] s__law_word f17 fd__law_word := ⟨fun_mk (st := s__law_word) l17 c17 k17, PySem.W.mg_of X G a17, (fun_mk (st := s__law_word) l17 c17 k17).binds (ps := ["draw", "pool", "w", "rows"]) fun _ _ _ _ _ _ us hl => match us, hl with | [_, _, _, _], _ => rfl⟩
  let fd__law_number : FuncData := PySem.W.fnOf "_law_number" "_law_number" (defArgs s__law_number) (defBody s__law_number) (defScope s__law_number) .none kV18 dc18 pm18 an18 cd18 ct18
  have D__law_number : Def K mg "_law_number" ["made", "words", "values"] s__law_number f18 fd__law_number := ⟨fun_mk (st := s__law_number) l18 c18 k18, PySem.W.mg_of X G a18, (fun_mk (st := s__law_number) l18 c18 k18).binds (ps := ["made", "words", "values"]) fun _ _ _ _ _ _ us hl => match us, hl with | [_, _, _], _ => rfl⟩
  let fd__law_words : FuncData := PySem.W.fnOf "_law_words" "_law_words" (defArgs s__law_words) (defBody s__law_words) (defScope s__law_words) .none kV19 dc19 pm19 an19 cd19 ct19
  have D__law_words : Def K mg "_law_words" ["draw", "w"] s__law_words f19 fd__law_words := ⟨fun_mk (st := s__law_words) l19 c19 k19, PySem.W.mg_of X G a19, (fun_mk (st := s__law_words) l19 c19 k19).binds (ps := ["draw", "w"]) fun _ _ _ _ _ _ us hl => match us, hl with | [_, _], _ => rfl⟩
  let fd__law_bits : FuncData := PySem.W.fnOf "_law_bits" "_law_bits" (defArgs s__law_bits) (defBody s__law_bits) (defScope s__law_bits) .none kV20 dc20 pm20 an20 cd20 ct20
  have D__law_bits : Def K mg "_law_bits" ["words", "w"] s__law_bits f20 fd__law_bits := ⟨fun_mk (st := s__law_bits) l20 c20 k20, PySem.W.mg_of X G a20, (fun_mk (st := s__law_bits) l20 c20 k20).binds (ps := ["words", "w"]) fun _ _ _ _ _ _ us hl => match us, hl with | [_, _], _ => rfl⟩
  let fd_law : FuncData := PySem.W.fnOf "law" "law" (defArgs s_law) (defBody s_law) (defScope s_law) .none kV21 dc21 pm21 an21 cd21 ct21
  have D_law : Def K mg "law" ["script"] s_law f21 fd_law := ⟨fun_mk (st := s_law) l21 c21 k21, PySem.W.mg_of X G a21, (fun_mk (st := s_law) l21 c21 k21).binds (ps := ["script"]) fun _ _ _ _ _ _ us hl => match us, hl with | [_], _ => rfl⟩
  let fd_Pool___init__ : FuncData := PySem.W.fnOf "__init__" "Pool.__init__" (defArgs s_Pool___init__) (defBody s_Pool___init__) (defScope s_Pool___init__) .none mkV0 mdc0 mpm0 man0 mcd0 mct0
  have D_Pool___init__ : DefM0 K "__init__" "Pool.__init__" ["self"] s_Pool___init__ mf0 fd_Pool___init__ := ⟨fun_mk (st := s_Pool___init__) ml0 mc0 mk0, (fun_mk (st := s_Pool___init__) ml0 mc0 mk0).binds (ps := ["self"]) fun _ _ _ _ _ _ us hl => match us, hl with | [_], _ => rfl⟩
  have MC : Mk K C mf0 := ⟨mk, ma0, mi0, kc⟩
  let fd_Pool_bit : FuncData := PySem.W.fnOf "bit" "Pool.bit" (defArgs s_Pool_bit) (defBody s_Pool_bit) (defScope s_Pool_bit) .none mkV1 mdc1 mpm1 man1 mcd1 mct1
  have D_Pool_bit : DefM K C "bit" "Pool.bit" ["self", "name"] s_Pool_bit mf1 fd_Pool_bit := ⟨fun_mk (st := s_Pool_bit) ml1 mc1 mk1, (fun_mk (st := s_Pool_bit) ml1 mc1 mk1).binds (ps := ["self", "name"]) fun _ _ _ _ _ _ us hl => match us, hl with | [_, _], _ => rfl, ⟨ma1, mi1, mk1⟩⟩
  let fd_Pool_both : FuncData := PySem.W.fnOf "both" "Pool.both" (defArgs s_Pool_both) (defBody s_Pool_both) (defScope s_Pool_both) .none mkV2 mdc2 mpm2 man2 mcd2 mct2
  have D_Pool_both : DefM K C "both" "Pool.both" ["self", "x", "y"] s_Pool_both mf2 fd_Pool_both := ⟨fun_mk (st := s_Pool_both) ml2 mc2 mk2, (fun_mk (st := s_Pool_both) ml2 mc2 mk2).binds (ps := ["self", "x", "y"]) fun _ _ _ _ _ _ us hl => match us, hl with | [_, _, _], _ => rfl, ⟨ma2, mi2, mk2⟩⟩
  let fd_Pool_either : FuncData := PySem.W.fnOf "either" "Pool.either" (defArgs s_Pool_either) (defBody s_Pool_either) (defScope s_Pool_either) .none mkV3 mdc3 mpm3 man3 mcd3 mct3
  have D_Pool_either : DefM K C "either" "Pool.either" ["self", "x", "y"] s_Pool_either mf3 fd_Pool_either := ⟨fun_mk (st := s_Pool_either) ml3 mc3 mk3, (fun_mk (st := s_Pool_either) ml3 mc3 mk3).binds (ps := ["self", "x", "y"]) fun _ _ _ _ _ _ us hl => match us, hl with | [_, _, _], _ => rfl, ⟨ma3, mi3, mk3⟩⟩
  let fd_Pool_unlike : FuncData := PySem.W.fnOf "unlike" "Pool.unlike" (defArgs s_Pool_unlike) (defBody s_Pool_unlike) (defScope s_Pool_unlike) .none mkV4 mdc4 mpm4 man4 mcd4 mct4
  have D_Pool_unlike : DefM K C "unlike" "Pool.unlike" ["self", "x", "y"] s_Pool_unlike mf4 fd_Pool_unlike := ⟨fun_mk (st := s_Pool_unlike) ml4 mc4 mk4, (fun_mk (st := s_Pool_unlike) ml4 mc4 mk4).binds (ps := ["self", "x", "y"]) fun _ _ _ _ _ _ us hl => match us, hl with | [_, _, _], _ => rfl, ⟨ma4, mi4, mk4⟩⟩
  let fd_Pool_chosen : FuncData := PySem.W.fnOf "chosen" "Pool.chosen" (defArgs s_Pool_chosen) (defBody s_Pool_chosen) (defScope s_Pool_chosen) .none mkV5 mdc5 mpm5 man5 mcd5 mct5
  have D_Pool_chosen : DefM K C "chosen" "Pool.chosen" ["self", "c", "x", "y"] s_Pool_chosen mf5 fd_Pool_chosen := ⟨fun_mk (st := s_Pool_chosen) ml5 mc5 mk5, (fun_mk (st := s_Pool_chosen) ml5 mc5 mk5).binds (ps := ["self", "c", "x", "y"]) fun _ _ _ _ _ _ us hl => match us, hl with | [_, _, _, _], _ => rfl, ⟨ma5, mi5, mk5⟩⟩
  let fd_Pool_most : FuncData := PySem.W.fnOf "most" "Pool.most" (defArgs s_Pool_most) (defBody s_Pool_most) (defScope s_Pool_most) .none mkV6 mdc6 mpm6 man6 mcd6 mct6
  have D_Pool_most : DefM K C "most" "Pool.most" ["self", "x", "y", "z"] s_Pool_most mf6 fd_Pool_most := ⟨fun_mk (st := s_Pool_most) ml6 mc6 mk6, (fun_mk (st := s_Pool_most) ml6 mc6 mk6).binds (ps := ["self", "x", "y", "z"]) fun _ _ _ _ _ _ us hl => match us, hl with | [_, _, _, _], _ => rfl, ⟨ma6, mi6, mk6⟩⟩
  let fd_Pool_literal_of : FuncData := PySem.W.fnOf "literal_of" "Pool.literal_of" (defArgs s_Pool_literal_of) (defBody s_Pool_literal_of) (defScope s_Pool_literal_of) .none mkV7 mdc7 mpm7 man7 mcd7 mct7
  have D_Pool_literal_of : DefM K C "literal_of" "Pool.literal_of" ["self", "gate"] s_Pool_literal_of mf7 fd_Pool_literal_of := ⟨fun_mk (st := s_Pool_literal_of) ml7 mc7 mk7, (fun_mk (st := s_Pool_literal_of) ml7 mc7 mk7).binds (ps := ["self", "gate"]) fun _ _ _ _ _ _ us hl => match us, hl with | [_, _], _ => rfl, ⟨ma7, mi7, mk7⟩⟩
  let fd_Pool_computed : FuncData := PySem.W.fnOf "computed" "Pool.computed" (defArgs s_Pool_computed) (defBody s_Pool_computed) (defScope s_Pool_computed) .none mkV8 mdc8 mpm8 man8 mcd8 mct8
  have D_Pool_computed : DefM K C "computed" "Pool.computed" ["self", "literals", "bits"] s_Pool_computed mf8 fd_Pool_computed := ⟨fun_mk (st := s_Pool_computed) ml8 mc8 mk8, (fun_mk (st := s_Pool_computed) ml8 mc8 mk8).binds (ps := ["self", "literals", "bits"]) fun _ _ _ _ _ _ us hl => match us, hl with | [_, _, _], _ => rfl, ⟨ma8, mi8, mk8⟩⟩
  let fd_Pool_cone : FuncData := PySem.W.fnOf "cone" "Pool.cone" (defArgs s_Pool_cone) (defBody s_Pool_cone) (defScope s_Pool_cone) .none mkV9 mdc9 mpm9 man9 mcd9 mct9
  have D_Pool_cone : DefM K C "cone" "Pool.cone" ["self", "literals", "seen"] s_Pool_cone mf9 fd_Pool_cone := ⟨fun_mk (st := s_Pool_cone) ml9 mc9 mk9, (fun_mk (st := s_Pool_cone) ml9 mc9 mk9).binds (ps := ["self", "literals", "seen"]) fun _ _ _ _ _ _ us hl => match us, hl with | [_, _, _], _ => rfl, ⟨ma9, mi9, mk9⟩⟩
  have PK : PlK K C := ⟨⟨pg, hd, po, sa⟩, nG, nL⟩
  have mC := PySem.W.mg_of X G aC
  cases e
  exact ⟨fd_law, fun s v => .of_eq rfl, fun base _ _ => by
    have o_lit := ok_literal_of (P := l.prog) (w := w) (base := base) T PK D_Pool_literal_of
    have o_bg := ok_both_gate (P := l.prog) (w := w) (base := base) T D_both_gate
    have o_bit := ok_bit (P := l.prog) (w := w) (base := base) T PK D_Pool_bit o_lit
    have o_both := ok_both (P := l.prog) (w := w) (base := base) T PK C_NO C_YES D_Pool_both o_lit o_bg
    have o_either := ok_either (P := l.prog) (w := w) (base := base) T PK D_Pool_either o_both
    have o_unlike := ok_unlike (P := l.prog) (w := w) (base := base) T PK C_NO D_Pool_unlike o_lit
    have o_chosen := ok_chosen (P := l.prog) (w := w) (base := base) T PK C_NO C_YES D_Pool_chosen o_lit o_both o_either o_unlike
    have o_most := ok_most (P := l.prog) (w := w) (base := base) T PK C_NO C_YES D_Pool_most o_lit o_both o_either
    have o_gv := ok_gate_value (P := l.prog) (w := w) (base := base) T D_gate_value
    have o_cone := ok_cone (P := l.prog) (w := w) (base := base) T PK D_Pool_cone
    have o_comp := ok_computed (P := l.prog) (w := w) (base := base) T PK D_Pool_computed o_cone o_gv
    have o_pool := ok_Pool (P := l.prog) (w := w) (base := base) PK D_Pool___init__ MC mC
    have w_const := ok_constant (P := l.prog) (w := w) (base := base) T C_NO C_YES D_constant
    have w_added := ok_added (P := l.prog) (w := w) (base := base) T PK D_added o_most o_unlike
    have w_turned := ok_turned (P := l.prog) (w := w) (base := base) T D_turned
    have w_mul := ok_multiplied (P := l.prog) (w := w) (base := base) T PK C_NO D_multiplied o_both w_added
    have w_chosen := ok_chosen_word (P := l.prog) (w := w) (base := base) T PK D_chosen_word o_chosen
    have w_shl := ok_shifted_left (P := l.prog) (w := w) (base := base) T PK C_NO D_shifted_left w_chosen
    have w_less := ok_less_word (P := l.prog) (w := w) (base := base) T PK C_NO D_less_word o_most
    have w_equal := ok_equal_word (P := l.prog) (w := w) (base := base) T PK C_YES D_equal_word o_both o_unlike
    have w_single := ok_single (P := l.prog) (w := w) (base := base) T PK C_NO C_YES D_single w_added w_turned
    have w_comp := ok_computedW (P := l.prog) (w := w) (base := base) T PK C_NO C_YES D_computed o_both o_either o_unlike w_added w_turned w_mul w_shl w_less w_equal
    have w_val := ok_word_value (P := l.prog) (w := w) (base := base) T PK D_word_value o_comp
    have l_draw := ok__law_draw (P := l.prog) (w := w) (base := base) T D__law_draw
    have l_take := ok__law_take (P := l.prog) (w := w) (base := base) T D__law_take
    have l_top := ok__law_top (P := l.prog) (w := w) (base := base) D__law_top
    have l_comp := ok__law_compute (P := l.prog) (w := w) (base := base) T D__law_compute
    have l_num := ok__law_number (P := l.prog) (w := w) (base := base) D__law_number
    have l_words := ok__law_words (P := l.prog) (w := w) (base := base) T D__law_words l_take l_top
    have l_bits := ok__law_bits (P := l.prog) (w := w) (base := base) T D__law_bits
    have l_word := ok__law_word (P := l.prog) (w := w) (base := base) T PK D__law_word l_take l_top w_const o_bit
    exact ok_law T PK D_law l_draw l_take o_pool l_word w_comp w_single l_words l_comp l_num l_bits w_val⟩
theorem walk {l : PySem.W.OpenLaw} {q : Program} {loose : List Str} {XP : (Str → Option Value) → Heap → Prop} {YP : World → Heap → Prop} {d : DefRec} {K : Params → PySem.W.Frag} (hn : l.most = some 63) (hdf : d.params.defaults = [])
    (hY : ∀ (w : World) (h : Heap), YP w h → (K w.params).In h)
    (F : ∀ (w : World) (mg : Str → Option Value) (fa : Addr) (h : Heap), (K w.params).In h → h.Ns mainGlobals mg → mg d.name = some (.ref fa) →
      ∃ fd : FuncData, (∀ (s : Shared) (u : Value), BindsTo s fd ⟨[u], []⟩ [("script", u)]) ∧ ∀ base : Heap, (K w.params).In base → base.Ns mainGlobals mg → FnOk l.prog w (K w.params) mg base CX0 8 fa fd ["script"] (spLaw (K w.params))) :
    PySem.W.WalkO q loose XP YP l.row.toRowW d [] (fun f vs => PySem.call f vs) :=
  L2.walk_of (n := 63) (k := 8) (x := "script") (CX := fun _ => CX0) (sp := fun w => spLaw (K w.params)) hn (by decide) hdf ⟨rfl, by decide, by decide⟩ hY F (fun _ _ a ns hl _ hS => ⟨a, ns, rfl, hS, hl, fun _ => rfl⟩) fun _ _ _ _ _ z => z
end My

open PySem PySem.W PyProof.Rows in
set_option maxRecDepth 100000 in
set_option maxHeartbeats 0 in
theorem PySem.Challenge.cw_inputways_k31_ops_as_circuits_holds : PySem.Challenge.rw_inputways_k31_ops_as_circuits.Holds := by
  w_on; o_law; k_head; (case hw => w_witness2)
  k_fill
  refine My.walk (l := PySem.Challenge.rw_inputways_k31_ops_as_circuits) rfl rfl (fun w h Y => PySem.W.kIn_of Y) ?F
  case F =>
    intro w mg fa h KX G hmg
    refine' My.all_mk KX G hmg ?a0 ?l0 ?c0 ?k0 ?a1 ?l1 ?c1 ?k1 ?a2 ?l2 ?c2 ?k2 ?a3 ?l3 ?c3 ?k3 ?a4 ?l4 ?c4 ?k4 ?a5 ?l5 ?c5 ?k5 ?a6 ?l6 ?c6 ?k6 ?a7 ?l7 ?c7 ?k7 ?a8 ?l8 ?c8 ?k8 ?a9 ?l9 ?c9 ?k9 ?a10 ?l10 ?c10 ?k10 ?a11 ?l11 ?c11 ?k11 ?a12 ?l12 ?c12 ?k12 ?a13 ?l13 ?c13 ?k13 ?a14 ?l14 ?c14 ?k14 ?a15 ?l15 ?c15 ?k15 ?a16 ?l16 ?c16 ?k16 ?a17 ?l17 ?c17 ?k17 ?a18 ?l18 ?c18 ?k18 ?a19 ?l19 ?c19 ?k19 ?a20 ?l20 ?c20 ?k20 ?a21 ?l21 ?c21 ?k21 ?i_NO ?i_YES ?aC ?ma0 ?mi0 ?ml0 ?mc0 ?mk0 ?ma1 ?mi1 ?ml1 ?mc1 ?mk1 ?ma2 ?mi2 ?ml2 ?mc2 ?mk2 ?ma3 ?mi3 ?ml3 ?mc3 ?mk3 ?ma4 ?mi4 ?ml4 ?mc4 ?mk4 ?ma5 ?mi5 ?ml5 ?mc5 ?mk5 ?ma6 ?mi6 ?ml6 ?mc6 ?mk6 ?ma7 ?mi7 ?ml7 ?mc7 ?mk7 ?ma8 ?mi8 ?ml8 ?mc8 ?mk8 ?ma9 ?mi9 ?ml9 ?mc9 ?mk9 ?pg ?hd ?po ?sa ?mk ?kc ?nG ?nL ?z_abs ?z_enumerate ?z_int ?z_len ?z_list ?z_max ?z_min ?z_range ?z_sorted ?z_sum ?z_zip
    (case a0 => k_is)
    (case l0 => k_is)
    (case c0 => k_is)
    (case k0 => k_is)
    (case a1 => k_is)
    (case l1 => k_is)
    (case c1 => k_is)
    (case k1 => k_is)
    (case a2 => k_is)
    (case l2 => k_is)
    (case c2 => k_is)
    (case k2 => k_is)
    (case a3 => k_is)
    (case l3 => k_is)
    (case c3 => k_is)
    (case k3 => k_is)
    (case a4 => k_is)
    (case l4 => k_is)
    (case c4 => k_is)
    (case k4 => k_is)
    (case a5 => k_is)
    (case l5 => k_is)
    (case c5 => k_is)
    (case k5 => k_is)
    (case a6 => k_is)
    (case l6 => k_is)
    (case c6 => k_is)
    (case k6 => k_is)
    (case a7 => k_is)
    (case l7 => k_is)
    (case c7 => k_is)
    (case k7 => k_is)
    (case a8 => k_is)
    (case l8 => k_is)
    (case c8 => k_is)
    (case k8 => k_is)
    (case a9 => k_is)
    (case l9 => k_is)
    (case c9 => k_is)
    (case k9 => k_is)
    (case a10 => k_is)
    (case l10 => k_is)
    (case c10 => k_is)
    (case k10 => k_is)
    (case a11 => k_is)
    (case l11 => k_is)
    (case c11 => k_is)
    (case k11 => k_is)
    (case a12 => k_is)
    (case l12 => k_is)
    (case c12 => k_is)
    (case k12 => k_is)
    (case a13 => k_is)
    (case l13 => k_is)
    (case c13 => k_is)
    (case k13 => k_is)
    (case a14 => k_is)
    (case l14 => k_is)
    (case c14 => k_is)
    (case k14 => k_is)
    (case a15 => k_is)
    (case l15 => k_is)
    (case c15 => k_is)
    (case k15 => k_is)
    (case a16 => k_is)
    (case l16 => k_is)
    (case c16 => k_is)
    (case k16 => k_is)
    (case a17 => k_is)
    (case l17 => k_is)
    (case c17 => k_is)
    (case k17 => k_is)
    (case a18 => k_is)
    (case l18 => k_is)
    (case c18 => k_is)
    (case k18 => k_is)
    (case a19 => k_is)
    (case l19 => k_is)
    (case c19 => k_is)
    (case k19 => k_is)
    (case a20 => k_is)
    (case l20 => k_is)
    (case c20 => k_is)
    (case k20 => k_is)
    (case a21 => k_is)
    (case l21 => k_is)
    (case c21 => k_is)
    (case k21 => k_is)
    (case i_NO => k_is)
    (case i_YES => k_is)
    (case aC => k_is)
    (case ma0 => k_is)
    (case mi0 => k_is)
    (case ml0 => k_is)
    (case mc0 => k_is)
    (case mk0 => k_is)
    (case ma1 => k_is)
    (case mi1 => k_is)
    (case ml1 => k_is)
    (case mc1 => k_is)
    (case mk1 => k_is)
    (case ma2 => k_is)
    (case mi2 => k_is)
    (case ml2 => k_is)
    (case mc2 => k_is)
    (case mk2 => k_is)
    (case ma3 => k_is)
    (case mi3 => k_is)
    (case ml3 => k_is)
    (case mc3 => k_is)
    (case mk3 => k_is)
    (case ma4 => k_is)
    (case mi4 => k_is)
    (case ml4 => k_is)
    (case mc4 => k_is)
    (case mk4 => k_is)
    (case ma5 => k_is)
    (case mi5 => k_is)
    (case ml5 => k_is)
    (case mc5 => k_is)
    (case mk5 => k_is)
    (case ma6 => k_is)
    (case mi6 => k_is)
    (case ml6 => k_is)
    (case mc6 => k_is)
    (case mk6 => k_is)
    (case ma7 => k_is)
    (case mi7 => k_is)
    (case ml7 => k_is)
    (case mc7 => k_is)
    (case mk7 => k_is)
    (case ma8 => k_is)
    (case mi8 => k_is)
    (case ml8 => k_is)
    (case mc8 => k_is)
    (case mk8 => k_is)
    (case ma9 => k_is)
    (case mi9 => k_is)
    (case ml9 => k_is)
    (case mc9 => k_is)
    (case mk9 => k_is)
    (case pg => k_is)
    (case hd => k_is)
    (case po => k_is)
    (case sa => k_is)
    (case mk => k_is)
    (case kc => k_is)
    (case nG => k_is)
    (case nL => k_is)
    (case z_abs => k_is)
    (case z_enumerate => k_is)
    (case z_int => k_is)
    (case z_len => k_is)
    (case z_list => k_is)
    (case z_max => k_is)
    (case z_min => k_is)
    (case z_range => k_is)
    (case z_sorted => k_is)
    (case z_sum => k_is)
    (case z_zip => k_is)
