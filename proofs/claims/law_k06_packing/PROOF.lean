import PyProof.Rows.All
import Wide.All
import OpenK.AllK
import Wide.FinOn
import HandS.Base
import HandS.Call
import HandS.List
import HandS.Comp
import HandS.Ends
import HandS.Dict
import HandS.Iter
import HandS.Words
import HandS.IsInst
import HandS.Codes
import HandS.Text
import PyProof.EqLayable
import PyProof.Rows.BitMore
import HandS.SortOrd
import HandS.SortRule
import KE.SortCalls
import HandS.Exc
import PyProof.LongRange
import HandS.ExcInit
import KE.KSuper
import KE.KExcSuper
import PyProof.ReprRoads
import HandS.TupSets
import HandS.Deep
import HandS.TupLe
import HandS.WordsExc
import HandS.FStr
import PyProof.StrBlock2
import PyProof.Rows.StrJoinRep
import HandS.Replace
import HandS.ExcField
import PyProof.StrLawsRepr
import PyProof.FitsInt
import PyProof.P3Eq
import HandS.ExcIs
import PySem.Challenge.RW_inputways_k06_packing
set_option Elab.async false
set_option maxRecDepth 100000
set_option maxHeartbeats 4000000
set_option linter.all false
namespace My
open PySem L2
open C8 (pss_cut)
/-! ### a def of the text, as the top has written it; a def that keeps a promise -/
structure Def (K : PySem.W.Frag) (mg : Str → Option Value) (x : Str) (ps : List Str) (st : Stmt) (f : Addr) (fd : FuncData) : Prop where
  fn : Fun K x x st f fd
  mg : mg x = some (.ref f)
  bd : Binds K fd ps []
def Own (P : Program) (w : World) (K : PySem.W.Frag) (mg : Str → Option Value) (base : Heap) (x : Str) (ps : List Str) (k : Nat) (sp : Sp) : Prop :=
  ∃ (f : Addr) (fd : FuncData), mg x = some (.ref f) ∧ PySem.W.keepIn K (.ref f) = true ∧ Binds K fd ps [] ∧ FnOk P w K mg base CX0 k f fd ps sp
/-- a def whose promise nobody can ask for -/
theorem fn_never {P : Program} {w : World} {K : PySem.W.Frag} {mg : Str → Option Value} {base : Heap} {k : Nat} {f : Addr} {fd : FuncData} {ps : List Str} {sp : Sp} (no : ∀ vs H Q E, ¬ sp vs H Q E) : FnOk P w K mg base CX0 k f fd ps sp :=
  ⟨fun vs H Q E h => absurd h (no vs H Q E), fun A outer s H args us vs Q E _ _ _ _ h => absurd h (no vs H Q E)⟩
/-- a constant of the top: a tuple of these -/
def Con (K : PySem.W.Frag) (mg : Str → Option Value) (x : Str) (xs : List V) : Prop :=
  ∃ (a : Addr) (od : Option Addr) (its : Array Value) (n : Nat) (sl : Array (Option Value)), mg x = some (.ref a) ∧ K.lookup a = some ⟨.type "tuple", od, .seq its n, sl⟩ ∧ its.size ≤ sizeLine ∧ Vals xs its.toList
theorem con_seq {K : PySem.W.Frag} {H : Hp} {a : Addr} {od : Option Addr} {its : Array Value} {n : Nat} {sl : Array (Option Value)} {xs : List V} (l : K.lookup a = some ⟨.type "tuple", od, .seq its n, sl⟩) (s : its.size ≤ sizeLine) (v : Vals xs its.toList) : SqT K H a xs :=
  .inr ⟨_, its, n, l, rfl, rfl, s, v⟩

/-! ### small words -/
theorem same_new {H : Hp} {p : Addr} (h : H p = none) (o : HO) : Same H (upd H p o) := fun b u q => by rw [upd_ne (ne_of_none q h)]; exact q
theorem streq {a b : Str} (c : decide (V.str a = V.str b) = true) : a = b := V.str.inj (of_decide_eq_true c)
theorem strne {a b : Str} (c : ¬ decide (V.str a = V.str b) = true) : a ≠ b := fun e => c (by rw [e]; exact decide_eq_true rfl)
theorem inteq {a b : Int} (c : decide (V.int a = V.int b) = true) : a = b := V.int.inj (of_decide_eq_true c)
theorem intne {a b : Int} (c : ¬ decide (V.int a = V.int b) = true) : a ≠ b := fun e => c (by rw [e]; exact decide_eq_true rfl)
theorem toI {Q : V → Hp → Prop} {H : Hp} {a b : Int} (e : a = b) (q : Q (.int b) H) : Q (.int a) H := by rw [e]; exact q
theorem toB {Q : V → Hp → Prop} {H : Hp} {a b : Bool} (e : a = b) (q : Q (.bl b) H) : Q (.bl a) H := by rw [e]; exact q
theorem inS {x : Str} : ∀ {xs : List Str}, inV (.str x) (xs.map V.str) = decide (x ∈ xs)
  | [] => by simp [inV]
  | y :: ys => by
    have ih := inS (x := x) (xs := ys)
    unfold inV at ih ⊢
    rw [List.map_cons, List.any_cons, ih]
    show (y == x || decide (x ∈ ys)) = decide (x ∈ y :: ys)
    by_cases h : y = x
    · subst h
      simp
    · have h' : ¬ x = y := fun e => h e.symm
      simp [h, h']
theorem atI_get {ns : List Int} {k : Int} (h0 : 0 ≤ k) (h : k < (ns.length : Int)) : ∃ z : Int, z ∈ ns ∧ atI (ns.map V.int) k = some (.int z) := by
  have hk : k.toNat < ns.length := by omega
  have ek : k = ((k.toNat : Nat) : Int) := by omega
  have q : atI (ns.map V.int) ((k.toNat : Nat) : Int) = some (.int ns[k.toNat]) := atI_nat (by rw [List.getElem?_map, List.getElem?_eq_getElem hk] <;> rfl)
  rw [← ek] at q
  exact ⟨_, List.getElem_mem hk, q⟩
/-- an item in bounds -/
theorem atI_in {xs : List V} {k : Int} (h0 : 0 ≤ k) (h : k < (xs.length : Int)) : ∃ v : V, atI xs k = some v ∧ xs[k.toNat]? = some v ∧ v ∈ xs := by
  have hk : k.toNat < xs.length := by omega
  have ek : k = ((k.toNat : Nat) : Int) := by omega
  have q : atI xs ((k.toNat : Nat) : Int) = some xs[k.toNat] := atI_nat (List.getElem?_eq_getElem hk)
  rw [← ek] at q
  exact ⟨_, q, List.getElem?_eq_getElem hk, List.getElem_mem hk⟩
theorem map_at {ns : List Int} {i : Nat} {y : V} (hi : (ns.map V.int)[i]? = some y) : ∃ z, y = V.int z ∧ ns[i]? = some z := by
  rw [List.getElem?_map] at hi
  cases e : ns[i]? with
  | none =>
    rw [e] at hi
    cases hi
  | some z =>
    rw [e] at hi
    exact ⟨z, (Option.some.inj hi).symm, rfl⟩
theorem yes2 {σ : L2.St} {H : Hp} {A B : Hp → Prop} (h : A H) : tYes σ H (fun b H3 => if b = true then A H3 else B H3) := iteT (A := A H) (B := B H) h
theorem small {n : Nat} (h : n ≤ 1000) : n ≤ sizeLine := Nat.le_of_lt (small1000 h)

/-! ### a heap without one object -/
def hide (d : Addr) (H : Hp) : Hp := fun b => if b = d then none else H b
theorem hide_at {d : Addr} {H : Hp} : hide d H d = none := if_pos rfl
theorem hide_ne {d b : Addr} {H : Hp} (h : b ≠ d) : hide d H b = H b := if_neg h
theorem hide_some {d b : Addr} {H : Hp} {o : HO} (h : hide d H b = some o) : b ≠ d ∧ H b = some o := by
  unfold hide at h
  by_cases e : b = d
  · rw [if_pos e] at h
    cases h
  · rw [if_neg e] at h
    exact ⟨e, h⟩
theorem hide_le {d : Addr} {H : Hp} : Same (hide d H) H := fun b o h => (hide_some h).2
theorem hide_new {d p : Addr} {H : Hp} (hp : H p = none) (o : HO) : Same (hide d H) (hide d (upd H p o)) := fun b u h => by
  obtain ⟨h1, h2⟩ := hide_some h
  rw [hide_ne h1, upd_ne (ne_of_none h2 hp)]
  exact h2
theorem hide_put {d : Addr} {H : Hp} (o : HO) : Same (hide d H) (hide d (upd H d o)) := fun b u h => by
  obtain ⟨h1, h2⟩ := hide_some h
  rw [hide_ne h1, upd_ne h1]
  exact h2
theorem hide_same {d : Addr} {H H' : Hp} (e : Same H H') : Same (hide d H) (hide d H') := fun b u h => by
  obtain ⟨h1, h2⟩ := hide_some h
  rw [hide_ne h1]
  exact e b u h2
/-- what stands apart from d and is tracked, is tracked without d -/
theorem hide_in {d b : Addr} {H : Hp} {o : HO} (h : H b = some o) (hb : b ≠ d) : hide d H b = some o := by rw [hide_ne hb]; exact h
/-- a new object behind the draw -/
theorem hide_upd {d p : Addr} {H : Hp} {o u : HO} (hd : H d = some u) (hp : H p = none) : hide d (upd H p o) p = some o := by
  rw [hide_ne (fun e => by rw [e, hd] at hp; cases hp), upd_same]

/-! ### sequences and data in a heap that has grown -/
theorem rd_mono {H H' : Hp} {a : Addr} {u : HO} (e : Same H H') (h : Rd H a u) : Rd H' a u := by
  rcases h with h | ⟨o, h⟩
  · exact .inl (e _ _ h)
  · exact .inr ⟨o, e _ _ h⟩
theorem sqt_mono {K : PySem.W.Frag} {H H' : Hp} {a : Addr} {xs : List V} (e : Same H H') (h : SqT K H a xs) : SqT K H' a xs := by
  rcases h with h | h
  · exact .inl (rd_mono e h)
  · exact .inr h
theorem sql_mono {K : PySem.W.Frag} {H H' : Hp} {a : Addr} {xs : List V} (e : Same H H') (h : SqL K H a xs) : SqL K H' a xs := e.seq h
mutual
theorem dp_mono {K : PySem.W.Frag} {H H' : Hp} (e : Same H H') : ∀ (d : PyData) {v : V}, Dp K H v d → Dp K H' v d
  | .none, _, .non => .non
  | .bool _, _, .bl b => .bl b
  | .int _, _, .int i => .int i
  | .str _, _, .str x => .str x
  | .list ds, _, .lst h hs => .lst (sql_mono e h) (dpa_mono e ds hs)
  | .tuple ds, _, .tup h hs => .tup (sqt_mono e h) (dpa_mono e ds hs)
  | .dict _, _, h => by cases h
theorem dpa_mono {K : PySem.W.Frag} {H H' : Hp} (e : Same H H') : ∀ (ds : List PyData) {vs : List V}, DpAll K H vs ds → DpAll K H' vs ds
  | [], _, .nil => .nil
  | d :: ds, _, .cons h hs => .cons (dp_mono e d h) (dpa_mono e ds hs)
end
section
variable {K : PySem.W.Frag} {H : Hp}
theorem dpa_len : ∀ {vs : List V} {ds : List PyData}, DpAll K H vs ds → vs.length = ds.length
  | _, _, .nil => rfl
  | _, _, .cons _ t => by rw [List.length_cons, List.length_cons, dpa_len t]
theorem dpa_get : ∀ {vs : List V} {ds : List PyData} {i : Nat} {v : V}, DpAll K H vs ds → vs[i]? = some v → ∃ d, ds[i]? = some d ∧ Dp K H v d
  | _, _, _, _, .nil, e => by cases e
  | _, _, 0, _, .cons h _, e => by
    cases e
    exact ⟨_, rfl, h⟩
  | _, _, i + 1, _, .cons _ t, e => dpa_get (i := i) t e
theorem dpa_app : ∀ {vs us : List V} {ds es : List PyData}, DpAll K H vs ds → DpAll K H us es → DpAll K H (vs ++ us) (ds ++ es)
  | _, _, _, _, .nil, h => h
  | _, _, _, _, .cons a t, h => .cons a (dpa_app t h)
theorem dpa_one {v : V} {d : PyData} (h : Dp K H v d) : DpAll K H [v] [d] := .cons h .nil
theorem dpa_take : ∀ {vs : List V} {ds : List PyData} (n : Nat), DpAll K H vs ds → DpAll K H (vs.take n) (ds.take n)
  | _, _, 0, _ => .nil
  | _, _, _ + 1, .nil => .nil
  | _, _, n + 1, .cons h t => .cons h (dpa_take n t)
theorem dpa_drop : ∀ {vs : List V} {ds : List PyData} (n : Nat), DpAll K H vs ds → DpAll K H (vs.drop n) (ds.drop n)
  | _, _, 0, h => h
  | _, _, _ + 1, .nil => .nil
  | _, _, n + 1, .cons _ t => dpa_drop n t
theorem dpa_map {α : Type} (f : α → V) (g : α → PyData) (h : ∀ x, Dp K H (f x) (g x)) : ∀ l : List α, DpAll K H (l.map f) (l.map g)
  | [] => .nil
  | x :: xs => .cons (h x) (dpa_map f g h xs)
/-- a tuple that is data: its items -/
theorem dp_tup {v : V} {ds : List PyData} (h : Dp K H v (.tuple ds)) : ∃ a xs, v = .ref a ∧ SqT K H a xs ∧ DpAll K H xs ds := by
  cases h with
  | tup hs ha => exact ⟨_, _, rfl, hs, ha⟩
theorem dp_lst {v : V} {ds : List PyData} (h : Dp K H v (.list ds)) : ∃ a xs, v = .ref a ∧ SqL K H a xs ∧ DpAll K H xs ds := by
  cases h with
  | lst hs ha => exact ⟨_, _, rfl, hs, ha⟩
theorem dp_int {v : V} {i : Int} (h : Dp K H v (.int i)) : v = .int i := by cases h; rfl
theorem dp_str {v : V} {x : Str} (h : Dp K H v (.str x)) : v = .str x := by cases h; rfl
theorem dp_bool {v : V} {b : Bool} (h : Dp K H v (.bool b)) : v = .bl b := by cases h; rfl
theorem dp_none {v : V} (h : Dp K H v .none) : v = .non := by cases h; rfl
end

/-! ### a draw: the cells, the place, what is left of the cell, the seed -/
def DrawAt (H : Hp) (d L : Addr) : Prop := ∃ (ns : List Int) (at_ left seed : Int), H d = some (.lst [.ref L, .int at_, .int left, .int seed]) ∧ H L = some (.lst (ns.map V.int)) ∧ d ≠ L ∧ (∀ z, z ∈ ns → 0 ≤ z) ∧ -1 ≤ at_ ∧ 0 ≤ left ∧ 0 ≤ seed ∧ seed < 2147483647
theorem DrawAt.mono {H H' : Hp} {d L : Addr} (h : DrawAt H d L) (e : Same H H') : DrawAt H' d L := by
  obtain ⟨ns, a, l, s, h1, h2, r⟩ := h
  exact ⟨ns, a, l, s, e _ _ h1, e _ _ h2, r⟩
theorem DrawAt.at {H : Hp} {d L : Addr} (h : DrawAt H d L) : ∃ u, H d = some u := by
  obtain ⟨ns, a, l, s, h1, _⟩ := h
  exact ⟨_, h1⟩
theorem DrawAt.cells {H : Hp} {d L : Addr} (h : DrawAt H d L) : ∃ u, H L = some u := by
  obtain ⟨ns, a, l, s, _, h1, _⟩ := h
  exact ⟨_, h1⟩
/-- a new object is no draw -/
theorem DrawAt.new {H : Hp} {d L p : Addr} {o : HO} (h : DrawAt H d L) (hp : H p = none) : DrawAt (upd H p o) d L := h.mono (same_new hp o)
theorem DrawAt.ne {H : Hp} {d L p : Addr} (h : DrawAt H d L) (hp : H p = none) : d ≠ p := by
  obtain ⟨u, hu⟩ := h.at
  exact ne_of_none hu hp
theorem DrawAt.neL {H : Hp} {d L p : Addr} (h : DrawAt H d L) (hp : H p = none) : L ≠ p := by
  obtain ⟨u, hu⟩ := h.cells
  exact ne_of_none hu hp
/-- an object apart from the draw may change -/
theorem DrawAt.put {H : Hp} {d L p : Addr} (o : HO) (h : DrawAt H d L) (h1 : d ≠ p) (h2 : L ≠ p) : DrawAt (upd H p o) d L := by
  obtain ⟨ns, a, l, s, g1, g2, r⟩ := h
  exact ⟨ns, a, l, s, by rw [upd_ne h1]; exact g1, by rw [upd_ne h2]; exact g2, r⟩
theorem DrawAt.in {H : Hp} {d L p : Addr} {o : HO} (h : DrawAt H d L) (hp : H p = none) : hide d (upd H p o) p = some o := by
  obtain ⟨u, hu⟩ := h.at
  exact hide_upd hu hp

/-! ### a word between a test, an expression, and what follows -/
def tCutT (t : TT) : TT := fun σ H Q => ∃ Mid : Bool → Hp → Prop, t σ H Mid ∧ ∀ b H', Mid b H' → Q b H'
theorem pt_cut {X : Cx} {e : Expr} {t : TT} (h : PT X e t) : PT X e (tCutT t) := ⟨fun pins s σ H Q I ⟨Mid, h1, h2⟩ => thn (h.run pins s σ H Mid I h1) fun b s' ⟨H', I', q⟩ => ⟨H', I', h2 b H' q⟩⟩
def tCutE (t : TE) : TE := fun σ H Q => ∃ Mid : V → Hp → Prop, t σ H Mid ∧ ∀ v H', Mid v H' → Q v H'
theorem pe_cut {X : Cx} {e : Expr} {t : TE} (h : PE X e t) : PE X e (tCutE t) := ⟨fun pins s σ H Q I ⟨Mid, h1, h2⟩ => thn (h.run pins s σ H Mid I h1) fun u s' ⟨v, H', I', r, q⟩ => ⟨v, H', I', r, h2 v H' q⟩⟩
/-- a test that leaves the heap as it is and says b -/
theorem cut_same {t : TT} {σ : L2.St} {H : Hp} {Q : Bool → Hp → Prop} (b : Bool) (h : t σ H fun c H' => c = b ∧ H' = H) (q : Q b H) : tCutT t σ H Q :=
  ⟨_, h, fun c H' ⟨e1, e2⟩ => by rw [e1, e2]; exact q⟩
theorem cutE_same {t : TE} {σ : L2.St} {H : Hp} {Q : V → Hp → Prop} (v : V) (h : t σ H fun c H' => c = v ∧ H' = H) (q : Q v H) : tCutE t σ H Q :=
  ⟨_, h, fun c H' ⟨e1, e2⟩ => by rw [e1, e2]; exact q⟩
/-- a dict's key, written: the first, the second, the third .. -/
theorem get_k {H : Hp} {a : Addr} {kvs : List (Key × V)} {x : Str} {v : V} (e : H a = some (.dK kvs)) (g : valV kvs (Sum.inr x : Key) = some v) : DGet H a (.str x) (some v) := by
  have q := DGet.k (k := (Sum.inr x : Key)) e
  rw [g] at q
  exact q
/-- a new tuple of data behind the draw -/
theorem dp_new {K : PySem.W.Frag} {H : Hp} {d L p : Addr} {xs : List V} {ds : List PyData} (D : DrawAt H d L) (hp : H p = none) (h : DpAll K (hide d H) xs ds) : Dp K (hide d (upd H p (.tup xs))) (.ref p) (.tuple ds) :=
  .tup (SqT.of (D.in hp)) (dpa_mono (hide_new hp _) _ h)

/-! ### a list that grows apart from the data -/
mutual
def noLst : PyData → Bool
  | .none => true
  | .bool _ => true
  | .int _ => true
  | .str _ => true
  | .list _ => false
  | .tuple ds => noLsts ds
  | .dict _ => false
def noLsts : List PyData → Bool
  | [] => true
  | d :: ds => noLst d && noLsts ds
end
theorem sqt_hide {K : PySem.W.Frag} {H : Hp} {D a : Addr} {ys xs : List V} (hD : H D = some (.lst ys)) (h : SqT K H a xs) : SqT K (hide D H) a xs := by
  rcases h with (h | ⟨o, h⟩) | h
  · exact .inl (.inl (hide_in h (ne_of h hD (by intro z; cases z))))
  · exact .inl (.inr ⟨o, hide_in h (ne_of h hD (by intro z; cases z))⟩)
  · exact .inr h
mutual
theorem dp_hide {K : PySem.W.Frag} {H : Hp} {D : Addr} {ys : List V} (hD : H D = some (.lst ys)) : ∀ (d : PyData) {v : V}, noLst d = true → Dp K H v d → Dp K (hide D H) v d
  | .none, _, _, .non => .non
  | .bool _, _, _, .bl b => .bl b
  | .int _, _, _, .int i => .int i
  | .str _, _, _, .str x => .str x
  | .list ds, _, n, _ => by cases (show false = true from n)
  | .tuple ds, _, n, .tup h hs => .tup (sqt_hide hD h) (dpa_hide hD ds n hs)
  | .dict _, _, _, h => by cases h
theorem dpa_hide {K : PySem.W.Frag} {H : Hp} {D : Addr} {ys : List V} (hD : H D = some (.lst ys)) : ∀ (ds : List PyData) {vs : List V}, noLsts ds = true → DpAll K H vs ds → DpAll K (hide D H) vs ds
  | [], _, _, .nil => .nil
  | d :: ds, _, n, .cons h hs => by
    have n' := Bool.and_eq_true_iff.mp (show (noLst d && noLsts ds) = true from n)
    exact .cons (dp_hide hD d n'.1 h) (dpa_hide hD ds n'.2 hs)
end
theorem noLsts_map {α : Type} {g : α → PyData} (h : ∀ x, noLst (g x) = true) : ∀ l : List α, noLsts (l.map g) = true
  | [] => rfl
  | x :: xs => by
    show (noLst (g x) && noLsts (xs.map g)) = true
    rw [h x, noLsts_map h xs]
    rfl
/-- the new list of a comprehension, D, behind the draw at d: what stands in it so far, as data -/
structure Grows (K : PySem.W.Frag) (H0 H : Hp) (d L D : Addr) (vs : List V) (ds : List PyData) : Prop where
  at_ : H D = some (.lst vs)
  all : DpAll K (hide D (hide d H)) vs ds
  dr : DrawAt H d L
  old : Same (hide d H0) (hide d H)
  nd : d ≠ D
  nL : L ≠ D
  fr : hide d H0 D = none
theorem Grows.start {K : PySem.W.Frag} {H : Hp} {d L D : Addr} (h : DrawAt H d L) (hD : H D = none) : Grows K H (upd H D (.lst [])) d L D [] [] :=
  ⟨upd_same, .nil, h.new hD, hide_new hD _, h.ne hD, h.neL hD, by rw [hide_ne (h.ne hD).symm]; exact hD⟩
/-- what a call leaves -/
theorem Grows.step {K : PySem.W.Frag} {H0 H H' : Hp} {d L D : Addr} {vs : List V} {ds : List PyData} (g : Grows K H0 H d L D vs ds) (h : DrawAt H' d L) (e : Same (hide d H) (hide d H')) : Grows K H0 H' d L D vs ds :=
  ⟨hide_le _ _ (e _ _ (hide_in g.at_ g.nd.symm)), dpa_mono (hide_same e) _ g.all, h, g.old.trans e, g.nd, g.nL, g.fr⟩
theorem Grows.push {K : PySem.W.Frag} {H0 H : Hp} {d L D : Addr} {vs : List V} {ds : List PyData} {v : V} {x : PyData} (g : Grows K H0 H d L D vs ds) (n : noLst x = true) (h : Dp K (hide d H) v x) : Grows K H0 (upd H D (.lst (vs ++ [v]))) d L D (vs ++ [v]) (ds ++ [x]) := by
  have h' := dp_hide (hide_in g.at_ g.nd.symm) x n h
  have e : Same (hide D (hide d H)) (hide D (hide d (upd H D (.lst (vs ++ [v]))))) := fun b o hb => by
    obtain ⟨h1, h2⟩ := hide_some hb
    obtain ⟨h3, h4⟩ := hide_some h2
    rw [hide_ne h1, hide_ne h3, upd_ne h1]
    exact h4
  refine ⟨upd_same, dpa_mono e _ (dpa_app g.all (dpa_one h')), g.dr.put _ g.nd g.nL, fun b o hb => ?_, g.nd, g.nL, g.fr⟩
  have hbD : b ≠ D := ne_of_none hb g.fr
  obtain ⟨h3, h4⟩ := hide_some (g.old _ _ hb)
  rw [hide_ne h3, upd_ne hbD]
  exact h4
theorem Grows.data {K : PySem.W.Frag} {H0 H : Hp} {d L D : Addr} {vs : List V} {ds : List PyData} (g : Grows K H0 H d L D vs ds) : DpAll K (hide d H) vs ds := dpa_mono hide_le _ g.all

/-! ### promises of the drawing -/
def spTop : Sp := fun vs H Q _ => ∃ n : Nat, vs = [.int n] ∧ n ≤ 1000 ∧ Q (.int (2 ^ n - 1)) H
def spDraw (K : PySem.W.Frag) : Sp := fun vs H Q _ => ∃ (a : Addr) (ns : List Int), vs = [.ref a] ∧ SqL K H a (ns.map V.int) ∧ ns.length ≤ 63 ∧ ∀ d L H', H d = none → H L = none → Same H H' → DrawAt H' d L → Q (.ref d) H'
def spTake : Sp := fun vs H Q _ => ∃ (d L : Addr) (m : Int), vs = [.ref d, .int m] ∧ 0 < m ∧ m < 1073741824 ∧ DrawAt H d L ∧ ∀ v H', 0 ≤ v → v < m → DrawAt H' d L → Same (hide d H) (hide d H') → Q (.int v) H'
def spWord : Sp := fun vs H Q _ => ∃ (d L : Addr) (n : Nat), vs = [.ref d, .int n] ∧ n ≤ 16 ∧ DrawAt H d L ∧ ∀ v H', 0 ≤ v → v < 2 ^ n → DrawAt H' d L → Same (hide d H) (hide d H') → Q (.int v) H'
def opsL : List V := [.str "add", .str "sub", .str "mul", .str "and", .str "or", .str "xor", .str "shl", .str "shr", .str "less", .str "equal"]
def opsS : List Str := ["add", "sub", "mul", "and", "or", "xor", "shl", "shr", "less", "equal"]
def spOps : Sp := fun vs H Q _ => vs = [] ∧ ∀ p H', H p = none → Same H H' → H' p = some (.lst opsL) → Q (.ref p) H'
end My

set_option Elab.async false
set_option maxRecDepth 100000
set_option linter.all false
/-! Programs as data: expressions, statements, ends, blocks, procedures; what of them is right. -/
namespace Prg
open PySem
inductive Ex where
  | int (n : Int) | var (v : Int) | cell (a : Str) (e : Ex) | pair (op : Str) (e f : Ex) | single (op : Str) (e : Ex)
def Ex.d : Ex → PyData
  | .int n => .tuple [.str "int", .int n]
  | .var v => .tuple [.str "var", .int v]
  | .cell a e => .tuple [.str "cell", .str a, e.d]
  | .pair op e f => .tuple [.str op, e.d, f.d]
  | .single op e => .tuple [.str op, e.d]
inductive Rw where
  | set (v : Int) (e : Ex) | take (v : Int) | put (e : Ex) | store (a : Str) (e f : Ex) | assert (k : Int) (e : Ex) | call (v : Int) (p : Str) (es : List Ex)
def Rw.d : Rw → PyData
  | .set v e => .tuple [.str "set", .int v, e.d]
  | .take v => .tuple [.str "take", .int v]
  | .put e => .tuple [.str "put", e.d]
  | .store a e f => .tuple [.str "store", .str a, e.d, f.d]
  | .assert k e => .tuple [.str "assert", .int k, e.d]
  | .call v p es => .tuple [.str "call", .int v, .str p, .tuple (es.map Ex.d)]
inductive En where
  | go (l : Int) | ifs (e : Ex) (l m : Int) | ret (e : Ex)
def En.d : En → PyData
  | .go l => .tuple [.str "go", .int l]
  | .ifs e l m => .tuple [.str "if", e.d, .int l, .int m]
  | .ret e => .tuple [.str "return", e.d]
def En.to : En → List Int
  | .go l => [l]
  | .ifs _ l m => [l, m]
  | .ret _ => []
structure Blk where
  label : Int
  body : List Rw
  en : En
def Blk.d (b : Blk) : PyData := .tuple [.int b.label, .tuple (b.body.map Rw.d), b.en.d]
structure Pro where
  name : Str
  params : Int
  blocks : List Blk
def Pro.d (p : Pro) : PyData := .tuple [.str p.name, .int p.params, .tuple (p.blocks.map Blk.d)]
abbrev Arr := Str × Int
def arrD (a : Arr) : PyData := .tuple [.str a.1, .int a.2]
structure Prog where
  w : Nat
  arrays : List Arr
  procs : List Pro
def Prog.d (p : Prog) : PyData := .tuple [.int p.w, .tuple (p.arrays.map arrD), .tuple (p.procs.map Pro.d)]

def pairs : List Str := ["add", "sub", "mul", "and", "or", "xor", "shl", "shr", "less", "equal"]
/-- an expression of words of n bits, cells of these arrays, at most m deep -/
def okEx (n : Nat) (ar : List Arr) : Nat → Ex → Prop
  | 0, _ => False
  | _ + 1, .int k => 0 ≤ k ∧ k < 2 ^ n
  | _ + 1, .var v => 0 ≤ v ∧ v ≤ 39
  | m + 1, .cell a e => (∃ z, (a, z) ∈ ar) ∧ okEx n ar m e
  | m + 1, .pair op e f => op ∈ pairs ∧ okEx n ar m e ∧ okEx n ar m f
  | m + 1, .single op e => (op = "not" ∨ op = "neg") ∧ okEx n ar m e
theorem okEx_le {n : Nat} {ar : List Arr} : ∀ {m k : Nat} {e : Ex}, m ≤ k → okEx n ar m e → okEx n ar k e
  | 0, _, _, _, h => by cases h
  | _ + 1, 0, _, hk, _ => by omega
  | _ + 1, _ + 1, .int _, _, h => h
  | _ + 1, _ + 1, .var _, _, h => h
  | m + 1, k + 1, .cell a e, hk, h => ⟨h.1, okEx_le (Nat.le_of_succ_le_succ hk) h.2⟩
  | m + 1, k + 1, .pair op e f, hk, h => ⟨h.1, okEx_le (Nat.le_of_succ_le_succ hk) h.2.1, okEx_le (Nat.le_of_succ_le_succ hk) h.2.2⟩
  | m + 1, k + 1, .single op e, hk, h => ⟨h.1, okEx_le (Nat.le_of_succ_le_succ hk) h.2⟩
abbrev Oth := Str × Int
/-- a statement: its expressions nest at most 5 deep -/
def okRw (n : Nat) (ar : List Arr) (ot : List Oth) : Rw → Prop
  | .set v e => (0 ≤ v ∧ v ≤ 39) ∧ okEx n ar 5 e
  | .take v => 0 ≤ v ∧ v ≤ 39
  | .put e => okEx n ar 5 e
  | .store a e f => (∃ z, (a, z) ∈ ar) ∧ okEx n ar 5 e ∧ okEx n ar 5 f
  | .assert k e => (0 ≤ k ∧ k ≤ 99) ∧ okEx n ar 5 e
  | .call v p es => (0 ≤ v ∧ v ≤ 39) ∧ (p, (es.length : Int)) ∈ ot ∧ ∀ e, e ∈ es → okEx n ar 5 e
def okEn (n : Nat) (ar : List Arr) : En → Prop
  | .go _ => True
  | .ifs e _ _ => okEx n ar 5 e
  | .ret e => okEx n ar 5 e
/-- the blocks of a procedure -/
structure okBlks (n : Nat) (ar : List Arr) (ot : List Oth) (bs : List Blk) : Prop where
  some : bs ≠ []
  len : bs.length ≤ 30
  nd : (bs.map Blk.label).Nodup
  lab : ∀ b, b ∈ bs → 0 ≤ b.label ∧ b.label ≤ 999
  row : ∀ b, b ∈ bs → ∀ r, r ∈ b.body → okRw n ar ot r
  rows : ∀ b, b ∈ bs → b.body.length ≤ 40
  en : ∀ b, b ∈ bs → okEn n ar b.en
  to : ∀ b, b ∈ bs → ∀ l, l ∈ b.en.to → l ∈ (bs.map Blk.label).drop 1
/-- the arrays, the other procedures that the law draws -/
def arsAll : List (List Arr → Prop) := []
structure okArr (ar : List Arr) : Prop where
  size : ∀ a, a ∈ ar → 1 ≤ a.2 ∧ a.2 ≤ 8
  name : ar.map (·.1) = ([] : List Str) ∨ ar.map (·.1) = (["mem"] : List Str) ∨ ar.map (·.1) = (["a", "mem"] : List Str) ∨ ar.map (·.1) = (["a", "b_2", "mem"] : List Str)
def okOth (ot : List Oth) : Prop := ot = [] ∨ ot = [(("aid" : Str), (1 : Int))] ∨ ot = [(("aid" : Str), (2 : Int)), (("zig" : Str), (0 : Int))] ∨ ot = [(("aid" : Str), (3 : Int)), (("zig" : Str), (1 : Int))]
/-- the procedures: main beside the others, ascending -/
structure okProg (p : Prog) : Prop where
  w1 : 1 ≤ p.w
  w2 : p.w ≤ 16
  ar : okArr p.arrays
  ot : ∃ ot, okOth ot ∧ (p.procs.map fun q => (q.name, q.params)) = (match ot with | [] => [(("main" : Str), (0 : Int))] | a :: r => a :: (("main" : Str), (0 : Int)) :: r) ∧ ∀ q, q ∈ p.procs → okBlks p.w p.arrays ot q.blocks
theorem exD_shape (e : Ex) : ∃ x r, e.d = .tuple (.str x :: r) := by
  cases e <;> exact ⟨_, _, rfl⟩
end Prg

set_option Elab.async false
set_option maxRecDepth 100000
namespace M00
open PySem PyProof.Rows

theorem nat_and_mask (a n : Nat) : a &&& (2 ^ n - 1) = a % 2 ^ n := Nat.and_two_pow_sub_one_eq_mod a n

/-- & with a mask is the rest, for ints of either sign -/
theorem and_mask (x : Int) (n : Nat) : Builtin.bitAnd x (2 ^ n - 1) = x % 2 ^ n := by
  have hp : (0 : Int) < 2 ^ n := by exact_mod_cast Nat.two_pow_pos n
  have hm : (0 : Int) ≤ 2 ^ n - 1 := by omega
  have hmt : ((2 : Int) ^ n - 1).toNat = 2 ^ n - 1 := by
    have h1 : ((2 : Int) ^ n) = ((2 ^ n : Nat) : Int) := by norm_cast
    rw [h1]
    have := Nat.two_pow_pos n
    omega
  by_cases hx : 0 ≤ x
  · rw [bitAnd_pp hx hm, hmt, nat_and_mask]
    have e : x = ((x.toNat : Nat) : Int) := by omega
    have h1 : ((2 : Int) ^ n) = ((2 ^ n : Nat) : Int) := by norm_cast
    rw [h1]
    conv => rhs; rw [e]
    norm_cast
  · rw [bitAnd_np hx hm, hmt, Nat.and_comm, nat_and_mask]
    have h1 : ((2 : Int) ^ n) = ((2 ^ n : Nat) : Int) := by norm_cast
    have hk : Builtin.bitNot x = -x - 1 := rfl
    rw [hk]
    generalize hN : 2 ^ n = N at *
    have hNp : 0 < N := by omega
    rw [h1]
    -- x = -(y) - 1, y natural
    obtain ⟨y, hy⟩ : ∃ y : Nat, -x - 1 = (y : Int) := ⟨(-x - 1).toNat, by omega⟩
    rw [hy, Int.toNat_natCast]
    have ex : x = -(y : Int) - 1 := by omega
    rw [ex]
    have hyd := Nat.div_add_mod y N
    have hyl := Nat.mod_lt y hNp
    have e2 : -(y : Int) - 1 = ((N : Int) - 1 - ((y % N : Nat) : Int)) + (N : Int) * (-((y / N : Nat) : Int) - 1) := by
      have : (y : Int) = (N : Int) * ((y / N : Nat) : Int) + ((y % N : Nat) : Int) := by exact_mod_cast hyd.symm
      rw [Int.mul_sub, Int.mul_neg]
      omega
    rw [e2, Int.add_mul_emod_self_left]
    rw [Int.emod_eq_of_lt (by omega) (by omega)]

theorem pow_pos' (n : Nat) : (0 : Int) < 2 ^ n := by exact_mod_cast Nat.two_pow_pos n
theorem pow_cast (n : Nat) : ((2 ^ n : Nat) : Int) = 2 ^ n := by norm_cast
theorem pow_lt (n : Nat) (h : n ≤ 16) : (2 : Int) ^ n ≤ 65536 := by
  have h2 : (2 : Nat) ^ n ≤ 2 ^ 16 := Nat.pow_le_pow_right (by decide) h
  have h3 := pow_cast n
  rw [← h3]
  exact Int.ofNat_le.mpr h2

/-- x ^ top = top - x -/
theorem xor_top (x : Int) (n : Nat) (h0 : 0 ≤ x) (h1 : x < 2 ^ n) : Builtin.bitXor x (2 ^ n - 1) = 2 ^ n - 1 - x := by
  unfold Builtin.bitXor
  rw [bitOr_and, and_mask, Int.emod_eq_of_lt h0 h1]
  omega

/-! ### the word that an op gives -/
def val (op : Str) (n : Nat) (x y : Int) : Int :=
  if op = "add" then (x + y) % 2 ^ n
  else if op = "sub" then (x - y) % 2 ^ n
  else if op = "mul" then (x * y) % 2 ^ n
  else if op = "and" then ((x.toNat &&& y.toNat : Nat) : Int)
  else if op = "or" then ((x.toNat ||| y.toNat : Nat) : Int)
  else if op = "xor" then ((x.toNat ^^^ y.toNat : Nat) : Int)
  else if op = "shl" then (if y < n then (x * 2 ^ y.toNat) % 2 ^ n else 0)
  else if op = "shr" then (if y < n then x / 2 ^ y.toNat else 0)
  else if op = "less" then (if x < y then 1 else 0)
  else if op = "equal" then (if x = y then 1 else 0)
  else if op = "not" then 2 ^ n - 1 - x
  else (0 - x) % 2 ^ n

/-! ### bits -/
theorem bit_nat (z k : Nat) : z % 2 ^ (k + 1) = z % 2 ^ k + (z / 2 ^ k % 2) * 2 ^ k := by
  rw [Nat.pow_succ, Nat.mod_mul]
  rw [Nat.mul_comm (2 ^ k)]
theorem land_bit (x y k : Nat) : (x &&& y) / 2 ^ k % 2 = (x / 2 ^ k % 2) * (y / 2 ^ k % 2) := by
  have h := Nat.testBit_and x y k
  simp only [Nat.testBit_eq_decide_div_mod_eq] at h
  have a1 := Nat.mod_two_eq_zero_or_one (x / 2 ^ k)
  have a2 := Nat.mod_two_eq_zero_or_one (y / 2 ^ k)
  have a3 := Nat.mod_two_eq_zero_or_one ((x &&& y) / 2 ^ k)
  rcases a1 with a1 | a1 <;> rcases a2 with a2 | a2 <;> rcases a3 with a3 | a3 <;> simp_all
theorem lor_bit (x y k : Nat) : (x ||| y) / 2 ^ k % 2 = max (x / 2 ^ k % 2) (y / 2 ^ k % 2) := by
  have h := Nat.testBit_or x y k
  simp only [Nat.testBit_eq_decide_div_mod_eq] at h
  have a1 := Nat.mod_two_eq_zero_or_one (x / 2 ^ k)
  have a2 := Nat.mod_two_eq_zero_or_one (y / 2 ^ k)
  have a3 := Nat.mod_two_eq_zero_or_one ((x ||| y) / 2 ^ k)
  rcases a1 with a1 | a1 <;> rcases a2 with a2 | a2 <;> rcases a3 with a3 | a3 <;> simp_all
theorem lxor_bit (x y k : Nat) : (x ^^^ y) / 2 ^ k % 2 = if x / 2 ^ k % 2 = y / 2 ^ k % 2 then 0 else 1 := by
  have h := Nat.testBit_xor x y k
  simp only [Nat.testBit_eq_decide_div_mod_eq] at h
  have a1 := Nat.mod_two_eq_zero_or_one (x / 2 ^ k)
  have a2 := Nat.mod_two_eq_zero_or_one (y / 2 ^ k)
  have a3 := Nat.mod_two_eq_zero_or_one ((x ^^^ y) / 2 ^ k)
  rcases a1 with a1 | a1 <;> rcases a2 with a2 | a2 <;> rcases a3 with a3 | a3 <;> simp_all

/-- one more bit of z below place k -/
theorem bit_step (z k : Nat) : ((z % 2 ^ k : Nat) : Int) + ((z / 2 ^ k % 2 : Nat) : Int) * (1 * 2 ^ k) = ((z % 2 ^ (k + 1) : Nat) : Int) := by
  rw [bit_nat, Int.one_mul]
  push_cast
  rfl
theorem fdiv_bit (x : Int) (h : 0 ≤ x) (k : Nat) : (x / (1 * 2 ^ k)) % 2 = ((x.toNat / 2 ^ k % 2 : Nat) : Int) := by
  have e : x = ((x.toNat : Nat) : Int) := by omega
  rw [Int.one_mul]
  conv => lhs; rw [e]
  norm_cast
theorem and_lt (x y n : Nat) (h : x < 2 ^ n) : x &&& y < 2 ^ n := Nat.lt_of_le_of_lt Nat.and_le_left h
theorem or_lt (x y n : Nat) (h : x < 2 ^ n) (h2 : y < 2 ^ n) : x ||| y < 2 ^ n := Nat.or_lt_two_pow h h2
theorem xor_lt (x y n : Nat) (h : x < 2 ^ n) (h2 : y < 2 ^ n) : x ^^^ y < 2 ^ n := Nat.xor_lt_two_pow h h2
/-- shifted as often as the smaller of y and n -/
theorem shl_plain (x y : Int) (n : Nat) (hy : 0 ≤ y) : (x * 2 ^ (min y (n : Int)).toNat) % 2 ^ n = if y < n then (x * 2 ^ y.toNat) % 2 ^ n else 0 := by
  by_cases h : y < n
  · rw [if_pos h]
    have : min y (n : Int) = y := by omega
    rw [this]
  · rw [if_neg h]
    have : min y (n : Int) = n := by omega
    rw [this, Int.toNat_natCast]
    exact Int.mul_emod_left _ _
theorem shr_plain (x y : Int) (n : Nat) (h0 : 0 ≤ x) (h1 : x < 2 ^ n) (hy : 0 ≤ y) : (x / 2 ^ (min y (n : Int)).toNat) % 2 ^ n = if y < n then x / 2 ^ y.toNat else 0 := by
  by_cases h : y < n
  · rw [if_pos h]
    have : min y (n : Int) = y := by omega
    rw [this]
    have hp := pow_pos' y.toNat
    refine Int.emod_eq_of_lt (Int.ediv_nonneg h0 (by omega)) ?_
    exact Int.lt_of_le_of_lt (Int.ediv_le_self _ h0) h1
  · rw [if_neg h]
    have : min y (n : Int) = n := by omega
    rw [this, Int.toNat_natCast, Int.ediv_eq_zero_of_lt h0 h1]
    rfl
theorem mul_step (x : Int) (k : Nat) : x * 2 ^ k * 2 = x * 2 ^ (k + 1) := by
  rw [Int.pow_succ, Int.mul_assoc]
theorem div_step (x : Int) (k : Nat) : x / 2 ^ k / 2 = x / 2 ^ (k + 1) := by
  rw [Int.pow_succ, Int.ediv_ediv_of_nonneg (Int.le_of_lt (pow_pos' k))]

section
variable (n : Nat) (x y : Int)
theorem val_add : val "add" n x y = (x + y) % 2 ^ n := by unfold val; rw [if_pos rfl]
theorem val_sub : val "sub" n x y = (x - y) % 2 ^ n := by unfold val; rw [if_neg (by decide +kernel), if_pos rfl]
theorem val_mul : val "mul" n x y = (x * y) % 2 ^ n := by unfold val; rw [if_neg (by decide +kernel), if_neg (by decide +kernel), if_pos rfl]
theorem val_and : val "and" n x y = ((x.toNat &&& y.toNat : Nat) : Int) := by unfold val; rw [if_neg (by decide +kernel), if_neg (by decide +kernel), if_neg (by decide +kernel), if_pos rfl]
theorem val_or : val "or" n x y = ((x.toNat ||| y.toNat : Nat) : Int) := by unfold val; rw [if_neg (by decide +kernel), if_neg (by decide +kernel), if_neg (by decide +kernel), if_neg (by decide +kernel), if_pos rfl]
theorem val_xor : val "xor" n x y = ((x.toNat ^^^ y.toNat : Nat) : Int) := by unfold val; rw [if_neg (by decide +kernel), if_neg (by decide +kernel), if_neg (by decide +kernel), if_neg (by decide +kernel), if_neg (by decide +kernel), if_pos rfl]
theorem val_shl : val "shl" n x y = if y < n then (x * 2 ^ y.toNat) % 2 ^ n else 0 := by unfold val; rw [if_neg (by decide +kernel), if_neg (by decide +kernel), if_neg (by decide +kernel), if_neg (by decide +kernel), if_neg (by decide +kernel), if_neg (by decide +kernel), if_pos rfl]
theorem val_shr : val "shr" n x y = if y < n then x / 2 ^ y.toNat else 0 := by unfold val; rw [if_neg (by decide +kernel), if_neg (by decide +kernel), if_neg (by decide +kernel), if_neg (by decide +kernel), if_neg (by decide +kernel), if_neg (by decide +kernel), if_neg (by decide +kernel), if_pos rfl]
theorem val_less : val "less" n x y = if x < y then 1 else 0 := by unfold val; rw [if_neg (by decide +kernel), if_neg (by decide +kernel), if_neg (by decide +kernel), if_neg (by decide +kernel), if_neg (by decide +kernel), if_neg (by decide +kernel), if_neg (by decide +kernel), if_neg (by decide +kernel), if_pos rfl]
theorem val_equal : val "equal" n x y = if x = y then 1 else 0 := by unfold val; rw [if_neg (by decide +kernel), if_neg (by decide +kernel), if_neg (by decide +kernel), if_neg (by decide +kernel), if_neg (by decide +kernel), if_neg (by decide +kernel), if_neg (by decide +kernel), if_neg (by decide +kernel), if_neg (by decide +kernel), if_pos rfl]
theorem val_not : val "not" n x y = 2 ^ n - 1 - x := by unfold val; rw [if_neg (by decide +kernel), if_neg (by decide +kernel), if_neg (by decide +kernel), if_neg (by decide +kernel), if_neg (by decide +kernel), if_neg (by decide +kernel), if_neg (by decide +kernel), if_neg (by decide +kernel), if_neg (by decide +kernel), if_neg (by decide +kernel), if_pos rfl]
theorem val_neg : val "neg" n x y = (0 - x) % 2 ^ n := by unfold val; rw [if_neg (by decide +kernel), if_neg (by decide +kernel), if_neg (by decide +kernel), if_neg (by decide +kernel), if_neg (by decide +kernel), if_neg (by decide +kernel), if_neg (by decide +kernel), if_neg (by decide +kernel), if_neg (by decide +kernel), if_neg (by decide +kernel), if_neg (by decide +kernel)]
end
def zz (op : Str) (x y : Int) : Nat := if op = "and" then x.toNat &&& y.toNat else if op = "or" then x.toNat ||| y.toNat else x.toNat ^^^ y.toNat
theorem zz_and (x y : Int) : zz "and" x y = x.toNat &&& y.toNat := if_pos rfl
theorem zz_or (x y : Int) : zz "or" x y = x.toNat ||| y.toNat := by unfold zz; rw [if_neg (by decide +kernel), if_pos rfl]
theorem zz_xor (x y : Int) : zz "xor" x y = x.toNat ^^^ y.toNat := by unfold zz; rw [if_neg (by decide +kernel), if_neg (by decide +kernel)]
theorem zz_val {op : Str} {n : Nat} {x y : Int} (h : op = "and" ∨ op = "or" ∨ op = "xor") (x0 : 0 ≤ x) (x1 : x < 2 ^ n) (y0 : 0 ≤ y) (y1 : y < 2 ^ n) : (((zz op x y % 2 ^ n : Nat) : Int)) % 2 ^ n = val op n x y := by
  have hx : x.toNat < 2 ^ n := by
    have := pow_cast n
    omega
  have hy : y.toNat < 2 ^ n := by
    have := pow_cast n
    omega
  have hz : zz op x y < 2 ^ n ∧ ((zz op x y : Nat) : Int) = val op n x y := by
    rcases h with h | h | h <;> subst h
    · rw [zz_and, val_and]; exact ⟨and_lt _ _ _ hx, rfl⟩
    · rw [zz_or, val_or]; exact ⟨or_lt _ _ _ hx hy, rfl⟩
    · rw [zz_xor, val_xor]; exact ⟨xor_lt _ _ _ hx hy, rfl⟩
  rw [Nat.mod_eq_of_lt hz.1, ← hz.2, ← pow_cast]
  exact Int.emod_eq_of_lt (by omega) (by exact_mod_cast hz.1)
theorem zz_bit_and (x y : Int) (i : Nat) : ((x.toNat / 2 ^ i % 2 : Nat) : Int) * ((y.toNat / 2 ^ i % 2 : Nat) : Int) = ((zz "and" x y / 2 ^ i % 2 : Nat) : Int) := by
  rw [zz_and, land_bit]
  norm_cast
theorem zz_bit_or (x y : Int) (i : Nat) : (if ((y.toNat / 2 ^ i % 2 : Nat) : Int) > ((x.toNat / 2 ^ i % 2 : Nat) : Int) then ((y.toNat / 2 ^ i % 2 : Nat) : Int) else ((x.toNat / 2 ^ i % 2 : Nat) : Int)) = ((zz "or" x y / 2 ^ i % 2 : Nat) : Int) := by
  rw [zz_or, lor_bit]
  generalize x.toNat / 2 ^ i % 2 = a
  generalize y.toNat / 2 ^ i % 2 = b
  by_cases h : (b : Int) > (a : Int)
  · rw [if_pos h, Nat.max_def, if_pos (by omega)]
  · rw [if_neg h, Nat.max_def]
    by_cases h2 : a ≤ b
    · rw [if_pos h2]
      omega
    · rw [if_neg h2]
theorem zz_bit_xor (x y : Int) (i : Nat) : (if ((x.toNat / 2 ^ i % 2 : Nat) : Int) = ((y.toNat / 2 ^ i % 2 : Nat) : Int) then 0 else 1 : Int) = ((zz "xor" x y / 2 ^ i % 2 : Nat) : Int) := by
  rw [zz_xor, lxor_bit]
  generalize x.toNat / 2 ^ i % 2 = a
  generalize y.toNat / 2 ^ i % 2 = b
  by_cases h : a = b
  · rw [if_pos (by omega), if_pos h]; rfl
  · rw [if_neg (by omega), if_neg h]; rfl
def ops : List Str := ["add", "sub", "mul", "and", "or", "xor", "shl", "shr", "less", "equal", "not", "neg"]
/-- what no other test has found is equal, is neg -/
theorem last_equal {op : Str} (h : op ∈ ops) (a : op ≠ "not") (b : op ≠ "neg") (c : op ≠ "add") (d : op ≠ "sub") (e : op ≠ "mul") (f : op ≠ "and") (g : op ≠ "or") (i : op ≠ "xor") (j : op ≠ "shl") (k : op ≠ "shr") (l : op ≠ "less") : op = "equal" := by
  simp only [ops, List.mem_cons, List.mem_nil_iff, or_false] at h
  rcases h with h | h | h | h | h | h | h | h | h | h | h | h <;> first | exact h | exact absurd h (by assumption)
theorem last_neg {op : Str} (h : op ∈ ops) (a : op ≠ "not") (b : op ≠ "equal") (c : op ≠ "add") (d : op ≠ "sub") (e : op ≠ "mul") (f : op ≠ "and") (g : op ≠ "or") (i : op ≠ "xor") (j : op ≠ "shl") (k : op ≠ "shr") (l : op ≠ "less") : op = "neg" := by
  simp only [ops, List.mem_cons, List.mem_nil_iff, or_false] at h
  rcases h with h | h | h | h | h | h | h | h | h | h | h | h <;> first | exact h | exact absurd h (by assumption)

/-- what min of two ints prints, as min -/
theorem min_if (a b : Int) : (if b < a then b else a) = min a b := by
  rw [Int.min_def]
  by_cases h : b < a
  · rw [if_pos h, if_neg (by omega)]
  · rw [if_neg h, if_pos (by omega)]
theorem small_mod {n : Nat} (h : 1 ≤ n) (c : Bool) : (if c = true then 1 else 0 : Int) % 2 ^ n = if c = true then 1 else 0 := by
  have h1 : (2 : Int) ^ 1 ≤ 2 ^ n := by
    have := Nat.pow_le_pow_right (n := 2) (by decide) h
    exact_mod_cast this
  have h2 : (2 : Int) ≤ 2 ^ n := h1
  cases c <;> simp
  exact Int.emod_eq_of_lt (by omega) (by omega)
end M00

set_option Elab.async false
set_option maxRecDepth 100000
set_option maxHeartbeats 4000000
set_option linter.all false
namespace My
open PySem L2 Prg
open C8 (pss_cut)
def top (i : Nat) : Stmt := PySem.Challenge.pw_inputways_k06_packing.main.body.getD i (.Pass ⟨0, 0, 0, 0⟩)
abbrev s_is_between : Stmt := top 4
abbrev N_is_between : List Str := ["value", "low", "high"]
theorem sc_is_between : FnScope N_is_between ["value", "low", "high"] (defScope s_is_between) := ⟨rfl, rfl, rfl, by decide +kernel, rfl, by decide +kernel, by decide +kernel⟩
abbrev s_PackError___init__ : Stmt := inClass (top 2) 0
abbrev N_PackError___init__ : List Str := ["self", "at"]
abbrev s_pack : Stmt := top 15
abbrev N_pack : List Str := ["value", "data"]
theorem sc_pack : FnScope N_pack ["value"] (defScope s_pack) := ⟨rfl, rfl, rfl, by decide +kernel, rfl, by decide +kernel, by decide +kernel⟩
abbrev s_pack_into : Stmt := top 16
abbrev N_pack_into : List Str := ["data", "value", "depth", "part", "sign"]
theorem sc_pack_into : FnScope N_pack_into ["data", "value", "depth"] (defScope s_pack_into) := ⟨rfl, rfl, rfl, by decide +kernel, rfl, by decide +kernel, by decide +kernel⟩
abbrev s_place_of : Stmt := top 17
abbrev N_place_of : List Str := ["sign", "place"]
theorem sc_place_of : FnScope N_place_of ["sign"] (defScope s_place_of) := ⟨rfl, rfl, rfl, by decide +kernel, rfl, by decide +kernel, by decide +kernel⟩
abbrev s_size_bytes : Stmt := top 18
abbrev N_size_bytes : List Str := ["n", "digits"]
theorem sc_size_bytes : FnScope N_size_bytes ["n"] (defScope s_size_bytes) := ⟨rfl, rfl, rfl, by decide +kernel, rfl, by decide +kernel, by decide +kernel⟩
abbrev s_unpack : Stmt := top 19
abbrev N_unpack : List Str := ["data", "reader", "value"]
theorem sc_unpack : FnScope N_unpack ["data"] (defScope s_unpack) := ⟨rfl, rfl, rfl, by decide +kernel, rfl, by decide +kernel, by decide +kernel⟩
abbrev s_Reader___init__ : Stmt := inClass (top 20) 0
abbrev N_Reader___init__ : List Str := ["self", "data"]
theorem sc_Reader___init__ : FnScope N_Reader___init__ ["self", "data"] (defScope s_Reader___init__) := ⟨rfl, rfl, rfl, by decide +kernel, rfl, by decide +kernel, by decide +kernel⟩
abbrev s_Reader_byte : Stmt := inClass (top 20) 1
abbrev N_Reader_byte : List Str := ["self"]
theorem sc_Reader_byte : FnScope N_Reader_byte ["self"] (defScope s_Reader_byte) := ⟨rfl, rfl, rfl, by decide +kernel, rfl, by decide +kernel, by decide +kernel⟩
abbrev s_Reader_value : Stmt := inClass (top 20) 2
abbrev N_Reader_value : List Str := ["self", "depth", "kind", "_"]
theorem sc_Reader_value : FnScope N_Reader_value ["self", "depth"] (defScope s_Reader_value) := ⟨rfl, rfl, rfl, by decide +kernel, rfl, by decide +kernel, by decide +kernel⟩
abbrev s_Reader_size : Stmt := inClass (top 20) 3
abbrev N_Reader_size : List Str := ["self", "n", "shift", "digit"]
theorem sc_Reader_size : FnScope N_Reader_size ["self"] (defScope s_Reader_size) := ⟨rfl, rfl, rfl, by decide +kernel, rfl, by decide +kernel, by decide +kernel⟩
abbrev s_Reader_character : Stmt := inClass (top 20) 4
abbrev N_Reader_character : List Str := ["self", "place"]
theorem sc_Reader_character : FnScope N_Reader_character ["self"] (defScope s_Reader_character) := ⟨rfl, rfl, rfl, by decide +kernel, rfl, by decide +kernel, by decide +kernel⟩
abbrev s__law_draw : Stmt := top 22
abbrev N__law_draw : List Str := ["script", "seed", "cell"]
theorem sc__law_draw : FnScope N__law_draw ["script"] (defScope s__law_draw) := ⟨rfl, rfl, rfl, by decide +kernel, rfl, by decide +kernel, by decide +kernel⟩
abbrev s__law_take : Stmt := top 23
abbrev N__law_take : List Str := ["draw", "many", "found"]
theorem sc__law_take : FnScope N__law_take ["draw", "many"] (defScope s__law_take) := ⟨rfl, rfl, rfl, by decide +kernel, rfl, by decide +kernel, by decide +kernel⟩
abbrev s__law_top : Stmt := top 24
abbrev N__law_top : List Str := ["w"]
theorem sc__law_top : FnScope N__law_top ["w"] (defScope s__law_top) := ⟨rfl, rfl, rfl, by decide +kernel, rfl, by decide +kernel, by decide +kernel⟩
abbrev s__law_word : Stmt := top 26
abbrev N__law_word : List Str := ["draw", "w"]
theorem sc__law_word : FnScope N__law_word ["draw", "w"] (defScope s__law_word) := ⟨rfl, rfl, rfl, by decide +kernel, rfl, by decide +kernel, by decide +kernel⟩
abbrev s__law_ops : Stmt := top 27
abbrev N__law_ops : List Str := []
theorem sc__law_ops : FnScope N__law_ops [] (defScope s__law_ops) := ⟨rfl, rfl, rfl, by decide +kernel, rfl, by decide +kernel, by decide +kernel⟩
abbrev s__law_variable : Stmt := top 28
abbrev N__law_variable : List Str := ["draw"]
theorem sc__law_variable : FnScope N__law_variable ["draw"] (defScope s__law_variable) := ⟨rfl, rfl, rfl, by decide +kernel, rfl, by decide +kernel, by decide +kernel⟩
abbrev s__law_expression : Stmt := top 29
abbrev N__law_expression : List Str := ["p", "depth", "draw", "k", "name", "size"]
theorem sc__law_expression : FnScope N__law_expression ["p", "depth"] (defScope s__law_expression) := ⟨rfl, rfl, rfl, by decide +kernel, rfl, by decide +kernel, by decide +kernel⟩
abbrev s__law_index : Stmt := top 30
abbrev N__law_index : List Str := ["p", "size", "depth", "most"]
theorem sc__law_index : FnScope N__law_index ["p", "size", "depth"] (defScope s__law_index) := ⟨rfl, rfl, rfl, by decide +kernel, rfl, by decide +kernel, by decide +kernel⟩
abbrev s__law_row : Stmt := top 31
abbrev N__law_row : List Str := ["p", "others", "draw", "k", "name", "size", "params", "j"]
theorem sc__law_row : FnScope N__law_row ["p", "others"] (defScope s__law_row) := ⟨rfl, rfl, rfl, by decide +kernel, rfl, by decide +kernel, by decide +kernel⟩
abbrev s__law_blocks : Stmt := top 32
abbrev N__law_blocks : List Str := ["p", "others", "blocks", "rows", "draw", "gap", "labels", "found", "body", "rest", "kind", "end", "onward", "first", "second", "k", "j"]
theorem sc__law_blocks : FnScope N__law_blocks ["p", "others", "blocks", "rows"] (defScope s__law_blocks) := ⟨rfl, rfl, rfl, by decide +kernel, rfl, by decide +kernel, by decide +kernel⟩
abbrev s__law_program : Stmt := top 33
abbrev N__law_program : List Str := ["draw", "w", "blocks", "rows", "arrays", "p", "told", "made", "first", "procedures", "name", "params"]
theorem sc__law_program : FnScope N__law_program ["draw", "w", "blocks", "rows"] (defScope s__law_program) := ⟨rfl, rfl, rfl, by decide +kernel, rfl, by decide +kernel, by decide +kernel⟩
abbrev s__law_size : Stmt := top 36
abbrev N__law_size : List Str := ["n", "row"]
theorem sc__law_size : FnScope N__law_size ["n"] (defScope s__law_size) := ⟨rfl, rfl, rfl, by decide +kernel, rfl, by decide +kernel, by decide +kernel⟩
abbrev s__law_signs : Stmt := top 37
abbrev N__law_signs : List Str := []
theorem sc__law_signs : FnScope N__law_signs [] (defScope s__law_signs) := ⟨rfl, rfl, rfl, by decide +kernel, rfl, by decide +kernel, by decide +kernel⟩
abbrev s__law_bytes : Stmt := top 38
abbrev N__law_bytes : List Str := ["value", "depth", "row", "part", "inner", "sign"]
theorem sc__law_bytes : FnScope N__law_bytes ["value", "depth"] (defScope s__law_bytes) := ⟨rfl, rfl, rfl, by decide +kernel, rfl, by decide +kernel, by decide +kernel⟩
abbrev s__law_plain : Stmt := top 39
abbrev N__law_plain : List Str := ["draw", "depth", "k", "n", "value", "turn", "j"]
theorem sc__law_plain : FnScope N__law_plain ["draw", "depth"] (defScope s__law_plain) := ⟨rfl, rfl, rfl, by decide +kernel, rfl, by decide +kernel, by decide +kernel⟩
abbrev s__law_number : Stmt := top 40
abbrev N__law_number : List Str := ["data", "at", "n", "k"]
theorem sc__law_number : FnScope N__law_number ["data", "at"] (defScope s__law_number) := ⟨rfl, rfl, rfl, by decide +kernel, rfl, by decide +kernel, by decide +kernel⟩
abbrev s__law_read : Stmt := top 41
abbrev N__law_read : List Str := ["data", "at", "depth", "code", "n", "behind", "wrong", "parts", "part"]
theorem sc__law_read : FnScope N__law_read ["data", "at", "depth"] (defScope s__law_read) := ⟨rfl, rfl, rfl, by decide +kernel, rfl, by decide +kernel, by decide +kernel⟩
abbrev s__law_told : Stmt := top 42
abbrev N__law_told : List Str := ["data", "error"]
theorem sc__law_told : FnScope N__law_told ["data"] (defScope s__law_told) := ⟨rfl, rfl, rfl, by decide +kernel, rfl, by decide +kernel, by decide +kernel⟩
abbrev s__law_due : Stmt := top 43
abbrev N__law_due : List Str := ["data", "value", "behind", "wrong"]
theorem sc__law_due : FnScope N__law_due ["data"] (defScope s__law_due) := ⟨rfl, rfl, rfl, by decide +kernel, rfl, by decide +kernel, by decide +kernel⟩
abbrev s__law_changed : Stmt := top 44
abbrev N__law_changed : List Str := ["draw", "data", "k", "at", "byte"]
theorem sc__law_changed : FnScope N__law_changed ["draw", "data"] (defScope s__law_changed) := ⟨rfl, rfl, rfl, by decide +kernel, rfl, by decide +kernel, by decide +kernel⟩
abbrev s_law : Stmt := top 45
abbrev N_law : List Str := ["script", "draw", "value", "due", "data", "error", "turn"]
theorem sc_law : FnScope N_law ["script"] (defScope s_law) := ⟨rfl, rfl, rfl, by decide +kernel, rfl, by decide +kernel, by decide +kernel⟩
/-- what the top binds: built-ins that are not shadowed -/
structure Txt (K : PySem.W.Frag) (mg : Str → Option Value) : Prop where
  m_abs : mg "abs" = none
  m_bool : mg "bool" = none
  m_int : mg "int" = none
  m_isinstance : mg "isinstance" = none
  m_len : mg "len" = none
  m_list : mg "list" = none
  m_max : mg "max" = none
  m_min : mg "min" = none
  m_range : mg "range" = none
  m_repr : mg "repr" = none
  m_sorted : mg "sorted" = none
  m_str : mg "str" = none
  m_tuple : mg "tuple" = none
section
variable {P : Program} {w : World} {K : PySem.W.Frag} {mg : Str → Option Value} {base : Heap} {f : Addr} {fd : FuncData}
theorem ok__law_top (D : Def K mg "_law_top" ["w"] s__law_top f fd) : Own P w K mg base "_law_top" ["w"] 1 spTop := by
  refine ⟨f, fd, D.mg, D.fn.kp, D.bd, D.fn.ok sc__law_top (fun vs H Q E h => ?_) (fun cdv A outer s H vs Q E hr h => ?_)⟩
  · obtain ⟨n, rfl, _⟩ := h
    rfl
  · obtain ⟨n, rfl, hn, q⟩ := h
    refine ⟨_, (pss_one (ps_ret (pe_op op_sub (pe_op op_shl pe_int (pv 0)) pe_int))), ?_⟩
    refine ⟨_, rfl, _, _, rfl, rfl, ⟨by omega, by omega, by decide⟩, _, _, rfl, rfl, ?_⟩
    exact toI (by rw [Int.one_mul]; rfl) q
theorem ok__law_ops (D : Def K mg "_law_ops" [] s__law_ops f fd) : Own P w K mg base "_law_ops" [] 1 spOps := by
  refine ⟨f, fd, D.mg, D.fn.kp, D.bd, D.fn.ok sc__law_ops (fun vs H Q E h => ?_) (fun cdv A outer s H vs Q E hr h => ?_)⟩
  · obtain ⟨rfl, _⟩ := h
    rfl
  · obtain ⟨rfl, q⟩ := h
    refine ⟨_, (pss_one (ps_ret (pe_lst (pa_cons pe_str (pa_cons pe_str (pa_cons pe_str (pa_cons pe_str (pa_cons pe_str (pa_cons pe_str (pa_cons pe_str (pa_cons pe_str (pa_cons pe_str (pa_cons pe_str pa_nil))))))))))))), ?_⟩
    exact ⟨by show 10 ≤ sizeLine; decide, fun p hp => q p _ hp (same_new hp _) upd_same⟩
theorem ok__law_take (T : Txt K mg) (D : Def K mg "_law_take" ["draw", "many"] s__law_take f fd) : Own P w K mg base "_law_take" ["draw", "many"] 1 spTake := by
  refine ⟨f, fd, D.mg, D.fn.kp, D.bd, D.fn.ok sc__law_take (fun vs H Q E h => ?_) (fun cdv A outer s H vs Q E hr h => ?_)⟩
  · obtain ⟨d, L, m, rfl, _⟩ := h
    rfl
  · obtain ⟨d, L, m, rfl, hm0, hm1, hD, q⟩ := h
    obtain ⟨ns, at_, left, seed, h1, h2, hdL, hpos, ha, hl, hs, hs2⟩ := hD
    refine ⟨_, (pss_cut (ps_if (pt_cmpR op_eq (pe_ix ix_list (pv 0) pe_int (fun _ _ => rfl)) pe_int (nomark _)) (pss_cons (ps_asg (pe_op op_add (pe_ix ix_list (pv 0) pe_int (fun _ _ => rfl)) pe_int) (pg_sub (pv 0) pe_int set_list))
      (pss_cut (ps_if (pt_cmpR op_lt (pe_ix ix_list (pv 0) pe_int (fun _ _ => rfl)) (pe_callB call_len_seq (by rfl) T.m_len (by decide +kernel) (pa_cons (pe_ix ix_list (pv 0) pe_int (fun _ _ => rfl)) pa_nil)) (nomark _)) (pss_one (ps_asg (pe_ix ix_list (pe_ix ix_list (pv 0) pe_int (fun _ _ => rfl)) (pe_ix ix_list (pv 0) pe_int (fun _ _ => rfl)) (fun _ _ => rfl)) (pg_sub (pv 0) pe_int set_list))) pss_nil)
      (pss_one (ps_if (pt_cmpR op_eq (pe_ix ix_list (pv 0) pe_int (fun _ _ => rfl)) pe_int (nomark _)) (pss_cons (ps_asg (pe_op op_mod (pe_callTy call_int1 (by rfl) T.m_int (by decide +kernel) (pa_cons (pe_op op_add (pe_op op_mul (pe_ix ix_list (pv 0) pe_int (fun _ _ => rfl)) pe_int) pe_int) pa_nil)) pe_int) (pg_sub (pv 0) pe_int set_list))
      (pss_one (ps_asg (pe_ix ix_list (pv 0) pe_int (fun _ _ => rfl)) (pg_sub (pv 0) pe_int set_list)))) pss_nil)))) pss_nil)
      (pss_cons (ps_set (i := 2) sc__law_take.nd rfl (Or.inl rfl) (pe_op op_mod (pe_callTy call_int1 (by rfl) T.m_int (by decide +kernel) (pa_cons (pe_ix ix_list (pv 0) pe_int (fun _ _ => rfl)) pa_nil)) (pv 1)))
      (pss_cons (ps_asg (pe_op op_fdiv (pe_ix ix_list (pv 0) pe_int (fun _ _ => rfl)) (pv 1)) (pg_sub (pv 0) pe_int set_list))
      (pss_one (ps_ret (pv 2)))))), ?_⟩
    refine ⟨fun σ' H' => σ' = [some (.ref d), some (.int m), none] ∧ DrawAt H' d L ∧ Same (hide d H) (hide d H'), ?_, ?_⟩
    · refine ⟨_, rfl, d, _, _, _, rfl, rfl, SqL.of h1, rfl, rfl, _, rfl, ite2 (fun c => ?_) (fun c => ?_)⟩
      · refine ⟨_, rfl, d, _, _, _, rfl, rfl, SqL.of h1, rfl, _, _, rfl, rfl, _, rfl, d, _, _, _, rfl, rfl, h1, rfl, ?_⟩
        refine ⟨fun σ' H' => σ' = [some (.ref d), some (.int m), none] ∧ (∃ l2, 0 ≤ l2 ∧ H' d = some (.lst [.ref L, .int (at_ + 1), .int l2, .int seed])) ∧ H' L = some (.lst (ns.map V.int)) ∧ Same (hide d H) (hide d H'), ?_, ?_⟩
        · have g1 : (upd H d (.lst ([.ref L, .int at_, .int left, .int seed].set 1 (.int (at_ + 1))))) L = some (.lst (ns.map V.int)) := by rw [upd_ne hdL.symm]; exact h2
          refine ⟨_, rfl, d, _, _, _, rfl, rfl, SqL.of upd_same, rfl, _, rfl, d, _, _, _, rfl, rfl, SqL.of upd_same, rfl, L, _, rfl, .inl (SqL.of g1), _, _, rfl, rfl, _, rfl, ite2 (fun e => ?_) (fun e => ?_)⟩
          · have e' : at_ + 1 < ((ns.map V.int).length : Int) := of_decide_eq_true e
            rw [List.length_map] at e'
            obtain ⟨z, hz, ez⟩ := atI_get (ns := ns) (k := at_ + 1) (by omega) e'
            refine ⟨_, rfl, d, _, _, _, rfl, rfl, SqL.of upd_same, rfl, _, rfl, d, _, _, _, rfl, rfl, SqL.of upd_same, rfl, L, _, _, _, rfl, rfl, SqL.of g1, ez, _, rfl, d, _, _, _, rfl, rfl, upd_same, rfl, ?_⟩
            exact ⟨rfl, ⟨z, hpos z hz, upd_same⟩, by rw [upd_ne hdL.symm]; exact g1, (hide_put _).trans (hide_put _)⟩
          · exact ⟨rfl, ⟨left, hl, upd_same⟩, g1, hide_put _⟩
        · rintro σ' H' ⟨rfl, ⟨l2, hl2, k1⟩, k2, kb⟩
          refine ⟨_, rfl, d, _, _, _, rfl, rfl, SqL.of k1, rfl, rfl, _, rfl, ite2 (fun e => ?_) (fun e => ?_)⟩
          · refine ⟨_, rfl, d, _, _, _, rfl, rfl, SqL.of k1, rfl, _, _, rfl, rfl, .inl ⟨by omega, by omega⟩, _, _, rfl, rfl, .inl ⟨_, rfl, _, _, rfl, rfl, (by show (0 : Int) < 2147483647; decide), _, rfl, d, _, _, _, rfl, rfl, k1, rfl, ?_⟩⟩
            refine ⟨_, rfl, d, _, _, _, rfl, rfl, SqL.of upd_same, rfl, _, rfl, d, _, _, _, rfl, rfl, upd_same, rfl, ?_⟩
            have p0 : 0 ≤ (seed * 48271 + 11) % 2147483647 := Int.emod_nonneg _ (by decide)
            have p1 : (seed * 48271 + 11) % 2147483647 < 2147483647 := Int.emod_lt_of_pos _ (by decide)
            exact ⟨rfl, ⟨ns, at_ + 1, _, _, upd_same, by rw [upd_ne hdL.symm, upd_ne hdL.symm]; exact k2, hdL, hpos, by omega, p0, p0, p1⟩, (kb.trans (hide_put _)).trans (hide_put _)⟩
          · exact ⟨rfl, ⟨ns, at_ + 1, l2, seed, k1, k2, hdL, hpos, by omega, hl2, hs, hs2⟩, kb⟩
      · exact ⟨rfl, ⟨ns, at_, left, seed, h1, h2, hdL, hpos, ha, hl, hs, hs2⟩, Same.refl _⟩
    · rintro σ' H' ⟨rfl, ⟨ns, at_, left, seed, h1, h2, hdL, hpos, ha, hl, hs, hs2⟩, kb⟩
      refine ⟨_, rfl, d, _, _, _, rfl, rfl, SqL.of h1, rfl, .inl ⟨_, rfl, _, rfl, _, _, rfl, rfl, hm0, ?_⟩⟩
      refine ⟨_, rfl, d, _, _, _, rfl, rfl, SqL.of h1, rfl, _, rfl, _, _, rfl, rfl, ⟨hm0, hm1⟩, _, rfl, d, _, _, _, rfl, rfl, h1, rfl, ?_⟩
      refine ⟨_, rfl, ?_⟩
      exact q _ _ (Int.emod_nonneg _ (by omega)) (Int.emod_lt_of_pos _ hm0) ⟨ns, at_, _, seed, upd_same, by rw [upd_ne hdL.symm]; exact h2, hdL, hpos, ha, Int.ediv_nonneg hl (by omega), hs, hs2⟩ (kb.trans (hide_put _))
theorem ok__law_draw (T : Txt K mg) (D : Def K mg "_law_draw" ["script"] s__law_draw f fd) : Own P w K mg base "_law_draw" ["script"] 1 (spDraw K) := by
  refine ⟨f, fd, D.mg, D.fn.kp, D.bd, D.fn.ok sc__law_draw (fun vs H Q E h => ?_) (fun cdv A outer s H vs Q E hr h => ?_)⟩
  · obtain ⟨a, ns, rfl, _⟩ := h
    rfl
  · obtain ⟨a, ns, rfl, hS, h63, q⟩ := h
    refine ⟨_, (pss_cons (ps_set (i := 1) sc__law_draw.nd rfl (Or.inl rfl) pe_int)
      (pss_cons (ps_for PassesOwn.never rfl (pi_list (pv 0)) (pg_name (i := 2) sc__law_draw.nd rfl (Or.inl rfl)) (pss_one (ps_set (i := 1) sc__law_draw.nd rfl (Or.inl rfl) (pe_op op_mod (pe_callTy call_int1 (by rfl) T.m_int (by decide +kernel) (pa_cons (pe_op op_add (pe_op op_add (pe_op op_mul (pv 1) pe_int) (pe_op op_mod (pe_callB call_abs (by rfl) T.m_abs (by decide +kernel) (pa_cons (pe_callTy call_int1 (by rfl) T.m_int (by decide +kernel) (pa_cons (pv 2) pa_nil)) pa_nil)) pe_int)) pe_int) pa_nil)) pe_int))))
      (pss_one (ps_ret (pe_lst (pa_cons (pe_lc (own := [("cell", 2)]) (g := gName 2) (tt := tYes) rfl sc__law_draw.nd (pi_list (pv 0)) (blkOk_by (N := N__law_draw) (sc := defScope s__law_draw) (own := [("cell", 2)]) (by decide +kernel)) (fun _ _ _ _ _ => (pg_name (i := 2) sc__law_draw.nd rfl (Or.inl rfl))) (fun _ _ _ _ _ => pts_nil) (fun _ _ _ _ _ => (pe_callB call_abs (by rfl) T.m_abs (by decide +kernel) (pa_cons (pe_callTy call_int1 (by rfl) T.m_int (by decide +kernel) (pa_cons (pv 2) pa_nil)) pa_nil)))) (pa_cons (pe_un un_neg pe_int) (pa_cons pe_int (pa_cons (pv 1) pa_nil))))))))), ?_⟩
    refine ⟨_, rfl, a, rfl, ⟨_, hS⟩, for_list (K := K) (a := a) (xs := ns.map V.int) (fun i σ H' => ∃ (sd : Int) (v : Option V), σ = [some (.ref a), some (.int sd), v] ∧ Same H H' ∧ 0 ≤ sd ∧ sd < 2147483647)
      ⟨7, none, rfl, Same.refl H, by decide, by decide⟩ (fun i σ H' _ ⟨_, _, _, e, _⟩ => e.seq hS) ?_ ?_⟩
    · rintro i y σ H' hi ⟨sd, v, rfl, e, s0, s1⟩
      obtain ⟨z, rfl, _⟩ := map_at hi
      refine ⟨_, rfl, _, _, rfl, rfl, .inl ⟨by omega, by omega⟩, _, rfl, .inl ⟨_, rfl, _, rfl, _, _, rfl, rfl, (by show (0 : Int) < 65521; decide), _, _, rfl, rfl, _, _, rfl, rfl, .inl ⟨_, rfl, _, _, rfl, rfl, (by show (0 : Int) < 2147483647; decide), ?_⟩⟩⟩
      exact ⟨_, _, rfl, e, Int.emod_nonneg _ (by decide), Int.emod_lt_of_pos _ (by decide)⟩
    · rintro σ H' ⟨sd, v, rfl, e, s0, s1⟩
      refine ⟨_, rfl, a, rfl, ⟨_, e.seq hS⟩, fun D hD => lc_list (K := K) (a := a) (xs := ns.map V.int) (fun i H2 => ∃ ms : List Int, H2 D = some (.lst (ms.map V.int)) ∧ ms.length = i ∧ (∀ z, z ∈ ms → 0 ≤ z) ∧ (∀ b o, H' b = some o → H2 b = some o) ∧ i ≤ ns.length)
        ⟨[], upd_same, rfl, (fun z hz => by cases hz), same_new hD _, Nat.zero_le _⟩ (fun i H2 _ ⟨_, _, _, _, s, _⟩ => Same.seq s (e.seq hS)) ?_ ?_⟩
      · rintro i y H2 hi ⟨ms, hm, hml, hm0, s, _⟩
        obtain ⟨z, rfl, hz⟩ := map_at hi
        have hi' : i < ns.length := (List.getElem?_eq_some_iff.mp hz).1
        refine ⟨rfl, yes2 ?_⟩
        refine ⟨_, rfl, .inl ⟨_, rfl, _, rfl, _, hm, by rw [List.length_map]; exact small1000 (by omega), ms ++ [if z < 0 then -z else z], ?_, by rw [List.length_append, hml]; rfl, ?_, ?_, hi'⟩⟩
        · rw [upd_same, List.map_append]
          all_goals rfl
        · intro u hu
          rcases List.mem_append.mp hu with hu | hu
          · exact hm0 u hu
          · rw [List.mem_singleton] at hu
            rw [hu]
            split <;> omega
        · intro b o hb
          rw [upd_ne (ne_of_none hb hD)]
          exact s b o hb
      · rintro H2 ⟨ms, hm, hml, hm0, s, _⟩
        refine ⟨_, rfl, _, rfl, by show 4 ≤ sizeLine; decide, fun l hl => ?_⟩
        have nDl : D ≠ l := ne_of_none hm hl
        refine q l D _ (Same.free (e.trans s) hl) (Same.free e hD) ((e.trans s).trans (same_new hl _)) ⟨ms, -1, 0, sd, upd_same, by rw [upd_ne nDl]; exact hm, nDl.symm, hm0, by omega, by omega, s0, s1⟩
theorem ok__law_word (T : Txt K mg) (D : Def K mg "_law_word" ["draw", "w"] s__law_word f fd) (O1 : Own P w K mg base "_law_top" ["w"] 1 spTop) (O2 : Own P w K mg base "_law_take" ["draw", "many"] 1 spTake) : Own P w K mg base "_law_word" ["draw", "w"] 2 spWord := by
  obtain ⟨f_law_top, fd_law_top, m_law_top, k_law_top, b_law_top, G_law_top⟩ := O1
  obtain ⟨f_law_take, fd_law_take, m_law_take, k_law_take, b_law_take, G_law_take⟩ := O2
  refine ⟨f, fd, D.mg, D.fn.kp, D.bd, D.fn.ok sc__law_word (fun vs H Q E h => ?_) (fun cdv A outer s H vs Q E hr h => ?_)⟩
  · obtain ⟨d, L, n, rfl, _⟩ := h
    rfl
  · obtain ⟨d, L, n, rfl, hn, hD, q⟩ := h
    have hp := M00.pow_lt n hn
    have hp0 := M00.pow_pos' n
    have hp1 : 1 * (2 : Int) ^ n = 2 ^ n := Int.one_mul _
    refine ⟨_, (pss_one (ps_ret (pe_op op_and (pe_ix ix_list (pe_lst (pa_cons pe_int (pa_cons pe_int (pa_cons pe_int (pa_cons (pe_call G_law_top (hr.mono (by omega)) rfl m_law_top k_law_top b_law_top .nil pass0 (pa_cons (pv 1) pa_nil)) (pa_cons (pe_call G_law_take (hr.mono (by omega)) rfl m_law_take k_law_take b_law_take .nil pass0 (pa_cons (pv 0) (pa_cons (pe_op op_shl pe_int (pv 1)) pa_nil))) pa_nil)))))) (pe_call G_law_take (hr.mono (by omega)) rfl m_law_take k_law_take b_law_take .nil pass0 (pa_cons (pv 0) (pa_cons pe_int pa_nil))) (fun _ _ => rfl)) (pe_call G_law_top (hr.mono (by omega)) rfl m_law_top k_law_top b_law_top .nil pass0 (pa_cons (pv 1) pa_nil))))), ?_⟩
    refine ⟨_, rfl, n, rfl, by omega, _, rfl, _, rfl, _, _, rfl, rfl, ⟨by omega, by omega, by decide⟩, d, L, _, rfl, (by show 0 < 1 * (2 : Int) ^ n; omega), (by show 1 * (2 : Int) ^ n < 1073741824; omega), hD, fun v H1 v0 v1 hD1 b1 => ?_⟩
    refine ⟨by show 5 ≤ sizeLine; decide, fun p hp' => ?_⟩
    have e1 := same_new hp' (.lst [.int 0, .int 1, .int 2, .int (2 ^ n - 1), .int v])
    refine ⟨_, rfl, d, L, 5, rfl, by decide, by decide, hD1.mono e1, fun k H2 k0 k1 hD2 b2 => ?_⟩
    have e2 : H2 p = some (.lst [.int 0, .int 1, .int 2, .int (2 ^ n - 1), .int v]) := hide_le _ _ (b2 p _ (hD1.in hp'))
    obtain ⟨u, hu⟩ : ∃ u : Int, atI [V.int 0, .int 1, .int 2, .int (2 ^ n - 1), .int v] k = some (.int u) := by
      have h5 : k = 0 ∨ k = 1 ∨ k = 2 ∨ k = 3 ∨ k = 4 := by omega
      rcases h5 with h | h | h | h | h <;> subst h <;> exact ⟨_, rfl⟩
    refine ⟨p, _, _, _, rfl, rfl, SqL.of e2, hu, _, rfl, n, rfl, by omega, _, _, rfl, rfl, ?_⟩
    exact toI (M00.and_mask _ _) (q _ _ (Int.emod_nonneg _ (by omega)) (Int.emod_lt_of_pos _ hp0) hD2 ((b1.trans (hide_new hp' _)).trans b2))

/-! ### the law's programs -/
def spVariable : Sp := fun vs H Q _ => ∃ d L : Addr, vs = [.ref d] ∧ DrawAt H d L ∧ ∀ v H', 0 ≤ v → v ≤ 39 → DrawAt H' d L → Same (hide d H) (hide d H') → Q (.int v) H'
theorem ok__law_variable (D : Def K mg "_law_variable" ["draw"] s__law_variable f fd) (O2 : Own P w K mg base "_law_take" ["draw", "many"] 1 spTake) : Own P w K mg base "_law_variable" ["draw"] 2 spVariable := by
  obtain ⟨f_law_take, fd_law_take, m_law_take, k_law_take, b_law_take, G_law_take⟩ := O2
  refine ⟨f, fd, D.mg, D.fn.kp, D.bd, D.fn.ok sc__law_variable (fun vs H Q E h => ?_) (fun cdv A outer s H vs Q E hr h => ?_)⟩
  · obtain ⟨d, L, rfl, _⟩ := h
    rfl
  · obtain ⟨d, L, rfl, hD, q⟩ := h
    refine ⟨_, (pss_one (ps_ret (pe_ix ix_list (pe_lst (pa_cons pe_int (pa_cons pe_int (pa_cons pe_int (pa_cons pe_int (pa_cons pe_int (pa_cons pe_int (pa_cons pe_int (pa_cons pe_int pa_nil))))))))) (pe_call G_law_take (hr.mono (by omega)) rfl m_law_take k_law_take b_law_take .nil pass0 (pa_cons (pv 0) (pa_cons pe_int pa_nil))) (fun _ _ => rfl)))), ?_⟩
    refine ⟨by show 8 ≤ sizeLine; decide, fun p hp => ⟨_, rfl, d, L, 8, rfl, by decide, by decide, hD.new hp, fun k H2 k0 k1 hD2 b2 => ?_⟩⟩
    have e2 := hide_le _ _ (b2 p _ (hD.in hp))
    obtain ⟨u, hu, u0, u1⟩ : ∃ u : Int, atI [V.int 0, .int 1, .int 2, .int 3, .int 0, .int 1, .int 2, .int 39] k = some (.int u) ∧ 0 ≤ u ∧ u ≤ 39 := by
      have h5 : k = 0 ∨ k = 1 ∨ k = 2 ∨ k = 3 ∨ k = 4 ∨ k = 5 ∨ k = 6 ∨ k = 7 := by omega
      rcases h5 with h | h | h | h | h | h | h | h <;> subst h <;> exact ⟨_, rfl, by decide, by decide⟩
    exact ⟨p, _, _, _, rfl, rfl, SqL.of e2, hu, q u H2 u0 u1 hD2 ((hide_new hp _).trans b2)⟩
end
end My

set_option Elab.async false
set_option maxRecDepth 100000
set_option maxHeartbeats 4000000
set_option linter.all false
namespace My
open PySem L2 Prg
open C8 (pss_cut)
/-- the law's record p: the draw, the width, the arrays -/
def pK (d : Addr) (n : Nat) (va : V) : List (Key × V) := [(Sum.inr "draw", .ref d), (Sum.inr "width", .int n), (Sum.inr "arrays", va)]
theorem pK_draw {d : Addr} {n : Nat} {va : V} : valV (pK d n va) (Sum.inr "draw" : Key) = some (.ref d) := valV_pos rfl
theorem pK_width {d : Addr} {n : Nat} {va : V} : valV (pK d n va) (Sum.inr "width" : Key) = some (.int n) := by
  unfold pK
  rw [valV_neg (show ¬ (Sum.inr ("draw" : Str) : Key) = Sum.inr ("width" : Str) by decide +kernel), valV_pos rfl]
theorem pK_arrays {d : Addr} {n : Nat} {va : V} : valV (pK d n va) (Sum.inr "arrays" : Key) = some va := by
  unfold pK
  rw [valV_neg (show ¬ (Sum.inr ("draw" : Str) : Key) = Sum.inr ("arrays" : Str) by decide +kernel), valV_neg (show ¬ (Sum.inr ("width" : Str) : Key) = Sum.inr ("arrays" : Str) by decide +kernel), valV_pos rfl]
/-- it stands at dp -/
structure PAt (K : PySem.W.Frag) (H : Hp) (d dp : Addr) (n : Nat) (va : V) (ar : List Arr) : Prop where
  at_ : hide d H dp = some (.dK (pK d n va))
  arr : Dp K (hide d H) va (.tuple (ar.map arrD))
  n1 : 1 ≤ n
  n2 : n ≤ 16
  ok : okArr ar
theorem PAt.mono {K : PySem.W.Frag} {H H' : Hp} {d dp : Addr} {n : Nat} {va : V} {ar : List Arr} (h : PAt K H d dp n va ar) (e : Same (hide d H) (hide d H')) : PAt K H' d dp n va ar :=
  ⟨e _ _ h.at_, dp_mono e _ h.arr, h.n1, h.n2, h.ok⟩
theorem PAt.draw {K : PySem.W.Frag} {H : Hp} {d dp : Addr} {n : Nat} {va : V} {ar : List Arr} (h : PAt K H d dp n va ar) : DGet H dp (.str "draw") (some (.ref d)) := get_k (hide_le _ _ h.at_) pK_draw
theorem PAt.width {K : PySem.W.Frag} {H : Hp} {d dp : Addr} {n : Nat} {va : V} {ar : List Arr} (h : PAt K H d dp n va ar) : DGet H dp (.str "width") (some (.int n)) := get_k (hide_le _ _ h.at_) pK_width
theorem PAt.arrays {K : PySem.W.Frag} {H : Hp} {d dp : Addr} {n : Nat} {va : V} {ar : List Arr} (h : PAt K H d dp n va ar) : DGet H dp (.str "arrays") (some va) := get_k (hide_le _ _ h.at_) pK_arrays
theorem ar_len {ar : List Arr} (h : okArr ar) : ar.length ≤ 3 := by
  have e : ar.length = (ar.map (·.1)).length := (List.length_map _).symm
  rw [e]
  rcases h.name with h | h | h | h <;> rw [h] <;> decide
theorem shp_arr {ar : List Arr} (h : okArr ar) : SeqAt.shaped (.tuple (ar.map arrD)) = true := by
  have hl := ar_len h
  have hn := h.name
  rcases ar with _ | ⟨⟨x, z⟩, _ | ⟨⟨y, u⟩, _ | ⟨⟨t, v⟩, r⟩⟩⟩
  · rfl
  · have e : x = "mem" := by simpa using hn
    subst e
    simp [SeqAt.shaped, arrD, PyData.canLay0, PyData.canLayAll0, PyData.depth, PyData.depthAll, show PyData.strOk "mem" = true by decide +kernel]
  · obtain ⟨e1, e2⟩ : x = "a" ∧ y = "mem" := by simpa using hn
    subst e1 e2
    simp [SeqAt.shaped, arrD, PyData.canLay0, PyData.canLayAll0, PyData.depth, PyData.depthAll, show PyData.strOk "mem" = true by decide +kernel, show PyData.strOk "a" = true by decide +kernel]
  · obtain ⟨e1, e2, e3, e4⟩ : x = "a" ∧ y = "b_2" ∧ t = "mem" ∧ r = [] := by simpa using hn
    subst e1 e2 e3 e4
    simp [SeqAt.shaped, arrD, PyData.canLay0, PyData.canLayAll0, PyData.depth, PyData.depthAll, show PyData.strOk "mem" = true by decide +kernel, show PyData.strOk "a" = true by decide +kernel, show PyData.strOk "b_2" = true by decide +kernel]
theorem eqv_nil {ar : List Arr} : PyData.eqv (.tuple (ar.map arrD)) (.tuple []) = decide (ar = []) := by
  cases ar with
  | nil => rfl
  | cons a r => rfl
theorem ops_at {k : Int} (k0 : 0 ≤ k) (k1 : k < 10) : ∃ op : Str, atI opsL k = some (.str op) ∧ op ∈ pairs := by
  obtain ⟨v, h1, _, h3⟩ := atI_in (xs := opsL) k0 k1
  obtain ⟨op, h4, rfl⟩ : ∃ op ∈ opsS, V.str op = v := List.mem_map.mp (show v ∈ opsS.map V.str from h3)
  exact ⟨op, h1, h4⟩
def spExpr (K : PySem.W.Frag) (m : Nat) : Sp := fun vs H Q _ => ∃ (d L dp : Addr) (n : Nat) (va : V) (ar : List Arr) (k : Nat), vs = [.ref dp, .int k] ∧ k < m ∧ DrawAt H d L ∧ PAt K H d dp n va ar ∧
  ∀ v e H', DrawAt H' d L → Same (hide d H) (hide d H') → Dp K (hide d H') v (Ex.d e) → okEx n ar (k + 3) e → Q v H'
def spIndex (K : PySem.W.Frag) (m : Nat) : Sp := fun vs H Q _ => ∃ (d L dp : Addr) (n : Nat) (va : V) (ar : List Arr) (z : Int) (k : Nat), vs = [.ref dp, .int z, .int k] ∧ k < m ∧ 1 ≤ z ∧ z ≤ 8 ∧ DrawAt H d L ∧ PAt K H d dp n va ar ∧
  ∀ v e H', DrawAt H' d L → Same (hide d H) (hide d H') → Dp K (hide d H') v (Ex.d e) → okEx n ar (k + 3) e → Q v H'
section
variable {P : Program} {w : World} {K : PySem.W.Frag} {mg : Str → Option Value} {base : Heap} {f : Addr} {fd : FuncData}
theorem ok__law_expression {m j : Nat} (hj : 2 ≤ j) (T : Txt K mg) (D : Def K mg "_law_expression" ["p", "depth"] s__law_expression f fd) (O1 : Own P w K mg base "_law_take" ["draw", "many"] 1 spTake) (O2 : Own P w K mg base "_law_word" ["draw", "w"] 2 spWord)
    (O3 : Own P w K mg base "_law_variable" ["draw"] 2 spVariable) (O4 : Own P w K mg base "_law_ops" [] 1 spOps) (O5 : Own P w K mg base "_law_expression" ["p", "depth"] j (spExpr K m)) (O6 : Own P w K mg base "_law_index" ["p", "size", "depth"] j (spIndex K m)) :
    Own P w K mg base "_law_expression" ["p", "depth"] (j + 1) (spExpr K (m + 1)) := by
  obtain ⟨f_law_take, fd_law_take, m_law_take, k_law_take, b_law_take, G_law_take⟩ := O1
  obtain ⟨f_law_word, fd_law_word, m_law_word, k_law_word, b_law_word, G_law_word⟩ := O2
  obtain ⟨f_law_variable, fd_law_variable, m_law_variable, k_law_variable, b_law_variable, G_law_variable⟩ := O3
  obtain ⟨f_law_ops, fd_law_ops, m_law_ops, k_law_ops, b_law_ops, G_law_ops⟩ := O4
  obtain ⟨f_law_expression, fd_law_expression, m_law_expression, k_law_expression, b_law_expression, G_law_expression⟩ := O5
  obtain ⟨f_law_index, fd_law_index, m_law_index, k_law_index, b_law_index, G_law_index⟩ := O6
  refine ⟨f, fd, D.mg, D.fn.kp, D.bd, D.fn.ok sc__law_expression (fun vs H Q E h => ?_) (fun cdv A outer s H vs Q E hr h => ?_)⟩
  · obtain ⟨d, L, dp, n, va, ar, k, rfl, _⟩ := h
    rfl
  · obtain ⟨d, L, dp, n, va, ar, k, rfl, hk, hD, hP, q⟩ := h
    have hu := hu_of hr
    have n2 := hP.n2
    refine ⟨_, (pss_cons (ps_set (i := 2) sc__law_expression.nd rfl (Or.inl rfl) (pe_dget hu (pv 0) pe_str (fun _ _ => rfl)))
      (pss_cons (ps_set (i := 3) sc__law_expression.nd rfl (Or.inl rfl) (pe_call G_law_take (hr.mono (by omega)) rfl m_law_take k_law_take b_law_take .nil pass0 (pa_cons (pv 2) (pa_cons pe_int pa_nil))))
      (pss_cons (ps_if (pt_cut (PW.pt (pw_or (pt_cmpR op_lt (pv 3) pe_int (nomark _)) (pw_or1 (PW.pt (pw_and (pt_cmpR op_lt (pv 1) pe_int (nomark _)) (pw_and1 (pt_cmpR op_gt (pv 3) pe_int (nomark _))))))))) (pss_one (ps_ret (pe_tup (pa_cons pe_str (pa_cons (pe_call G_law_word (hr.mono (by omega)) rfl m_law_word k_law_word b_law_word .nil pass0 (pa_cons (pv 2) (pa_cons (pe_dget hu (pv 0) pe_str (fun _ _ => rfl)) pa_nil))) pa_nil))))) pss_nil)
      (pss_cons (ps_if (pt_cut (PW.pt (pw_or (pt_cmpR op_lt (pv 3) pe_int (nomark _)) (pw_or1 (pt_cmpR op_lt (pv 1) pe_int (nomark _)))))) (pss_one (ps_ret (pe_tup (pa_cons pe_str (pa_cons (pe_call G_law_variable (hr.mono (by omega)) rfl m_law_variable k_law_variable b_law_variable .nil pass0 (pa_cons (pv 2) pa_nil)) pa_nil))))) pss_nil)
      (pss_cons (ps_if (pt_cut (PW.pt (pw_and (pt_cmpR op_eq (pv 3) pe_int (nomark _)) (pw_and1 (pt_cmpR (op_neD hr.units) (pe_dget hu (pv 0) pe_str (fun _ _ => rfl)) (pe_tup pa_nil) (nomark _)))))) (pss_cons (ps_asg (pe_ix ix_tup (pe_dget hu (pv 0) pe_str (fun _ _ => rfl)) (pe_call G_law_take (hr.mono (by omega)) rfl m_law_take k_law_take b_law_take .nil pass0 (pa_cons (pv 2) (pa_cons (pe_callB call_len_seq (by rfl) T.m_len (by decide +kernel) (pa_cons (pe_dget hu (pv 0) pe_str (fun _ _ => rfl)) pa_nil)) pa_nil))) (fun _ _ => rfl)) (pg_tup (by rfl) (pgs_cons (pg_name (i := 4) sc__law_expression.nd rfl (Or.inl rfl)) (pgs_cons (pg_name (i := 5) sc__law_expression.nd rfl (Or.inl rfl)) pgs_nil))))
      (pss_one (ps_ret (pe_tup (pa_cons pe_str (pa_cons (pv 4) (pa_cons (pe_call G_law_index (hr.mono (by omega)) rfl m_law_index k_law_index b_law_index .nil pass0 (pa_cons (pv 0) (pa_cons (pv 5) (pa_cons (pe_op op_sub (pv 1) pe_int) pa_nil)))) pa_nil))))))) pss_nil)
      (pss_cons (ps_if (pt_cmpR op_eq (pv 3) pe_int (nomark _)) (pss_one (ps_ret (pe_tup (pa_cons (pe_ix ix_list (pe_lst (pa_cons pe_str (pa_cons pe_str pa_nil))) (pe_call G_law_take (hr.mono (by omega)) rfl m_law_take k_law_take b_law_take .nil pass0 (pa_cons (pv 2) (pa_cons pe_int pa_nil))) (fun _ _ => rfl)) (pa_cons (pe_call G_law_expression (hr.mono (by omega)) rfl m_law_expression k_law_expression b_law_expression .nil pass0 (pa_cons (pv 0) (pa_cons (pe_op op_sub (pv 1) pe_int) pa_nil))) pa_nil))))) pss_nil)
      (pss_one (ps_ret (pe_tup (pa_cons (pe_ix ix_list (pe_call0 G_law_ops (hr.mono (by omega)) (by rfl) m_law_ops k_law_ops b_law_ops .nil pass0) (pe_call G_law_take (hr.mono (by omega)) rfl m_law_take k_law_take b_law_take .nil pass0 (pa_cons (pv 2) (pa_cons pe_int pa_nil))) (fun _ _ => rfl)) (pa_cons (pe_call G_law_expression (hr.mono (by omega)) rfl m_law_expression k_law_expression b_law_expression .nil pass0 (pa_cons (pv 0) (pa_cons (pe_op op_sub (pv 1) pe_int) pa_nil))) (pa_cons (pe_call G_law_expression (hr.mono (by omega)) rfl m_law_expression k_law_expression b_law_expression .nil pass0 (pa_cons (pv 0) (pa_cons (pe_op op_sub (pv 1) pe_int) pa_nil))) pa_nil)))))))))))), ?_⟩
    -- draw, k
    refine ⟨_, rfl, dp, _, rfl, hP.draw, ?_⟩
    refine ⟨_, rfl, d, L, 9, rfl, by decide, by decide, hD, fun k9 H1 k0 k1 hD1 s1 => ?_⟩
    have hP1 := hP.mono s1
    -- if k < 2 or (depth < 1 and k > 5)
    refine cut_same (decide (k9 < 2) || (decide ((k : Int) < 1) && decide (5 < k9))) ?_ (ite2 (fun c => ?_) (fun c => ?_))
    · refine ⟨_, rfl, _, _, rfl, rfl, _, rfl, ite2 (fun c => ?_) (fun c => ?_)⟩
      · exact ⟨by rw [c]; rfl, rfl⟩
      · refine ⟨_, rfl, _, _, rfl, rfl, _, rfl, ite2 (fun c2 => ?_) (fun c2 => ?_)⟩
        · exact ⟨_, rfl, _, _, rfl, rfl, _, rfl, by rw [Bool.eq_false_iff.mpr c, c2]; rfl, rfl⟩
        · exact ⟨by rw [Bool.eq_false_iff.mpr c, Bool.eq_false_iff.mpr c2]; rfl, rfl⟩
    · refine ⟨_, rfl, _, rfl, dp, _, rfl, hP1.width, d, L, n, rfl, n2, hD1, fun v H2 v0 v1 hD2 s2 => ?_⟩
      refine ⟨by show 2 ≤ sizeLine; decide, fun p hp => ?_⟩
      exact q _ (.int v) _ (hD2.new hp) ((s1.trans s2).trans (hide_new hp _)) (dp_new hD2 hp (.cons (.str _) (.cons (.int _) .nil))) ⟨v0, v1⟩
    -- if k < 4 or depth < 1
    refine cut_same (decide (k9 < 4) || decide ((k : Int) < 1)) ?_ (ite2 (fun c => ?_) (fun c1 => ?_))
    · refine ⟨_, rfl, _, _, rfl, rfl, _, rfl, ite2 (fun c => ?_) (fun c => ?_)⟩
      · exact ⟨by rw [c]; rfl, rfl⟩
      · exact ⟨_, rfl, _, _, rfl, rfl, _, rfl, by rw [Bool.eq_false_iff.mpr c]; rfl, rfl⟩
    · refine ⟨_, rfl, d, L, rfl, hD1, fun v H2 v0 v1 hD2 s2 => ?_⟩
      refine ⟨by show 2 ≤ sizeLine; decide, fun p hp => ?_⟩
      exact q _ (.var v) _ (hD2.new hp) ((s1.trans s2).trans (hide_new hp _)) (dp_new hD2 hp (.cons (.str _) (.cons (.int _) .nil))) ⟨v0, v1⟩
    -- here depth is 1 or more
    obtain ⟨k', rfl⟩ : ∃ k', k = k' + 1 := by
      cases k with
      | zero => exact absurd (by simp) c1
      | succ k' => exact ⟨k', rfl⟩
    have ek : (((k' + 1 : Nat) : Int) - 1) = (k' : Int) := by omega
    have hk' : k' < m := by omega
    -- if k == 4 and p["arrays"] != ()
    refine ⟨fun b H' => DrawAt H' d L ∧ Same (hide d H1) (hide d H') ∧ (b = true → ar ≠ []), ?_, ?_⟩
    · refine ⟨_, rfl, rfl, _, rfl, ite2 (fun c => ?_) (fun c => ?_)⟩
      · refine ⟨_, rfl, dp, _, rfl, hP1.arrays, by show 0 ≤ sizeLine; decide, fun p hp => ?_⟩
        have g := dp_mono (hide_new hp (.tup [])) _ hP1.arr
        refine ⟨_, _, dp_mono hide_le _ g, .tup (SqT.of upd_same) .nil, shp_arr hP.ok, by rfl, _, rfl, ?_⟩
        rw [eqv_nil]
        refine ⟨hD1.new hp, hide_new hp _, fun e => ?_⟩
        simpa using e
      · exact ⟨hD1, Same.refl _, fun e => by cases e⟩
    rintro b H2 ⟨hD2, s2, hb⟩
    have hP2 := hP1.mono s2
    have s02 := s1.trans s2
    refine ite2 (fun c => ?_) (fun c => ?_)
    · -- a cell
      have hne := hb c
      obtain ⟨aA, xs, rfl, hA, hAs⟩ := dp_tup hP2.arr
      have hlx : xs.length = ar.length := by rw [dpa_len hAs, List.length_map]
      have hpos : 0 < ar.length := List.length_pos_iff.mpr hne
      have hl3 := ar_len hP.ok
      refine ⟨_, rfl, dp, _, rfl, hP2.arrays, _, rfl, _, rfl, dp, _, rfl, hP2.arrays, aA, _, rfl, .inr (sqt_mono hide_le hA), d, L, _, rfl, by omega, by omega, hD2, fun i H3 i0 i1 hD3 s3 => ?_⟩
      have hP3 := hP2.mono s3
      have hA3 := sqt_mono (s3.trans hide_le) hA
      obtain ⟨v, hv1, hv2, _⟩ := atI_in (xs := xs) i0 i1
      obtain ⟨dd, hd1, hd2⟩ := dpa_get hAs hv2
      rw [List.getElem?_map] at hd1
      obtain ⟨az, haz, rfl⟩ : ∃ az, ar[i.toNat]? = some az ∧ arrD az = dd := by
        cases e : ar[i.toNat]? with
        | none =>
          rw [e] at hd1
          cases hd1
        | some az =>
          rw [e] at hd1
          exact ⟨az, rfl, Option.some.inj hd1⟩
      have hmem : az ∈ ar := List.mem_of_getElem? haz
      obtain ⟨t, us, rfl, ht, hts⟩ := dp_tup (dp_mono s3 _ hd2)
      cases hts with
      | cons h1 r1 =>
        cases r1 with
        | cons h2 r2 =>
          cases r2
          cases dp_str h1
          cases dp_int h2
          refine ⟨aA, _, _, _, rfl, rfl, hA3, hv1, t, _, rfl, sqt_mono hide_le ht, rfl, _, _, rfl, _, _, rfl, rfl, ?_⟩
          have hz := hP.ok.size az hmem
          refine ⟨_, rfl, _, rfl, _, rfl, _, rfl, _, _, rfl, rfl, d, L, dp, n, _, ar, az.2, k', by rw [← ek]; rfl, hk', hz.1, hz.2, hD3, hP3, fun v e H4 hD4 s4 hv he => ?_⟩
          refine ⟨by show 3 ≤ sizeLine; decide, fun p hp => ?_⟩
          exact q _ (.cell az.1 e) _ (hD4.new hp) (((s02.trans s3).trans s4).trans (hide_new hp _)) (dp_new hD4 hp (.cons (.str _) (.cons (.str _) (.cons hv .nil)))) ⟨⟨az.2, hmem⟩, okEx_le (by omega) he⟩
    -- if k == 5
    refine ⟨_, rfl, rfl, _, rfl, ite2 (fun c => ?_) (fun c => ?_)⟩
    · refine ⟨by show 2 ≤ sizeLine; decide, fun p hp => ⟨_, rfl, d, L, 2, rfl, by decide, by decide, hD2.new hp, fun i H3 i0 i1 hD3 s3 => ?_⟩⟩
      have e3 := hide_le _ _ (s3 p _ (hD2.in hp))
      obtain ⟨op, ho, hop⟩ : ∃ op : Str, atI [V.str "not", .str "neg"] i = some (.str op) ∧ (op = "not" ∨ op = "neg") := by
        have h2 : i = 0 ∨ i = 1 := by omega
        rcases h2 with h | h <;> subst h
        · exact ⟨_, rfl, .inl rfl⟩
        · exact ⟨_, rfl, .inr rfl⟩
      have s23 := (hide_new hp (.lst [.str "not", .str "neg"])).trans s3
      refine ⟨p, _, _, _, rfl, rfl, SqL.of e3, ho, ?_⟩
      refine ⟨_, rfl, _, rfl, _, _, rfl, rfl, d, L, dp, n, va, ar, k', by rw [← ek]; rfl, hk', hD3, hP2.mono s23, fun v e H4 hD4 s4 hv he => ?_⟩
      refine ⟨by show 2 ≤ sizeLine; decide, fun p2 hp2 => ?_⟩
      exact q _ (.single op e) _ (hD4.new hp2) (((s02.trans s23).trans s4).trans (hide_new hp2 _)) (dp_new hD4 hp2 (.cons (.str _) (.cons hv .nil))) ⟨hop, okEx_le (by omega) he⟩
    · refine ⟨rfl, fun p H3 hp e3 hL => ?_⟩
      have hD3 := hD2.mono e3
      refine ⟨_, rfl, d, L, 10, rfl, by decide, by decide, hD3, fun i H4 i0 i1 hD4 s4 => ?_⟩
      have hL4 := hide_le _ _ (s4 p _ (hide_in hL (hD2.ne hp).symm))
      obtain ⟨op, ho, hop⟩ := ops_at i0 i1
      have s24 := (hide_same (d := d) e3).trans s4
      refine ⟨p, _, _, _, rfl, rfl, SqL.of hL4, ho, ?_⟩
      refine ⟨_, rfl, _, rfl, _, _, rfl, rfl, d, L, dp, n, va, ar, k', by rw [← ek]; rfl, hk', hD4, hP2.mono s24, fun v e H5 hD5 s5 hv he => ?_⟩
      refine ⟨_, rfl, _, rfl, _, _, rfl, rfl, d, L, dp, n, va, ar, k', by rw [← ek]; rfl, hk', hD5, (hP2.mono s24).mono s5, fun v2 e2 H6 hD6 s6 hv2 he2 => ?_⟩
      refine ⟨by show 3 ≤ sizeLine; decide, fun p2 hp2 => ?_⟩
      exact q _ (.pair op e e2) _ (hD6.new hp2) ((((s02.trans s24).trans s5).trans s6).trans (hide_new hp2 _)) (dp_new hD6 hp2 (.cons (.str _) (.cons (dp_mono s6 _ hv) (.cons hv2 .nil)))) ⟨hop, okEx_le (by omega) he, okEx_le (by omega) he2⟩
theorem ok__law_index {m j : Nat} (hj : 2 ≤ j) (T : Txt K mg) (D : Def K mg "_law_index" ["p", "size", "depth"] s__law_index f fd) (O1 : Own P w K mg base "_law_take" ["draw", "many"] 1 spTake) (O2 : Own P w K mg base "_law_top" ["w"] 1 spTop)
    (O3 : Own P w K mg base "_law_variable" ["draw"] 2 spVariable) (O5 : Own P w K mg base "_law_expression" ["p", "depth"] j (spExpr K m)) :
    Own P w K mg base "_law_index" ["p", "size", "depth"] (j + 1) (spIndex K m) := by
  obtain ⟨f_law_take, fd_law_take, m_law_take, k_law_take, b_law_take, G_law_take⟩ := O1
  obtain ⟨f_law_top, fd_law_top, m_law_top, k_law_top, b_law_top, G_law_top⟩ := O2
  obtain ⟨f_law_variable, fd_law_variable, m_law_variable, k_law_variable, b_law_variable, G_law_variable⟩ := O3
  obtain ⟨f_law_expression, fd_law_expression, m_law_expression, k_law_expression, b_law_expression, G_law_expression⟩ := O5
  refine ⟨f, fd, D.mg, D.fn.kp, D.bd, D.fn.ok sc__law_index (fun vs H Q E h => ?_) (fun cdv A outer s H vs Q E hr h => ?_)⟩
  · obtain ⟨d, L, dp, n, va, ar, z, k, rfl, _⟩ := h
    rfl
  · obtain ⟨d, L, dp, n, va, ar, z, k, rfl, hk, z1, z8, hD, hP, q⟩ := h
    have hu := hu_of hr
    have n1 := hP.n1
    have n2 := hP.n2
    have t2 := M00.pow_lt n n2
    have t1 : (2 : Int) ≤ 2 ^ n := by
      have := Nat.pow_le_pow_right (n := 2) (by decide) n1
      exact_mod_cast this
    refine ⟨_, (pss_cons (ps_if (pt_cmpR op_eq (pe_call G_law_take (hr.mono (by omega)) rfl m_law_take k_law_take b_law_take .nil pass0 (pa_cons (pe_dget hu (pv 0) pe_str (fun _ _ => rfl)) (pa_cons pe_int pa_nil))) pe_int (nomark _)) (pss_one (ps_ret (pe_call G_law_expression (hr.mono (by omega)) rfl m_law_expression k_law_expression b_law_expression .nil pass0 (pa_cons (pv 0) (pa_cons (pv 2) pa_nil))))) pss_nil)
      (pss_cons (ps_set (i := 3) sc__law_index.nd rfl (Or.inl rfl) (pe_callB (call_min2 rfl) (by rfl) T.m_min (by decide +kernel) (pa_cons (pe_op op_sub (pv 1) pe_int) (pa_cons (pe_call G_law_top (hr.mono (by omega)) rfl m_law_top k_law_top b_law_top .nil pass0 (pa_cons (pe_dget hu (pv 0) pe_str (fun _ _ => rfl)) pa_nil)) pa_nil))))
      (pss_cons (ps_if (pt_cmpR op_eq (pe_call G_law_take (hr.mono (by omega)) rfl m_law_take k_law_take b_law_take .nil pass0 (pa_cons (pe_dget hu (pv 0) pe_str (fun _ _ => rfl)) (pa_cons pe_int pa_nil))) pe_int (nomark _)) (pss_one (ps_ret (pe_tup (pa_cons pe_str (pa_cons (pe_call G_law_take (hr.mono (by omega)) rfl m_law_take k_law_take b_law_take .nil pass0 (pa_cons (pe_dget hu (pv 0) pe_str (fun _ _ => rfl)) (pa_cons (pe_op op_add (pv 3) pe_int) pa_nil))) pa_nil))))) pss_nil)
      (pss_one (ps_ret (pe_tup (pa_cons pe_str (pa_cons (pe_tup (pa_cons pe_str (pa_cons (pe_call G_law_variable (hr.mono (by omega)) rfl m_law_variable k_law_variable b_law_variable .nil pass0 (pa_cons (pe_dget hu (pv 0) pe_str (fun _ _ => rfl)) pa_nil)) pa_nil))) (pa_cons (pe_tup (pa_cons pe_str (pa_cons (pe_ix ix_list (pe_lst (pa_cons pe_int (pa_cons pe_int (pa_cons pe_int (pa_cons pe_int (pa_cons pe_int (pa_cons pe_int (pa_cons pe_int (pa_cons pe_int pa_nil))))))))) (pe_callB (call_min2 rfl) (by rfl) T.m_min (by decide +kernel) (pa_cons (pv 3) (pa_cons pe_int pa_nil))) (fun _ _ => rfl)) pa_nil))) pa_nil))))))))), ?_⟩
    refine ⟨_, rfl, dp, _, rfl, hP.draw, d, L, 3, rfl, by decide, by decide, hD, fun i H1 _ _ hD1 s1 => ?_⟩
    have hP1 := hP.mono s1
    refine ⟨rfl, _, rfl, ite2 (fun c => ?_) (fun c => ?_)⟩
    · exact ⟨_, rfl, _, rfl, d, L, dp, n, va, ar, k, rfl, hk, hD1, hP1, fun v e H2 hD2 s2 hv he => q v e H2 hD2 (s1.trans s2) hv he⟩
    refine ⟨_, rfl, _, _, rfl, rfl, _, rfl, dp, _, rfl, hP1.width, n, rfl, by omega, _, _, rfl, ?_⟩
    generalize hmo : (if (2 : Int) ^ n - 1 < z - 1 then (2 : Int) ^ n - 1 else z - 1) = mo
    have mo0 : 0 ≤ mo := by rw [← hmo]; split <;> omega
    have mo1 : mo ≤ 7 := by rw [← hmo]; split <;> omega
    have mo2 : mo < 2 ^ n := by rw [← hmo]; split <;> omega
    refine ⟨_, rfl, dp, _, rfl, hP1.draw, d, L, 2, rfl, by decide, by decide, hD1, fun i2 H2 _ _ hD2 s2 => ?_⟩
    have hP2 := hP1.mono s2
    refine ⟨rfl, _, rfl, ite2 (fun c => ?_) (fun c => ?_)⟩
    · refine ⟨_, rfl, dp, _, rfl, hP2.draw, _, rfl, _, _, rfl, rfl, d, L, _, rfl, by omega, by omega, hD2, fun v H3 v0 v1 hD3 s3 => ?_⟩
      refine ⟨by show 2 ≤ sizeLine; decide, fun p hp => ?_⟩
      exact q _ (.int v) _ (hD3.new hp) (((s1.trans s2).trans s3).trans (hide_new hp _)) (dp_new hD3 hp (.cons (.str _) (.cons (.int _) .nil))) ⟨v0, by omega⟩
    · refine ⟨_, rfl, dp, _, rfl, hP2.draw, d, L, rfl, hD2, fun v H3 v0 v1 hD3 s3 => ?_⟩
      refine ⟨by show 2 ≤ sizeLine; decide, fun p hp => ?_⟩
      have g1 := dp_new (K := K) hD3 hp (.cons (.str "var") (.cons (.int v) .nil))
      refine ⟨by show 8 ≤ sizeLine; decide, fun p2 hp2 => ?_⟩
      have hD4 := hD3.new (o := .tup [.str "var", .int v]) hp
      refine ⟨_, rfl, _, _, rfl, ?_⟩
      rw [if_neg (by omega)]
      obtain ⟨u, hu1, hu0, hu2⟩ : ∃ u : Int, atI [V.int 0, .int 1, .int 1, .int 3, .int 3, .int 3, .int 3, .int 7] mo = some (.int u) ∧ 0 ≤ u ∧ u ≤ mo := by
        have h5 : mo = 0 ∨ mo = 1 ∨ mo = 2 ∨ mo = 3 ∨ mo = 4 ∨ mo = 5 ∨ mo = 6 ∨ mo = 7 := by omega
        rcases h5 with h | h | h | h | h | h | h | h <;> rw [h] <;> exact ⟨_, rfl, by decide, by decide⟩
      refine ⟨p2, _, _, _, rfl, rfl, SqL.of upd_same, hu1, by show 2 ≤ sizeLine; decide, fun p3 hp3 => ?_⟩
      have hD5 := hD4.new (o := .lst [V.int 0, .int 1, .int 1, .int 3, .int 3, .int 3, .int 3, .int 7]) hp2
      have g2 := dp_new (K := K) hD5 hp3 (.cons (.str "int") (.cons (.int u) .nil))
      refine ⟨by show 3 ≤ sizeLine; decide, fun p4 hp4 => ?_⟩
      have hD6 := hD5.new (o := .tup [.str "int", .int u]) hp3
      refine q _ (.pair "and" (.var v) (.int u)) _ (hD6.new hp4) ((((((s1.trans s2).trans s3).trans (hide_new hp _)).trans (hide_new hp2 _)).trans (hide_new hp3 _)).trans (hide_new hp4 _)) (dp_new hD6 hp4 (.cons (.str _) (.cons (dp_mono ((hide_new hp2 _).trans (hide_new hp3 _)) _ g1) (.cons g2 .nil)))) ⟨?_, ⟨v0, v1⟩, hu0, by omega⟩
      decide +kernel
end
end My

set_option Elab.async false
set_option maxRecDepth 100000
set_option maxHeartbeats 4000000
set_option linter.all false
namespace My
open PySem L2 Prg
open C8 (pss_cut)
theorem ex_noLst : ∀ e : Ex, noLst e.d = true
  | .int _ => rfl
  | .var _ => rfl
  | .cell a e => by
    show (noLst e.d && true) = true
    rw [ex_noLst e]
    rfl
  | .pair op e f => by
    show (noLst e.d && (noLst f.d && true)) = true
    rw [ex_noLst e, ex_noLst f]
    rfl
  | .single op e => by
    show (noLst e.d && true) = true
    rw [ex_noLst e]
    rfl
theorem rw_noLst : ∀ r : Rw, noLst r.d = true
  | .set v e => by
    show (noLst e.d && true) = true
    rw [ex_noLst e]
    rfl
  | .take v => rfl
  | .put e => by
    show (noLst e.d && true) = true
    rw [ex_noLst e]
    rfl
  | .store a e f => by
    show (noLst e.d && (noLst f.d && true)) = true
    rw [ex_noLst e, ex_noLst f]
    rfl
  | .assert k e => by
    show (noLst e.d && true) = true
    rw [ex_noLst e]
    rfl
  | .call v p es => by
    show (noLsts (es.map Ex.d) && true) = true
    rw [noLsts_map ex_noLst es]
    rfl
theorem en_noLst : ∀ r : En, noLst r.d = true
  | .go l => rfl
  | .ifs e l m => by
    show (noLst e.d && true) = true
    rw [ex_noLst e]
    rfl
  | .ret e => by
    show (noLst e.d && true) = true
    rw [ex_noLst e]
    rfl
theorem blk_noLst (b : Blk) : noLst b.d = true := by
  show (noLsts (b.body.map Rw.d) && (noLst b.en.d && true)) = true
  rw [noLsts_map rw_noLst, en_noLst]
  rfl
theorem eqv_nilL {ot : List Arr} : PyData.eqv (.list (ot.map arrD)) (.list []) = decide (ot = []) := by
  cases ot with
  | nil => rfl
  | cons a r => rfl
theorem oth_len {ot : List Oth} (h : okOth ot) : ot.length ≤ 2 := by
  rcases h with h | h | h | h <;> rw [h] <;> decide
theorem oth_par {ot : List Oth} (h : okOth ot) {a : Oth} (ha : a ∈ ot) : 0 ≤ a.2 ∧ a.2 ≤ 3 := by
  rcases h with h | h | h | h <;> rw [h] at ha
  · cases ha
  · rcases List.mem_singleton.mp ha with rfl
    decide
  · simp only [List.mem_cons, List.mem_nil_iff, or_false] at ha
    rcases ha with rfl | rfl <;> decide
  · simp only [List.mem_cons, List.mem_nil_iff, or_false] at ha
    rcases ha with rfl | rfl <;> decide
theorem shp_oth {ot : List Oth} (h : okOth ot) : SeqAt.shaped (.list (ot.map arrD)) = true := by
  rcases h with h | h | h | h <;> rw [h]
  · rfl
  · simp [SeqAt.shaped, arrD, PyData.canLay0, PyData.canLayAll0, PyData.depth, PyData.depthAll, show PyData.strOk "aid" = true by decide +kernel]
  · simp [SeqAt.shaped, arrD, PyData.canLay0, PyData.canLayAll0, PyData.depth, PyData.depthAll, show PyData.strOk "aid" = true by decide +kernel, show PyData.strOk "zig" = true by decide +kernel]
  · simp [SeqAt.shaped, arrD, PyData.canLay0, PyData.canLayAll0, PyData.depth, PyData.depthAll, show PyData.strOk "aid" = true by decide +kernel, show PyData.strOk "zig" = true by decide +kernel]
/-- an item (name, number) of a list or a tuple of such, taken apart -/
theorem arr_at {K : PySem.W.Frag} {H : Hp} {xs : List V} {ar : List Arr} {i : Int} (h : DpAll K H xs (ar.map arrD)) (i0 : 0 ≤ i) (i1 : i < (ar.length : Int)) :
    ∃ (t : Addr) (a : Arr), a ∈ ar ∧ atI xs i = some (.ref t) ∧ SqT K H t [.str a.1, .int a.2] := by
  have hlx : xs.length = ar.length := by rw [dpa_len h, List.length_map]
  obtain ⟨v, hv1, hv2, _⟩ := atI_in (xs := xs) i0 (by omega)
  obtain ⟨dd, hd1, hd2⟩ := dpa_get h hv2
  rw [List.getElem?_map] at hd1
  obtain ⟨az, haz, rfl⟩ : ∃ az, ar[i.toNat]? = some az ∧ arrD az = dd := by
    cases e : ar[i.toNat]? with
    | none =>
      rw [e] at hd1
      cases hd1
    | some az =>
      rw [e] at hd1
      exact ⟨az, rfl, Option.some.inj hd1⟩
  obtain ⟨t, us, rfl, ht, hts⟩ := dp_tup hd2
  cases hts with
  | cons h1 r1 =>
    cases r1 with
    | cons h2 r2 =>
      cases r2
      cases dp_str h1
      cases dp_int h2
      exact ⟨t, az, List.mem_of_getElem? haz, hv1, ht⟩
def spRow (K : PySem.W.Frag) : Sp := fun vs H Q _ => ∃ (d L dp : Addr) (n : Nat) (va vo : V) (ar : List Arr) (ot : List Oth), vs = [.ref dp, vo] ∧ DrawAt H d L ∧ PAt K H d dp n va ar ∧ Dp K (hide d H) vo (.list (ot.map arrD)) ∧ okOth ot ∧
  ∀ v r H', DrawAt H' d L → Same (hide d H) (hide d H') → Dp K (hide d H') v (Rw.d r) → okRw n ar ot r → Q v H'
section
variable {P : Program} {w : World} {K : PySem.W.Frag} {mg : Str → Option Value} {base : Heap} {f : Addr} {fd : FuncData}
theorem ok__law_row {j : Nat} (hj : 2 ≤ j) (T : Txt K mg) (D : Def K mg "_law_row" ["p", "others"] s__law_row f fd) (O1 : Own P w K mg base "_law_take" ["draw", "many"] 1 spTake)
    (O3 : Own P w K mg base "_law_variable" ["draw"] 2 spVariable) (O5 : Own P w K mg base "_law_expression" ["p", "depth"] j (spExpr K 3)) (O6 : Own P w K mg base "_law_index" ["p", "size", "depth"] j (spIndex K 3)) :
    Own P w K mg base "_law_row" ["p", "others"] (j + 1) (spRow K) := by
  obtain ⟨f_law_take, fd_law_take, m_law_take, k_law_take, b_law_take, G_law_take⟩ := O1
  obtain ⟨f_law_variable, fd_law_variable, m_law_variable, k_law_variable, b_law_variable, G_law_variable⟩ := O3
  obtain ⟨f_law_expression, fd_law_expression, m_law_expression, k_law_expression, b_law_expression, G_law_expression⟩ := O5
  obtain ⟨f_law_index, fd_law_index, m_law_index, k_law_index, b_law_index, G_law_index⟩ := O6
  refine ⟨f, fd, D.mg, D.fn.kp, D.bd, D.fn.ok sc__law_row (fun vs H Q E h => ?_) (fun cdv A outer s H vs Q E hr h => ?_)⟩
  · obtain ⟨d, L, dp, n, va, vo, ar, ot, rfl, _⟩ := h
    rfl
  · obtain ⟨d, L, dp, n, va, vo, ar, ot, rfl, hD, hP, hO, hot, q⟩ := h
    have hu := hu_of hr
    refine ⟨_, (pss_cons (ps_set (i := 2) sc__law_row.nd rfl (Or.inl rfl) (pe_dget hu (pv 0) pe_str (fun _ _ => rfl)))
      (pss_cons (ps_set (i := 3) sc__law_row.nd rfl (Or.inl rfl) (pe_call G_law_take (hr.mono (by omega)) rfl m_law_take k_law_take b_law_take .nil pass0 (pa_cons (pv 2) (pa_cons pe_int pa_nil))))
      (pss_cons (ps_if (pt_cmpR op_lt (pv 3) pe_int (nomark _)) (pss_one (ps_ret (pe_tup (pa_cons pe_str (pa_cons (pe_call G_law_variable (hr.mono (by omega)) rfl m_law_variable k_law_variable b_law_variable .nil pass0 (pa_cons (pv 2) pa_nil)) (pa_cons (pe_call G_law_expression (hr.mono (by omega)) rfl m_law_expression k_law_expression b_law_expression .nil pass0 (pa_cons (pv 0) (pa_cons pe_int pa_nil))) pa_nil)))))) pss_nil)
      (pss_cons (ps_if (pt_cmpR op_lt (pv 3) pe_int (nomark _)) (pss_one (ps_ret (pe_tup (pa_cons pe_str (pa_cons (pe_call G_law_variable (hr.mono (by omega)) rfl m_law_variable k_law_variable b_law_variable .nil pass0 (pa_cons (pv 2) pa_nil)) pa_nil))))) pss_nil)
      (pss_cons (ps_if (pt_cmpR op_lt (pv 3) pe_int (nomark _)) (pss_one (ps_ret (pe_tup (pa_cons pe_str (pa_cons (pe_call G_law_expression (hr.mono (by omega)) rfl m_law_expression k_law_expression b_law_expression .nil pass0 (pa_cons (pv 0) (pa_cons pe_int pa_nil))) pa_nil))))) pss_nil)
      (pss_cons (ps_if (pt_cut (PW.pt (pw_and (pt_cmpR op_eq (pv 3) pe_int (nomark _)) (pw_and1 (pt_cmpR (op_neD hr.units) (pe_dget hu (pv 0) pe_str (fun _ _ => rfl)) (pe_tup pa_nil) (nomark _)))))) (pss_cons (ps_asg (pe_ix ix_tup (pe_dget hu (pv 0) pe_str (fun _ _ => rfl)) (pe_call G_law_take (hr.mono (by omega)) rfl m_law_take k_law_take b_law_take .nil pass0 (pa_cons (pv 2) (pa_cons (pe_callB call_len_seq (by rfl) T.m_len (by decide +kernel) (pa_cons (pe_dget hu (pv 0) pe_str (fun _ _ => rfl)) pa_nil)) pa_nil))) (fun _ _ => rfl)) (pg_tup (by rfl) (pgs_cons (pg_name (i := 4) sc__law_row.nd rfl (Or.inl rfl)) (pgs_cons (pg_name (i := 5) sc__law_row.nd rfl (Or.inl rfl)) pgs_nil))))
      (pss_one (ps_ret (pe_tup (pa_cons pe_str (pa_cons (pv 4) (pa_cons (pe_call G_law_index (hr.mono (by omega)) rfl m_law_index k_law_index b_law_index .nil pass0 (pa_cons (pv 0) (pa_cons (pv 5) (pa_cons pe_int pa_nil)))) (pa_cons (pe_call G_law_expression (hr.mono (by omega)) rfl m_law_expression k_law_expression b_law_expression .nil pass0 (pa_cons (pv 0) (pa_cons pe_int pa_nil))) pa_nil)))))))) pss_nil)
      (pss_cons (ps_if (pt_cut (PW.pt (pw_and (pt_cmpR op_eq (pv 3) pe_int (nomark _)) (pw_and1 (pt_cmpR (op_neD hr.units) (pv 1) (pe_lst pa_nil) (nomark _)))))) (pss_cons (ps_asg (pe_ix ix_list (pv 1) (pe_call G_law_take (hr.mono (by omega)) rfl m_law_take k_law_take b_law_take .nil pass0 (pa_cons (pv 2) (pa_cons (pe_callB call_len_seq (by rfl) T.m_len (by decide +kernel) (pa_cons (pv 1) pa_nil)) pa_nil))) (fun _ _ => rfl)) (pg_tup (by rfl) (pgs_cons (pg_name (i := 4) sc__law_row.nd rfl (Or.inl rfl)) (pgs_cons (pg_name (i := 6) sc__law_row.nd rfl (Or.inl rfl)) pgs_nil))))
      (pss_one (ps_ret (pe_tup (pa_cons pe_str (pa_cons (pe_call G_law_variable (hr.mono (by omega)) rfl m_law_variable k_law_variable b_law_variable .nil pass0 (pa_cons (pv 2) pa_nil)) (pa_cons (pv 4) (pa_cons (pe_callTy call_tuple_of (by rfl) T.m_tuple (by decide +kernel) (pa_cons (pe_lc (own := [("j", 7)]) (g := gName 7) (tt := tYes) rfl sc__law_row.nd (pi_range1 (by rfl) T.m_range (pa_cons (pv 6) pa_nil)) (blkOk_by (N := N__law_row) (sc := defScope s__law_row) (own := [("j", 7)]) (by decide +kernel)) (fun _ _ _ _ _ => (pg_name (i := 7) sc__law_row.nd rfl (Or.inl rfl))) (fun _ _ _ _ _ => pts_nil) (fun _ _ _ _ _ => (pe_call G_law_expression (hr.mono (by omega)) rfl m_law_expression k_law_expression b_law_expression .nil pass0 (pa_cons (pv 0) (pa_cons pe_int pa_nil))))) pa_nil)) pa_nil)))))))) pss_nil)
      (pss_cons (ps_if (pt_cmpR op_eq (pv 3) pe_int (nomark _)) (pss_one (ps_ret (pe_tup (pa_cons pe_str (pa_cons (pe_call G_law_take (hr.mono (by omega)) rfl m_law_take k_law_take b_law_take .nil pass0 (pa_cons (pv 2) (pa_cons pe_int pa_nil))) (pa_cons (pe_call G_law_expression (hr.mono (by omega)) rfl m_law_expression k_law_expression b_law_expression .nil pass0 (pa_cons (pv 0) (pa_cons pe_int pa_nil))) pa_nil)))))) pss_nil)
      (pss_one (ps_ret (pe_tup (pa_cons pe_str (pa_cons (pe_call G_law_variable (hr.mono (by omega)) rfl m_law_variable k_law_variable b_law_variable .nil pass0 (pa_cons (pv 2) pa_nil)) (pa_cons (pe_call G_law_expression (hr.mono (by omega)) rfl m_law_expression k_law_expression b_law_expression .nil pass0 (pa_cons (pv 0) (pa_cons pe_int pa_nil))) pa_nil)))))))))))))), ?_⟩
    refine ⟨_, rfl, dp, _, rfl, hP.draw, ?_⟩
    refine ⟨_, rfl, d, L, 12, rfl, by decide, by decide, hD, fun k9 H1 k0 k1 hD1 s1 => ?_⟩
    have hP1 := hP.mono s1
    have hO1 := dp_mono s1 _ hO
    -- set
    refine ⟨_, rfl, _, _, rfl, rfl, _, rfl, ite2 (fun c => ?_) (fun c1 => ?_)⟩
    · refine ⟨_, rfl, d, L, rfl, hD1, fun v H2 v0 v1 hD2 s2 => ?_⟩
      refine ⟨_, rfl, d, L, dp, n, va, ar, 2, rfl, by decide, hD2, hP1.mono s2, fun x e H3 hD3 s3 hx he => ?_⟩
      refine ⟨by show 3 ≤ sizeLine; decide, fun p hp => ?_⟩
      exact q _ (.set v e) _ (hD3.new hp) (((s1.trans s2).trans s3).trans (hide_new hp _)) (dp_new hD3 hp (.cons (.str _) (.cons (.int _) (.cons hx .nil)))) ⟨⟨v0, v1⟩, he⟩
    -- take
    refine ⟨_, rfl, _, _, rfl, rfl, _, rfl, ite2 (fun c => ?_) (fun c2 => ?_)⟩
    · refine ⟨_, rfl, d, L, rfl, hD1, fun v H2 v0 v1 hD2 s2 => ?_⟩
      refine ⟨by show 2 ≤ sizeLine; decide, fun p hp => ?_⟩
      exact q _ (.take v) _ (hD2.new hp) ((s1.trans s2).trans (hide_new hp _)) (dp_new hD2 hp (.cons (.str _) (.cons (.int _) .nil))) ⟨v0, v1⟩
    -- put
    refine ⟨_, rfl, _, _, rfl, rfl, _, rfl, ite2 (fun c => ?_) (fun c3 => ?_)⟩
    · refine ⟨_, rfl, d, L, dp, n, va, ar, 1, rfl, by decide, hD1, hP1, fun x e H3 hD3 s3 hx he => ?_⟩
      refine ⟨by show 2 ≤ sizeLine; decide, fun p hp => ?_⟩
      exact q _ (.put e) _ (hD3.new hp) ((s1.trans s3).trans (hide_new hp _)) (dp_new hD3 hp (.cons (.str _) (.cons hx .nil))) (okEx_le (by decide) he)
    -- store
    refine ⟨fun b H' => DrawAt H' d L ∧ Same (hide d H1) (hide d H') ∧ (b = true → ar ≠ []), ?_, ?_⟩
    · refine ⟨_, rfl, rfl, _, rfl, ite2 (fun c => ?_) (fun c => ?_)⟩
      · refine ⟨_, rfl, dp, _, rfl, hP1.arrays, by show 0 ≤ sizeLine; decide, fun p hp => ?_⟩
        have g := dp_mono (hide_new hp (.tup [])) _ hP1.arr
        refine ⟨_, _, dp_mono hide_le _ g, .tup (SqT.of upd_same) .nil, shp_arr hP.ok, by rfl, _, rfl, ?_⟩
        rw [eqv_nil]
        refine ⟨hD1.new hp, hide_new hp _, fun e => ?_⟩
        simpa using e
      · exact ⟨hD1, Same.refl _, fun e => by cases e⟩
    rintro b H2 ⟨hD2, s2, hb⟩
    have hP2 := hP1.mono s2
    have hO2 := dp_mono s2 _ hO1
    have s02 := s1.trans s2
    refine ite2 (fun c => ?_) (fun c4 => ?_)
    · have hpos : 0 < ar.length := List.length_pos_iff.mpr (hb c)
      have hl3 := ar_len hP.ok
      obtain ⟨aA, xs, rfl, hA, hAs⟩ := dp_tup hP2.arr
      have hlx : xs.length = ar.length := by rw [dpa_len hAs, List.length_map]
      refine ⟨_, rfl, dp, _, rfl, hP2.arrays, _, rfl, _, rfl, dp, _, rfl, hP2.arrays, aA, _, rfl, .inr (sqt_mono hide_le hA), d, L, _, rfl, by omega, by omega, hD2, fun i H3 i0 i1 hD3 s3 => ?_⟩
      obtain ⟨t, az, hmem, hat, ht⟩ := arr_at hAs i0 (by omega)
      have hz := hP.ok.size az hmem
      have hP3 := hP2.mono s3
      refine ⟨aA, _, _, _, rfl, rfl, sqt_mono (s3.trans hide_le) hA, hat, t, _, rfl, sqt_mono (s3.trans hide_le) ht, rfl, _, _, rfl, _, _, rfl, rfl, ?_⟩
      refine ⟨_, rfl, _, rfl, _, rfl, d, L, dp, n, _, ar, az.2, 1, rfl, by decide, hz.1, hz.2, hD3, hP3, fun v e H4 hD4 s4 hv he => ?_⟩
      refine ⟨_, rfl, d, L, dp, n, _, ar, 1, rfl, by decide, hD4, hP3.mono s4, fun v2 e2 H5 hD5 s5 hv2 he2 => ?_⟩
      refine ⟨by show 4 ≤ sizeLine; decide, fun p hp => ?_⟩
      exact q _ (.store az.1 e e2) _ (hD5.new hp) ((((s02.trans s3).trans s4).trans s5).trans (hide_new hp _)) (dp_new hD5 hp (.cons (.str _) (.cons (.str _) (.cons (dp_mono s5 _ hv) (.cons hv2 .nil))))) ⟨⟨az.2, hmem⟩, okEx_le (by decide) he, okEx_le (by decide) he2⟩
    -- call
    refine ⟨fun b H' => DrawAt H' d L ∧ Same (hide d H2) (hide d H') ∧ (b = true → ot ≠ []), ?_, ?_⟩
    · refine ⟨_, rfl, rfl, _, rfl, ite2 (fun c => ?_) (fun c => ?_)⟩
      · refine ⟨_, rfl, by show 0 ≤ sizeLine; decide, fun p hp => ?_⟩
        have g := dp_mono (hide_new hp (.lst [])) _ hO2
        refine ⟨_, _, dp_mono hide_le _ g, .lst (SqL.of upd_same) .nil, shp_oth hot, by rfl, _, rfl, ?_⟩
        rw [eqv_nilL]
        refine ⟨hD2.new hp, hide_new hp _, fun e => ?_⟩
        simpa using e
      · exact ⟨hD2, Same.refl _, fun e => by cases e⟩
    rintro b2 H3 ⟨hD3, s3, hb2⟩
    have hP3 := hP2.mono s3
    have hO3 := dp_mono s3 _ hO2
    have s03 := s02.trans s3
    refine ite2 (fun c => ?_) (fun c5 => ?_)
    · have hpos : 0 < ot.length := List.length_pos_iff.mpr (hb2 c)
      have hl3 := oth_len hot
      obtain ⟨aO, xs, rfl, hA, hAs⟩ := dp_lst hO3
      have hlx : xs.length = ot.length := by rw [dpa_len hAs, List.length_map]
      refine ⟨_, rfl, _, rfl, _, rfl, aO, _, rfl, .inl (sql_mono hide_le hA), d, L, _, rfl, by omega, by omega, hD3, fun i H4 i0 i1 hD4 s4 => ?_⟩
      obtain ⟨t, az, hmem, hat, ht⟩ := arr_at hAs i0 (by omega)
      have hz := oth_par hot hmem
      have hP4 := hP3.mono s4
      refine ⟨aO, _, _, _, rfl, rfl, sql_mono (s4.trans hide_le) hA, hat, t, _, rfl, sqt_mono (s4.trans hide_le) ht, rfl, _, _, rfl, _, _, rfl, rfl, ?_⟩
      refine ⟨_, rfl, d, L, rfl, hD4, fun v H5 v0 v1 hD5 s5 => ?_⟩
      have hP5 := hP4.mono s5
      -- tuple([.. for j in range(params)])
      refine ⟨_, rfl, _, rfl, az.2, rfl, by omega, by omega, fun D hDn => lc_range (lo := 0) (n := az.2.toNat) (fun i H' => ∃ (es : List Ex) (us : List V), Grows K H5 H' d L D us (es.map Ex.d) ∧ es.length = i ∧ (∀ e, e ∈ es → okEx n ar 5 e) ∧ i ≤ 3)
        ⟨[], [], Grows.start hD5 hDn, rfl, (fun e he => by cases he), by omega⟩ ?_ ?_⟩
      · rintro i H' hi ⟨es, us, g, hl, hes, hi3⟩
        refine ⟨rfl, yes2 ?_⟩
        refine ⟨_, rfl, d, L, dp, n, va, ar, 1, rfl, by decide, g.dr, hP5.mono g.old, fun x e H6 hD6 s6 hx he => ?_⟩
        have g6 := g.step hD6 s6
        have hul : us.length = i := by rw [dpa_len g.all, List.length_map, hl]
        refine ⟨us, g6.at_, small1000 (by omega), es ++ [e], us ++ [x], ?_, by rw [List.length_append, hl]; rfl, ?_, by omega⟩
        · rw [List.map_append]
          exact g6.push (ex_noLst e) hx
        · intro z hz
          rcases List.mem_append.mp hz with hz | hz
          · exact hes z hz
          · rw [List.mem_singleton.mp hz]
            exact okEx_le (by decide) he
      · rintro H' ⟨es, us, g, hl, hes, _⟩
        have hul : us.length = az.2.toNat := by rw [dpa_len g.all, List.length_map, hl]
        refine ⟨D, _, rfl, .inl ⟨SqL.of g.at_, fun t2 ht2 => ?_⟩⟩
        have gd := dp_new (K := K) g.dr ht2 g.data
        refine ⟨by show 4 ≤ sizeLine; decide, fun p hp => ?_⟩
        refine q _ (.call v az.1 es) _ ((g.dr.new ht2).new hp) (((((s03.trans s4).trans s5).trans g.old).trans (hide_new ht2 _)).trans (hide_new hp _)) (dp_new (g.dr.new ht2) hp (.cons (.str _) (.cons (.int _) (.cons (.str _) (.cons gd .nil))))) ⟨⟨v0, v1⟩, ?_, hes⟩
        have e : ((es.length : Nat) : Int) = az.2 := by omega
        rw [e]
        exact hmem
    -- assert
    refine ⟨_, rfl, rfl, _, rfl, ite2 (fun c => ?_) (fun c6 => ?_)⟩
    · refine ⟨_, rfl, d, L, 4, rfl, by decide, by decide, hD3, fun v H4 v0 v1 hD4 s4 => ?_⟩
      refine ⟨_, rfl, d, L, dp, n, va, ar, 2, rfl, by decide, hD4, hP3.mono s4, fun x e H5 hD5 s5 hx he => ?_⟩
      refine ⟨by show 3 ≤ sizeLine; decide, fun p hp => ?_⟩
      exact q _ (.assert v e) _ (hD5.new hp) (((s03.trans s4).trans s5).trans (hide_new hp _)) (dp_new hD5 hp (.cons (.str _) (.cons (.int _) (.cons hx .nil)))) ⟨⟨v0, by omega⟩, he⟩
    · refine ⟨_, rfl, d, L, rfl, hD3, fun v H4 v0 v1 hD4 s4 => ?_⟩
      refine ⟨_, rfl, d, L, dp, n, va, ar, 1, rfl, by decide, hD4, hP3.mono s4, fun x e H5 hD5 s5 hx he => ?_⟩
      refine ⟨by show 3 ≤ sizeLine; decide, fun p hp => ?_⟩
      exact q _ (.set v e) _ (hD5.new hp) (((s03.trans s4).trans s5).trans (hide_new hp _)) (dp_new hD5 hp (.cons (.str _) (.cons (.int _) (.cons hx .nil)))) ⟨⟨v0, v1⟩, okEx_le (by decide) he⟩
end
end My

set_option Elab.async false
set_option maxRecDepth 100000
set_option maxHeartbeats 4000000
set_option linter.all false
namespace My
open PySem L2 Prg
open C8 (pss_cut)
/-- the labels that the law draws -/
def labs (g : Int) (m : Nat) : List Int := (List.range m).map fun (i : Nat) => (5 + g * (i : Int)) % 17
theorem labs_len (g : Int) (m : Nat) : (labs g m).length = m := by rw [labs, List.length_map, List.length_range]
theorem labs_succ (g : Int) (m : Nat) : labs g (m + 1) = labs g m ++ [(5 + g * (m : Int)) % 17] := by rw [labs, List.range_succ, List.map_append]; rfl
theorem labs_mem {g : Int} {m : Nat} {z : Int} (h : z ∈ labs g m) : 0 ≤ z ∧ z ≤ 16 := by
  obtain ⟨i, _, rfl⟩ := List.mem_map.mp h
  omega
theorem labs_nd {g : Int} (g1 : 1 ≤ g) (g3 : g ≤ 3) {m : Nat} (hm : m ≤ 6) : (labs g m).Nodup := by
  have hg : g = 1 ∨ g = 2 ∨ g = 3 := by omega
  have hm' : m = 0 ∨ m = 1 ∨ m = 2 ∨ m = 3 ∨ m = 4 ∨ m = 5 ∨ m = 6 := by omega
  rcases hg with h | h | h <;> rcases hm' with e | e | e | e | e | e | e <;> subst h e <;> decide +kernel
theorem labs_take (g : Int) {i m : Nat} (h : i ≤ m) : (labs g m).take i = labs g i := by
  rw [labs, ← List.map_take, List.take_range, Nat.min_eq_left h]
  rfl
theorem cut_from (xs : List V) (k : Nat) : cutV xs (some (k : Int)) none = xs.drop k := by
  unfold cutV
  rw [HT.sIx_nat, HT.sIx_none]
  by_cases h : k ≤ xs.length
  · rw [Nat.min_eq_left h, List.take_of_length_le (by rw [List.length_drop]; exact Nat.le_refl _)]
  · rw [Nat.min_eq_right (by omega), List.drop_eq_nil_of_le (as := xs) (i := xs.length) (Nat.le_refl _), List.drop_eq_nil_of_le (by omega), List.take_nil]
theorem cut_ints (ns : List Int) (k : Nat) : cutV (ns.map V.int) (some (k : Int)) none = (ns.drop k).map V.int := by rw [cut_from, List.map_drop]
theorem can_ints : ∀ ns : List Int, PyData.canLayAll0 (ns.map .int) = true
  | [] => rfl
  | n :: ns => by
    show (true && PyData.canLayAll0 (ns.map .int)) = true
    rw [can_ints ns]
    rfl
theorem dep_ints : ∀ ns : List Int, PyData.depthAll (ns.map .int) = 0
  | [] => rfl
  | n :: ns => by
    show max 0 (PyData.depthAll (ns.map .int)) = 0
    rw [dep_ints ns]
    rfl
theorem shp_ints (ns : List Int) : SeqAt.shaped (.list (ns.map .int)) = true := by
  show (PyData.canLayAll0 (ns.map .int) && decide (PyData.depthAll (ns.map .int) + 1 ≤ 64)) = true
  rw [can_ints, dep_ints]
  rfl
theorem eqv_ints (ns : List Int) : PyData.eqv (.list (ns.map .int)) (.list []) = decide (ns = []) := by
  cases ns with
  | nil => rfl
  | cons a r => rfl
theorem dp_ints {K : PySem.W.Frag} {H : Hp} (ns : List Int) : DpAll K H (ns.map V.int) (ns.map PyData.int) := dpa_map V.int PyData.int (fun i => .int i) ns
/-- an int of a list at a place in bounds -/
theorem int_at {ns : List Int} {k : Int} (h0 : 0 ≤ k) (h : k < (ns.length : Int)) : ∃ z : Int, z ∈ ns ∧ atI (ns.map V.int) k = some (.int z) := atI_get h0 h
def okBs (n : Nat) (ar : List Arr) (ot : List Oth) (m : Nat) (ls : List Int) (b : Blk) : Prop :=
  (∀ r, r ∈ b.body → okRw n ar ot r) ∧ b.body.length ≤ m ∧ okEn n ar b.en ∧ ∀ l, l ∈ b.en.to → l ∈ ls.drop 1
/-- the blocks of a procedure, as the law draws them -/
def okDrawn (n : Nat) (ar : List Arr) (ot : List Oth) (bm m : Nat) (bs : List Blk) : Prop :=
  ∃ (g : Int) (k : Nat), 1 ≤ g ∧ g ≤ 3 ∧ 1 ≤ k ∧ k ≤ 6 ∧ k ≤ bm ∧ bs.map Blk.label = labs g k ∧ ∀ b, b ∈ bs → okBs n ar ot m (labs g k) b
def spBlocks (K : PySem.W.Frag) : Sp := fun vs H Q _ => ∃ (d L dp : Addr) (n : Nat) (va vo : V) (ar : List Arr) (ot : List Oth) (bl m : Nat), vs = [.ref dp, vo, .int bl, .int m] ∧ 1 ≤ bl ∧ bl ≤ 6 ∧ m ≤ 10 ∧ DrawAt H d L ∧ PAt K H d dp n va ar ∧ Dp K (hide d H) vo (.list (ot.map arrD)) ∧ okOth ot ∧
  ∀ v bs H', DrawAt H' d L → Same (hide d H) (hide d H') → Dp K (hide d H') v (.tuple (bs.map Blk.d)) → okDrawn n ar ot bl m bs → Q v H'
section
variable {P : Program} {w : World} {K : PySem.W.Frag} {mg : Str → Option Value} {base : Heap} {f : Addr} {fd : FuncData}
theorem ok__law_blocks {j : Nat} (hj : 2 ≤ j) (T : Txt K mg) (D : Def K mg "_law_blocks" ["p", "others", "blocks", "rows"] s__law_blocks f fd) (O1 : Own P w K mg base "_law_take" ["draw", "many"] 1 spTake)
    (O5 : Own P w K mg base "_law_expression" ["p", "depth"] j (spExpr K 3)) (O6 : Own P w K mg base "_law_row" ["p", "others"] j (spRow K)) :
    Own P w K mg base "_law_blocks" ["p", "others", "blocks", "rows"] (j + 1) (spBlocks K) := by
  obtain ⟨f_law_take, fd_law_take, m_law_take, k_law_take, b_law_take, G_law_take⟩ := O1
  obtain ⟨f_law_expression, fd_law_expression, m_law_expression, k_law_expression, b_law_expression, G_law_expression⟩ := O5
  obtain ⟨f_law_row, fd_law_row, m_law_row, k_law_row, b_law_row, G_law_row⟩ := O6
  refine ⟨f, fd, D.mg, D.fn.kp, D.bd, D.fn.ok sc__law_blocks (fun vs H Q E h => ?_) (fun cdv A outer s H vs Q E hr h => ?_)⟩
  · obtain ⟨d, L, dp, n, va, vo, ar, ot, bl, m, rfl, _⟩ := h
    rfl
  · obtain ⟨d, L, dp, n, va, vo, ar, ot, bl, m, rfl, bl1, bl6, m10, hD, hP, hO, hot, q⟩ := h
    have hu := hu_of hr
    refine ⟨_, (pss_cons (ps_set (i := 4) sc__law_blocks.nd rfl (Or.inl rfl) (pe_dget hu (pv 0) pe_str (fun _ _ => rfl)))
      (pss_cons (ps_set (i := 5) sc__law_blocks.nd rfl (Or.inr rfl) (pe_op op_add pe_int (pe_call G_law_take (hr.mono (by omega)) rfl m_law_take k_law_take b_law_take .nil pass0 (pa_cons (pv 4) (pa_cons pe_int pa_nil)))))
      (pss_cons (ps_setLc (i := 6) (own := [("k", 15)]) (g := gName 15) (tt := tYes) rfl sc__law_blocks.nd rfl rfl (sw_true rfl rfl rfl (by decide +kernel)) (pi_range1 (by rfl) T.m_range (pa_cons (pe_op op_add pe_int (pe_call G_law_take (hr.mono (by omega)) rfl m_law_take k_law_take b_law_take .nil pass0 (pa_cons (pv 4) (pa_cons (pv 2) pa_nil)))) pa_nil)) (blkOk_by (N := N__law_blocks) (sc := defScope s__law_blocks) (own := [("k", 15)]) (by decide +kernel)) (fun _ _ _ _ _ => (pg_name (i := 15) sc__law_blocks.nd rfl (Or.inl rfl))) (fun _ _ _ _ _ => pts_nil) (fun _ _ _ _ _ => (pe_op op_mod (pe_callTy call_int1 (by rfl) T.m_int (by decide +kernel) (pa_cons (pe_op op_add pe_int (pe_op op_mul (pv 5) (pv 15))) pa_nil)) pe_int)))
      (pss_cons (ps_set (i := 7) sc__law_blocks.nd rfl (Or.inl rfl) (pe_lst pa_nil))
      (pss_cons (ps_for PassesOwn.never rfl (pi_range1 (by rfl) T.m_range (pa_cons (pe_callB call_len_seq (by rfl) T.m_len (by decide +kernel) (pa_cons (pv 6) pa_nil)) pa_nil)) (pg_name (i := 15) sc__law_blocks.nd rfl (Or.inl rfl)) (pss_cons (ps_set (i := 8) sc__law_blocks.nd rfl (Or.inl rfl) (pe_callTy call_tuple_of (by rfl) T.m_tuple (by decide +kernel) (pa_cons (pe_lc (own := [("j", 16)]) (g := gName 16) (tt := tYes) rfl sc__law_blocks.nd (pi_range1 (by rfl) T.m_range (pa_cons (pe_call G_law_take (hr.mono (by omega)) rfl m_law_take k_law_take b_law_take .nil pass0 (pa_cons (pv 4) (pa_cons (pe_op op_add (pv 3) pe_int) pa_nil))) pa_nil)) (blkOk_by (N := N__law_blocks) (sc := defScope s__law_blocks) (own := [("j", 16)]) (by decide +kernel)) (fun _ _ _ _ _ => (pg_name (i := 16) sc__law_blocks.nd rfl (Or.inl rfl))) (fun _ _ _ _ _ => pts_nil) (fun _ _ _ _ _ => (pe_call G_law_row (hr.mono (by omega)) rfl m_law_row k_law_row b_law_row .nil pass0 (pa_cons (pv 0) (pa_cons (pv 1) pa_nil))))) pa_nil)))
      (pss_cons (ps_set (i := 9) sc__law_blocks.nd rfl (Or.inl rfl) (pe_slice sl_list (pv 6) (po_some pe_int) po_none))
      (pss_cons (ps_set (i := 10) sc__law_blocks.nd rfl (Or.inl rfl) (pe_call G_law_take (hr.mono (by omega)) rfl m_law_take k_law_take b_law_take .nil pass0 (pa_cons (pv 4) (pa_cons pe_int pa_nil))))
      (pss_cut (ps_if (pt_cut (PW.pt (pw_or (pt_cmpR (op_eqD hr.units) (pv 9) (pe_lst pa_nil) (nomark _)) (pw_or1 (pt_cmpR op_eq (pv 10) pe_int (nomark _)))))) (pss_one (ps_set (i := 11) sc__law_blocks.nd rfl (Or.inl rfl) (pe_tup (pa_cons pe_str (pa_cons (pe_call G_law_expression (hr.mono (by omega)) rfl m_law_expression k_law_expression b_law_expression .nil pass0 (pa_cons (pv 0) (pa_cons pe_int pa_nil))) pa_nil))))) (pss_cons (ps_set (i := 12) sc__law_blocks.nd rfl (Or.inl rfl) (pe_cut (pe_ifExp (pt_cmpR (op_neD hr.units) (pe_slice sl_list (pv 6) (po_some (pe_op op_add (pv 15) pe_int)) po_none) (pe_lst pa_nil) (nomark _)) (pe_slice sl_list (pv 6) (po_some (pe_op op_add (pv 15) pe_int)) po_none) (pv 9))))
      (pss_cons (ps_set (i := 13) sc__law_blocks.nd rfl (Or.inl rfl) (pe_ix ix_list (pv 12) (pe_call G_law_take (hr.mono (by omega)) rfl m_law_take k_law_take b_law_take .nil pass0 (pa_cons (pv 4) (pa_cons (pe_callB call_len_seq (by rfl) T.m_len (by decide +kernel) (pa_cons (pv 12) pa_nil)) pa_nil))) (fun _ _ => rfl)))
      (pss_cons (ps_set (i := 14) sc__law_blocks.nd rfl (Or.inl rfl) (pe_ix ix_list (pv 9) (pe_call G_law_take (hr.mono (by omega)) rfl m_law_take k_law_take b_law_take .nil pass0 (pa_cons (pv 4) (pa_cons (pe_callB call_len_seq (by rfl) T.m_len (by decide +kernel) (pa_cons (pv 9) pa_nil)) pa_nil))) (fun _ _ => rfl)))
      (pss_one (ps_set (i := 11) sc__law_blocks.nd rfl (Or.inl rfl) (pe_cut (pe_ifExp (pt_cmpR op_eq (pv 10) pe_int (nomark _)) (pe_tup (pa_cons pe_str (pa_cons (pv 13) pa_nil))) (pe_tup (pa_cons pe_str (pa_cons (pe_call G_law_expression (hr.mono (by omega)) rfl m_law_expression k_law_expression b_law_expression .nil pass0 (pa_cons (pv 0) (pa_cons pe_int pa_nil))) (pa_cons (pv 13) (pa_cons (pv 14) pa_nil)))))))))))))
      (pss_one (ps_expr (pe_bm PySem.F.plainAttrs_list PySem.F.slot_list_append PySem.F.type_list_append mt_append (pv 7) (pa_cons (pe_tup (pa_cons (pe_ix ix_list (pv 6) (pv 15) (fun _ _ => rfl)) (pa_cons (pv 8) (pa_cons (pv 11) pa_nil)))) pa_nil)))))))))
      (pss_one (ps_ret (pe_callTy call_tuple_of (by rfl) T.m_tuple (by decide +kernel) (pa_cons (pv 7) pa_nil))))))))), ?_⟩
    refine ⟨_, rfl, dp, _, rfl, hP.draw, ?_⟩
    -- gap
    refine ⟨_, rfl, d, L, 3, rfl, by decide, by decide, hD, fun g0 H1 g00 g01 hD1 s1 => ?_⟩
    refine ⟨_, _, rfl, rfl, ?_⟩
    obtain ⟨g, hg⟩ : ∃ g : Int, 1 + g0 = g := ⟨_, rfl⟩
    have g1 : 1 ≤ g := by omega
    have g3 : g ≤ 3 := by omega
    show gName 5 (V.int (1 + g0)) _ _ _
    rw [hg]
    -- labels
    refine ⟨_, rfl, _, rfl, d, L, bl, rfl, by omega, by omega, hD1, fun k0 H2 k00 k01 hD2 s2 => ?_⟩
    obtain ⟨k, hk⟩ : ∃ k : Nat, 1 + k0 = (k : Int) := ⟨(1 + k0).toNat, by omega⟩
    have k1 : 1 ≤ k := by omega
    have k6 : k ≤ 6 := by omega
    have kb : k ≤ bl := by omega
    refine ⟨_, _, rfl, rfl, (k : Int), by show [V.int (1 + k0)] = _; rw [hk], by omega, by omega, fun Dl hDl => lc_range (lo := 0) (n := k) (fun i H' => Grows K H2 H' d L Dl ((labs g i).map V.int) ((labs g i).map PyData.int) ∧ i ≤ k)
      ⟨Grows.start hD2 hDl, Nat.zero_le _⟩ ?_ ?_⟩
    · rintro i H' hi ⟨gr, _⟩
      rw [Int.zero_add]
      refine ⟨rfl, yes2 ?_⟩
      refine ⟨_, rfl, _, rfl, _, _, rfl, rfl, .inl ⟨by omega, by omega⟩, _, _, rfl, rfl, .inl ⟨_, rfl, _, _, rfl, rfl, (by show (0 : Int) < 17; decide), ?_⟩⟩
      refine ⟨_, gr.at_, by rw [List.length_map, labs_len]; exact small1000 (by omega), ?_, by omega⟩
      rw [labs_succ, List.map_append, List.map_append]
      exact gr.push rfl (.int _)
    rintro H3 ⟨gr, _⟩
    have hD3 := gr.dr
    have s3 := gr.old
    have hL3 := hide_in gr.at_ gr.nd.symm
    -- found = []
    refine ⟨Nat.zero_le _, fun F hF => ?_⟩
    have hls : (labs g k).length = k := labs_len g k
    have hP3 := ((hP.mono s1).mono s2).mono s3
    have hO3 := dp_mono ((s1.trans s2).trans s3) _ hO
    -- for k in range(len(labels))
    refine ⟨_, rfl, Dl, _, rfl, .inl (SqL.of (same_new hF _ _ _ gr.at_)), (k : Int), by rw [List.length_map, hls], by omega, by omega,
      for_range (lo := 0) (n := k) (fun i σ' H' => ∃ (bs : List Blk) (us : List V) (v8 v9 v10 v11 v12 v13 v14 v15 : Option V), σ' = [some (.ref dp), some vo, some (.int bl), some (.int m), some (.ref d), some (.int g), some (.ref Dl), some (.ref F), v8, v9, v10, v11, v12, v13, v14, v15, none] ∧
        Grows K H3 H' d L F us (bs.map Blk.d) ∧ bs.map Blk.label = labs g i ∧ (∀ b, b ∈ bs → okBs n ar ot m (labs g k) b) ∧ i ≤ k)
        ⟨[], [], none, none, none, none, none, none, none, none, rfl, Grows.start hD3 hF, rfl, (fun b hb => by cases hb), Nat.zero_le _⟩ ?_ ?_⟩
    · rintro i σ' H4 hi ⟨bs, us, v8, v9, v10, v11, v12, v13, v14, v15, rfl, gf, hbl, hbs, _⟩
      rw [Int.zero_add]
      have hP4 := hP3.mono gf.old
      have hO4 := dp_mono gf.old _ hO3
      -- body
      refine ⟨_, rfl, _, rfl, _, _, rfl, rfl, d, L, _, rfl, by omega, by omega, gf.dr, fun c0 H5 c00 c01 hD5 s5 => ?_⟩
      obtain ⟨c, rfl⟩ : ∃ c : Nat, c0 = (c : Int) := ⟨c0.toNat, by omega⟩
      have gf5 := gf.step hD5 s5
      have hP5 := hP4.mono s5
      have hO5 := dp_mono s5 _ hO4
      refine ⟨(c : Int), rfl, by omega, by omega, fun B hB => lc_range (lo := 0) (n := c) (fun i2 H' => ∃ (rs : List Rw) (us2 : List V), Grows K H5 H' d L B us2 (rs.map Rw.d) ∧ rs.length = i2 ∧ (∀ r, r ∈ rs → okRw n ar ot r) ∧ i2 ≤ m)
        ⟨[], [], Grows.start hD5 hB, rfl, (fun e he => by cases he), Nat.zero_le _⟩ ?_ ?_⟩
      · rintro i2 H' hi2 ⟨rs, us2, g2, hl2, hrs, _⟩
        refine ⟨rfl, yes2 ?_⟩
        refine ⟨_, rfl, _, rfl, d, L, dp, n, va, vo, ar, ot, rfl, g2.dr, hP5.mono g2.old, dp_mono g2.old _ hO5, hot, fun x r H6 hD6 s6 hx hrok => ?_⟩
        have g6 := g2.step hD6 s6
        have hul : us2.length = i2 := by rw [dpa_len g2.all, List.length_map, hl2]
        refine ⟨us2, g6.at_, small1000 (by omega), rs ++ [r], us2 ++ [x], ?_, by rw [List.length_append, hl2]; rfl, ?_, by omega⟩
        · rw [List.map_append]
          exact g6.push (rw_noLst r) hx
        · intro z hz
          rcases List.mem_append.mp hz with hz | hz
          · exact hrs z hz
          · rw [List.mem_singleton.mp hz]
            exact hrok
      rintro H6 ⟨rs, us2, g6, hl2, hrs, hcm⟩
      have hul : us2.length = c := by rw [dpa_len g6.all, List.length_map, hl2]
      refine ⟨B, _, rfl, .inl ⟨SqL.of g6.at_, fun t ht => ?_⟩⟩
      have gfb := (gf5.step g6.dr g6.old).step (g6.dr.new ht) (hide_new ht (.tup us2))
      have hbody := dp_new (K := K) g6.dr ht g6.data
      have hP6 := hP5.mono (g6.old.trans (hide_new ht (.tup us2)))
      generalize hH7 : upd H6 t (.tup us2) = H7 at gfb hbody hP6
      -- rest = labels[1:]
      have hL7 := hide_le _ _ (gfb.old _ _ hL3)
      refine ⟨_, rfl, 1, rfl, Dl, _, rfl, SqL.of hL7, fun R hR => ?_⟩
      rw [show cutV ((labs g k).map V.int) (some 1) none = ((labs g k).drop 1).map V.int from cut_ints _ 1]
      have gfr := gfb.step (gfb.dr.new hR) (hide_new hR (.lst (((labs g k).drop 1).map V.int)))
      have hR8 := gfb.dr.in (o := .lst (((labs g k).drop 1).map V.int)) hR
      have hbody8 := dp_mono (hide_new hR (.lst (((labs g k).drop 1).map V.int))) _ hbody
      have hP8 := hP6.mono (hide_new hR (.lst (((labs g k).drop 1).map V.int)))
      generalize hH8 : upd H7 R (.lst (((labs g k).drop 1).map V.int)) = H8 at gfr hR8 hbody8 hP8
      have hL8 := gfr.old _ _ hL3
      -- kind
      refine ⟨_, rfl, d, L, 5, rfl, by decide, by decide, gfr.dr, fun kd H9 kd0 kd1 hD9 s9 => ?_⟩
      have gf9 := gfr.step hD9 s9
      have hR9 := s9 _ _ hR8
      have hL9 := s9 _ _ hL8
      have hbody9 := dp_mono s9 _ hbody8
      have hP9 := hP8.mono s9
      -- the end
      refine ⟨fun σ' H' => ∃ (v12 v13 v14 : Option V) (en : En) (ve : V), σ' = [some (.ref dp), some vo, some (.int bl), some (.int m), some (.ref d), some (.int g), some (.ref Dl), some (.ref F), some (.ref t), some (.ref R), some (.int kd), some ve, v12, v13, v14, some (.int i), none] ∧ DrawAt H' d L ∧ Same (hide d H9) (hide d H') ∧ Dp K (hide d H') ve en.d ∧ okEn n ar en ∧ ∀ l, l ∈ en.to → l ∈ (labs g k).drop 1, ?_, ?_⟩
      · refine ⟨fun b H' => DrawAt H' d L ∧ Same (hide d H9) (hide d H') ∧ (b = false → (labs g k).drop 1 ≠ []), ?_, ?_⟩
        · refine ⟨_, rfl, Nat.zero_le _, fun p hp => ?_⟩
          have g := (same_new hp (.lst [])) _ _ (hide_le _ _ hR9)
          refine ⟨.list (((labs _ k).drop 1).map .int), .list [], .lst (SqL.of g) (dp_ints _), .lst (SqL.of upd_same) .nil, shp_ints _, by rfl, _, rfl, ?_⟩
          rw [eqv_ints]
          refine ite2 (fun c => ?_) (fun c => ?_)
          · exact ⟨hD9.new hp, hide_new hp _, fun e => by cases e⟩
          · refine ⟨_, rfl, rfl, _, rfl, ?_⟩
            refine ⟨hD9.new hp, hide_new hp _, fun _ => ?_⟩
            simpa using c
        rintro b H10 ⟨hD10, s10, hb⟩
        have hP10 := hP9.mono s10
        refine ite2 (fun c => ?_) (fun c => ?_)
        · refine ⟨_, rfl, d, L, dp, n, va, ar, 1, rfl, by decide, hD10, hP10, fun x e H11 hD11 s11 hx he => ?_⟩
          refine ⟨by show 2 ≤ sizeLine; decide, fun p hp => ?_⟩
          exact ⟨v12, v13, v14, .ret e, .ref p, rfl, hD11.new hp, (s10.trans s11).trans (hide_new hp _), dp_new hD11 hp (.cons (.str _) (.cons hx .nil)), okEx_le (by decide) he, fun l hl => by cases hl⟩
        · have hne := hb (Bool.eq_false_iff.mpr c)
          have hpos : 0 < ((labs g k).drop 1).length := List.length_pos_iff.mpr hne
          have hlen1 : ((labs g k).drop 1).length = k - 1 := by rw [List.length_drop, hls]
          -- onward
          have hL10 := hide_le _ _ (s10 _ _ hL9)
          have hR10 := s10 _ _ hR9
          refine ⟨fun v H' => ∃ (O : Addr) (os : List Int), v = .ref O ∧ DrawAt H' d L ∧ Same (hide d H10) (hide d H') ∧ hide d H' O = some (.lst (os.map V.int)) ∧ 0 < os.length ∧ os.length ≤ 6 ∧ ∀ l, l ∈ os → l ∈ (labs g k).drop 1, ?_, ?_⟩
          · refine ⟨_, rfl, _, rfl, _, _, rfl, rfl, (i : Int) + 1, rfl, Dl, _, rfl, SqL.of hL10, fun p hp => ?_⟩
            have ei : ((i : Int) + 1) = ((i + 1 : Nat) : Int) := by omega
            rw [ei, cut_ints]
            refine ⟨Nat.zero_le _, fun p2 hp2 => ?_⟩
            have n12 : p ≠ p2 := fun e => by rw [e] at hp2; rw [← e, upd_same] at hp2; cases hp2
            refine ⟨.list (((labs g k).drop (i + 1)).map .int), .list [], .lst (SqL.of (by rw [upd_ne n12]; exact upd_same)) (dp_ints _), .lst (SqL.of upd_same) .nil, shp_ints _, by rfl, _, rfl, ?_⟩
            rw [eqv_ints]
            have hD12 := (hD10.new (o := .lst (((labs g k).drop (i + 1)).map V.int)) hp).new (o := .lst []) hp2
            have s12 := (hide_new (d := d) hp (.lst (((labs g k).drop (i + 1)).map V.int))).trans (hide_new (d := d) hp2 (.lst []))
            generalize hH12 : upd (upd H10 p (.lst (((labs g k).drop (i + 1)).map V.int))) p2 (.lst []) = H12 at hD12 s12
            refine ite2 (fun c => ?_) (fun c => ?_)
            · have hne2 : (labs g k).drop (i + 1) ≠ [] := by simpa using c
              refine ⟨_, rfl, _, rfl, _, _, rfl, rfl, (i : Int) + 1, rfl, Dl, _, rfl, SqL.of (hide_le _ _ (s12 _ _ (hide_in hL10 (fun e => gr.nd e.symm)))), fun p3 hp3 => ?_⟩
              rw [ei, cut_ints]
              refine ⟨p3, (labs g k).drop (i + 1), rfl, hD12.new hp3, s12.trans (hide_new hp3 _), hD12.in hp3, List.length_pos_iff.mpr hne2, by rw [List.length_drop, hls]; omega, fun l hl => ?_⟩
              have e1 : (labs g k).drop (i + 1) = ((labs g k).drop 1).drop i := by rw [List.drop_drop, Nat.add_comm]
              rw [e1] at hl
              exact List.mem_of_mem_drop hl
            · exact ⟨_, rfl, R, (labs g k).drop 1, rfl, hD12, s12, s12 _ _ hR10, hpos, by omega, fun l hl => hl⟩
          rintro v H13 ⟨O, os, rfl, hD13, s13, hO13, os0, os6, hos⟩
          have hP13 := hP10.mono s13
          have hR13 := s13 _ _ hR10
          -- first
          refine ⟨_, rfl, _, rfl, _, rfl, O, _, rfl, .inl (SqL.of (hide_le _ _ hO13)), d, L, _, rfl, by rw [List.length_map]; omega, by rw [List.length_map]; omega, hD13, fun i1 H15 i10 i11 hD15 s15 => ?_⟩
          rw [List.length_map] at i11
          obtain ⟨a1, ha1, ha2⟩ := int_at (ns := os) i10 i11
          refine ⟨O, _, _, _, rfl, rfl, SqL.of (hide_le _ _ (s15 _ _ hO13)), ha2, ?_⟩
          -- second
          have hR15 := s15 _ _ hR13
          refine ⟨_, rfl, _, rfl, _, rfl, R, _, rfl, .inl (SqL.of (hide_le _ _ hR15)), d, L, _, rfl, by rw [List.length_map]; omega, by rw [List.length_map]; omega, hD15, fun i2 H16 i20 i21 hD16 s16 => ?_⟩
          rw [List.length_map] at i21
          obtain ⟨a2, ha3, ha4⟩ := int_at (ns := (labs g k).drop 1) i20 i21
          refine ⟨R, _, _, _, rfl, rfl, SqL.of (hide_le _ _ (s16 _ _ hR15)), ha4, ?_⟩
          have s1016 := ((s10.trans s13).trans s15).trans s16
          -- end
          refine ⟨fun v H' => ∃ en : En, DrawAt H' d L ∧ Same (hide d H16) (hide d H') ∧ Dp K (hide d H') v en.d ∧ okEn n ar en ∧ ∀ l, l ∈ en.to → l ∈ (labs g k).drop 1, ?_, ?_⟩
          · refine ⟨_, rfl, rfl, _, rfl, ite2 (fun c => ?_) (fun c => ?_)⟩
            · refine ⟨_, rfl, by show 2 ≤ sizeLine; decide, fun p hp => ?_⟩
              refine ⟨.go a1, hD16.new hp, hide_new hp _, dp_new hD16 hp (.cons (.str _) (.cons (.int _) .nil)), trivial, fun l hl => ?_⟩
              rw [List.mem_singleton.mp hl]
              exact hos a1 ha1
            · refine ⟨_, rfl, d, L, dp, n, va, ar, 2, rfl, by decide, hD16, (hP13.mono s15).mono s16, fun x e H17 hD17 s17 hx he => ?_⟩
              refine ⟨_, rfl, _, rfl, by show 4 ≤ sizeLine; decide, fun p hp => ?_⟩
              refine ⟨.ifs e a1 a2, hD17.new hp, s17.trans (hide_new hp _), dp_new hD17 hp (.cons (.str _) (.cons hx (.cons (.int _) (.cons (.int _) .nil)))), he, fun l hl => ?_⟩
              rcases List.mem_cons.mp hl with e1 | hl
              · rw [e1]
                exact hos a1 ha1
              · rw [List.mem_singleton.mp hl]
                exact ha3
          rintro ve H18 ⟨en, hD18, s18, hve, hen, hto⟩
          exact ⟨some (.ref O), some (.int a1), some (.int a2), en, ve, rfl, hD18, s1016.trans s18, hve, hen, hto⟩
      rintro σ' H14 ⟨v12, v13, v14, en, ve, rfl, hD14, s14, hve, hen, hto⟩
      have gf14 := gf9.step hD14 s14
      have hL14 := hide_le _ _ (s14 _ _ hL9)
      -- found.append((labels[k], body, end))
      obtain ⟨z, hz1, hz2⟩ : ∃ z, (labs g k)[i]? = some z ∧ labs g (i + 1) = labs g i ++ [z] := by
        refine ⟨_, ?_, labs_succ g i⟩
        rw [labs, List.getElem?_map, List.getElem?_range hi]
        rfl
      have hz3 : atI ((labs g k).map V.int) (i : Int) = some (.int z) := atI_nat (by rw [List.getElem?_map, hz1]; rfl)
      have hul : us.length = i := by rw [dpa_len gf.all, List.length_map, ← List.length_map (f := Blk.label), hbl, labs_len]
      refine ⟨_, rfl, .inl ⟨rfl, _, SqL.of gf14.at_⟩, _, rfl, _, rfl, Dl, _, _, _, rfl, rfl, SqL.of hL14, hz3, _, rfl, _, rfl, by show 3 ≤ sizeLine; decide, fun p hp => ?_⟩
      have gf15 := gf14.step (hD14.new hp) (hide_new hp (.tup [V.int z, .ref t, ve]))
      have hblk := dp_new (K := K) hD14 hp (.cons (.int z) (.cons (dp_mono s14 _ hbody9) (.cons hve .nil)))
      refine ⟨F, _, _, rfl, rfl, gf15.at_, small1000 (by omega), ?_⟩
      refine ⟨bs ++ [⟨z, rs, en⟩], us ++ [.ref p], some (.ref t), some (.ref R), some (.int kd), some ve, v12, v13, v14, some (.int i), rfl, ?_, ?_, ?_, by omega⟩
      · rw [List.map_append]
        exact gf15.push (blk_noLst ⟨z, rs, en⟩) hblk
      · rw [List.map_append, hbl, hz2]
        rfl
      · intro b hb
        rcases List.mem_append.mp hb with hb | hb
        · exact hbs b hb
        · rw [List.mem_singleton.mp hb]
          exact ⟨hrs, by show rs.length ≤ m; omega, hen, hto⟩
    · rintro σ' H4 ⟨bs, us, v8, v9, v10, v11, v12, v13, v14, v15, rfl, gf, hbl, hbs, _⟩
      have hul : us.length = k := by rw [dpa_len gf.all, List.length_map, ← List.length_map (f := Blk.label), hbl, labs_len]
      refine ⟨_, rfl, F, _, rfl, .inl ⟨SqL.of gf.at_, fun t ht => ?_⟩⟩
      exact q _ bs _ (gf.dr.new ht) ((((s1.trans s2).trans s3).trans gf.old).trans (hide_new ht _)) (dp_new gf.dr ht gf.data) ⟨g, k, g1, g3, k1, k6, kb, hbl, hbs⟩
end
end My

set_option Elab.async false
set_option maxRecDepth 100000
set_option maxHeartbeats 4000000
set_option linter.all false
/-! sorted of tuples whose first items are different texts. -/
namespace My
open PySem PySem.Spec PyProof.Rows L2
theorem swo_of (O : PyProof.Rows.KeyOrd) {β : Type} (k : β → O.α) : SrtO.Swo fun x y => O.blt (k x) (k y) := by
  refine ⟨fun x y h => ?_, fun x y z h1 h2 => ?_⟩
  · cases e : O.blt (k y) (k x) with
    | false => rfl
    | true =>
      have q := O.trans _ _ _ h e
      rw [O.irrefl] at q
      cases q
  · cases e : O.blt (k z) (k x) with
    | false => rfl
    | true =>
      rcases O.negTrans _ (k y) _ e with q | q
      · rw [h2] at q
        cases q
      · rw [h1] at q
        cases q
abbrev strOrd : PyProof.Rows.KeyOrd := PyProof.Rows.strKind.toKeyOrd
abbrev ltN {β : Type} (k : β → Str) (x y : β) : Bool := decide ((k x).cps.toList < (k y).cps.toList)
theorem swoN {β : Type} (k : β → Str) : SrtO.Swo (ltN k) := swo_of strOrd fun x => (k x).cps.toList
def IsNamed (h : Heap) (v : Value) (x : Str) : Prop := ∃ (a : Addr) (o : Obj) (t : Tok) (rest : List Value) (n : Nat), v = .ref a ∧ h.get? a = some o ∧ o.cls = .type "tuple" ∧ o.data = .seq (Value.str x t :: rest).toArray n
theorem IsNamed.keeps {h h' : Heap} {v : Value} {x : Str} (p : IsNamed h v x) (k : ∀ b o, h.get? b = some o → o.cls = .type "tuple" → h'.get? b = some o) : IsNamed h' v x := by
  obtain ⟨a, o, t, rest, n, e, ho, hc, hd⟩ := p
  exact ⟨a, o, t, rest, n, e, k _ _ ho hc, hc, hd⟩
section
variable {prog : Program} {w : World} {A : Around} {E : Value → Shared → Prop} {s : Shared}
theorem kat_same {b fin : Bool} {Q : Bool → Shared → Prop} : ∀ (l : List Value) (i : Nat), Q fin s → PySem.W.KatLex prog w A b fin Q (l.zip l) i s
  | [], _, h => PySem.W.kat_nil h
  | v :: l, i, h => PySem.W.kat_cons (SeqAt.EqAt.same v prog w _ _ (PySem.W.kat_yes (kat_same l (i + 1) h)))
theorem named_cmp {vs : List Value} {k : Value → Str} (hp : ∀ v ∈ vs, IsNamed s.heap v (k v)) (inj : ∀ v ∈ vs, ∀ u ∈ vs, k v = k u → v = u) : SrtO.Cmp prog w A s (tuples' true) (fun p => p.1 ∈ vs) (SrtO.lt2 (ltN k)) := by
  intro p q hm hm'
  have h1 := hp _ hm
  have h2 := hp _ hm'
  by_cases hk : k p.1 = k q.1
  · have e := inj _ hm _ hm' hk
    obtain ⟨a, o, t, rest, n, e1, ho, hc, hd⟩ := h1
    show wpAny (model prog w) A (keyLt' (tuples' true) p.1 q.1) (fun r s' => s' = s ∧ r = ltN k p.1 q.1) (fun _ _ => False) s
    rw [← e, e1]
    refine PySem.W.kat_lt ho hd ho hd (kat_same _ 0 ⟨rfl, ?_⟩)
    have i1 : decide ((Value.str (k p.1) t :: rest).toArray.size < (Value.str (k p.1) t :: rest).toArray.size) = false := decide_eq_false (Nat.lt_irrefl _)
    rw [i1]
    exact (strOrd.irrefl _).symm
  · obtain ⟨a, o, t, rest, n, e1, ho, hc, hd⟩ := h1
    obtain ⟨a', o', t', rest', n', e1', ho', hc', hd'⟩ := h2
    show wpAny (model prog w) A (keyLt' (tuples' true) p.1 q.1) (fun r s' => s' = s ∧ r = ltN k p.1 q.1) (fun _ _ => False) s
    generalize hx : k p.1 = x at *
    generalize hy : k q.1 = y at *
    have el : ltN k p.1 q.1 = decide (x.cps.toList < y.cps.toList) := by show decide ((k p.1).cps.toList < (k q.1).cps.toList) = _; rw [hx, hy]
    rw [e1, e1'] at *
    refine PySem.W.kat_lt ho hd ho' hd' ?_
    show PySem.W.KatLex prog w A true _ _ ((Value.str x t, Value.str y t') :: rest.zip rest') 0 s
    refine PySem.W.kat_cons (SeqAt.EqAt.str_str x t y t' prog w _ _ ?_)
    rw [show (x == y) = false from beq_eq_false_iff_ne.mpr hk]
    refine PySem.W.kat_no (oneLt_str ⟨rfl, el.symm⟩)
theorem named_firsts {h : Heap} : ∀ {vs : List Value} {k : Value → Str}, (∀ v ∈ vs, IsNamed h v (k v)) → ∃ fs : List Value, PySem.W.KatTups h vs fs ∧ fs.length = vs.length ∧ ∀ f ∈ fs, ∃ x t, f = Value.str x t
  | [], _, _ => ⟨[], PySem.W.KatTups.nil, rfl, fun _ hm => by simp at hm⟩
  | v :: vs, k, hp => by
    obtain ⟨fs, h1, h2, h3⟩ := named_firsts (vs := vs) (k := k) fun v' hm => hp v' (List.mem_cons_of_mem _ hm)
    obtain ⟨a, o, t, rest, n, e, ho, hc, hd⟩ := hp v (List.mem_cons_self ..)
    subst e
    refine ⟨.str _ t :: fs, PySem.W.KatTups.cons ho hc hd rfl h1, by rw [List.length_cons, List.length_cons, h2], fun f hm => ?_⟩
    rcases List.mem_cons.mp hm with rfl | hm
    · exact ⟨_, t, rfl⟩
    · exact h3 f hm
theorem named_sortable {a : Addr} {vs : List Value} {k : Value → Str} (h0 : 0 < vs.length) (hp : ∀ v ∈ vs, IsNamed s.heap v (k v)) (inj : ∀ v ∈ vs, ∀ u ∈ vs, k v = k u → v = u) (ha : ∀ o, s.heap.get? a = some o → o.cls ≠ .type "tuple") : SrtO.SortableO prog w A s a vs (ltN k) := by
  intro h' keep
  have hp' : ∀ v ∈ vs, IsNamed h' v (k v) := fun v hm => (hp v hm).keeps fun b o e c => keep b o (fun z => by subst z; exact ha o e c) e
  obtain ⟨fs, h1, h2, h3⟩ := named_firsts hp'
  refine ⟨tuples' true, fun Q E hq => ?_, named_cmp hp' inj⟩
  refine PySem.W.kat_kind (T := .type "str") h1 (by omega) (fun f hm => ?_) (by rfl) ?_
  · obtain ⟨x, t, rfl⟩ := h3 f hm
    exact PySem.W.Looks.now
  · have e : (Value.type "str" != Value.type "tuple") = true := by first | decide +kernel | rfl | decide
    rw [e]
    exact hq
theorem sorted_named {l : Addr} {vs : List Value} {k : Value → Str} {Q : Value → Shared → Prop} (hl : s.heap.IsList l vs.toArray) (hz : vs.length ≤ sizeLine) (hp : ∀ v ∈ vs, IsNamed s.heap v (k v)) (inj : ∀ v ∈ vs, ∀ u ∈ vs, k v = k u → v = u)
    (h : ∀ (h' : Heap) (d : Addr) (out : List Value), SrtO.Srtd (ltN k) out → SrtO.Stb (ltN k) out vs → (∀ b o, s.heap.get? b = some o → h'.get? b = some o) → s.heap.objs.size ≤ d → (∃ n, h'.get? d = some (seqObj "list" out.toArray n)) → Q (.ref d) { s with heap := h' }) :
    wpAny (model prog w) A (call (.builtin "sorted") [.ref l]) Q E s := by
  refine SrtO.sorted_ord (swoN k) hl hz (fun h2 h₁ a ha kk => ?_) fun out hs hb => ?_
  · refine named_sortable (s := { s with heap := h₁ }) (by omega) (fun v hm => (hp v hm).keeps fun b o e _ => (kk b o e).2) inj fun o e => ?_
    have e' : some o = some (seqObj "list" vs.toArray 0) := e.symm.trans ha
    cases e'
    intro c
    exact absurd (Value.type.inj c) (by decide)
  · exact h _ _ out hs hb (fun b o e => sortedAll_old e) (Nat.le_succ _) (sortedAll_at s.heap vs out.toArray)
end
def rSortedN (K : PySem.W.Frag) : List V → Hp → VK → Prop := fun vs H Q => ∃ (a : Addr) (xs : List V) (k : V → Str), vs = [V.ref a] ∧ SqL K H a xs ∧ (∀ x ∈ xs, ∃ t rest, x = V.ref t ∧ SqT K H t (.str (k x) :: rest)) ∧ (∀ x ∈ xs, ∀ y ∈ xs, k x = k y → x = y) ∧
  ∀ ys p, SrtO.Srtd (ltN k) ys → ys.Perm xs → H p = none → Q (.ref p) (upd H p (.lst ys))
section
variable {X : Cx}
theorem cr_sortedN : CallR X (.builtin "sorted") (rSortedN X.K) := by
  intro pins s σ H vs us Q I r h
  obtain ⟨a, xs, k, rfl, hs, hx, inj, q⟩ := h
  obtain ⟨its, rv, hl, hz⟩ := I.list hs
  obtain ⟨u, rfl, ru⟩ := vals1 r
  obtain rfl : u = Value.ref a := ru
  obtain ⟨e1, e2⟩ := refs_back rv fun x m => by
    obtain ⟨t, _, e, _⟩ := hx x m
    exact ⟨t, e⟩
  have hin : ∀ v, v ∈ its → backV v ∈ xs := fun v hv => by rw [e1]; exact List.mem_map.mpr ⟨_, hv, rfl⟩
  refine sorted_named (k := fun u => k (backV u)) hl.isList (by rw [← rv.length]; exact hz) (fun v hv => ?_) (fun v hv u hu e => ?_) fun h' d out h1 h2 kp hd hn => ?_
  · obtain ⟨t, rest, e, ht⟩ := hx _ (hin v hv)
    obtain ⟨t', rfl⟩ := e2 v hv
    cases e
    obtain ⟨its2, r2, ⟨o, ho, hc, n, hd⟩, _⟩ := I.tuple ht
    cases r2 with
    | cons r3 r4 =>
      obtain ⟨tk, rfl⟩ := r3
      exact ⟨t, o, tk, _, n, rfl, ho, hc, hd⟩
  · have e3 := inj _ (hin v hv) _ (hin u hu) e
    obtain ⟨t, rfl⟩ := e2 v hv
    obtain ⟨t', rfl⟩ := e2 u hu
    cases e3
    rfl
  · have h3 : ∀ u ∈ out, ∃ a, u = Value.ref a := fun u hu => e2 u (h2.perm.mem_iff.mp hu)
    obtain ⟨n, hn⟩ := hn
    have hb : (out.map backV).Perm xs := by
      rw [e1]
      exact h2.perm.map backV
    refine ⟨.ref d, upd H d (.lst (out.map backV)), I.laid (t' := s.toks) kp hd ⟨?_, out, n, vals_back h3, hn⟩, rfl, q _ d (SrtO.srtd_map h1) hb (I.hok.fresh hd)⟩
    rw [hb.length_eq]
    exact hz
end
end My

set_option Elab.async false
set_option maxRecDepth 100000
set_option maxHeartbeats 4000000
set_option linter.all false
namespace My
open PySem L2 Prg
open C8 (pss_cut)
def withMain : List Oth → List Oth
  | [] => [(("main" : Str), (0 : Int))]
  | a :: r => a :: (("main" : Str), (0 : Int)) :: r
/-- what the law draws as a program of words of n bits -/
structure okPrg (n bl : Nat) (p : Prog) : Prop where
  w : p.w = n
  ar : okArr p.arrays
  ot : ∃ ot, okOth ot ∧ (p.procs.map fun q => (q.name, q.params)) = withMain ot ∧ ∀ q, q ∈ p.procs → okDrawn n p.arrays ot bl 12 q.blocks
theorem okDrawn.mono {n : Nat} {ar : List Arr} {ot : List Oth} {bm bn m k : Nat} {bs : List Blk} (h : okDrawn n ar ot bm m bs) (hk : m ≤ k) (hb : bm ≤ bn) : okDrawn n ar ot bn k bs := by
  obtain ⟨g, j, a, b, c, d, dd, e, f⟩ := h
  exact ⟨g, j, a, b, c, d, Nat.le_trans dd hb, e, fun x hx => ⟨(f x hx).1, Nat.le_trans (f x hx).2.1 hk, (f x hx).2.2⟩⟩
def spProgram (K : PySem.W.Frag) : Sp := fun vs H Q _ => ∃ (d L : Addr) (n bl m : Nat), vs = [.ref d, .int n, .int bl, .int m] ∧ 1 ≤ n ∧ n ≤ 16 ∧ 1 ≤ bl ∧ bl ≤ 6 ∧ m ≤ 10 ∧ DrawAt H d L ∧
  ∀ v p H', DrawAt H' d L → Same (hide d H) (hide d H') → Dp K (hide d H') v (Prog.d p) → okPrg n bl p → Q v H'
theorem Grows.with {K : PySem.W.Frag} {H : Hp} {d L D : Addr} {vs : List V} {ds : List PyData} (h : DrawAt H d L) (hD : H D = none) (hs : DpAll K (hide d H) vs ds) : Grows K H (upd H D (.lst vs)) d L D vs ds := by
  refine ⟨upd_same, dpa_mono (fun b o hb => ?_) _ hs, h.new hD, hide_new hD _, h.ne hD, h.neL hD, by rw [hide_ne (h.ne hD).symm]; exact hD⟩
  obtain ⟨h1, h2⟩ := hide_some hb
  have hb' : b ≠ D := ne_of_none h2 hD
  rw [hide_ne hb', hide_ne h1, upd_ne hb']
  exact h2
/-- a new list of data behind the draw -/
theorem dp_newL {K : PySem.W.Frag} {H : Hp} {d L p : Addr} {xs : List V} {ds : List PyData} (D : DrawAt H d L) (hp : H p = none) (h : DpAll K (hide d H) xs ds) : Dp K (hide d (upd H p (.lst xs))) (.ref p) (.list ds) :=
  .lst (SqL.of (D.in hp)) (dpa_mono (hide_new hp _) _ h)
theorem pro_noLst (q : Pro) : noLst q.d = true := by
  show (noLsts (q.blocks.map Blk.d) && true) = true
  rw [noLsts_map blk_noLst]
  rfl
/-- the name of the item of ps that stands where x stands first -/
def nameAt : List V → List Pro → V → Str
  | u :: us, p :: ps, x => if x = u then p.name else nameAt us ps x
  | _, _, _ => ""
theorem nameAt_spec : ∀ {us : List V} {ps : List Pro} {x : V}, us.length = ps.length → x ∈ us → ∃ (i : Nat) (p : Pro), us[i]? = some x ∧ ps[i]? = some p ∧ nameAt us ps x = p.name
  | u :: us, p :: ps, x, hl, hx => by
    by_cases e : x = u
    · subst e
      exact ⟨0, p, rfl, rfl, if_pos rfl⟩
    · have hx' : x ∈ us := by
        rcases List.mem_cons.mp hx with h | h
        · exact absurd h e
        · exact h
      obtain ⟨i, q, h1, h2, h3⟩ := nameAt_spec (us := us) (ps := ps) (by simpa using hl) hx'
      exact ⟨i + 1, q, h1, h2, by rw [← h3]; exact if_neg e⟩
  | [], _, _, _, hx => by cases hx
  | _ :: _, [], _, hl, _ => by simp at hl
theorem okArr_nil : okArr [] := ⟨(fun a h => by cases h), Or.inl rfl⟩
theorem at0 {α : Type} {x : α} {xs : List α} : atI (x :: xs) 0 = some x := atI_nat (j := 0) rfl
theorem at1 {α : Type} {x y : α} {xs : List α} : atI (x :: y :: xs) 1 = some y := atI_nat (j := 1) rfl
theorem at2 {α : Type} {x y z : α} {xs : List α} : atI (x :: y :: z :: xs) 2 = some z := atI_nat (j := 2) rfl
theorem withMain_nd {ot : List Oth} (h : okOth ot) : ((withMain ot).map (·.1)).Nodup := by
  rcases h with h | h | h | h <;> rw [h] <;> decide +kernel
/-- the first two exchanged -/
def sw {α : Type} : List α → List α
  | m :: a :: r => a :: m :: r
  | l => l
theorem sw_map {α β : Type} (f : α → β) : ∀ l : List α, (sw l).map f = sw (l.map f)
  | [] => rfl
  | [_] => rfl
  | _ :: _ :: _ => rfl
theorem sw_perm {α : Type} : ∀ l : List α, (sw l).Perm l
  | [] => .refl _
  | [_] => .refl _
  | a :: b :: r => .swap _ _ _
theorem sw_main (ot : List Oth) : sw ((("main" : Str), (0 : Int)) :: ot) = withMain ot := by
  cases ot <;> rfl
theorem sw_dpa {K : PySem.W.Frag} {H : Hp} : ∀ {us : List V} {ds : List PyData}, DpAll K H us ds → DpAll K H (sw us) (sw ds)
  | _, _, .nil => .nil
  | _, _, .cons h .nil => .cons h .nil
  | _, _, .cons h (.cons h2 t) => .cons h2 (.cons h t)
theorem lt_am : decide ((("aid" : Str)).cps.toList < (("main" : Str)).cps.toList) = true := by decide +kernel
theorem lt_ma : decide ((("main" : Str)).cps.toList < (("aid" : Str)).cps.toList) = false := by decide +kernel
theorem lt_zm : decide ((("zig" : Str)).cps.toList < (("main" : Str)).cps.toList) = false := by decide +kernel
theorem lt_za : decide ((("zig" : Str)).cps.toList < (("aid" : Str)).cps.toList) = false := by decide +kernel
theorem len1 {α : Type} {l : List α} (h : l.length = 1) : ∃ a, l = [a] := match l, h with | [a], _ => ⟨a, rfl⟩
theorem len2 {α : Type} {l : List α} (h : l.length = 2) : ∃ a b, l = [a, b] := match l, h with | [a, b], _ => ⟨a, b, rfl⟩
theorem len3 {α : Type} {l : List α} (h : l.length = 3) : ∃ a b c, l = [a, b, c] := match l, h with | [a, b, c], _ => ⟨a, b, c, rfl⟩
/-- the sorted list is the drawn one with main behind aid -/
theorem sort_fact {us ys : List V} {ps : List Pro} {ot : List Oth} (ho : okOth ot) (hn : (ps.map fun q => (q.name, q.params)) = (("main" : Str), (0 : Int)) :: ot) (hl : us.length = ps.length) (nd : us.Nodup)
    (hp : ys.Perm us) (hs : SrtO.Srtd (ltN (nameAt us ps)) ys) (inj : ∀ x ∈ us, ∀ y ∈ us, nameAt us ps x = nameAt us ps y → x = y) : ys = sw us := by
  have hs2 : SrtO.Srtd (ltN (nameAt us ps)) (sw us) := by
    rcases ho with h | h | h | h <;> subst h
    · have lp : ps.length = 1 := by have e := congrArg List.length hn; simpa using e
      obtain ⟨u0, rfl⟩ := len1 (hl.trans lp)
      exact List.pairwise_singleton _ _
    · have lp : ps.length = 2 := by have e := congrArg List.length hn; simpa using e
      obtain ⟨u0, u1, rfl⟩ := len2 (hl.trans lp)
      obtain ⟨p0, p1, rfl⟩ := len2 lp
      · simp only [List.map_cons, List.map_nil, List.cons.injEq, Prod.mk.injEq, and_true] at hn
        obtain ⟨⟨e0, _⟩, e1, _⟩ := hn
        have n01 : ¬ u1 = u0 := by
          intro e
          simp [e] at nd
        have k0 : nameAt [u0, u1] [p0, p1] u0 = "main" := by simp [nameAt, e0]
        have k1 : nameAt [u0, u1] [p0, p1] u1 = "aid" := by simp [nameAt, n01, e1]
        show List.Pairwise _ [u1, u0]
        refine List.Pairwise.cons (fun z hz => ?_) (List.pairwise_singleton _ _)
        rw [List.mem_singleton.mp hz]
        show decide ((nameAt [u0, u1] [p0, p1] u0).cps.toList < (nameAt [u0, u1] [p0, p1] u1).cps.toList) = false
        rw [k0, k1]
        exact lt_ma
    all_goals
      have lp : ps.length = 3 := by have e := congrArg List.length hn; simpa using e
      obtain ⟨u0, u1, u2, rfl⟩ := len3 (hl.trans lp)
      obtain ⟨p0, p1, p2, rfl⟩ := len3 lp
      · simp only [List.map_cons, List.map_nil, List.cons.injEq, Prod.mk.injEq, and_true] at hn
        obtain ⟨⟨e0, _⟩, ⟨e1, _⟩, e2, _⟩ := hn
        simp only [List.nodup_cons, List.mem_cons, List.mem_nil_iff, or_false, not_or] at nd
        obtain ⟨⟨n01, n02⟩, n12, _⟩ := nd
        have m01 : ¬ u1 = u0 := fun e => n01 e.symm
        have m02 : ¬ u2 = u0 := fun e => n02 e.symm
        have m12 : ¬ u2 = u1 := fun e => n12 e.symm
        have k0 : nameAt [u0, u1, u2] [p0, p1, p2] u0 = "main" := by simp [nameAt, e0]
        have k1 : nameAt [u0, u1, u2] [p0, p1, p2] u1 = "aid" := by simp [nameAt, m01, e1]
        have k2 : nameAt [u0, u1, u2] [p0, p1, p2] u2 = "zig" := by simp [nameAt, m02, m12, e2]
        show List.Pairwise _ [u1, u0, u2]
        refine List.Pairwise.cons (fun z hz => ?_) (List.Pairwise.cons (fun z hz => ?_) (List.pairwise_singleton _ _))
        · show decide ((nameAt [u0, u1, u2] [p0, p1, p2] z).cps.toList < (nameAt [u0, u1, u2] [p0, p1, p2] u1).cps.toList) = false
          simp only [List.mem_cons, List.mem_nil_iff, or_false] at hz
          rcases hz with rfl | rfl
          · rw [k0, k1]
            exact lt_ma
          · rw [k2, k1]
            exact lt_za
        · rw [List.mem_singleton.mp hz]
          show decide ((nameAt [u0, u1, u2] [p0, p1, p2] u2).cps.toList < (nameAt [u0, u1, u2] [p0, p1, p2] u0).cps.toList) = false
          rw [k2, k0]
          exact lt_zm
  refine List.Perm.eq_of_pairwise (fun a b ha hb h1 h2 => ?_) hs hs2 (hp.trans (sw_perm us).symm)
  have ha' := hp.mem_iff.mp ha
  have hb' := (sw_perm us).mem_iff.mp hb
  refine inj a ha' b hb' ?_
  have e := strOrd.total _ _ h2 h1
  exact PySem.W.str_of_cps e
/-- the procedures as they are drawn: main ahead -/
structure Drawn (n : Nat) (ar : List Arr) (ot : List Oth) (bl k : Nat) (ps : List Pro) : Prop where
  names : (ps.map fun q => (q.name, q.params)) = ((("main" : Str), (0 : Int)) :: ot).take (k + 1)
  blocks : ∀ q, q ∈ ps → okDrawn n ar ot bl 12 q.blocks
section
variable {P : Program} {w : World} {K : PySem.W.Frag} {mg : Str → Option Value} {base : Heap} {f : Addr} {fd : FuncData}
theorem ok__law_program {j : Nat} (hj : 2 ≤ j) (T : Txt K mg) (D : Def K mg "_law_program" ["draw", "w", "blocks", "rows"] s__law_program f fd) (O1 : Own P w K mg base "_law_take" ["draw", "many"] 1 spTake)
    (O3 : Own P w K mg base "_law_variable" ["draw"] 2 spVariable) (O6 : Own P w K mg base "_law_blocks" ["p", "others", "blocks", "rows"] j (spBlocks K)) :
    Own P w K mg base "_law_program" ["draw", "w", "blocks", "rows"] (j + 1) (spProgram K) := by
  obtain ⟨f_law_take, fd_law_take, m_law_take, k_law_take, b_law_take, G_law_take⟩ := O1
  obtain ⟨f_law_variable, fd_law_variable, m_law_variable, k_law_variable, b_law_variable, G_law_variable⟩ := O3
  obtain ⟨f_law_blocks, fd_law_blocks, m_law_blocks, k_law_blocks, b_law_blocks, G_law_blocks⟩ := O6
  refine ⟨f, fd, D.mg, D.fn.kp, D.bd, D.fn.ok sc__law_program (fun vs H Q E h => ?_) (fun cdv A outer s H vs Q E hr h => ?_)⟩
  · obtain ⟨d, L, n, bl, m, rfl, _⟩ := h
    rfl
  · obtain ⟨d, L, n, bl, m, rfl, n1, n2, bl1, bl6, m10, hD, q⟩ := h
    have hu := hu_of hr
    refine ⟨_, (pss_cons (ps_set (i := 4) sc__law_program.nd rfl (Or.inl rfl) (pe_cut (pe_ix ix_list (pe_lst (pa_cons (pe_tup pa_nil) (pa_cons (pe_tup pa_nil) (pa_cons (pe_tup (pa_cons (pe_tup (pa_cons pe_str (pa_cons (pe_op op_add pe_int (pe_call G_law_take (hr.mono (by omega)) rfl m_law_take k_law_take b_law_take .nil pass0 (pa_cons (pv 0) (pa_cons pe_int pa_nil)))) pa_nil))) pa_nil)) (pa_cons (pe_tup (pa_cons (pe_tup (pa_cons pe_str (pa_cons pe_int pa_nil))) (pa_cons (pe_tup (pa_cons pe_str (pa_cons (pe_op op_add pe_int (pe_call G_law_take (hr.mono (by omega)) rfl m_law_take k_law_take b_law_take .nil pass0 (pa_cons (pv 0) (pa_cons pe_int pa_nil)))) pa_nil))) pa_nil))) (pa_cons (pe_tup (pa_cons (pe_tup (pa_cons pe_str (pa_cons pe_int pa_nil))) (pa_cons (pe_tup (pa_cons pe_str (pa_cons pe_int pa_nil))) (pa_cons (pe_tup (pa_cons pe_str (pa_cons (pe_op op_add pe_int (pe_call G_law_take (hr.mono (by omega)) rfl m_law_take k_law_take b_law_take .nil pass0 (pa_cons (pv 0) (pa_cons pe_int pa_nil)))) pa_nil))) pa_nil)))) pa_nil)))))) (pe_call G_law_take (hr.mono (by omega)) rfl m_law_take k_law_take b_law_take .nil pass0 (pa_cons (pv 0) (pa_cons pe_int pa_nil))) (fun _ _ => rfl))))
      (pss_cons (ps_set (i := 5) sc__law_program.nd rfl (Or.inl rfl) (pe_disp (pps_cons pe_str (pv 0) (pps_cons pe_str (pv 1) (pps_cons pe_str (pv 4) pps_nil))) (by rfl) (by rfl) (fun z => by cases z) (by decide)))
      (pss_cons (ps_set (i := 6) sc__law_program.nd rfl (Or.inl rfl) (pe_cut (pe_ix ix_list (pe_lst (pa_cons (pe_lst pa_nil) (pa_cons (pe_lst pa_nil) (pa_cons (pe_lst (pa_cons (pe_tup (pa_cons pe_str (pa_cons pe_int pa_nil))) pa_nil)) (pa_cons (pe_lst (pa_cons (pe_tup (pa_cons pe_str (pa_cons pe_int pa_nil))) (pa_cons (pe_tup (pa_cons pe_str (pa_cons pe_int pa_nil))) pa_nil))) (pa_cons (pe_lst (pa_cons (pe_tup (pa_cons pe_str (pa_cons pe_int pa_nil))) (pa_cons (pe_tup (pa_cons pe_str (pa_cons pe_int pa_nil))) pa_nil))) pa_nil)))))) (pe_call G_law_take (hr.mono (by omega)) rfl m_law_take k_law_take b_law_take .nil pass0 (pa_cons (pv 0) (pa_cons pe_int pa_nil))) (fun _ _ => rfl))))
      (pss_cons (ps_set (i := 7) sc__law_program.nd rfl (Or.inl rfl) (pe_call G_law_blocks (hr.mono (by omega)) rfl m_law_blocks k_law_blocks b_law_blocks .nil pass0 (pa_cons (pv 5) (pa_cons (pv 6) (pa_cons (pv 2) (pa_cons (pv 3) pa_nil))))))
      (pss_cut (ps_if (pt_cmpR op_gt (pe_call G_law_take (hr.mono (by omega)) rfl m_law_take k_law_take b_law_take .nil pass0 (pa_cons (pv 0) (pa_cons pe_int pa_nil))) pe_int (nomark _)) (pss_cons (ps_set (i := 8) sc__law_program.nd rfl (Or.inl rfl) (pe_tup (pa_cons (pe_ix ix_tup (pe_ix ix_tup (pv 7) pe_int (fun _ _ => rfl)) pe_int (fun _ _ => rfl)) (pa_cons (pe_cut (pe_op op_catT (pe_tup (pa_cons (pe_tup (pa_cons pe_str (pa_cons pe_int pa_nil))) (pa_cons (pe_tup (pa_cons pe_str (pa_cons (pe_call G_law_variable (hr.mono (by omega)) rfl m_law_variable k_law_variable b_law_variable .nil pass0 (pa_cons (pv 0) pa_nil)) pa_nil))) pa_nil))) (pe_ix ix_tup (pe_ix ix_tup (pv 7) pe_int (fun _ _ => rfl)) pe_int (fun _ _ => rfl)))) (pa_cons (pe_ix ix_tup (pe_ix ix_tup (pv 7) pe_int (fun _ _ => rfl)) pe_int (fun _ _ => rfl)) pa_nil)))))
      (pss_one (ps_set (i := 7) sc__law_program.nd rfl (Or.inl rfl) (pe_cut (pe_op op_catT (pe_tup (pa_cons (pv 8) pa_nil)) (pe_slice sl_tup (pv 7) (po_some pe_int) po_none)))))) pss_nil)
      (pss_cons (ps_set (i := 9) sc__law_program.nd rfl (Or.inl rfl) (pe_lst (pa_cons (pe_tup (pa_cons pe_str (pa_cons pe_int (pa_cons (pv 7) pa_nil)))) pa_nil)))
      (pss_cons (ps_for PassesOwn.never rfl (pi_list (pv 6)) (pg_tup (by rfl) (pgs_cons (pg_name (i := 10) sc__law_program.nd rfl (Or.inl rfl)) (pgs_cons (pg_name (i := 11) sc__law_program.nd rfl (Or.inl rfl)) pgs_nil))) (pss_one (ps_expr (pe_bm PySem.F.plainAttrs_list PySem.F.slot_list_append PySem.F.type_list_append mt_append (pv 9) (pa_cons (pe_tup (pa_cons (pv 10) (pa_cons (pv 11) (pa_cons (pe_call G_law_blocks (hr.mono (by omega)) rfl m_law_blocks k_law_blocks b_law_blocks .nil pass0 (pa_cons (pv 5) (pa_cons (pv 6) (pa_cons (pe_callB (call_max2 rfl) (by rfl) T.m_max (by decide +kernel) (pa_cons pe_int (pa_cons (pe_op op_sub (pv 2) pe_int) pa_nil))) (pa_cons (pe_callB (call_max2 rfl) (by rfl) T.m_max (by decide +kernel) (pa_cons pe_int (pa_cons (pe_op op_sub (pv 3) pe_int) pa_nil))) pa_nil))))) pa_nil)))) pa_nil)))))
      (pss_one (ps_ret (pe_tup (pa_cons (pv 1) (pa_cons (pv 4) (pa_cons (pe_callTy call_tuple_of (by rfl) T.m_tuple (by decide +kernel) (pa_cons (pe_callB cr_sortedN (by rfl) T.m_sorted (by decide +kernel) (pa_cons (pv 9) pa_nil)) pa_nil)) pa_nil))))))))))))), ?_⟩
    -- arrays
    refine ⟨fun v H' => ∃ ar, DrawAt H' d L ∧ Same (hide d H) (hide d H') ∧ Dp K (hide d H') v (.tuple (ar.map arrD)) ∧ okArr ar, ?_, ?_⟩
    · refine ⟨Nat.zero_le _, fun t0 h0 => ?_⟩
      have a0 := dp_new (K := K) hD h0 .nil
      have e0 := hide_new (d := d) h0 (.tup [])
      have D0 := hD.new (o := .tup []) h0
      refine ⟨Nat.zero_le _, fun t1 h1 => ?_⟩
      have a1 := dp_new (K := K) D0 h1 .nil
      have e1 := hide_new (d := d) h1 (.tup [])
      have D1 := D0.new (o := .tup []) h1
      -- (("mem", 1 + take 5),)
      refine ⟨_, rfl, d, L, 5, rfl, by decide, by decide, D1, fun z2 H2 z20 z21 D2 s2 => ?_⟩
      refine ⟨_, _, rfl, rfl, by show 2 ≤ sizeLine; decide, fun t2a h2a => ?_⟩
      have a2a := dp_new (K := K) D2 h2a (.cons (.str "mem") (.cons (.int (1 + z2)) .nil))
      have D2a := D2.new (o := .tup [.str "mem", .int (1 + z2)]) h2a
      refine ⟨by show 1 ≤ sizeLine; decide, fun t2 h2 => ?_⟩
      have a2 := dp_new (K := K) D2a h2 (dpa_one a2a)
      have D2b := D2a.new (o := .tup [.ref t2a]) h2
      have e2 := (s2.trans (hide_new h2a (.tup [.str "mem", .int (1 + z2)]))).trans (hide_new h2 (.tup [.ref t2a]))
      -- (("a", 2), ("mem", 1 + take 3))
      refine ⟨by show 2 ≤ sizeLine; decide, fun t3a h3a => ?_⟩
      have a3a := dp_new (K := K) D2b h3a (.cons (.str "a") (.cons (.int 2) .nil))
      have D3a := D2b.new (o := .tup [.str "a", .int 2]) h3a
      refine ⟨_, rfl, d, L, 3, rfl, by decide, by decide, D3a, fun z3 H3 z30 z31 D3 s3 => ?_⟩
      refine ⟨_, _, rfl, rfl, by show 2 ≤ sizeLine; decide, fun t3b h3b => ?_⟩
      have a3b := dp_new (K := K) D3 h3b (.cons (.str "mem") (.cons (.int (1 + z3)) .nil))
      have D3b := D3.new (o := .tup [.str "mem", .int (1 + z3)]) h3b
      refine ⟨by show 2 ≤ sizeLine; decide, fun t3 h3 => ?_⟩
      have a3 := dp_new (K := K) D3b h3 (.cons (dp_mono (s3.trans (hide_new h3b (.tup [.str "mem", .int (1 + z3)]))) _ a3a) (.cons a3b .nil))
      have D3c := D3b.new (o := .tup [.ref t3a, .ref t3b]) h3
      have e3 := (((hide_new (d := d) h3a (.tup [.str "a", .int 2])).trans s3).trans (hide_new h3b (.tup [.str "mem", .int (1 + z3)]))).trans (hide_new h3 (.tup [.ref t3a, .ref t3b]))
      -- (("a", 8), ("b_2", 3), ("mem", 1 + take 8))
      refine ⟨by show 2 ≤ sizeLine; decide, fun t4a h4a => ?_⟩
      have a4a := dp_new (K := K) D3c h4a (.cons (.str "a") (.cons (.int 8) .nil))
      have D4a := D3c.new (o := .tup [.str "a", .int 8]) h4a
      refine ⟨by show 2 ≤ sizeLine; decide, fun t4b h4b => ?_⟩
      have a4b := dp_new (K := K) D4a h4b (.cons (.str "b_2") (.cons (.int 3) .nil))
      have D4b := D4a.new (o := .tup [.str "b_2", .int 3]) h4b
      refine ⟨_, rfl, d, L, 8, rfl, by decide, by decide, D4b, fun z4 H4 z40 z41 D4 s4 => ?_⟩
      refine ⟨_, _, rfl, rfl, by show 2 ≤ sizeLine; decide, fun t4c h4c => ?_⟩
      have a4c := dp_new (K := K) D4 h4c (.cons (.str "mem") (.cons (.int (1 + z4)) .nil))
      have D4c := D4.new (o := .tup [.str "mem", .int (1 + z4)]) h4c
      refine ⟨by show 3 ≤ sizeLine; decide, fun t4 h4 => ?_⟩
      have a4 := dp_new (K := K) D4c h4 (.cons (dp_mono (((hide_new h4b (.tup [.str "b_2", .int 3])).trans s4).trans (hide_new h4c (.tup [.str "mem", .int (1 + z4)]))) _ a4a) (.cons (dp_mono (s4.trans (hide_new h4c (.tup [.str "mem", .int (1 + z4)]))) _ a4b) (.cons a4c .nil)))
      have D4d := D4c.new (o := .tup [.ref t4a, .ref t4b, .ref t4c]) h4
      have e4 := ((((hide_new (d := d) h4a (.tup [.str "a", .int 8])).trans (hide_new h4b (.tup [.str "b_2", .int 3]))).trans s4).trans (hide_new h4c (.tup [.str "mem", .int (1 + z4)]))).trans (hide_new h4 (.tup [.ref t4a, .ref t4b, .ref t4c]))
      refine ⟨by show 5 ≤ sizeLine; decide, fun p hp => ?_⟩
      have ep := hide_new (d := d) hp (.lst [.ref t0, .ref t1, .ref t2, .ref t3, .ref t4])
      refine ⟨_, rfl, d, L, 5, rfl, by decide, by decide, D4d.new hp, fun i H5 i0 i1 D5 s5 => ?_⟩
      have hpL := s5 _ _ (D4d.in (o := .lst [.ref t0, .ref t1, .ref t2, .ref t3, .ref t4]) hp)
      have hi : i = 0 ∨ i = 1 ∨ i = 2 ∨ i = 3 ∨ i = 4 := by omega
      have e5 := ep.trans s5
      have eall := ((((e0.trans e1).trans e2).trans e3).trans e4).trans e5
      rcases hi with h | h | h | h | h <;> subst h
      · exact ⟨p, _, _, _, rfl, rfl, SqL.of (hide_le _ _ hpL), rfl, [], D5, eall, dp_mono ((((e1.trans e2).trans e3).trans e4).trans e5) _ a0, okArr_nil⟩
      · exact ⟨p, _, _, _, rfl, rfl, SqL.of (hide_le _ _ hpL), rfl, [], D5, eall, dp_mono (((e2.trans e3).trans e4).trans e5) _ a1, okArr_nil⟩
      · refine ⟨p, _, _, _, rfl, rfl, SqL.of (hide_le _ _ hpL), rfl, [("mem", 1 + z2)], D5, eall, dp_mono ((e3.trans e4).trans e5) _ a2, ⟨fun a ha => ?_, .inr (.inl rfl)⟩⟩
        rw [List.mem_singleton.mp ha]
        exact ⟨by show 1 ≤ 1 + z2; omega, by show 1 + z2 ≤ 8; omega⟩
      · refine ⟨p, _, _, _, rfl, rfl, SqL.of (hide_le _ _ hpL), rfl, [("a", 2), ("mem", 1 + z3)], D5, eall, dp_mono (e4.trans e5) _ a3, ⟨fun a ha => ?_, .inr (.inr (.inl rfl))⟩⟩
        simp only [List.mem_cons, List.mem_nil_iff, or_false] at ha
        rcases ha with h | h <;> rw [h]
        · exact ⟨by decide, by decide⟩
        · exact ⟨by show 1 ≤ 1 + z3; omega, by show 1 + z3 ≤ 8; omega⟩
      · refine ⟨p, _, _, _, rfl, rfl, SqL.of (hide_le _ _ hpL), rfl, [("a", 8), ("b_2", 3), ("mem", 1 + z4)], D5, eall, dp_mono e5 _ a4, ⟨fun a ha => ?_, .inr (.inr (.inr rfl))⟩⟩
        simp only [List.mem_cons, List.mem_nil_iff, or_false] at ha
        rcases ha with h | h | h <;> rw [h]
        · exact ⟨by decide, by decide⟩
        · exact ⟨by decide, by decide⟩
        · exact ⟨by show 1 ≤ 1 + z4; omega, by show 1 + z4 ≤ 8; omega⟩
    rintro va H1 ⟨ar, hD1, s1, har, hok⟩
    -- p
    refine fun dp hdp => ⟨_, rfl, _, rfl, _, rfl, upd_same, [((Sum.inr "draw" : Key), .ref d), ((Sum.inr "width" : Key), .int n), ((Sum.inr "arrays" : Key), va)], rfl, by show 3 ≤ 15; decide, ?_⟩
    rw [upd_upd]
    have ekv : mergeK [] [((Sum.inr "draw" : Key), V.ref d), ((Sum.inr "width" : Key), V.int n), ((Sum.inr "arrays" : Key), va)] = pK d n va := by
      show putK (putK (putK ([] : List (Key × V)) (Sum.inr "draw") (.ref d)) (Sum.inr "width") (.int n)) (Sum.inr "arrays") va = pK d n va
      have w1 : ¬ (Sum.inr ("draw" : Str) : Key) = Sum.inr ("width" : Str) := by decide +kernel
      have w2 : ¬ (Sum.inr ("draw" : Str) : Key) = Sum.inr ("arrays" : Str) := by decide +kernel
      have w3 : ¬ (Sum.inr ("width" : Str) : Key) = Sum.inr ("arrays" : Str) := by decide +kernel
      have h1 : putK ([] : List (Key × V)) (Sum.inr "draw") (.ref d) = [((Sum.inr "draw" : Key), V.ref d)] := putK_new _ valV_nil
      have h2 : putK [((Sum.inr "draw" : Key), V.ref d)] (Sum.inr "width") (.int n) = [((Sum.inr "draw" : Key), V.ref d), ((Sum.inr "width" : Key), .int n)] := putK_new _ (by rw [valV_neg w1]; exact valV_nil)
      have h3 : putK [((Sum.inr "draw" : Key), V.ref d), ((Sum.inr "width" : Key), .int n)] (Sum.inr "arrays") va = pK d n va := putK_new _ (by rw [valV_neg w2, valV_neg w3]; exact valV_nil)
      rw [h1, h2, h3]
    rw [ekv]
    have hP2 : PAt K (upd H1 dp (.dK (pK d n va))) d dp n va ar := ⟨hD1.in hdp, dp_mono (hide_new hdp _) _ har, n1, n2, hok⟩
    have hD2 := hD1.new (o := .dK (pK d n va)) hdp
    have s2 := s1.trans (hide_new hdp (.dK (pK d n va)))
    generalize hH2 : upd H1 dp (.dK (pK d n va)) = H2 at hP2 hD2 s2
    -- told
    refine ⟨fun v H' => ∃ ot, DrawAt H' d L ∧ Same (hide d H2) (hide d H') ∧ Dp K (hide d H') v (.list (ot.map arrD)) ∧ okOth ot, ?_, ?_⟩
    · refine ⟨Nat.zero_le _, fun t0 h0 => ?_⟩
      have a0 := dp_newL (K := K) hD2 h0 .nil
      have e0 := hide_new (d := d) h0 (.lst [])
      have D0 := hD2.new (o := .lst []) h0
      refine ⟨Nat.zero_le _, fun t1 h1 => ?_⟩
      have a1 := dp_newL (K := K) D0 h1 .nil
      have e1 := hide_new (d := d) h1 (.lst [])
      have D1 := D0.new (o := .lst []) h1
      refine ⟨by show 2 ≤ sizeLine; decide, fun t2a h2a => ?_⟩
      have a2a := dp_new (K := K) D1 h2a (.cons (.str "aid") (.cons (.int 1) .nil))
      have D2a := D1.new (o := .tup [.str "aid", .int 1]) h2a
      refine ⟨by show 1 ≤ sizeLine; decide, fun t2 h2 => ?_⟩
      have a2 := dp_newL (K := K) D2a h2 (dpa_one a2a)
      have D2 := D2a.new (o := .lst [.ref t2a]) h2
      have e2 := (hide_new (d := d) h2a (.tup [.str "aid", .int 1])).trans (hide_new h2 (.lst [.ref t2a]))
      refine ⟨by show 2 ≤ sizeLine; decide, fun t3a h3a => ?_⟩
      have a3a := dp_new (K := K) D2 h3a (.cons (.str "aid") (.cons (.int 2) .nil))
      have D3a := D2.new (o := .tup [.str "aid", .int 2]) h3a
      refine ⟨by show 2 ≤ sizeLine; decide, fun t3b h3b => ?_⟩
      have a3b := dp_new (K := K) D3a h3b (.cons (.str "zig") (.cons (.int 0) .nil))
      have D3b := D3a.new (o := .tup [.str "zig", .int 0]) h3b
      refine ⟨by show 2 ≤ sizeLine; decide, fun t3 h3 => ?_⟩
      have a3 := dp_newL (K := K) D3b h3 (.cons (dp_mono (hide_new h3b (.tup [.str "zig", .int 0])) _ a3a) (.cons a3b .nil))
      have D3 := D3b.new (o := .lst [.ref t3a, .ref t3b]) h3
      have e3 := ((hide_new (d := d) h3a (.tup [.str "aid", .int 2])).trans (hide_new h3b (.tup [.str "zig", .int 0]))).trans (hide_new h3 (.lst [.ref t3a, .ref t3b]))
      refine ⟨by show 2 ≤ sizeLine; decide, fun t4a h4a => ?_⟩
      have a4a := dp_new (K := K) D3 h4a (.cons (.str "aid") (.cons (.int 3) .nil))
      have D4a := D3.new (o := .tup [.str "aid", .int 3]) h4a
      refine ⟨by show 2 ≤ sizeLine; decide, fun t4b h4b => ?_⟩
      have a4b := dp_new (K := K) D4a h4b (.cons (.str "zig") (.cons (.int 1) .nil))
      have D4b := D4a.new (o := .tup [.str "zig", .int 1]) h4b
      refine ⟨by show 2 ≤ sizeLine; decide, fun t4 h4 => ?_⟩
      have a4 := dp_newL (K := K) D4b h4 (.cons (dp_mono (hide_new h4b (.tup [.str "zig", .int 1])) _ a4a) (.cons a4b .nil))
      have D4 := D4b.new (o := .lst [.ref t4a, .ref t4b]) h4
      have e4 := ((hide_new (d := d) h4a (.tup [.str "aid", .int 3])).trans (hide_new h4b (.tup [.str "zig", .int 1]))).trans (hide_new h4 (.lst [.ref t4a, .ref t4b]))
      refine ⟨by show 5 ≤ sizeLine; decide, fun p hp => ?_⟩
      have ep := hide_new (d := d) hp (.lst [.ref t0, .ref t1, .ref t2, .ref t3, .ref t4])
      refine ⟨_, rfl, d, L, 5, rfl, by decide, by decide, D4.new hp, fun i H5 i0 i1 D5 s5 => ?_⟩
      have hpL := s5 _ _ (D4.in (o := .lst [.ref t0, .ref t1, .ref t2, .ref t3, .ref t4]) hp)
      have hi : i = 0 ∨ i = 1 ∨ i = 2 ∨ i = 3 ∨ i = 4 := by omega
      have e5 := ep.trans s5
      have eall := ((((e0.trans e1).trans e2).trans e3).trans e4).trans e5
      rcases hi with h | h | h | h | h <;> subst h
      · exact ⟨p, _, _, _, rfl, rfl, SqL.of (hide_le _ _ hpL), rfl, [], D5, eall, dp_mono ((((e1.trans e2).trans e3).trans e4).trans e5) _ a0, .inl rfl⟩
      · exact ⟨p, _, _, _, rfl, rfl, SqL.of (hide_le _ _ hpL), rfl, [], D5, eall, dp_mono (((e2.trans e3).trans e4).trans e5) _ a1, .inl rfl⟩
      · exact ⟨p, _, _, _, rfl, rfl, SqL.of (hide_le _ _ hpL), rfl, [("aid", 1)], D5, eall, dp_mono ((e3.trans e4).trans e5) _ a2, .inr (.inl rfl)⟩
      · exact ⟨p, _, _, _, rfl, rfl, SqL.of (hide_le _ _ hpL), rfl, [("aid", 2), ("zig", 0)], D5, eall, dp_mono (e4.trans e5) _ a3, .inr (.inr (.inl rfl))⟩
      · exact ⟨p, _, _, _, rfl, rfl, SqL.of (hide_le _ _ hpL), rfl, [("aid", 3), ("zig", 1)], D5, eall, dp_mono e5 _ a4, .inr (.inr (.inr rfl))⟩
    rintro vo H3 ⟨ot, hD3, s3, hO3, hot⟩
    have hP3 := hP2.mono s3
    -- made
    refine ⟨_, rfl, _, rfl, _, rfl, _, rfl, d, L, dp, n, va, vo, ar, ot, bl, m, rfl, bl1, bl6, m10, hD3, hP3, hO3, hot, fun vm bs0 H4 hD4 s4 hm4 hb4 => ?_⟩
    -- if _law_take(draw, 3) > 0
    refine ⟨fun σ' H' => ∃ (v8 : Option V) (vm' : V) (bs : List Blk), σ' = [some (.ref d), some (.int n), some (.int bl), some (.int m), some va, some (.ref dp), some vo, some vm', v8, none, none, none] ∧ DrawAt H' d L ∧ Same (hide d H4) (hide d H') ∧ Dp K (hide d H') vm' (.tuple (bs.map Blk.d)) ∧ okDrawn n ar ot bl 12 bs, ?_, ?_⟩
    · refine ⟨_, rfl, d, L, 3, rfl, by decide, by decide, hD4, fun c0 H5 c00 c01 hD5 s5 => ?_⟩
      refine ⟨_, _, rfl, rfl, _, rfl, ite2 (fun c => ?_) (fun c => ?_)⟩
      · have hm5 := dp_mono s5 _ hm4
        obtain ⟨g, k, g1, g3, k1, k6, kb, hl, hbs⟩ := id hb4
        obtain ⟨b0, br, rfl⟩ : ∃ b0 br, bs0 = b0 :: br := by
          cases bs0 with
          | nil =>
            have e := congrArg List.length hl
            rw [labs_len] at e
            simp at e
            omega
          | cons b r => exact ⟨b, r, rfl⟩
        obtain ⟨am, xm, rfl, hma, hms⟩ := dp_tup hm5
        cases hms with
        | @cons x0 xr _ _ hx0 hxr =>
        obtain ⟨a0, y0, rfl, ha0, hy0⟩ := dp_tup hx0
        cases hy0 with
        | @cons y1 _ _ _ hy1 hyr =>
        cases hyr with
        | @cons y2 _ _ _ hy2 hyr2 =>
        cases hyr2 with
        | @cons y3 _ _ _ hy3 hyr3 =>
        cases hyr3
        cases dp_int hy1
        obtain ⟨ab, yb, rfl, hab, hyb⟩ := dp_tup hy2
        -- made[0][0]
        refine ⟨_, rfl, am, _, _, _, rfl, rfl, sqt_mono hide_le hma, at0, a0, _, _, _, rfl, rfl, sqt_mono hide_le ha0, rfl, ?_⟩
        have hmb : b0 ∈ b0 :: br := List.mem_cons_self
        have hb12 := (hbs b0 hmb).2.1
        have hlyb : yb.length = b0.body.length := by rw [dpa_len hyb, List.length_map]
        refine ⟨fun v H' => ∃ (ub : Addr) (z : Int), v = .ref ub ∧ 0 ≤ z ∧ z ≤ 39 ∧ DrawAt H' d L ∧ Same (hide d H5) (hide d H') ∧ Dp K (hide d H') (.ref ub) (.tuple ((Rw.take 0 :: Rw.take z :: b0.body).map Rw.d)), ?_, ?_⟩
        · -- (("take", 0), ("take", v))
          refine ⟨by show 2 ≤ sizeLine; decide, fun u1 hu1 => ?_⟩
          have b1 := dp_new (K := K) hD5 hu1 (.cons (.str "take") (.cons (.int 0) .nil))
          have D6 := hD5.new (o := .tup [.str "take", .int 0]) hu1
          refine ⟨_, rfl, d, L, rfl, D6, fun v H7 v0 v1 D7 s7 => ?_⟩
          have s57 := (hide_new (d := d) hu1 (.tup [.str "take", .int 0])).trans s7
          refine ⟨by show 2 ≤ sizeLine; decide, fun u2 hu2 => ?_⟩
          have b2 := dp_new (K := K) D7 hu2 (.cons (.str "take") (.cons (.int v) .nil))
          have D8 := D7.new (o := .tup [.str "take", .int v]) hu2
          refine ⟨by show 2 ≤ sizeLine; decide, fun u3 hu3 => ?_⟩
          have hu3' := D8.in (o := .tup [.ref u1, .ref u2]) hu3
          have D9 := D8.new (o := .tup [.ref u1, .ref u2]) hu3
          have s79 := (hide_new (d := d) hu2 (.tup [.str "take", .int v])).trans (hide_new hu3 (.tup [.ref u1, .ref u2]))
          have c2 : DpAll K (hide d (upd (upd H7 u2 (.tup [.str "take", .int v])) u3 (.tup [.ref u1, .ref u2]))) [.ref u1, .ref u2] [Rw.d (.take 0), Rw.d (.take v)] := dpa_mono (hide_new (d := d) hu3 (.tup [.ref u1, .ref u2])) _ (.cons (dp_mono (s7.trans (hide_new hu2 (.tup [.str "take", .int v]))) _ b1) (.cons b2 .nil))
          have s59 := s57.trans s79
          generalize hH9 : upd (upd H7 u2 (.tup [.str "take", .int v])) u3 (.tup [.ref u1, .ref u2]) = H9 at hu3' D9 s79 c2 s59
          refine ⟨_, rfl, am, _, _, _, rfl, rfl, sqt_mono (s59.trans hide_le) hma, at0, a0, _, _, _, rfl, rfl, sqt_mono (s59.trans hide_le) ha0, at1, ?_⟩
          refine ⟨u3, ab, _, _, rfl, rfl, SqT.of (hide_le _ _ hu3'), sqt_mono (s59.trans hide_le) hab, by simp, by show 2 + yb.length ≤ sizeLine; exact small (by omega), fun e => ?_, fun e u4 hu4 => ?_⟩
          · have hb0 : b0.body = [] := List.eq_nil_of_length_eq_zero (by rw [← hlyb, e]; rfl)
            refine ⟨u3, v, rfl, v0, v1, D9, s59, ?_⟩
            rw [hb0]
            exact .tup (SqT.of hu3') c2
          · exact ⟨u4, v, rfl, v0, v1, D9.new hu4, s59.trans (hide_new hu4 _), dp_new D9 hu4 (dpa_app c2 (dpa_mono s59 _ hyb))⟩
        rintro _ H10 ⟨ub, z, rfl, z0, z1, D10, s10, hub⟩
        -- made[0][2]
        refine ⟨_, rfl, am, _, _, _, rfl, rfl, sqt_mono (s10.trans hide_le) hma, at0, a0, _, _, _, rfl, rfl, sqt_mono (s10.trans hide_le) ha0, at2, by show 3 ≤ sizeLine; decide, fun u hu => ?_⟩
        have hfirst := dp_new (K := K) D10 hu (.cons (.int b0.label) (.cons hub (.cons (dp_mono s10 _ hy3) .nil)))
        have D11 := D10.new (o := .tup [.int b0.label, .ref ub, y3]) hu
        have s11 := s10.trans (hide_new hu (.tup [.int b0.label, .ref ub, y3]))
        generalize hH11 : upd H10 u (.tup [.int b0.label, .ref ub, y3]) = H11 at hfirst D11 s11
        -- made = (first,) + made[1:]
        have okd : okDrawn n ar ot bl 12 (⟨b0.label, Rw.take 0 :: Rw.take z :: b0.body, b0.en⟩ :: br) := by
          refine ⟨g, k, g1, g3, k1, k6, kb, hl, fun b hb => ?_⟩
          rcases List.mem_cons.mp hb with rfl | hb
          · refine ⟨fun r hr => ?_, by show b0.body.length + 2 ≤ 12; omega, (hbs b0 hmb).2.2⟩
            rcases List.mem_cons.mp hr with rfl | hr
            · exact ⟨by decide, by decide⟩
            · rcases List.mem_cons.mp hr with rfl | hr
              · exact ⟨z0, z1⟩
              · exact (hbs b0 hmb).1 r hr
          · have y := hbs b (List.mem_cons_of_mem _ hb)
            exact ⟨y.1, Nat.le_trans y.2.1 (by omega), y.2.2⟩
        have hlr : xr.length ≤ 6 := by
          have e1 := dpa_len hxr
          have e2 := congrArg List.length hl
          rw [labs_len] at e2
          rw [List.length_map] at e1 e2
          rw [List.length_cons] at e2
          omega
        refine ⟨fun v H' => ∃ (t : Addr), v = .ref t ∧ DrawAt H' d L ∧ Same (hide d H11) (hide d H') ∧ Dp K (hide d H') (.ref t) (.tuple ((⟨b0.label, Rw.take 0 :: Rw.take z :: b0.body, b0.en⟩ :: br : List Blk).map Blk.d)), ?_, ?_⟩
        · refine ⟨_, rfl, by show 1 ≤ sizeLine; decide, fun u5 hu5 => ?_⟩
          have h5 := D11.in (o := .tup [.ref u]) hu5
          have D12 := D11.new (o := .tup [.ref u]) hu5
          have s12 := hide_new (d := d) hu5 (.tup [.ref u])
          generalize hH12 : upd H11 u5 (.tup [.ref u]) = H12 at h5 D12 s12
          refine ⟨_, rfl, 1, rfl, am, _, rfl, sqt_mono ((s11.trans s12).trans hide_le) hma, ?_, fun u6 hu6 => ?_⟩
          · intro e
            have e1 : HT.sIx (V.ref a0 :: xr).length 0 (some 1) = min 1 (V.ref a0 :: xr).length := HT.sIx_nat _ _ 1
            rw [e1, List.length_cons] at e
            omega
          rw [show cutV (V.ref a0 :: xr) (some 1) none = xr from cut_from _ 1]
          have h6 := D12.in (o := .tup xr) hu6
          have D13 := D12.new (o := .tup xr) hu6
          have s13 := hide_new (d := d) hu6 (.tup xr)
          generalize hH13 : upd H12 u6 (.tup xr) = H13 at h6 D13 s13
          have hf13 := dp_mono (s12.trans s13) _ hfirst
          have hr13 := dpa_mono ((s11.trans s12).trans s13) _ hxr
          refine ⟨u5, u6, _, _, rfl, rfl, SqT.of (hide_le _ _ (s13 _ _ h5)), SqT.of (hide_le _ _ h6), by simp, by show 1 + xr.length ≤ sizeLine; exact small (by omega), fun e => ?_, fun e u7 hu7 => ?_⟩
          · refine ⟨u5, rfl, D13, s12.trans s13, ?_⟩
            subst e
            have hbr : br = [] := by
              cases br with
              | nil => rfl
              | cons b r => cases hxr
            rw [hbr]
            exact .tup (SqT.of (s13 _ _ h5)) (dpa_one hf13)
          · exact ⟨u7, rfl, D13.new hu7, (s12.trans s13).trans (hide_new hu7 _), dp_new D13 hu7 (.cons hf13 hr13)⟩
        rintro _ H14 ⟨t, rfl, D14, s14, ht⟩
        exact ⟨some (.ref u), .ref t, _, rfl, D14, (s5.trans s11).trans s14, ht, okd⟩
      · exact ⟨none, vm, bs0, rfl, hD5, s5, dp_mono s5 _ hm4, hb4.mono (by omega) (Nat.le_refl _)⟩
    rintro σ' H5 ⟨v8, vm', bs, rfl, hD5, s5, hm5, hb5⟩
    have s35 := s4.trans s5
    -- procedures = [("main", 0, made)]
    refine ⟨_, rfl, by show 3 ≤ sizeLine; decide, fun t0 ht0 => ?_⟩
    have hmain := dp_new (K := K) hD5 ht0 (.cons (.str "main") (.cons (.int 0) (.cons hm5 .nil)))
    have ht0' := hD5.in (o := .tup [.str "main", .int 0, vm']) ht0
    have D6 := hD5.new (o := .tup [.str "main", .int 0, vm']) ht0
    have s6 := s35.trans (hide_new ht0 (.tup [.str "main", .int 0, vm']))
    generalize hH6 : upd H5 t0 (.tup [.str "main", .int 0, vm']) = H6 at hmain ht0' D6 s6
    refine ⟨by show 1 ≤ sizeLine; decide, fun F hF => ?_⟩
    have gF : Grows K H6 (upd H6 F (.lst [.ref t0])) d L F [.ref t0] ([(⟨"main", 0, bs⟩ : Pro)].map Pro.d) := Grows.with D6 hF (dpa_one hmain)
    have hP6 := hP3.mono s6
    have hO6 := dp_mono s6 _ hO3
    obtain ⟨ao, xo, rfl, hao, hxo⟩ := dp_lst hO6
    have hlo : xo.length = ot.length := by rw [dpa_len hxo, List.length_map]
    have hot2 := oth_len hot
    obtain ⟨bl', hbl', bl'1, bl'6⟩ : ∃ bl' : Nat, (if ((bl : Int) - 2) > 1 then ((bl : Int) - 2) else 1) = (bl' : Int) ∧ 1 ≤ bl' ∧ bl' ≤ bl := by
      by_cases h : ((bl : Int) - 2) > 1
      · exact ⟨bl - 2, by rw [if_pos h]; omega, by omega, by omega⟩
      · exact ⟨1, by rw [if_neg h]; rfl, by omega, by omega⟩
    obtain ⟨m', hm', m'10⟩ : ∃ m' : Nat, (if ((m : Int) - 1) > 1 then ((m : Int) - 1) else 1) = (m' : Int) ∧ m' ≤ 10 := by
      by_cases h : ((m : Int) - 1) > 1
      · exact ⟨m - 1, by rw [if_pos h]; omega, by omega⟩
      · exact ⟨1, by rw [if_neg h]; rfl, by omega⟩
    -- for name, params in told
    refine ⟨_, rfl, ao, rfl, ⟨_, sql_mono (gF.old.trans hide_le) hao⟩, for_list (K := K) (a := ao) (xs := xo) (fun i σ' H' => ∃ (ps : List Pro) (us : List V) (v10 v11 : Option V), σ' = [some (.ref d), some (.int n), some (.int bl), some (.int m), some va, some (.ref dp), some (.ref ao), some vm', v8, some (.ref F), v10, v11] ∧
        Grows K H6 H' d L F us (ps.map Pro.d) ∧ Drawn n ar ot bl i ps ∧ us.Nodup ∧ (∀ u, u ∈ us → ∃ t xs, u = .ref t ∧ hide d H' t = some (.tup xs)) ∧ i ≤ ot.length)
      ⟨[⟨"main", 0, bs⟩], [.ref t0], none, none, rfl, gF, ⟨rfl, fun q hq => by rw [List.mem_singleton.mp hq]; exact hb5⟩, List.pairwise_singleton _ _, fun u hu => ⟨t0, _, List.mem_singleton.mp hu, gF.old _ _ ht0'⟩, Nat.zero_le _⟩
      (fun i σ' H' _ ⟨_, _, _, _, _, g, _⟩ => sql_mono (g.old.trans hide_le) hao) ?_ ?_⟩
    · rintro i x σ' H7 hx ⟨ps, us, v10, v11, rfl, g7, hdr, hnd, htr, _⟩
      have hix : i < ot.length := by rw [← hlo]; exact (List.getElem?_eq_some_iff.mp hx).1
      obtain ⟨t, a, hat, hst, hai⟩ : ∃ (t : Addr) (a : Oth), x = .ref t ∧ SqT K (hide d H6) t [.str a.1, .int a.2] ∧ ot[i]? = some a := by
        obtain ⟨dd, hd1, hd2⟩ := dpa_get hxo hx
        rw [List.getElem?_map] at hd1
        cases e : ot[i]? with
        | none =>
          rw [e] at hd1
          cases hd1
        | some a =>
          rw [e] at hd1
          cases Option.some.inj hd1
          obtain ⟨t, ys, rfl, ht, hts⟩ := dp_tup hd2
          cases hts with
          | cons h1 r1 =>
            cases r1 with
            | cons h2 r2 =>
              cases r2
              cases dp_str h1
              cases dp_int h2
              exact ⟨t, a, rfl, ht, rfl⟩
      subst hat
      refine ⟨t, _, rfl, sqt_mono (g7.old.trans hide_le) hst, rfl, _, _, rfl, _, _, rfl, rfl, ?_⟩
      refine ⟨_, rfl, .inl ⟨rfl, _, SqL.of g7.at_⟩, _, rfl, _, rfl, _, rfl, _, rfl, _, rfl, _, _, rfl, rfl, _, _, rfl, _, rfl, _, _, rfl, rfl, _, _, rfl,
        d, L, dp, n, va, .ref ao, ar, ot, bl', m', by show [V.ref dp, V.ref ao, V.int (if ((bl : Int) - 2) > 1 then ((bl : Int) - 2) else 1), V.int (if ((m : Int) - 1) > 1 then ((m : Int) - 1) else 1)] = _; rw [hbl', hm'], bl'1, by omega, m'10, g7.dr, hP6.mono g7.old, dp_mono g7.old _ hO6, hot, fun v bs2 H8 hD8 s8 hv hb8 => ?_⟩
      refine ⟨by show 3 ≤ sizeLine; decide, fun u hu => ?_⟩
      have g8 := (g7.step hD8 s8).step (hD8.new hu) (hide_new hu (.tup [.str a.1, .int a.2, v]))
      have hu' := hD8.in (o := .tup [.str a.1, .int a.2, v]) hu
      have hpro := dp_new (K := K) hD8 hu (.cons (.str a.1) (.cons (.int a.2) (.cons hv .nil)))
      have hul : us.length ≤ 3 := by
        have e1 := dpa_len g7.all
        have e2 := congrArg List.length hdr.names
        rw [List.length_map] at e1 e2
        rw [List.length_take, List.length_cons] at e2
        omega
      have keep : ∀ y, y ∈ us → ∃ t xs, y = .ref t ∧ hide d (upd H8 u (.tup [.str a.1, .int a.2, v])) t = some (.tup xs) := fun y hy => by
        obtain ⟨t, xs, e1, e2⟩ := htr y hy
        exact ⟨t, xs, e1, (s8.trans (hide_new hu _)) _ _ e2⟩
      have hnew : V.ref u ∉ us := fun hm => by
        obtain ⟨t, xs, e1, e2⟩ := htr _ hm
        cases e1
        have := hide_le _ _ (s8 _ _ e2)
        rw [hu] at this
        cases this
      generalize hH9 : upd H8 u (.tup [.str a.1, .int a.2, v]) = H9 at g8 hu' hpro keep
      refine ⟨F, _, _, rfl, rfl, g8.at_, small1000 (by omega), ?_⟩
      have put : ∀ t xs, hide d H9 t = some (.tup xs) → hide d (upd H9 F (.lst (us ++ [.ref u]))) t = some (.tup xs) := fun t xs e => by
        obtain ⟨h1, h2⟩ := hide_some e
        have hne : t ≠ F := ne_of h2 g8.at_ (by intro z; cases z)
        rw [hide_ne h1, upd_ne hne]
        exact h2
      refine ⟨ps ++ [⟨a.1, a.2, bs2⟩], us ++ [.ref u], _, _, rfl, ?_, ⟨?_, ?_⟩, ?_, ?_, by omega⟩
      · rw [List.map_append]
        exact g8.push (pro_noLst ⟨a.1, a.2, bs2⟩) hpro
      · rw [List.map_append, hdr.names]
        have e : ((("main" : Str), (0 : Int)) :: ot)[i + 1]? = some a := hai
        rw [List.take_succ (i := i + 1), e]
        rfl
      · intro q hq
        rcases List.mem_append.mp hq with hq | hq
        · exact hdr.blocks q hq
        · rw [List.mem_singleton.mp hq]
          exact hb8.mono (by omega) bl'6
      · rw [List.nodup_append]
        refine ⟨hnd, List.pairwise_singleton _ _, fun y hy z hz e => hnew ?_⟩
        rw [List.mem_singleton.mp hz] at e
        rw [← e]
        exact hy
      · intro y hy
        rcases List.mem_append.mp hy with hy | hy
        · obtain ⟨t, xs, e1, e2⟩ := keep y hy
          exact ⟨t, xs, e1, put t xs e2⟩
        · exact ⟨u, _, List.mem_singleton.mp hy, put u _ hu'⟩
    · rintro σ' H7 ⟨ps, us, v10, v11, rfl, g7, hdr, hnd, htr, _⟩
      have hn : (ps.map fun q => (q.name, q.params)) = (("main" : Str), (0 : Int)) :: ot := by
        rw [hdr.names, hlo, List.take_of_length_le (by rw [List.length_cons]; exact Nat.le_refl _)]
      have hl : us.length = ps.length := by rw [dpa_len g7.all, List.length_map]
      have ndn : (ps.map (·.name)).Nodup := by
        have e : ps.map (·.name) = ((("main" : Str), (0 : Int)) :: ot).map (·.1) := by rw [← hn, List.map_map]; rfl
        rw [e]
        rcases hot with h | h | h | h <;> rw [h] <;> decide +kernel
      have inj : ∀ x ∈ us, ∀ y ∈ us, nameAt us ps x = nameAt us ps y → x = y := by
        intro x hx y hy e
        obtain ⟨i, p, i1, i2, i3⟩ := nameAt_spec hl hx
        obtain ⟨i', p', j1, j2, j3⟩ := nameAt_spec hl hy
        rw [i3, j3] at e
        have ei : i = i' := by
          have hi : i < (ps.map (·.name)).length := by rw [List.length_map]; exact (List.getElem?_eq_some_iff.mp i2).1
          exact (List.getElem?_inj hi ndn).mp (by rw [List.getElem?_map, List.getElem?_map, i2, j2]; exact congrArg some e)
        rw [ei, j1] at i1
        exact (Option.some.inj i1).symm
      refine ⟨_, rfl, _, rfl, _, rfl, F, us, nameAt us ps, rfl, SqL.of g7.at_, fun x hx => ?_, inj, fun ys p hs hperm hp => ?_⟩
      · obtain ⟨i, q, i1, i2, i3⟩ := nameAt_spec hl hx
        obtain ⟨dd, d1, d2⟩ := dpa_get g7.data i1
        rw [List.getElem?_map, i2] at d1
        cases Option.some.inj d1
        obtain ⟨t, zs, rfl, ht, hts⟩ := dp_tup d2
        cases hts with
        | @cons z0 zr _ _ h1 _ =>
          cases dp_str h1
          rw [i3]
          exact ⟨t, zr, rfl, sqt_mono hide_le ht⟩
      · have ey := sort_fact hot hn hl hnd hperm hs inj
        subst ey
        refine ⟨p, _, rfl, .inl ⟨SqL.of upd_same, fun t ht => ?_⟩⟩
        have D8 := g7.dr.new (o := .lst (sw us)) hp
        have hall := sw_dpa (dpa_mono (hide_new hp (.lst (sw us))) _ g7.data)
        have hps := dp_new (K := K) D8 ht hall
        have D9 := D8.new (o := .tup (sw us)) ht
        have s9 := (g7.old.trans (hide_new hp (.lst (sw us)))).trans (hide_new ht (.tup (sw us)))
        refine ⟨by show 3 ≤ sizeLine; decide, fun u hu => ?_⟩
        rw [← sw_map] at hps
        have ha9 := dp_mono ((hide_new hdp (.dK (pK d n va))).trans (by rw [hH2]; exact (s3.trans s6).trans s9)) _ har
        refine q _ ⟨n, ar, sw ps⟩ _ (D9.new hu) (((s2.trans s3).trans (s6.trans s9)).trans (hide_new hu _)) (dp_new D9 hu (.cons (.int _) (.cons ha9 (.cons hps .nil)))) ⟨rfl, hok, ot, hot, ?_, fun q hq => hdr.blocks q ((sw_perm ps).mem_iff.mp hq)⟩
        show (sw ps).map _ = _
        rw [sw_map, hn, sw_main]
end
end My

set_option Elab.async false
set_option maxRecDepth 100000
set_option linter.all false
/-! Packing, as plain functions: bytes of a value, what stands at a place of a row of bytes. -/
namespace P6
open PySem
inductive Rs (α : Type) where
  | ok (a : α) (j : Nat) | bad (e : Nat)
def Rs.map {α β : Type} (f : α → β) : Rs α → Rs β
  | .ok a j => .ok (f a) j
  | .bad e => .bad e
def Rs.thn {α β : Type} (r : Rs α) (f : α → Nat → Rs β) : Rs β := match r with
  | .ok a j => f a j
  | .bad e => .bad e
/-- the sign of a byte, the byte of a sign -/
def chAt (b : Nat) : Nat := if b < 26 then 97 + b else if b < 36 then 22 + b else 95
def plOf (c : Nat) : Option Nat := if 97 ≤ c ∧ c ≤ 122 then some (c - 97) else if 48 ≤ c ∧ c ≤ 57 then some (c - 22) else if c = 95 then some 36 else none
def plsOf : List Nat → Option (List Nat)
  | [] => some []
  | c :: r => match plOf c, plsOf r with
    | some p, some ps => some (p :: ps)
    | _, _ => none
theorem pl_lt {c p : Nat} (h : plOf c = some p) : p < 37 ∧ chAt p = c := by
  unfold plOf at h
  unfold chAt
  split at h
  · cases h
    rw [if_pos (by omega)]
    omega
  · split at h
    · cases h
      rw [if_neg (by omega), if_pos (by omega)]
      omega
    · split at h
      · cases h
        subst_vars
        decide
      · cases h
/-- a number in sevens of bits -/
def sizeB (n : Nat) : List Nat := if h : n < 128 then [n] else (n % 128 + 128) :: sizeB (n / 128)
termination_by n
decreasing_by omega
theorem sizeB_lt {n : Nat} (h : n < 128) : sizeB n = [n] := by rw [sizeB, dif_pos h]
theorem sizeB_ge {n : Nat} (h : ¬ n < 128) : sizeB n = (n % 128 + 128) :: sizeB (n / 128) := by rw [sizeB, dif_neg h]
/-- the number at a place; fst: it is the first digit -/
def dsz : List Nat → Nat → Bool → Rs Nat
  | [], i, _ => .bad i
  | b :: r, i, fst => if 128 ≤ b then (dsz r (i + 1) false).map fun n => (b - 128) + 128 * n else if b = 0 ∧ fst = false then .bad i else .ok b (i + 1)
theorem dsz_sizeB : ∀ (n : Nat) (r : List Nat) (i : Nat) (fst : Bool), (fst = false → 0 < n) → dsz (sizeB n ++ r) i fst = .ok n (i + (sizeB n).length) := by
  intro n
  induction n using Nat.strongRecOn with
  | _ n ih =>
    intro r i fst hf
    by_cases h : n < 128
    · rw [sizeB_lt h]
      show (if 128 ≤ n then _ else if n = 0 ∧ fst = false then Rs.bad i else Rs.ok n (i + 1)) = _
      rw [if_neg (by omega), if_neg]
      · rfl
      · rintro ⟨h0, h1⟩
        have := hf h1
        omega
    · rw [sizeB_ge h]
      show (if 128 ≤ n % 128 + 128 then (dsz (sizeB (n / 128) ++ r) (i + 1) false).map _ else _) = _
      rw [if_pos (by omega), ih (n / 128) (by omega) r (i + 1) false fun _ => by omega]
      show Rs.ok (n % 128 + 128 - 128 + 128 * (n / 128)) (i + 1 + (sizeB (n / 128)).length) = _
      rw [List.length_cons]
      congr 1 <;> omega
/-- n times -/
def rep {α : Type} (f : Nat → Rs α) : Nat → Nat → Rs (List α)
  | 0, i => .ok [] i
  | n + 1, i => (f i).thn fun a j => (rep f n j).map fun as => a :: as
def dch (bs : List Nat) (i : Nat) : Rs Nat := match bs[i]? with
  | none => .bad i
  | some b => if b < 37 then .ok (chAt b) (i + 1) else .bad i
def dvalF (bs : List Nat) (sub : Option (Nat → Rs PyData)) (i : Nat) : Rs PyData := match bs[i]? with
  | none => .bad i
  | some b =>
    if b = 0 then .ok .none (i + 1) else if b = 1 then .ok (.bool false) (i + 1) else if b = 2 then .ok (.bool true) (i + 1)
    else if b = 3 then (dsz (bs.drop (i + 1)) (i + 1) true).map fun (n : Nat) => .int (n : Int)
    else if b = 4 then (dsz (bs.drop (i + 1)) (i + 1) true).map fun (n : Nat) => .int (-1 - (n : Int))
    else if b = 5 then (dsz (bs.drop (i + 1)) (i + 1) true).thn fun n j => (rep (dch bs) n j).map fun cs => .str ⟨cs.toArray⟩
    else if b = 6 then match sub with
      | none => .bad i
      | some f => (dsz (bs.drop (i + 1)) (i + 1) true).thn fun n j => (rep f n j).map .tuple
    else .bad i
def dval (bs : List Nat) : Nat → Nat → Rs PyData
  | 0 => dvalF bs none
  | k + 1 => dvalF bs (some (dval bs k))
mutual
/-- the bytes of a value, tuples at most k deep -/
def enc : PyData → Nat → Option (List Nat)
  | .none, _ => some [0]
  | .bool b, _ => some [if b then 2 else 1]
  | .int i, _ => some (if 0 ≤ i then 3 :: sizeB i.toNat else 4 :: sizeB (-1 - i).toNat)
  | .str s, _ => (plsOf s.cps.toList).map fun ps => 5 :: (sizeB s.length ++ ps)
  | .tuple xs, k => match k with
    | 0 => none
    | k + 1 => (encs xs k).map fun bs => 6 :: (sizeB xs.length ++ bs)
  | .list _, _ => none
  | .dict _, _ => none
def encs : List PyData → Nat → Option (List Nat)
  | [], _ => some []
  | x :: r, k => match enc x k, encs r k with
    | some a, some b => some (a ++ b)
    | _, _ => none
end
theorem plsOf_len : ∀ {cs ps : List Nat}, plsOf cs = some ps → ps.length = cs.length
  | [], ps, h => by cases h; rfl
  | c :: r, ps, h => by
    unfold plsOf at h
    split at h
    · rename_i p qs h1 h2
      cases h
      rw [List.length_cons, List.length_cons, plsOf_len h2]
    · cases h
theorem get_mid {p e q : List Nat} {b : Nat} {r : List Nat} (h : e = b :: r) : (p ++ (e ++ q))[p.length]? = some b := by
  rw [List.getElem?_append_right (Nat.le_refl _), Nat.sub_self, h]
  rfl
theorem drop_mid {p e q : List Nat} {b : Nat} {r : List Nat} (h : e = b :: r) : (p ++ (e ++ q)).drop (p.length + 1) = r ++ q := by
  rw [← List.drop_drop, List.drop_left, h]
  rfl
theorem rep_chars : ∀ {cs ps : List Nat} (p q : List Nat), plsOf cs = some ps → rep (dch (p ++ (ps ++ q))) cs.length p.length = .ok cs (p.length + ps.length)
  | [], ps, p, q, h => by cases h; rfl
  | c :: r, ps, p, q, h => by
    unfold plsOf at h
    split at h
    · rename_i a qs h1 h2
      cases h
      obtain ⟨l1, l2⟩ := pl_lt h1
      have ih := rep_chars (p ++ [a]) q h2
      rw [List.length_append, List.length_singleton] at ih
      have e : p ++ [a] ++ (qs ++ q) = p ++ ((a :: qs) ++ q) := by simp
      rw [e] at ih
      show (dch (p ++ ((a :: qs) ++ q)) p.length).thn _ = _
      have e1 : dch (p ++ ((a :: qs) ++ q)) p.length = .ok c (p.length + 1) := by
        unfold dch
        rw [get_mid rfl]
        show (if a < 37 then Rs.ok (chAt a) (p.length + 1) else _) = _
        rw [if_pos l1, l2]
      rw [e1]
      show (rep _ r.length (p.length + 1)).map _ = _
      rw [ih]
      show Rs.ok (c :: r) (p.length + 1 + qs.length) = _
      rw [List.length_cons]
      congr 1
      omega
    · cases h
theorem dval_unf (bs : List Nat) (k : Nat) : ∃ sub, dval bs k = dvalF bs sub ∧ (∀ m, k = m + 1 → sub = some (dval bs m)) ∧ (k = 0 → sub = none) := by
  cases k with
  | zero => exact ⟨none, rfl, fun m h => (by cases h), fun _ => rfl⟩
  | succ m => exact ⟨_, rfl, fun m' h => (by cases h; rfl), fun h => (by cases h)⟩
mutual
theorem dval_enc : ∀ (d : PyData) (k : Nat) (e p q : List Nat), enc d k = some e → dval (p ++ (e ++ q)) k p.length = .ok d (p.length + e.length)
  | .none, k, e, p, q, h => by
    unfold enc at h
    cases h
    obtain ⟨sub, e1, _, _⟩ := dval_unf (p ++ ([0] ++ q)) k
    rw [e1]
    unfold dvalF
    rw [get_mid rfl]
    rfl
  | .bool b, k, e, p, q, h => by
    unfold enc at h
    cases h
    obtain ⟨sub, e1, _, _⟩ := dval_unf (p ++ ([if b then 2 else 1] ++ q)) k
    rw [e1]
    unfold dvalF
    rw [get_mid rfl]
    cases b <;> rfl
  | .int i, k, e, p, q, h => by
    unfold enc at h
    cases h
    obtain ⟨sub, e1, _, _⟩ := dval_unf (p ++ ((if 0 ≤ i then 3 :: sizeB i.toNat else 4 :: sizeB (-1 - i).toNat) ++ q)) k
    rw [e1]
    unfold dvalF
    by_cases hi : 0 ≤ i
    · rw [if_pos hi, get_mid rfl]
      show Rs.map _ (dsz ((p ++ ((3 :: sizeB i.toNat) ++ q)).drop (p.length + 1)) (p.length + 1) true) = _
      rw [drop_mid rfl, dsz_sizeB _ _ _ _ (fun e => by cases e)]
      show Rs.ok (PyData.int (i.toNat : Nat)) _ = _
      rw [Int.toNat_of_nonneg hi, List.length_cons]
      congr 1
      omega
    · rw [if_neg hi, get_mid rfl]
      show Rs.map _ (dsz ((p ++ ((4 :: sizeB (-1 - i).toNat) ++ q)).drop (p.length + 1)) (p.length + 1) true) = _
      rw [drop_mid rfl, dsz_sizeB _ _ _ _ (fun e => by cases e)]
      show Rs.ok (PyData.int (-1 - (((-1 - i).toNat : Nat) : Int))) _ = _
      rw [Int.toNat_of_nonneg (by omega), List.length_cons, show -1 - (-1 - i) = i by omega]
      congr 1
      omega
  | .str s, k, e, p, q, h => by
    unfold enc at h
    rw [Option.map_eq_some_iff] at h
    obtain ⟨ps, hp, rfl⟩ := h
    obtain ⟨sub, e1, _, _⟩ := dval_unf (p ++ ((5 :: (sizeB s.length ++ ps)) ++ q)) k
    rw [e1]
    unfold dvalF
    rw [get_mid rfl]
    show Rs.thn (dsz ((p ++ ((5 :: (sizeB s.length ++ ps)) ++ q)).drop (p.length + 1)) (p.length + 1) true) _ = _
    rw [drop_mid rfl, List.append_assoc, dsz_sizeB _ _ _ _ (fun e => by cases e)]
    show Rs.map _ (rep _ s.length (p.length + 1 + (sizeB s.length).length)) = _
    have ih := rep_chars (p ++ 5 :: sizeB s.length) q hp
    have e2 : p ++ 5 :: sizeB s.length ++ (ps ++ q) = p ++ ((5 :: (sizeB s.length ++ ps)) ++ q) := by simp
    rw [e2, List.length_append, List.length_cons] at ih
    have e3 : s.cps.toList.length = s.length := by simp [Str.length]
    rw [e3] at ih
    rw [show p.length + 1 + (sizeB s.length).length = p.length + ((sizeB s.length).length + 1) by omega, ih]
    show Rs.ok (PyData.str ⟨s.cps.toList.toArray⟩) _ = _
    rw [Array.toArray_toList, List.length_cons, List.length_append]
    congr 1
    omega
  | .tuple xs, k, e, p, q, h => by
    cases k with
    | zero => unfold enc at h; cases h
    | succ k =>
      unfold enc at h
      rw [Option.map_eq_some_iff] at h
      obtain ⟨es, he, rfl⟩ := h
      show dvalF _ (some (dval _ k)) p.length = _
      unfold dvalF
      rw [get_mid rfl]
      show Rs.thn (dsz ((p ++ ((6 :: (sizeB xs.length ++ es)) ++ q)).drop (p.length + 1)) (p.length + 1) true) _ = _
      rw [drop_mid rfl, List.append_assoc, dsz_sizeB _ _ _ _ (fun e => by cases e)]
      show Rs.map _ (rep _ xs.length (p.length + 1 + (sizeB xs.length).length)) = _
      have ih := dvals_enc xs k es (p ++ 6 :: sizeB xs.length) q he
      have e2 : p ++ 6 :: sizeB xs.length ++ (es ++ q) = p ++ ((6 :: (sizeB xs.length ++ es)) ++ q) := by simp
      rw [e2, List.length_append, List.length_cons] at ih
      rw [show p.length + 1 + (sizeB xs.length).length = p.length + ((sizeB xs.length).length + 1) by omega, ih]
      show Rs.ok (PyData.tuple xs) _ = _
      rw [List.length_cons, List.length_append]
      congr 1
      omega
  | .list _, k, e, p, q, h => by unfold enc at h; cases h
  | .dict _, k, e, p, q, h => by unfold enc at h; cases h
theorem dvals_enc : ∀ (xs : List PyData) (k : Nat) (e p q : List Nat), encs xs k = some e → rep (dval (p ++ (e ++ q)) k) xs.length p.length = .ok xs (p.length + e.length)
  | [], k, e, p, q, h => by
    unfold encs at h
    cases h
    rfl
  | x :: r, k, e, p, q, h => by
    unfold encs at h
    split at h
    · rename_i a b h1 h2
      cases h
      have i1 := dval_enc x k a p (b ++ q) h1
      have i2 := dvals_enc r k b (p ++ a) q h2
      rw [List.append_assoc, List.length_append] at i2
      rw [List.append_assoc]
      show Rs.thn (dval _ k p.length) _ = _
      rw [i1]
      show Rs.map _ (rep _ r.length (p.length + a.length)) = _
      rw [i2]
      show Rs.ok (x :: r) _ = _
      rw [List.length_append]
      congr 1
      omega
    · cases h
end
mutual
/-- at most so many bytes are laid, also where it breaks off -/
def wt : PyData → Nat
  | .none => 1
  | .bool _ => 1
  | .int i => 1 + (sizeB (if 0 ≤ i then i.toNat else (-1 - i).toNat)).length
  | .str s => 1 + ((sizeB s.length).length + s.length)
  | .tuple xs => 1 + ((sizeB xs.length).length + wts xs)
  | .list _ => 0
  | .dict _ => 0
def wts : List PyData → Nat
  | [] => 0
  | x :: r => wt x + wts r
end
mutual
theorem enc_len : ∀ (d : PyData) (k : Nat) (e : List Nat), enc d k = some e → e.length = wt d
  | .none, k, e, h => by unfold enc at h; cases h; rfl
  | .bool b, k, e, h => by unfold enc at h; cases h; rfl
  | .int i, k, e, h => by
    unfold enc at h
    cases h
    unfold wt
    by_cases hi : 0 ≤ i
    · rw [if_pos hi, if_pos hi, List.length_cons]
      omega
    · rw [if_neg hi, if_neg hi, List.length_cons]
      omega
  | .str s, k, e, h => by
    unfold enc at h
    rw [Option.map_eq_some_iff] at h
    obtain ⟨ps, hp, rfl⟩ := h
    unfold wt
    have := plsOf_len hp
    have e3 : s.cps.toList.length = s.length := by simp [Str.length]
    rw [List.length_cons, List.length_append]
    omega
  | .tuple xs, k, e, h => by
    cases k with
    | zero => unfold enc at h; cases h
    | succ k =>
      unfold enc at h
      rw [Option.map_eq_some_iff] at h
      obtain ⟨es, he, rfl⟩ := h
      unfold wt
      have := encs_len xs k es he
      rw [List.length_cons, List.length_append]
      omega
  | .list _, k, e, h => by unfold enc at h; cases h
  | .dict _, k, e, h => by unfold enc at h; cases h
theorem encs_len : ∀ (xs : List PyData) (k : Nat) (e : List Nat), encs xs k = some e → e.length = wts xs
  | [], k, e, h => by unfold encs at h; cases h; rfl
  | x :: r, k, e, h => by
    unfold encs at h
    split at h
    · rename_i a b h1 h2
      cases h
      unfold wts
      rw [List.length_append, enc_len x k a h1, encs_len r k b h2]
    · cases h
end
theorem plsOf_snoc : ∀ {l ps : List Nat} {c p : Nat}, plsOf l = some ps → plOf c = some p → plsOf (l ++ [c]) = some (ps ++ [p])
  | [], ps, c, p, h, hp => by
    cases h
    show (match plOf c, plsOf [] with | some p, some ps => some (p :: ps) | _, _ => none) = _
    rw [hp]
    rfl
  | a :: r, ps, c, p, h, hp => by
    unfold plsOf at h
    split at h
    · rename_i q qs h1 h2
      cases h
      show (match plOf a, plsOf (r ++ [c]) with | some p, some ps => some (p :: ps) | _, _ => none) = _
      rw [h1, plsOf_snoc h2 hp]
      rfl
    · cases h
theorem plsOf_none : ∀ {l : List Nat} {c : Nat}, c ∈ l → plOf c = none → plsOf l = none
  | a :: r, c, m, h => by
    show (match plOf a, plsOf r with | some p, some ps => some (p :: ps) | _, _ => none) = _
    rcases List.mem_cons.mp m with rfl | m
    · rw [h]
    · rw [plsOf_none m h]
      cases plOf a <;> rfl
theorem encs_snoc : ∀ {l : List PyData} {x : PyData} {k : Nat} {a b : List Nat}, encs l k = some a → enc x k = some b → encs (l ++ [x]) k = some (a ++ b)
  | [], x, k, a, b, h, hx => by
    unfold encs at h
    cases h
    show encs [x] k = some b
    unfold encs
    rw [hx]
    show (match some b, encs [] k with | some a, some b => some (a ++ b) | _, _ => none) = _
    unfold encs
    show some (b ++ []) = _
    rw [List.append_nil]
  | y :: r, x, k, a, b, h, hx => by
    unfold encs at h
    split at h
    · rename_i p q h1 h2
      cases h
      show encs (y :: (r ++ [x])) k = _
      unfold encs
      rw [h1, encs_snoc h2 hx, List.append_assoc]
    · cases h
theorem encs_none : ∀ {l : List PyData} {x : PyData} {k : Nat}, x ∈ l → enc x k = none → encs l k = none
  | y :: r, x, k, m, h => by
    unfold encs
    rcases List.mem_cons.mp m with rfl | m
    · rw [h]
    · rw [encs_none m h]
      cases enc y k <;> rfl
theorem wts_take : ∀ (l : List PyData) (k : Nat) (x : PyData), l[k]? = some x → wts (l.take k) + wt x ≤ wts l
  | [], k, x, h => by simp at h
  | y :: r, 0, x, h => by
    cases h
    show 0 + wt y ≤ wt y + wts r
    omega
  | y :: r, k + 1, x, h => by
    have ih := wts_take r k x (by simpa using h)
    show wt y + wts (r.take k) + wt x ≤ wt y + wts r
    omega
theorem sizeB_pos (n : Nat) : 1 ≤ (sizeB n).length := by
  by_cases h : n < 128
  · rw [sizeB_lt h]
    exact Nat.le_refl _
  · rw [sizeB_ge h, List.length_cons]
    omega
end P6

set_option Elab.async false
set_option maxRecDepth 100000
set_option maxHeartbeats 4000000
set_option linter.all false
namespace My
open PySem PySem.Spec PyProof.Rows L2
/-! an exception that leaves from inside a list comprehension -/
theorem funFrames_by {base B : Heap} {h h' : Heap} : ∀ {l : List Env}, h.FunFrames base l → (∀ L ∈ frs l, B.get? L = none) → (∀ L ∈ frs l, ∀ o, h.get? L = some o → ∃ o', h'.get? L = some o' ∧ o'.data = o.data) → h'.FunFrames B l
  | [], _, _, _ => trivial
  | env :: l, h, hn, hk' => by
    obtain ⟨hk, ⟨L, o, hf, _, ho, hd⟩, hr⟩ := h
    have mL : L ∈ frs (env :: l) := List.mem_filterMap.mpr ⟨env, List.mem_cons_self, hf⟩
    obtain ⟨o', ho', hd'⟩ := hk' L mL o ho
    have sub : ∀ b ∈ frs l, b ∈ frs (env :: l) := fun b hb => by
      obtain ⟨e, he, q⟩ := List.mem_filterMap.mp hb
      exact List.mem_filterMap.mpr ⟨e, List.mem_cons_of_mem _ he, q⟩
    exact ⟨hk, ⟨L, o', hf, hn L mL, ho', fun vs => hd' ▸ hd vs⟩, funFrames_by hr (fun b hb => hn b (sub b hb)) fun b hb => hk' b (sub b hb)⟩
theorem noteFrame_frame {x : Value} {e e' : Env} (h : e.frame = e'.frame) : noteFrame x e = noteFrame x e' := by
  unfold noteFrame PySem.frameOf
  rw [h]
/-- the scope in which a comprehension's names are looked up -/
abbrev inBlk (c : Env) (scope : Scope) (env : Env) : Env := { c with scope := relabel scope env }
/-- what is wanted behind the loop of a comprehension: it ran through, or something came out of it -/
inductive Past (M : Model) (A : Around) (E : Value → Shared → Prop) (Q : Value → Shared → Prop) (acc : Value) (c : Env) : Result → Shared → Prop where
  | thru {f s m} (n : s.heap.Ns c.locals m) (q : ∀ h', Heap.SameBut c.locals s.heap h' → Q acc { s with heap := h' }) : Past M A E Q acc c (.ok f) s
  | out {x s m} (n : s.heap.Ns c.locals m) (q : ∀ h', Heap.SameBut c.locals s.heap h' → wpAny M A (passOn "comprehension.variables-let-go" x c : Sem Value) (fun _ _ => False) E { s with heap := h' }) : Past M A E Q acc c (.error x) s
theorem bnd {M : Model} {A : Around} {E : Value → Shared → Prop} {s : Shared} {α β : Type} {t : Sem α} {f : α → Sem β} {R : α → Shared → Prop} {Q : β → Shared → Prop} (h : wpAny M A t R E s) (k : ∀ a s', R a s' → wpAny M A (f a) Q E s') : wpAny M A (t >>= f) Q E s :=
  wpAny_bind (wpAny_mono h k fun _ _ z => z)
/-- a comprehension as a value, its block's scope told to what follows -/
theorem comp_past {M : Model} {A : Around} {E : Value → Shared → Prop} {s : Shared} {env : Env} {e : Expr} {scope : Scope} {pos : Pos} {mk it : Sem Value} {g : Comprehension} {gs : List Comprehension} {cl : List (Str × Addr)} {Q : Value → Shared → Prop}
    (e1 : clausesOf e = g :: gs) (e2 : ∀ x, foldedSetIterable g.iter env x = pure x) (e3 : closureFor scope env = pure cl) (e4 : scope.kind = .function) (e5 : ∀ x ∈ scope.names, x.2 = .local → scope.names.lookup x.1 = some .local)
    (h : wpAny M A it (fun x s₁ => wpAny M A (pyIter x) (fun i s₂ => wpAny M A mk (fun acc s₃ => wpAny M A (newFunctionEnv scope env.globals cl [] env.qual none .none (some env))
      (fun c s₄ => codeAny M A (.compStart e 0 i acc (inBlk c scope env)) (Past M A E Q acc (inBlk c scope env)) s₄) E s₃) E s₂) E s₁) E s) :
    wpAny M A (comprehension e scope env pos mk false it none) Q E s := by
  unfold comprehension
  rw [e3, e1]
  have loc : ∀ {c : Env} x, x ∈ (scope.names.filter fun x => (x.2 == .local || x.2 == .cell) && x.1 != (".0" : Str)).reverse → x.2 = .local → Env.kindOf (inBlk c scope env) x.1 = some .local := fun {c} x m k =>
    lookup_relabel_local (e5 x (List.mem_filter.mp (List.mem_reverse.mp m)).1 k)
  refine bnd h fun x s₁ h₁ => ?_
  refine wpAny_bind (wpAny_standAt (wpAny_bind (wpAny_of_eq (e2 x) ?_)))
  refine wpAny_bind (wpAny_holding (wpAny_mono h₁ (fun i s₂ h₂ => ?_) fun _ _ z => z))
  refine wpAny_standIf (bnd h₂ fun acc s₃ h₃ => wpAny_bind (wpAny_pure (bnd h₃ fun c s₄ h₄ => ?_)))
  dsimp only
  refine wpAny_holding (wpAny_bind (wpAny_attempt (wpAny_holding (wpAny_run (codeAny_mono h₄ fun r s' hr => ?_)))))
  cases hr with
  | thru n q => exact wpAny_bind (wpAny_holding (wpAny_comp_letGo (cenv := inBlk c scope env) e4 _ s' _ loc n fun h' _ _ k => wpAny_pure (q h' k)))
  | out n q => exact wpAny_bind (wpAny_holding (wpAny_comp_letGo (cenv := inBlk c scope env) e4 _ s' _ loc n fun h' _ _ k => wpAny_mono (q h' k) (fun _ _ z => z.elim) fun _ _ z => z))
/-- what a callee lets out of a comprehension's turn is in the air of the def -/
theorem blk_out {X : Cx} {pins : List (Addr × Obj)} {σ : L2.St} {H : Hp} {s s' : Shared} {E : XK} {W : WX} {C : Addr} {u acc : Value} {ce : Env} {Qf : Value → Shared → Prop} {m : Str → Option Value}
    (I : Inv X pins σ H s) (tk : Takes X W) (hW : ∀ cls d H', E cls d H' → W cls d σ H') (hs : X.stack = X.env :: X.outer) (hf : X.env.frame = some X.env.locals) (hce : ce.frame = X.env.frame) (hcl : ce.locals = C) (f : FpOk X pins H C) (hC : s.heap.Ns C m)
    (c : CX X.prog X.w X.stack H s E u s') : notedBy (model X.prog X.w) X.A ce (fun e s2 => Past (model X.prog X.w) X.A X.xe Qf acc ce (.error e) s2) u s' := by
  subst hcl
  obtain ⟨a, B, H', cls, d, rfl, fl, hok, ub, na, os, ag, hE⟩ := c
  have hfr : X.A.frames = some (X.env :: X.outer) := by rw [I.ok.frames, hs]
  obtain ⟨f0, f1, f2, f3, f4, f5⟩ := f
  have nC : ce.locals ∉ frs X.stack := fun hm => by
    rcases List.mem_cons.mp (I.stkSub ce.locals hm) with z | z
    · exact f1 z
    · exact f2 z
  obtain ⟨oC, es, ep, hoC, rC⟩ := hC
  have eC : B.get? ce.locals = some oC := ub.keep ce.locals oC hoC f0 nC
  have nC' : H' ce.locals = none := ub.free ce.locals oC hoC f0
  unfold notedBy
  rw [noteFrame_frame hce]
  rw [hs] at fl
  refine HandSPX.looks_onZ Zc.steady hfr hf fl fun h2 hh up => ?_
  refine .out (m := m) ⟨oC, es, ep, hh.1 ce.locals oC eC, rC⟩ fun h3 sb => ?_
  obtain ⟨k1, k2, k3, oe, vs, T, oT, ts', he, hz, hd, h1, hnT, hTe, hT, hdT, h4⟩ := hh
  have dC : ∀ vs, oC.data ≠ .fields vs := fun vs e => by
    rw [rC.1] at e
    cases e
  have h2C : h2.get? ce.locals = some oC := k1 ce.locals oC eC
  have same : ∀ b o, b ≠ ce.locals → h2.get? b = some o → h3.get? b = some o := fun b o n e => (sb.2 b n).trans e
  have aC : a ≠ ce.locals := fun z => by
    rw [z, h2C] at he
    cases he
    exact dC _ hd
  have TC : T ≠ ce.locals := fun z => by
    rw [z, h2C] at hT
    cases hT
    exact dC _ hdT
  -- the grounds
  obtain ⟨B', b1, b2⟩ := restrict h3 fun b => (B.get? b).isSome
  obtain ⟨G, g1, g2⟩ := restrict h3 fun b => (B.get? b).isSome || decide (b ∈ frs X.stack)
  have bn : ∀ b, B.get? b = none → B'.get? b = none := fun b e => b2 b (by simp [e])
  have gB : ∀ b o, b ≠ ce.locals → B.get? b = some o → G.get? b = some o := fun b o n e => by
    rw [g1 b (by simp [e])]
    exact same b o n (k1 b o e)
  have gF : ∀ b, b ∈ frs X.stack → G.get? b = h3.get? b := fun b hb => g1 b (by simp [hb])
  have og : ∀ b o, G.get? b = some o → h3.get? b = some o ∧ ((B.get? b).isSome = true ∨ b ∈ frs X.stack) := fun b o e => by
    cases q : ((B.get? b).isSome || decide (b ∈ frs X.stack)) with
    | false => rw [g2 b q] at e; cases e
    | true =>
      rw [g1 b q] at e
      exact ⟨e, by simpa [Bool.or_eq_true] using q⟩
  have held : HandSPX.HeldZ B' X.stack a (Zc cls d) X.env.locals h3 := by
    refine ⟨fun b o e => ?_, bn a k2, ?_, oe, vs, T, oT, ts', same a oe aC he, hz, hd, h1, bn T hnT, hTe, same T oT TC hT, hdT, h4⟩
    · cases q : (B.get? b).isSome with
      | false => rw [b2 b q] at e; cases e
      | true => rw [b1 b q] at e; exact e
    · rw [hs]
      refine funFrames_by k3 (fun L hL => bn L (k3.mem hL).1) fun L hL o e => ⟨o, same L o (fun z => nC (by rw [hs, ← z]; exact hL)) e, rfl⟩
  have J : Inv X pins σ H' { s with heap := G, gens := s'.gens, drawn := s'.drawn, toks := s'.toks } := by
    refine I.call (ch := [ce.locals]) ⟨fun b o e n hb hc => gB b o (fun z => hc (by simp [z])) (ub.keep b o e n hb), fun b o e n hb hc => ?_, fun b o e n _ => ub.free b o e n, fun b o e hc => ?_, ub.tups, ub.frzs, ub.tbls⟩ ?_ ag fun b hb => ?_
    · obtain ⟨sl, q⟩ := ub.slot b o e hb
      have nf : ∀ vs, o.data ≠ .fields vs := by
        obtain ⟨_, o', e', hd'⟩ := I.stack.mem hb
        rw [e] at e'
        cases e'
        exact hd'
      obtain ⟨sl2, q2⟩ := up b _ q nf
      exact ⟨sl2, by rw [gF b hb]; exact same b _ (fun z => hc (by simp [z])) q2⟩
    · have nb : b ≠ ce.locals := fun z => hc (by simp [z])
      by_cases hb : b ∈ frs X.stack
      · obtain ⟨sl, q⟩ := ub.slot b o e hb
        have nf : ∀ vs, o.data ≠ .fields vs := by
          obtain ⟨_, o', e', hd'⟩ := I.stack.mem hb
          rw [e] at e'
          cases e'
          exact hd'
        obtain ⟨sl2, q2⟩ := up b _ q nf
        exact ⟨_, by rw [gF b hb]; exact same b _ nb q2⟩
      · obtain ⟨o', q⟩ := ub.there b o e hb
        exact ⟨o', gB b o' nb q⟩
    · refine fun b o q => (hok b o q).stay (fun c u hc r => gB c u (fun z => ?_) r) (fun _ r => r) fun _ _ r => r
      rcases hc with hc | hc
      · rw [hc] at z
        rw [z, nC'] at q
        cases q
      · rw [z, nC'] at hc
        cases hc
    · have e : b = ce.locals := by simpa using hb
      subst e
      exact ⟨f3, f1, f4, f5⟩
  have air : ∀ h5 : Heap, HandSPX.HeldZ B' X.stack a (Zc cls d) X.env.locals h5 → h3.UpToSlots h5 → XE X W (.ref a) { s' with heap := h5 } := fun h5 hh5 up5 => by
    refine ⟨a, B', _, pins, σ, H', cls, d, rfl, J, fun b o e hb => ?_, fun b o e nf => up5 b o (og b o e).1 nf, .inr (.inr hh5), na, os, ag, hW _ _ _ hE⟩
    obtain ⟨e', h⟩ := og b o e
    rcases h with h | h
    · rw [b1 b h]
      exact e'
    · exact absurd h hb
  unfold PySem.passOn
  refine wpAny_bind (wpAny_field (same a oe aC he) hd h1 ?_)
  rw [if_neg (show ¬ ((Value.ref T == Value.none) = true) from by simp)]
  have fin : wpAny (model X.prog X.w) X.A (setFlight (.ref a) ce.frame) (fun _ s4 => wpAny (model X.prog X.w) X.A (throw (.ref a) : Sem Value) (fun _ _ => False) X.xe s4) X.xe { s' with heap := h3 } := by
    rw [hce, hf]
    exact HandSPX.setFlight_onZ held fun h4 hh4 up4 => wpAny_throw (tk _ _ (air h4 hh4 up4))
  first
    | exact wpAny_bind (wpAny_pure (wpAny_bind fin))
    | exact wpAny_bind fin
end My

set_option Elab.async false
set_option maxRecDepth 100000
set_option maxHeartbeats 4000000
set_option linter.all false
namespace My
open PySem PySem.Spec PyProof.Rows L2
/-! [elt for target in iter], where elt's calls may raise -/
/-- the context of such an elt: what comes out of it came out of a call -/
abbrev blkX (X : Cx) (E : XK) (s : Shared) (H : Hp) (scope : Scope) (ce : Env) (fp : List Addr) : Cx :=
  (X.blk s H scope ce fp).wish fun u s' => ∃ pins σ H1 s1, Inv (X.blk s H scope ce fp) pins σ H1 s1 ∧ CX X.prog X.w X.stack H1 s1 E u s'
theorem blkX_passes {X : Cx} {E : XK} {s : Shared} {H : Hp} {scope : Scope} {ce : Env} {fp : List Addr} : Passes (CX X.prog X.w) (blkX X E s H scope ce fp) E := fun pins σ H1 s1 u s' I c => ⟨pins, σ, H1, s1, I.unwish, c⟩
/-- the loop's state: turn i, n the measure -/
def Turns (X : Cx) (b : Cx) (tn : Nat → Heap → Prop) (fp : List Addr) (σ : L2.St) (W : Nat → Nat → Hp → Prop) (n : Nat) (s : Shared) : Prop :=
  ∃ i H, Inv b [] σ H s ∧ tn i s.heap ∧ (∀ a ∈ fp, H a = none) ∧ W i n H
section
variable {X : Cx} {E : XK} {pins : List (Addr × Obj)} {σ : L2.St} {H : Hp} {s s3 : Shared} {scope : Scope} {own : List (Str × Nat)} {fp : List Addr} {C : Addr} {ce : Env}
/-- the block's objects, seen from the def -/
theorem blk_back (I : Inv X pins σ H s3) (f : ∀ a ∈ fp, FpOk X pins H a) {p2 : List (Addr × Obj)} {σ2 : L2.St} {H2 : Hp} {s2 : Shared} (J : Inv (X.blk s3 H scope ce fp) p2 σ2 H2 s2) : Inv X pins σ H2 s2 :=
  I.call' (ch := fp) J.os J.base J.hok J.bare fun a ha => by
    obtain ⟨_, y1, _, y3, y4, y5⟩ := f a ha
    exact ⟨y3, y1, y4, y5⟩
theorem blk_free (hL : ce.locals = s3.heap.objs.size) (I : Inv X pins σ H s3) (f : ∀ a ∈ fp, FpOk X pins H a) {p2 : List (Addr × Obj)} {σ2 : L2.St} {H2 : Hp} {s2 : Shared} (J : Inv (X.blk s3 H scope ce fp) p2 σ2 H2 s2) : FpOk X pins H2 ce.locals :=
  I.fpOk (Nat.le_of_eq hL.symm) J.free
/-- what came out of a turn -/
theorem blk_raise {u acc : Value} {s' : Shared} {Q : Value → Shared → Prop} (tk : Takes X fun cls d _ H => E cls d H) (hs : X.stack = X.env :: X.outer) (hf : X.env.frame = some X.env.locals) (hce : ce.frame = X.env.frame) (hL : ce.locals = s3.heap.objs.size)
    (I : Inv X pins σ H s3) (f : ∀ a ∈ fp, FpOk X pins H a) (h : (blkX X E s3 H scope ce fp).xe u s') :
    notedBy (model X.prog X.w) X.A ce (fun e s2 => Past (model X.prog X.w) X.A X.xe Q acc ce (.error e) s2) u s' := by
  obtain ⟨p1, σ1, H1, s1, J, c⟩ := h
  obtain ⟨m, hm, _⟩ := J.loc
  exact blk_out (blk_back I f J) tk (fun _ _ _ z => z) hs hf hce rfl (blk_free hL I f J) hm c
theorem thnN {α : Type} {t : Sem α} {Q Q' : α → Shared → Prop} {M : Model} {A : Around} {E' : Value → Shared → Prop} {s : Shared} (h : wpAny M A t Q (fun _ _ => False) s) (k : ∀ a s, Q a s → Q' a s) : wpAny M A t Q' E' s := wpAny_mono h k fun _ _ z => z.elim
/-- the loop, from the block's first state -/
theorem blk_loop {elt tg iter : Expr} {pos : Pos} {g : TG} {te : TE} {it D : Addr} {J : It} {tn : Nat → Heap → Prop} {W : Nat → Nat → Hp → Prop} {Qd : Hp → Prop} {Qf : Value → Shared → Prop} {s4 : Shared} {m0 : Nat}
    (hc : X.calm = true) (tk : Takes X fun cls d _ H => E cls d H) (hs : X.stack = X.env :: X.outer) (hf : X.env.frame = some X.env.locals) (hce : ce.frame = X.env.frame) (hL : ce.locals = s3.heap.objs.size)
    (I : Inv X pins σ H s3) (f : ∀ a ∈ fp, FpOk X pins H a) (T : Turn X.prog X.w X.K tg J fp it tn) (pg : PG (X.blk s3 H scope ce fp) tg g) (pe : PE (blkX X E s3 H scope ce fp) elt te)
    (h0 : Turns X (X.blk s3 H scope ce fp) tn fp (wipe σ (own.map (·.2))) W m0 s4)
    (step : ∀ i m H, W i m H → (J.stop i H ∧ Qd H) ∨ (J.go i H ∧ ∃ Nx : Hp → Prop, (∀ H', Nx H' → ∃ m', m' < m ∧ W (i + 1) m' H') ∧ ∀ x H', J.yld i H x H' → g x (wipe σ (own.map (·.2))) H' fun σ2 H2 => wipe σ2 (own.map (·.2)) = wipe σ (own.map (·.2)) ∧ tYes σ2 H2 fun b H3 =>
      if b = true then te σ2 H3 fun y H4 => ∃ acc, H4 D = some (.lst acc) ∧ acc.length < sizeLine ∧ Nx (upd H4 D (.lst (acc ++ [y]))) else Nx H3))
    (fin : ∀ s' H', Inv X pins σ H' s' → Qd H' → FpOk X pins H' ce.locals → ∀ m, s'.heap.Ns ce.locals m → Past (model X.prog X.w) X.A X.xe Qf (.ref D) ce (.ok .next) s') :
    codeAny (model X.prog X.w) X.A (.compLoop (.ListComp elt [⟨tg, iter, [], 0⟩] scope pos) 0 (.ref it) (.ref D) ce) (Past (model X.prog X.w) X.A X.xe Qf (.ref D) ce) s4 := by
  have ours : ∀ {p2 : List (Addr × Obj)} {σ2 : L2.St} {H2 : Hp} {s2 : Shared}, Inv (X.blk s3 H scope ce fp) p2 σ2 H2 s2 → p2 = [] → (∀ a ∈ fp, H2 a = none) → ∀ a ∈ fp, FpOk (X.blk s3 H scope ce fp) p2 H2 a := fun {p2 σ2 H2 s2} K e n a ha => by
    subst e
    exact ⟨n a ha, (K.ok.exf a ha).1, K.ok.exfs a ha, .inl ha, fun x c z => (K.ok.exf a ha).2 x c z, fun p hp => by cases hp⟩
  refine compLoop_any (Turns X (X.blk s3 H scope ce fp) tn fp (wipe σ (own.map (·.2))) W) ?_ m0 h0
  rintro n s5 ⟨i, H5, I5, t5, n5, w5⟩
  have o5 := ours I5 rfl n5
  rcases step i n H5 w5 with ⟨st, qd⟩ | ⟨go, Nx, nx, turn⟩
  · refine thnN (T.done (X.blk s3 H scope ce fp) rfl rfl rfl hc i [] s5 _ H5 _ I5 o5 t5 st) fun r s6 ⟨e, I6⟩ => ?_
    subst e
    obtain ⟨m, hm, _⟩ := I6.loc
    exact fin s6 H5 (blk_back I f I6) qd (blk_free hL I f I6) m hm
  · refine thnN (T.item (X.blk s3 H scope ce fp) rfl rfl rfl hc i [] s5 _ H5 _ I5 o5 t5 go) fun r s6 ⟨u, e, h6⟩ => ?_
    subst e
    refine thnN h6 fun _ s7 ⟨x, H7, I7, r7, y7, t7, n7⟩ => ?_
    have P7 := I7.pinned (ours I7 rfl n7) (T.obj _ _ t7)
    refine thnN (pg.run _ s7 _ H7 x u _ P7 r7 (turn x H7 y7)) fun _ s8 ⟨σ8, H8, I8, w8, q8⟩ => ?_
    refine wpAny_tests_nil ?_
    show wpAny _ _ (eval elt ce) _ _ s8
    refine wpAny_mono (pe.run _ s8 σ8 H8 _ (I8.wish _) q8) (fun z s9 ⟨y, H9, I9, r9, acc, hD, hz, hN⟩ => ?_) fun u s' h => blk_raise tk hs hf hce hL I f h
    refine app_ok (X := X.blk s3 H scope ce fp) I9.unwish hD hz r9 fun s10 I10 => ?_
    obtain ⟨m', lt, w'⟩ := nx _ hN
    have keep : ∀ a ∈ fp, ∀ o, s7.heap.get? a = some o → s10.heap.get? a = some o ∧ upd H9 D (.lst (acc ++ [y])) a = none := fun a ha o e =>
      have z := I10.pin (a, o) (List.mem_append_right _ (List.mem_append_right _ (mem_pinsAt ha e)))
      ⟨z.1, z.2.1⟩
    have len : (wipe σ (own.map (·.2))).length = σ8.length := by rw [← w8, wipe_length]
    refine ⟨m', lt, i + 1, _, (I10.unpinned (pins := [])).weak len (fun j v e => ?_), T.keep _ _ _ t7 fun a ha o e => (keep a ha o e).1, fun a ha => ?_, w'⟩
    · rw [← w8] at e
      exact (wipe_some e).1
    · obtain ⟨o, e, _⟩ := T.obj _ _ t7 a ha
      exact (keep a ha o e).2
theorem pe_lcX {elt tg iter : Expr} {pos : Pos} {wi : TI} {g : TG} {te : TE} (hc : X.calm = true) (hN : X.N.Nodup) (tk : Takes X fun cls d _ H => E cls d H) (hs : X.stack = X.env :: X.outer) (hf : X.env.frame = some X.env.locals) (hi : PI X tg iter wi) (ok : BlkOk X.N X.env.scope scope own)
    (pg : ∀ s H C cl fp, PG (X.blk s H scope (compEnvC scope cl C X.env) fp) tg g) (pe : ∀ s H C cl fp, PE (blkX X E s H scope (compEnvC scope cl C X.env) fp) elt te) (hfo : ∀ x, foldedSetIterable iter X.env x = pure x := by intro _; rfl) :
    PE X (.ListComp elt [⟨tg, iter, [], 0⟩] scope pos) (tLc wi g tYes te (own.map (·.2))) := by
  refine ⟨fun pins s σ H Q I h => ?_⟩
  rw [eval_ListComp]
  have cells : ∀ y ∈ scope.names, y.2 = .free → ∃ c, X.env.cells.lookup y.1 = some c := fun y m e => I.ok.has _ (ok.free y m e)
  refine comp_past rfl hfo (closure_ok cells) ok.kind (fun y m k => (ok.uniq y m).trans (congrArg some k)) (thn (hi.run pins s σ H _ I h) fun xv s1 hx => thn hx fun itv s2 h2 => ?_)
  obtain ⟨it, fp, tn, J, H2, rfl, I2, T, t2, f2, q⟩ := h2
  refine wpAny_newObj_type (newEnv_comp ?_) (by show 0 ≤ sizeLine; decide)
  obtain ⟨W, ⟨m0, w0⟩, step⟩ := q s2.heap.objs.size (I2.hok.fresh (Nat.le_refl _))
  have lt : ∀ a ∈ fp, a < s2.heap.objs.size := fun a ha => by
    obtain ⟨o, e, _⟩ := T.obj _ _ t2 a ha
    exact Heap.lt_size e
  have I3 : Inv X pins σ (upd H2 s2.heap.objs.size (.lst [])) { s2 with heap := s2.heap.push { cls := .type "list", data := .seq ([] : List Value).toArray } } :=
    I2.laid (t' := s2.toks) (fun b o e => Heap.get?_push_of_some _ e) (Nat.le_refl _) ⟨Nat.zero_le _, [], 0, .nil, Heap.get?_push_size _ rfl⟩
  have f3 : ∀ a ∈ fp, FpOk X pins (upd H2 s2.heap.objs.size (.lst [])) a ∧ a < (s2.heap.push { cls := .type "list", data := .seq ([] : List Value).toArray }).objs.size := fun a ha =>
    ⟨⟨(upd_ne (Nat.ne_of_lt (lt a ha))).trans (f2 a ha).1, (f2 a ha).2⟩, by rw [Heap.size_push]; exact Nat.lt_succ_of_lt (lt a ha)⟩
  have t3 := T.keep _ _ (s2.heap.push { cls := .type "list", data := .seq ([] : List Value).toArray }) t2 fun b _ o e => Heap.get?_push_of_some _ e
  have I4 := block_start I3 ok hN f3
  have loop := blk_loop (own := own) (pos := pos) (iter := iter) (it := it) (D := s2.heap.objs.size) (Qd := fun H' => Q (.ref s2.heap.objs.size) H') (Qf := EP X pins σ Q) hc tk hs hf (by rfl) (by rfl) I3 (fun a ha => (f3 a ha).1) T (pg _ _ _ _ fp) (pe _ _ _ _ fp)
    ⟨0, _, I4, T.keep _ _ _ t3 fun b _ o e => pushCells_keeps _ _ _ _ (Heap.get?_push_of_some _ e), fun a ha => (f3 a ha).1.1, w0⟩ step fun s' H' I' qd fC m hm => .thru hm fun h'' sb => by
      obtain ⟨g0, g1, g2, g3, g4, g5⟩ := fC
      exact ⟨.ref s2.heap.objs.size, H', I'.turned (t' := s'.toks) (fun b o hb e => (sb.2 b hb).trans e) g0 g1 g3 g4 g5, rfl, qd⟩
  exact codeAny_compStart_list loop (T.self X.A 0 _ _ _ (T.keep _ _ _ t3 fun b _ o e => pushCells_keeps _ _ _ _ (Heap.get?_push_of_some _ e)) loop)
end
end My

set_option Elab.async false
set_option maxRecDepth 100000
set_option maxHeartbeats 4000000
set_option linter.all false
namespace My
open PySem PySem.Spec PyProof.Rows L2
/-! range(n) for any n from 0 on, also one that no machine word holds -/
theorem turn_long {P : Program} {w : World} {K : PySem.W.Frag} {tg : Expr} (it : Addr) (n : Nat) : Turn P w K tg (Itr 0 n) [it] it (fun i h => IsLongIter h it (0 + (i : Nat) * 1) ((n : Int) - (i : Nat)) 1) where
  mem := List.mem_singleton.mpr rfl
  obj := fun i h st b hb => by
    obtain rfl := List.mem_singleton.mp hb
    exact ⟨_, st, fun v z => nomatch (show Data.fields _ = Data.cell v from z)⟩
  keep := fun i h h' st k => k it (List.mem_singleton.mpr rfl) _ st
  item := by
    intro X hP hw hK hc i pins s σ H E I hf st hg
    subst hP hw hK
    have fi := hf it (List.mem_singleton.mpr rfl)
    refine (Walks.longrange (prog := X.prog) (w := X.w) (I.ok.hd hc) it 0 1 n).item i s _ _ hg st fun v h' tk hv st' kk => ?_
    obtain ⟨t, rfl⟩ := hv
    have J : Inv X pins σ H { s with heap := h', toks := tk } := I.turned (fun b o hb e => kk b o (by simpa using hb) e) fi.1 fi.2.1 fi.2.2.2.1 fi.2.2.2.2.1 fi.2.2.2.2.2
    exact ⟨_, rfl, go_of (s := { s with heap := h', toks := tk }) (n := "longrange_iterator") st' rfl rfl (by decide) ⟨.int (0 + i), H, J, ⟨t, by rw [Int.mul_one]⟩, ⟨rfl, rfl⟩, st', fun b hb => (hf b hb).1⟩⟩
  done := by
    intro X hP hw hK hc i pins s σ H E I hf st hg
    subst hP hw hK
    have fi := hf it (List.mem_singleton.mpr rfl)
    have hg : n ≤ i := hg
    exact wpAny_pyNext_long_end (I.ok.hd hc) st (by omega) fun h' eb => ⟨rfl, I.turned (t' := s.toks) (fun b o hb e => eb b o hb e) fi.1 fi.2.1 fi.2.2.2.1 fi.2.2.2.2.1 fi.2.2.2.2.2⟩
  self := fun _ _ _ _ _ st h => wpAny_pyIter_longiter st h
def iRngA (ta : TA) : TI := fun σ H R => ta σ H fun vs H1 => ∃ j : Int, vs = [.int j] ∧ 0 ≤ j ∧ R (Itr 0 j.toNat) H1
theorem pi_rangeA {X : Cx} {tg a : Expr} {ta : TA} {p pos : Pos} (hg : Gl X "range") (hm : X.mg "range" = none) (ha : PA X [a] ta) (hs : starEach [a] X.env = [(false, eval a X.env)] := by rfl) : PI X tg (.Call (.Name "range" p) [a] [] pos) (iRngA ta) := by
  refine ⟨fun pins s σ H R I h => Call_ (ld_blt I hg hm boot_range (PyProof.Rows.callWith_type1 (thn (ha.run pos pins s σ H _ I h) fun us s1 ⟨vs, H1, I1, r1, j, e, j0, q⟩ => ?_) hs rfl))⟩
  subst e
  obtain ⟨u, rfl, t, rfl⟩ := vals1 r1
  refine call_range_1 ?_
  have J : Inv X pins σ H1 { s1 with heap := s1.heap.push { cls := .type "range", data := .fields #[.int 0 s1.toks, .int j t, .int 1 (s1.toks + 1)] }, toks := s1.toks + 1 + 1 } := I1.kept fun b o e => Heap.get?_push_of_some _ e
  have n0 : 0 + ((0 : Nat) : Int) * 1 = 0 := by decide
  have n1 : ((j.toNat : Nat) : Int) - ((0 : Nat) : Int) = Builtin.Range.rangeSize 0 j 1 := by rw [rangeSize_one]; split <;> omega
  have fp : ∀ {b : Addr}, b ∈ [(s1.heap.push { cls := .type "range", data := .fields #[.int 0 s1.toks, .int j t, .int 1 (s1.toks + 1)] }).objs.size] → FpOk X pins H1 b := fun hb => by
    obtain rfl := List.mem_singleton.mp hb
    exact J.fpOk (Nat.le_refl _) (J.hok.fresh (Nat.le_refl _))
  cases hb : Builtin.Range.small 0 j 1 with
  | true =>
    refine wpAny_pyIter_range (IsRange.new ..) hb ⟨_, [_], _, _, H1, rfl, J.kept (t' := s1.toks + 1 + 1) fun b o e => Heap.get?_push_of_some _ e, turn_range _ 0 j.toNat, ?_, fun b => fp, q⟩
    show IsRangeIter _ _ (0 + ((0 : Nat) : Int) * 1) _ 1
    rw [n0, n1]
    exact Heap.get?_push_size _ rfl
  | false =>
    refine wpAny_pyIter_longrange (IsRange.new ..) hb ⟨_, [_], _, _, H1, rfl, J.kept (t' := s1.toks + 1 + 1) fun b o e => Heap.get?_push_of_some _ e, turn_long _ j.toNat, ?_, fun b => fp, q⟩
    show IsLongIter _ _ (0 + ((0 : Nat) : Int) * 1) _ 1
    rw [n0, n1]
    exact Heap.get?_push_size _ rfl
end My

set_option Elab.async false
set_option maxRecDepth 100000
set_option maxHeartbeats 4000000
set_option linter.all false
namespace My
open PySem PySem.Spec PyProof.Rows L2
open PySem.W (ksEnv ksFn)
/-! methods that say super(): their scope reads the cell of the class -/
structure SupScope (N ps : List Str) (sc : Scope) : Prop where
  kind : sc.kind = .function
  co : sc.isCoroutine = false
  gen : sc.isGenerator = false
  nd : N.Nodup
  pre : N.take ps.length = ps
  par : ∀ x ∈ ps, sc.names.lookup x = some .local
  nocell : ∀ y ∈ sc.names, y.2 ≠ .cell
  free : ∀ y ∈ sc.names, y.2 = .free → y.1 = "__class__"
  cls : sc.names.lookup ("__class__" : Str) = some .free
  sup : sc.names.lookup ("super" : Str) = some .globalImplicit
/-- the context of such a body -/
def cxS (CX : CXT) (P : Program) (w : World) (K : PySem.W.Frag) (mg : Str → Option Value) (base : Heap) (N : List Str) (qual : Str) (scope : Scope) (f : Addr) (cd : Value) (cc : Addr) (A : Around) (outer : List Env) (s : Shared) (H : Hp) (E : XK) : Cx :=
  let env := ksEnv qual scope s.heap.objs.size f cd cc
  { prog := P, w := w, K := K, mg := mg, base := base, A := A.deeper env, N := N, s_0 := s, H_0 := H, env := env, outer := outer, stack := env :: outer, ex := [], calm := true, fn := fun _ => false, pn := [],
    xe := fun e s' => wpAny (model P w) (A.deeper env) (leaving env e) (fun _ s'' => CX outer H s E e s'') (fun e' s'' => CX outer H s E e' s'') s' }
theorem zip_lookup {ps : List Str} {us : List Value} {i : Nat} {x : Str} {u : Value} (nd : ps.Nodup) (h1 : ps[i]? = some x) (h2 : us[i]? = some u) : (ps.zip us).reverse.lookup x = some u := by
  have key : ∀ {l : List (Str × Value)}, (∀ p ∈ l, ∀ q ∈ l, p.1 = q.1 → p = q) → (x, u) ∈ l → l.lookup x = some u := fun {l} => by
    induction l with
    | nil => intro _ h; cases h
    | cons p l ih =>
      intro un m
      obtain ⟨y, v⟩ := p
      rw [List.lookup_cons]
      cases e : x == y with
      | true =>
        have e : x = y := by simpa using e
        have z := un (x, u) m (y, v) List.mem_cons_self e
        cases z
        rfl
      | false =>
        rcases List.mem_cons.mp m with z | z
        · cases z
          simp at e
        · exact ih (fun p hp q hq => un p (List.mem_cons_of_mem _ hp) q (List.mem_cons_of_mem _ hq)) z
  have one : ∀ {ps : List Str} {us : List Value}, ps.Nodup → ∀ p ∈ ps.zip us, ∀ q ∈ ps.zip us, p.1 = q.1 → p = q := fun {ps} => by
    induction ps with
    | nil => intro us _ p hp; simp at hp
    | cons a ps ih =>
      intro us nd p hp q hq e
      cases us with
      | nil => simp at hp
      | cons b us =>
        rw [List.zip_cons_cons] at hp hq
        have na := (List.nodup_cons.mp nd).1
        rcases List.mem_cons.mp hp with rfl | hp <;> rcases List.mem_cons.mp hq with rfl | hq
        · rfl
        · exact absurd (by rw [show a = q.1 from e]; exact (List.of_mem_zip (a := q.1) (b := q.2) hq).1) na
        · exact absurd (by rw [show a = p.1 from e.symm]; exact (List.of_mem_zip (a := p.1) (b := p.2) hp).1) na
        · exact ih (List.nodup_cons.mp nd).2 p hp q hq e
  refine key (fun p hp q hq => one nd p (List.mem_reverse.mp hp) q (List.mem_reverse.mp hq)) (List.mem_reverse.mpr ?_)
  rw [List.mem_iff_getElem?]
  exact ⟨i, by rw [List.getElem?_zip_eq_some]; exact ⟨h1, h2⟩⟩
theorem start_get {N : List Str} {vs : List V} {i : Nat} {v : V} (h : (L2.start N vs)[i]? = some (some v)) : i < vs.length ∧ vs[i]? = some v := by
  have e : (vs.map some ++ List.replicate (N.length - vs.length) none)[i]? = some (some v) := h
  rcases Nat.lt_or_ge i vs.length with lt | ge
  · refine ⟨lt, ?_⟩
    rw [List.getElem?_append_left (by rw [List.length_map]; exact lt), List.getElem?_map, Option.map_eq_some_iff] at e
    obtain ⟨x, hx, q⟩ := e
    cases q
    exact hx
  · rw [List.getElem?_append_right (by rw [List.length_map]; exact ge)] at e
    have := List.mem_replicate.mp (List.mem_of_getElem? e)
    exact nomatch this.2
section
variable {CX : CXT} {P : Program} {w : World} {K : PySem.W.Frag} {mg : Str → Option Value} {base : Heap} {f cc C : Addr} {name qual : Str} {params : Arguments} {body : List Stmt} {scope : Scope} {dV kV doc pm cdv ct oc cl : Value} {an od cld : Option Addr} {osl csl : Array (Option Value)} {N ps : List Str}
theorem inv_startS {A : Around} {outer : List Env} {s : Shared} {H : Hp} {E : XK} {us : List Value} {vs : List V} {h0 : Heap} {tk : Nat} (S : SupScope N ps scope) (cell : K.lookup cc = some ⟨cl, cld, .cell (some (.ref C)), csl⟩) (hd : A.handled = none) (e0 : Env0 P w K mg base A outer s H)
    (hl : vs.length = ps.length) (r : Vals vs us) (hns : h0.Ns s.heap.objs.size fun x => (ps.zip us).reverse.lookup x) (hk : ∀ b o, s.heap.get? b = some o → h0.get? b = some o) :
    Inv (cxS CX P w K mg base N qual scope f cdv cc A outer s H E) [] (L2.start N vs) H { s with heap := h0, toks := tk } := by
  have hpl : ps.length ≤ N.length := by
    have e := congrArg List.length S.pre
    rw [List.length_take] at e
    omega
  have one : ∀ {y c}, List.lookup y [(("__class__" : Str), cc)] = some c → y = "__class__" ∧ c = cc := fun {y c} e => by
    rw [List.lookup_cons] at e
    cases h : y == ("__class__" : Str) with
    | true =>
      rw [h] at e
      cases e
      exact ⟨by simpa using h, rfl⟩
    | false =>
      rw [h] at e
      cases e
  have bc : base.get? cc = some ⟨cl, cld, .cell (some (.ref C)), csl⟩ := e0.mod.kin _ _ cell
  refine ⟨⟨e0.mod, S.kind, rfl, rfl, Nat.le_refl _, fun y z c h1 h2 => (one h1).1.trans (one h2).1.symm, fun y hy => ?_, fun y c h => (nomatch h), fun _ => hd, Around.frames_deeper e0.frames, .inr ⟨rfl, rfl⟩, fun b z => (nomatch z), e0.bs, e0.bsz, fun b _ _ z => (nomatch z), fun b z => (nomatch z), e0.funs, e0.frf⟩,
    rfl, e0.bare, Un.kept hk, ⟨_, hns, fun i y v h1 h2 h3 => ?_⟩, fun y c h => ?_, e0.hok.fresh (Nat.le_refl _), fun y c h => ?_, fun p hp => (nomatch hp), e0.hok.kept hk, ?_⟩
  · have hy : scope.names.lookup y = some .cell ∨ scope.names.lookup y = some .free := hy
    rcases hy with hy | hy
    · exact absurd rfl (S.nocell _ (PySem.mem_of_lookup hy))
    · obtain rfl : y = "__class__" := S.free (y, .free) (PySem.mem_of_lookup hy) rfl
      exact ⟨cc, rfl⟩
  · obtain ⟨hi, ha⟩ := start_get h2
    obtain ⟨u, hu, rv⟩ := r.get ha
    have hp : ps[i]? = some y := by
      have lt : i < ps.length := hl ▸ hi
      rw [← S.pre]
      exact (List.getElem?_take_of_lt lt).trans h1
    have ndP : ps.Nodup := S.pre ▸ S.nd.sublist (List.take_sublist ps.length N)
    exact ⟨u, rv, .inl ⟨S.par y (List.mem_of_getElem? hp), zip_lookup ndP hp hu⟩⟩
  · obtain ⟨rfl, rfl⟩ := one h
    exact ⟨_, _, hk _ _ (e0.bs _ _ bc).1, rfl⟩
  · obtain ⟨rfl, rfl⟩ := one h
    exact (e0.bs _ _ bc).2
  · show (vs.map some ++ List.replicate (N.length - vs.length) none).length = N.length
    simp only [List.length_append, List.length_map, List.length_replicate]
    omega
/-- such a method, by its body -/
theorem fn_sup {k : Nat} {sp : Sp} (lk : K.lookup f = some ⟨oc, od, .func (ksFn name qual params body scope dV kV doc pm an cdv ct cc), osl⟩) (hcd : PySem.W.codeIn K cdv qual = true) (S : SupScope N ps scope) (cell : K.lookup cc = some ⟨cl, cld, .cell (some (.ref C)), csl⟩)
    (len : ∀ vs H Q E, sp vs H Q E → vs.length = ps.length)
    (hb : ∀ (A : Around) (outer : List Env) (s s1 : Shared) (H : Hp) (vs : List V) (Q : VK) (E : XK), Room k (A.deeper (ksEnv qual scope s.heap.objs.size f cdv cc)) → sp vs H Q E → Inv (cxS CX P w K mg base N qual scope f cdv cc A outer s H E) [] (L2.start N vs) H s1 →
      _root_.PySem.wpAt (model P w) (cxS CX P w K mg base N qual scope f cdv cc A outer s H E).A (.func body (ksEnv qual scope s.heap.objs.size f cdv cc)) (execs body (ksEnv qual scope s.heap.objs.size f cdv cc))
        (SP (cxS CX P w K mg base N qual scope f cdv cc A outer s H E) [] { nx := fun _ H' => Q .non H', rt := Q }) (cxS CX P w K mg base N qual scope f cdv cc A outer s H E).xe s1) :
    FnOk P w K mg base CX (k + 1) f (ksFn name qual params body scope dV kV doc pm an cdv ct cc) ps sp := by
  refine ⟨len, fun A outer s H args us vs Q E hr e0 hbt r hsp => ?_⟩
  have hl := len _ _ _ _ hsp
  have KX : K.In s.heap := e0.mod.kin.keeps fun b o e => (e0.bs b o e).1
  refine PySem.ks_codeAny_call_defAt hr.depth (KX _ _ lk) rfl (e0.mod.nolimit.keeps fun b o e => (e0.bs b o e).1) (PySem.W.codeRec_of KX hcd) rfl hbt S.nocell (fun x hx => S.par _ (List.of_mem_zip hx).1) (fun h0 hns hk => ?_) S.co S.gen S.kind
  have I := inv_startS (CX := CX) (qual := qual) (f := f) (cdv := cdv) (E := E) (tk := s.toks + (ps.zip us).length) S cell hr.hd e0 hl r hns hk
  refine PySem.ks_wpAt_mono (hb A outer s _ H vs Q E (hr.deeper _) hsp I) (fun fl s' hs => ?_) fun e s' hs => hs
  have fin : ∀ {σ' : L2.St} {H' : Hp} {v : V} {u : Value}, Inv (cxS CX P w K mg base N qual scope f cdv cc A outer s H E) [] σ' H' s' → RelV v u → Q v H' → CE outer P w H s Q u s' := fun {σ' H' v u} J rv q => ⟨v, H', J.os, J.bare, J.base, J.hok, rv, q⟩
  cases fl with
  | ret u =>
    obtain ⟨v, σ', H', J, rv, q⟩ := hs
    exact fin J rv q
  | next =>
    obtain ⟨σ', H', J, q⟩ := hs
    exact fin (v := V.non) (u := Value.none) J rfl q
  | brk =>
    obtain ⟨_, _, _, q⟩ := hs
    exact q.elim
  | cont =>
    obtain ⟨_, _, _, q⟩ := hs
    exact q.elim
end
end My

set_option Elab.async false
set_option maxRecDepth 100000
set_option maxHeartbeats 4000000
set_option linter.all false
namespace My
open PySem PySem.Spec PyProof.Rows L2
open PySem.W (ksEnv ksFn)
/-! super().__init__(..) in the __init__ of an exception class over ValueError -/
/-- what the text says of the class and of the method -/
structure SupE (P : Program) (K : PySem.W.Frag) (mg : Str → Option Value) (C f cc cda : Addr) (x0 : Str) : Prop where
  oex : OexC K C
  fn : ∃ oc od fd osl ar, K.lookup f = some ⟨oc, od, .func fd, osl⟩ ∧ (fd.params.posonlyargs ++ fd.params.args).head? = some ar ∧ ar.arg = x0
  cell : ∃ cl cld csl, K.lookup cc = some ⟨cl, cld, .cell (some (.ref C)), csl⟩
  code : ∃ c d vs sl file tf, K.lookup cda = some ⟨c, d, .fields vs, sl⟩ ∧ vs[2]? = some (.str file tf) ∧ ((P.main.file : Str) == file) = true
  mro : PySem.W.mroIn K C (.ref C) = some true
  bi : mg "super" = none
  top : (P.main.scope.names.lookup ("super" : Str)).isSome = false
  third : PySem.W.nsIn K cStatics "thirdparty.any" = some none
  sup : PySem.W.ks_superIn K C C "__init__" = some (some (.builtin "ValueError.__init__"))
  ve : PySem.W.subIn K (.ref C) (.type "ValueError") = some true
theorem mw_which : (Value.type "method-wrapper" == Value.type "method") = false ∧ (Value.type "method-wrapper" == Value.type "builtin_function_or_method") = false ∧ (Value.type "method-wrapper" == Value.type "method-wrapper") = true := ⟨by decide, by decide, by decide⟩
section
variable {X : Cx} {pins : List (Addr × Obj)} {σ : L2.St} {H : Hp} {s : Shared} {C a u f cc cda : Addr} {us : List Value} {Q : Value → Shared → Prop} {E : Value → Shared → Prop} {x0 qual : Str} {scope : Scope} {A : Around}
/-- the bound wrapper called: only what the exception was told changes -/
theorem call_bound (T : OexC X.K C) (I : Inv X pins σ H s) (e : H a = some (exo a C none)) (hu : s.heap.get? u = some (PySem.W.kxs_mw "ValueError.__init__" a)) (hl : us.length ≤ sizeLine) (h : ∀ s', Inv X pins σ H s' → Q .none s') :
    wpAny (model X.prog X.w) A (call (.ref u) us) Q E s := by
  obtain ⟨nm, q, N, bs, bm, sn, sub, ab, col, dd, k0, k1, k2, k3, k5, hC, hbm⟩ := T.cls
  have hC' := I.kIn _ _ hC
  obtain ⟨t1, ho⟩ := exo_at I.hok e
  obtain ⟨hp, g, d, t, os⟩ := s
  obtain ⟨w1, w2, w3⟩ := mw_which
  refine wpAny_call (codeAny_of_tree ?_)
  show wpAny _ A.in1 (callAny (.ref u) ⟨us, []⟩) _ _ _
  unfold callAny
  refine wpAny_bind (wpAny_load hu ?_)
  simp only [PySem.W.kxs_mw, w1, w2, w3, Bool.or_true, Bool.or_false, if_true]
  refine PySem.W.KFB.if_so (by decide) ?_
  refine wpAny_bind (PySem.W.check_bound_init F.excBase_ValueError.toExcCallFacts hC' ho rfl ?_)
  refine wpAny_bind (wpAny_pure (wpAny_pure ⟨plainId_quiet F.excBase_ValueError.init.plain _, codeAny_builtin F.excBase_ValueError.initEntry ?_⟩))
  refine PySem.W.exc_init_tree (cls := .ref C) (t0 := t1) (dv := none) (c2 := .none) (c3 := .none) (b4 := .bool false) ho hl fun h' k e' _ => ?_
  have J := I.write (t' := t) (x := a) (e := a) (o := exo a C none) (by rw [e]; exact True.intro) (.inl rfl) k ⟨_, e'⟩ (exo_ok e')
  have same : upd H a (exo a C none) = H := funext fun b => by
    by_cases hb : b = a
    · subst hb
      exact upd_same.trans e.symm
    · exact upd_ne hb
  rw [same] at J
  exact h _ J
/-- super().__init__(e, ..) as a body's first statement -/
theorem sup_first {e : Expr} {es : List Expr} {rest body : List Stmt} {ta : TA} {t : TS} {D : Ends} {p0 p1 p2 pos pos' : Pos} (S : SupE X.prog X.K X.mg C f cc cda x0) (hE : X.env = ksEnv qual scope X.env.locals f (.ref cda) cc) (hN : X.N[0]? = some x0)
    (hsup : scope.names.lookup ("super" : Str) = some .globalImplicit) (hcls : scope.names.lookup ("__class__" : Str) = some .free) (hx0 : scope.names.lookup x0 = some .local) (hkind : scope.kind = .function) (hblt : bootBuiltins "super" = some (.type "super")) (hn : ("super" : Str) ≠ "__name__")
    (I : Inv X pins σ H s) (ha : PA X (e :: es) ta) (ht : PSs X rest t) (h0 : σ[0]? = some (some (.ref a))) (ea : H a = some (exo a C none))
    (h : ta σ H fun vs H1 => vs.length ≤ sizeLine ∧ H1 a = some (exo a C none) ∧ t D σ H1)
    (hi : interactive X.env = false) (hsw : swapsWith (.Call (.Attribute (.Call (.Name "super" p0) [] [] p1) "__init__" p2) (e :: es) [] pos) none pos'.line X.env = pure false)
    (pl : Sem Bool) (hev : eval (.Call (.Attribute (.Call (.Name "super" p0) [] [] p1) "__init__" p2) (e :: es) [] pos) X.env = (do
      let ov ← attributeBase (.Call (.Name "super" p0) [] [] p1) "__init__" X.env (eval (.Call (.Name "super" p0) [] [] p1) X.env)
      standAt p2.atName
      let (f, first) ← holding [ov] (getMethod ov "__init__" pl)
      callWith pos f first (backTo pos (starEach (e :: es) X.env)) []))
    (he : starEach (e :: es) X.env = (false, eval e X.env) :: starEach es X.env) (hpl : (backTo pos (starEach es X.env)).any (·.1) = false) :
    _root_.PySem.wpAt (model X.prog X.w) X.A (.func body X.env) (execs (.Expr (.Call (.Attribute (.Call (.Name "super" p0) [] [] p1) "__init__" p2) (e :: es) [] pos) pos' :: rest) X.env) (SP X pins D) X.xe s := by
  obtain ⟨oc, od, fd, osl, ar, lf, hp, har⟩ := S.fn
  obtain ⟨cl, cld, csl, lc⟩ := S.cell
  obtain ⟨k1, k2, vs, k3, file, tf, lcd, hvs, hfile⟩ := S.code
  obtain ⟨nm, q, N, bs, bm, sn, sub, ab, col, dd, m0, m1, m2, m3, m5, hC, hbm⟩ := S.oex.cls
  have hcl : ∃ cd, PySem.W.clsIn X.K C = some cd := ⟨_, by unfold PySem.W.clsIn; rw [hC]⟩
  obtain ⟨cd, hcl⟩ := hcl
  have KX := I.kIn
  obtain ⟨t1, ho⟩ := exo_at I.hok ea
  obtain ⟨mb, hb1, hb2⟩ := I.mod.blt
  refine ks_wpAt_execs_cons (ks_wpAt_Expr_any (ks_wpAt_MethodCall (pl := pl) ?_ hev) hi hsw)
  rw [hE]
  refine ks_wpAt_super_base (env := ksEnv qual scope X.env.locals f (.ref cda) cc) hsup hcls (by decide) rfl (KX _ _ lf) rfl hp rfl (KX _ _ lcd) rfl hvs hfile S.top ?_
  obtain ⟨m, hm, hl⟩ := id I.loc
  obtain ⟨u0, ru, lu⟩ := hl 0 x0 (.ref a) hN h0 (by rw [hE]; exact .inl hx0)
  obtain rfl : u0 = Value.ref a := ru
  have hv : m x0 = some (.ref a) := by
    rcases lu with ⟨_, q⟩ | ⟨q, _⟩
    · exact q
    · rw [hE] at q
      rcases q with q | q <;> rw [show Env.kindOf (ksEnv qual scope X.env.locals f (.ref cda) cc) x0 = some .local from hx0] at q <;> cases q
  refine PySem.W.ks_loadName_global hkind hsup (Calls.loadGlobal_builtin (env := ksEnv qual scope X.env.locals f (.ref cda) cc) (I.mod.glob.keeps I.bk) S.bi (hb1.keeps I.bk) ((hb2 _ hn).trans hblt) ⟨rfl, ?_⟩)
  refine wpAny_loadName_free hkind hcls rfl ⟨_, KX _ _ lc, rfl⟩ ?_
  rw [har]
  refine wpAny_loadName_local hkind hx0 hm hv ?_
  have hCb : H C = none := (I.bs C _ (I.mod.kin _ _ hC)).2
  have aC : a ≠ C := fun z => by
    rw [z, hCb] at ea
    cases ea
  have hC1 := KX _ _ hC
  obtain ⟨hp, g, d, tk, os⟩ := s
  refine ks_wpAny_isType_cls hC1 rfl ⟨rfl, ?_⟩
  refine ks_wpAny_call_super hC1 rfl ho rfl (fun c z => nomatch z) (PySem.W.looks_mroIn KX S.mro) fun h' hso k => ?_
  have KX' : X.K.In h' := KX.keeps k
  have hal : PySem.W.alongIn X.K "__init__" ((cd.mro.dropWhile (· != .ref C)).drop 1) = some (some (.builtin "ValueError.__init__")) := by
    have z := S.sup
    unfold PySem.W.ks_superIn at z
    rw [hcl] at z
    exact z
  have J0 : Inv X pins σ H ⟨h', g, d, tk, os⟩ := I.kept (t' := tk) k
  have hI : PySem.W.Looks (model X.prog X.w) h' (isInstance (.ref a) (.type "ValueError")) true :=
    (show PySem.W.InstAt h' a _ C none from ⟨k _ _ ho, rfl, rfl, trivial⟩).type.andThen (PySem.W.looks_subIn KX' S.ve)
  have hM : PySem.W.Looks (model X.prog X.w) h' (mroOf (.ref C)) cd.mro := fun A Q E s k q => wpAny_bind ((PySem.W.looks_clsIn KX' hcl) A _ E s k (wpAny_pure q))
  refine PySem.W.kxs_getMethod PySem.W.kxs_ValueError hso (PySem.W.looks_opaque KX' S.third) hM rfl KX' hal hI aC (by decide) ?_
  have up : ∀ b o, h'.get? b = some o → (h'.push (PySem.W.kxs_mw "ValueError.__init__" a)).get? b = some o := fun b o z => Heap.get?_push_of_some _ z
  have J1 : Inv X pins σ H ⟨h'.push (PySem.W.kxs_mw "ValueError.__init__" a), g, d, tk + 1, os⟩ := J0.kept (t' := tk + 1) up
  have hu : (h'.push (PySem.W.kxs_mw "ValueError.__init__" a)).get? h'.objs.size = some (PySem.W.kxs_mw "ValueError.__init__" a) := Heap.get?_push_size _ rfl
  have J2 := J1.pinned (fp := [h'.objs.size]) (fun b hb => by
    obtain rfl := List.mem_singleton.mp hb
    exact J0.fpOk (Nat.le_refl _) (J0.hok.fresh (Nat.le_refl _))) fun b hb => by
    obtain rfl := List.mem_singleton.mp hb
    exact ⟨_, hu, fun v z => nomatch z⟩
  rw [← hE]
  rw [he]
  refine PySem.W.kxs_callWith (i := "ValueError.__init__") (x := a) (show (false || (backTo pos (starEach es X.env)).any (·.1)) = false by rw [hpl]; rfl) (PySem.Calls.evalArgs_plain ?_)
  have run := ha.run pos _ _ σ H _ J2 h
  rw [he] at run
  refine wpAny_mono run (fun us s1 ⟨ws, H1, I1, r1, hz, e1, q⟩ => ?_) fun _ _ z => z
  have hu1 : s1.heap.get? h'.objs.size = some (PySem.W.kxs_mw "ValueError.__init__" a) := (I1.pin _ (List.mem_append_right _ (List.mem_append_right _ (mem_pinsAt (List.mem_singleton.mpr rfl) hu)))).1
  refine ⟨hu1, call_bound S.oex (I1.unpinned (pins := pins)) e1 hu1 (r1.length ▸ hz) fun s' J => ?_⟩
  exact wpAt_of_wpAny (ht.run pins s' σ H1 D J q)
end
end My

set_option Elab.async false
set_option maxRecDepth 100000
set_option maxHeartbeats 4000000
set_option linter.all false
namespace My
open PySem PySem.Spec PyProof.Rows L2
/-! repr of nested data, where no repr is under way -/
def rRepr (K : PySem.W.Frag) (u : Nat) : List V → Hp → VK → Prop := fun xs H Q => ∃ (a : Addr) (d : PyData), xs = [.ref a] ∧ Dp K H (.ref a) d ∧ (d.showable = true ∧ d.hasDict = false) ∧ u + (d.depth + 1) < cLine ∧ d.shown.length ≤ sizeLine ∧ Q (.str d.shown) H
theorem call_repr_dp {X : Cx} (hg : X.A.guards = some []) : CallR X (.builtin "repr") (rRepr X.K X.A.units) := by
  intro pins s σ H xs us Q I r h
  obtain ⟨a, d, rfl, hd, ⟨hs, hn⟩, hu, hz, q⟩ := h
  obtain ⟨u, rfl, ru⟩ := vals1 r
  obtain ⟨as, hr⟩ := Dp.reads I d _ _ hd ru
  obtain rfl : u = Value.ref a := ru
  exact repr_of_reads' hr hs (fun e => by rw [hn] at e; cases e) hg hu (fun b o e => e) (fun h' t tk k => ⟨.str d.shown, H, I.kept (t' := tk) k, ⟨t, rfl⟩, q⟩) hz
end My

set_option autoImplicit false
/-! Clauses, pure: what units give, fillings. -/
namespace MC
open Classical
abbrev Cl := List Int
/-- the bit of an item -/
def lit (A : Int → Bool) (x : Int) : Bool := if 0 < x then A x else !A (-x)
def Keeps (A : Int → Bool) (cs : List Cl) : Prop := ∀ c ∈ cs, ∃ x ∈ c, lit A x = true
def Sat (cs : List Cl) : Prop := ∃ A, Keeps A cs
def Nz (cs : List Cl) : Prop := ∀ c ∈ cs, ∀ x ∈ c, x ≠ 0
theorem lit_neg {A : Int → Bool} {x : Int} (h : x ≠ 0) : lit A (-x) = !lit A x := by
  unfold lit
  by_cases c : 0 < x
  · have c2 : ¬ 0 < -x := by omega
    rw [if_pos c, if_neg c2, Int.neg_neg]
  · have c2 : 0 < -x := by omega
    rw [if_neg c, if_pos c2, Bool.not_not]
def rest (l : Int) (c : Cl) : Cl := c.filter fun x => decide (x ≠ -l)
def less (cs : List Cl) (l : Int) : List Cl := (cs.filter fun c => decide (l ∉ c)).map (rest l)
theorem mem_less {cs : List Cl} {l : Int} {d : Cl} : d ∈ less cs l ↔ ∃ c ∈ cs, l ∉ c ∧ rest l c = d := by
  unfold less
  rw [List.mem_map]
  constructor
  · rintro ⟨c, h, e⟩
    obtain ⟨h1, h2⟩ := List.mem_filter.mp h
    exact ⟨c, h1, of_decide_eq_true h2, e⟩
  · rintro ⟨c, h1, h2, e⟩
    exact ⟨c, List.mem_filter.mpr ⟨h1, decide_eq_true h2⟩, e⟩
theorem mem_rest {l x : Int} {c : Cl} : x ∈ rest l c ↔ x ∈ c ∧ x ≠ -l := by
  unfold rest
  rw [List.mem_filter]
  exact ⟨fun ⟨a, b⟩ => ⟨a, of_decide_eq_true b⟩, fun ⟨a, b⟩ => ⟨a, decide_eq_true b⟩⟩
theorem nz_less {cs : List Cl} {l : Int} (h : Nz cs) : Nz (less cs l) := fun d hd x hx => by
  obtain ⟨c, hc, _, rfl⟩ := mem_less.1 hd
  exact h c hc x (mem_rest.1 hx).1
theorem keeps_less {A : Int → Bool} {cs : List Cl} {l : Int} (hl : l ≠ 0) (h : Keeps A cs) (t : lit A l = true) : Keeps A (less cs l) := fun d hd => by
  obtain ⟨c, hc, _, rfl⟩ := mem_less.1 hd
  obtain ⟨x, hx, tx⟩ := h c hc
  refine ⟨x, mem_rest.2 ⟨hx, fun e => ?_⟩, tx⟩
  rw [e, lit_neg hl, t] at tx
  cases tx
def put (A : Int → Bool) (l : Int) : Int → Bool := fun v => if v = l then true else if v = -l then false else A v
theorem lit_put {A : Int → Bool} {l : Int} (hl : l ≠ 0) : lit (put A l) l = true := by
  unfold lit put
  by_cases c : 0 < l
  · rw [if_pos c, if_pos rfl]
  · rw [if_neg c, if_neg (by omega), if_pos rfl] <;> rfl
theorem lit_put_ne {A : Int → Bool} {l x : Int} (h1 : x ≠ l) (h2 : x ≠ -l) : lit (put A l) x = lit A x := by
  unfold lit put
  by_cases c : 0 < x
  · rw [if_pos c, if_pos c, if_neg h1, if_neg h2]
  · rw [if_neg c, if_neg c, if_neg (by omega), if_neg (by omega)]
theorem keeps_put {A : Int → Bool} {cs : List Cl} {l : Int} (hl : l ≠ 0) (h : Keeps A (less cs l)) : Keeps (put A l) cs := fun c hc => by
  by_cases m : l ∈ c
  · exact ⟨l, m, lit_put hl⟩
  · obtain ⟨x, hx, tx⟩ := h _ (mem_less.2 ⟨c, hc, m, rfl⟩)
    obtain ⟨x1, x2⟩ := mem_rest.1 hx
    have x3 : x ≠ l := fun e => m (by rw [← e]; exact x1)
    exact ⟨x, x1, by rw [lit_put_ne x3 x2]; exact tx⟩
theorem sat_less_of {cs : List Cl} {l : Int} (hl : l ≠ 0) (h : Sat (less cs l)) : Sat cs := by
  obtain ⟨A, h⟩ := h
  exact ⟨_, keeps_put hl h⟩
theorem sat_unit {cs : List Cl} {l : Int} (hl : l ≠ 0) (m : [l] ∈ cs) : Sat cs ↔ Sat (less cs l) := by
  refine ⟨fun ⟨A, h⟩ => ⟨A, keeps_less hl h ?_⟩, sat_less_of hl⟩
  obtain ⟨x, hx, t⟩ := h _ m
  rw [List.mem_singleton] at hx
  rw [← hx]
  exact t
theorem sat_split {cs : List Cl} {l : Int} (hl : l ≠ 0) : Sat cs ↔ Sat (less cs l) ∨ Sat (less cs (-l)) := by
  refine ⟨fun ⟨A, h⟩ => ?_, fun h => h.elim (sat_less_of hl) (sat_less_of (by omega))⟩
  cases t : lit A l with
  | true => exact .inl ⟨A, keeps_less hl h t⟩
  | false => exact .inr ⟨A, keeps_less (by omega) h (by rw [lit_neg hl, t] <;> rfl)⟩
theorem not_sat_empty {cs : List Cl} (h : [] ∈ cs) : ¬ Sat cs := fun ⟨A, k⟩ => by
  obtain ⟨x, hx, _⟩ := k _ h
  cases hx
theorem sat_nil : Sat [] := ⟨fun _ => true, fun c h => by cases h⟩
/-- some row is left empty -/
def Bare (cs : List Cl) (l : Int) : Prop := ∃ c ∈ cs, l ∉ c ∧ rest l c = []
theorem bare_iff {cs : List Cl} {l : Int} : Bare cs l ↔ [] ∈ less cs l := by
  rw [mem_less]
  exact Iff.rfl
/-! the variables: the law takes one at a time -/
def vars (cs : List Cl) : List Int := ((cs.flatten).map fun x => if 0 < x then x else -x).eraseDups
def Vin (n : Nat) (cs : List Cl) : Prop := ∃ vs : List Int, vs.length ≤ n ∧ ∀ c ∈ cs, ∀ x ∈ c, (x ∈ vs ∨ -x ∈ vs)
theorem vin_less {n : Nat} {cs : List Cl} {l : Int} {c0 : Cl} (h : Vin n cs) (hc : c0 ∈ cs) (m : l ∈ c0 ∨ -l ∈ c0) : ∃ k, n = k + 1 ∧ Vin k (less cs l) := by
  obtain ⟨vs, hl, hv⟩ := h
  have hm : l ∈ vs ∨ -l ∈ vs := by
    rcases m with m | m
    · exact hv c0 hc l m
    · rcases hv c0 hc _ m with z | z
      · exact .inr z
      · rw [Int.neg_neg] at z; exact .inl z
  have key : ∀ w : Int, w ∈ vs → (w = l ∨ w = -l) → ∃ k, n = k + 1 ∧ Vin k (less cs l) := fun w hw ew => by
    have hlen := List.length_erase_of_mem hw
    have hp : 0 < vs.length := List.length_pos_of_mem hw
    refine ⟨n - 1, by omega, vs.erase w, by omega, fun d hd x hx => ?_⟩
    obtain ⟨c, hc, hn, rfl⟩ := mem_less.1 hd
    obtain ⟨x1, x2⟩ := mem_rest.1 hx
    have x3 : x ≠ l := fun e => hn (by rw [← e]; exact x1)
    rcases hv c hc x x1 with z | z
    · exact .inl ((List.mem_erase_of_ne (by omega)).2 z)
    · exact .inr ((List.mem_erase_of_ne (by omega)).2 z)
  rcases hm with h | h
  · exact key l h (.inl rfl)
  · exact key _ h (.inr rfl)
/-! units -/
inductive Forced (cs : List Cl) (row : Cl) : Int → Prop
  | start {x : Int} : x ∈ row → Forced cs row (-x)
  | unit {c : Cl} {l : Int} : c ∈ cs → l ∈ c → (∀ x ∈ c, x ≠ l → Forced cs row (-x)) → Forced cs row l
def Conf (cs : List Cl) (row : Cl) : Prop := ∃ c ∈ cs, ∀ x ∈ c, Forced cs row (-x)
theorem forced_mono {cs ds : List Cl} {row : Cl} (h : ∀ c, c ∈ cs → c ∈ ds) {x : Int} (f : Forced cs row x) : Forced ds row x := by
  induction f with
  | start m => exact .start m
  | unit hc hl _ ih => exact .unit (h _ hc) hl ih
theorem conf_mono {cs ds : List Cl} {row : Cl} (h : ∀ c, c ∈ cs → c ∈ ds) (f : Conf cs row) : Conf ds row := by
  obtain ⟨c, hc, k⟩ := f
  exact ⟨c, h c hc, fun x hx => forced_mono h (k x hx)⟩
theorem forced_true {cs : List Cl} {row : Cl} {A : Int → Bool} (nz : Nz cs) (_nr : ∀ x ∈ row, x ≠ 0) (k : Keeps A cs) (r : ∀ x ∈ row, lit A (-x) = true) {x : Int} (f : Forced cs row x) : lit A x = true := by
  induction f with
  | start m => exact r _ m
  | @unit c l hc hl _ ih =>
    obtain ⟨x, hx, t⟩ := k c hc
    by_cases e : x = l
    · rw [← e]; exact t
    · have := ih x hx e
      rw [lit_neg (nz c hc x hx), t] at this
      cases this
theorem conf_unsat {cs : List Cl} {row : Cl} (nz : Nz cs) (nr : ∀ x ∈ row, x ≠ 0) (f : Conf cs row) : ¬ Sat (cs ++ row.map fun x => [-x]) := fun ⟨A, k⟩ => by
  obtain ⟨c, hc, h⟩ := f
  have k1 : Keeps A cs := fun c hc => k c (List.mem_append_left _ hc)
  have r : ∀ x ∈ row, lit A (-x) = true := fun x hx => by
    obtain ⟨y, hy, t⟩ := k [-x] (List.mem_append_right _ (List.mem_map.mpr ⟨x, hx, rfl⟩))
    rw [List.mem_singleton] at hy
    rw [← hy]; exact t
  obtain ⟨x, hx, t⟩ := k1 c hc
  have := forced_true nz nr k1 r (h x hx)
  rw [lit_neg (nz c hc x hx), t] at this
  cases this
/-! a set of given items that is closed -/
theorem conf_of {cs : List Cl} {row : Cl} {g : Int → Prop} (sound : ∀ x, g x → Forced cs row x) {c : Cl} (hc : c ∈ cs) (all : ∀ x ∈ c, g (-x)) : Conf cs row := ⟨c, hc, fun x hx => sound _ (all x hx)⟩
theorem not_conf {cs : List Cl} {row : Cl} {g : Int → Prop} (st : ∀ x ∈ row, g (-x)) (two : ∀ x, g x → ¬ g (-x)) (cl : ∀ c ∈ cs, (∃ x ∈ c, g x) ∨ ∃ x ∈ c, ∃ y ∈ c, x ≠ y ∧ ¬ g (-x) ∧ ¬ g (-y)) : ¬ Conf cs row := by
  have all : ∀ x, Forced cs row x → g x := by
    intro x f
    induction f with
    | start m => exact st _ m
    | @unit c l hc hl _ ih =>
      rcases cl c hc with ⟨x, hx, gx⟩ | ⟨x, hx, y, hy, ne, nx, ny⟩
      · by_cases e : x = l
        · rw [← e]; exact gx
        · exact absurd (ih x hx e) (two x gx)
      · by_cases e : x = l
        · exact absurd (ih y hy (fun z => ne (e.trans z.symm))) ny
        · exact absurd (ih x hx e) nx
  rintro ⟨c, hc, h⟩
  rcases cl c hc with ⟨x, hx, gx⟩ | ⟨x, hx, _, _, _, nx, _⟩
  · exact two x gx (all _ (h x hx))
  · exact nx (all _ (h x hx))
end MC

set_option Elab.async false
set_option maxRecDepth 100000
set_option maxHeartbeats 4000000
set_option linter.all false
/-! sorted(xs), of a list or of a set, the items alike data of any depth. -/
namespace My
open PySem PySem.Spec PyProof.Rows L2
open PySem.W (EachIs alike dataLt dataKind keyToks SortsAt AllAlike Sortable sortVals)
abbrev leD (p q : V × PyData) : Bool := PySem.W.sortLe (PyProof.Rows.listOrd PyProof.Rows.itemOrd) false (fun p : V × PyData => keyToks p.2) p q
theorem leD_lt {p q : V × PyData} : leD p q = !dataLt q.2 p.2 := rfl
/-- values and what they read as -/
def Twos (K : PySem.W.Frag) (H : Hp) (ps : List (V × PyData)) : Prop := ∀ p ∈ ps, Dp K H p.1 p.2
theorem twos_of {K : PySem.W.Frag} {H : Hp} : ∀ {xs : List V} {ds : List PyData}, DpAll K H xs ds → ∃ ps : List (V × PyData), ps.map (·.1) = xs ∧ ps.map (·.2) = ds ∧ Twos K H ps
  | _, _, .nil => ⟨[], rfl, rfl, fun p h => by cases h⟩
  | _, _, .cons (v := v) (d := d) h t => by
    obtain ⟨ps, h1, h2, h3⟩ := twos_of t
    refine ⟨(v, d) :: ps, by rw [List.map_cons, h1], by rw [List.map_cons, h2], fun p hp => ?_⟩
    rcases List.mem_cons.mp hp with e | hp
    · rw [e]; exact h
    · exact h3 p hp
theorem Twos.all {K : PySem.W.Frag} {H : Hp} : ∀ {ps : List (V × PyData)}, Twos K H ps → DpAll K H (ps.map (·.1)) (ps.map (·.2))
  | [], _ => .nil
  | p :: ps, h => .cons (h p List.mem_cons_self) (Twos.all fun q hq => h q (List.mem_cons_of_mem _ hq))
theorem each_vals : ∀ {ps : List (V × PyData)} {us : List Value}, Vals (ps.map (·.1)) us → EachIs (fun u (p : V × PyData) => RelV p.1 u) us ps
  | [], _, .nil => .nil
  | p :: ps, _, .cons r t => .cons r (each_vals t)
theorem vals_each : ∀ {ps : List (V × PyData)} {us : List Value}, EachIs (fun u (p : V × PyData) => RelV p.1 u) us ps → Vals (ps.map (·.1)) us
  | _, _, .nil => .nil
  | _, _, .cons r t => .cons r (vals_each t)
theorem each_snd {R : Value → PyData → Prop} : ∀ {us : List Value} {ps : List (V × PyData)}, EachIs (fun u (p : V × PyData) => R u p.2) us ps → EachIs R us (ps.map (·.2))
  | _, _, .nil => .nil
  | _, _, .cons r t => .cons r (each_snd t)
/-- what sorting gives -/
structure SortedD (ps qs : List (V × PyData)) : Prop where
  perm : qs.Perm ps
  asc : qs.Pairwise fun p q => dataLt q.2 p.2 = false
theorem sortedD_of (ps : List (V × PyData)) : SortedD ps (ps.mergeSort leD) where
  perm := List.mergeSort_perm _ _
  asc := by
    have := PySem.W.sort_pairwise (PySem.W.sortLe_total (PyProof.Rows.listOrd PyProof.Rows.itemOrd) false fun p : V × PyData => keyToks p.2) ps
    refine List.Pairwise.imp (fun {p q} h => ?_) this
    have h' : (!dataLt q.2 p.2) = true := h
    cases e : dataLt q.2 p.2 with
    | false => rfl
    | true => rw [e] at h'; cases h'
section
variable {X : Cx} {pins : List (Addr × Obj)} {σ : L2.St} {H : Hp} {s : Shared}
theorem reads_each (I : Inv X pins σ H s) : ∀ {ps : List (V × PyData)} {us : List Value}, Twos X.K H ps → Vals (ps.map (·.1)) us → EachIs (fun u (p : V × PyData) => ∃ as, Reads s.heap u p.2 as) us ps
  | [], _, _, .nil => .nil
  | p :: ps, _, h, .cons r t => .cons (Dp.reads I p.2 p.1 _ (h p List.mem_cons_self) r) (reads_each I (fun q hq => h q (List.mem_cons_of_mem _ hq)) t)
/-- the sorted values, told -/
theorem sorted_each {h : Heap} {ps : List (V × PyData)} {us : List Value} (hal : AllAlike (ps.map (·.2))) (r : Vals (ps.map (·.1)) us) (e : EachIs (fun u (p : V × PyData) => ∃ as, Reads h u p.2 as) us ps) : EachIs (fun u (p : V × PyData) => RelV p.1 u) (sortVals (dataKind h (ps.map (·.2))) false us us) (ps.mergeSort leD) := by
  refine PySem.W.sortVals_each (κ := dataKind h (ps.map (·.2))) (fun p : V × PyData => keyToks p.2) (each_vals r) ?_
  have key : ∀ {qs : List (V × PyData)} {us : List Value}, (∀ q ∈ qs, q ∈ ps) → EachIs (fun u (p : V × PyData) => ∃ as, Reads h u p.2 as) us qs → EachIs (fun v (b : V × PyData) => (dataKind h (ps.map (·.2))).keyOf v = some (keyToks b.2)) us qs := by
    intro qs us hq e
    induction e with
    | nil => exact .nil
    | @cons u p us qs h1 _ ih =>
      obtain ⟨as, h1⟩ := h1
      exact .cons (PySem.W.dataKind_some hal (List.mem_map.mpr ⟨p, hq p List.mem_cons_self, rfl⟩) h1) (ih fun q m => hq q (List.mem_cons_of_mem _ m))
  exact key (fun q m => m) e
theorem sorts_at {P : Program} {w : World} {A : Around} {s0 s1 : Shared} {ps : List (V × PyData)} {us : List Value} (e : EachIs (fun u (p : V × PyData) => ∃ as, Reads s0.heap u p.2 as) us ps) (kp : ∀ b o, s0.heap.get? b = some o → s1.heap.get? b = some o) (hal : AllAlike (ps.map (·.2))) (hk : Sortable (ps.map (·.2))) (hu : ∀ d, d ∈ ps.map (·.2) → A.units + d.depth < cLine) :
    SortsAt P w A s1 (dataKind s1.heap (ps.map (·.2))) us := by
  refine SortsAt.data (each_snd (R := fun u d => ∃ as, Reads s1.heap u d as) ?_) hal hk hu
  exact EachIs.mono (fun u p ⟨as, r⟩ => ⟨as, PyProof.Rows.Reads.keeps kp r⟩) e
/-- sorted(xs), xs a list -/
def rSortedD (K : PySem.W.Frag) : List V → Hp → VK → Prop := fun vs H Q => ∃ (a : Addr) (ps : List (V × PyData)), vs = [V.ref a] ∧ SqL K H a (ps.map (·.1)) ∧ Twos K H ps ∧ AllAlike (ps.map (·.2)) ∧ Sortable (ps.map (·.2)) ∧ (∀ p ∈ ps, p.2.depth ≤ 60) ∧
  ∀ qs p, SortedD ps qs → H p = none → Q (.ref p) (upd H p (.lst (qs.map (·.1))))
theorem cr_sortedD (hu : X.A.units + 64 < cLine) : CallR X (.builtin "sorted") (rSortedD X.K) := by
  intro pins s σ H vs us Q I r h
  obtain ⟨a, ps, rfl, hs, hd, hal, hk, hdp, q⟩ := h
  obtain ⟨its, rv, hl, hz⟩ := I.list hs
  obtain ⟨u, rfl, ru⟩ := vals1 r
  obtain rfl : u = Value.ref a := ru
  have e0 := reads_each I hd rv
  have kp1 : ∀ b o, s.heap.get? b = some o → (PySem.W.sortingHeap (PySem.W.copyHeap s.heap its) (s.heap.objs.size + 1) its).get? b = some o := fun b o e => PySem.W.sorting_copy_old e
  have S := sorts_at (P := X.prog) (w := X.w) (A := X.A.in1.in1) (s0 := s) (s1 := { s with heap := PySem.W.sortingHeap (PySem.W.copyHeap s.heap its) (s.heap.objs.size + 1) its }) e0 kp1 hal hk fun d m => by
    obtain ⟨p, hp, rfl⟩ := List.mem_map.mp m
    have := hdp p hp
    show X.A.units + 1 + 1 + p.2.depth < cLine
    omega
  refine PySem.W.sorted_vals hl.isList S (by rw [← rv.length]; exact hz) ?_
  have e1 : EachIs (fun u (p : V × PyData) => ∃ as, Reads (PySem.W.sortingHeap (PySem.W.copyHeap s.heap its) (s.heap.objs.size + 1) its) u p.2 as) its ps := EachIs.mono (fun u p ⟨as, r⟩ => ⟨as, PyProof.Rows.Reads.keeps kp1 r⟩) e0
  have out := vals_each (sorted_each hal rv e1)
  have hperm := (sortedD_of ps).perm
  obtain ⟨ep, he'⟩ := sortedAll_at s.heap its (sortVals (dataKind (PySem.W.sortingHeap (PySem.W.copyHeap s.heap its) (s.heap.objs.size + 1) its) (ps.map (·.2))) false its its).toArray
  refine ⟨.ref _, upd H (s.heap.objs.size + 1) (.lst ((ps.mergeSort leD).map (·.1))), I.laid (t' := s.toks) (fun _ _ => sortedAll_old) (Nat.le_succ _) ⟨?_, _, ep, out, he'⟩, rfl, q _ _ (sortedD_of ps) (I.hok.fresh (Nat.le_succ _))⟩
  rw [List.length_map, hperm.length_eq, ← List.length_map (f := (·.1))]
  exact hz
/-! ### a set, its values -/
structure SetV0 (w : World) (h : Heap) (a : Addr) (vs : List V) : Prop where
  ex : ∃ (es : Array (Int × Value)) (ep : Nat) (t : SetTable), (∃ o, h.get? a = some o ∧ o.ExactSet ∧ o.data = .set es ep t) ∧ t.fits es.size = true ∧ Ris t.place.toList ∧ (w.params.followText "set-order" = true ∨ t.led = true) ∧ es.size < 2000 ∧ Vals vs (es.toList.map (·.2))
def SetV (w : World) (a : Addr) (vs : List V) : HO := .ext fun h => SetV0 w h a vs
theorem setV_new {P : Program} {w : World} {H : Hp} {h : Heap} {a : Addr} {vs : List V} (R : SetV0 w h a vs) : ObjOk P w H h a (SetV w a vs) := by
  have ⟨es, ep, t, ⟨o, ho, r⟩, q⟩ := R.ex
  refine ⟨R, ⟨o, ho⟩, fun h1 h2 p k => ?_⟩
  have ⟨es', ep', t', ⟨o', ho', r'⟩, q'⟩ := SetV0.ex p
  exact ⟨es', ep', t', ⟨o', k o' ho', r'⟩, q'⟩
end
theorem each_perm {α β : Type} {R : α → β → Prop} : ∀ {us us' : List α}, us'.Perm us → ∀ {bs : List β}, EachIs R us bs → ∃ bs', EachIs R us' bs' ∧ bs'.Perm bs := by
  intro us us' p
  induction p with
  | nil => intro bs h; exact ⟨bs, h, .refl _⟩
  | cons x _ ih =>
    intro bs h
    cases h with
    | cons r t =>
      obtain ⟨bs', e, pm⟩ := ih t
      exact ⟨_ :: bs', .cons r e, pm.cons _⟩
  | swap x y l =>
    intro bs h
    cases h with
    | cons r t =>
      cases t with
      | cons r2 t2 => exact ⟨_, .cons r2 (.cons r t2), .swap _ _ _⟩
  | trans _ _ ih1 ih2 =>
    intro bs h
    obtain ⟨b2, e2, p2⟩ := ih2 h
    obtain ⟨b1, e1, p1⟩ := ih1 e2
    exact ⟨b1, e1, p1.trans p2⟩
section
variable {X : Cx}
/-- sorted(xs), xs a set -/
def rSortedS (K : PySem.W.Frag) (w : World) : List V → Hp → VK → Prop := fun vs H Q => ∃ (a : Addr) (ps : List (V × PyData)), vs = [V.ref a] ∧ H a = some (SetV w a (ps.map (·.1))) ∧ Twos K H ps ∧ AllAlike (ps.map (·.2)) ∧ Sortable (ps.map (·.2)) ∧ (∀ p ∈ ps, p.2.depth ≤ 60) ∧
  ∀ qs p, SortedD ps qs → H p = none → Q (.ref p) (upd H p (.lst (qs.map (·.1))))
theorem cr_sortedS (hc : X.calm = true) (hu : X.A.units + 64 < cLine) : CallR X (.builtin "sorted") (rSortedS X.K X.w) := by
  intro pins s σ H vs us Q I r h
  obtain ⟨a, ps, rfl, ha, hd, hal, hk, hdp, q⟩ := h
  have R : SetV0 X.w s.heap a (ps.map (·.1)) := (I.hok a _ ha).1
  obtain ⟨es, ep, t, ⟨o, ho, hex, hdt⟩, hf, hr, hl, hsz, rv⟩ := R.ex
  obtain ⟨u, rfl, ru⟩ := vals1 r
  obtain rfl : u = Value.ref a := ru
  have e0 := reads_each I hd rv
  refine Calls.call_function_entry kind_sorted plain_sorted entry_sorted (args_sorted1 _) ?_
  unfold Builtin.«sorted»
  refine wpAny_bind (m := checkCount "sorted" 1 1 _) (wpAny_pure ?_)
  refine wpAny_bind (collect_set (A := X.A.in1) (I.ok.hd hc) ⟨o, ho, hex.1, hdt⟩ hf (by unfold scanBound; omega) hr hl fun s1 vs k1 hz g1 o1 pm => ?_)
  obtain ⟨ps1, e1, pm1⟩ := each_perm pm (R := fun u (p : V × PyData) => RelV p.1 u ∧ ∃ as, Reads s.heap u p.2 as) (bs := ps) (by
    have := each_vals rv
    have key : ∀ {us : List Value} {ps : List (V × PyData)}, EachIs (fun u (p : V × PyData) => RelV p.1 u) us ps → EachIs (fun u (p : V × PyData) => ∃ as, Reads s.heap u p.2 as) us ps → EachIs (fun u (p : V × PyData) => RelV p.1 u ∧ ∃ as, Reads s.heap u p.2 as) us ps := by
      intro us ps h1 h2
      induction h1 with
      | nil => exact .nil
      | cons a _ ih =>
        cases h2 with
        | cons b t => exact .cons ⟨a, b⟩ (ih t)
    exact key this e0)
  have hvl : vs.length < 2000 := by
    rw [pm.length_eq, List.length_map, Array.length_toList]
    exact hsz
  have hvz : vs.length ≤ sizeLine := by rw [sizeLine_eq]; omega
  refine wpAny_bind (wpAny_newList ?_ hvz)
  have hoL : (s1.heap.push (seqObj "list" vs.toArray 0)).get? s1.heap.objs.size = some (seqObj "list" vs.toArray 0) := Heap.get?_push_size _ rfl
  have kp1 : ∀ b o, s.heap.get? b = some o → (PySem.W.sortingHeap (s1.heap.push (seqObj "list" vs.toArray 0)) s1.heap.objs.size vs).get? b = some o := fun b o e => by
    have e2 := k1 b o e
    exact PySem.W.sortingHeap_old (Nat.ne_of_lt (Heap.lt_size e2)) (Heap.get?_push_of_some _ e2)
  have hal1 : AllAlike (ps1.map (·.2)) := fun d hd d' hd' => hal d ((pm1.map (·.2)).mem_iff.mp hd) d' ((pm1.map (·.2)).mem_iff.mp hd')
  have hk1 : Sortable (ps1.map (·.2)) := by
    rcases hk with k | k
    · exact .inl fun d m => k d ((pm1.map (·.2)).mem_iff.mp m)
    · exact .inr fun d m => k d ((pm1.map (·.2)).mem_iff.mp m)
  have er : EachIs (fun u (p : V × PyData) => ∃ as, Reads s.heap u p.2 as) vs ps1 := EachIs.mono (fun u p h => h.2) e1
  have S := sorts_at (P := X.prog) (w := X.w) (A := X.A.in1.in1) (s0 := s) (s1 := { s1 with heap := PySem.W.sortingHeap (s1.heap.push (seqObj "list" vs.toArray 0)) s1.heap.objs.size vs }) er kp1 hal1 hk1 fun d m => by
    obtain ⟨p, hp, rfl⟩ := List.mem_map.mp m
    have := hdp p (pm1.mem_iff.mp hp)
    show X.A.units + 1 + 1 + p.2.depth < cLine
    omega
  refine wpAny_bind (wpAny_holding (wpAny_call_entry slot_list_sort ⟨_, hoL, rfl⟩ entry_list_sort (PySem.W.list_sort_vals (s := { s1 with heap := s1.heap.push (seqObj "list" vs.toArray 0) }) hoL S hvz ⟨_, rfl, ?_⟩) (args_list_sort _)))
  have rv1 : Vals (ps1.map (·.1)) vs := vals_each (EachIs.mono (fun u p h => h.1) e1)
  have out := vals_each (sorted_each hal1 rv1 (EachIs.mono (fun u p ⟨as, r⟩ => ⟨as, PyProof.Rows.Reads.keeps kp1 r⟩) er))
  have sd := sortedD_of ps1
  obtain ⟨c, hc'⟩ := sortedHeap_at (vs := vs) (out := (sortVals (dataKind (PySem.W.sortingHeap (s1.heap.push (seqObj "list" vs.toArray 0)) s1.heap.objs.size vs) (ps1.map (·.2))) false vs vs).toArray) hoL
  have hn : H s1.heap.objs.size = none := I.hok.fresh hz
  have keep : ∀ b u, s.heap.get? b = some u → (sortedHeap (s1.heap.push (seqObj "list" vs.toArray 0)) s1.heap.objs.size vs (sortVals (dataKind (PySem.W.sortingHeap (s1.heap.push (seqObj "list" vs.toArray 0)) s1.heap.objs.size vs) (ps1.map (·.2))) false vs vs).toArray).get? b = some u := fun b u e => by
    have q := k1 b u e
    have hlt := Heap.lt_size q
    rw [sortedHeap_old (Nat.ne_of_lt hlt) (by rw [size_push']; exact Nat.lt_succ_of_lt hlt)]
    exact Heap.get?_push_of_some _ q
  have hlen : ((ps1.mergeSort leD).map (·.1)).length ≤ sizeLine := by
    rw [List.length_map, sd.perm.length_eq, ← List.length_map (f := (·.1)), rv1.length]
    exact hvz
  have J : Inv X pins σ (upd H s1.heap.objs.size (.lst ((ps1.mergeSort leD).map (·.1)))) { s with heap := _, gens := s1.gens, drawn := s1.drawn, toks := s1.toks } :=
    I.call (ch := []) (Un.laid keep hz hn) (I.hok.laid keep hz ⟨hlen, _, c, out, hc'⟩) (by rw [g1]; exact I.bare) (fun _ z => nomatch z)
  have e2 : ∀ hh : Heap, ({ heap := hh, gens := s1.gens, drawn := s1.drawn, toks := s1.toks, os := s1.os } : Shared) = { s with heap := hh, gens := s1.gens, drawn := s1.drawn, toks := s1.toks } := fun hh => by rw [o1]
  refine wpAny_pure ⟨_, rfl, ?_⟩
  show EP X pins σ Q _ ({ heap := _, gens := s1.gens, drawn := s1.drawn, toks := s1.toks, os := s1.os } : Shared)
  rw [e2]
  exact ⟨.ref s1.heap.objs.size, _, J, rfl, q _ _ ⟨sd.perm.trans pm1, sd.asc⟩ hn⟩
end
end My

set_option Elab.async false
set_option maxRecDepth 100000
set_option maxHeartbeats 4000000
set_option linter.all false
/-! Rules that the clauses' laws share. -/
namespace My
open PySem L2
theorem ints_all {K : PySem.W.Frag} {H : Hp} : ∀ c : List Int, DpAll K H (c.map V.int) (c.map PyData.int)
  | [] => .nil
  | x :: c => .cons (.int x) (ints_all c)
theorem inV_ints {x : Int} : ∀ {ms : List Int}, inV (.int x) (ms.map V.int) = decide (x ∈ ms)
  | [] => by simp [inV]
  | y :: ys => by
    have ih := inV_ints (x := x) (ms := ys)
    unfold inV at ih ⊢
    rw [List.map_cons, List.any_cons, ih]
    show (y == x || decide (x ∈ ys)) = decide (x ∈ y :: ys)
    by_cases h : y = x
    · subst h
      simp
    · have h' : ¬ x = y := fun e => h e.symm
      simp [h, h']
theorem flat_ints : ∀ ms : List Int, (ms.map V.int).all flatV = true
  | [] => rfl
  | x :: ms => by rw [List.map_cons, List.all_cons, flat_ints ms] <;> rfl
/-! rules within a comprehension: the fragment named from outside -/
section
variable {X : Cx} {K : PySem.W.Frag}
theorem ix_seqK (h : X.K = K) : IxR X (rIx K) := h ▸ ix_seq
theorem ix_listK (h : X.K = K) : IxR X (rIxL K) := h ▸ ix_list
theorem ix_tupK (h : X.K = K) : IxR X (rIxT K) := h ▸ ix_tup
theorem call_len_seqK (h : X.K = K) : CallR X (.builtin "len") (fun xs H Q => ∃ p ys, xs = [.ref p] ∧ (SqL K H p ys ∨ SqT K H p ys) ∧ Q (.int ys.length) H) := h ▸ call_len_seq
theorem op_in_seqK (h : X.K = K) : OpR X (compareOp .In) (rIn K false) := h ▸ op_in_seq
theorem op_notIn_seqK (h : X.K = K) : OpR X (compareOp .NotIn) (rIn K true) := h ▸ op_notIn_seq
theorem op_neDK (h : X.K = K) (hu : X.A.units + 64 < cLine) : OpR X (compareOp .NotEq) (rNeD K) := h ▸ op_neD hu
theorem op_eqDK (h : X.K = K) (hu : X.A.units + 64 < cLine) : OpR X (compareOp .Eq) (rEqD K) := h ▸ op_eqD hu
end
section
variable {X : Cx} {tg : Expr}
/-- over a list or a tuple -/
def iSeq (K : PySem.W.Frag) (tl : TE) : TI := fun σ H R => tl σ H fun x H1 => ∃ a, x = .ref a ∧ (((∃ xs, SqL K H1 a xs) ∧ R (Itl K a) H1) ∨ ((∃ xs, SqT K H1 a xs) ∧ R (Itt K a) H1))
theorem pi_seq {l : Expr} {tl : TE} (hl : PE X l tl) : PI X tg l (iSeq X.K tl) := by
  refine ⟨fun pins s σ H R I h => ?_⟩
  refine thn (hl.run pins s σ H _ I h) fun v s1 ⟨x, H1, I1, r1, q1⟩ => ?_
  have none' : ∀ b ∈ [s1.heap.objs.size], FpOk X pins H1 b := fun b hb => by
    have e : b = s1.heap.objs.size := by simpa using hb
    rw [e]
    exact I1.fpOk (Nat.le_refl _) (I1.hok.fresh (Nat.le_refl _))
  obtain ⟨a, rfl, ⟨⟨xs, hq⟩, q⟩ | ⟨⟨xs, hq⟩, q⟩⟩ := q1
  · obtain ⟨its, _, p, _⟩ := I1.list hq
    obtain rfl : v = Value.ref a := r1
    exact wpAny_pyIter_list p.isList ⟨_, _, _, _, H1, rfl, I1.kept (t' := s1.toks) fun b o e => Heap.get?_push_of_some _ e, turn_list a _, ⟨_, Heap.get?_push_size _ rfl, rfl, rfl⟩, none', q⟩
  · obtain ⟨its, _, p, _⟩ := I1.tuple hq
    obtain rfl : v = Value.ref a := r1
    exact wpAny_pyIter_tuple (show s1.heap.IsTuple a its.toArray from p) ⟨_, _, _, _, H1, rfl, I1.kept (t' := s1.toks) fun b o e => Heap.get?_push_of_some _ e, turn_tuple a _, ⟨_, Heap.get?_push_size _ rfl, rfl, rfl⟩, none', q⟩
end
end My

set_option Elab.async false
set_option maxRecDepth 100000
set_option maxHeartbeats 4000000
set_option linter.all false
/-! Plain values as data: what asks them. -/
namespace My
open PySem PySem.Spec PyProof.Rows L2
mutual
/-- texts are not long -/
def short : PyData → Bool
  | .str x => decide (x.length ≤ 1000)
  | .list ds => decide (ds.length ≤ 1000) && shorts ds
  | .tuple ds => decide (ds.length ≤ 1000) && shorts ds
  | _ => true
def shorts : List PyData → Bool
  | [] => true
  | d :: ds => short d && shorts ds
end
theorem shorts_of : ∀ {ds : List PyData}, shorts ds = true → ∀ d ∈ ds, short d = true
  | x :: xs, h, d, hm => by
    have h' := Bool.and_eq_true_iff.mp (show (short x && shorts xs) = true from h)
    rcases List.mem_cons.mp hm with e | hm
    · rw [e]; exact h'.1
    · exact shorts_of h'.2 d hm
def okD (d : PyData) : Prop := d.canLay0 = true ∧ d.depth ≤ 60 ∧ short d = true
theorem okD.sh {d : PyData} (h : okD d) : SeqAt.shaped d = true := by
  show (d.canLay0 && decide (d.depth ≤ 64)) = true
  rw [h.1, decide_eq_true (by have := h.2.1; omega)] <;> rfl
theorem okAll_of : ∀ {ds : List PyData} {n : Nat}, PyData.canLayAll0 ds = true → PyData.depthAll ds ≤ n → ∀ d ∈ ds, d.canLay0 = true ∧ d.depth ≤ n
  | [], _, _, _, d, h => by cases h
  | x :: xs, n, h, hd, d, hm => by
    simp only [PyData.canLayAll0, Bool.and_eq_true] at h
    simp only [PyData.depthAll] at hd
    rcases List.mem_cons.mp hm with e | hm
    · rw [e]; exact ⟨h.1, by omega⟩
    · exact okAll_of h.2 (by omega) d hm
theorem okD_tlen {ds : List PyData} (h : okD (.tuple ds)) : ds.length ≤ 1000 := of_decide_eq_true (Bool.and_eq_true_iff.mp (show (decide (ds.length ≤ 1000) && shorts ds) = true from h.2.2)).1
theorem okD_tup {ds : List PyData} (h : okD (.tuple ds)) : ∀ d ∈ ds, okD d := fun d hd => by
  obtain ⟨h1, h2, h3⟩ := h
  have h3 := (Bool.and_eq_true_iff.mp (show (decide (ds.length ≤ 1000) && shorts ds) = true from h3)).2
  simp only [PyData.canLay0] at h1
  simp only [PyData.depth] at h2
  have := okAll_of (n := 59) h1 (by omega) d hd
  exact ⟨this.1, by omega, shorts_of h3 d hd⟩
theorem okD_lst {ds : List PyData} (h : okD (.list ds)) : ∀ d ∈ ds, okD d := fun d hd => by
  obtain ⟨h1, h2, h3⟩ := h
  have h3 := (Bool.and_eq_true_iff.mp (show (decide (ds.length ≤ 1000) && shorts ds) = true from h3)).2
  simp only [PyData.canLay0] at h1
  simp only [PyData.depth] at h2
  have := okAll_of (n := 59) h1 (by omega) d hd
  exact ⟨this.1, by omega, shorts_of h3 d hd⟩
theorem okD_int (i : Int) : okD (.int i) := ⟨rfl, by simp [PyData.depth], rfl⟩
theorem okD_nil : okD (.tuple []) := ⟨rfl, by decide, rfl⟩
theorem okD_nilL : okD (.list []) := ⟨rfl, by decide, rfl⟩
/-! isinstance -/
def tyN : PyData → String
  | .none => "NoneType"
  | .bool _ => "bool"
  | .int _ => "int"
  | .str _ => "str"
  | .list _ => "list"
  | .tuple _ => "tuple"
  | .dict _ => "dict"
theorem ty_dp {K : PySem.W.Frag} {H : Hp} {v : V} {d : PyData} (h : Dp K H v d) : TyX K H v (.type (tyN d)) := by
  cases h with
  | non => exact .base .non
  | bl b => exact .base (.bl b)
  | int i => exact .base (.int i)
  | str x => exact .base (.str x)
  | lst hs ha =>
    rcases hs with (h | ⟨o, h⟩) | ⟨o, its, n, hk, hc, hd, hs, hz, r⟩
    · exact .base (.lst h)
    · exact .base (.frz h)
    · exact .kList hk hc
  | tup hs ha =>
    rcases hs with (h | ⟨o, h⟩) | ⟨o, its, n, hk, hc, hs, hz, r⟩
    · exact .base (.tup h)
    · exact .fTuple h
    · exact .kTuple hk hc
def isI : PyData → Bool
  | .int _ => true
  | .bool _ => true
  | _ => false
def isB : PyData → Bool
  | .bool _ => true
  | _ => false
def isS : PyData → Bool
  | .str _ => true
  | _ => false
def isT : PyData → Bool
  | .tuple _ => true
  | _ => false
def isL : PyData → Bool
  | .list _ => true
  | _ => false
theorem kit_I : ∀ d : PyData, kitB (tyN d) "int" = some (isI d)
  | .none => (by decide +kernel : kitB "NoneType" "int" = some false)
  | .bool _ => (by decide +kernel : kitB "bool" "int" = some true)
  | .int _ => (by decide +kernel : kitB "int" "int" = some true)
  | .str _ => (by decide +kernel : kitB "str" "int" = some false)
  | .list _ => (by decide +kernel : kitB "list" "int" = some false)
  | .tuple _ => (by decide +kernel : kitB "tuple" "int" = some false)
  | .dict _ => (by decide +kernel : kitB "dict" "int" = some false)
theorem kit_B : ∀ d : PyData, kitB (tyN d) "bool" = some (isB d)
  | .none => (by decide +kernel : kitB "NoneType" "bool" = some false)
  | .bool _ => (by decide +kernel : kitB "bool" "bool" = some true)
  | .int _ => (by decide +kernel : kitB "int" "bool" = some false)
  | .str _ => (by decide +kernel : kitB "str" "bool" = some false)
  | .list _ => (by decide +kernel : kitB "list" "bool" = some false)
  | .tuple _ => (by decide +kernel : kitB "tuple" "bool" = some false)
  | .dict _ => (by decide +kernel : kitB "dict" "bool" = some false)
theorem kit_S : ∀ d : PyData, kitB (tyN d) "str" = some (isS d)
  | .none => (by decide +kernel : kitB "NoneType" "str" = some false)
  | .bool _ => (by decide +kernel : kitB "bool" "str" = some false)
  | .int _ => (by decide +kernel : kitB "int" "str" = some false)
  | .str _ => (by decide +kernel : kitB "str" "str" = some true)
  | .list _ => (by decide +kernel : kitB "list" "str" = some false)
  | .tuple _ => (by decide +kernel : kitB "tuple" "str" = some false)
  | .dict _ => (by decide +kernel : kitB "dict" "str" = some false)
theorem kit_T : ∀ d : PyData, kitB (tyN d) "tuple" = some (isT d)
  | .none => (by decide +kernel : kitB "NoneType" "tuple" = some false)
  | .bool _ => (by decide +kernel : kitB "bool" "tuple" = some false)
  | .int _ => (by decide +kernel : kitB "int" "tuple" = some false)
  | .str _ => (by decide +kernel : kitB "str" "tuple" = some false)
  | .list _ => (by decide +kernel : kitB "list" "tuple" = some false)
  | .tuple _ => (by decide +kernel : kitB "tuple" "tuple" = some true)
  | .dict _ => (by decide +kernel : kitB "dict" "tuple" = some false)
theorem kit_L : ∀ d : PyData, kitB (tyN d) "list" = some (isL d)
  | .none => (by decide +kernel : kitB "NoneType" "list" = some false)
  | .bool _ => (by decide +kernel : kitB "bool" "list" = some false)
  | .int _ => (by decide +kernel : kitB "int" "list" = some false)
  | .str _ => (by decide +kernel : kitB "str" "list" = some false)
  | .list _ => (by decide +kernel : kitB "list" "list" = some true)
  | .tuple _ => (by decide +kernel : kitB "tuple" "list" = some false)
  | .dict _ => (by decide +kernel : kitB "dict" "list" = some false)
/-- isinstance(x, T), x data, T a built-in type -/
def rIsiD (K : PySem.W.Frag) : List V → Hp → VK → Prop := fun xs H Q => ∃ (v : V) (d : PyData) (T : String) (b : Bool), xs = [v, .ty T] ∧ Dp K H v d ∧ kitB (tyN d) T = some b ∧ Q (.bl b) H
section
variable {X : Cx}
theorem cr_isiD : CallR X (.builtin "isinstance") (rIsiD X.K) := by
  intro pins s σ H xs us Q I r h
  obtain ⟨v, d, T, b, rfl, hd, hk, q⟩ := h
  exact call_isi pins s σ H _ us Q I r ⟨v, .ty T, .type (tyN d), .type T, b, rfl, .ty T, ty_dp hd, kit_ty hk, q⟩
theorem cr_isiDK {K : PySem.W.Frag} (h : X.K = K) : CallR X (.builtin "isinstance") (rIsiD K) := h ▸ cr_isiD
/-! in: lists and tuples of data -/
def rInDD (K : PySem.W.Frag) (neg : Bool) : R2 := fun x y H Q => ∃ (d : PyData) (ds : List PyData), Dp K H x d ∧ (Dp K H y (.list ds) ∨ Dp K H y (.tuple ds)) ∧ okD d ∧ okD (.list ds) ∧ Q (.bl (if neg then !ds.any fun z => PyData.eqv z d else ds.any fun z => PyData.eqv z d)) H
theorem room_in2 {A : Around} {d : PyData} {ds : List PyData} (hd : okD d) (hu : A.units + 65 < cLine) : A.units + 1 + min (PyData.depthAll ds) d.depth < cLine := by
  have h1 := hd.2.1
  have h2 : min (PyData.depthAll ds) d.depth ≤ d.depth := Nat.min_le_right _ _
  omega
theorem op_inDD (hu : X.A.units + 65 < cLine) : OpR X (compareOp .In) (rInDD X.K false) := by
  intro pins s σ H x y v u Q I rx ry h
  obtain ⟨d, ds, hd, he, sd, se, q⟩ := h
  obtain ⟨as, r1⟩ := Dp.reads I d x v hd rx
  have lay : PyData.canLayAll0 ds = true := by have := se.1; simpa only [PyData.canLay0] using this
  rcases he with he | he
  · obtain ⟨bs, r2⟩ := Dp.reads I (.list ds) y u he ry
    exact SeqAt.in_list_reads r2 r1 lay sd.1 (room_in2 sd hu) ⟨.bl _, H, I, rfl, q⟩
  · obtain ⟨bs, r2⟩ := Dp.reads I (.tuple ds) y u he ry
    exact SeqAt.in_tuple_reads r2 r1 lay sd.1 (room_in2 sd hu) ⟨.bl _, H, I, rfl, q⟩
theorem op_notInDD (hu : X.A.units + 65 < cLine) : OpR X (compareOp .NotIn) (rInDD X.K true) := by
  intro pins s σ H x y v u Q I rx ry h
  obtain ⟨d, ds, hd, he, sd, se, q⟩ := h
  obtain ⟨as, r1⟩ := Dp.reads I d x v hd rx
  have lay : PyData.canLayAll0 ds = true := by have := se.1; simpa only [PyData.canLay0] using this
  rcases he with he | he
  · obtain ⟨bs, r2⟩ := Dp.reads I (.list ds) y u he ry
    exact SeqAt.notIn_list_reads r2 r1 lay sd.1 (room_in2 sd hu) ⟨.bl _, H, I, rfl, q⟩
  · obtain ⟨bs, r2⟩ := Dp.reads I (.tuple ds) y u he ry
    exact SeqAt.notIn_tuple_reads r2 r1 lay sd.1 (room_in2 sd hu) ⟨.bl _, H, I, rfl, q⟩
end
/-! texts among data -/
def isX (x : Str) : PyData → Bool
  | .str y => decide (x = y)
  | _ => false
theorem eqv_strL (x : Str) (d : PyData) : PyData.eqv (.str x) d = isX x d := by
  cases d with
  | str y =>
    show (x == y) = decide (x = y)
    by_cases h : x = y
    · rw [h]; simp
    · rw [decide_eq_false h]; exact beq_eq_false_iff_ne.mpr h
  | _ => rfl
theorem eqv_strR (x : Str) (d : PyData) : PyData.eqv d (.str x) = isX x d := by
  cases d with
  | str y =>
    show (y == x) = decide (x = y)
    by_cases h : x = y
    · rw [h]; simp
    · rw [decide_eq_false h]; exact beq_eq_false_iff_ne.mpr fun e => h e.symm
  | _ => rfl
theorem isX_iff {x : Str} {d : PyData} : isX x d = true ↔ d = .str x := by
  cases d with
  | str y =>
    show decide (x = y) = true ↔ _
    rw [decide_eq_true_eq]
    exact ⟨fun e => by rw [e], fun e => by injection e with e; exact e.symm⟩
  | _ => exact ⟨fun e => (by cases (show false = true from e)), fun e => by cases e⟩
def inX (xs : List Str) (d : PyData) : Bool := xs.any fun x => isX x d
theorem any_strs (xs : List Str) (d : PyData) : ((xs.map PyData.str).any fun z => PyData.eqv z d) = inX xs d := by
  unfold inX
  rw [List.any_map]
  exact congrArg (fun f => xs.any f) (funext fun x => eqv_strL x d)
/-! whole numbers among data -/
def bw (lo hi : Int) : PyData → Bool
  | .int n => decide (lo ≤ n ∧ n ≤ hi)
  | _ => false
def isRow (n : Int) : PyData → Bool
  | .tuple ds => decide ((ds.length : Int) = n)
  | _ => false
theorem bw_iff {lo hi : Int} {d : PyData} : bw lo hi d = true ↔ ∃ n, d = .int n ∧ lo ≤ n ∧ n ≤ hi := by
  cases d with
  | int n => exact ⟨fun e => ⟨n, rfl, of_decide_eq_true e⟩, fun ⟨m, e, h⟩ => by cases e; exact decide_eq_true h⟩
  | _ => exact ⟨fun e => (by cases (show false = true from e)), fun ⟨n, e, _⟩ => by cases e⟩
theorem isRow_iff {n : Int} {d : PyData} : isRow n d = true ↔ ∃ ds, d = .tuple ds ∧ (ds.length : Int) = n := by
  cases d with
  | tuple ds => exact ⟨fun e => ⟨ds, rfl, of_decide_eq_true e⟩, fun ⟨es, e, h⟩ => by cases e; exact decide_eq_true h⟩
  | _ => exact ⟨fun e => (by cases (show false = true from e)), fun ⟨n, e, _⟩ => by cases e⟩
/-- item i of a tuple -/
def rowAt (d : PyData) (i : Nat) : PyData := match d with
  | .tuple ds => ds.getD i .none
  | _ => .none
theorem dp_row2 {K : PySem.W.Frag} {H : Hp} {v : V} {d : PyData} (h : Dp K H v d) (r : isRow 2 d = true) : ∃ t a b x y, v = .ref t ∧ d = .tuple [x, y] ∧ SqT K H t [a, b] ∧ Dp K H a x ∧ Dp K H b y := by
  obtain ⟨ds, rfl, hl⟩ := isRow_iff.1 r
  match ds, hl with
  | [x, y], _ =>
    obtain ⟨t, us, rfl, ht, hts⟩ := dp_tup h
    cases hts with
    | cons h1 r1 =>
      cases r1 with
      | cons h2 r2 =>
        cases r2
        exact ⟨t, _, _, x, y, rfl, rfl, ht, h1, h2⟩
  | [], h => exact absurd h (by decide)
  | [_], h => exact absurd h (by simp)
  | _ :: _ :: _ :: r, h => exact absurd h (by simp only [List.length_cons]; omega)
theorem dp_row3 {K : PySem.W.Frag} {H : Hp} {v : V} {d : PyData} (h : Dp K H v d) (r : isRow 3 d = true) : ∃ t a b c x y z, v = .ref t ∧ d = .tuple [x, y, z] ∧ SqT K H t [a, b, c] ∧ Dp K H a x ∧ Dp K H b y ∧ Dp K H c z := by
  obtain ⟨ds, rfl, hl⟩ := isRow_iff.1 r
  match ds, hl with
  | [x, y, z], _ =>
    obtain ⟨t, us, rfl, ht, hts⟩ := dp_tup h
    cases hts with
    | cons h1 r1 =>
      cases r1 with
      | cons h2 r2 =>
        cases r2 with
        | cons h3 r3 =>
          cases r3
          exact ⟨t, _, _, _, x, y, z, rfl, rfl, ht, h1, h2, h3⟩
  | [], h => exact absurd h (by decide)
  | [_], h => exact absurd h (by simp)
  | [_, _], h => exact absurd h (by simp)
  | _ :: _ :: _ :: _ :: r, h => exact absurd h (by simp only [List.length_cons]; omega)
def ConI (mg : Str → Option Value) (x : Str) (n : Int) : Prop := ∃ t, mg x = some (.int n t)
def ConS (mg : Str → Option Value) (x y : Str) : Prop := ∃ t, mg x = some (.str y t)
end My

set_option Elab.async false
set_option maxRecDepth 100000
set_option maxHeartbeats 4000000
set_option linter.all false
namespace My
open PySem PySem.Spec PyProof.Rows L2
/-! words for defs that raise an error of the program -/
/-- x is b, b a bool -/
theorem op_isB {X : Cx} : OpR X (compareOp .Is) (fun x y H Q => ∃ b : Bool, y = .bl b ∧ Q (.bl (decide (x = .bl b))) H) := by
  intro pins s σ H x y v u Q I rx ry h
  obtain ⟨b, rfl, q⟩ := h
  cases (show u = Value.bool b from ry)
  by_cases e : x = .bl b
  · subst e
    cases (show v = Value.bool b from rx)
    exact wpAny_is_self rfl ⟨.bl true, H, I, rfl, by simpa using q⟩
  · have q : Q (.bl false) H := by simpa [e] using q
    have key : plainIs v (.bool b) = true ∧ v ≠ .bool b := by
      cases x with
      | bl c =>
        cases (show v = Value.bool c from rx)
        exact ⟨rfl, fun z => e (congrArg V.bl (Value.bool.inj z))⟩
      | non => cases rx; exact ⟨rfl, fun z => nomatch z⟩
      | ref a => cases rx; exact ⟨rfl, fun z => nomatch z⟩
      | ty n => cases rx; exact ⟨rfl, fun z => nomatch z⟩
      | int i => obtain ⟨t, rfl⟩ := rx; exact ⟨rfl, fun z => nomatch z⟩
      | str i => obtain ⟨t, rfl⟩ := rx; exact ⟨rfl, fun z => nomatch z⟩
      | byt i => obtain ⟨t, rfl⟩ := rx; exact ⟨rfl, fun z => nomatch z⟩
      | flt i => obtain ⟨t, rfl⟩ := rx; exact ⟨rfl, fun z => nomatch z⟩
    exact wpAny_is_other key.1 key.2 ⟨.bl false, H, I, rfl, q⟩
def OwnX (P : Program) (w : World) (K : PySem.W.Frag) (mg : Str → Option Value) (base : Heap) (x : Str) (ps : List Str) (k : Nat) (sp : Sp) : Prop :=
  ∃ (f : Addr) (fd : FuncData), mg x = some (.ref f) ∧ PySem.W.keepIn K (.ref f) = true ∧ Binds K fd ps [] ∧ FnOk P w K mg base (L2.CX P w) k f fd ps sp
/-- what __init__ of an error with one field promises -/
def spErr (fld : Str) (C : Addr) : Sp := fun vs H Q _ => ∃ (a : Addr) (n : Int), vs = [.ref a, .int n] ∧ n.natAbs.log2 < 1920 ∧ H a = some (exo a C none) ∧ ∀ dx, H dx = none → dx ≠ a → Q .non (upd (upd H dx (exd dx [(fld, .int n)])) a (exo a C (some dx)))
/-- an error class of the program, its __init__ proved -/
structure Err (P : Program) (w : World) (K : PySem.W.Frag) (mg : Str → Option Value) (base : Heap) (x fld par : Str) (C : Addr) (k : Nat) : Prop where
  oex : OexC K C
  gl : mg x = some (.ref C)
  ini : ∃ fI fd, PySem.W.findIn K (.ref C) "__init__" = some (some (.ref fI)) ∧ PySem.W.typeIn K (.ref fI) = some (.type "function") ∧ Binds K fd ["self", par] [] ∧ FnOk P w K mg base (L2.CX P w) k fI fd ["self", par] (spErr fld C)
/-- such an error is in the air: what was there is there -/
def Up (fld : Str) (C : Addr) (n : Int) (H : Hp) (E : XK) : Prop := ∀ (dx : Addr) (H' : Hp), Same H H' → H' dx = some (.xd [(fld, .int n)]) → E (.ref C) (some dx) H'
theorem raise_end {fld : Str} {C : Addr} {n : Int} {H1 : Hp} {E : XK} (hn : n.natAbs.log2 < 1920) (h : Up fld C n H1 E) (a : Addr) (ha : H1 a = none) :
    spErr fld C [.ref a, .int n] (upd H1 a (exo a C none)) (fun v H2 => v = .non ∧ ∃ (d : Addr) (fs : List (Str × V)), H2 a = some (exo a C (some d)) ∧ H2 d = some (exd d fs) ∧ H1 d = none ∧ E (.ref C) (some d) (upd (del H2 a) d (.xd fs))) (fun _ _ _ => False) := by
  refine ⟨a, n, rfl, hn, upd_same, fun dx hd ne => ⟨rfl, dx, [(fld, .int n)], upd_same, ?_, ?_, ?_⟩⟩
  · rw [upd_ne ne, upd_same]
  · rw [upd_ne ne] at hd
    exact hd
  · have hd1 : H1 dx = none := by
      rw [upd_ne ne] at hd
      exact hd
    refine h dx _ (fun b o e => ?_) upd_same
    have nb : b ≠ a := ne_of_none e ha
    rw [upd_ne (ne_of_none e hd1), del_ne nb, upd_ne nb, upd_ne (ne_of_none e hd1), upd_ne nb]
    exact e
end My

set_option Elab.async false
set_option maxRecDepth 100000
set_option maxHeartbeats 4000000
set_option linter.all false
namespace My
open PySem L2 P6
open C8 (pss_cut)
def ConN (mg : Str → Option Value) (x : Str) (i : Int) : Prop := ∃ t, mg x = some (.int i t)
def ConT (mg : Str → Option Value) (x : Str) (i : Str) : Prop := ∃ t, mg x = some (.str i t)
theorem sc_PackError___init__ : SupScope N_PackError___init__ ["self", "at"] (defScope s_PackError___init__) := ⟨rfl, rfl, rfl, by decide +kernel, rfl, by decide +kernel, by decide +kernel, by decide +kernel, rfl, rfl⟩
section
variable {P : Program} {w : World} {K : PySem.W.Frag} {mg : Str → Option Value} {base : Heap} {f : Addr} {fd : FuncData}
theorem body_err : defBody s_PackError___init__ = [.Expr (.Call (.Attribute (.Call (.Name "super" ⟨7, 8, 7, 13⟩) [] [] ⟨7, 8, 7, 15⟩) "__init__" ⟨7, 8, 7, 24⟩) [.JoinedStr [.Constant (.str "cannot stand at ") 0 ⟨7, 27, 7, 43⟩, .FormattedValue (.Name "at" ⟨7, 44, 7, 46⟩) (-1) none ⟨7, 43, 7, 47⟩] ⟨7, 25, 7, 48⟩] [] ⟨7, 8, 7, 49⟩) ⟨7, 8, 7, 49⟩,
    .Assign [.Attribute (.Name "self" ⟨8, 8, 8, 12⟩) "at" ⟨8, 8, 8, 15⟩] (.Name "at" ⟨8, 18, 8, 20⟩) ⟨8, 8, 8, 20⟩] := rfl
theorem ok_err {k : Nat} {C cc cda : Addr} {oc dV kV doc pm ct cl : Value} {an od cld : Option Addr} {osl csl : Array (Option Value)} (SE : SupE P K mg C f cc cda "self") (no : PySem.W.findIn K (.ref C) "at" = some none)
    (lk : K.lookup f = some ⟨oc, od, .func (PySem.W.ksFn "__init__" "PackError.__init__" (defArgs s_PackError___init__) (defBody s_PackError___init__) (defScope s_PackError___init__) dV kV doc pm an (.ref cda) ct cc), osl⟩)
    (hcd : PySem.W.codeIn K (.ref cda) "PackError.__init__" = true) (cell : K.lookup cc = some ⟨cl, cld, .cell (some (.ref C)), csl⟩) :
    FnOk P w K mg base (L2.CX P w) (k + 1) f (PySem.W.ksFn "__init__" "PackError.__init__" (defArgs s_PackError___init__) (defBody s_PackError___init__) (defScope s_PackError___init__) dV kV doc pm an (.ref cda) ct cc) ["self", "at"] (spErr "at" C) := by
  refine fn_sup (C := C) lk hcd sc_PackError___init__ cell (fun vs H Q E h => ?_) fun A outer s s1 H vs Q E hr h I => ?_
  · obtain ⟨a, n, rfl, _⟩ := h
    rfl
  · obtain ⟨a, n, rfl, hn, ea, q⟩ := h
    rw [body_err]
    have ha : PA (cxS (L2.CX P w) P w K mg base N_PackError___init__ "PackError.__init__" (defScope s_PackError___init__) f (.ref cda) cc A outer s H E) [.JoinedStr [.Constant (.str "cannot stand at ") 0 ⟨7, 27, 7, 43⟩, .FormattedValue (.Name "at" ⟨7, 44, 7, 46⟩) (-1) none ⟨7, 43, 7, 47⟩] ⟨7, 25, 7, 48⟩] _ := pa_cons (pe_joined (.cons pe_str (.cons (pe_fmt (pv 1)) .nil))) pa_nil
    have ht : PSs (cxS (L2.CX P w) P w K mg base N_PackError___init__ "PackError.__init__" (defScope s_PackError___init__) f (.ref cda) cc A outer s H E) [.Assign [.Attribute (.Name "self" ⟨8, 8, 8, 12⟩) "at" ⟨8, 8, 8, 15⟩] (.Name "at" ⟨8, 18, 8, 20⟩) ⟨8, 8, 8, 20⟩] _ := pss_one (ps_ost (pv 0) (pv 1))
    refine sup_first SE rfl rfl rfl rfl rfl rfl (by decide +kernel) (by decide) I ha ht rfl ea ?_ rfl rfl _ rfl rfl rfl
    have l1 : (Str.ofString (toString n)).length ≤ 1921 := by
      rw [ofString_length]
      exact int_text_length_le (by decide) hn
    have l2 : (Str.empty ++ ("cannot stand at " : Str) ++ Str.ofString (toString n)).length ≤ sizeLine := by
      rw [strLen_append, sizeLine_eq]
      have : (Str.empty ++ ("cannot stand at " : Str)).length = 16 := by decide
      omega
    refine ⟨_, rfl, by decide, .int n, rfl, .inr ⟨n, rfl, hn, _, rfl, l2, ?_⟩⟩
    refine ⟨(by decide : 1 ≤ sizeLine), ea, .int n, rfl, .ref a, rfl, a, C, rfl, SE.oex, no, .inl ⟨ea, q⟩⟩
end
end My

set_option Elab.async false
set_option maxRecDepth 100000
set_option linter.all false
namespace P6
open PySem
abbrev charS : Str := "abcdefghijklmnopqrstuvwxyz0123456789_"
theorem find_some : ∀ p, p < 37 → Txt.find charS ⟨#[chAt p]⟩ = (p : Int) := by decide +kernel
theorem chars_cps : charS.cps.toList = (List.range 37).map chAt := by decide +kernel
theorem pl_chAt : ∀ p, p < 37 → plOf (chAt p) = some p := by decide +kernel
theorem mem_chars {c : Nat} : c ∈ charS.cps.toList ↔ ∃ p, plOf c = some p := by
  rw [chars_cps, List.mem_map]
  constructor
  · rintro ⟨p, hp, rfl⟩
    exact ⟨p, pl_chAt p (List.mem_range.mp hp)⟩
  · rintro ⟨p, hp⟩
    obtain ⟨h1, h2⟩ := pl_lt hp
    exact ⟨p, List.mem_range.mpr h1, h2⟩
theorem or128 : ∀ m : Nat, m < 128 → Builtin.bitOr (m : Int) 128 = ((m + 128 : Nat) : Int) := by decide +kernel
theorem find_none {c : Nat} (h : plOf c = none) : Txt.find charS ⟨#[c]⟩ = -1 := by
  have e := PySem.StrLaws.found_one charS c
  have n : c ∉ charS.cps.toList := fun m => by
    obtain ⟨p, hp⟩ := mem_chars.mp m
    rw [h] at hp
    cases hp
  rw [decide_eq_false n] at e
  unfold Txt.find
  cases o : Builtin.Str.occurrences charS ⟨#[c]⟩ 0 charS.length 1 with
  | nil => rfl
  | cons i r =>
    rw [o] at e
    cases e
theorem plsOf_all : ∀ {l : List Nat}, (∀ c ∈ l, ∃ p, plOf c = some p) → ∃ ps, plsOf l = some ps
  | [], _ => ⟨[], rfl⟩
  | c :: r, h => by
    obtain ⟨p, hp⟩ := h c List.mem_cons_self
    obtain ⟨ps, hps⟩ := plsOf_all fun x m => h x (List.mem_cons_of_mem _ m)
    refine ⟨p :: ps, ?_⟩
    show (match plOf c, plsOf r with | some p, some ps => some (p :: ps) | _, _ => none) = _
    rw [hp, hps]
theorem occ_is {c p : Nat} (h : plOf c = some p) : ∃ rest, Builtin.Str.occurrences charS ⟨#[c]⟩ 0 charS.length 1 = p :: rest := by
  obtain ⟨h1, h2⟩ := pl_lt h
  have e := find_some p h1
  rw [h2] at e
  unfold Txt.find at e
  cases o : Builtin.Str.occurrences charS ⟨#[c]⟩ 0 charS.length 1 with
  | nil =>
    rw [o] at e
    have e : (-1 : Int) = (p : Int) := e
    omega
  | cons i r =>
    rw [o] at e
    have e : (i : Int) = (p : Int) := e
    exact ⟨r, by rw [show i = p by omega]⟩
theorem find_is {c p : Nat} (h : plOf c = some p) : Txt.find charS ⟨#[c]⟩ = (p : Int) := by
  obtain ⟨h1, h2⟩ := pl_lt h
  rw [← h2]
  exact find_some p h1
end P6

set_option Elab.async false
set_option maxRecDepth 100000
set_option linter.all false
namespace My
open PySem PySem.Spec PyProof.Rows L2
/-! ### all but some things stays -/
def But (A : List Addr) (H H' : Hp) : Prop := ∀ b o, b ∉ A → H b = some o → H' b = some o
theorem But.refl (A : List Addr) (H : Hp) : But A H H := fun _ _ _ h => h
theorem But.trans {A : List Addr} {H H' H'' : Hp} (h : But A H H') (k : But A H' H'') : But A H H'' := fun b o n e => k b o n (h b o n e)
theorem But.wide {A B : List Addr} {H H' : Hp} (h : But A H H') (s : ∀ a ∈ A, a ∈ B) : But B H H' := fun b o n e => h b o (fun m => n (s b m)) e
theorem But.of_same {A : List Addr} {H H' : Hp} (h : Same H H') : But A H H' := fun b o _ e => h b o e
theorem But.of_hide {d : Addr} {H H' : Hp} (h : Same (hide d H) (hide d H')) : But [d] H H' := fun b o n e => hide_le _ _ (h b o (hide_in e fun z => n (by rw [z]; exact List.mem_singleton_self d)))
theorem But.to_hide {d : Addr} {H H' : Hp} (h : But [d] H H') : Same (hide d H) (hide d H') := fun b o e => by
  obtain ⟨h1, h2⟩ := hide_some e
  exact hide_in (h b o (fun m => h1 (List.mem_singleton.mp m)) h2) h1
theorem But.new {A : List Addr} {H : Hp} {p : Addr} (h : H p = none) (o : HO) : But A H (upd H p o) := .of_same (same_new h o)
theorem But.put {A : List Addr} {H : Hp} {p : Addr} (h : p ∈ A) (o : HO) : But A H (upd H p o) := fun b u n e => by
  rw [upd_ne fun z => n (by rw [z]; exact h)]
  exact e
theorem sqt_but {K : PySem.W.Frag} {A : List Addr} {H H' : Hp} (hA : ∀ a ∈ A, Mut (H a)) (hb : But A H H') {a : Addr} {xs : List V} (h : SqT K H a xs) : SqT K H' a xs := by
  rcases h with (h | ⟨o, h⟩) | h
  · refine .inl (.inl (hb a _ (fun m => ?_) h))
    have := hA a m
    rw [h] at this
    exact this
  · refine .inl (.inr ⟨o, hb a _ (fun m => ?_) h⟩)
    have := hA a m
    rw [h] at this
    exact this
  · exact .inr h
mutual
theorem dp_but {K : PySem.W.Frag} {A : List Addr} {H H' : Hp} (hA : ∀ a ∈ A, Mut (H a)) (hb : But A H H') : ∀ (d : PyData) {v : V}, noLst d = true → Dp K H v d → Dp K H' v d
  | .none, _, _, .non => .non
  | .bool _, _, _, .bl b => .bl b
  | .int _, _, _, .int i => .int i
  | .str _, _, _, .str x => .str x
  | .list ds, _, n, _ => by cases (show false = true from n)
  | .tuple ds, _, n, .tup h hs => .tup (sqt_but hA hb h) (dpa_but hA hb ds n hs)
  | .dict _, _, _, h => by cases h
theorem dpa_but {K : PySem.W.Frag} {A : List Addr} {H H' : Hp} (hA : ∀ a ∈ A, Mut (H a)) (hb : But A H H') : ∀ (ds : List PyData) {vs : List V}, noLsts ds = true → DpAll K H vs ds → DpAll K H' vs ds
  | [], _, _, .nil => .nil
  | d :: ds, _, n, .cons h hs => by
    have n' := Bool.and_eq_true_iff.mp (show (noLst d && noLsts ds) = true from n)
    exact .cons (dp_but hA hb d n'.1 h) (dpa_but hA hb ds n'.2 hs)
end
end My

set_option Elab.async false
set_option maxRecDepth 100000
set_option linter.all false
namespace My
open PySem L2 P6
theorem whl {c : TT} {tb : TS} {D : Ends} {σ : L2.St} {H : Hp} (Pv : Nat → L2.St → Hp → Prop) (h0 : ∃ m, Pv m σ H)
    (hs : ∀ m σ H, Pv m σ H → c σ H fun b H1 => if b = true then tb { D with nx := fun σ' H' => ∃ m', m' < m ∧ Pv m' σ' H', ct := fun σ' H' => ∃ m', m' < m ∧ Pv m' σ' H', bk := D.nx } σ H1 else D.nx σ H1)
    (mono : ∀ σ H Q Q', (∀ b H1, Q b H1 → Q' b H1) → c σ H Q → c σ H Q') : tWhile c tb D σ H := by
  refine ⟨Pv, h0, fun m σ H p => mono σ H _ _ (fun b H1 q => ?_) (hs m σ H p)⟩
  cases b with
  | true => exact ⟨_, fun σ' H' h => h, q⟩
  | false => exact q
theorem yesV {σ : L2.St} {H : Hp} {Q : Bool → Hp → Prop} (h : Q true H) : tYes σ H Q := h
def nB (ns : List Nat) : List V := ns.map fun (n : Nat) => V.int (n : Int)
theorem nB_app (a b : List Nat) : nB (a ++ b) = nB a ++ nB b := List.map_append
theorem nB_len (a : List Nat) : (nB a).length = a.length := List.length_map _
theorem nB_at {a : List Nat} {i b : Nat} (h : a[i]? = some b) : (nB a)[i]? = some (V.int (b : Int)) := by
  unfold nB
  rw [List.getElem?_map, h]
  rfl
theorem sz5 {n : Nat} (h : n ≤ 1000000) : n ≤ sizeLine := by
  rw [sizeLine_eq]
  omega
theorem sz5' {n : Nat} (h : n ≤ 1000000) : n < sizeLine := by
  rw [sizeLine_eq]
  omega
theorem none_back {H H' : Hp} {p : Addr} (s : Same H H') (h : H' p = none) : H p = none := by
  cases e : H p with
  | none => rfl
  | some o =>
    rw [s p o e] at h
    cases h
/-- len of a text or of a row -/
def rLenX (K : PySem.W.Frag) : List V → Hp → VK → Prop := fun xs H Q => (∃ z, xs = [.str z] ∧ z.length ≤ sizeLine ∧ Q (.int z.length) H) ∨ ∃ p ys, xs = [.ref p] ∧ (SqL K H p ys ∨ SqT K H p ys) ∧ Q (.int ys.length) H
theorem call_len_x {X : Cx} : CallR X (.builtin "len") (rLenX X.K) := by
  intro pins s σ H xs us Q I r h
  rcases h with h | h
  · exact call_len_str pins s σ H xs us Q I r h
  · exact call_len_seq pins s σ H xs us Q I r h
/-! values as they are packed: Dp's, and an empty dict -/
mutual
inductive Vl (K : PySem.W.Frag) (H : Hp) : V → PyData → Prop
  | non : Vl K H .non .none
  | bl (b : Bool) : Vl K H (.bl b) (.bool b)
  | int (i : Int) : Vl K H (.int i) (.int i)
  | str (x : Str) : Vl K H (.str x) (.str x)
  | lst {a : Addr} {xs : List V} {ds : List PyData} : SqL K H a xs → VlAll K H xs ds → Vl K H (.ref a) (.list ds)
  | tup {a : Addr} {xs : List V} {ds : List PyData} : SqT K H a xs → VlAll K H xs ds → Vl K H (.ref a) (.tuple ds)
  | dct {a : Addr} : H a = some (.dK []) → Vl K H (.ref a) (.dict [])
inductive VlAll (K : PySem.W.Frag) (H : Hp) : List V → List PyData → Prop
  | nil : VlAll K H [] []
  | cons {v : V} {vs : List V} {d : PyData} {ds : List PyData} : Vl K H v d → VlAll K H vs ds → VlAll K H (v :: vs) (d :: ds)
end
section
variable {K : PySem.W.Frag} {H H' : Hp}
mutual
theorem vl_mono (e : Same H H') : ∀ (d : PyData) {v : V}, Vl K H v d → Vl K H' v d
  | .none, _, .non => .non
  | .bool _, _, .bl b => .bl b
  | .int _, _, .int i => .int i
  | .str _, _, .str x => .str x
  | .list ds, _, .lst h hs => .lst (sql_mono e h) (vla_mono e ds hs)
  | .tuple ds, _, .tup h hs => .tup (sqt_mono e h) (vla_mono e ds hs)
  | .dict _, _, .dct h => .dct (e _ _ h)
theorem vla_mono (e : Same H H') : ∀ (ds : List PyData) {vs : List V}, VlAll K H vs ds → VlAll K H' vs ds
  | [], _, .nil => .nil
  | d :: ds, _, .cons h hs => .cons (vl_mono e d h) (vla_mono e ds hs)
end
mutual
theorem dp_vl : ∀ (d : PyData) {v : V}, Dp K H v d → Vl K H v d
  | .none, _, .non => .non
  | .bool _, _, .bl b => .bl b
  | .int _, _, .int i => .int i
  | .str _, _, .str x => .str x
  | .list ds, _, .lst h hs => .lst h (dpa_vl ds hs)
  | .tuple ds, _, .tup h hs => .tup h (dpa_vl ds hs)
  | .dict _, _, h => by cases h
theorem dpa_vl : ∀ (ds : List PyData) {vs : List V}, DpAll K H vs ds → VlAll K H vs ds
  | [], _, .nil => .nil
  | d :: ds, _, .cons h hs => .cons (dp_vl d h) (dpa_vl ds hs)
end
mutual
/-- what can be packed is data -/
theorem vl_dp : ∀ (d : PyData) {v : V} {k : Nat} {e : List Nat}, enc d k = some e → Vl K H v d → Dp K H v d
  | .none, _, _, _, _, .non => .non
  | .bool _, _, _, _, _, .bl b => .bl b
  | .int _, _, _, _, _, .int i => .int i
  | .str _, _, _, _, _, .str x => .str x
  | .list ds, _, _, _, h, _ => by unfold enc at h; cases h
  | .tuple ds, _, k, e, h, .tup hq hs => by
    cases k with
    | zero => unfold enc at h; cases h
    | succ k =>
      unfold enc at h
      rw [Option.map_eq_some_iff] at h
      obtain ⟨es, he, _⟩ := h
      exact .tup hq (vla_dp ds he hs)
  | .dict _, _, _, _, h, _ => by unfold enc at h; cases h
theorem vla_dp : ∀ (ds : List PyData) {vs : List V} {k : Nat} {e : List Nat}, encs ds k = some e → VlAll K H vs ds → DpAll K H vs ds
  | [], _, _, _, _, .nil => .nil
  | d :: ds, _, k, e, h, .cons hv hs => by
    unfold encs at h
    split at h
    · rename_i a b h1 h2
      exact .cons (vl_dp d h1 hv) (vla_dp ds h2 hs)
    · cases h
end
theorem vla_len : ∀ {vs : List V} {ds : List PyData}, VlAll K H vs ds → vs.length = ds.length
  | _, _, .nil => rfl
  | _, _, .cons _ h => by rw [List.length_cons, List.length_cons, vla_len h]
theorem vla_get : ∀ {vs : List V} {ds : List PyData} {i : Nat} {v : V}, VlAll K H vs ds → vs[i]? = some v → ∃ d, ds[i]? = some d ∧ Vl K H v d
  | _, _, _, _, .nil, h => by simp at h
  | _, _, 0, _, .cons hv _, h => by
    cases h
    exact ⟨_, rfl, hv⟩
  | _, _, i + 1, v, .cons _ hs, h => vla_get (i := i) hs (by simpa using h)
theorem vl_ty {v : V} {d : PyData} (h : Vl K H v d) : TyX K H v (.type (tyN d)) := by
  cases h with
  | non => exact .base .non
  | bl b => exact .base (.bl b)
  | int i => exact .base (.int i)
  | str x => exact .base (.str x)
  | lst hs ha =>
    rcases hs with (h | ⟨o, h⟩) | ⟨o, its, n, hk, hc, _⟩
    · exact .base (.lst h)
    · exact .base (.frz h)
    · exact .kList hk hc
  | tup hs ha =>
    rcases hs with (h | ⟨o, h⟩) | ⟨o, its, n, hk, hc, _⟩
    · exact .base (.tup h)
    · exact .fTuple h
    · exact .kTuple hk hc
  | dct h => exact .base (.dK h)
end
/-- isinstance(x, T) of such a value -/
def rIsiV (K : PySem.W.Frag) : List V → Hp → VK → Prop := fun xs H Q => ∃ (v : V) (d : PyData) (T : String) (b : Bool), xs = [v, .ty T] ∧ Vl K H v d ∧ kitB (tyN d) T = some b ∧ Q (.bl b) H
theorem cr_isiV {X : Cx} : CallR X (.builtin "isinstance") (rIsiV X.K) := by
  intro pins s σ H xs us Q I r h
  obtain ⟨v, d, T, b, rfl, hd, hk, q⟩ := h
  exact call_isi pins s σ H _ us Q I r ⟨v, .ty T, .type (tyN d), .type T, b, rfl, .ty T, vl_ty hd, kit_ty hk, q⟩
end My

set_option Elab.async false
set_option maxRecDepth 130000
set_option maxHeartbeats 4000000
set_option linter.all false
namespace My
open PySem L2 P6
open C8 (pss_cut)
def spBetween : Sp := fun vs H Q _ => ∃ v lo hi : Int, vs = [.int v, .int lo, .int hi] ∧ Q (.bl (decide (lo ≤ v) && decide (v ≤ hi))) H
def spSizeB : Sp := fun vs H Q _ => ∃ n : Nat, vs = [.int (n : Int)] ∧ (sizeB n).length ≤ 130000 ∧ ∀ H' p, Same H H' → H p = none → H' p = some (.lst (nB (sizeB n))) → Q (.ref p) H'
def spPlace (C : Addr) : Sp := fun vs H Q E => ∃ c : Nat, vs = [.str ⟨#[c]⟩] ∧ (∀ p, plOf c = some p → Q (.int (p : Int)) H) ∧ (plOf c = none → Up "at" C (-1) H E)
section
variable {P : Program} {w : World} {K : PySem.W.Frag} {mg : Str → Option Value} {base : Heap} {f : Addr} {fd : FuncData} {C : Addr} {k : Nat}
theorem ok_is_between (T : Txt K mg) (D : Def K mg "is_between" ["value", "low", "high"] s_is_between f fd) : Own P w K mg base "is_between" ["value", "low", "high"] 1 spBetween := by
  refine ⟨f, fd, D.mg, D.fn.kp, D.bd, D.fn.ok sc_is_between (fun vs H Q E h => ?_) (fun cdv A outer s H vs Q E hr h => ?_)⟩
  · obtain ⟨v, lo, hi, rfl, _⟩ := h
    rfl
  · obtain ⟨v, lo, hi, rfl, q⟩ := h
    refine ⟨_, (pss_one (ps_ret (pe_and (pe_callB cr_isiD (by rfl) T.m_isinstance (by decide +kernel) (pa_cons (pv 0) (pa_cons (pe_bltn (v := .ty "int") (u := .type "int") (by rfl) T.m_int (by decide +kernel) (by rfl)) pa_nil))) (pe_and (pe_not (pe_callB cr_isiD (by rfl) T.m_isinstance (by decide +kernel) (pa_cons (pv 0) (pa_cons (pe_bltn (v := .ty "bool") (u := .type "bool") (by rfl) T.m_bool (by decide +kernel) (by rfl)) pa_nil)))) (pe_one (pe_chain op_le op_le (pv 1) (pv 0) (pv 2))))))), ?_⟩
    refine ⟨_, rfl, _, .int v, _, true, rfl, .int v, kit_I (.int v), true, rfl, ?_⟩
    refine ⟨_, rfl, _, .int v, _, false, rfl, .int v, kit_B (.int v), false, rfl, true, rfl, ?_⟩
    refine ⟨_, rfl, _, rfl, _, _, rfl, rfl, _, rfl, ?_⟩
    refine ite2 (fun c => ?_) (fun c => ?_)
    · refine ⟨_, rfl, _, _, rfl, rfl, ?_⟩
      rw [c] at q
      exact toB (Bool.true_and _).symm q
    · rw [Bool.eq_false_iff.mpr c] at q
      exact q
theorem ok_size_bytes (T : Txt K mg) (CM : ConN mg "MORE" 128) (D : Def K mg "size_bytes" ["n"] s_size_bytes f fd) : Own P w K mg base "size_bytes" ["n"] 1 spSizeB := by
  obtain ⟨t_MORE, c_MORE⟩ := CM
  refine ⟨f, fd, D.mg, D.fn.kp, D.bd, D.fn.ok sc_size_bytes (fun vs H Q E h => ?_) (fun cdv A outer s H vs Q E hr h => ?_)⟩
  · obtain ⟨n, rfl, _⟩ := h
    rfl
  · obtain ⟨n, rfl, hz, q⟩ := h
    refine ⟨_, (pss_cons (ps_set (i := 1) sc_size_bytes.nd rfl (Or.inl rfl) (pe_lst pa_nil))
      (pss_cons (ps_while PassesOwn.never (pt_cmpR op_ge (pv 0) (pe_glob (v := .int 128) (u := .int 128 t_MORE) (by rfl) c_MORE ⟨t_MORE, rfl⟩) (nomark _)) (pss_cons (ps_expr (pe_bm PySem.F.plainAttrs_list PySem.F.slot_list_append PySem.F.type_list_append mt_append (pv 1) (pa_cons (pe_op op_or (pe_op op_and (pv 0) (pe_op op_sub (pe_glob (v := .int 128) (u := .int 128 t_MORE) (by rfl) c_MORE ⟨t_MORE, rfl⟩) pe_int)) (pe_glob (v := .int 128) (u := .int 128 t_MORE) (by rfl) c_MORE ⟨t_MORE, rfl⟩)) pa_nil)))
      (pss_one (ps_set (i := 0) sc_size_bytes.nd rfl (Or.inl rfl) (pe_op op_shr (pv 0) pe_int)))))
      (pss_one (ps_ret (pe_op op_cat (pv 1) (pe_lst (pa_cons (pv 0) pa_nil))))))), ?_⟩
    refine ⟨by show 0 ≤ sizeLine; decide, fun p hp => ?_⟩
    refine ⟨fun j σ' H' => ∃ (m : Nat) (ds : List Nat), σ' = [some (.int (m : Int)), some (.ref p)] ∧ H' p = some (.lst (nB ds)) ∧ Same H H' ∧ ds ++ sizeB m = sizeB n ∧ j = m, ⟨n, n, [], rfl, upd_same, same_new hp _, rfl, rfl⟩, ?_⟩
    rintro j σ' H1 ⟨m, ds, rfl, h1, s1, e1, rfl⟩
    have dl : ds.length ≤ 130000 := by
      have := congrArg List.length e1
      rw [List.length_append] at this
      omega
    refine ⟨_, rfl, _, _, rfl, rfl, _, rfl, ite2 (fun c => ?_) (fun c => ?_)⟩
    · have c : (128 : Int) ≤ (j : Int) := of_decide_eq_true c
      have hm : ¬ j < 128 := by omega
      rw [sizeB_ge hm] at e1
      refine ⟨fun σ' H' => σ' = [some (.int ((j / 128 : Nat) : Int)), some (.ref p)] ∧ H' p = some (.lst (nB (ds ++ [j % 128 + 128]))) ∧ Same H H', fun σ' H' ⟨a1, a2, a3⟩ => ⟨j / 128, by omega, j / 128, _, a1, a2, a3, by rw [List.append_assoc]; exact e1, rfl⟩, ?_⟩
      have ev : Builtin.bitOr (Builtin.bitAnd (j : Int) (128 - 1)) 128 = ((j % 128 + 128 : Nat) : Int) := by
        have e7 : (128 : Int) - 1 = 2 ^ 7 - 1 := by decide
        rw [e7, M00.and_mask]
        have e8 : (j : Int) % 2 ^ 7 = ((j % 128 : Nat) : Int) := by omega
        rw [e8]
        exact or128 _ (Nat.mod_lt _ (by decide))
      have ed : (j : Int) / 2 ^ ((7 : Int).toNat) = ((j / 128 : Nat) : Int) := by
        show (j : Int) / 2 ^ 7 = _
        omega
      refine ⟨_, rfl, .inl ⟨rfl, _, SqL.of h1⟩, _, rfl, _, _, rfl, rfl, _, _, rfl, rfl, _, _, rfl, rfl, p, _, _, rfl, rfl, h1, sz5' (by rw [nB_len]; omega), ?_⟩
      refine ⟨_, rfl, _, _, rfl, rfl, (by decide : (0 : Int) ≤ 7), ?_⟩
      exact ⟨congrArg (fun z => [some (V.int z), some (.ref p)]) ed, upd_same.trans (by rw [nB_app]; exact congrArg (fun z => some (HO.lst (nB ds ++ [V.int z]))) ev), fun b o e => by rw [upd_ne (ne_of_none e hp)]; exact s1 b o e⟩
    · have c : ¬ (128 : Int) ≤ (j : Int) := fun h => c (decide_eq_true h)
      have hm : j < 128 := by omega
      rw [sizeB_lt hm] at e1
      refine ⟨_, rfl, _, rfl, by show 1 ≤ sizeLine; decide, fun p2 hp2 => ?_⟩
      have n2 : p ≠ p2 := fun e => by rw [← e, h1] at hp2; cases hp2
      refine ⟨p, p2, _, _, rfl, rfl, by rw [upd_ne n2]; exact h1, upd_same, sz5 (by rw [nB_len]; show ds.length + 1 ≤ _; omega), fun p3 hp3 => ?_⟩
      have s2 : Same H (upd H1 p2 (.lst [.int (j : Int)])) := s1.trans (same_new hp2 _)
      exact q _ p3 (s2.trans (same_new hp3 _)) (none_back s2 hp3) (upd_same.trans (by rw [← e1, nB_app]; rfl))
theorem ok_place_of (T : Txt K mg) (CC : ConT mg "CHARACTERS" charS) (CN : ConN mg "NO_BYTE" (-1)) (ER : Err P w K mg base "PackError" "at" "at" C k) (D : Def K mg "place_of" ["sign"] s_place_of f fd) : OwnX P w K mg base "place_of" ["sign"] (k + 2) (spPlace C) := by
  obtain ⟨t_CHARACTERS, c_CHARACTERS⟩ := CC
  obtain ⟨t_NO_BYTE, c_NO_BYTE⟩ := CN
  obtain ⟨fI, fdI, iPackError, tPackError, bPackError, GPackError⟩ := ER.ini
  have mPackError := ER.gl
  have OPackError := ER.oex
  refine ⟨f, fd, D.mg, D.fn.kp, D.bd, D.fn.okX sc_place_of (fun vs H Q E h => ?_) (fun cdv A outer s H vs Q E hr h => ?_)⟩
  · obtain ⟨c, rfl, _⟩ := h
    rfl
  · obtain ⟨c, rfl, q1, q2⟩ := h
    have tk := takes_of (X := cxOf (L2.CX P w) P w K mg base N_place_of "place_of" (defScope s_place_of) f cdv A outer s H E) rfl rfl rfl rfl
    refine ⟨_, (pss_cons (ps_set (i := 1) sc_place_of.nd rfl (Or.inl rfl) (pe_m1 PySem.F.slot_str_find PySem.F.type_str_find mt_find (pe_glob (v := .str "abcdefghijklmnopqrstuvwxyz0123456789_") (u := .str "abcdefghijklmnopqrstuvwxyz0123456789_" t_CHARACTERS) (by rfl) c_CHARACTERS ⟨t_CHARACTERS, rfl⟩) (pv 0)))
      (pss_cons (ps_if (pt_cmpR op_lt (pv 1) pe_int (nomark _)) (pss_one (ps_raise rfl tk (pmk_oex OPackError iPackError tPackError GPackError (hr.mono (by omega)) bPackError .nil passL (by rfl) mPackError (pa_cons (pe_glob (v := .int (-1)) (u := .int (-1) t_NO_BYTE) (by rfl) c_NO_BYTE ⟨t_NO_BYTE, rfl⟩) pa_nil)))) pss_nil)
      (pss_one (ps_ret (pv 1))))), ?_⟩
    refine ⟨⟨_, rfl⟩, _, rfl, _, _, rfl, rfl, ?_⟩
    show tSeq _ _ _ [some (.str ⟨#[c]⟩), some (.int (Txt.find charS ⟨#[c]⟩))] H
    cases hc : plOf c with
    | some p =>
      rw [find_is hc]
      refine ⟨_, rfl, _, _, rfl, rfl, _, rfl, ite2 (fun e => ?_) (fun _ => ?_)⟩
      · have e : (p : Int) < 0 := of_decide_eq_true e
        omega
      · exact ⟨_, rfl, q1 p hc⟩
    | none =>
      rw [find_none hc]
      refine ⟨_, rfl, _, _, rfl, rfl, _, rfl, ite2 (fun _ => ?_) (fun e => absurd rfl e)⟩
      exact ⟨(by decide : 1 ≤ 1000), fun a ha => raise_end (by decide) (q2 hc) a ha⟩
end
end My

set_option Elab.async false
set_option maxRecDepth 130000
set_option maxHeartbeats 4000000
set_option linter.all false
namespace My
open PySem L2 P6
open C8 (pss_cut)
def spPackInto (K : PySem.W.Frag) (C : Addr) (n : Nat) : Sp := fun vs H Q E => ∃ (A : Addr) (v : V) (d : PyData) (k : Nat) (ns : List Nat), vs = [.ref A, v, .int (k : Int)] ∧ k < n ∧ H A = some (.lst (nB ns)) ∧ Vl K (hide A H) v d ∧ ns.length + wt d ≤ 130000 ∧
  (∀ bs, enc d k = some bs → ∀ H', But [A] H H' → H' A = some (.lst (nB (ns ++ bs))) → Q .non H') ∧
  (enc d k = none → ∀ dx H', But [A] H H' → H' dx = some (.xd [("at", .int (-1))]) → E (.ref C) (some dx) H')
theorem fn_neverX {P : Program} {w : World} {K : PySem.W.Frag} {mg : Str → Option Value} {base : Heap} {CX : CXT} {k : Nat} {f : Addr} {fd : FuncData} {ps : List Str} {sp : Sp} (no : ∀ vs H Q E, ¬ sp vs H Q E) : FnOk P w K mg base CX k f fd ps sp :=
  ⟨fun vs H Q E h => absurd h (no vs H Q E), fun A outer s H args us vs Q E _ _ _ _ h => absurd h (no vs H Q E)⟩
section
variable {P : Program} {w : World} {K : PySem.W.Frag} {mg : Str → Option Value} {base : Heap} {f : Addr} {fd : FuncData} {C : Addr} {k : Nat}
theorem ok_pack_into0 (D : Def K mg "pack_into" ["data", "value", "depth"] s_pack_into f fd) : OwnX P w K mg base "pack_into" ["data", "value", "depth"] (k + 3) (spPackInto K C 0) :=
  ⟨f, fd, D.mg, D.fn.kp, D.bd, fn_neverX fun vs H Q E ⟨_, _, _, _, _, _, h, _⟩ => absurd h (Nat.not_lt_zero _)⟩
theorem ok_pack_into1 {n : Nat} (T : Txt K mg) (CN : ConN mg "NO_BYTE" (-1)) (C3 : ConN mg "FROM_ZERO" 3) (C4 : ConN mg "BELOW_ZERO" 4) (C5 : ConN mg "STRING" 5) (C6 : ConN mg "TUPLE" 6) (ER : Err P w K mg base "PackError" "at" "at" C k) (D : Def K mg "pack_into" ["data", "value", "depth"] s_pack_into f fd)
    (O1 : OwnX P w K mg base "place_of" ["sign"] (k + 2) (spPlace C)) (O2 : Own P w K mg base "size_bytes" ["n"] 1 spSizeB) (O3 : OwnX P w K mg base "pack_into" ["data", "value", "depth"] (k + 3 + n) (spPackInto K C n)) :
    OwnX P w K mg base "pack_into" ["data", "value", "depth"] (k + 4 + n) (spPackInto K C (n + 1)) := by
  obtain ⟨t_NO_BYTE, c_NO_BYTE⟩ := CN
  obtain ⟨t_FROM_ZERO, c_FROM_ZERO⟩ := C3
  obtain ⟨t_BELOW_ZERO, c_BELOW_ZERO⟩ := C4
  obtain ⟨t_STRING, c_STRING⟩ := C5
  obtain ⟨t_TUPLE, c_TUPLE⟩ := C6
  obtain ⟨fI, fdI, iPackError, tPackError, bPackError, GPackError⟩ := ER.ini
  have mPackError := ER.gl
  have OPackError := ER.oex
  obtain ⟨fplace_of, fdplace_of, mplace_of, kplace_of, bplace_of, Gplace_of⟩ := O1
  obtain ⟨fsize_bytes, fdsize_bytes, msize_bytes, ksize_bytes, bsize_bytes, Gsize_bytes⟩ := O2
  obtain ⟨fpack_into, fdpack_into, mpack_into, kpack_into, bpack_into, Gpack_into⟩ := O3
  refine ⟨f, fd, D.mg, D.fn.kp, D.bd, (D.fn.okX (k := k + 3 + n) sc_pack_into (fun vs H Q E h => ?_) (fun cdv A outer s H vs Q E hr h => ?_)).mono (by omega)⟩
  · obtain ⟨A', v, d, m, ns, rfl, _⟩ := h
    rfl
  · obtain ⟨L, v, d, m, ns, rfl, hm, hL, hd, hz, q1, q2⟩ := h
    have tk := takes_of (X := cxOf (L2.CX P w) P w K mg base N_pack_into "pack_into" (defScope s_pack_into) f cdv A outer s H E) rfl rfl rfl rfl
    refine ⟨_, (pss_one (ps_if (pt_cmpR op_isN (pv 1) pe_non (nomark _)) (pss_one (ps_expr (pe_bm PySem.F.plainAttrs_list PySem.F.slot_list_append PySem.F.type_list_append mt_append (pv 0) (pa_cons pe_int pa_nil)))) (pss_one (ps_if (pt_cmpR op_isB (pv 1) pe_bl (nomark _)) (pss_one (ps_expr (pe_bm PySem.F.plainAttrs_list PySem.F.slot_list_append PySem.F.type_list_append mt_append (pv 0) (pa_cons pe_int pa_nil)))) (pss_one (ps_if (pt_cmpR op_isB (pv 1) pe_bl (nomark _)) (pss_one (ps_expr (pe_bm PySem.F.plainAttrs_list PySem.F.slot_list_append PySem.F.type_list_append mt_append (pv 0) (pa_cons pe_int pa_nil)))) (pss_one (ps_if (pt_val (pe_callB cr_isiV (by rfl) T.m_isinstance (by decide +kernel) (pa_cons (pv 1) (pa_cons (pe_bltn (v := .ty "int") (u := .type "int") (by rfl) T.m_int (by decide +kernel) (by rfl)) pa_nil)))) (pss_cons (ps_expr (pe_bm PySem.F.plainAttrs_list PySem.F.slot_list_append PySem.F.type_list_append mt_append (pv 0) (pa_cons (pe_ifExp (pt_cmpR op_ge (pv 1) pe_int (nomark _)) (pe_glob (v := .int 3) (u := .int 3 t_FROM_ZERO) (by rfl) c_FROM_ZERO ⟨t_FROM_ZERO, rfl⟩) (pe_glob (v := .int 4) (u := .int 4 t_BELOW_ZERO) (by rfl) c_BELOW_ZERO ⟨t_BELOW_ZERO, rfl⟩)) pa_nil)))
      (pss_one (ps_expr (pe_bm PySem.F.plainAttrs_list PySem.F.slot_list_extend PySem.F.type_list_extend mt_extend (pv 0) (pa_cons (pe_call Gsize_bytes (hr.mono (by omega)) rfl msize_bytes ksize_bytes bsize_bytes .nil pass0 (pa_cons (pe_ifExp (pt_cmpR op_ge (pv 1) pe_int (nomark _)) (pv 1) (pe_op op_sub (pe_un un_neg pe_int) (pv 1))) pa_nil)) pa_nil))))) (pss_one (ps_if (pt_val (pe_callB cr_isiV (by rfl) T.m_isinstance (by decide +kernel) (pa_cons (pv 1) (pa_cons (pe_bltn (v := .ty "str") (u := .type "str") (by rfl) T.m_str (by decide +kernel) (by rfl)) pa_nil)))) (pss_cons (ps_expr (pe_bm PySem.F.plainAttrs_list PySem.F.slot_list_append PySem.F.type_list_append mt_append (pv 0) (pa_cons (pe_glob (v := .int 5) (u := .int 5 t_STRING) (by rfl) c_STRING ⟨t_STRING, rfl⟩) pa_nil)))
      (pss_cons (ps_expr (pe_bm PySem.F.plainAttrs_list PySem.F.slot_list_extend PySem.F.type_list_extend mt_extend (pv 0) (pa_cons (pe_call Gsize_bytes (hr.mono (by omega)) rfl msize_bytes ksize_bytes bsize_bytes .nil pass0 (pa_cons (pe_callB call_len_x (by rfl) T.m_len (by decide +kernel) (pa_cons (pv 1) pa_nil)) pa_nil)) pa_nil)))
      (pss_one (ps_expr (pe_bm PySem.F.plainAttrs_list PySem.F.slot_list_extend PySem.F.type_list_extend mt_extend (pv 0) (pa_cons (pe_lcX (own := [("sign", 4)]) (g := gName 4) rfl sc_pack_into.nd tk rfl rfl (pi_str (pv 1)) (blkOk_by (N := N_pack_into) (sc := defScope s_pack_into) (own := [("sign", 4)]) (by decide +kernel)) (fun _ _ _ _ _ => (pg_name (i := 4) sc_pack_into.nd rfl (Or.inl rfl))) (fun _ _ _ _ _ => (pe_call Gplace_of (hr.mono (by omega)) rfl mplace_of kplace_of bplace_of .nil blkX_passes (pa_cons (pv 4) pa_nil)))) pa_nil)))))) (pss_one (ps_if (PW.pt (pw_and (pt_val (pe_callB cr_isiV (by rfl) T.m_isinstance (by decide +kernel) (pa_cons (pv 1) (pa_cons (pe_bltn (v := .ty "tuple") (u := .type "tuple") (by rfl) T.m_tuple (by decide +kernel) (by rfl)) pa_nil)))) (pw_and1 (pt_cmpR op_gt (pv 2) pe_int (nomark _))))) (pss_cons (ps_expr (pe_bm PySem.F.plainAttrs_list PySem.F.slot_list_append PySem.F.type_list_append mt_append (pv 0) (pa_cons (pe_glob (v := .int 6) (u := .int 6 t_TUPLE) (by rfl) c_TUPLE ⟨t_TUPLE, rfl⟩) pa_nil)))
      (pss_cons (ps_expr (pe_bm PySem.F.plainAttrs_list PySem.F.slot_list_extend PySem.F.type_list_extend mt_extend (pv 0) (pa_cons (pe_call Gsize_bytes (hr.mono (by omega)) rfl msize_bytes ksize_bytes bsize_bytes .nil pass0 (pa_cons (pe_callB call_len_x (by rfl) T.m_len (by decide +kernel) (pa_cons (pv 1) pa_nil)) pa_nil)) pa_nil)))
      (pss_one (ps_for (passes_of rfl) rfl (pi_tup (pv 1)) (pg_name (i := 3) sc_pack_into.nd rfl (Or.inl rfl)) (pss_one (ps_expr (pe_call Gpack_into (hr.mono (by omega)) rfl mpack_into kpack_into bpack_into .nil (passes_call tk fun _ _ _ _ z => z) (pa_cons (pv 0) (pa_cons (pv 3) (pa_cons (pe_op op_sub (pv 2) pe_int) pa_nil)))))))))) (pss_one (ps_raise rfl tk (pmk_oex OPackError iPackError tPackError GPackError (hr.mono (by omega)) bPackError .nil passL (by rfl) mPackError (pa_cons (pe_glob (v := .int (-1)) (u := .int (-1) t_NO_BYTE) (by rfl) c_NO_BYTE ⟨t_NO_BYTE, rfl⟩) pa_nil)))))))))))))))), ?_⟩
    have one : ∀ b : Nat, nB ns ++ [V.int (b : Int)] = nB (ns ++ [b]) := fun b => nB_app ns [b] |>.symm
    have lz : (nB ns).length < sizeLine := sz5' (by rw [nB_len]; omega)
    cases hd with
    | non =>
      refine ⟨_, rfl, rfl, _, rfl, ite2 (fun _ => ?_) (fun c => absurd rfl c)⟩
      refine ⟨_, rfl, .inl ⟨rfl, _, SqL.of hL⟩, L, _, _, rfl, rfl, hL, lz, ?_⟩
      exact q1 [0] rfl _ (But.put (List.mem_singleton.mpr rfl) _) (upd_same.trans (congrArg (fun z => some (HO.lst z)) (one 0)))
    | bl b =>
      refine ⟨_, rfl, rfl, _, rfl, ite2 (fun c => absurd (of_decide_eq_true c) (fun e => by cases e)) (fun _ => ?_)⟩
      cases b with
      | false =>
        refine ⟨_, rfl, _, rfl, _, rfl, ite2 (fun _ => ?_) (fun c => absurd rfl c)⟩
        refine ⟨_, rfl, .inl ⟨rfl, _, SqL.of hL⟩, L, _, _, rfl, rfl, hL, lz, ?_⟩
        exact q1 [1] rfl _ (But.put (List.mem_singleton.mpr rfl) _) (upd_same.trans (congrArg (fun z => some (HO.lst z)) (one 1)))
      | true =>
        refine ⟨_, rfl, _, rfl, _, rfl, ite2 (fun c => absurd (of_decide_eq_true c) (fun e => by cases e)) (fun _ => ?_)⟩
        refine ⟨_, rfl, _, rfl, _, rfl, ite2 (fun _ => ?_) (fun c => absurd rfl c)⟩
        refine ⟨_, rfl, .inl ⟨rfl, _, SqL.of hL⟩, L, _, _, rfl, rfl, hL, lz, ?_⟩
        exact q1 [2] rfl _ (But.put (List.mem_singleton.mpr rfl) _) (upd_same.trans (congrArg (fun z => some (HO.lst z)) (one 2)))
    | int i =>
      refine ⟨_, rfl, rfl, _, rfl, ite2 (fun c => absurd (of_decide_eq_true c) (fun e => by cases e)) (fun _ => ?_)⟩
      refine ⟨_, rfl, _, rfl, _, rfl, ite2 (fun c => absurd (of_decide_eq_true c) (fun e => by cases e)) (fun _ => ?_)⟩
      refine ⟨_, rfl, _, rfl, _, rfl, ite2 (fun c => absurd (of_decide_eq_true c) (fun e => by cases e)) (fun _ => ?_)⟩
      refine ⟨_, rfl, _, .int i, _, true, rfl, .int i, kit_I (.int i), true, rfl, ite2 (fun _ => ?_) (fun c => absurd rfl c)⟩
      have two : ∀ b n : Nat, enc (.int i) m = some (b :: sizeB n) → ∀ H1 p, Same (upd H L (.lst (nB (ns ++ [b])))) H1 → H1 p = some (.lst (nB (sizeB n))) → (upd H L (.lst (nB (ns ++ [b])))) p = none → rExtend (.ref L) [.ref p] H1 fun _ H' => Q .non H' := fun b n e H1 p s1 hp hn => by
        have len := enc_len _ _ _ e
        rw [List.length_cons] at len
        refine ⟨L, p, _, _, rfl, rfl, s1 _ _ upd_same, hp, sz5 (by rw [nB_len, nB_len, List.length_append, List.length_singleton]; omega), q1 _ e _ (fun x o nx ex => ?_) (upd_same.trans ?_)⟩
        · have nl : x ≠ L := fun z => nx (by rw [z]; exact List.mem_singleton.mpr rfl)
          rw [upd_ne nl]
          exact s1 _ _ (by rw [upd_ne nl]; exact ex)
        · rw [← nB_app, List.append_assoc]
          rfl
      by_cases hi : 0 ≤ i
      · have e : enc (.int i) m = some (3 :: sizeB i.toNat) := by unfold enc; rw [if_pos hi]
        have ei : i = ((i.toNat : Nat) : Int) := (Int.toNat_of_nonneg hi).symm
        have len := enc_len _ _ _ e
        rw [List.length_cons] at len
        refine ⟨_, rfl, .inl ⟨rfl, _, SqL.of hL⟩, _, rfl, _, _, rfl, rfl, _, rfl, ite2 (fun _ => ?_) (fun c => absurd (decide_eq_true hi) c)⟩
        refine ⟨L, _, _, rfl, rfl, hL, lz, ?_⟩
        refine ⟨_, rfl, .inl ⟨rfl, _, SqL.of upd_same⟩, _, rfl, _, _, rfl, rfl, _, rfl, ite2 (fun _ => ?_) (fun c => absurd (decide_eq_true hi) c)⟩
        refine ⟨_, rfl, i.toNat, by rw [← ei]; rfl, by omega, fun H1 p s1 hn hp => ?_⟩
        exact two 3 _ e H1 p (by rw [← one 3]; exact s1) hp (by rw [← one 3]; exact hn)
      · have e : enc (.int i) m = some (4 :: sizeB (-1 - i).toNat) := by unfold enc; rw [if_neg hi]
        have ei : -1 - i = (((-1 - i).toNat : Nat) : Int) := (Int.toNat_of_nonneg (by omega)).symm
        have len := enc_len _ _ _ e
        rw [List.length_cons] at len
        refine ⟨_, rfl, .inl ⟨rfl, _, SqL.of hL⟩, _, rfl, _, _, rfl, rfl, _, rfl, ite2 (fun c => absurd (of_decide_eq_true c) hi) (fun _ => ?_)⟩
        refine ⟨L, _, _, rfl, rfl, hL, lz, ?_⟩
        refine ⟨_, rfl, .inl ⟨rfl, _, SqL.of upd_same⟩, _, rfl, _, _, rfl, rfl, _, rfl, ite2 (fun c => absurd (of_decide_eq_true c) hi) (fun _ => ?_)⟩
        refine ⟨_, rfl, _, rfl, _, _, rfl, rfl, (-1 - i).toNat, by rw [← ei]; rfl, by omega, fun H1 p s1 hn hp => ?_⟩
        exact two 4 _ e H1 p (by rw [← one 4]; exact s1) hp (by rw [← one 4]; exact hn)
    | str x =>
      refine ⟨_, rfl, rfl, _, rfl, ite2 (fun c => absurd (of_decide_eq_true c) (fun e => by cases e)) (fun _ => ?_)⟩
      refine ⟨_, rfl, _, rfl, _, rfl, ite2 (fun c => absurd (of_decide_eq_true c) (fun e => by cases e)) (fun _ => ?_)⟩
      refine ⟨_, rfl, _, rfl, _, rfl, ite2 (fun c => absurd (of_decide_eq_true c) (fun e => by cases e)) (fun _ => ?_)⟩
      refine ⟨_, rfl, _, .str x, _, false, rfl, .str x, kit_I (.str x), false, rfl, ite2 (fun c => absurd c Bool.false_ne_true) (fun _ => ?_)⟩
      refine ⟨_, rfl, _, .str x, _, true, rfl, .str x, kit_S (.str x), true, rfl, ite2 (fun _ => ?_) (fun c => absurd rfl c)⟩
      have hw : 1 + ((sizeB x.length).length + x.length) = wt (.str x) := rfl
      refine ⟨_, rfl, .inl ⟨rfl, _, SqL.of hL⟩, L, _, _, rfl, rfl, hL, lz, ?_⟩
      have o5 : nB ns ++ [V.int 5] = nB (ns ++ [5]) := one 5
      refine ⟨_, rfl, .inl ⟨rfl, _, SqL.of upd_same⟩, _, rfl, .inl ⟨x, rfl, sz5 (by omega), ?_⟩⟩
      refine ⟨x.length, rfl, by omega, fun H1 p s1 hn hp => ?_⟩
      rw [o5] at s1
      refine ⟨L, p, _, _, rfl, rfl, s1 _ _ upd_same, hp, sz5 (by rw [nB_len, nB_len, List.length_append, List.length_singleton]; omega), ?_⟩
      rw [← nB_app]
      generalize hH2 : upd H1 L (.lst (nB (ns ++ [5] ++ sizeB x.length))) = H2
      have h2L : H2 L = some (.lst (nB (ns ++ [5] ++ sizeB x.length))) := by rw [← hH2]; exact upd_same
      have b2 : But [L] H H2 := fun b o nb e => by
        have nl : b ≠ L := fun z => nb (by rw [z]; exact List.mem_singleton.mpr rfl)
        rw [← hH2, upd_ne nl]
        exact s1 _ _ (by rw [upd_ne nl]; exact e)
      refine ⟨_, rfl, .inl ⟨rfl, _, SqL.of h2L⟩, _, rfl, x, rfl, fun D hD => ?_⟩
      have nD : L ≠ D := fun z => by rw [← z, h2L] at hD; cases hD
      have xl : x.cps.toList.length = x.length := by simp [Str.length]
      refine ⟨fun i r H' => ∃ ps, plsOf (x.cps.toList.take i) = some ps ∧ H' D = some (.lst (nB ps)) ∧ Same H2 H' ∧ i ≤ x.length ∧ r + i = x.length, ⟨x.length, [], rfl, upd_same, same_new hD _, Nat.zero_le _, rfl⟩, ?_⟩
      rintro i r H' ⟨ps, e1, e2, s3, le, er⟩
      have pl := plsOf_len e1
      rw [List.length_take, xl, Nat.min_eq_left le] at pl
      rcases Nat.lt_or_ge i x.length with lt | ge
      · refine .inr ⟨lt, fun H'' => ∃ qs, plsOf (x.cps.toList.take (i + 1)) = some qs ∧ H'' D = some (.lst (nB qs)) ∧ Same H2 H'', fun H'' ⟨qs, a1, a2, a3⟩ => ⟨x.length - (i + 1), by omega, qs, a1, a2, a3, lt, by omega⟩, ?_⟩
        rintro y H3 ⟨rfl, c, hc, rfl⟩
        have hc' : x.cps.toList[i]? = some c := by rw [Array.getElem?_toList]; exact hc
        refine ⟨rfl, yesV ?_⟩
        rw [if_pos rfl]
        refine ⟨_, rfl, c, rfl, fun p hp => ⟨_, e2, sz5' (by rw [nB_len]; omega), ps ++ [p], ?_, ?_, fun b o e => ?_⟩, fun hn dx H4 s4 hx => ?_⟩
        · rw [List.take_add_one, hc']
          exact plsOf_snoc e1 hp
        · rw [upd_same, nB_app]
          rfl
        · rw [upd_ne (ne_of_none e hD)]
          exact s3 b o e
        · refine q2 ?_ dx H4 (b2.trans (.of_same (s3.trans s4))) hx
          unfold enc
          rw [plsOf_none (List.mem_of_getElem? hc') hn]
          rfl
      · refine .inl ⟨ge, ?_⟩
        rw [show i = x.length by omega, ← xl, List.take_length] at e1
        refine ⟨L, D, _, _, rfl, rfl, s3 _ _ h2L, e2, sz5 (by rw [nB_len, nB_len]; simp only [List.length_append, List.length_singleton]; omega), ?_⟩
        refine q1 (5 :: (sizeB x.length ++ ps)) ?_ _ ((b2.trans (.of_same s3)).trans (But.put (List.mem_singleton.mpr rfl) _)) (upd_same.trans ?_)
        · unfold enc
          rw [e1]
          rfl
        · rw [← nB_app]
          simp [List.append_assoc]
    | @tup a xs ds hq hs =>
      refine ⟨_, rfl, rfl, _, rfl, ite2 (fun c => absurd (of_decide_eq_true c) (fun e => by cases e)) (fun _ => ?_)⟩
      refine ⟨_, rfl, _, rfl, _, rfl, ite2 (fun c => absurd (of_decide_eq_true c) (fun e => by cases e)) (fun _ => ?_)⟩
      refine ⟨_, rfl, _, rfl, _, rfl, ite2 (fun c => absurd (of_decide_eq_true c) (fun e => by cases e)) (fun _ => ?_)⟩
      have hv : Vl K H (.ref a) (.tuple ds) := .tup (sqt_mono hide_le hq) (vla_mono hide_le ds hs)
      refine ⟨_, rfl, _, .tuple ds, _, false, rfl, hv, kit_I _, false, rfl, ite2 (fun c => absurd c Bool.false_ne_true) (fun _ => ?_)⟩
      refine ⟨_, rfl, _, .tuple ds, _, false, rfl, hv, kit_S _, false, rfl, ite2 (fun c => absurd c Bool.false_ne_true) (fun _ => ?_)⟩
      refine ⟨_, rfl, _, .tuple ds, _, true, rfl, hv, kit_T _, true, rfl, ite2 (fun _ => ?_) (fun c => absurd rfl c)⟩
      cases m with
      | zero =>
        refine ⟨_, rfl, _, _, rfl, rfl, _, rfl, ite2 (fun c => absurd (of_decide_eq_true c) (by decide)) (fun _ => ?_)⟩
        exact ⟨(by decide : 1 ≤ 1000), fun a' ha' => raise_end (by decide) (fun dx H' s hx => q2 (by unfold enc; rfl) dx H' (.of_same s) hx) a' ha'⟩
      | succ m =>
        have mp : (0 : Int) < ((m + 1 : Nat) : Int) := by omega
        refine ⟨_, rfl, _, _, rfl, rfl, _, rfl, ite2 (fun _ => ?_) (fun c => absurd (decide_eq_true mp) c)⟩
        have hw : 1 + ((sizeB ds.length).length + wts ds) = wt (.tuple ds) := rfl
        have xl := vla_len hs
        have o6 : nB ns ++ [V.int 6] = nB (ns ++ [6]) := one 6
        refine ⟨_, rfl, .inl ⟨rfl, _, SqL.of hL⟩, L, _, _, rfl, rfl, hL, lz, ?_⟩
        have hq1 := sqt_mono (hide_put (d := L) (H := H) (.lst (nB ns ++ [.int 6]))) hq
        refine ⟨_, rfl, .inl ⟨rfl, _, SqL.of upd_same⟩, _, rfl, .inr ⟨a, xs, rfl, .inr (sqt_mono hide_le hq1), ?_⟩⟩
        refine ⟨ds.length, by rw [xl]; rfl, by omega, fun H1 p s1 hn hp => ?_⟩
        rw [o6] at s1
        refine ⟨L, p, _, _, rfl, rfl, s1 _ _ upd_same, hp, sz5 (by rw [nB_len, nB_len, List.length_append, List.length_singleton]; omega), ?_⟩
        rw [← nB_app]
        generalize hH2 : upd H1 L (.lst (nB (ns ++ [6] ++ sizeB ds.length))) = H2
        have h2L : H2 L = some (.lst (nB (ns ++ [6] ++ sizeB ds.length))) := by rw [← hH2]; exact upd_same
        have b2 : But [L] H H2 := fun b o nb e => by
          have nl : b ≠ L := fun z => nb (by rw [z]; exact List.mem_singleton.mpr rfl)
          rw [← hH2, upd_ne nl]
          exact s1 _ _ (by rw [upd_ne nl]; exact e)
        have q0 : ∀ {H'}, But [L] H H' → SqT K H' a xs := fun b => sqt_mono hide_le (sqt_mono b.to_hide hq)
        refine ⟨_, rfl, a, rfl, ⟨xs, q0 b2⟩, for_tup (K := K) (a := a) (xs := xs) (fun i σ' H' => ∃ (o3 : Option V) (es : List Nat), σ' = [some (.ref L), some (.ref a), some (.int ((m + 1 : Nat) : Int)), o3, none] ∧ encs (ds.take i) m = some es ∧ H' L = some (.lst (nB (ns ++ [6] ++ sizeB ds.length ++ es))) ∧ But [L] H H')
          ⟨none, [], rfl, by rw [List.take_zero]; unfold encs; rfl, by rw [List.append_nil]; exact h2L, b2⟩ (fun i σ' H' _ ⟨_, _, _, _, _, b⟩ => q0 b) ?_ ?_⟩
        · rintro i y σ' H3 hy ⟨o3, es, rfl, e3, h3, b3⟩
          obtain ⟨d', hd', hv'⟩ := vla_get hs hy
          have ln := encs_len _ _ _ e3
          have wl := wts_take ds i d' hd'
          refine ⟨_, rfl, _, rfl, _, rfl, _, _, rfl, rfl, L, y, d', m, _, congrArg (fun z => [V.ref L, y, V.int z]) (show ((m + 1 : Nat) : Int) - 1 = (m : Int) by omega), by omega, h3, vl_mono b3.to_hide d' hv', ?_, fun bs eb H4 b4 h4 => ?_, fun en dx H4 b4 hx => ?_⟩
          · simp only [List.length_append, List.length_singleton]
            omega
          · refine ⟨_, es ++ bs, rfl, ?_, ?_, b3.trans b4⟩
            · rw [List.take_add_one, hd']
              exact encs_snoc e3 eb
            · rw [← List.append_assoc]
              exact h4
          · refine q2 ?_ dx H4 (b3.trans b4) hx
            unfold enc
            show (encs ds m).map _ = none
            rw [encs_none (List.mem_of_getElem? hd') en]
            rfl
        · rintro σ' H3 ⟨o3, es, rfl, e3, h3, b3⟩
          rw [xl, List.take_length] at e3
          refine q1 (6 :: (sizeB ds.length ++ es)) ?_ H3 b3 ?_
          · unfold enc
            show (encs ds m).map _ = _
            rw [e3]
            rfl
          · rw [h3]
            simp [List.append_assoc]
    | @lst a xs ds hq hs =>
      refine ⟨_, rfl, rfl, _, rfl, ite2 (fun c => absurd (of_decide_eq_true c) (fun e => by cases e)) (fun _ => ?_)⟩
      refine ⟨_, rfl, _, rfl, _, rfl, ite2 (fun c => absurd (of_decide_eq_true c) (fun e => by cases e)) (fun _ => ?_)⟩
      refine ⟨_, rfl, _, rfl, _, rfl, ite2 (fun c => absurd (of_decide_eq_true c) (fun e => by cases e)) (fun _ => ?_)⟩
      have hv : Vl K H (.ref a) (.list ds) := .lst (sql_mono hide_le hq) (vla_mono hide_le ds hs)
      refine ⟨_, rfl, _, .list ds, _, false, rfl, hv, kit_I _, false, rfl, ite2 (fun c => absurd c Bool.false_ne_true) (fun _ => ?_)⟩
      refine ⟨_, rfl, _, .list ds, _, false, rfl, hv, kit_S _, false, rfl, ite2 (fun c => absurd c Bool.false_ne_true) (fun _ => ?_)⟩
      refine ⟨_, rfl, _, .list ds, _, false, rfl, hv, kit_T _, false, rfl, ite2 (fun c => absurd c Bool.false_ne_true) (fun _ => ite2 (fun c => absurd c Bool.false_ne_true) (fun _ => ?_))⟩
      exact ⟨(by decide : 1 ≤ 1000), fun a' ha' => raise_end (by decide) (fun dx H' s hx => q2 (by unfold enc; rfl) dx H' (.of_same s) hx) a' ha'⟩
    | @dct a ha =>
      refine ⟨_, rfl, rfl, _, rfl, ite2 (fun c => absurd (of_decide_eq_true c) (fun e => by cases e)) (fun _ => ?_)⟩
      refine ⟨_, rfl, _, rfl, _, rfl, ite2 (fun c => absurd (of_decide_eq_true c) (fun e => by cases e)) (fun _ => ?_)⟩
      refine ⟨_, rfl, _, rfl, _, rfl, ite2 (fun c => absurd (of_decide_eq_true c) (fun e => by cases e)) (fun _ => ?_)⟩
      have hv : Vl K H (.ref a) (.dict []) := .dct (hide_le _ _ ha)
      refine ⟨_, rfl, _, .dict [], _, false, rfl, hv, kit_I _, false, rfl, ite2 (fun c => absurd c Bool.false_ne_true) (fun _ => ?_)⟩
      refine ⟨_, rfl, _, .dict [], _, false, rfl, hv, kit_S _, false, rfl, ite2 (fun c => absurd c Bool.false_ne_true) (fun _ => ?_)⟩
      refine ⟨_, rfl, _, .dict [], _, false, rfl, hv, kit_T _, false, rfl, ite2 (fun c => absurd c Bool.false_ne_true) (fun _ => ite2 (fun c => absurd c Bool.false_ne_true) (fun _ => ?_))⟩
      exact ⟨(by decide : 1 ≤ 1000), fun a' ha' => raise_end (by decide) (fun dx H' s hx => q2 (by unfold enc; rfl) dx H' (.of_same s) hx) a' ha'⟩
theorem ok_pack_into (T : Txt K mg) (CN : ConN mg "NO_BYTE" (-1)) (C3 : ConN mg "FROM_ZERO" 3) (C4 : ConN mg "BELOW_ZERO" 4) (C5 : ConN mg "STRING" 5) (C6 : ConN mg "TUPLE" 6) (ER : Err P w K mg base "PackError" "at" "at" C k) (D : Def K mg "pack_into" ["data", "value", "depth"] s_pack_into f fd)
    (O1 : OwnX P w K mg base "place_of" ["sign"] (k + 2) (spPlace C)) (O2 : Own P w K mg base "size_bytes" ["n"] 1 spSizeB) : ∀ n, OwnX P w K mg base "pack_into" ["data", "value", "depth"] (k + 3 + n) (spPackInto K C n)
  | 0 => ok_pack_into0 D
  | n + 1 => by
    have h := ok_pack_into1 T CN C3 C4 C5 C6 ER D O1 O2 (ok_pack_into T CN C3 C4 C5 C6 ER D O1 O2 n)
    rw [show k + 3 + (n + 1) = k + 4 + n by omega]
    exact h
def spPack (K : PySem.W.Frag) (C : Addr) : Sp := fun vs H Q E => ∃ (v : V) (d : PyData), vs = [v] ∧ Vl K H v d ∧ wt d ≤ 130000 ∧
  (∀ bs, enc d 60 = some bs → ∀ H' p, Same H H' → H p = none → H' p = some (.lst (nB bs)) → Q (.ref p) H') ∧ (enc d 60 = none → Up "at" C (-1) H E)
theorem ok_pack (T : Txt K mg) (CD : ConN mg "DEEPEST_TUPLES" 60) (D : Def K mg "pack" ["value"] s_pack f fd) (O1 : OwnX P w K mg base "pack_into" ["data", "value", "depth"] (k + 64) (spPackInto K C 61)) : OwnX P w K mg base "pack" ["value"] (k + 65) (spPack K C) := by
  obtain ⟨t_DEEPEST_TUPLES, c_DEEPEST_TUPLES⟩ := CD
  obtain ⟨fpack_into, fdpack_into, mpack_into, kpack_into, bpack_into, Gpack_into⟩ := O1
  refine ⟨f, fd, D.mg, D.fn.kp, D.bd, D.fn.okX sc_pack (fun vs H Q E h => ?_) (fun cdv A outer s H vs Q E hr h => ?_)⟩
  · obtain ⟨v, d, rfl, _⟩ := h
    rfl
  · obtain ⟨v, d, rfl, hv, hw, q1, q2⟩ := h
    have tk := takes_of (X := cxOf (L2.CX P w) P w K mg base N_pack "pack" (defScope s_pack) f cdv A outer s H E) rfl rfl rfl rfl
    refine ⟨_, (pss_cons (ps_set (i := 1) sc_pack.nd rfl (Or.inl rfl) (pe_lst pa_nil))
      (pss_cons (ps_expr (pe_call Gpack_into (hr.mono (by omega)) rfl mpack_into kpack_into bpack_into .nil (passes_call tk fun _ _ _ _ z => z) (pa_cons (pv 1) (pa_cons (pv 0) (pa_cons (pe_glob (v := .int 60) (u := .int 60 t_DEEPEST_TUPLES) (by rfl) c_DEEPEST_TUPLES ⟨t_DEEPEST_TUPLES, rfl⟩) pa_nil)))))
      (pss_one (ps_ret (pv 1))))), ?_⟩
    refine ⟨by show 0 ≤ sizeLine; decide, fun p hp => ?_⟩
    have hid : Same H (hide p (upd H p (.lst []))) := fun b o e => hide_in (same_new hp _ b o e) (ne_of_none e hp)
    have back : ∀ {H'}, But [p] (upd H p (.lst [])) H' → Same H H' := fun b x o e => b x o (fun m => by
      have z := List.mem_singleton.mp m
      rw [z, hp] at e
      cases e) (same_new hp _ x o e)
    refine ⟨_, rfl, _, rfl, p, v, d, 60, [], rfl, by decide, upd_same, vl_mono hid d hv, by rw [List.length_nil]; omega, fun bs eb H' b h => ?_, fun en dx H' b hx => ?_⟩
    · exact ⟨_, rfl, q1 bs eb H' p (back b) hp h⟩
    · exact q2 en dx H' (back b) hx
end
end My

set_option Elab.async false
set_option maxRecDepth 130000
set_option maxHeartbeats 4000000
set_option linter.all false
namespace My
open PySem L2 P6
open C8 (pss_cut)
structure RdK (K : PySem.W.Frag) (R : Addr) : Prop where
  cls : L2.Cls K R
  d : L2.NoAttr K R "data"
  a : L2.NoAttr K R "at"
def rdFs (D : Addr) (i : Nat) : List (Str × V) := [("data", .ref D), ("at", .int (i : Int))]
theorem rdFs_d (D : Addr) (i : Nat) : (rdFs D i).lookup ("data" : Str) = some (.ref D) := by
  unfold rdFs
  rw [List.lookup_cons, beq_self_eq_true]
theorem rdFs_a (D : Addr) (i : Nat) : (rdFs D i).lookup ("at" : Str) = some (.int (i : Int)) := by
  unfold rdFs
  rw [List.lookup_cons, show (("at" : Str) == ("data" : Str)) = false by decide +kernel, List.lookup_cons, beq_self_eq_true]
theorem rdFs_no (D : Addr) (i : Nat) {m : Str} (h1 : (m == ("data" : Str)) = false) (h2 : (m == ("at" : Str)) = false) : (rdFs D i).lookup m = none := by
  unfold rdFs
  rw [List.lookup_cons, h1, List.lookup_cons, h2]
  rfl
theorem rdFs_put (D : Addr) (i j : Nat) : putF "at" (.int (j : Int)) (rdFs D i) = rdFs D j := by
  unfold rdFs
  show (if ("data" : Str) = "at" then _ else (("data" : Str), V.ref D) :: (if ("at" : Str) = "at" then (("at" : Str), V.int (j : Int)) :: [] else _)) = _
  rw [if_neg (by decide +kernel), if_pos rfl]
structure RdAt (R p D : Addr) (bs : List Nat) (H : Hp) (i : Nat) : Prop where
  ins : ∃ dx, H p = some (.ins R dx (rdFs D i))
  lst : H D = some (.lst (nB bs))
  le : i ≤ bs.length
structure BsOk (bs : List Nat) : Prop where
  len : bs.length ≤ 130100
  byte : ∀ b ∈ bs, b ≤ 255
/-- a reading: what is read and how far, or where it breaks off -/
def Rdg {α : Type} (R C p D : Addr) (bs : List Nat) (r : Rs α) (rel : Hp → V → α → Prop) (H : Hp) (Q : VK) (E : XK) : Prop :=
  (∀ a j, r = .ok a j → ∀ v H', But [p] H H' → RdAt R p D bs H' j → rel H' v a → Q v H') ∧ (∀ e, r = .bad e → ∀ dx H', But [p] H H' → H' dx = some (.xd [("at", .int (e : Int))]) → E (.ref C) (some dx) H')
def dby (bs : List Nat) (i : Nat) : Rs Nat := match bs[i]? with
  | none => .bad i
  | some b => .ok b (i + 1)
theorem dby_ok {bs : List Nat} {i b j : Nat} (h : dby bs i = .ok b j) : bs[i]? = some b ∧ j = i + 1 := by
  unfold dby at h
  split at h
  · cases h
  · rename_i x e
    cases h
    exact ⟨e, rfl⟩
theorem dby_bad {bs : List Nat} {i e : Nat} (h : dby bs i = .bad e) : bs[i]? = none ∧ e = i := by
  unfold dby at h
  split at h
  · rename_i x
    cases h
    exact ⟨x, rfl⟩
  · cases h
theorem chars_at : ∀ b, b < 37 → charS.cps.toList[b]? = some (chAt b) := by decide +kernel
theorem charS_len : charS.length = 37 := by decide +kernel
theorem drop_at {bs : List Nat} {j d : Nat} (h : bs[j]? = some d) : bs.drop j = d :: bs.drop (j + 1) := by
  obtain ⟨lt, e⟩ := List.getElem?_eq_some_iff.mp h
  rw [List.drop_eq_getElem_cons lt, e]
theorem map_map {α β γ : Type} (r : Rs α) (f : α → β) (g : β → γ) : (r.map f).map g = r.map fun a => g (f a) := by cases r <;> rfl
theorem dsz_more {bs : List Nat} {j d : Nat} {fst : Bool} (h : bs[j]? = some d) (hd : 128 ≤ d) : dsz (bs.drop j) j fst = (dsz (bs.drop (j + 1)) (j + 1) false).map fun n => (d - 128) + 128 * n := by
  rw [drop_at h]
  show (if 128 ≤ d then _ else _) = _
  rw [if_pos hd]
theorem dsz_last {bs : List Nat} {j d : Nat} {fst : Bool} (h : bs[j]? = some d) (hd : ¬ 128 ≤ d) : dsz (bs.drop j) j fst = if d = 0 ∧ fst = false then .bad j else .ok d (j + 1) := by
  rw [drop_at h]
  show (if 128 ≤ d then _ else _) = _
  rw [if_neg hd]
theorem dsz_end {bs : List Nat} {j : Nat} {fst : Bool} (h : bs[j]? = none) : dsz (bs.drop j) j fst = .bad j := by
  rw [List.drop_eq_nil_of_le (List.getElem?_eq_none_iff.mp h)]
  rfl
def relN : Hp → V → Nat → Prop := fun _ v n => v = .int (n : Int)
def spByte (R C : Addr) : Sp := fun vs H Q E => ∃ (p D : Addr) (bs : List Nat) (i : Nat), vs = [.ref p] ∧ RdAt R p D bs H i ∧ BsOk bs ∧ Rdg R C p D bs (dby bs i) relN H Q E
def spChar (R C : Addr) : Sp := fun vs H Q E => ∃ (p D : Addr) (bs : List Nat) (i : Nat), vs = [.ref p] ∧ RdAt R p D bs H i ∧ BsOk bs ∧ Rdg R C p D bs (dch bs i) (fun _ v c => v = .str ⟨#[c]⟩) H Q E
def spSize (R C : Addr) : Sp := fun vs H Q E => ∃ (p D : Addr) (bs : List Nat) (i : Nat), vs = [.ref p] ∧ RdAt R p D bs H i ∧ BsOk bs ∧ Rdg R C p D bs (dsz (bs.drop i) i true) relN H Q E
def spValue (K : PySem.W.Frag) (R C : Addr) (n : Nat) : Sp := fun vs H Q E => ∃ (p D : Addr) (bs : List Nat) (i k : Nat), vs = [.ref p, .int (k : Int)] ∧ k < n ∧ RdAt R p D bs H i ∧ BsOk bs ∧ Rdg R C p D bs (dval bs k i) (fun H' v d => Dp K H' v d ∧ noLst d = true) H Q E
def OwnXM (P : Program) (w : World) (K : PySem.W.Frag) (mg : Str → Option Value) (base : Heap) (R : Addr) (x : Str) (ps : List Str) (k : Nat) (sp : Sp) : Prop :=
  ∃ (f : Addr) (fd : FuncData), Meth K R x f ∧ Binds K fd ps [] ∧ FnOk P w K mg base (L2.CX P w) k f fd ps sp
structure DefM6 (K : PySem.W.Frag) (R : Addr) (x qx : Str) (ps : List Str) (st : Stmt) (f : Addr) (fd : FuncData) : Prop where
  fn : Fun K x qx st f fd
  bd : Binds K fd ps []
  me : Meth K R x f
theorem log_small {n : Nat} (h : n ≤ 1300000) : ((n : Int)).natAbs.log2 < 1920 := by
  rw [Int.natAbs_natCast]
  by_cases h0 : n = 0
  · subst h0
    decide
  · exact (Nat.log2_lt h0).mpr (Nat.lt_of_le_of_lt h (by decide +kernel))
section
variable {P : Program} {w : World} {K : PySem.W.Frag} {mg : Str → Option Value} {base : Heap} {f : Addr} {fd : FuncData} {R C : Addr} {k : Nat}
theorem ok_byte (T : Txt K mg) (PK : RdK K R) (ER : Err P w K mg base "PackError" "at" "at" C k) (D : DefM6 K R "byte" "Reader.byte" ["self"] s_Reader_byte f fd) (O1 : Own P w K mg base "is_between" ["value", "low", "high"] 1 spBetween) : OwnXM P w K mg base R "byte" ["self"] (k + 3) (spByte R C) := by
  obtain ⟨fI, fdI, iPackError, tPackError, bPackError, GPackError⟩ := ER.ini
  have mPackError := ER.gl
  have OPackError := ER.oex
  obtain ⟨fis_between, fdis_between, mis_between, kis_between, bis_between, Gis_between⟩ := O1
  refine ⟨f, fd, D.me, D.bd, D.fn.okX sc_Reader_byte (fun vs H Q E h => ?_) (fun cdv A outer s H vs Q E hr h => ?_)⟩
  · obtain ⟨p, L, bs, i, rfl, _⟩ := h
    rfl
  · obtain ⟨p, L, bs, i, rfl, hR, hB, q1, q2⟩ := h
    have tk := takes_of (X := cxOf (L2.CX P w) P w K mg base N_Reader_byte "Reader.byte" (defScope s_Reader_byte) f cdv A outer s H E) rfl rfl rfl rfl
    obtain ⟨⟨dx, hp⟩, hL, le⟩ := hR
    refine ⟨_, (pss_cons (ps_if (PW.pt (pw_or (pt_cmpR op_ge (pe_fld (pv 0) (by rfl)) (pe_callB call_len_seq (by rfl) T.m_len (by decide +kernel) (pa_cons (pe_fld (pv 0) (by rfl)) pa_nil)) (nomark _)) (pw_or1 (pt_not (pt_val (pe_call Gis_between (hr.mono (by omega)) rfl mis_between kis_between bis_between .nil pass0 (pa_cons (pe_ix ix_list (pe_fld (pv 0) (by rfl)) (pe_fld (pv 0) (by rfl)) (fun _ _ => rfl)) (pa_cons pe_int (pa_cons pe_int pa_nil))))))))) (pss_one (ps_raise rfl tk (pmk_oex OPackError iPackError tPackError GPackError (hr.mono (by omega)) bPackError .nil passL (by rfl) mPackError (pa_cons (pe_fld (pv 0) (by rfl)) pa_nil)))) pss_nil)
      (pss_cons (ps_fldaug (pv 0) pe_int iop_add)
      (pss_one (ps_ret (pe_ix ix_list (pe_fld (pv 0) (by rfl)) (pe_op op_sub (pe_fld (pv 0) (by rfl)) pe_int) (fun _ _ => rfl)))))), ?_⟩
    have ln : ((nB bs).length : Int) = (bs.length : Int) := by rw [nB_len]
    refine ⟨_, rfl, p, R, dx, _, _, rfl, hp, PK.cls, PK.a, rdFs_a L i, _, rfl, p, R, dx, _, _, rfl, hp, PK.cls, PK.d, rdFs_d L i, L, _, rfl, .inl (SqL.of hL), _, _, rfl, rfl, _, rfl, ite2 (fun c => ?_) (fun c => ?_)⟩
    · have c : ((nB bs).length : Int) ≤ (i : Int) := of_decide_eq_true c
      have e : bs[i]? = none := List.getElem?_eq_none (by omega)
      refine ⟨_, rfl, p, R, dx, _, _, rfl, hp, PK.cls, PK.a, rdFs_a L i, (by decide : 1 ≤ 1000), fun a ha => raise_end (log_small (by have := hB.len; omega)) (fun d' H' s hx => q2 i (by unfold dby; rw [e]) d' H' (.of_same s) hx) a ha⟩
    · have c : ¬ ((nB bs).length : Int) ≤ (i : Int) := fun h => c (decide_eq_true h)
      have lt : i < bs.length := by omega
      obtain ⟨b, hb⟩ : ∃ b, bs[i]? = some b := ⟨bs[i], List.getElem?_eq_getElem lt⟩
      have b255 := hB.byte b (List.mem_of_getElem? hb)
      refine ⟨_, rfl, p, R, dx, _, _, rfl, hp, PK.cls, PK.d, rdFs_d L i, _, rfl, p, R, dx, _, _, rfl, hp, PK.cls, PK.a, rdFs_a L i, L, _, _, _, rfl, rfl, SqL.of hL, atI_nat (nB_at hb), ?_⟩
      have hbw : (decide ((0 : Int) ≤ (b : Int)) && decide ((b : Int) ≤ 255)) = true := by
        rw [decide_eq_true (Int.natCast_nonneg b), decide_eq_true (by omega : (b : Int) ≤ 255)]
        rfl
      refine ⟨_, _, _, rfl, _, rfl, ite2 (fun c => ?_) (fun _ => ?_)⟩
      · rw [hbw] at c
        cases c
      · have n1 : p ≠ L := fun z => by rw [z, hL] at hp; cases hp
        have hb1 : (nB bs)[i]? = some (.int (b : Int)) := nB_at hb
        refine ⟨_, rfl, p, R, dx, _, _, rfl, hp, PK.cls, PK.a, rdFs_a L i, _, _, rfl, rfl, dx, _, hp, (by decide : 2 < 1000), ?_⟩
        have ef : putF "at" (.int ((i : Int) + 1)) (rdFs L i) = rdFs L (i + 1) := rdFs_put L i (i + 1)
        have eh : upd H p (.ins R dx (putF "at" ((fun i j => V.int (i + j)) (i : Int) 1) (rdFs L i))) = upd H p (.ins R dx (rdFs L (i + 1))) := congrArg (fun z => upd H p (.ins R dx z)) ef
        rw [eh]
        have hL1 : (upd H p (.ins R dx (rdFs L (i + 1)))) L = some (.lst (nB bs)) := by rw [upd_ne n1.symm]; exact hL
        have atb : atI (nB bs) (((i + 1 : Nat) : Int) - 1) = some (.int (b : Int)) := by
          rw [show ((i + 1 : Nat) : Int) - 1 = (i : Int) by omega]
          exact atI_nat hb1
        exact ⟨_, rfl, p, R, dx, _, _, rfl, upd_same, PK.cls, PK.d, rdFs_d L (i + 1), _, rfl, p, R, dx, _, _, rfl, upd_same, PK.cls, PK.a, rdFs_a L (i + 1), _, _, rfl, rfl, L, _, _, _, rfl, rfl, SqL.of hL1, atb,
          q1 b (i + 1) (by unfold dby; rw [hb]) _ _ (But.put (List.mem_singleton.mpr rfl) _) ⟨⟨dx, upd_same⟩, hL1, lt⟩ rfl⟩
theorem ok_character (T : Txt K mg) (CC : ConT mg "CHARACTERS" charS) (PK : RdK K R) (ER : Err P w K mg base "PackError" "at" "at" C k) (D : DefM6 K R "character" "Reader.character" ["self"] s_Reader_character f fd) (O1 : OwnXM P w K mg base R "byte" ["self"] (k + 3) (spByte R C)) : OwnXM P w K mg base R "character" ["self"] (k + 4) (spChar R C) := by
  obtain ⟨t_CHARACTERS, c_CHARACTERS⟩ := CC
  obtain ⟨fI, fdI, iPackError, tPackError, bPackError, GPackError⟩ := ER.ini
  have mPackError := ER.gl
  have OPackError := ER.oex
  obtain ⟨fbyte, fdbyte, Mbyte, bbyte, Gbyte⟩ := O1
  refine ⟨f, fd, D.me, D.bd, D.fn.okX sc_Reader_character (fun vs H Q E h => ?_) (fun cdv A outer s H vs Q E hr h => ?_)⟩
  · obtain ⟨p, L, bs, i, rfl, _⟩ := h
    rfl
  · obtain ⟨p, L, bs, i, rfl, hR, hB, q1, q2⟩ := h
    have tk := takes_of (X := cxOf (L2.CX P w) P w K mg base N_Reader_character "Reader.character" (defScope s_Reader_character) f cdv A outer s H E) rfl rfl rfl rfl
    refine ⟨_, (pss_cons (ps_set (i := 1) sc_Reader_character.nd rfl (Or.inl rfl) (pe_meth0 (pv 0) PK.cls Mbyte Gbyte (hr.mono (by omega)) bbyte .nil (passes_call tk fun _ _ _ _ z => z)))
      (pss_cons (ps_if (pt_cmpR op_ge (pv 1) (pe_callB call_len_str (by rfl) T.m_len (by decide +kernel) (pa_cons (pe_glob (v := .str "abcdefghijklmnopqrstuvwxyz0123456789_") (u := .str "abcdefghijklmnopqrstuvwxyz0123456789_" t_CHARACTERS) (by rfl) c_CHARACTERS ⟨t_CHARACTERS, rfl⟩) pa_nil)) (nomark _)) (pss_one (ps_raise rfl tk (pmk_oex OPackError iPackError tPackError GPackError (hr.mono (by omega)) bPackError .nil passL (by rfl) mPackError (pa_cons (pe_op op_sub (pe_fld (pv 0) (by rfl)) pe_int) pa_nil)))) pss_nil)
      (pss_one (ps_ret (pe_ix ix_str (pe_glob (v := .str "abcdefghijklmnopqrstuvwxyz0123456789_") (u := .str "abcdefghijklmnopqrstuvwxyz0123456789_" t_CHARACTERS) (by rfl) c_CHARACTERS ⟨t_CHARACTERS, rfl⟩) (pv 1) (fun _ _ => rfl)))))), ?_⟩
    obtain ⟨dx, hp⟩ := hR.ins
    refine ⟨_, rfl, p, dx, _, rfl, hp, rdFs_no _ _ (by decide +kernel) (by decide +kernel), p, L, bs, i, rfl, hR, hB, fun b j e v H1 b1 hR1 ev => ?_, fun e he dx H1 b1 hx => ?_⟩
    · obtain ⟨hb, rfl⟩ := dby_ok e
      obtain rfl : v = .int (b : Int) := ev
      obtain ⟨dx1, hp1⟩ := hR1.ins
      have cl : (charS.length : Int) = 37 := by rw [charS_len]; rfl
      refine ⟨_, rfl, charS, rfl, by rw [charS_len, sizeLine_eq]; decide, _, _, rfl, rfl, _, rfl, ite2 (fun c => ?_) (fun c => ?_)⟩
      · have c : (charS.length : Int) ≤ (b : Int) := of_decide_eq_true c
        refine ⟨_, rfl, p, R, dx1, _, _, rfl, hp1, PK.cls, PK.a, rdFs_a L (i + 1), _, _, rfl, rfl, (by decide : 1 ≤ 1000), ?_⟩
        show ∀ a, H1 a = none → spErr "at" C [.ref a, .int (((i + 1 : Nat) : Int) - 1)] _ _ _
        rw [show ((i + 1 : Nat) : Int) - 1 = (i : Int) by omega]
        have le := hR.le
        have ln := hB.len
        exact fun a ha => raise_end (log_small (by omega)) (fun d' H' s hx => q2 i (by unfold dch; rw [hb]; exact if_neg (by omega)) d' H' (b1.trans (.of_same s)) hx) a ha
      · have c : ¬ (charS.length : Int) ≤ (b : Int) := fun h => c (decide_eq_true h)
        have lt : b < 37 := by omega
        refine ⟨_, rfl, charS, (b : Int), chAt b, rfl, rfl, by rw [charS_len, sizeLine_eq]; decide, atI_nat (chars_at b lt), ?_⟩
        exact q1 _ _ (by unfold dch; rw [hb]; exact if_pos lt) _ H1 b1 hR1 rfl
    · obtain ⟨hb, rfl⟩ := dby_bad he
      exact q2 e (by unfold dch; rw [hb]) dx H1 b1 hx
theorem ok_size (T : Txt K mg) (CM : ConN mg "MORE" 128) (PK : RdK K R) (ER : Err P w K mg base "PackError" "at" "at" C k) (D : DefM6 K R "size" "Reader.size" ["self"] s_Reader_size f fd) (O1 : OwnXM P w K mg base R "byte" ["self"] (k + 3) (spByte R C)) : OwnXM P w K mg base R "size" ["self"] (k + 4) (spSize R C) := by
  obtain ⟨t_MORE, c_MORE⟩ := CM
  obtain ⟨fI, fdI, iPackError, tPackError, bPackError, GPackError⟩ := ER.ini
  have mPackError := ER.gl
  have OPackError := ER.oex
  obtain ⟨fbyte, fdbyte, Mbyte, bbyte, Gbyte⟩ := O1
  refine ⟨f, fd, D.me, D.bd, D.fn.okX sc_Reader_size (fun vs H Q E h => ?_) (fun cdv A outer s H vs Q E hr h => ?_)⟩
  · obtain ⟨p, L, bs, i, rfl, _⟩ := h
    rfl
  · obtain ⟨p, L, bs, i, rfl, hR, hB, q1, q2⟩ := h
    have tk := takes_of (X := cxOf (L2.CX P w) P w K mg base N_Reader_size "Reader.size" (defScope s_Reader_size) f cdv A outer s H E) rfl rfl rfl rfl
    refine ⟨_, (pss_cons (ps_set (i := 1) sc_Reader_size.nd rfl (Or.inl rfl) pe_int)
      (pss_cons (ps_set (i := 2) sc_Reader_size.nd rfl (Or.inl rfl) pe_int)
      (pss_cons (ps_set (i := 3) sc_Reader_size.nd rfl (Or.inl rfl) (pe_meth0 (pv 0) PK.cls Mbyte Gbyte (hr.mono (by omega)) bbyte .nil (passes_call tk fun _ _ _ _ z => z)))
      (pss_cons (ps_while (passes_of rfl) (pt_cmpR op_ge (pv 3) (pe_glob (v := .int 128) (u := .int 128 t_MORE) (by rfl) c_MORE ⟨t_MORE, rfl⟩) (nomark _)) (pss_cons (ps_aug (i := 1) sc_Reader_size.nd rfl (Or.inl rfl) (pe_op op_shl (pe_op op_sub (pv 3) (pe_glob (v := .int 128) (u := .int 128 t_MORE) (by rfl) c_MORE ⟨t_MORE, rfl⟩)) (pv 2)) iop_or)
      (pss_cons (ps_aug (i := 2) sc_Reader_size.nd rfl (Or.inl rfl) pe_int ip_add)
      (pss_one (ps_set (i := 3) sc_Reader_size.nd rfl (Or.inl rfl) (pe_meth0 (pv 0) PK.cls Mbyte Gbyte (hr.mono (by omega)) bbyte .nil (passes_call tk fun _ _ _ _ z => z)))))))
      (pss_cons (ps_if (PW.pt (pw_and (pt_cmpR op_eq (pv 3) pe_int (nomark _)) (pw_and1 (pt_cmpR op_gt (pv 2) pe_int (nomark _))))) (pss_one (ps_raise rfl tk (pmk_oex OPackError iPackError tPackError GPackError (hr.mono (by omega)) bPackError .nil passL (by rfl) mPackError (pa_cons (pe_op op_sub (pe_fld (pv 0) (by rfl)) pe_int) pa_nil)))) pss_nil)
      (pss_one (ps_ret (pe_op op_or (pv 1) (pe_op op_shl (pv 3) (pv 2)))))))))), ?_⟩
    obtain ⟨dx, hp⟩ := hR.ins
    have ln := hB.len
    refine ⟨_, rfl, p, dx, _, rfl, hp, rdFs_no _ _ (by decide +kernel) (by decide +kernel), p, L, bs, i, rfl, hR, hB, fun b j e v H1 b1 hR1 ev => ?_, fun e he dx H1 b1 hx => ?_⟩
    rotate_left
    · obtain ⟨hb, rfl⟩ := dby_bad he
      exact q2 e (dsz_end hb) dx H1 b1 hx
    obtain ⟨hb, rfl⟩ := dby_ok e
    obtain rfl : v = .int (b : Int) := ev
    refine ⟨fun m σ' H' => ∃ n s j d : Nat, σ' = [some (.ref p), some (.int (n : Int)), some (.int ((7 * s : Nat) : Int)), some (.int (d : Int))] ∧ RdAt R p L bs H' (j + 1) ∧ But [p] H H' ∧ bs[j]? = some d ∧ n < 2 ^ (7 * s) ∧
      dsz (bs.drop i) i true = (dsz (bs.drop j) j (decide (s = 0))).map (fun m => n + 2 ^ (7 * s) * m) ∧ s ≤ j ∧ m = bs.length - j, ⟨bs.length - i, 0, 0, i, b, rfl, hR1, b1, hb, by decide, ?_, Nat.zero_le _, rfl⟩, ?_⟩
    · have : (fun m => 0 + 2 ^ (7 * 0) * m) = fun m : Nat => m := funext fun m => by omega
      rw [this]
      show _ = Rs.map _ (dsz (bs.drop i) i true)
      cases dsz (bs.drop i) i true <;> rfl
    rintro m σ' H2 ⟨n, s, j, d, rfl, hR2, b2, hd, hn, er, sj, rfl⟩
    have jl : j < bs.length := (List.getElem?_eq_some_iff.mp hd).1
    refine ⟨_, rfl, _, _, rfl, rfl, _, rfl, ite2 (fun c => ?_) (fun c => ?_)⟩
    · have c : (128 : Int) ≤ (d : Int) := of_decide_eq_true c
      have d255 := hB.byte d (List.mem_of_getElem? hd)
      rw [dsz_more hd (by omega), map_map] at er
      have p2 : 0 < 2 ^ (7 * s) := Nat.two_pow_pos _
      have hn2 : n + 2 ^ (7 * s) * (d - 128) < 2 ^ (7 * (s + 1)) := by
        have e7 : 2 ^ (7 * (s + 1)) = 2 ^ (7 * s) * 128 := by rw [show 7 * (s + 1) = 7 * s + 7 by omega, Nat.pow_add]
        have : 2 ^ (7 * s) * (d - 128) ≤ 2 ^ (7 * s) * 127 := Nat.mul_le_mul_left _ (by omega)
        omega
      have er2 : dsz (bs.drop i) i true = (dsz (bs.drop (j + 1)) (j + 1) (decide (s + 1 = 0))).map (fun m => n + 2 ^ (7 * s) * (d - 128) + 2 ^ (7 * (s + 1)) * m) := by
        rw [er, decide_eq_false (Nat.succ_ne_zero s)]
        congr 1
        funext m
        rw [show 7 * (s + 1) = 7 * s + 7 by omega, Nat.pow_add, Nat.mul_add, Nat.add_assoc, Nat.mul_assoc]
      have ev : Builtin.bitOr (n : Int) (((d : Int) - 128) * 2 ^ (((7 * s : Nat) : Int)).toNat) = ((n + 2 ^ (7 * s) * (d - 128) : Nat) : Int) := by
        rw [Int.toNat_natCast, Bits.bitOr_join (Int.natCast_nonneg n) (by exact_mod_cast hn) (by omega)]
        have : ((d : Int) - 128) = ((d - 128 : Nat) : Int) := by omega
        rw [this]
        push_cast
        rw [Int.mul_comm]
      have cp : CPow ((d : Int) - 128) ((7 * s : Nat) : Int) := ⟨Int.natCast_nonneg _, by omega, by
        have : ((d : Int) - 128).natAbs ≤ 127 := by omega
        exact Nat.lt_of_le_of_lt this (by decide +kernel)⟩
      refine ⟨fun σ' H' => ∃ d' : Nat, σ' = [some (.ref p), some (.int ((n + 2 ^ (7 * s) * (d - 128) : Nat) : Int)), some (.int ((7 * (s + 1) : Nat) : Int)), some (.int (d' : Int))] ∧ RdAt R p L bs H' (j + 1 + 1) ∧ But [p] H H' ∧ bs[j + 1]? = some d',
        fun σ' H' ⟨d', a1, a2, a3, a4⟩ => ⟨bs.length - (j + 1), by omega, _, s + 1, j + 1, d', a1, a2, a3, a4, hn2, er2, by omega, rfl⟩, ?_⟩
      obtain ⟨dx2, hp2⟩ := hR2.ins
      refine ⟨_, rfl, _, rfl, _, _, rfl, rfl, _, rfl, _, _, rfl, rfl, cp, _, _, rfl, rfl, ?_⟩
      refine ⟨_, rfl, _, _, rfl, rfl, ?_⟩
      refine ⟨_, rfl, p, dx2, _, rfl, hp2, rdFs_no _ _ (by decide +kernel) (by decide +kernel), p, L, bs, j + 1, rfl, hR2, hB, fun b' j' e' v' H3 b3 hR3 ev' => ?_, fun e' he' dx' H3 b3 hx' => ?_⟩
      · obtain ⟨hb', rfl⟩ := dby_ok e'
        obtain rfl : v' = .int (b' : Int) := ev'
        refine ⟨b', ?_, hR3, b2.trans b3, hb'⟩
        show [some (V.ref p), some (.int (Builtin.bitOr (n : Int) (((d : Int) - 128) * 2 ^ (((7 * s : Nat) : Int)).toNat))), some (.int (((7 * s : Nat) : Int) + 7)), some (.int (b' : Int))] = _
        rw [ev, show ((7 * s : Nat) : Int) + 7 = ((7 * (s + 1) : Nat) : Int) by omega]
      · obtain ⟨hb', rfl⟩ := dby_bad he'
        refine q2 (j + 1) ?_ dx' H3 (b2.trans b3) hx'
        rw [er2, dsz_end hb']
        rfl
    · have c : ¬ (128 : Int) ≤ (d : Int) := fun h => c (decide_eq_true h)
      rw [dsz_last hd (by omega)] at er
      have d255 := hB.byte d (List.mem_of_getElem? hd)
      obtain ⟨dx2, hp2⟩ := hR2.ins
      have cp : CPow (d : Int) ((7 * s : Nat) : Int) := ⟨Int.natCast_nonneg _, by omega, by
        rw [Int.natAbs_natCast]
        exact Nat.lt_of_le_of_lt d255 (by decide +kernel)⟩
      have ev : Builtin.bitOr (n : Int) ((d : Int) * 2 ^ (((7 * s : Nat) : Int)).toNat) = ((n + 2 ^ (7 * s) * d : Nat) : Int) := by
        rw [Int.toNat_natCast, Bits.bitOr_join (Int.natCast_nonneg n) (by exact_mod_cast hn) (Int.natCast_nonneg d)]
        push_cast
        rw [Int.mul_comm]
      have fin : ¬ (d = 0 ∧ decide (s = 0) = false) → (tRet (tOp (rI0 fun i j => V.int (Builtin.bitOr i j)) (tVar 1) (tOp (rI CPow fun i j => V.int (i * 2 ^ j.toNat)) (tVar 3) (tVar 2)))) { nx := fun _ H' => Q .non H', rt := Q } [some (V.ref p), some (.int (n : Int)), some (.int ((7 * s : Nat) : Int)), some (.int (d : Int))] H2 := fun hc => by
        rw [if_neg hc] at er
        refine ⟨_, rfl, _, rfl, _, rfl, _, _, rfl, rfl, cp, _, _, rfl, rfl, ?_⟩
        exact q1 _ _ er _ H2 b2 hR2 (congrArg V.int ev)
      refine ⟨_, rfl, rfl, _, rfl, ite2 (fun c0 => ?_) (fun c0 => ite2 (fun c => absurd c Bool.false_ne_true) (fun _ => ?_))⟩
      · have d0 : d = 0 := by have := inteq c0; omega
        refine ⟨_, rfl, _, _, rfl, rfl, _, rfl, ite2 (fun c1 => ?_) (fun c1 => ?_)⟩
        · have c1 : (0 : Int) < ((7 * s : Nat) : Int) := of_decide_eq_true c1
          rw [if_pos ⟨d0, decide_eq_false (by omega)⟩] at er
          refine ⟨_, rfl, p, R, dx2, _, _, rfl, hp2, PK.cls, PK.a, rdFs_a L (j + 1), _, _, rfl, rfl, (by decide : 1 ≤ 1000), ?_⟩
          show ∀ a, H2 a = none → spErr "at" C [.ref a, .int (((j + 1 : Nat) : Int) - 1)] _ _ _
          rw [show ((j + 1 : Nat) : Int) - 1 = (j : Int) by omega]
          exact fun a ha => raise_end (log_small (by omega)) (fun d' H' sm hx => q2 j er d' H' (b2.trans (.of_same sm)) hx) a ha
        · have c1 : ¬ (0 : Int) < ((7 * s : Nat) : Int) := fun h => c1 (decide_eq_true h)
          exact fin fun ⟨_, h⟩ => absurd (of_decide_eq_false h) (fun z => z (by omega))
      · exact fin fun ⟨h, _⟩ => intne c0 (by rw [h]; rfl)
end
end My

set_option Elab.async false
set_option maxRecDepth 130000
set_option maxHeartbeats 4000000
set_option linter.all false
namespace My
open PySem L2 P6
open C8 (pss_cut)
inductive Al2 {α : Type} (rel : V → α → Prop) : List V → List α → Prop where
  | nil : Al2 rel [] []
  | cons {v vs a as} : rel v a → Al2 rel vs as → Al2 rel (v :: vs) (a :: as)
theorem al2_imp {α : Type} {r r' : V → α → Prop} (h : ∀ v a, r v a → r' v a) : ∀ {vs : List V} {as : List α}, Al2 r vs as → Al2 r' vs as
  | _, _, .nil => .nil
  | _, _, .cons x xs => .cons (h _ _ x) (al2_imp h xs)
theorem al2_snoc {α : Type} {r : V → α → Prop} {v : V} {a : α} (h : r v a) : ∀ {vs : List V} {as : List α}, Al2 r vs as → Al2 r (vs ++ [v]) (as ++ [a])
  | _, _, .nil => .cons h .nil
  | _, _, .cons x xs => .cons x (al2_snoc h xs)
theorem al2_len {α : Type} {r : V → α → Prop} : ∀ {vs : List V} {as : List α}, Al2 r vs as → vs.length = as.length
  | _, _, .nil => rfl
  | _, _, .cons _ xs => by rw [List.length_cons, List.length_cons, al2_len xs]
theorem RdAt.to {R p L : Addr} {bs : List Nat} {H : Hp} {j : Nat} {D : Addr} (h : RdAt R p L bs H j) (n1 : p ≠ D) (n2 : L ≠ D) (o : HO) : RdAt R p L bs (upd H D o) j := by
  obtain ⟨⟨dx, h1⟩, h2, h3⟩ := h
  exact ⟨⟨dx, by rw [upd_ne n1]; exact h1⟩, by rw [upd_ne n2]; exact h2, h3⟩
theorem lc_read {α : Type} {R C p L D : Addr} {bs : List Nat} {f : Nat → Rs α} {rel : Hp → V → α → Prop} {te : TE} {σ : L2.St} {vs : List Nat} {k n i0 : Nat} {H1 : Hp} {Qd : Hp → Prop} {E : XK} (hB : BsOk bs)
    (hrel : ∀ {Ha Hb : Hp} {v : V} {a : α}, But [p, D] Ha Hb → Mut (Ha p) → Mut (Ha D) → rel Ha v a → rel Hb v a) (hlt : ∀ i a j, f i = .ok a j → i < j)
    (hR : RdAt R p L bs H1 i0) (hD : H1 D = none) (hw : ∀ x, wipe ((wipe σ vs).set k (some x)) vs = wipe σ vs)
    (he : ∀ y H2 (Q2 : VK) i, RdAt R p L bs H2 i → Rdg R C p L bs (f i) rel H2 Q2 E → te ((wipe σ vs).set k (some y)) H2 Q2)
    (ok : ∀ as j, rep f n i0 = .ok as j → ∀ H2 ys, But [p] H1 H2 → RdAt R p L bs H2 j → H2 D = some (.lst ys) → Al2 (rel H2) ys as → as.length ≤ 130100 → Qd H2)
    (bad : ∀ e, rep f n i0 = .bad e → ∀ dx H2, But [p] H1 H2 → H2 dx = some (.xd [("at", .int (e : Int))]) → E (.ref C) (some dx) H2) :
    ∃ W : Nat → Nat → Hp → Prop, (∃ m, W 0 m (upd H1 D (.lst []))) ∧ ∀ i m H, W i m H →
      ((Itr 0 n).stop i H ∧ Qd H) ∨ ((Itr 0 n).go i H ∧ ∃ Nx : Hp → Prop, (∀ H', Nx H' → ∃ m', m' < m ∧ W (i + 1) m' H') ∧ ∀ x H', (Itr 0 n).yld i H x H' → gName k x (wipe σ vs) H' fun σ2 H2 => wipe σ2 vs = wipe σ vs ∧ tYes σ2 H2 fun b H3 =>
        if b = true then te σ2 H3 fun y H4 => ∃ acc, H4 D = some (.lst acc) ∧ acc.length < sizeLine ∧ Nx (upd H4 D (.lst (acc ++ [y]))) else Nx H3) := by
  have ln := hB.len
  have pD : p ≠ D := fun z => by
    obtain ⟨dx, e⟩ := hR.ins
    rw [z, hD] at e
    cases e
  have LD : L ≠ D := fun z => by
    have e := hR.lst
    rw [z, hD] at e
    cases e
  refine ⟨fun t m H' => ∃ (as : List α) (ys : List V) (j : Nat), rep f n i0 = (rep f (n - t) j).map (fun r => as ++ r) ∧ RdAt R p L bs H' j ∧ But [p] H1 H' ∧ H' D = some (.lst ys) ∧ Al2 (rel H') ys as ∧ as.length = t ∧ t ≤ n ∧ t + i0 ≤ j ∧ m = bs.length - j,
    ⟨bs.length - i0, [], [], i0, ?_, hR.to pD LD _, But.new hD _, upd_same, .nil, rfl, Nat.zero_le _, by omega, rfl⟩, ?_⟩
  · rw [Nat.sub_zero]
    cases rep f n i0 <;> rfl
  rintro t m H' ⟨as, ys, j, er, hj, b, hy, al, rfl, tn, tj, rfl⟩
  have jl := hj.le
  rcases Nat.lt_or_ge as.length n with lt | ge
  · refine .inr ⟨lt, fun H2 => ∃ (as' : List α) (ys' : List V) (j' : Nat), rep f n i0 = (rep f (n - (as.length + 1)) j').map (fun r => as' ++ r) ∧ RdAt R p L bs H2 j' ∧ But [p] H1 H2 ∧ H2 D = some (.lst ys') ∧ Al2 (rel H2) ys' as' ∧ as'.length = as.length + 1 ∧ as.length + 1 + i0 ≤ j' ∧ j < j',
      fun H2 ⟨as', ys', j', a1, a2, a3, a4, a5, a6, a7, a8⟩ => ⟨bs.length - j', by have := a2.le; omega, as', ys', j', a1, a2, a3, a4, a5, a6, lt, a7, rfl⟩, ?_⟩
    rintro x H'' ⟨rfl, rfl⟩
    refine ⟨hw _, yesV ?_⟩
    rw [if_pos rfl]
    have e1 : n - as.length = (n - (as.length + 1)) + 1 := by omega
    rw [e1] at er
    have er : rep f n i0 = ((f j).thn fun a j' => (rep f (n - (as.length + 1)) j').map fun r => a :: r).map fun r => as ++ r := er
    refine he _ H'' _ j hj ⟨fun a j' ea v H2 b2 h2 r2 => ?_, fun e ee dx H2 b2 hx => ?_⟩
    · rw [ea] at er
      have er : rep f n i0 = ((rep f (n - (as.length + 1)) j').map fun r => a :: r).map fun r => as ++ r := er
      have hy2 : H2 D = some (.lst ys) := b2 D _ (fun m => pD (List.mem_singleton.mp m).symm) hy
      have yl : ys.length = as.length := al2_len al
      have jj := hlt _ _ _ ea
      have mp : Mut (H'' p) := by
        obtain ⟨dx, z⟩ := hj.ins
        rw [z]
        exact True.intro
      have mp2 : Mut (H2 p) := by
        obtain ⟨dx, z⟩ := h2.ins
        rw [z]
        exact True.intro
      have mD : Mut (H'' D) := by rw [hy]; exact True.intro
      have mD2 : Mut (H2 D) := by rw [hy2]; exact True.intro
      have w1 : But [p, D] H'' (upd H2 D (.lst (ys ++ [v]))) := fun x o nx ex => by
        have n1 : x ≠ D := fun z => nx (by rw [z]; simp)
        rw [upd_ne n1]
        exact b2 x o (fun m => nx (by rw [List.mem_singleton.mp m]; simp)) ex
      refine ⟨ys, hy2, sz5' (by omega), as ++ [a], ys ++ [v], j', ?_, h2.to pD LD _, fun x o nx ex => ?_, upd_same, al2_snoc (hrel (But.put (by simp) _) mp2 mD2 r2) (al2_imp (fun v a h => hrel w1 mp mD h) al), by rw [List.length_append]; rfl, by omega, jj⟩
      · rw [er, map_map]
        congr 1
        funext r
        rw [List.append_assoc]
        rfl
      · rw [upd_ne (ne_of_none ex hD)]
        exact b2 x o nx (b x o nx ex)
    · refine bad e ?_ dx H2 (b.trans b2) hx
      rw [er, ee]
      rfl
  · refine .inl ⟨ge, ?_⟩
    rw [show n - as.length = 0 by omega] at er
    have er : rep f n i0 = .ok (as ++ []) j := er
    rw [List.append_nil] at er
    exact ok as j er H' ys b hj hy al (by omega)
theorem al2_map {α : Type} {g : α → V} : ∀ {vs : List V} {as : List α}, Al2 (fun v a => v = g a) vs as → vs = as.map g
  | _, _, .nil => rfl
  | _, _, .cons h hs => by rw [h, al2_map hs]; rfl
theorem glue_chars : ∀ (l : List Nat) (acc : Array Nat), (l.map fun c => (⟨#[c]⟩ : Str)).foldl (fun acc p => acc ++ ("" : Str).cps ++ p.cps) acc = acc ++ l.toArray
  | [], acc => by simp
  | c :: r, acc => by
    show (r.map fun c => (⟨#[c]⟩ : Str)).foldl _ (acc ++ ("" : Str).cps ++ #[c]) = _
    rw [glue_chars r]
    have e : ("" : Str).cps = #[] := by decide
    rw [e]
    simp
theorem join_chars (l : List Nat) : Txt.join "" (l.map fun c => (⟨#[c]⟩ : Str)) = ⟨l.toArray⟩ := by
  unfold Txt.join Builtin.Str.glued
  cases l with
  | nil => rfl
  | cons c r =>
    show (⟨(r.map fun c => (⟨#[c]⟩ : Str)).foldl (fun acc p => acc ++ ("" : Str).cps ++ p.cps) #[c]⟩ : Str) = _
    rw [glue_chars]
    simp
theorem sum_chars (l : List Nat) : ((l.map fun c => (⟨#[c]⟩ : Str)).map (·.length)).sum = l.length := by
  induction l with
  | nil => rfl
  | cons c r ih =>
    show (⟨#[c]⟩ : Str).length + ((r.map fun c => (⟨#[c]⟩ : Str)).map (·.length)).sum = _
    rw [ih, List.length_cons]
    show 1 + r.length = _
    omega
theorem thn_ok {α β : Type} {r : Rs α} {f : α → Nat → Rs β} {b : β} {j : Nat} (h : r.thn f = .ok b j) : ∃ a i, r = .ok a i ∧ f a i = .ok b j := by
  cases r with
  | ok a i => exact ⟨a, i, rfl, h⟩
  | bad e => cases h
theorem map_ok {α β : Type} {r : Rs α} {f : α → β} {b : β} {j : Nat} (h : r.map f = .ok b j) : ∃ a, r = .ok a j ∧ f a = b := by
  cases r with
  | ok a i =>
    cases h
    exact ⟨a, rfl, rfl⟩
  | bad e => cases h
theorem dsz_lt : ∀ {l : List Nat} {i : Nat} {fst : Bool} {n j : Nat}, dsz l i fst = .ok n j → i < j
  | [], _, _, _, _, h => by cases h
  | b :: r, i, fst, n, j, h => by
    have h : (if 128 ≤ b then (dsz r (i + 1) false).map fun n => (b - 128) + 128 * n else if b = 0 ∧ fst = false then .bad i else .ok b (i + 1)) = Rs.ok n j := h
    split at h
    · obtain ⟨a, e, _⟩ := map_ok h
      have := dsz_lt e
      omega
    · split at h
      · cases h
      · cases h
        omega
theorem dch_lt {bs : List Nat} {i a j : Nat} (h : dch bs i = .ok a j) : i < j := by
  unfold dch at h
  split at h
  · cases h
  · split at h
    · cases h
      omega
    · cases h
theorem rep_le {α : Type} {f : Nat → Rs α} (hf : ∀ i a j, f i = .ok a j → i < j) : ∀ {n i : Nat} {as : List α} {j : Nat}, rep f n i = .ok as j → i ≤ j ∧ ∀ a ∈ as, ∃ i j, f i = .ok a j
  | 0, i, as, j, h => by
    cases h
    exact ⟨Nat.le_refl _, fun a m => by cases m⟩
  | n + 1, i, as, j, h => by
    have h : (f i).thn (fun a j => (rep f n j).map fun as => a :: as) = .ok as j := h
    obtain ⟨a, i', e1, h⟩ := thn_ok h
    obtain ⟨r, e2, rfl⟩ := map_ok h
    obtain ⟨l, m⟩ := rep_le hf e2
    have := hf _ _ _ e1
    exact ⟨by omega, fun x mx => (List.mem_cons.mp mx).elim (fun z => ⟨i, i', by rw [z]; exact e1⟩) (m x)⟩
theorem dvalF_lt {bs : List Nat} {sub : Option (Nat → Rs PyData)} (hs : ∀ f, sub = some f → ∀ i a j, f i = .ok a j → i < j ∧ noLst a = true) {i : Nat} {d : PyData} {j : Nat} (h : dvalF bs sub i = .ok d j) : i < j ∧ noLst d = true := by
  unfold dvalF at h
  split at h
  · cases h
  · rename_i b _
    by_cases b0 : b = 0
    · rw [if_pos b0] at h; cases h; exact ⟨by omega, rfl⟩
    rw [if_neg b0] at h
    by_cases b1 : b = 1
    · rw [if_pos b1] at h; cases h; exact ⟨by omega, rfl⟩
    rw [if_neg b1] at h
    by_cases b2 : b = 2
    · rw [if_pos b2] at h; cases h; exact ⟨by omega, rfl⟩
    rw [if_neg b2] at h
    by_cases b3 : b = 3
    · rw [if_pos b3] at h
      obtain ⟨a, e, rfl⟩ := map_ok h
      have := dsz_lt e
      exact ⟨by omega, rfl⟩
    rw [if_neg b3] at h
    by_cases b4 : b = 4
    · rw [if_pos b4] at h
      obtain ⟨a, e, rfl⟩ := map_ok h
      have := dsz_lt e
      exact ⟨by omega, rfl⟩
    rw [if_neg b4] at h
    by_cases b5 : b = 5
    · rw [if_pos b5] at h
      obtain ⟨n, i', e, h⟩ := thn_ok h
      obtain ⟨cs, e2, rfl⟩ := map_ok h
      have := dsz_lt e
      have := (rep_le (fun i a j h => dch_lt h) e2).1
      exact ⟨by omega, rfl⟩
    rw [if_neg b5] at h
    by_cases b6 : b = 6
    · rw [if_pos b6] at h
      cases sub with
      | none => cases h
      | some f =>
        have h : (dsz (bs.drop (i + 1)) (i + 1) true).thn (fun n j => (rep f n j).map .tuple) = .ok d j := h
        obtain ⟨n, i', e, h⟩ := thn_ok h
        obtain ⟨ds, e2, rfl⟩ := map_ok h
        have := dsz_lt e
        obtain ⟨l, m⟩ := rep_le (fun i a j h => (hs f rfl i a j h).1) e2
        refine ⟨by omega, ?_⟩
        have all : ∀ l : List PyData, (∀ a ∈ l, ∃ i j, f i = .ok a j) → noLsts l = true := fun l => by
          induction l with
          | nil => intro _; rfl
          | cons x r ih =>
            intro m
            obtain ⟨i2, j2, ex⟩ := m x List.mem_cons_self
            show (noLst x && noLsts r) = true
            rw [(hs f rfl _ _ _ ex).2, ih fun a ma => m a (List.mem_cons_of_mem _ ma)]
            rfl
        exact all ds m
    rw [if_neg b6] at h
    cases h
theorem dval_lt {bs : List Nat} : ∀ {k i : Nat} {d : PyData} {j : Nat}, dval bs k i = .ok d j → i < j ∧ noLst d = true
  | 0, _, _, _, h => dvalF_lt (fun f e => by cases e) h
  | k + 1, _, _, _, h => dvalF_lt (fun f e => by cases e; exact fun _ _ _ h => dval_lt h) h
section
variable {P : Program} {w : World} {K : PySem.W.Frag} {mg : Str → Option Value} {base : Heap} {f : Addr} {fd : FuncData} {R C : Addr} {k : Nat}
abbrev con_PLAIN : List V := [.non, .bl false, .bl true]
theorem ok_value1 {n : Nat} (T : Txt K mg) (CP : Con K mg "PLAIN" con_PLAIN) (C3 : ConN mg "FROM_ZERO" 3) (C4 : ConN mg "BELOW_ZERO" 4) (C5 : ConN mg "STRING" 5) (C6 : ConN mg "TUPLE" 6) (PK : RdK K R) (ER : Err P w K mg base "PackError" "at" "at" C k)
    (D : DefM6 K R "value" "Reader.value" ["self", "depth"] s_Reader_value f fd) (O1 : OwnXM P w K mg base R "byte" ["self"] (k + 3) (spByte R C)) (O2 : OwnXM P w K mg base R "size" ["self"] (k + 4) (spSize R C)) (O3 : OwnXM P w K mg base R "character" ["self"] (k + 4) (spChar R C))
    (O4 : OwnXM P w K mg base R "value" ["self", "depth"] (k + 5 + n) (spValue K R C n)) : OwnXM P w K mg base R "value" ["self", "depth"] (k + 6 + n) (spValue K R C (n + 1)) := by
  obtain ⟨a_PLAIN, od_PLAIN, its_PLAIN, n_PLAIN, sl_PLAIN, c_PLAIN, l_PLAIN, s_PLAIN, v_PLAIN⟩ := CP
  obtain ⟨t_FROM_ZERO, c_FROM_ZERO⟩ := C3
  obtain ⟨t_BELOW_ZERO, c_BELOW_ZERO⟩ := C4
  obtain ⟨t_STRING, c_STRING⟩ := C5
  obtain ⟨t_TUPLE, c_TUPLE⟩ := C6
  obtain ⟨fI, fdI, iPackError, tPackError, bPackError, GPackError⟩ := ER.ini
  have mPackError := ER.gl
  have OPackError := ER.oex
  obtain ⟨fbyte, fdbyte, Mbyte, bbyte, Gbyte⟩ := O1
  obtain ⟨fsize, fdsize, Msize, bsize, Gsize⟩ := O2
  obtain ⟨fcharacter, fdcharacter, Mcharacter, bcharacter, Gcharacter⟩ := O3
  obtain ⟨fvalue, fdvalue, Mvalue, bvalue, Gvalue⟩ := O4
  refine ⟨f, fd, D.me, D.bd, (D.fn.okX (k := k + 5 + n) sc_Reader_value (fun vs H Q E h => ?_) (fun cdv A outer s H vs Q E hr h => ?_)).mono (by omega)⟩
  · obtain ⟨p, L, bs, i, m, rfl, _⟩ := h
    rfl
  · obtain ⟨p, L, bs, i, m, rfl, hm, hR, hB, q1, q2⟩ := h
    have tk := takes_of (X := cxOf (L2.CX P w) P w K mg base N_Reader_value "Reader.value" (defScope s_Reader_value) f cdv A outer s H E) rfl rfl rfl rfl
    have ln := hB.len
    obtain ⟨sub, u1, u2, u3⟩ := dval_unf bs m
    obtain ⟨dx, hp⟩ := hR.ins
    have meth : ∀ (x : Str) {H' : Hp} {j : Nat}, (x == ("data" : Str)) = false → (x == ("at" : Str)) = false → (rdFs L j).lookup x = none := fun x _ j h1 h2 => rdFs_no L j h1 h2
    refine ⟨_, (pss_cons (ps_set (i := 2) sc_Reader_value.nd rfl (Or.inl rfl) (pe_meth0 (pv 0) PK.cls Mbyte Gbyte (hr.mono (by omega)) bbyte .nil (passes_call tk fun _ _ _ _ z => z)))
      (pss_cons (ps_if (pt_cmpR op_lt (pv 2) (pe_callB call_len_seq (by rfl) T.m_len (by decide +kernel) (pa_cons (pe_glob (v := .ref a_PLAIN) (by rfl) c_PLAIN rfl) pa_nil)) (nomark _)) (pss_one (ps_ret (pe_ix ix_tup (pe_glob (v := .ref a_PLAIN) (by rfl) c_PLAIN rfl) (pv 2) (fun _ _ => rfl)))) pss_nil)
      (pss_cons (ps_if (pt_cmpR op_eq (pv 2) (pe_glob (v := .int 3) (u := .int 3 t_FROM_ZERO) (by rfl) c_FROM_ZERO ⟨t_FROM_ZERO, rfl⟩) (nomark _)) (pss_one (ps_ret (pe_meth0 (pv 0) PK.cls Msize Gsize (hr.mono (by omega)) bsize .nil (passes_call tk fun _ _ _ _ z => z)))) pss_nil)
      (pss_cons (ps_if (pt_cmpR op_eq (pv 2) (pe_glob (v := .int 4) (u := .int 4 t_BELOW_ZERO) (by rfl) c_BELOW_ZERO ⟨t_BELOW_ZERO, rfl⟩) (nomark _)) (pss_one (ps_ret (pe_op op_sub (pe_un un_neg pe_int) (pe_meth0 (pv 0) PK.cls Msize Gsize (hr.mono (by omega)) bsize .nil (passes_call tk fun _ _ _ _ z => z))))) pss_nil)
      (pss_cons (ps_if (pt_cmpR op_eq (pv 2) (pe_glob (v := .int 5) (u := .int 5 t_STRING) (by rfl) c_STRING ⟨t_STRING, rfl⟩) (nomark _)) (pss_one (ps_ret (pe_join pe_str (pe_lcX (own := [("_", 3)]) (g := gName 3) rfl sc_Reader_value.nd tk rfl rfl (pi_rangeA (by rfl) T.m_range (pa_cons (pe_meth0 (pv 0) PK.cls Msize Gsize (hr.mono (by omega)) bsize .nil (passes_call tk fun _ _ _ _ z => z)) pa_nil)) (blkOk_by (N := N_Reader_value) (sc := defScope s_Reader_value) (own := [("_", 3)]) (by decide +kernel)) (fun _ _ _ _ _ => (pg_name (i := 3) sc_Reader_value.nd rfl (Or.inl rfl))) (fun _ _ _ _ _ => (pe_meth0 (pv 0) PK.cls Mcharacter Gcharacter (hr.mono (by omega)) bcharacter .nil blkX_passes)))))) pss_nil)
      (pss_cons (ps_if (PW.pt (pw_or (pt_cmpR op_ne (pv 2) (pe_glob (v := .int 6) (u := .int 6 t_TUPLE) (by rfl) c_TUPLE ⟨t_TUPLE, rfl⟩) (nomark _)) (pw_or1 (pt_cmpR op_eq (pv 1) pe_int (nomark _))))) (pss_one (ps_raise rfl tk (pmk_oex OPackError iPackError tPackError GPackError (hr.mono (by omega)) bPackError .nil passL (by rfl) mPackError (pa_cons (pe_op op_sub (pe_fld (pv 0) (by rfl)) pe_int) pa_nil)))) pss_nil)
      (pss_one (ps_ret (pe_callTy call_tuple_of (by rfl) T.m_tuple (by decide +kernel) (pa_cons (pe_lcX (own := [("_", 3)]) (g := gName 3) rfl sc_Reader_value.nd tk rfl rfl (pi_rangeA (by rfl) T.m_range (pa_cons (pe_meth0 (pv 0) PK.cls Msize Gsize (hr.mono (by omega)) bsize .nil (passes_call tk fun _ _ _ _ z => z)) pa_nil)) (blkOk_by (N := N_Reader_value) (sc := defScope s_Reader_value) (own := [("_", 3)]) (by decide +kernel)) (fun _ _ _ _ _ => (pg_name (i := 3) sc_Reader_value.nd rfl (Or.inl rfl))) (fun _ _ _ _ _ => (pe_meth (pv 0) PK.cls Mvalue Gvalue (hr.mono (by omega)) bvalue .nil blkX_passes (pa_cons (pe_op op_sub (pv 1) pe_int) pa_nil)))) pa_nil)))))))))), ?_⟩
    refine ⟨_, rfl, p, dx, _, rfl, hp, rdFs_no _ _ (by decide +kernel) (by decide +kernel), p, L, bs, i, rfl, hR, hB, fun b j e v H1 b1 hR1 ev => ?_, fun e he dx H1 b1 hx => ?_⟩
    rotate_left
    · obtain ⟨hb, rfl⟩ := dby_bad he
      exact q2 e (by rw [u1]; unfold dvalF; rw [hb]) dx H1 b1 hx
    obtain ⟨hb, rfl⟩ := dby_ok e
    obtain rfl : v = .int (b : Int) := ev
    obtain ⟨dx1, hp1⟩ := hR1.ins
    have uv : dval bs m i = (if b = 0 then .ok .none (i + 1) else if b = 1 then .ok (.bool false) (i + 1) else if b = 2 then .ok (.bool true) (i + 1)
      else if b = 3 then (dsz (bs.drop (i + 1)) (i + 1) true).map fun (n : Nat) => .int (n : Int)
      else if b = 4 then (dsz (bs.drop (i + 1)) (i + 1) true).map fun (n : Nat) => .int (-1 - (n : Int))
      else if b = 5 then (dsz (bs.drop (i + 1)) (i + 1) true).thn fun n j => (rep (dch bs) n j).map fun cs => .str ⟨cs.toArray⟩
      else if b = 6 then match sub with
        | none => .bad i
        | some f => (dsz (bs.drop (i + 1)) (i + 1) true).thn fun n j => (rep f n j).map .tuple
      else .bad i) := by
      rw [u1]
      unfold dvalF
      rw [hb] <;> rfl
    refine ⟨_, rfl, a_PLAIN, con_PLAIN, rfl, .inr (con_seq l_PLAIN s_PLAIN v_PLAIN), _, _, rfl, rfl, _, rfl, ite2 (fun c => ?_) (fun c => ?_)⟩
    · have c : (b : Int) < ((3 : Nat) : Int) := of_decide_eq_true c
      have cases3 : b = 0 ∨ b = 1 ∨ b = 2 := by omega
      rcases cases3 with rfl | rfl | rfl
      · exact ⟨_, rfl, a_PLAIN, con_PLAIN, 0, .non, rfl, rfl, con_seq l_PLAIN s_PLAIN v_PLAIN, rfl, q1 .none (i + 1) (by rw [uv]; rfl) _ H1 b1 hR1 ⟨.non, rfl⟩⟩
      · exact ⟨_, rfl, a_PLAIN, con_PLAIN, 1, .bl false, rfl, rfl, con_seq l_PLAIN s_PLAIN v_PLAIN, rfl, q1 (.bool false) (i + 1) (by rw [uv]; rfl) _ H1 b1 hR1 ⟨.bl false, rfl⟩⟩
      · exact ⟨_, rfl, a_PLAIN, con_PLAIN, 2, .bl true, rfl, rfl, con_seq l_PLAIN s_PLAIN v_PLAIN, rfl, q1 (.bool true) (i + 1) (by rw [uv]; rfl) _ H1 b1 hR1 ⟨.bl true, rfl⟩⟩
    have c : ¬ (b : Int) < ((3 : Nat) : Int) := fun h => c (decide_eq_true h)
    rw [if_neg (by omega), if_neg (by omega), if_neg (by omega)] at uv
    refine ⟨_, rfl, rfl, _, rfl, ite2 (fun c3 => ?_) (fun c3 => ?_)⟩
    · have b3 : b = 3 := by have := inteq c3; omega
      rw [if_pos b3] at uv
      refine ⟨_, rfl, p, dx1, _, rfl, hp1, rdFs_no _ _ (by decide +kernel) (by decide +kernel), p, L, bs, i + 1, rfl, hR1, hB, fun n j e v H2 b2 hR2 ev => ?_, fun e he dx H2 b2 hx => ?_⟩
      · obtain rfl : v = .int (n : Int) := ev
        exact q1 _ j (by rw [uv, e]; rfl) _ H2 (b1.trans b2) hR2 ⟨.int _, rfl⟩
      · exact q2 e (by rw [uv, he]; rfl) dx H2 (b1.trans b2) hx
    have b3 : ¬ b = 3 := fun h => intne c3 (by rw [h]; rfl)
    rw [if_neg b3] at uv
    refine ⟨_, rfl, rfl, _, rfl, ite2 (fun c4 => ?_) (fun c4 => ?_)⟩
    · have b4 : b = 4 := by have := inteq c4; omega
      rw [if_pos b4] at uv
      refine ⟨1, rfl, ?_⟩
      refine ⟨_, rfl, p, dx1, _, rfl, hp1, rdFs_no _ _ (by decide +kernel) (by decide +kernel), p, L, bs, i + 1, rfl, hR1, hB, fun n j e v H2 b2 hR2 ev => ?_, fun e he dx H2 b2 hx => ?_⟩
      · obtain rfl : v = .int (n : Int) := ev
        exact ⟨_, _, rfl, rfl, q1 _ j (by rw [uv, e]; rfl) _ H2 (b1.trans b2) hR2 ⟨.int _, rfl⟩⟩
      · exact q2 e (by rw [uv, he]; rfl) dx H2 (b1.trans b2) hx
    have b4 : ¬ b = 4 := fun h => intne c4 (by rw [h]; rfl)
    rw [if_neg b4] at uv
    refine ⟨_, rfl, rfl, _, rfl, ite2 (fun c5 => ?_) (fun c5 => ?_)⟩
    · have b5 : b = 5 := by have := inteq c5; omega
      rw [if_pos b5] at uv
      refine ⟨⟨_, rfl⟩, _, rfl, p, dx1, _, rfl, hp1, rdFs_no _ _ (by decide +kernel) (by decide +kernel), p, L, bs, i + 1, rfl, hR1, hB, fun n j e v H2 b2 hR2 ev => ?_, fun e he dx H2 b2 hx => ?_⟩
      rotate_left
      · exact q2 e (by rw [uv, he]; rfl) dx H2 (b1.trans b2) hx
      obtain rfl : v = .int (n : Int) := ev
      refine ⟨(n : Int), rfl, Int.natCast_nonneg n, fun D1 hD1 => ?_⟩
      rw [Int.toNat_natCast]
      refine lc_read (R := R) (C := C) (p := p) (L := L) (bs := bs) (f := dch bs) (rel := fun _ v c => v = .str ⟨#[c]⟩) (E := E) (i0 := j) hB (fun _ _ _ h => h) (fun i a j h => dch_lt h) hR2 hD1 (fun x => rfl) (fun y H3 Q3 i3 hR3 hg => ?_) (fun as j3 er H3 ys b3 hR3 hD3 al len => ?_) (fun e3 he3 dx3 H3 b3 hx3 => ?_)
      · obtain ⟨dx3, hp3⟩ := hR3.ins
        exact ⟨_, rfl, p, dx3, _, rfl, hp3, rdFs_no _ _ (by decide +kernel) (by decide +kernel), p, L, bs, i3, rfl, hR3, hB, hg⟩
      · have ey := al2_map al
        have eD : H3 D1 = some (.lst ((as.map fun c => (⟨#[c]⟩ : Str)).map V.str)) := by
          rw [hD3, ey, List.map_map]
          rfl
        refine ⟨_, D1, as.map fun c => (⟨#[c]⟩ : Str), rfl, rfl, .inl (SqL.of eD), ?_, ?_⟩
        · rw [sum_chars, List.length_map]
          have : ("" : Str).length = 0 := by decide
          rw [this]
          omega
        · rw [join_chars]
          exact q1 _ j3 (by rw [uv, e]; show Rs.map _ (rep (dch bs) n j) = _; rw [er]; rfl) _ H3 ((b1.trans b2).trans b3) hR3 ⟨.str _, rfl⟩
      · exact q2 e3 (by rw [uv, e]; show Rs.map _ (rep (dch bs) n j) = _; rw [he3]; rfl) dx3 H3 ((b1.trans b2).trans b3) hx3
    have b5 : ¬ b = 5 := fun h => intne c5 (by rw [h]; rfl)
    rw [if_neg b5] at uv
    have wrong : dval bs m i = .bad i → tMkO C (spErr "at" C) [] (tCons (tOp (rI0 fun i j => V.int (i - j)) (tFld K (tVar 0) "at") (tC (V.int 1))) tNil) [some (V.ref p), some (.int (m : Int)), some (.int (b : Int)), none] H1 fun cls d H' => E cls d H' := fun hu => by
      refine ⟨_, rfl, p, R, dx1, _, _, rfl, hp1, PK.cls, PK.a, rdFs_a L (i + 1), _, _, rfl, rfl, (by decide : 1 ≤ 1000), ?_⟩
      show ∀ a, H1 a = none → spErr "at" C [.ref a, .int (((i + 1 : Nat) : Int) - 1)] _ _ _
      rw [show ((i + 1 : Nat) : Int) - 1 = (i : Int) by omega]
      have le := hR.le
      exact fun a ha => raise_end (log_small (by omega)) (fun d' H' sm hx => q2 i hu d' H' (b1.trans (.of_same sm)) hx) a ha
    refine ⟨_, rfl, rfl, _, rfl, ite2 (fun c6 => ?_) (fun c6 => ?_)⟩
    · have b6 : ¬ b = 6 := fun h => by rw [h] at c6; cases c6
      exact wrong (by rw [uv, if_neg b6])
    have b6 : b = 6 := by
      by_cases h : b = 6
      · exact h
      · refine absurd ?_ c6
        rw [decide_eq_false (fun z => h (by have := V.int.inj z; omega))]
        rfl
    rw [if_pos b6] at uv
    refine ⟨_, rfl, rfl, _, rfl, ite2 (fun c0 => ?_) (fun c0 => ?_)⟩
    · have m0 : m = 0 := by have := inteq c0; omega
      subst m0
      exact wrong (by rw [uv, u3 rfl])
    have m0 : m ≠ 0 := fun h => intne c0 (by rw [h]; rfl)
    obtain ⟨m', rfl⟩ : ∃ m', m = m' + 1 := ⟨m - 1, by omega⟩
    have es := u2 m' rfl
    rw [es] at uv
    refine ⟨_, rfl, p, dx1, _, rfl, hp1, rdFs_no _ _ (by decide +kernel) (by decide +kernel), p, L, bs, i + 1, rfl, hR1, hB, fun c j e v H2 b2 hR2 ev => ?_, fun e he dx H2 b2 hx => ?_⟩
    rotate_left
    · exact q2 e (by rw [uv, he]; rfl) dx H2 (b1.trans b2) hx
    obtain rfl : v = .int (c : Int) := ev
    refine ⟨(c : Int), rfl, Int.natCast_nonneg c, fun D1 hD1 => ?_⟩
    rw [Int.toNat_natCast]
    refine lc_read (R := R) (C := C) (p := p) (L := L) (bs := bs) (f := dval bs m') (rel := fun H' v d => Dp K H' v d ∧ noLst d = true) (E := E) (i0 := j) hB (fun {Ha Hb v a} bt mp mD h => ⟨dp_but (A := [p, D1]) (fun x mx => ?_) bt a h.2 h.1, h.2⟩) (fun i a j h => (dval_lt h).1) hR2 hD1 (fun x => rfl) (fun y H3 Q3 i3 hR3 hg => ?_) (fun as j3 er H3 ys b3 hR3 hD3 al len => ?_) (fun e3 he3 dx3 H3 b3 hx3 => ?_)
    · rcases List.mem_cons.mp mx with rfl | mx
      · exact mp
      · rw [List.mem_singleton.mp mx]
        exact mD
    · obtain ⟨dx3, hp3⟩ := hR3.ins
      exact ⟨_, rfl, p, dx3, _, rfl, hp3, rdFs_no _ _ (by decide +kernel) (by decide +kernel), _, rfl, _, _, rfl, rfl, p, L, bs, i3, m', congrArg (fun z => [V.ref p, V.int z]) (show ((m' + 1 : Nat) : Int) - 1 = (m' : Int) by omega), by omega, hR3, hB, hg⟩
    · have hz : dval bs (m' + 1) i = .ok (.tuple as) j3 := by
        rw [uv, e]
        show Rs.map _ (rep (dval bs m') c j) = _
        rw [er]
        rfl
      have nl := (dval_lt hz).2
      refine ⟨D1, ys, rfl, .inl ⟨SqL.of hD3, fun l hl => ?_⟩⟩
      have dps : ∀ {H' : Hp} {vs : List V} {ds : List PyData}, Al2 (fun v d => Dp K H' v d ∧ noLst d = true) vs ds → DpAll K H' vs ds := fun {H' vs ds} h => by
        induction h with
        | nil => exact .nil
        | cons x _ ih => exact .cons x.1 ih
      have sm : Same H3 (upd H3 l (.tup ys)) := same_new hl _
      have nlp : p ≠ l := fun z => by
        obtain ⟨dx3, h⟩ := hR3.ins
        rw [z, hl] at h
        cases h
      have nlL : L ≠ l := fun z => by
        have h := hR3.lst
        rw [z, hl] at h
        cases h
      exact q1 _ j3 hz _ _ (((b1.trans b2).trans b3).trans (.of_same sm)) (hR3.to nlp nlL _) ⟨.tup (SqT.of upd_same) (dpa_mono sm _ (dps al)), nl⟩
    · exact q2 e3 (by rw [uv, e]; show Rs.map _ (rep (dval bs m') c j) = _; rw [he3]; rfl) dx3 H3 ((b1.trans b2).trans b3) hx3
theorem ok_value (T : Txt K mg) (CP : Con K mg "PLAIN" con_PLAIN) (C3 : ConN mg "FROM_ZERO" 3) (C4 : ConN mg "BELOW_ZERO" 4) (C5 : ConN mg "STRING" 5) (C6 : ConN mg "TUPLE" 6) (PK : RdK K R) (ER : Err P w K mg base "PackError" "at" "at" C k)
    (D : DefM6 K R "value" "Reader.value" ["self", "depth"] s_Reader_value f fd) (O1 : OwnXM P w K mg base R "byte" ["self"] (k + 3) (spByte R C)) (O2 : OwnXM P w K mg base R "size" ["self"] (k + 4) (spSize R C)) (O3 : OwnXM P w K mg base R "character" ["self"] (k + 4) (spChar R C)) :
    ∀ n, OwnXM P w K mg base R "value" ["self", "depth"] (k + 5 + n) (spValue K R C n)
  | 0 => ⟨f, fd, D.me, D.bd, fn_neverX fun vs H Q E ⟨_, _, _, _, _, _, h, _⟩ => absurd h (Nat.not_lt_zero _)⟩
  | n + 1 => by
    have h := ok_value1 T CP C3 C4 C5 C6 PK ER D O1 O2 O3 (ok_value T CP C3 C4 C5 C6 PK ER D O1 O2 O3 n)
    rw [show k + 5 + (n + 1) = k + 6 + n by omega]
    exact h
end
end My

set_option Elab.async false
set_option maxRecDepth 130000
set_option maxHeartbeats 4000000
set_option linter.all false
namespace My
open PySem L2 P6
open C8 (pss_cut)
def spRInit (R : Addr) : Sp := fun vs H Q _ => ∃ (p D dx : Addr), vs = [.ref p, .ref D] ∧ H p = some (.ins R dx []) ∧ ∀ H', But [p] H H' → H' p = some (.ins R dx (rdFs D 0)) → Q .non H'
def OwnC6 (P : Program) (w : World) (K : PySem.W.Frag) (mg : Str → Option Value) (base : Heap) (x : Str) (R : Addr) (ps : List Str) (k : Nat) (sp : Sp) : Prop :=
  ∃ (f : Addr) (fd : FuncData), mg x = some (.ref R) ∧ Mk K R f ∧ Binds K fd ps [] ∧ FnOk P w K mg base CX0 k f fd ps sp
structure DefI6 (K : PySem.W.Frag) (x qx : Str) (ps : List Str) (st : Stmt) (f : Addr) (fd : FuncData) : Prop where
  fn : Fun K x qx st f fd
  bd : Binds K fd ps []
/-- the whole row of bytes is one value -/
def dun (bs : List Nat) : Rs PyData := (dval bs 60 0).thn fun d j => if j < bs.length then .bad j else .ok d j
def spUnpack (K : PySem.W.Frag) (C : Addr) : Sp := fun vs H Q E => ∃ (D : Addr) (bs : List Nat), vs = [.ref D] ∧ H D = some (.lst (nB bs)) ∧ BsOk bs ∧
  (∀ d j, dun bs = .ok d j → ∀ v H', Same H H' → Dp K H' v d → noLst d = true → Q v H') ∧ (∀ e, dun bs = .bad e → Up "at" C (e : Int) H E)
section
variable {P : Program} {w : World} {K : PySem.W.Frag} {mg : Str → Option Value} {base : Heap} {f : Addr} {fd : FuncData} {R C : Addr} {k : Nat}
theorem ok_Reader (PK : RdK K R) (D : DefI6 K "__init__" "Reader.__init__" ["self", "data"] s_Reader___init__ f fd) (M : Mk K R f) (mR : mg "Reader" = some (.ref R)) : OwnC6 P w K mg base "Reader" R ["self", "data"] 1 (spRInit R) := by
  refine ⟨f, fd, mR, M, D.bd, D.fn.ok sc_Reader___init__ (fun vs H Q E h => ?_) (fun cdv A outer s H vs Q E hr h => ?_)⟩
  · obtain ⟨p, L, dx, rfl, _⟩ := h
    rfl
  · obtain ⟨p, L, dx, rfl, hp, q⟩ := h
    refine ⟨_, (pss_cons (ps_fld (pv 0) (pv 1) rfl)
      (pss_one (ps_fld (pv 0) pe_int rfl))), ?_⟩
    refine ⟨_, rfl, _, rfl, p, R, dx, _, rfl, hp, PK.cls, PK.d, (by decide : 0 < 1000), ?_⟩
    refine ⟨_, rfl, p, R, dx, _, rfl, upd_same, PK.cls, PK.a, (by decide : 1 < 1000), ?_⟩
    refine q _ ((But.put (List.mem_singleton.mpr rfl) _).trans (But.put (List.mem_singleton.mpr rfl) _)) (upd_same.trans ?_)
    show some (HO.ins R dx (if ("data" : Str) = "at" then _ else (("data" : Str), V.ref L) :: [(("at" : Str), V.int 0)])) = _
    rw [if_neg (by decide +kernel)]
    rfl
theorem ok_unpack (T : Txt K mg) (CD : ConN mg "DEEPEST_TUPLES" 60) (PK : RdK K R) (ER : Err P w K mg base "PackError" "at" "at" C k) (D : Def K mg "unpack" ["data"] s_unpack f fd) (O1 : OwnC6 P w K mg base "Reader" R ["self", "data"] 1 (spRInit R)) (O2 : OwnXM P w K mg base R "value" ["self", "depth"] (k + 66) (spValue K R C 61)) :
    OwnX P w K mg base "unpack" ["data"] (k + 67) (spUnpack K C) := by
  obtain ⟨t_DEEPEST_TUPLES, c_DEEPEST_TUPLES⟩ := CD
  obtain ⟨fI, fdI, iPackError, tPackError, bPackError, GPackError⟩ := ER.ini
  have mPackError := ER.gl
  have OPackError := ER.oex
  obtain ⟨fReader, fdReader, mReader, MReader, bReader, GReader⟩ := O1
  obtain ⟨fvalue, fdvalue, Mvalue, bvalue, Gvalue⟩ := O2
  refine ⟨f, fd, D.mg, D.fn.kp, D.bd, D.fn.okX sc_unpack (fun vs H Q E h => ?_) (fun cdv A outer s H vs Q E hr h => ?_)⟩
  · obtain ⟨L, bs, rfl, _⟩ := h
    rfl
  · obtain ⟨L, bs, rfl, hL, hB, q1, q2⟩ := h
    have tk := takes_of (X := cxOf (L2.CX P w) P w K mg base N_unpack "unpack" (defScope s_unpack) f cdv A outer s H E) rfl rfl rfl rfl
    refine ⟨_, (pss_cons (ps_set (i := 1) sc_unpack.nd rfl (Or.inl rfl) (pe_make MReader GReader (hr.mono (by omega)) (by rfl) mReader bReader .nil pass0 (pa_cons (pv 0) pa_nil)))
      (pss_cons (ps_set (i := 2) sc_unpack.nd rfl (Or.inl rfl) (pe_meth (pv 1) PK.cls Mvalue Gvalue (hr.mono (by omega)) bvalue .nil (passes_call tk fun _ _ _ _ z => z) (pa_cons (pe_glob (v := .int 60) (u := .int 60 t_DEEPEST_TUPLES) (by rfl) c_DEEPEST_TUPLES ⟨t_DEEPEST_TUPLES, rfl⟩) pa_nil)))
      (pss_cons (ps_if (pt_cmpR op_lt (pe_fld (pv 1) (by rfl)) (pe_callB call_len_seq (by rfl) T.m_len (by decide +kernel) (pa_cons (pv 0) pa_nil)) (nomark _)) (pss_one (ps_raise rfl tk (pmk_oex OPackError iPackError tPackError GPackError (hr.mono (by omega)) bPackError .nil passL (by rfl) mPackError (pa_cons (pe_fld (pv 1) (by rfl)) pa_nil)))) pss_nil)
      (pss_one (ps_ret (pv 2)))))), ?_⟩
    refine ⟨_, rfl, fun p dx hp hdx ne => ?_⟩
    refine ⟨p, L, dx, rfl, upd_same, fun H1 b1 h1 => ⟨rfl, ?_⟩⟩
    have nLp : L ≠ p := fun z => by rw [← z, hL] at hp; cases hp
    have nLd : L ≠ dx := fun z => by rw [← z, hL] at hdx; cases hdx
    have s1 : Same H H1 := fun b o e => b1 b o (fun m => by rw [List.mem_singleton.mp m, hp] at e; cases e) (by rw [upd_ne (ne_of_none e hp), upd_ne (ne_of_none e hdx)]; exact e)
    have hR : RdAt R p L bs H1 0 := ⟨⟨dx, h1⟩, s1 _ _ hL, Nat.zero_le _⟩
    have same : ∀ {H'}, But [p] H1 H' → Same H H' := fun b x o e => b x o (fun m => by rw [List.mem_singleton.mp m, hp] at e; cases e) (s1 x o e)
    refine ⟨_, rfl, p, dx, _, rfl, h1, rdFs_no _ _ (by decide +kernel) (by decide +kernel), p, L, bs, 0, 60, rfl, by decide, hR, hB, fun d j e v H2 b2 hR2 hv => ?_, fun e he dx' H2 b2 hx => ?_⟩
    · obtain ⟨dx2, hp2⟩ := hR2.ins
      have le := hR2.le
      have ln := hB.len
      refine ⟨_, rfl, p, R, dx2, _, _, rfl, hp2, PK.cls, PK.a, rdFs_a L j, _, rfl, L, _, rfl, .inl (SqL.of hR2.lst), _, _, rfl, rfl, _, rfl, ite2 (fun c => ?_) (fun c => ?_)⟩
      · have c : (j : Int) < ((nB bs).length : Int) := of_decide_eq_true c
        rw [nB_len] at c
        refine ⟨_, rfl, p, R, dx2, _, _, rfl, hp2, PK.cls, PK.a, rdFs_a L j, (by decide : 1 ≤ 1000), fun a ha => raise_end (log_small (by omega)) (fun d' H' sm hx => q2 j ?_ d' H' ((same b2).trans sm) hx) a ha⟩
        unfold dun
        rw [e]
        exact if_pos (by omega)
      · have c : ¬ (j : Int) < ((nB bs).length : Int) := fun h => c (decide_eq_true h)
        rw [nB_len] at c
        refine ⟨_, rfl, q1 d j ?_ v H2 (same b2) hv.1 hv.2⟩
        unfold dun
        rw [e]
        exact if_neg (by omega)
    · refine q2 e ?_ dx' H2 (same b2) hx
      unfold dun
      rw [he]
      rfl
end
end My

set_option Elab.async false
set_option maxRecDepth 100000
set_option maxHeartbeats 4000000
set_option linter.all false
namespace My
open PySem L2
theorem take_nx {α : Type} {l : List α} {i : Nat} {x : α} (h : l[i]? = some x) : l.take (i + 1) = l.take i ++ [x] := by
  rw [List.take_add_one, h]
  rfl
theorem take_filter {α : Type} {c : List α} {i : Nat} {x : α} {p : α → Bool} (h : c[i]? = some x) : (c.take (i + 1)).filter p = (c.take i).filter p ++ (if p x = true then [x] else []) := by
  rw [take_nx h, List.filter_append, List.filter_cons, List.filter_nil]
def sgn (c : Nat) : V := .str ⟨#[c]⟩
def sgnD (c : Nat) : PyData := .str ⟨#[c]⟩
theorem lay_sgns : ∀ cs : List Nat, (∀ c, c ∈ cs → c < 0x110000) → PyData.canLayAll0 (cs.map sgnD) = true
  | [], _ => rfl
  | c :: cs, h => by
    rw [List.map_cons]
    have e : PyData.strOk ⟨#[c]⟩ = true := by
      show Array.all #[c] (fun x => decide (x < 0x110000)) = true
      have := h c (.head _)
      simp [this]
    simp only [PyData.canLayAll0, sgnD, PyData.canLay0, e, Bool.true_and]
    exact lay_sgns cs fun x hx => h x (.tail _ hx)
theorem dep_sgns : ∀ cs : List Nat, PyData.depthAll (cs.map sgnD) = 0
  | [] => rfl
  | c :: cs => by
    rw [List.map_cons]
    simp only [PyData.depthAll, sgnD, PyData.depth]
    rw [dep_sgns cs]
    rfl
theorem shp_sgns (cs : List Nat) (h : ∀ c, c ∈ cs → c < 0x110000) : SeqAt.shaped (.list (cs.map sgnD)) = true := by
  show (PyData.canLay0 (.list (cs.map sgnD)) && decide (PyData.depth (.list (cs.map sgnD)) ≤ 64)) = true
  simp only [PyData.canLay0, PyData.depth, dep_sgns, lay_sgns cs h]
  rfl
theorem eqv_sgns (cs : List Nat) : PyData.eqv (.list (cs.map sgnD)) (.list []) = decide (cs = []) := by
  cases cs with
  | nil => rfl
  | cons a r => rfl
theorem dp_sgns {K : PySem.W.Frag} {H : Hp} (cs : List Nat) : DpAll K H (cs.map sgn) (cs.map sgnD) := by
  induction cs with
  | nil => exact .nil
  | cons c r ih => exact .cons (.str ⟨#[c]⟩) ih
theorem sgn_pts {x : Str} (h : PyData.strOk x = true) : ∀ c, c ∈ x.cps.toList → c < 0x110000 := by
  intro c hc
  have h' : x.cps.all (fun c => decide (c < 0x110000)) = true := h
  rw [← Array.all_toList, List.all_eq_true] at h'
  exact of_decide_eq_true (h' c hc)
/-- [x for x in text if ..] -/
theorem filt_str {x : Str} {k : Nat} {tt : TT} {vs : List Nat} {σ : L2.St} {H1 : Hp} {D : Addr} {Qd : Hp → Prop} (p : Nat → Bool) (hl : x.length ≤ 1000) (hD : H1 D = none) (hw : ∀ v, wipe ((wipe σ vs).set k (some v)) vs = wipe σ vs)
    (hv : ∀ v H2 (R : VK), R v H2 → tVar k ((wipe σ vs).set k (some v)) H2 R) (ht : ∀ c H2 (R : Bool → Hp → Prop), Same H1 H2 → R (p c) H2 → tt ((wipe σ vs).set k (some (sgn c))) H2 R)
    (hq : ∀ H2, H2 D = some (.lst ((x.cps.toList.filter p).map sgn)) → Same H1 H2 → Qd H2) :
    ∃ W : Nat → Nat → Hp → Prop, (∃ m, W 0 m (upd H1 D (.lst []))) ∧ ∀ i m H, W i m H →
      ((Its x).stop i H ∧ Qd H) ∨ ((Its x).go i H ∧ ∃ Nx : Hp → Prop, (∀ H', Nx H' → ∃ m', m' < m ∧ W (i + 1) m' H') ∧ ∀ v H', (Its x).yld i H v H' → gName k v (wipe σ vs) H' fun σ2 H2 => wipe σ2 vs = wipe σ vs ∧ tt σ2 H2 fun b H3 =>
        if b = true then tVar k σ2 H3 fun y H4 => ∃ acc, H4 D = some (.lst acc) ∧ acc.length < sizeLine ∧ Nx (upd H4 D (.lst (acc ++ [y]))) else Nx H3) := by
  have hsz : x.cps.toList.length ≤ 1000 := hl
  refine ⟨fun i m H' => m = x.cps.size - i ∧ i ≤ x.cps.size ∧ H' D = some (.lst (((x.cps.toList.take i).filter p).map sgn)) ∧ Same H1 H', ⟨_, rfl, Nat.zero_le _, upd_same, same_new hD _⟩, ?_⟩
  rintro i m H' ⟨rfl, hi, h1, s1⟩
  by_cases hlt : i < x.cps.size
  · refine .inr ⟨hlt, fun H' => (i + 1 ≤ x.cps.size) ∧ H' D = some (.lst (((x.cps.toList.take (i + 1)).filter p).map sgn)) ∧ Same H1 H', fun H2 ⟨a1, a2, a3⟩ => ⟨_, by omega, rfl, a1, a2, a3⟩, ?_⟩
    rintro v H2 ⟨rfl, c, hc, rfl⟩
    have hc' : x.cps.toList[i]? = some c := by rw [Array.getElem?_toList]; exact hc
    refine ⟨hw (sgn c), ht c _ _ s1 ?_⟩
    cases hp : p c with
    | false =>
      rw [if_neg (by decide)]
      exact ⟨hlt, by rw [take_filter hc', hp]; simpa using h1, s1⟩
    | true =>
      rw [if_pos rfl]
      refine hv (sgn c) _ _ ⟨_, h1, ?_, hlt, ?_, fun b o hb => ?_⟩
      · have := List.length_filter_le p (x.cps.toList.take i)
        rw [List.length_take] at this
        rw [List.length_map]
        exact sz5' (by omega)
      · rw [upd_same, take_filter hc', hp, if_pos rfl, List.map_append] <;> rfl
      · rw [upd_ne (ne_of_none hb hD)]
        exact s1 b o hb
  · have ei : i = x.cps.size := by omega
    have hf : x.cps.toList.take i = x.cps.toList := List.take_of_length_le (by rw [Array.length_toList]; omega)
    rw [hf] at h1
    exact .inl ⟨by show x.cps.size ≤ i; omega, hq H' h1 s1⟩
/-- a sign, n times -/
theorem op_mul_x {X : Cx} : OpR X (binaryOp .Mult) (fun x y H Q => ∃ (s : Str) (n : Int), x = .str s ∧ y = .int n ∧ s.length = 1 ∧ 0 ≤ n ∧ n ≤ 1000 ∧ Q (.str (Txt.mul s n)) H) := by
  intro pins s σ H x y v u Q I rx ry h
  obtain ⟨z, n, rfl, rfl, hl, h0, h1, q⟩ := h
  obtain ⟨t, rfl⟩ := rx
  obtain ⟨t', rfl⟩ := ry
  exact PySem.SB.mul ⟨by simp; omega, fun _ _ => by
    rw [hl]
    have : (1 : Int) ≤ (2 ^ 63 - 1) / n := Int.le_ediv_of_mul_le (by omega) (by omega)
    omega, fun _ _ => by
    rw [hl]
    unfold Builtin.Str.tooLong
    simp [sizeLine_eq]
    omega⟩ fun t' k => ⟨.str _, H, I.kept (t' := k) fun _ _ e => e, ⟨_, rfl⟩, q⟩
theorem mul_fit {c : Nat} {n : Int} (hc : c < 128) (h1 : n ≤ 139) : (Txt.mul ⟨#[c]⟩ n).length ≤ 139 ∧ PyData.strOk (Txt.mul ⟨#[c]⟩ n) = true := by
  have e := PyProof.Rows.mul_one_list c n
  have e2 : (Txt.mul ⟨#[c]⟩ n).length = n.toNat := by
    show (Txt.mul ⟨#[c]⟩ n).cps.size = _
    rw [← Array.length_toList, e, List.length_replicate]
  refine ⟨by omega, ?_⟩
  show Array.all (Txt.mul ⟨#[c]⟩ n).cps (fun x => decide (x < 0x110000)) = true
  rw [← Array.all_toList, e]
  exact List.all_eq_true.mpr fun x m => by
    obtain ⟨_, rfl⟩ := List.mem_replicate.mp m
    exact decide_eq_true (by omega)
end My

set_option Elab.async false
set_option maxRecDepth 130000
set_option maxHeartbeats 4000000
set_option linter.all false
namespace My
open PySem L2 P6
open C8 (pss_cut)
mutual
/-- texts of at most 500 signs, numbers of at most 133 bits, tuples of at most 500 -/
def tx : PyData → Prop
  | .str s => s.length ≤ 500 ∧ PyData.strOk s = true
  | .int i => -(2 ^ 132) ≤ i ∧ i ≤ 2 ^ 132
  | .list xs => txs xs
  | .tuple xs => xs.length ≤ 500 ∧ txs xs
  | _ => True
def txs : List PyData → Prop
  | [] => True
  | x :: r => tx x ∧ txs r
end
theorem txs_mem : ∀ {l : List PyData} {x : PyData}, x ∈ l → txs l → tx x
  | y :: r, x, m, h => by
    unfold txs at h
    rcases List.mem_cons.mp m with rfl | m
    · exact h.1
    · exact txs_mem m h.2
def spLSigns : Sp := fun vs H Q _ => vs = [] ∧ Q (.str charS) H
def spLBytes (K : PySem.W.Frag) (n : Nat) : Sp := fun vs H Q _ => ∃ (v : V) (d : PyData) (k g : Nat), vs = [v, .int (g : Int)] ∧ k < n ∧ k + g = 60 ∧ Vl K H v d ∧ wt d ≤ 130000 ∧ tx d ∧
  (∀ bs, enc d k = some bs → ∀ H' p, Same H H' → H' p = some (.lst (nB bs)) → Q (.ref p) H') ∧ (enc d k = none → ∀ H', Same H H' → Q .non H')
section
variable {P : Program} {w : World} {K : PySem.W.Frag} {mg : Str → Option Value} {base : Heap} {f : Addr} {fd : FuncData}
theorem ok__law_signs (D : Def K mg "_law_signs" [] s__law_signs f fd) : Own P w K mg base "_law_signs" [] 1 spLSigns := by
  refine ⟨f, fd, D.mg, D.fn.kp, D.bd, D.fn.ok sc__law_signs (fun vs H Q E h => ?_) (fun cdv A outer s H vs Q E hr h => ?_)⟩
  · obtain ⟨rfl, _⟩ := h
    rfl
  · obtain ⟨rfl, q⟩ := h
    exact ⟨_, (pss_one (ps_ret pe_str)), q⟩
theorem ok__law_size (T : Txt K mg) (D : Def K mg "_law_size" ["n"] s__law_size f fd) : Own P w K mg base "_law_size" ["n"] 1 spSizeB := by
  refine ⟨f, fd, D.mg, D.fn.kp, D.bd, D.fn.ok sc__law_size (fun vs H Q E h => ?_) (fun cdv A outer s H vs Q E hr h => ?_)⟩
  · obtain ⟨n, rfl, _⟩ := h
    rfl
  · obtain ⟨n, rfl, hz, q⟩ := h
    refine ⟨_, (pss_cons (ps_set (i := 1) sc__law_size.nd rfl (Or.inl rfl) (pe_lst pa_nil))
      (pss_cons (ps_while PassesOwn.never (pt_cmpR op_ge (pv 0) pe_int (nomark _)) (pss_cons (ps_expr (pe_bm PySem.F.plainAttrs_list PySem.F.slot_list_append PySem.F.type_list_append mt_append (pv 1) (pa_cons (pe_op op_add (pe_op op_mod (pe_callTy call_int1 (by rfl) T.m_int (by decide +kernel) (pa_cons (pv 0) pa_nil)) pe_int) pe_int) pa_nil)))
      (pss_one (ps_set (i := 0) sc__law_size.nd rfl (Or.inl rfl) (pe_op op_fdiv (pv 0) pe_int)))))
      (pss_one (ps_ret (pe_op op_cat (pv 1) (pe_lst (pa_cons (pv 0) pa_nil))))))), ?_⟩
    refine ⟨by show 0 ≤ sizeLine; decide, fun p hp => ?_⟩
    refine ⟨fun j σ' H' => ∃ (m : Nat) (ds : List Nat), σ' = [some (.int (m : Int)), some (.ref p)] ∧ H' p = some (.lst (nB ds)) ∧ Same H H' ∧ ds ++ sizeB m = sizeB n ∧ j = m, ⟨n, n, [], rfl, upd_same, same_new hp _, rfl, rfl⟩, ?_⟩
    rintro j σ' H1 ⟨m, ds, rfl, h1, s1, e1, rfl⟩
    have dl : ds.length ≤ 130000 := by
      have := congrArg List.length e1
      rw [List.length_append] at this
      omega
    refine ⟨_, rfl, _, _, rfl, rfl, _, rfl, ite2 (fun c => ?_) (fun c => ?_)⟩
    · have c : (128 : Int) ≤ (j : Int) := of_decide_eq_true c
      have hm : ¬ j < 128 := by omega
      rw [sizeB_ge hm] at e1
      refine ⟨fun σ' H' => σ' = [some (.int ((j / 128 : Nat) : Int)), some (.ref p)] ∧ H' p = some (.lst (nB (ds ++ [j % 128 + 128]))) ∧ Same H H', fun σ' H' ⟨a1, a2, a3⟩ => ⟨j / 128, by omega, j / 128, _, a1, a2, a3, by rw [List.append_assoc]; exact e1, rfl⟩, ?_⟩
      have ev : (j : Int) % 128 + 128 = ((j % 128 + 128 : Nat) : Int) := by omega
      have ed : (j : Int) / 128 = ((j / 128 : Nat) : Int) := by omega
      refine ⟨_, rfl, .inl ⟨rfl, _, SqL.of h1⟩, _, rfl, .inl ⟨_, rfl, _, _, rfl, rfl, (by decide : (0 : Int) < 128), _, _, rfl, rfl, p, _, _, rfl, rfl, h1, sz5' (by rw [nB_len]; omega), ?_⟩⟩
      refine ⟨_, rfl, _, _, rfl, rfl, ⟨by decide, by decide⟩, ?_⟩
      exact ⟨congrArg (fun z => [some (V.int z), some (.ref p)]) ed, upd_same.trans (by rw [nB_app]; exact congrArg (fun z => some (HO.lst (nB ds ++ [V.int z]))) ev), fun b o e => by rw [upd_ne (ne_of_none e hp)]; exact s1 b o e⟩
    · have c : ¬ (128 : Int) ≤ (j : Int) := fun h => c (decide_eq_true h)
      have hm : j < 128 := by omega
      rw [sizeB_lt hm] at e1
      refine ⟨_, rfl, _, rfl, by show 1 ≤ sizeLine; decide, fun p2 hp2 => ?_⟩
      have n2 : p ≠ p2 := fun e => by rw [← e, h1] at hp2; cases hp2
      refine ⟨p, p2, _, _, rfl, rfl, by rw [upd_ne n2]; exact h1, upd_same, sz5 (by rw [nB_len]; show ds.length + 1 ≤ _; omega), fun p3 hp3 => ?_⟩
      have s2 : Same H (upd H1 p2 (.lst [.int (j : Int)])) := s1.trans (same_new hp2 _)
      exact q _ p3 (s2.trans (same_new hp3 _)) (none_back s2 hp3) (upd_same.trans (by rw [← e1, nB_app]; rfl))
theorem ok__law_bytes1 {n : Nat} (T : Txt K mg) (D : Def K mg "_law_bytes" ["value", "depth"] s__law_bytes f fd) (O1 : Own P w K mg base "_law_size" ["n"] 1 spSizeB) (O2 : Own P w K mg base "_law_signs" [] 1 spLSigns) (O3 : Own P w K mg base "_law_bytes" ["value", "depth"] (n + 1) (spLBytes K n)) :
    Own P w K mg base "_law_bytes" ["value", "depth"] (n + 2) (spLBytes K (n + 1)) := by
  obtain ⟨f_law_size, fd_law_size, m_law_size, k_law_size, b_law_size, G_law_size⟩ := O1
  obtain ⟨f_law_signs, fd_law_signs, m_law_signs, k_law_signs, b_law_signs, G_law_signs⟩ := O2
  obtain ⟨f_law_bytes, fd_law_bytes, m_law_bytes, k_law_bytes, b_law_bytes, G_law_bytes⟩ := O3
  refine ⟨f, fd, D.mg, D.fn.kp, D.bd, D.fn.ok sc__law_bytes (fun vs H Q E h => ?_) (fun cdv A outer s H vs Q E hr h => ?_)⟩
  · obtain ⟨v, d, k, g, rfl, _⟩ := h
    rfl
  · obtain ⟨v, d, k, g, rfl, hk, kg, hd, hw, ht, q1, q2⟩ := h
    refine ⟨_, (pss_cons (ps_if (PW.pt (pw_or (pt_cmpR op_isN (pv 0) pe_non (nomark _)) (pw_or (pt_cmpR op_isB (pv 0) pe_bl (nomark _)) (pw_or1 (pt_cmpR op_isB (pv 0) pe_bl (nomark _)))))) (pss_one (ps_ret (pe_lst (pa_cons (pe_bm PySem.F.plainAttrs_list PySem.F.slot_list_index PySem.F.type_list_index mt_index (pe_lst (pa_cons pe_non (pa_cons pe_bl (pa_cons pe_bl pa_nil)))) (pa_cons (pv 0) pa_nil)) pa_nil)))) pss_nil)
      (pss_cons (ps_if (pt_val (pe_callB cr_isiV (by rfl) T.m_isinstance (by decide +kernel) (pa_cons (pv 0) (pa_cons (pe_bltn (v := .ty "int") (u := .type "int") (by rfl) T.m_int (by decide +kernel) (by rfl)) pa_nil)))) (pss_one (ps_ret (pe_ifExp (pt_cmpR op_ge (pv 0) pe_int (nomark _)) (pe_op op_cat (pe_lst (pa_cons pe_int pa_nil)) (pe_call G_law_size (hr.mono (by omega)) rfl m_law_size k_law_size b_law_size .nil pass0 (pa_cons (pv 0) pa_nil))) (pe_op op_cat (pe_lst (pa_cons pe_int pa_nil)) (pe_call G_law_size (hr.mono (by omega)) rfl m_law_size k_law_size b_law_size .nil pass0 (pa_cons (pe_op op_sub (pe_un un_neg pe_int) (pv 0)) pa_nil)))))) pss_nil)
      (pss_cons (ps_if (pt_val (pe_callB cr_isiV (by rfl) T.m_isinstance (by decide +kernel) (pa_cons (pv 0) (pa_cons (pe_bltn (v := .ty "str") (u := .type "str") (by rfl) T.m_str (by decide +kernel) (by rfl)) pa_nil)))) (pss_cons (ps_if (pt_cmpR (op_neD hr.units) (pe_lc (own := [("sign", 5)]) (g := gName 5) rfl sc__law_bytes.nd (pi_str (pv 0)) (blkOk_by (N := N__law_bytes) (sc := defScope s__law_bytes) (own := [("sign", 5)]) (by decide +kernel)) (fun _ _ _ _ _ => (pg_name (i := 5) sc__law_bytes.nd rfl (Or.inl rfl))) (fun _ _ _ _ _ => (pts_one (pt_cmpR op_notIn_sign (pv 5) (pe_call0 G_law_signs (hr.mono (by omega)) (by rfl) m_law_signs k_law_signs b_law_signs .nil pass0) (by rfl)))) (fun _ _ _ _ _ => (pv 5))) (pe_lst pa_nil) (nomark _)) (pss_one (ps_ret pe_non)) pss_nil)
      (pss_one (ps_ret (pe_op op_cat (pe_op op_cat (pe_lst (pa_cons pe_int pa_nil)) (pe_call G_law_size (hr.mono (by omega)) rfl m_law_size k_law_size b_law_size .nil pass0 (pa_cons (pe_callB call_len_x (by rfl) T.m_len (by decide +kernel) (pa_cons (pv 0) pa_nil)) pa_nil))) (pe_lc (own := [("sign", 5)]) (g := gName 5) (tt := tYes) rfl sc__law_bytes.nd (pi_str (pv 0)) (blkOk_by (N := N__law_bytes) (sc := defScope s__law_bytes) (own := [("sign", 5)]) (by decide +kernel)) (fun _ _ _ _ _ => (pg_name (i := 5) sc__law_bytes.nd rfl (Or.inl rfl))) (fun _ _ _ _ _ => pts_nil) (fun _ _ _ _ _ => (pe_m1 PySem.F.slot_str_index PySem.F.type_str_index mt_sindex (pe_call0 G_law_signs (hr.mono (by omega)) (by rfl) m_law_signs k_law_signs b_law_signs .nil pass0) (pv 5)))))))) pss_nil)
      (pss_cons (ps_if (PW.pt (pw_or (pt_not (pt_val (pe_callB cr_isiV (by rfl) T.m_isinstance (by decide +kernel) (pa_cons (pv 0) (pa_cons (pe_bltn (v := .ty "tuple") (u := .type "tuple") (by rfl) T.m_tuple (by decide +kernel) (by rfl)) pa_nil))))) (pw_or1 (pt_cmpR op_eq (pv 1) pe_int (nomark _))))) (pss_one (ps_ret pe_non)) pss_nil)
      (pss_cons (ps_set (i := 2) sc__law_bytes.nd rfl (Or.inl rfl) (pe_op op_cat (pe_lst (pa_cons pe_int pa_nil)) (pe_call G_law_size (hr.mono (by omega)) rfl m_law_size k_law_size b_law_size .nil pass0 (pa_cons (pe_callB call_len_x (by rfl) T.m_len (by decide +kernel) (pa_cons (pv 0) pa_nil)) pa_nil))))
      (pss_cons (ps_for PassesOwn.never rfl (pi_tup (pv 0)) (pg_name (i := 3) sc__law_bytes.nd rfl (Or.inl rfl)) (pss_cons (ps_set (i := 4) sc__law_bytes.nd rfl (Or.inl rfl) (pe_call G_law_bytes (hr.mono (by omega)) rfl m_law_bytes k_law_bytes b_law_bytes .nil pass0 (pa_cons (pv 3) (pa_cons (pe_op op_add (pv 1) pe_int) pa_nil))))
      (pss_cons (ps_if (pt_cmpR op_isN (pv 4) pe_non (nomark _)) (pss_one (ps_ret pe_non)) pss_nil)
      (pss_one (ps_set (i := 2) sc__law_bytes.nd rfl (Or.inl rfl) (pe_op op_cat (pv 2) (pv 4)))))))
      (pss_one (ps_ret (pv 2))))))))), ?_⟩
    cases hd with
    | non =>
      refine ⟨_, rfl, rfl, _, rfl, ite2 (fun _ => ?_) (fun c => absurd rfl c)⟩
      refine ⟨by show 3 ≤ sizeLine; decide, fun a1 h1 => ⟨.inl ⟨rfl, _, SqL.of upd_same⟩, _, rfl, a1, _, .non, 0, .non, rfl, rfl, SqL.of upd_same, rfl, rfl, rfl, rfl, fun m z' hm => absurd hm (Nat.not_lt_zero _), by show 1 ≤ sizeLine; decide, fun a2 h2 => ?_⟩⟩
      exact q1 [0] rfl _ a2 ((same_new h1 _).trans (same_new h2 _)) upd_same
    | bl b =>
      refine ⟨_, rfl, rfl, _, rfl, ite2 (fun c => absurd (of_decide_eq_true c) (fun e => by cases e)) (fun _ => ?_)⟩
      cases b with
      | false =>
        refine ⟨_, rfl, _, rfl, _, rfl, ite2 (fun _ => ?_) (fun c => absurd rfl c)⟩
        refine ⟨by show 3 ≤ sizeLine; decide, fun a1 h1 => ⟨.inl ⟨rfl, _, SqL.of upd_same⟩, _, rfl, a1, _, .bl false, 1, .bl false, rfl, rfl, SqL.of upd_same, rfl, rfl, rfl, rfl, fun m z' hm e => by
            obtain rfl : m = 0 := by omega
            cases e
            rfl, by show 1 ≤ sizeLine; decide, fun a2 h2 => ?_⟩⟩
        exact q1 [1] rfl _ a2 ((same_new h1 _).trans (same_new h2 _)) upd_same
      | true =>
        refine ⟨_, rfl, _, rfl, _, rfl, ite2 (fun c => absurd (of_decide_eq_true c) (fun e => by cases e)) (fun _ => ?_)⟩
        refine ⟨_, rfl, _, rfl, _, rfl, ite2 (fun _ => ?_) (fun c => absurd rfl c)⟩
        refine ⟨by show 3 ≤ sizeLine; decide, fun a1 h1 => ⟨.inl ⟨rfl, _, SqL.of upd_same⟩, _, rfl, a1, _, .bl true, 2, .bl true, rfl, rfl, SqL.of upd_same, rfl, rfl, rfl, rfl, fun m z' hm e => by
            have hm2 : m = 0 ∨ m = 1 := by omega
            rcases hm2 with rfl | rfl <;> (cases e; rfl), by show 1 ≤ sizeLine; decide, fun a2 h2 => ?_⟩⟩
        exact q1 [2] rfl _ a2 ((same_new h1 _).trans (same_new h2 _)) upd_same
    | int i =>
      refine ⟨_, rfl, rfl, _, rfl, ite2 (fun c => absurd (of_decide_eq_true c) (fun e => by cases e)) (fun _ => ?_)⟩
      refine ⟨_, rfl, _, rfl, _, rfl, ite2 (fun c => absurd (of_decide_eq_true c) (fun e => by cases e)) (fun _ => ?_)⟩
      refine ⟨_, rfl, _, rfl, _, rfl, ite2 (fun c => absurd (of_decide_eq_true c) (fun e => by cases e)) (fun _ => ?_)⟩
      refine ⟨_, rfl, _, .int i, _, true, rfl, .int i, kit_I (.int i), true, rfl, ite2 (fun _ => ?_) (fun c => absurd rfl c)⟩
      have len : (sizeB (if 0 ≤ i then i.toNat else (-1 - i).toNat)).length ≤ 129999 := by
        have e : wt (.int i) = 1 + (sizeB (if 0 ≤ i then i.toNat else (-1 - i).toNat)).length := rfl
        omega
      by_cases hi : 0 ≤ i
      · rw [if_pos hi] at len
        have e : enc (.int i) k = some (3 :: sizeB i.toNat) := by unfold enc; rw [if_pos hi]
        have ei : i = ((i.toNat : Nat) : Int) := (Int.toNat_of_nonneg hi).symm
        refine ⟨_, rfl, _, _, rfl, rfl, _, rfl, ite2 (fun _ => ?_) (fun c => absurd (decide_eq_true hi) c)⟩
        refine ⟨by show 1 ≤ sizeLine; decide, fun a1 h1 => ⟨_, rfl, i.toNat, by rw [← ei]; rfl, by omega, fun H1 p s1 hn hp => ?_⟩⟩
        have s2 := (same_new h1 (.lst [.int 3])).trans s1
        exact ⟨a1, p, _, _, rfl, rfl, s1 _ _ upd_same, hp, sz5 (by rw [nB_len]; show 1 + _ ≤ _; omega), fun a2 h2 => q1 _ e _ a2 (s2.trans (same_new h2 _)) upd_same⟩
      · rw [if_neg hi] at len
        have e : enc (.int i) k = some (4 :: sizeB (-1 - i).toNat) := by unfold enc; rw [if_neg hi]
        have ei : -1 - i = (((-1 - i).toNat : Nat) : Int) := (Int.toNat_of_nonneg (by omega)).symm
        refine ⟨_, rfl, _, _, rfl, rfl, _, rfl, ite2 (fun c => absurd (of_decide_eq_true c) hi) (fun _ => ?_)⟩
        refine ⟨by show 1 ≤ sizeLine; decide, fun a1 h1 => ⟨1, rfl, _, rfl, _, _, rfl, rfl, (-1 - i).toNat, by rw [← ei]; rfl, by omega, fun H1 p s1 hn hp => ?_⟩⟩
        have s2 := (same_new h1 (.lst [.int 4])).trans s1
        exact ⟨a1, p, _, _, rfl, rfl, s1 _ _ upd_same, hp, sz5 (by rw [nB_len]; show 1 + _ ≤ _; omega), fun a2 h2 => q1 _ e _ a2 (s2.trans (same_new h2 _)) upd_same⟩
    | str x =>
      refine ⟨_, rfl, rfl, _, rfl, ite2 (fun c => absurd (of_decide_eq_true c) (fun e => by cases e)) (fun _ => ?_)⟩
      refine ⟨_, rfl, _, rfl, _, rfl, ite2 (fun c => absurd (of_decide_eq_true c) (fun e => by cases e)) (fun _ => ?_)⟩
      refine ⟨_, rfl, _, rfl, _, rfl, ite2 (fun c => absurd (of_decide_eq_true c) (fun e => by cases e)) (fun _ => ?_)⟩
      refine ⟨_, rfl, _, .str x, _, false, rfl, .str x, kit_I (.str x), false, rfl, ite2 (fun c => absurd c Bool.false_ne_true) (fun _ => ?_)⟩
      refine ⟨_, rfl, _, .str x, _, true, rfl, .str x, kit_S (.str x), true, rfl, ite2 (fun _ => ?_) (fun c => absurd rfl c)⟩
      have ht : x.length ≤ 500 ∧ PyData.strOk x = true := ht
      have len : (sizeB x.length).length ≤ 129999 := by
        have e : wt (.str x) = 1 + ((sizeB x.length).length + x.length) := rfl
        omega
      refine ⟨_, rfl, x, rfl, fun D hD => filt_str (fun c => !decide (c ∈ charS.cps.toList)) (by omega) hD (fun _ => rfl) (fun v H2 R r => ⟨_, rfl, r⟩) (fun c H2 R s2 r => ⟨_, rfl, rfl, c, charS, rfl, rfl, _, rfl, r⟩) fun H2 h2 s2 => ?_⟩
      refine ⟨by show 0 ≤ sizeLine; decide, fun e1 he1 => ?_⟩
      refine ⟨.list _, .list [], .lst (SqL.of (same_new he1 _ _ _ h2)) (dp_sgns _), .lst (SqL.of upd_same) .nil, shp_sgns _ (fun c m => sgn_pts ht.2 c (List.mem_filter.mp m).1), by rfl, _, rfl, ite2 (fun c => ?_) (fun c => ?_)⟩
      · refine q2 ?_ _ (s2.trans (same_new he1 _))
        have ne : (x.cps.toList.filter fun c => !decide (c ∈ charS.cps.toList)) ≠ [] := fun z => by
          rw [eqv_sgns, decide_eq_true z] at c
          cases c
        obtain ⟨y, hy⟩ := List.exists_mem_of_ne_nil _ ne
        obtain ⟨m1, m2⟩ := List.mem_filter.mp hy
        have hn : plOf y = none := by
          cases e : plOf y with
          | none => rfl
          | some p =>
            rw [decide_eq_true (mem_chars.mpr ⟨p, e⟩)] at m2
            cases m2
        unfold enc
        rw [plsOf_none m1 hn]
        rfl
      have all : ∀ y ∈ x.cps.toList, ∃ p, plOf y = some p := fun y m => by
        have z : (x.cps.toList.filter fun c => !decide (c ∈ charS.cps.toList)) = [] := by
          by_cases z : (x.cps.toList.filter fun c => !decide (c ∈ charS.cps.toList)) = []
          · exact z
          · rw [eqv_sgns, decide_eq_false z] at c
            exact absurd rfl c
        have w := List.filter_eq_nil_iff.mp z y m
        refine mem_chars.mp ?_
        by_cases d : y ∈ charS.cps.toList
        · exact d
        · rw [decide_eq_false d] at w
          exact absurd rfl w
      have s3 := s2.trans (same_new he1 (.lst []))
      refine ⟨by show 1 ≤ sizeLine; decide, fun a1 h1 => ⟨_, rfl, .inl ⟨x, rfl, sz5 (by omega), x.length, rfl, by omega, fun H4 p s4 hn hp => ?_⟩⟩⟩
      have s5 := (s3.trans (same_new h1 (.lst [.int 5]))).trans s4
      refine ⟨a1, p, _, _, rfl, rfl, s4 _ _ upd_same, hp, sz5 (by rw [nB_len]; show 1 + _ ≤ _; omega), fun a2 h2 => ?_⟩
      have s6 := s5.trans (same_new h2 (.lst ([V.int 5] ++ nB (sizeB x.length))))
      generalize hH2 : upd H4 a2 (.lst ([V.int 5] ++ nB (sizeB x.length))) = H5 at s6
      have h5 : H5 a2 = some (.lst (nB (5 :: sizeB x.length))) := by rw [← hH2]; exact upd_same
      refine ⟨_, rfl, x, rfl, fun D1 hD1 => ?_⟩
      have xl : x.cps.toList.length = x.length := by simp [Str.length]
      refine ⟨fun i r H' => ∃ ps, plsOf (x.cps.toList.take i) = some ps ∧ H' D1 = some (.lst (nB ps)) ∧ Same H5 H' ∧ i ≤ x.length ∧ r + i = x.length, ⟨x.length, [], rfl, upd_same, same_new hD1 _, Nat.zero_le _, rfl⟩, ?_⟩
      rintro i r H' ⟨ps, e1, e2, s7, le, er⟩
      have pl := plsOf_len e1
      rw [List.length_take, xl, Nat.min_eq_left le] at pl
      rcases Nat.lt_or_ge i x.length with lt | ge
      · refine .inr ⟨lt, fun H'' => ∃ qs, plsOf (x.cps.toList.take (i + 1)) = some qs ∧ H'' D1 = some (.lst (nB qs)) ∧ Same H5 H'', fun H'' ⟨qs, a1, a2, a3⟩ => ⟨x.length - (i + 1), by omega, qs, a1, a2, a3, lt, by omega⟩, ?_⟩
        rintro y H3 ⟨rfl, c, hc, rfl⟩
        have hc' : x.cps.toList[i]? = some c := by rw [Array.getElem?_toList]; exact hc
        obtain ⟨pp, hpp⟩ := all c (List.mem_of_getElem? hc')
        obtain ⟨rest, ho⟩ := occ_is hpp
        refine ⟨rfl, yesV ?_⟩
        rw [if_pos rfl]
        refine ⟨rfl, ⟨_, rfl⟩, _, rfl, charS, ⟨#[c]⟩, pp, rest, rfl, rfl, ho, _, e2, sz5' (by rw [nB_len]; omega), ps ++ [pp], ?_, ?_, fun b o e => ?_⟩
        · rw [List.take_add_one, hc']
          exact plsOf_snoc e1 hpp
        · rw [upd_same, nB_app]
          rfl
        · rw [upd_ne (ne_of_none e hD1)]
          exact s7 b o e
      · refine .inl ⟨ge, ?_⟩
        rw [show i = x.length by omega, ← xl, List.take_length] at e1
        refine ⟨a2, D1, _, _, rfl, rfl, s7 _ _ h5, e2, sz5 (by rw [nB_len, nB_len, List.length_cons]; omega), fun a3 h3 => ?_⟩
        refine q1 (5 :: (sizeB x.length ++ ps)) ?_ _ a3 ((s6.trans s7).trans (same_new h3 _)) (upd_same.trans ?_)
        · unfold enc
          rw [e1]
          rfl
        · rw [← nB_app]
          rfl
    | @tup a xs ds hq hs =>
      refine ⟨_, rfl, rfl, _, rfl, ite2 (fun c => absurd (of_decide_eq_true c) (fun e => by cases e)) (fun _ => ?_)⟩
      refine ⟨_, rfl, _, rfl, _, rfl, ite2 (fun c => absurd (of_decide_eq_true c) (fun e => by cases e)) (fun _ => ?_)⟩
      refine ⟨_, rfl, _, rfl, _, rfl, ite2 (fun c => absurd (of_decide_eq_true c) (fun e => by cases e)) (fun _ => ?_)⟩
      have hv : Vl K H (.ref a) (.tuple ds) := .tup hq hs
      refine ⟨_, rfl, _, .tuple ds, _, false, rfl, hv, kit_I _, false, rfl, ite2 (fun c => absurd c Bool.false_ne_true) (fun _ => ?_)⟩
      refine ⟨_, rfl, _, .tuple ds, _, false, rfl, hv, kit_S _, false, rfl, ite2 (fun c => absurd c Bool.false_ne_true) (fun _ => ?_)⟩
      refine ⟨_, rfl, _, .tuple ds, _, true, rfl, hv, kit_T _, true, rfl, ite2 (fun c => absurd c Bool.false_ne_true) (fun _ => ?_)⟩
      have ew : wt (.tuple ds) = 1 + ((sizeB ds.length).length + wts ds) := rfl
      cases k with
      | zero =>
        have g60 : g = 60 := by omega
        subst g60
        refine ⟨_, rfl, rfl, _, rfl, ite2 (fun _ => ?_) (fun c => absurd rfl c)⟩
        exact q2 (by unfold enc; rfl) H (Same.refl H)
      | succ k =>
        refine ⟨_, rfl, rfl, _, rfl, ite2 (fun c => absurd (inteq c) (by omega)) (fun _ => ?_)⟩
        have xl := vla_len hs
        refine ⟨by show 1 ≤ sizeLine; decide, fun a1 h1 => ⟨_, rfl, .inr ⟨a, xs, rfl, .inr (sqt_mono (same_new h1 _) hq), ds.length, by rw [xl]; rfl, by omega, fun H4 p s4 hn hp => ?_⟩⟩⟩
        have s5 := (same_new h1 (.lst [.int 6])).trans s4
        refine ⟨a1, p, _, _, rfl, rfl, s4 _ _ upd_same, hp, sz5 (by rw [nB_len]; show 1 + _ ≤ _; omega), fun a2 h2 => ?_⟩
        have s6 := s5.trans (same_new h2 (.lst ([V.int 6] ++ nB (sizeB ds.length))))
        refine ⟨_, rfl, a, rfl, ⟨xs, sqt_mono s6 hq⟩, for_tup (K := K) (a := a) (xs := xs) (fun i σ' H' => ∃ (r : Addr) (o3 o4 : Option V) (es : List Nat), σ' = [some (.ref a), some (.int (g : Int)), some (.ref r), o3, o4, none] ∧ encs (ds.take i) k = some es ∧ H' r = some (.lst (nB (6 :: (sizeB ds.length ++ es)))) ∧ Same H H')
          ⟨a2, none, none, [], rfl, by rw [List.take_zero]; unfold encs; rfl, by rw [upd_same, List.append_nil]; rfl, s6⟩ (fun i σ' H' _ ⟨_, _, _, _, _, _, _, b⟩ => sqt_mono b hq) ?_ ?_⟩
        · rintro i y σ' H6 hy ⟨r, o3, o4, es, rfl, e6, h6, s7⟩
          obtain ⟨d', hd', hv'⟩ := vla_get hs hy
          have ln := encs_len _ _ _ e6
          have wl := wts_take ds i d' hd'
          have t' := txs_mem (List.mem_of_getElem? hd') (show ds.length ≤ 500 ∧ txs ds from ht).2
          refine ⟨_, rfl, _, rfl, _, _, rfl, rfl, y, d', k, g + 1, rfl, by omega, by omega, vl_mono s7 d' hv', by omega, t', fun bs eb H7 p7 s8 h7 => ?_, fun en H7 s8 => ?_⟩
          · refine ⟨_, rfl, rfl, _, rfl, ite2 (fun c => absurd (of_decide_eq_true c) (fun e => by cases e)) (fun _ => ?_)⟩
            have lb := enc_len _ _ _ eb
            refine ⟨_, rfl, _, rfl, r, p7, _, _, rfl, rfl, s8 _ _ h6, h7, sz5 (by rw [nB_len, nB_len, List.length_cons, List.length_append]; omega), fun a8 h8 => ?_⟩
            refine ⟨a8, _, _, es ++ bs, rfl, ?_, ?_, (s7.trans s8).trans (same_new h8 _)⟩
            · rw [List.take_add_one, hd']
              exact encs_snoc e6 eb
            · rw [upd_same, ← nB_app]
              simp [List.append_assoc]
          · refine ⟨_, rfl, rfl, _, rfl, ite2 (fun _ => ?_) (fun c => absurd rfl c)⟩
            refine q2 ?_ H7 (s7.trans s8)
            unfold enc
            show (encs ds k).map _ = none
            rw [encs_none (List.mem_of_getElem? hd') en]
            rfl
        · rintro σ' H6 ⟨r, o3, o4, es, rfl, e6, h6, s7⟩
          rw [xl, List.take_length] at e6
          refine ⟨_, rfl, q1 (6 :: (sizeB ds.length ++ es)) ?_ H6 r s7 h6⟩
          unfold enc
          show (encs ds k).map _ = _
          rw [e6]
          rfl
    | @lst a xs ds hq hs =>
      refine ⟨_, rfl, rfl, _, rfl, ite2 (fun c => absurd (of_decide_eq_true c) (fun e => by cases e)) (fun _ => ?_)⟩
      refine ⟨_, rfl, _, rfl, _, rfl, ite2 (fun c => absurd (of_decide_eq_true c) (fun e => by cases e)) (fun _ => ?_)⟩
      refine ⟨_, rfl, _, rfl, _, rfl, ite2 (fun c => absurd (of_decide_eq_true c) (fun e => by cases e)) (fun _ => ?_)⟩
      have hv : Vl K H (.ref a) (.list ds) := .lst hq hs
      refine ⟨_, rfl, _, .list ds, _, false, rfl, hv, kit_I _, false, rfl, ite2 (fun c => absurd c Bool.false_ne_true) (fun _ => ?_)⟩
      refine ⟨_, rfl, _, .list ds, _, false, rfl, hv, kit_S _, false, rfl, ite2 (fun c => absurd c Bool.false_ne_true) (fun _ => ?_)⟩
      refine ⟨_, rfl, _, .list ds, _, false, rfl, hv, kit_T _, false, rfl, ite2 (fun _ => ?_) (fun c => absurd rfl c)⟩
      exact q2 (by unfold enc; rfl) H (Same.refl H)
    | @dct a ha =>
      refine ⟨_, rfl, rfl, _, rfl, ite2 (fun c => absurd (of_decide_eq_true c) (fun e => by cases e)) (fun _ => ?_)⟩
      refine ⟨_, rfl, _, rfl, _, rfl, ite2 (fun c => absurd (of_decide_eq_true c) (fun e => by cases e)) (fun _ => ?_)⟩
      refine ⟨_, rfl, _, rfl, _, rfl, ite2 (fun c => absurd (of_decide_eq_true c) (fun e => by cases e)) (fun _ => ?_)⟩
      have hv : Vl K H (.ref a) (.dict []) := .dct ha
      refine ⟨_, rfl, _, .dict [], _, false, rfl, hv, kit_I _, false, rfl, ite2 (fun c => absurd c Bool.false_ne_true) (fun _ => ?_)⟩
      refine ⟨_, rfl, _, .dict [], _, false, rfl, hv, kit_S _, false, rfl, ite2 (fun c => absurd c Bool.false_ne_true) (fun _ => ?_)⟩
      refine ⟨_, rfl, _, .dict [], _, false, rfl, hv, kit_T _, false, rfl, ite2 (fun _ => ?_) (fun c => absurd rfl c)⟩
      exact q2 (by unfold enc; rfl) H (Same.refl H)
theorem ok__law_bytes (T : Txt K mg) (D : Def K mg "_law_bytes" ["value", "depth"] s__law_bytes f fd) (O1 : Own P w K mg base "_law_size" ["n"] 1 spSizeB) (O2 : Own P w K mg base "_law_signs" [] 1 spLSigns) : ∀ n, Own P w K mg base "_law_bytes" ["value", "depth"] (n + 1) (spLBytes K n)
  | 0 => ⟨f, fd, D.mg, D.fn.kp, D.bd, fn_never fun vs H Q E ⟨_, _, _, _, _, h, _⟩ => absurd h (Nat.not_lt_zero _)⟩
  | n + 1 => ok__law_bytes1 T D O1 O2 (ok__law_bytes T D O1 O2 n)
end
end My

set_option Elab.async false
set_option maxRecDepth 100000
set_option maxHeartbeats 4000000
set_option linter.all false
namespace My
open PySem L2 P6
open C8 (pss_cut)
/-- the lists of H are out of sight -/
def exc (H G : Hp) : Hp := fun b => match H b with
  | some (.lst _) => none
  | _ => G b
theorem exc_le {H G : Hp} : Same (exc H G) G := fun b o e => by
  unfold exc at e
  split at e
  · cases e
  · exact e
theorem exc_at {H G : Hp} {b : Addr} (h : H b = none) : exc H G b = G b := by
  unfold exc
  rw [h]
theorem exc_not {H G : Hp} {b : Addr} {o : HO} (e : exc H G b = some o) : ∀ zs, H b ≠ some (.lst zs) := fun zs h => by
  unfold exc at e
  rw [h] at e
  cases e
theorem exc_in {H G : Hp} {b : Addr} {o : HO} (h : ∀ zs, H b ≠ some (.lst zs)) (e : G b = some o) : exc H G b = some o := by
  unfold exc
  split
  · rename_i zs hz
    exact absurd hz (h zs)
  · exact e
theorem exc_mono {H G G' : Hp} (s : Same G G') : Same (exc H G) (exc H G') := fun b o e => exc_in (exc_not e) (s b o (exc_le b o e))
def wpl : Nat → Nat
  | 0 => 150
  | g + 1 => 2 + 3 * wpl g
theorem wpl_ge (g : Nat) : 150 ≤ wpl g := by
  induction g with
  | zero => exact Nat.le_refl _
  | succ g ih => show 150 ≤ 2 + 3 * wpl g; omega
theorem sizeB_len : ∀ (k : Nat) {n : Nat}, n < 128 ^ (k + 1) → (sizeB n).length ≤ k + 1
  | 0, n, h => by
    rw [sizeB_lt (by omega)]
    exact Nat.le_refl _
  | k + 1, n, h => by
    by_cases c : n < 128
    · rw [sizeB_lt c]
      exact Nat.succ_le_succ (Nat.zero_le _)
    · rw [sizeB_ge c, List.length_cons]
      have := sizeB_len k (n := n / 128) (by rw [Nat.pow_succ] at h; omega)
      omega
theorem wt_int {i : Int} (h1 : -(2 ^ 132) ≤ i) (h2 : i ≤ 2 ^ 132) : wt (.int i) ≤ 20 := by
  unfold wt
  have := sizeB_len 18 (n := if 0 ≤ i then i.toNat else (-1 - i).toNat) (by split <;> omega)
  omega
theorem wt_str {x : Str} (h : x.length ≤ 139) : wt (.str x) ≤ 142 := by
  unfold wt
  have := sizeB_len 1 (n := x.length) (by omega)
  omega
theorem at_lt {ns : List Int} {i : Int} (h0 : 0 ≤ i) (h : i < (ns.length : Int)) {B : Int} (hb : ∀ z, z ∈ ns → 0 ≤ z ∧ z ≤ B) : ∃ z : Int, atI (ns.map V.int) i = some (.int z) ∧ 0 ≤ z ∧ z ≤ B := by
  obtain ⟨z, m, e⟩ := atI_get h0 h
  exact ⟨z, e, hb z m⟩
theorem pow_le {t B : Nat} (h : t ≤ B) : (2 : Int) ^ t ≤ 2 ^ B := by
  have : (2 : Nat) ^ t ≤ 2 ^ B := Nat.pow_le_pow_right (by omega) h
  exact_mod_cast this
theorem exc_fresh {H H' : Hp} {d L p : Addr} (s : Same (hide d H) (hide d H')) (D : DrawAt H' d L) (hp : H' p = none) : ∀ zs, H p ≠ some (.lst zs) := fun zs e => by
  have hn := D.ne hp
  have := hide_le _ _ (s _ _ (hide_in e hn.symm))
  rw [hp] at this
  cases this
theorem exc_new {H H' : Hp} {d L p : Addr} {o : HO} (s : Same (hide d H) (hide d H')) (D : DrawAt H' d L) (hp : H' p = none) : exc H (hide d (upd H' p o)) p = some o := exc_in (exc_fresh s D hp) (D.in hp)
def nst : Nat → PyData
  | 0 => .int 5
  | j + 1 => .tuple [nst j]
theorem wt_nst : ∀ j, wt (nst j) = 2 * j + 2
  | 0 => by
    show 1 + (sizeB 5).length = _
    rw [sizeB_lt (by decide)]
    rfl
  | j + 1 => by
    show 1 + ((sizeB 1).length + (wt (nst j) + 0)) = _
    rw [wt_nst j, sizeB_lt (by decide)]
    show 1 + (1 + _) = _
    omega
theorem tx_nst : ∀ j, tx (nst j)
  | 0 => ⟨by decide, by decide⟩
  | j + 1 => ⟨by show 1 ≤ 500; decide, tx_nst j, trivial⟩
theorem vla_app {K : PySem.W.Frag} {H : Hp} : ∀ {vs us : List V} {ds es : List PyData}, VlAll K H vs ds → VlAll K H us es → VlAll K H (vs ++ us) (ds ++ es)
  | _, _, _, _, .nil, h => h
  | _, _, _, _, .cons a b, h => .cons a (vla_app b h)
theorem wts_app : ∀ (a b : List PyData), wts (a ++ b) = wts a + wts b
  | [], b => (Nat.zero_add _).symm
  | x :: r, b => by
    show wt x + wts (r ++ b) = wt x + wts r + wts b
    rw [wts_app r b]
    omega
theorem txs_app : ∀ {a b : List PyData}, txs a → txs b → txs (a ++ b)
  | [], b, _, h => h
  | x :: r, b, h1, h2 => ⟨h1.1, txs_app h1.2 h2⟩
def spPlain (K : PySem.W.Frag) (n : Nat) : Sp := fun vs H Q _ => ∃ (d L : Addr) (g : Nat), vs = [.ref d, .int (g : Int)] ∧ g < n ∧ DrawAt H d L ∧
  ∀ v pd H', DrawAt H' d L → Same (hide d H) (hide d H') → Vl K (exc H (hide d H')) v pd → wt pd ≤ wpl g → tx pd → Q v H'
section
variable {P : Program} {w : World} {K : PySem.W.Frag} {mg : Str → Option Value} {base : Heap} {f : Addr} {fd : FuncData}
theorem ok__law_plain1 {n : Nat} (T : Txt K mg) (D : Def K mg "_law_plain" ["draw", "depth"] s__law_plain f fd) (O1 : Own P w K mg base "_law_take" ["draw", "many"] 1 spTake) (O2 : Own P w K mg base "_law_plain" ["draw", "depth"] (n + 1) (spPlain K n)) :
    Own P w K mg base "_law_plain" ["draw", "depth"] (n + 2) (spPlain K (n + 1)) := by
  obtain ⟨f_law_take, fd_law_take, m_law_take, k_law_take, b_law_take, G_law_take⟩ := O1
  obtain ⟨f_law_plain, fd_law_plain, m_law_plain, k_law_plain, b_law_plain, G_law_plain⟩ := O2
  refine ⟨f, fd, D.mg, D.fn.kp, D.bd, D.fn.ok sc__law_plain (fun vs H Q E h => ?_) (fun cdv A outer s H vs Q E hr h => ?_)⟩
  · obtain ⟨d, L, g, rfl, _⟩ := h
    rfl
  · obtain ⟨d, L, g, rfl, hg, hD, q⟩ := h
    refine ⟨_, (pss_cons (ps_set (i := 2) sc__law_plain.nd rfl (Or.inl rfl) (pe_call G_law_take (hr.mono (by omega)) rfl m_law_take k_law_take b_law_take .nil pass0 (pa_cons (pv 0) (pa_cons pe_int pa_nil))))
      (pss_cons (ps_if (pt_cmpR op_lt (pv 2) pe_int (nomark _)) (pss_one (ps_ret (pe_ix ix_list (pe_lst (pa_cons pe_non (pa_cons pe_bl (pa_cons pe_bl pa_nil)))) (pv 2) (fun _ _ => rfl)))) pss_nil)
      (pss_cons (ps_if (pt_cmpR op_lt (pv 2) pe_int (nomark _)) (pss_cons (ps_set (i := 3) sc__law_plain.nd rfl (Or.inl rfl) (pe_ix ix_list (pe_lst (pa_cons (pe_call G_law_take (hr.mono (by omega)) rfl m_law_take k_law_take b_law_take .nil pass0 (pa_cons (pv 0) (pa_cons pe_int pa_nil))) (pa_cons pe_int (pa_cons pe_int (pa_cons pe_int (pa_cons pe_int (pa_cons (pe_op op_add (pe_op op_shl pe_int (pe_call G_law_take (hr.mono (by omega)) rfl m_law_take k_law_take b_law_take .nil pass0 (pa_cons (pv 0) (pa_cons pe_int pa_nil)))) (pe_call G_law_take (hr.mono (by omega)) rfl m_law_take k_law_take b_law_take .nil pass0 (pa_cons (pv 0) (pa_cons pe_int pa_nil)))) pa_nil))))))) (pe_call G_law_take (hr.mono (by omega)) rfl m_law_take k_law_take b_law_take .nil pass0 (pa_cons (pv 0) (pa_cons pe_int pa_nil))) (fun _ _ => rfl)))
      (pss_one (ps_ret (pe_ix ix_list (pe_lst (pa_cons (pv 3) (pa_cons (pe_op op_sub (pe_un un_neg (pv 3)) pe_int) (pa_cons (pe_un un_neg (pv 3)) pa_nil)))) (pe_call G_law_take (hr.mono (by omega)) rfl m_law_take k_law_take b_law_take .nil pass0 (pa_cons (pv 0) (pa_cons pe_int pa_nil))) (fun _ _ => rfl))))) pss_nil)
      (pss_cons (ps_if (pt_cmpR op_lt (pv 2) pe_int (nomark _)) (pss_one (ps_ret (pe_ix ix_list (pe_lst (pa_cons pe_str (pa_cons pe_str (pa_cons pe_str (pa_cons (pe_op op_mul_x pe_str (pe_call G_law_take (hr.mono (by omega)) rfl m_law_take k_law_take b_law_take .nil pass0 (pa_cons (pv 0) (pa_cons pe_int pa_nil)))) (pa_cons pe_str (pa_cons pe_str (pa_cons pe_str pa_nil)))))))) (pe_call G_law_take (hr.mono (by omega)) rfl m_law_take k_law_take b_law_take .nil pass0 (pa_cons (pv 0) (pa_cons (pe_ix ix_list (pe_lst (pa_cons pe_int (pa_cons pe_int (pa_cons pe_int (pa_cons pe_int pa_nil))))) (pe_call G_law_take (hr.mono (by omega)) rfl m_law_take k_law_take b_law_take .nil pass0 (pa_cons (pv 0) (pa_cons pe_int pa_nil))) (fun _ _ => rfl)) pa_nil))) (fun _ _ => rfl)))) pss_nil)
      (pss_cons (ps_if (pt_cut (PW.pt (pw_and (pt_cmpR op_eq (pv 2) pe_int (nomark _)) (pw_and1 (pt_cmpR op_gt (pv 1) pe_int (nomark _)))))) (pss_cons (ps_set (i := 4) sc__law_plain.nd rfl (Or.inl rfl) pe_int)
      (pss_cons (ps_for PassesOwn.never rfl (pi_range1 (by rfl) T.m_range (pa_cons (pe_ix ix_list (pe_lst (pa_cons pe_int (pa_cons pe_int (pa_cons pe_int (pa_cons pe_int pa_nil))))) (pe_call G_law_take (hr.mono (by omega)) rfl m_law_take k_law_take b_law_take .nil pass0 (pa_cons (pv 0) (pa_cons pe_int pa_nil))) (fun _ _ => rfl)) pa_nil)) (pg_name (i := 5) sc__law_plain.nd rfl (Or.inl rfl)) (pss_one (ps_set (i := 4) sc__law_plain.nd rfl (Or.inl rfl) (pe_tup (pa_cons (pv 4) pa_nil)))))
      (pss_one (ps_ret (pv 4))))) pss_nil)
      (pss_cons (ps_if (pt_cut (PW.pt (pw_and (pt_cmpR op_eq (pv 2) pe_int (nomark _)) (pw_and1 (pt_cmpR op_eq (pe_call G_law_take (hr.mono (by omega)) rfl m_law_take k_law_take b_law_take .nil pass0 (pa_cons (pv 0) (pa_cons pe_int pa_nil))) pe_int (nomark _)))))) (pss_one (ps_ret (pe_ix ix_list (pe_lst (pa_cons (pe_lst (pa_cons pe_int pa_nil)) (pa_cons pe_dnewK pa_nil))) (pe_call G_law_take (hr.mono (by omega)) rfl m_law_take k_law_take b_law_take .nil pass0 (pa_cons (pv 0) (pa_cons pe_int pa_nil))) (fun _ _ => rfl)))) pss_nil)
      (pss_cons (ps_if (pt_cmpR op_lt (pv 1) pe_int (nomark _)) (pss_one (ps_ret (pe_call G_law_take (hr.mono (by omega)) rfl m_law_take k_law_take b_law_take .nil pass0 (pa_cons (pv 0) (pa_cons pe_int pa_nil))))) pss_nil)
      (pss_one (ps_ret (pe_callTy call_tuple_of (by rfl) T.m_tuple (by decide +kernel) (pa_cons (pe_lc (own := [("j", 6)]) (g := gName 6) (tt := tYes) rfl sc__law_plain.nd (pi_range1 (by rfl) T.m_range (pa_cons (pe_call G_law_take (hr.mono (by omega)) rfl m_law_take k_law_take b_law_take .nil pass0 (pa_cons (pv 0) (pa_cons pe_int pa_nil))) pa_nil)) (blkOk_by (N := N__law_plain) (sc := defScope s__law_plain) (own := [("j", 6)]) (by decide +kernel)) (fun _ _ _ _ _ => (pg_name (i := 6) sc__law_plain.nd rfl (Or.inl rfl))) (fun _ _ _ _ _ => pts_nil) (fun _ _ _ _ _ => (pe_call G_law_plain (hr.mono (by omega)) rfl m_law_plain k_law_plain b_law_plain .nil pass0 (pa_cons (pv 0) (pa_cons (pe_op op_sub (pv 1) pe_int) pa_nil))))) pa_nil))))))))))), ?_⟩
    refine ⟨_, rfl, d, L, 12, rfl, by decide, by decide, hD, fun k H1 k0 k1 D1 s1 => ?_⟩
    refine ⟨_, rfl, _, _, rfl, rfl, _, rfl, ite2 (fun c => ?_) (fun c => ?_)⟩
    · have c : k < 3 := of_decide_eq_true c
      refine ⟨by show 3 ≤ sizeLine; decide, fun a1 h1 => ?_⟩
      have hz : ∃ v x, atI [V.non, .bl true, .bl false] k = some v ∧ Vl K (exc H (hide d (upd H1 a1 (.lst [.non, .bl true, .bl false])))) v x ∧ wt x = 1 ∧ tx x := by
        have hk : k = 0 ∨ k = 1 ∨ k = 2 := by omega
        rcases hk with rfl | rfl | rfl
        · exact ⟨_, .none, rfl, .non, rfl, trivial⟩
        · exact ⟨_, .bool true, rfl, .bl _, rfl, trivial⟩
        · exact ⟨_, .bool false, rfl, .bl _, rfl, trivial⟩
      obtain ⟨v, x, e1, e2, e3, e4⟩ := hz
      refine ⟨_, rfl, a1, _, k, v, rfl, rfl, SqL.of upd_same, e1, q v x _ (D1.new h1) (s1.trans (hide_new h1 _)) e2 (by rw [e3]; have := wpl_ge g; omega) e4⟩
    refine ⟨_, rfl, _, _, rfl, rfl, _, rfl, ite2 (fun c => ?_) (fun c => ?_)⟩
    · refine ⟨_, rfl, d, L, 300, rfl, by decide, by decide, D1, fun z1 H2 z10 z11 D2 s2 => ?_⟩
      refine ⟨_, rfl, d, L, 130, rfl, by decide, by decide, D2, fun t H3 t0 t1 D3 s3 => ?_⟩
      refine ⟨_, _, rfl, rfl, ⟨t0, by omega, by decide⟩, _, rfl, d, L, 9, rfl, by decide, by decide, D3, fun z2 H4 z20 z21 D4 s4 => ?_⟩
      refine ⟨_, _, rfl, rfl, by show 6 ≤ sizeLine; decide, fun a1 h1 => ?_⟩
      refine ⟨_, rfl, d, L, 6, rfl, by decide, by decide, D4.new h1, fun i H5 i0 i1 D5 s5 => ?_⟩
      have pt : (2 : Int) ^ t.toNat ≤ 2 ^ 129 := pow_le (by omega)
      have pp : (0 : Int) < 2 ^ t.toNat := Int.pow_pos (by decide)
      obtain ⟨n, en, n0, n1⟩ := at_lt (ns := [z1, 127, 128, 16383, 16384, 1 * 2 ^ t.toNat + z2]) i0 i1 (B := 2 ^ 130) (fun z m => by
        simp only [List.mem_cons, List.mem_nil_iff, or_false] at m
        rcases m with rfl | rfl | rfl | rfl | rfl | rfl <;> omega)
      refine ⟨a1, _, i, _, rfl, rfl, SqL.of (hide_le _ _ (s5 _ _ (D4.in h1))), en, ?_⟩
      refine ⟨_, rfl, _, rfl, _, rfl, _, _, rfl, rfl, _, rfl, _, rfl, by show 3 ≤ sizeLine; decide, fun a2 h2 => ?_⟩
      refine ⟨_, rfl, d, L, 3, rfl, by decide, by decide, D5.new h2, fun j H6 j0 j1 D6 s6 => ?_⟩
      have hv : ∃ z : Int, atI [V.int n, .int (-n - 1), .int (-n)] j = some (.int z) ∧ -(2 ^ 132) ≤ z ∧ z ≤ 2 ^ 132 := by
        have hj : j = 0 ∨ j = 1 ∨ j = 2 := by omega
        rcases hj with rfl | rfl | rfl
        · exact ⟨_, rfl, by omega, by omega⟩
        · exact ⟨_, rfl, by omega, by omega⟩
        · exact ⟨_, rfl, by omega, by omega⟩
      obtain ⟨z, ez, b1, b2⟩ := hv
      have wz := wt_int b1 b2
      refine ⟨a2, _, j, _, rfl, rfl, SqL.of (hide_le _ _ (s6 _ _ (D5.in h2))), ez, q _ (.int z) _ D6 ((((((s1.trans s2).trans s3).trans s4).trans (hide_new h1 _)).trans s5).trans ((hide_new h2 _).trans s6)) (.int z) (by have := wpl_ge g; omega) ⟨b1, b2⟩⟩
    refine ⟨_, rfl, _, _, rfl, rfl, _, rfl, ite2 (fun c => ?_) (fun c => ?_)⟩
    · refine ⟨_, rfl, d, L, 140, rfl, by decide, by decide, D1, fun t H2 t0 t1 D2 s2 => ?_⟩
      refine ⟨"x", t, rfl, rfl, rfl, t0, by omega, by show 7 ≤ sizeLine; decide, fun a1 h1 => ?_⟩
      refine ⟨_, rfl, by show 4 ≤ sizeLine; decide, fun a2 h2 => ?_⟩
      refine ⟨_, rfl, d, L, 4, rfl, by decide, by decide, (D2.new h1).new h2, fun i H3 i0 i1 D3 s3 => ?_⟩
      obtain ⟨m, em, m0, m1⟩ : ∃ m : Int, atI [V.int 5, .int 5, .int 5, .int 7] i = some (.int m) ∧ 0 < m ∧ m ≤ 7 := by
        have hj : i = 0 ∨ i = 1 ∨ i = 2 ∨ i = 3 := by omega
        rcases hj with rfl | rfl | rfl | rfl
        · exact ⟨_, rfl, by omega, by omega⟩
        · exact ⟨_, rfl, by omega, by omega⟩
        · exact ⟨_, rfl, by omega, by omega⟩
        · exact ⟨_, rfl, by omega, by omega⟩
      refine ⟨a2, _, i, _, rfl, rfl, SqL.of (hide_le _ _ (s3 _ _ ((D2.new h1).in h2))), em, d, L, m, rfl, m0, by omega, D3, fun j H4 j0 j1 D4 s4 => ?_⟩
      have hs : ∃ x : Str, atI [V.str "", .str "put", .str "a0_z9", .str (Txt.mul "x" t), .str "_", .str "A", .str "two words"] j = some (.str x) ∧ x.length ≤ 139 ∧ PyData.strOk x = true := by
        have hj : j = 0 ∨ j = 1 ∨ j = 2 ∨ j = 3 ∨ j = 4 ∨ j = 5 ∨ j = 6 := by omega
        rcases hj with rfl | rfl | rfl | rfl | rfl | rfl | rfl
        · exact ⟨_, rfl, by decide, by decide +kernel⟩
        · exact ⟨_, rfl, by decide, by decide +kernel⟩
        · exact ⟨_, rfl, by decide, by decide +kernel⟩
        · exact ⟨_, rfl, (mul_fit (c := 120) (by decide) (by omega)).1, (mul_fit (c := 120) (by decide) (by omega)).2⟩
        · exact ⟨_, rfl, by decide, by decide +kernel⟩
        · exact ⟨_, rfl, by decide, by decide +kernel⟩
        · exact ⟨_, rfl, by decide, by decide +kernel⟩
      obtain ⟨x, ex, x1, x2⟩ := hs
      have wx := wt_str x1
      have g1 := s4 _ _ (s3 _ _ ((hide_new (d := d) h2 (.lst [.int 5, .int 5, .int 5, .int 7])) _ _ (D2.in h1)))
      refine ⟨a1, _, j, _, rfl, rfl, SqL.of (hide_le _ _ g1), ex, q _ (.str x) _ D4 (((((s1.trans s2).trans (hide_new h1 _)).trans (hide_new h2 _)).trans s3).trans s4) (.str x) (by have := wpl_ge g; omega) ⟨by omega, x2⟩⟩
    have s1 : Same (hide d H) (hide d H1) := s1
    refine ⟨fun _ H' => H' = H1, ⟨_, rfl, rfl, _, rfl, ite2 (fun _ => ⟨_, rfl, _, _, rfl, rfl, _, rfl, rfl⟩) (fun _ => rfl)⟩, fun b H' e => ?_⟩
    subst e
    refine ite2 (fun _ => ?_) (fun _ => ?_)
    · refine ⟨by show 4 ≤ sizeLine; decide, fun a1 h1 => ⟨_, rfl, d, L, 4, rfl, by decide, by decide, D1.new h1, fun i H2 i0 i1 D2 s2 => ?_⟩⟩
      obtain ⟨m, em, m1⟩ : ∃ m : Nat, atI [V.int 3, .int 59, .int 60, .int 61] i = some (.int (m : Int)) ∧ m ≤ 61 := by
        have hj : i = 0 ∨ i = 1 ∨ i = 2 ∨ i = 3 := by omega
        rcases hj with rfl | rfl | rfl | rfl
        · exact ⟨3, rfl, by omega⟩
        · exact ⟨59, rfl, by omega⟩
        · exact ⟨60, rfl, by omega⟩
        · exact ⟨61, rfl, by omega⟩
      have s02 := (s1.trans (hide_new h1 _)).trans s2
      refine ⟨a1, _, i, _, rfl, rfl, SqL.of (hide_le _ _ (s2 _ _ (D1.in h1))), em, (m : Int), rfl, by omega, by omega, for_range (lo := 0) (n := m) (fun j σ' H' => ∃ v tp, σ' = [some (.ref d), some (.int (g : Int)), some (.int k), none, some v, tp, none] ∧ Vl K (exc H (hide d H')) v (nst j) ∧ DrawAt H' d L ∧ Same (hide d H) (hide d H')) ⟨.int 5, none, rfl, .int 5, D2, s02⟩ ?_ ?_⟩
      · rintro j σ' H' hj ⟨v, tp, rfl, a1, a2, a3⟩
        refine ⟨_, rfl, by show 1 ≤ sizeLine; decide, fun p hp => ?_⟩
        exact ⟨_, _, rfl, .tup (.inl (.inl (exc_new a3 a2 hp))) (.cons (vl_mono (exc_mono (hide_new hp _)) _ a1) .nil), a2.new hp, a3.trans (hide_new hp _)⟩
      · rintro σ' H' ⟨v, tp, rfl, a1, a2, a3⟩
        exact ⟨_, rfl, q v (nst m) H' a2 a3 a1 (by rw [wt_nst]; have := wpl_ge g; omega) (tx_nst m)⟩
    refine ⟨fun _ H' => DrawAt H' d L ∧ Same (hide d H) (hide d H'), ⟨_, rfl, rfl, _, rfl, ite2 (fun _ => ⟨_, rfl, d, L, 6, rfl, by decide, by decide, D1, fun z H2 _ _ D2 s2 => ⟨rfl, _, rfl, D2, s1.trans s2⟩⟩) (fun _ => ⟨D1, s1⟩)⟩, ?_⟩
    rintro b H2 ⟨D2, s2⟩
    refine ite2 (fun _ => ?_) (fun _ => ?_)
    · refine ⟨by show 1 ≤ sizeLine; decide, fun a1 h1 a2 h2 => ⟨by show 2 ≤ sizeLine; decide, fun a3 h3 => ⟨_, rfl, d, L, 2, rfl, by decide, by decide, ((D2.new h1).new h2).new h3, fun i H4 i0 i1 D4 s4 => ?_⟩⟩⟩
      have g3 := s4 _ _ (((D2.new h1).new h2).in (o := .lst [.ref a1, .ref a2]) h3)
      have t1 := hide_new (d := d) h1 (.lst [.int 1])
      have t2 := hide_new (d := d) h2 (.dK [])
      have t3 := hide_new (d := d) h3 (.lst [.ref a1, .ref a2])
      have f1 := exc_fresh s2 D2 h1
      have f2 := exc_fresh (s2.trans t1) (D2.new h1) h2
      have g1 := exc_in f1 (s4 _ _ (t3 _ _ (t2 _ _ (D2.in h1))))
      have g2 := exc_in f2 (s4 _ _ (t3 _ _ ((D2.new h1).in h2)))
      have hi : i = 0 ∨ i = 1 := by omega
      rcases hi with rfl | rfl
      · exact ⟨a3, _, 0, _, rfl, rfl, SqL.of (hide_le _ _ g3), rfl, q _ (.list [.int 1]) _ D4 ((((s2.trans t1).trans t2).trans t3).trans s4) (.lst (SqL.of g1) (.cons (.int 1) .nil)) (Nat.zero_le _) ⟨⟨by decide, by decide⟩, trivial⟩⟩
      · exact ⟨a3, _, 1, _, rfl, rfl, SqL.of (hide_le _ _ g3), rfl, q _ (.dict []) _ D4 ((((s2.trans t1).trans t2).trans t3).trans s4) (.dct g2) (Nat.zero_le _) trivial⟩
    refine ⟨_, rfl, _, _, rfl, rfl, _, rfl, ite2 (fun c => ?_) (fun c => ?_)⟩
    · refine ⟨_, rfl, d, L, 10, rfl, by decide, by decide, D2, fun z H3 z0 z1 D3 s3 => ?_⟩
      have b1 : -(2 ^ 132) ≤ z := by omega
      have b2 : z ≤ 2 ^ 132 := by omega
      exact q _ (.int z) _ D3 (s2.trans s3) (.int z) (by have := wt_int b1 b2; have := wpl_ge g; omega) ⟨b1, b2⟩
    have c : ¬ (g : Int) < 1 := fun h => c (decide_eq_true h)
    obtain ⟨g', rfl⟩ : ∃ g', g = g' + 1 := ⟨g - 1, by omega⟩
    refine ⟨_, rfl, d, L, 4, rfl, by decide, by decide, D2, fun m H3 m0 m1 D3 s3 => ?_⟩
    have s03 := s2.trans s3
    refine ⟨m, rfl, by omega, by omega, fun D hDn => lc_range (lo := 0) (n := m.toNat) (fun i H' => ∃ (ds : List PyData) (us : List V), H' D = some (.lst us) ∧ VlAll K (exc H (hide D (hide d H'))) us ds ∧ DrawAt H' d L ∧ Same (hide d H) (hide d H') ∧ wts ds ≤ i * wpl g' ∧ txs ds ∧ ds.length = i ∧ i ≤ 3)
      ⟨[], [], upd_same, .nil, D3.new hDn, s03.trans (hide_new hDn _), Nat.zero_le _, trivial, rfl, Nat.zero_le _⟩ ?_ ?_⟩
    · rintro i H' hi ⟨ds, us, b1, b2, b3, b4, b5, b6, b7, b8⟩
      refine ⟨rfl, yes2 ?_⟩
      refine ⟨_, rfl, _, rfl, _, _, rfl, rfl, d, L, g', by show [V.ref d, V.int (((g' + 1 : Nat) : Int) - 1)] = _; rw [show ((g' + 1 : Nat) : Int) - 1 = (g' : Int) from by omega], by omega, b3, fun v pd H'' D'' s'' vl hw ht => ?_⟩
      have nd : d ≠ D := D3.ne hDn
      have nL : L ≠ D := D3.neL hDn
      have bD : H'' D = some (.lst us) := hide_le _ _ (s'' _ _ (hide_in b1 nd.symm))
      have hul : us.length = i := by rw [vla_len b2, b7]
      refine ⟨us, bD, small1000 (by omega), ds ++ [pd], us ++ [v], upd_same, ?_, D''.put _ nd nL, ?_, ?_, txs_app b6 ⟨ht, trivial⟩, by rw [List.length_append, b7]; rfl, by omega⟩
      · have k1 : Same (hide D (hide d H')) (hide D (hide d (upd H'' D (.lst (us ++ [v]))))) := fun b o e => by
          obtain ⟨x1, x2⟩ := hide_some e
          obtain ⟨x3, x4⟩ := hide_some (s'' _ _ x2)
          rw [hide_ne x1, hide_ne x3, upd_ne x1]
          exact x4
        refine vla_app (vla_mono (exc_mono k1) _ b2) (.cons (vl_mono (fun b o e => ?_) _ vl) .nil)
        have y1 := exc_not e
        obtain ⟨y2, y3⟩ := hide_some (exc_le _ _ e)
        have y4 : b ≠ D := fun h => y1 us (by rw [h]; exact b1)
        refine exc_in (fun zs h => y1 zs (hide_le _ _ (b4 _ _ (hide_in h y2)))) ?_
        rw [hide_ne y4, hide_ne y2, upd_ne y4]
        exact y3
      · intro b o e
        have y5 : b ≠ D := fun h => by
          obtain ⟨x1, x2⟩ := hide_some e
          obtain ⟨x3, x4⟩ := hide_some (s03 _ _ e)
          rw [h, hDn] at x4
          cases x4
        obtain ⟨x3, x4⟩ := hide_some (s'' _ _ (b4 _ _ e))
        rw [hide_ne x3, upd_ne y5]
        exact x4
      · rw [wts_app, Nat.succ_mul]
        show wts ds + (wt pd + 0) ≤ _
        omega
    · rintro H' ⟨ds, us, b1, b2, b3, b4, b5, b6, b7, b8⟩
      refine ⟨D, us, rfl, .inl ⟨SqL.of b1, fun p hp => ?_⟩⟩
      have hs : sizeB ds.length = [ds.length] := sizeB_lt (by omega)
      refine q (.ref p) (.tuple ds) _ (b3.new hp) (b4.trans (hide_new hp _)) (.tup (.inl (.inl (exc_new b4 b3 hp))) (vla_mono (exc_mono (fun b o e => ?_)) _ b2)) ?_ ⟨by omega, b6⟩
      · exact hide_new hp _ _ _ (hide_le _ _ e)
      · unfold wt
        rw [hs]
        show 1 + (1 + wts ds) ≤ 2 + 3 * wpl g'
        have : wts ds ≤ 3 * wpl g' := Nat.le_trans b5 (Nat.mul_le_mul_right _ (by omega))
        omega
theorem ok__law_plain (T : Txt K mg) (D : Def K mg "_law_plain" ["draw", "depth"] s__law_plain f fd) (O1 : Own P w K mg base "_law_take" ["draw", "many"] 1 spTake) : ∀ n, Own P w K mg base "_law_plain" ["draw", "depth"] (n + 1) (spPlain K n)
  | 0 => ⟨f, fd, D.mg, D.fn.kp, D.bd, fn_never fun vs H Q E ⟨_, _, _, _, h, _⟩ => absurd h (Nat.not_lt_zero _)⟩
  | n + 1 => ok__law_plain1 T D O1 (ok__law_plain T D O1 n)
end
end My

set_option Elab.async false
set_option maxRecDepth 100000
set_option maxHeartbeats 4000000
set_option linter.all false
namespace My
open PySem L2
section
variable {M : Model} {A : Around} {E : Value → Shared → Prop} {s : Shared}
theorem sub_flag {b : Bool} {Q : Option Int → Shared → Prop} (h : Q (some (if b = true then 1 else 0)) s) : wpAny M A (Builtin.List.listSubscript? (.bool b)) Q E s := by
  unfold Builtin.List.listSubscript?
  refine wpAny_bind (wpAny_specialOf (T := "bool") (name := Str.ofString "__index__") (typeIs_bool s b) PySem.F.slot_bool_index.lookup ?_)
  refine wpAny_bind (wpAny_of_eq (a := if b = true then 1 else 0) (by cases b <;> rfl) ?_)
  show wpAny M A (if (!Builtin.List.listFitsIndex (if b = true then 1 else 0)) = true then _ else _) Q E s
  rw [if_neg (by cases b <;> decide)]
  exact wpAny_pure h
end
section
variable {prog : Program} {w : World} {A : Around} {E : Value → Shared → Prop} {s : Shared}
theorem item_flag {l : Addr} {items : Array Value} {b : Bool} {x : Value} {Q : Value → Shared → Prop} (hl : s.heap.IsList l items) (hx : items[if b = true then 1 else 0]? = some x) (h : Q x s) :
    wpAny (model prog w) A (getItem (.ref l) (.bool b)) Q E s := by
  obtain ⟨o, ho, hc, ne, hd⟩ := id hl
  unfold getItem
  try with_reducible refine wpAny_holding ?_
  first | refine wpAny_bind (wpAny_pure ?_) | skip
  refine wpAny_bind (wpAny_sequenceKey hl.typeIs (by decide) ?_)
  refine wpAny_bind (wpAny_callSpecial?_slot (name := Str.ofString "__getitem__") hl.typeIs slot_list_getitem
    (wpAny_call_entry slot_list_getitem hl.typeIs entry_list_getitem ?_ (args_list_getitem _ _)))
  show wpAny _ _ (Builtin.List.listSubscript? (.bool b) >>= _) _ _ s
  refine wpAny_bind (sub_flag ?_)
  cases b with
  | false =>
    show wpAny _ _ ((seqItemAt l 0 >>= fun r => pure (r.map (0, ·))) >>= _) _ _ s
    refine wpAny_bind (wpAny_bind (wpAny_seqItemAt ho hd (wpAny_pure ?_)))
    have hx : items[0]? = some x := hx
    rw [hx]
    first
      | exact wpAny_bind (wpAny_pure (wpAny_pure ⟨x, rfl, wpAny_pure h⟩))
      | exact wpAny_pure ⟨x, rfl, wpAny_pure h⟩
  | true =>
    show wpAny _ _ ((seqItemAt l 1 >>= fun r => pure (r.map (1, ·))) >>= _) _ _ s
    refine wpAny_bind (wpAny_bind (wpAny_seqItemAt ho hd (wpAny_pure ?_)))
    have hx : items[1]? = some x := hx
    rw [hx]
    first
      | exact wpAny_bind (wpAny_pure (wpAny_pure ⟨x, rfl, wpAny_pure h⟩))
      | exact wpAny_pure ⟨x, rfl, wpAny_pure h⟩
end
/-- one of two, by a truth value -/
def rIxB (K : PySem.W.Frag) : R2 := fun x y H Q => ∃ p u v b, x = .ref p ∧ y = .bl b ∧ SqL K H p [u, v] ∧ Q (if b = true then v else u) H
theorem ix_flag {X : Cx} : IxR X (rIxB X.K) := by
  intro value slice pins s σ H x y v u Q I rx ry h hs
  obtain ⟨p, z0, z1, b, rfl, rfl, hq, q⟩ := h
  cases rx
  cases ry
  obtain ⟨its, r, pl, hz⟩ := I.list hq
  obtain ⟨w0, e0, r0⟩ := r.get (i := 0) rfl
  obtain ⟨w1, e1, r1⟩ := r.get (i := 1) rfl
  cases b with
  | false => exact PyProof.Rows.subscriptTail_builtinR (x := w0) pl.isList.typeIs slot_list_getitem.lookup (item_flag (Q := fun r s' => r = w0 ∧ EP X pins σ Q r s') pl.isList (by simpa using e0) ⟨rfl, z0, H, I, r0, q⟩) hs
  | true => exact PyProof.Rows.subscriptTail_builtinR (x := w1) pl.isList.typeIs slot_list_getitem.lookup (item_flag (Q := fun r s' => r = w1 ∧ EP X pins σ Q r s') pl.isList (by simpa using e1) ⟨rfl, z1, H, I, r1, q⟩) hs
end My

set_option Elab.async false
set_option maxRecDepth 100000
set_option maxHeartbeats 4000000
set_option linter.all false
namespace My
open PySem L2 P6
open C8 (pss_cut)
theorem dsz_le : ∀ {l : List Nat} {i : Nat} {fst : Bool} {n j : Nat}, dsz l i fst = .ok n j → j ≤ i + l.length
  | [], i, fst, n, j, h => by cases h
  | b :: r, i, fst, n, j, h => by
    unfold dsz at h
    rw [List.length_cons]
    split at h
    · obtain ⟨a, h1, _⟩ := map_ok h
      have := dsz_le h1
      omega
    · split at h
      · cases h
      · cases h
        omega
theorem dsz_leD {bs : List Nat} {i n j : Nat} {fst : Bool} (hi : i ≤ bs.length) (h : dsz (bs.drop i) i fst = .ok n j) : j ≤ bs.length := by
  have := dsz_le h
  rw [List.length_drop] at this
  omega
theorem dch_le {bs : List Nat} {i a j : Nat} (h : dch bs i = .ok a j) : j ≤ bs.length := by
  unfold dch at h
  split at h
  · cases h
  · rename_i b hb
    have := (List.getElem?_eq_some_iff.mp hb).1
    split at h
    · cases h
      omega
    · cases h
theorem rep_top {α : Type} {f : Nat → Rs α} {N : Nat} (hf : ∀ i a j, f i = .ok a j → j ≤ N) : ∀ {n i : Nat} {as : List α} {j : Nat}, i ≤ N → rep f n i = .ok as j → j ≤ N
  | 0, i, as, j, hi, h => by
    cases h
    exact hi
  | n + 1, i, as, j, hi, h => by
    obtain ⟨a, j1, h1, h2⟩ := thn_ok h
    obtain ⟨as', h3, _⟩ := map_ok h2
    exact rep_top hf (hf _ _ _ h1) h3
theorem dvalF_le {bs : List Nat} {sub : Option (Nat → Rs PyData)} (hs : ∀ f, sub = some f → ∀ i a j, f i = .ok a j → j ≤ bs.length) {i : Nat} {d : PyData} {j : Nat} (h : dvalF bs sub i = .ok d j) : j ≤ bs.length := by
  unfold dvalF at h
  split at h
  · cases h
  · rename_i b hb
    have hi := (List.getElem?_eq_some_iff.mp hb).1
    split at h
    · cases h; omega
    · split at h
      · cases h; omega
      · split at h
        · cases h; omega
        · split at h
          · obtain ⟨a, h1, _⟩ := map_ok h
            exact dsz_leD (by omega) h1
          · split at h
            · obtain ⟨a, h1, _⟩ := map_ok h
              exact dsz_leD (by omega) h1
            · split at h
              · obtain ⟨a, j1, h1, h2⟩ := thn_ok h
                obtain ⟨a', h3, _⟩ := map_ok h2
                exact rep_top (fun _ _ _ h => dch_le h) (dsz_leD (by omega) h1) h3
              · split at h
                · split at h
                  · cases h
                  · rename_i f
                    obtain ⟨a, j1, h1, h2⟩ := thn_ok h
                    obtain ⟨a', h3, _⟩ := map_ok h2
                    exact rep_top (hs f rfl) (dsz_leD (by omega) h1) h3
                · cases h
theorem dval_le {bs : List Nat} : ∀ {k i : Nat} {d : PyData} {j : Nat}, dval bs k i = .ok d j → j ≤ bs.length
  | 0, i, d, j, h => dvalF_le (sub := none) (fun f e => by cases e) h
  | k + 1, i, d, j, h => dvalF_le (sub := some (dval bs k)) (fun f e i a j h => by cases e; exact dval_le h) h
theorem rep_map {α β : Type} (f : Nat → Rs α) (g : α → β) : ∀ n i, rep (fun i => (f i).map g) n i = (rep f n i).map (List.map g)
  | 0, i => rfl
  | n + 1, i => by
    show ((f i).map g).thn _ = ((f i).thn _).map _
    cases f i with
    | bad e => rfl
    | ok a j =>
      show (rep (fun i => (f i).map g) n j).map _ = ((rep f n j).map _).map _
      rw [rep_map f g n j, map_map, map_map]
      rfl
theorem noLsts_snoc : ∀ {ds : List PyData} {a : PyData}, noLsts ds = true → noLst a = true → noLsts (ds ++ [a]) = true
  | [], a, _, h => by
    show (noLst a && true) = true
    rw [h]
    rfl
  | d :: r, a, h1, h2 => by
    have h1 : (noLst d && noLsts r) = true := h1
    rw [Bool.and_eq_true] at h1
    show (noLst d && noLsts (r ++ [a])) = true
    rw [h1.1, noLsts_snoc h1.2 h2]
    rfl
theorem dpa_sgns {K : PySem.W.Frag} {H : Hp} : ∀ {us : List V} {cs : List Nat}, DpAll K H us (cs.map sgnD) → us = cs.map sgn
  | [], [], _ => rfl
  | _ :: _, [], h => by cases h
  | [], _ :: _, h => by cases h
  | u :: us, c :: cs, h => by
    cases h with
    | cons a b =>
      cases a
      rw [dpa_sgns b]
      rfl
/-- what stands in a tuple of three: the value, what is behind it, where it is wrong -/
def tri {α : Type} (H : Hp) (p : Addr) (r : Rs α) (rel : Hp → V → α → Prop) : Prop := match r with
  | .ok a j => ∃ v, H p = some (.tup [v, .int (j : Int), .int (-1)]) ∧ rel H v a
  | .bad e => ∃ v, H p = some (.tup [v, .int 0, .int (e : Int)])
def trn (H : Hp) (p : Addr) (r : Rs Nat) : Prop := match r with
  | .ok a j => H p = some (.tup [.int (a : Int), .int (j : Int), .int (-1)])
  | .bad e => H p = some (.tup [.int 0, .int 0, .int (e : Int)])
def spLNum : Sp := fun vs H Q _ => ∃ (D : Addr) (bs : List Nat) (i : Nat), vs = [.ref D, .int (i : Int)] ∧ H D = some (.lst (nB bs)) ∧ BsOk bs ∧ i ≤ bs.length ∧
  ∀ H' p, Same H H' → trn H' p (dsz (bs.drop i) i true) → Q (.ref p) H'
def spLRead (K : PySem.W.Frag) (n : Nat) : Sp := fun vs H Q _ => ∃ (D : Addr) (bs : List Nat) (i k g : Nat), vs = [.ref D, .int (i : Int), .int (g : Int)] ∧ k < n ∧ k + g = 60 ∧ H D = some (.lst (nB bs)) ∧ BsOk bs ∧ i ≤ bs.length ∧
  ∀ H' p, Same H H' → tri H' p (dval bs k i) (fun H' v d => Dp K H' v d ∧ noLst d = true) → Q (.ref p) H'
section
variable {P : Program} {w : World} {K : PySem.W.Frag} {mg : Str → Option Value} {base : Heap} {f : Addr} {fd : FuncData}
theorem ok__law_number (T : Txt K mg) (D : Def K mg "_law_number" ["data", "at"] s__law_number f fd) :
    Own P w K mg base "_law_number" ["data", "at"] 1 spLNum := by
  refine ⟨f, fd, D.mg, D.fn.kp, D.bd, D.fn.ok sc__law_number (fun vs H Q E h => ?_) (fun cdv A outer s H vs Q E hr h => ?_)⟩
  · obtain ⟨_, _, _, rfl, _⟩ := h
    rfl
  · obtain ⟨L, bs, i, rfl, hL, hB, hi, q⟩ := h
    refine ⟨_, (pss_cons (ps_set (i := 2) sc__law_number.nd rfl (Or.inl rfl) pe_int)
      (pss_cons (ps_set (i := 3) sc__law_number.nd rfl (Or.inl rfl) pe_int)
      (pss_one (ps_while PassesOwn.never (pt_val pe_bl) (pss_cons (ps_if (pt_cmpR op_ge (pe_op op_add (pv 1) (pv 3)) (pe_callB call_len_seq (by rfl) T.m_len (by decide +kernel) (pa_cons (pv 0) pa_nil)) (nomark _)) (pss_one (ps_ret (pe_tup (pa_cons pe_int (pa_cons pe_int (pa_cons (pe_callB call_len_seq (by rfl) T.m_len (by decide +kernel) (pa_cons (pv 0) pa_nil)) pa_nil)))))) pss_nil)
      (pss_cons (ps_set (i := 2) sc__law_number.nd rfl (Or.inl rfl) (pe_op op_add (pv 2) (pe_op op_mul (pe_op op_mod (pe_callTy call_int1 (by rfl) T.m_int (by decide +kernel) (pa_cons (pe_ix ix_seq (pv 0) (pe_op op_add (pv 1) (pv 3)) (fun _ _ => rfl)) pa_nil)) pe_int) (pe_op op_shl pe_int (pe_op op_mul pe_int (pv 3))))))
      (pss_cons (ps_if (pt_cmpR op_lt (pe_ix ix_seq (pv 0) (pe_op op_add (pv 1) (pv 3)) (fun _ _ => rfl)) pe_int (nomark _)) (pss_cons (ps_if (PW.pt (pw_and (pt_cmpR op_eq (pe_ix ix_seq (pv 0) (pe_op op_add (pv 1) (pv 3)) (fun _ _ => rfl)) pe_int (nomark _)) (pw_and1 (pt_cmpR op_gt (pv 3) pe_int (nomark _))))) (pss_one (ps_ret (pe_tup (pa_cons pe_int (pa_cons pe_int (pa_cons (pe_op op_add (pv 1) (pv 3)) pa_nil)))))) pss_nil)
      (pss_one (ps_ret (pe_tup (pa_cons (pv 2) (pa_cons (pe_op op_add (pe_op op_add (pv 1) (pv 3)) pe_int) (pa_cons (pe_un un_neg pe_int) pa_nil))))))) pss_nil)
      (pss_one (ps_set (i := 3) sc__law_number.nd rfl (Or.inl rfl) (pe_op op_add (pv 3) pe_int)))))))))), ?_⟩
    refine ⟨fun m σ' H' => ∃ n s : Nat, σ' = [some (.ref L), some (.int (i : Int)), some (.int (n : Int)), some (.int (s : Int))] ∧ H' = H ∧ dsz (bs.drop i) i true = (dsz (bs.drop (i + s)) (i + s) (decide (s = 0))).map (fun z => n + 2 ^ (7 * s) * z) ∧ i + s ≤ bs.length ∧ m = bs.length - (i + s), ⟨bs.length - i, 0, 0, rfl, rfl, ?_, hi, rfl⟩, ?_⟩
    · have : (fun z => 0 + 2 ^ (7 * 0) * z) = fun z : Nat => z := funext fun z => by omega
      rw [this]
      show _ = Rs.map _ (dsz (bs.drop i) i true)
      cases dsz (bs.drop i) i true <;> rfl
    rintro m σ' H2 ⟨n, s, rfl, e2, er, hs, rfl⟩
    subst e2
    have lB := hB.len
    have eis : (i : Int) + (s : Int) = ((i + s : Nat) : Int) := by omega
    refine ⟨true, rfl, ite2 (fun _ => ?_) (fun c => absurd rfl c)⟩
    refine ⟨fun σ' H' => ∃ n' : Nat, i + s < bs.length ∧ σ' = [some (.ref L), some (.int (i : Int)), some (.int (n' : Int)), some (.int ((s + 1 : Nat) : Int))] ∧ H' = H2 ∧ dsz (bs.drop i) i true = (dsz (bs.drop (i + (s + 1))) (i + (s + 1)) (decide (s + 1 = 0))).map (fun z => n' + 2 ^ (7 * (s + 1)) * z), fun σ' H' ⟨n', a1, a2, a3, a4⟩ => ⟨bs.length - (i + (s + 1)), by omega, n', s + 1, a2, a3, a4, by omega, rfl⟩, ?_⟩
    refine ⟨_, rfl, _, rfl, _, _, rfl, rfl, _, rfl, L, _, rfl, .inl (SqL.of hL), _, _, rfl, rfl, _, rfl, ite2 (fun c => ?_) (fun c => ?_)⟩
    · have c : (((nB bs).length : Nat) : Int) ≤ (i : Int) + (s : Int) := of_decide_eq_true c
      rw [nB_len] at c
      have ei : i + s = bs.length := by omega
      refine ⟨_, rfl, L, _, rfl, .inl (SqL.of hL), by show 3 ≤ sizeLine; decide, fun p hp => ?_⟩
      refine q _ p (same_new hp _) ?_
      rw [er, ei, List.drop_length]
      show upd H2 p _ p = _
      rw [nB_len]
      exact upd_same
    have c : ¬ (((nB bs).length : Nat) : Int) ≤ (i : Int) + (s : Int) := fun h => c (decide_eq_true h)
    rw [nB_len] at c
    have hlt : i + s < bs.length := by omega
    obtain ⟨d, hd⟩ : ∃ d, bs[i + s]? = some d := ⟨_, List.getElem?_eq_getElem hlt⟩
    have d255 := hB.byte d (List.mem_of_getElem? hd)
    have hix : atI (nB bs) ((i : Int) + (s : Int)) = some (.int (d : Int)) := by
      rw [eis]
      exact atI_nat (nB_at hd)
    have ev : (n : Int) + (d : Int) % 128 * (1 * 2 ^ ((7 : Int) * (s : Int)).toNat) = ((n + 2 ^ (7 * s) * (d % 128) : Nat) : Int) := by
      rw [show ((7 : Int) * (s : Int)).toNat = 7 * s by omega, Int.one_mul]
      push_cast
      rw [Int.mul_comm]
    refine ⟨_, rfl, _, rfl, _, rfl, _, rfl, _, _, rfl, rfl, .inl ⟨L, _, _, _, rfl, rfl, SqL.of hL, hix, ?_⟩⟩
    refine .inl ⟨_, rfl, _, _, rfl, rfl, by show (0 : Int) < 128; decide, ?_⟩
    refine ⟨_, rfl, _, _, rfl, rfl, .inl ⟨by decide, by decide⟩, _, _, rfl, rfl, ⟨by omega, by omega, by decide⟩, _, _, rfl, rfl, .inl ⟨by omega, by omega⟩, _, _, rfl, rfl, ?_⟩
    show tSeq _ _ _ [some (.ref L), some (.int (i : Int)), some (.int ((n : Int) + (d : Int) % 128 * (1 * 2 ^ ((7 : Int) * (s : Int)).toNat))), some (.int (s : Int))] H2
    rw [ev]
    refine ⟨_, rfl, _, rfl, _, rfl, _, _, rfl, rfl, .inl ⟨L, _, _, _, rfl, rfl, SqL.of hL, hix, _, _, rfl, rfl, _, rfl, ite2 (fun c1 => ?_) (fun c1 => ?_)⟩⟩
    · have c1 : (d : Int) < 128 := of_decide_eq_true c1
      rw [dsz_last hd (by omega)] at er
      have md : d % 128 = d := by omega
      refine ⟨_, rfl, _, rfl, _, rfl, _, _, rfl, rfl, .inl ⟨L, _, _, _, rfl, rfl, SqL.of hL, hix, rfl, _, rfl, ite2 (fun c2 => ?_) (fun c2 => ?_)⟩⟩
      · have d0 : d = 0 := by have := inteq c2; omega
        refine ⟨_, rfl, _, _, rfl, rfl, _, rfl, ite2 (fun c3 => ?_) (fun c3 => ?_)⟩
        · have c3 : (0 : Int) < (s : Int) := of_decide_eq_true c3
          rw [if_pos ⟨d0, decide_eq_false (by omega)⟩] at er
          refine ⟨_, rfl, _, rfl, _, _, rfl, rfl, by show 3 ≤ sizeLine; decide, fun p hp => q _ p (same_new hp _) ?_⟩
          rw [er]
          exact upd_same.trans (by show some (HO.tup [_, _, V.int ((i : Int) + (s : Int))]) = _; rw [eis])
        · have c3 : ¬ (0 : Int) < (s : Int) := fun h => c3 (decide_eq_true h)
          rw [if_neg (fun h => absurd h.2 (by rw [decide_eq_true (by omega : s = 0)]; decide))] at er
          refine ⟨_, rfl, _, rfl, _, rfl, _, _, rfl, rfl, _, _, rfl, rfl, 1, rfl, by show 3 ≤ sizeLine; decide, fun p hp => q _ p (same_new hp _) ?_⟩
          rw [er, md]
          show upd H2 p _ p = _
          rw [eis]
          exact upd_same
      · have d0 : ¬ d = 0 := fun e => c2 (by rw [e]; exact decide_eq_true rfl)
        rw [if_neg (fun h => d0 h.1)] at er
        refine ite2 (fun c => absurd c Bool.false_ne_true) (fun _ => ?_)
        refine ⟨_, rfl, _, rfl, _, rfl, _, _, rfl, rfl, _, _, rfl, rfl, 1, rfl, by show 3 ≤ sizeLine; decide, fun p hp => q _ p (same_new hp _) ?_⟩
        rw [er, md]
        show upd H2 p _ p = _
        rw [eis]
        exact upd_same
    · have c1 : ¬ (d : Int) < 128 := fun h => c1 (decide_eq_true h)
      rw [dsz_more hd (by omega), map_map] at er
      refine ⟨_, rfl, _, _, rfl, rfl, n + 2 ^ (7 * s) * (d % 128), hlt, rfl, rfl, ?_⟩
      rw [er, decide_eq_false (Nat.succ_ne_zero s)]
      congr 1
      funext z
      rw [show 7 * (s + 1) = 7 * s + 7 by omega, Nat.pow_add, Nat.mul_add, Nat.add_assoc, Nat.mul_assoc, show d % 128 = d - 128 by omega]
theorem ok__law_read1 {n : Nat} (T : Txt K mg) (D : Def K mg "_law_read" ["data", "at", "depth"] s__law_read f fd) (O1 : Own P w K mg base "_law_signs" [] 1 spLSigns) (O2 : Own P w K mg base "_law_number" ["data", "at"] 1 spLNum) (O3 : Own P w K mg base "_law_read" ["data", "at", "depth"] (n + 1) (spLRead K n)) :
    Own P w K mg base "_law_read" ["data", "at", "depth"] (n + 2) (spLRead K (n + 1)) := by
  obtain ⟨f_law_signs, fd_law_signs, m_law_signs, k_law_signs, b_law_signs, G_law_signs⟩ := O1
  obtain ⟨f_law_number, fd_law_number, m_law_number, k_law_number, b_law_number, G_law_number⟩ := O2
  obtain ⟨f_law_read, fd_law_read, m_law_read, k_law_read, b_law_read, G_law_read⟩ := O3
  refine ⟨f, fd, D.mg, D.fn.kp, D.bd, D.fn.ok sc__law_read (fun vs H Q E h => ?_) (fun cdv A outer s H vs Q E hr h => ?_)⟩
  · obtain ⟨_, _, _, _, _, rfl, _⟩ := h
    rfl
  · obtain ⟨L, bs, i, k, g, rfl, hk, kg, hL, hB, hi, q⟩ := h
    refine ⟨_, (pss_cons (ps_if (pt_cmpR op_ge (pv 1) (pe_callB call_len_seq (by rfl) T.m_len (by decide +kernel) (pa_cons (pv 0) pa_nil)) (nomark _)) (pss_one (ps_ret (pe_tup (pa_cons pe_non (pa_cons pe_int (pa_cons (pe_callB call_len_seq (by rfl) T.m_len (by decide +kernel) (pa_cons (pv 0) pa_nil)) pa_nil)))))) pss_nil)
      (pss_cons (ps_set (i := 3) sc__law_read.nd rfl (Or.inl rfl) (pe_ix ix_seq (pv 0) (pv 1) (fun _ _ => rfl)))
      (pss_cons (ps_if (pt_cut (PW.pt (pw_or (pt_cmpR op_gt (pv 3) pe_int (nomark _)) (pw_or1 (PW.pt (pw_and (pt_cmpR op_eq (pv 3) pe_int (nomark _)) (pw_and1 (pt_cmpR op_eq (pv 2) pe_int (nomark _))))))))) (pss_one (ps_ret (pe_tup (pa_cons pe_non (pa_cons pe_int (pa_cons (pv 1) pa_nil)))))) pss_nil)
      (pss_cons (ps_if (pt_cmpR op_lt (pv 3) pe_int (nomark _)) (pss_one (ps_ret (pe_tup (pa_cons (pe_ix ix_list (pe_lst (pa_cons pe_non (pa_cons pe_bl (pa_cons pe_bl pa_nil)))) (pv 3) (fun _ _ => rfl)) (pa_cons (pe_op op_add (pv 1) pe_int) (pa_cons (pe_un un_neg pe_int) pa_nil)))))) pss_nil)
      (pss_cons (ps_asg (pe_call G_law_number (hr.mono (by omega)) rfl m_law_number k_law_number b_law_number .nil pass0 (pa_cons (pv 0) (pa_cons (pe_op op_add (pv 1) pe_int) pa_nil))) (pg_tup (by rfl) (pgs_cons (pg_name (i := 4) sc__law_read.nd rfl (Or.inl rfl)) (pgs_cons (pg_name (i := 5) sc__law_read.nd rfl (Or.inl rfl)) (pgs_cons (pg_name (i := 6) sc__law_read.nd rfl (Or.inl rfl)) pgs_nil)))))
      (pss_cons (ps_if (pt_cut (PW.pt (pw_or (pt_cmpR op_ge (pv 6) pe_int (nomark _)) (pw_or1 (pt_cmpR op_lt (pv 3) pe_int (nomark _)))))) (pss_one (ps_ret (pe_tup (pa_cons (pe_ix ix_flag (pe_lst (pa_cons (pv 4) (pa_cons (pe_op op_sub (pe_un un_neg pe_int) (pv 4)) pa_nil))) (pe_cmpR op_eq (pv 3) pe_int (nomark _)) (fun _ _ => rfl)) (pa_cons (pv 5) (pa_cons (pv 6) pa_nil)))))) pss_nil)
      (pss_cons (ps_set (i := 7) sc__law_read.nd rfl (Or.inl rfl) (pe_lst pa_nil))
      (pss_cons (ps_while PassesOwn.never (pt_cmpR op_lt (pe_callB call_len_seq (by rfl) T.m_len (by decide +kernel) (pa_cons (pv 7) pa_nil)) (pv 4) (nomark _)) (pss_cut (ps_if (pt_cmpR op_eq (pv 3) pe_int (nomark _)) (pss_one (ps_asg (pe_call G_law_read (hr.mono (by omega)) rfl m_law_read k_law_read b_law_read .nil pass0 (pa_cons (pv 0) (pa_cons (pv 5) (pa_cons (pe_op op_add (pv 2) pe_int) pa_nil)))) (pg_tup (by rfl) (pgs_cons (pg_name (i := 8) sc__law_read.nd rfl (Or.inl rfl)) (pgs_cons (pg_name (i := 5) sc__law_read.nd rfl (Or.inl rfl)) (pgs_cons (pg_name (i := 6) sc__law_read.nd rfl (Or.inl rfl)) pgs_nil)))))) (pss_one (ps_if (pt_cmpR op_ge (pv 5) (pe_callB call_len_seq (by rfl) T.m_len (by decide +kernel) (pa_cons (pv 0) pa_nil)) (nomark _)) (pss_one (ps_set (i := 6) sc__law_read.nd rfl (Or.inl rfl) (pe_callB call_len_seq (by rfl) T.m_len (by decide +kernel) (pa_cons (pv 0) pa_nil)))) (pss_one (ps_if (pt_cmpR op_ge (pe_ix ix_seq (pv 0) (pv 5) (fun _ _ => rfl)) pe_int (nomark _)) (pss_one (ps_set (i := 6) sc__law_read.nd rfl (Or.inl rfl) (pv 5))) (pss_cons (ps_set (i := 8) sc__law_read.nd rfl (Or.inl rfl) (pe_ix ix_str (pe_call0 G_law_signs (hr.mono (by omega)) (by rfl) m_law_signs k_law_signs b_law_signs .nil pass0) (pe_ix ix_seq (pv 0) (pv 5) (fun _ _ => rfl)) (fun _ _ => rfl)))
      (pss_one (ps_set (i := 5) sc__law_read.nd rfl (Or.inl rfl) (pe_op op_add (pv 5) pe_int)))))))))
      (pss_cons (ps_if (pt_cmpR op_ge (pv 6) pe_int (nomark _)) (pss_one (ps_ret (pe_tup (pa_cons pe_non (pa_cons pe_int (pa_cons (pv 6) pa_nil)))))) pss_nil)
      (pss_one (ps_expr (pe_bm PySem.F.plainAttrs_list PySem.F.slot_list_append PySem.F.type_list_append mt_append (pv 7) (pa_cons (pv 8) pa_nil)))))))
      (pss_one (ps_ret (pe_tup (pa_cons (pe_ifExp (pt_cmpR op_eq (pv 3) pe_int (nomark _)) (pe_join pe_str (pv 7)) (pe_callTy call_tuple_of (by rfl) T.m_tuple (by decide +kernel) (pa_cons (pv 7) pa_nil))) (pa_cons (pv 5) (pa_cons (pe_un un_neg pe_int) pa_nil)))))))))))))), ?_⟩
    have lB := hB.len
    obtain ⟨sub, e1, es1, es0⟩ := dval_unf bs k
    refine ⟨_, rfl, _, rfl, L, _, rfl, .inl (SqL.of hL), _, _, rfl, rfl, _, rfl, ite2 (fun c => ?_) (fun c => ?_)⟩
    · have c : (((nB bs).length : Nat) : Int) ≤ (i : Int) := of_decide_eq_true c
      rw [nB_len] at c
      obtain rfl : i = bs.length := by omega
      refine ⟨_, rfl, L, _, rfl, .inl (SqL.of hL), by show 3 ≤ sizeLine; decide, fun p hp => q _ p (same_new hp _) ?_⟩
      have : dval bs k bs.length = .bad bs.length := by
        rw [e1]
        unfold dvalF
        rw [List.getElem?_eq_none (Nat.le_refl _)]
      rw [this]
      refine ⟨.non, ?_⟩
      rw [nB_len]
      exact upd_same
    have c : ¬ (((nB bs).length : Nat) : Int) ≤ (i : Int) := fun h => c (decide_eq_true h)
    rw [nB_len] at c
    have hlt : i < bs.length := by omega
    obtain ⟨b, hb⟩ : ∃ b, bs[i]? = some b := ⟨_, List.getElem?_eq_getElem hlt⟩
    have hv : dval bs k i = dvalF bs sub i := by rw [e1]
    unfold dvalF at hv
    rw [hb] at hv
    simp only at hv
    refine ⟨_, rfl, _, rfl, .inl ⟨L, _, _, _, rfl, rfl, SqL.of hL, atI_nat (nB_at hb), ?_⟩⟩
    refine ⟨fun c H' => H' = H ∧ (c = true ↔ (6 < b ∨ (b = 6 ∧ g = 60))), ?_, ?_⟩
    · refine ⟨_, rfl, _, _, rfl, rfl, _, rfl, ite2 (fun c => ⟨rfl, ⟨fun _ => .inl ?_, fun _ => rfl⟩⟩) (fun c => ⟨_, rfl, rfl, _, rfl, ite2 (fun c2 => ⟨_, rfl, rfl, _, rfl, rfl, ⟨fun h => .inr ⟨?_, ?_⟩, fun h => ?_⟩⟩) (fun c2 => ⟨rfl, ⟨fun h => absurd h Bool.false_ne_true, fun h => ?_⟩⟩)⟩)⟩
      · have c : (6 : Int) < (b : Int) := of_decide_eq_true c
        omega
      · have := inteq c2
        omega
      · have := inteq h
        omega
      · rcases h with h | ⟨_, h⟩
        · exact absurd (decide_eq_true (by omega : (6 : Int) < (b : Int))) c
        · rw [h]
          exact decide_eq_true rfl
      · rcases h with h | ⟨h, _⟩
        · exact absurd (decide_eq_true (by omega : (6 : Int) < (b : Int))) c
        · exact absurd (by rw [h]; exact decide_eq_true rfl) c2
    rintro c0 H2 ⟨e2, hc⟩
    subst e2
    refine ite2 (fun c => ?_) (fun c0' => ?_)
    · refine ⟨_, rfl, by show 3 ≤ sizeLine; decide, fun p hp => q _ p (same_new hp _) ?_⟩
      have : dval bs k i = .bad i := by
        rw [hv]
        rcases hc.mp c with h | ⟨h, hg⟩
        · rw [if_neg (by omega : ¬ b = 0), if_neg (by omega : ¬ b = 1), if_neg (by omega : ¬ b = 2), if_neg (by omega : ¬ b = 3), if_neg (by omega : ¬ b = 4), if_neg (by omega : ¬ b = 5), if_neg (by omega : ¬ b = 6)]
        · subst h
          rw [es0 (by omega)]
          rfl
      rw [this]
      exact ⟨.non, upd_same⟩
    have n6 : ¬ 6 < b := fun h => c0' (hc.mpr (.inl h))
    have nk : b = 6 → ∃ k', k = k' + 1 := fun h => ⟨k - 1, by
      have : ¬ g = 60 := fun hg => c0' (hc.mpr (.inr ⟨h, hg⟩))
      omega⟩
    refine ⟨_, rfl, _, _, rfl, rfl, _, rfl, ite2 (fun c => ?_) (fun c => ?_)⟩
    · have c : (b : Int) < 3 := of_decide_eq_true c
      have hz : ∃ v x, atI [V.non, .bl false, .bl true] (b : Int) = some v ∧ (∀ H', Dp K H' v x) ∧ noLst x = true ∧ dval bs k i = .ok x (i + 1) := by
        have h3 : b = 0 ∨ b = 1 ∨ b = 2 := by omega
        rcases h3 with rfl | rfl | rfl
        · exact ⟨_, .none, rfl, fun _ => .non, rfl, hv⟩
        · exact ⟨_, .bool false, rfl, fun _ => .bl _, rfl, hv⟩
        · exact ⟨_, .bool true, rfl, fun _ => .bl _, rfl, hv⟩
      obtain ⟨v, x, z1, z2, z3, z4⟩ := hz
      refine ⟨by show 3 ≤ sizeLine; decide, fun a1 h1 => ⟨_, rfl, a1, _, (b : Int), v, rfl, rfl, SqL.of upd_same, z1, _, rfl, _, _, rfl, rfl, 1, rfl, by show 3 ≤ sizeLine; decide, fun p hp => q _ p ((same_new h1 _).trans (same_new hp _)) ?_⟩⟩
      rw [z4]
      exact ⟨v, upd_same, z2 _, z3⟩
    have c : ¬ (b : Int) < 3 := fun h => c (decide_eq_true h)
    have hb4 : b = 3 ∨ b = 4 ∨ b = 5 ∨ b = 6 := by omega
    refine ⟨_, rfl, _, rfl, _, _, rfl, rfl, L, bs, i + 1, rfl, hL, hB, by omega, fun H1 p s1 ht => ?_⟩
    cases hr : dsz (bs.drop (i + 1)) (i + 1) true with
    | bad e =>
      rw [hr] at ht
      have ht : H1 p = some (.tup [.int 0, .int 0, .int (e : Int)]) := ht
      refine ⟨p, _, rfl, .inl (.inl ht), rfl, _, _, rfl, _, _, rfl, _, _, rfl, rfl, ?_⟩
      refine ⟨fun c H' => H' = H1 ∧ c = true, ⟨_, rfl, _, _, rfl, rfl, _, rfl, ite2 (fun _ => ⟨rfl, rfl⟩) (fun c => absurd (decide_eq_true (Int.natCast_nonneg e)) c)⟩, ?_⟩
      rintro c H3 ⟨e3, rfl⟩
      subst e3
      refine ite2 (fun _ => ?_) (fun c => absurd rfl c)
      refine ⟨_, rfl, 1, rfl, _, rfl, _, _, rfl, rfl, by show 2 ≤ sizeLine; decide, fun a1 h1 => ?_⟩
      refine ⟨_, rfl, rfl, a1, _, _, _, rfl, rfl, SqL.of upd_same, _, rfl, _, rfl, by show 3 ≤ sizeLine; decide, fun p2 h2 => q _ p2 ((s1.trans (same_new h1 _)).trans (same_new h2 _)) ?_⟩
      have : dval bs k i = .bad e := by
        rw [hv, hr]
        rcases hb4 with rfl | rfl | rfl | rfl
        · rfl
        · rfl
        · rfl
        · obtain ⟨k', hk'⟩ := nk rfl
          rw [es1 k' hk']
          rfl
      rw [this]
      exact ⟨_, upd_same⟩
    | ok m j =>
      rw [hr] at ht
      have ht : H1 p = some (.tup [.int (m : Int), .int (j : Int), .int (-1)]) := ht
      have hj : j ≤ bs.length := dsz_leD (by omega) hr
      refine ⟨p, _, rfl, .inl (.inl ht), rfl, _, _, rfl, _, _, rfl, _, _, rfl, rfl, ?_⟩
      refine ⟨fun c H' => H' = H1 ∧ (c = true ↔ b < 5), ⟨_, rfl, _, _, rfl, rfl, _, rfl, ite2 (fun c => absurd (of_decide_eq_true c : (0 : Int) ≤ -1) (by decide)) (fun _ => ⟨_, rfl, _, _, rfl, rfl, _, rfl, rfl, ⟨fun h => by have : (b : Int) < 5 := of_decide_eq_true h; omega, fun h => decide_eq_true (by omega)⟩⟩)⟩, ?_⟩
      rintro c1 H3 ⟨e3, hc1⟩
      subst e3
      refine ite2 (fun c => ?_) (fun c => ?_)
      · refine ⟨_, rfl, 1, rfl, _, rfl, _, _, rfl, rfl, by show 2 ≤ sizeLine; decide, fun a1 h1 => ?_⟩
        refine ⟨_, rfl, rfl, a1, _, _, _, rfl, rfl, SqL.of upd_same, _, rfl, _, rfl, by show 3 ≤ sizeLine; decide, fun p2 h2 => q _ p2 ((s1.trans (same_new h1 _)).trans (same_new h2 _)) ?_⟩
        have b5 := hc1.mp c
        have h34 : b = 3 ∨ b = 4 := by omega
        rw [hv, hr]
        rcases h34 with rfl | rfl
        · exact ⟨_, upd_same, .int _, rfl⟩
        · exact ⟨_, upd_same, .int _, rfl⟩
      have b5 : ¬ b < 5 := fun h => c (hc1.mpr h)
      obtain ⟨f, hf6, hf5⟩ : ∃ f : Nat → Rs PyData, (∀ k', b = 6 → k = k' + 1 → f = dval bs k') ∧ (b = 5 → f = fun i => (dch bs i).map sgnD) := by
        by_cases h : b = 6
        · obtain ⟨k', hk'⟩ := nk h
          exact ⟨dval bs k', fun k2 _ h2 => by rw [show k2 = k' by omega], fun h2 => by omega⟩
        · exact ⟨_, fun _ h2 => absurd h2 h, fun _ => rfl⟩
      have hok : ∀ ds j', rep f m j = .ok ds j' → (b = 6 → dval bs k i = .ok (.tuple ds) j') ∧ (b = 5 → ∃ cs : List Nat, ds = cs.map sgnD ∧ dval bs k i = .ok (.str ⟨cs.toArray⟩) j') := by
        intro ds j' h
        refine ⟨fun e => ?_, fun e => ?_⟩
        · obtain ⟨k', hk'⟩ := nk e
          subst e
          rw [hf6 k' rfl hk'] at h
          rw [hv, hr, es1 k' hk']
          show (rep (dval bs k') m j).map PyData.tuple = _
          rw [h]
          rfl
        · subst e
          rw [hf5 rfl, rep_map] at h
          obtain ⟨cs, h1, h2⟩ := map_ok h
          refine ⟨cs, h2.symm, ?_⟩
          rw [hv, hr]
          show (rep (dch bs) m j).map (fun cs => PyData.str ⟨cs.toArray⟩) = _
          rw [h1]
          rfl
      have hbd : ∀ e, rep f m j = .bad e → dval bs k i = .bad e := by
        intro e h
        have h56 : b = 5 ∨ b = 6 := by omega
        rcases h56 with e5 | e6
        · subst e5
          rw [hf5 rfl, rep_map] at h
          rw [hv, hr]
          show (rep (dch bs) m j).map (fun cs => PyData.str ⟨cs.toArray⟩) = _
          cases h1 : rep (dch bs) m j with
          | ok a x =>
            rw [h1] at h
            cases h
          | bad e' =>
            rw [h1] at h
            cases h
            rfl
        · obtain ⟨k', hk'⟩ := nk e6
          subst e6
          rw [hf6 k' rfl hk'] at h
          rw [hv, hr, es1 k' hk']
          show (rep (dval bs k') m j).map PyData.tuple = _
          rw [h]
          rfl
      have hfl : ∀ i a j, f i = .ok a j → i < j ∧ j ≤ bs.length := by
        intro i a j h
        have h56 : b = 5 ∨ b = 6 := by omega
        rcases h56 with e5 | e6
        · rw [hf5 e5] at h
          obtain ⟨cs, h1, h2⟩ := map_ok h
          exact ⟨dch_lt h1, dch_le h1⟩
        · obtain ⟨k', hk'⟩ := nk e6
          rw [hf6 k' e6 hk'] at h
          exact ⟨(dval_lt h).1, dval_le h⟩
      have hL3 := s1 _ _ hL
      refine ⟨Nat.zero_le _, fun Pl hPl => ?_⟩
      refine ⟨fun mm σ' H' => ∃ us ds jj v8, σ' = [some (.ref L), some (.int (i : Int)), some (.int (g : Int)), some (.int (b : Int)), some (.int (m : Int)), some (.int ((jj : Nat) : Int)), some (.int (-1)), some (.ref Pl), v8] ∧ H' Pl = some (.lst us) ∧ DpAll K (hide Pl H') us ds ∧ noLsts ds = true ∧ Same H3 H' ∧ jj ≤ bs.length ∧ ds.length ≤ jj ∧ ds.length ≤ m ∧ rep f m j = (rep f (m - ds.length) jj).map (fun r => ds ++ r) ∧ mm = bs.length - jj,
        ⟨bs.length - j, [], [], j, none, rfl, upd_same, .nil, rfl, same_new hPl _, hj, Nat.zero_le _, Nat.zero_le _, ?_, rfl⟩, ?_⟩
      · show rep f m j = (rep f m j).map _
        cases rep f m j <;> rfl
      rintro mm σ' H4 ⟨us, ds, jj, v8, rfl, b1, b2, b3, b4, b5', b6, b7, b8, rfl⟩
      have ul : us.length = ds.length := dpa_len b2
      refine ⟨_, rfl, Pl, us, rfl, .inl (SqL.of b1), _, rfl, _, _, rfl, rfl, _, rfl, ite2 (fun c => ?_) (fun c => ?_)⟩
      · have c : ((us.length : Nat) : Int) < (m : Int) := of_decide_eq_true c
        have hL4 := b4 _ _ hL3
        refine ⟨fun σ' H' => ∃ us ds jj' v8, jj < jj' ∧ σ' = [some (.ref L), some (.int (i : Int)), some (.int (g : Int)), some (.int (b : Int)), some (.int (m : Int)), some (.int ((jj' : Nat) : Int)), some (.int (-1)), some (.ref Pl), v8] ∧ H' Pl = some (.lst us) ∧ DpAll K (hide Pl H') us ds ∧ noLsts ds = true ∧ Same H3 H' ∧ jj' ≤ bs.length ∧ ds.length ≤ jj' ∧ ds.length ≤ m ∧ rep f m j = (rep f (m - ds.length) jj').map (fun r => ds ++ r),
          fun σ' H' ⟨us, ds, jj', v8, a0, a1, a2, a3, a4, a5, a6, a7, a8, a9⟩ => ⟨bs.length - jj', by omega, us, ds, jj', v8, a1, a2, a3, a4, a5, a6, a7, a8, a9, rfl⟩, ?_⟩
        refine ⟨fun σ' H' => Same H4 H' ∧ ((∃ (a : PyData) (j' : Nat) (v : V), f jj = .ok a j' ∧ σ' = [some (.ref L), some (.int (i : Int)), some (.int (g : Int)), some (.int (b : Int)), some (.int (m : Int)), some (.int ((j' : Nat) : Int)), some (.int (-1)), some (.ref Pl), some v] ∧ Dp K (hide Pl H') v a ∧ noLst a = true) ∨
          (∃ (e : Nat) (x5 x8 : Option V), f jj = .bad e ∧ σ' = [some (.ref L), some (.int (i : Int)), some (.int (g : Int)), some (.int (b : Int)), some (.int (m : Int)), x5, some (.int (e : Int)), some (.ref Pl), x8])), ?_, ?_⟩
        · refine ⟨_, rfl, rfl, _, rfl, ite2 (fun c6 => ?_) (fun c6 => ?_)⟩
          · have e6 : b = 6 := by have := inteq c6; omega
            obtain ⟨k', hk'⟩ := nk e6
            have ef := hf6 k' e6 hk'
            refine ⟨_, rfl, _, rfl, _, rfl, _, _, rfl, rfl, L, bs, jj, k', g + 1, rfl, by omega, by omega, hL4, hB, b5', fun H5 p5 s5 h5 => ?_⟩
            cases hd : dval bs k' jj with
            | ok a j' =>
              rw [hd] at h5
              obtain ⟨v, h5, h6, h7⟩ := h5
              exact ⟨p5, _, rfl, .inl (.inl h5), rfl, _, _, rfl, _, _, rfl, _, _, rfl, rfl, s5, .inl ⟨a, j', v, by rw [ef]; exact hd, rfl, dp_hide (s5 _ _ b1) a h7 h6, h7⟩⟩
            | bad e =>
              rw [hd] at h5
              obtain ⟨v, h5⟩ := h5
              exact ⟨p5, _, rfl, .inl (.inl h5), rfl, _, _, rfl, _, _, rfl, _, _, rfl, rfl, s5, .inr ⟨e, _, _, by rw [ef]; exact hd, rfl⟩⟩
          · have e5 : b = 5 := by
              have : ¬ b = 6 := fun h => c6 (by rw [h]; exact decide_eq_true rfl)
              omega
            have ef := hf5 e5
            refine ⟨_, rfl, _, rfl, L, _, rfl, .inl (SqL.of hL4), _, _, rfl, rfl, _, rfl, ite2 (fun cl => ?_) (fun cl => ?_)⟩
            · have cl : (((nB bs).length : Nat) : Int) ≤ (jj : Int) := of_decide_eq_true cl
              rw [nB_len] at cl
              refine ⟨_, rfl, L, _, rfl, .inl (SqL.of hL4), Same.refl _, .inr ⟨bs.length, _, _, ?_, by rw [← nB_len bs] <;> rfl⟩⟩
              rw [ef]
              show (dch bs jj).map _ = _
              unfold dch
              rw [List.getElem?_eq_none (by omega), show jj = bs.length by omega]
              rfl
            · have cl : ¬ (((nB bs).length : Nat) : Int) ≤ (jj : Int) := fun h => cl (decide_eq_true h)
              rw [nB_len] at cl
              have hlt2 : jj < bs.length := by omega
              obtain ⟨d, hd⟩ : ∃ d, bs[jj]? = some d := ⟨_, List.getElem?_eq_getElem hlt2⟩
              refine ⟨_, rfl, _, rfl, .inl ⟨L, _, _, _, rfl, rfl, SqL.of hL4, atI_nat (nB_at hd), _, _, rfl, rfl, _, rfl, ite2 (fun cd => ?_) (fun cd => ?_)⟩⟩
              · have cd : (37 : Int) ≤ (d : Int) := of_decide_eq_true cd
                refine ⟨_, rfl, Same.refl _, .inr ⟨jj, _, _, ?_, rfl⟩⟩
                rw [ef]
                show (dch bs jj).map _ = _
                unfold dch
                rw [hd]
                show (if d < 37 then _ else _ : Rs Nat).map _ = _
                rw [if_neg (by omega)]
                rfl
              · have cd : ¬ (37 : Int) ≤ (d : Int) := fun h => cd (decide_eq_true h)
                refine ⟨rfl, _, rfl, _, rfl, .inl ⟨L, _, _, _, rfl, rfl, SqL.of hL4, atI_nat (nB_at hd), charS, (d : Int), chAt d, rfl, rfl, by rw [charS_len]; decide, atI_nat (chars_at d (by omega)), ?_⟩⟩
                refine ⟨_, rfl, _, _, rfl, rfl, Same.refl _, .inl ⟨sgnD (chAt d), jj + 1, _, ?_, rfl, .str _, rfl⟩⟩
                rw [ef]
                show (dch bs jj).map _ = _
                unfold dch
                rw [hd]
                show (if d < 37 then _ else _ : Rs Nat).map _ = _
                rw [if_pos (by omega)]
                rfl
        · rintro σ' H5 ⟨s5, h⟩
          have hrep : m - ds.length = m - (ds.length + 1) + 1 := by omega
          rw [hrep] at b8
          rcases h with ⟨a, j', v, ef, rfl, hd, hn⟩ | ⟨e, x5, x8, ef, rfl⟩
          · obtain ⟨l1, l2⟩ := hfl _ _ _ ef
            refine ⟨_, rfl, _, _, rfl, rfl, _, rfl, ite2 (fun c => absurd (of_decide_eq_true c : (0 : Int) ≤ -1) (by decide)) (fun _ => ?_)⟩
            refine ⟨_, rfl, .inl ⟨rfl, _, SqL.of (s5 _ _ b1)⟩, _, rfl, Pl, _, _, rfl, rfl, s5 _ _ b1, sz5' (by omega), ?_⟩
            refine ⟨us ++ [v], ds ++ [a], j', some v, l1, rfl, upd_same, dpa_app (dpa_mono ((hide_same s5).trans (hide_put _)) _ b2) (dpa_one (dp_mono (hide_put _) _ hd)), noLsts_snoc b3 hn, fun b o hb => by rw [upd_ne (ne_of_none hb hPl)]; exact s5 _ _ (b4 _ _ hb), l2, by rw [List.length_append]; show ds.length + 1 ≤ j'; omega, by rw [List.length_append]; show ds.length + 1 ≤ m; omega, ?_⟩
            rw [b8, List.length_append]
            show ((f jj).thn _).map _ = _
            rw [ef]
            show ((rep f (m - (ds.length + 1)) j').map _).map _ = _
            rw [map_map]
            congr 1
            funext r
            rw [List.append_assoc]
            rfl
          · refine ⟨_, rfl, _, _, rfl, rfl, _, rfl, ite2 (fun _ => ?_) (fun c => absurd (decide_eq_true (Int.natCast_nonneg e)) c)⟩
            refine ⟨_, rfl, by show 3 ≤ sizeLine; decide, fun p5 h5 => q _ p5 (((s1.trans b4).trans s5).trans (same_new h5 _)) ?_⟩
            have : rep f m j = .bad e := by
              rw [b8]
              show ((f jj).thn _).map _ = _
              rw [ef]
              rfl
            rw [hbd e this]
            exact ⟨.non, upd_same⟩
      · have c : ¬ ((us.length : Nat) : Int) < (m : Int) := fun h => c (decide_eq_true h)
        have em : m - ds.length = 0 := by omega
        rw [em] at b8
        have b8 : rep f m j = .ok ds jj := by
          rw [b8]
          show Rs.ok (ds ++ []) jj = _
          rw [List.append_nil]
        obtain ⟨k6, k5⟩ := hok _ _ b8
        refine ⟨_, rfl, rfl, _, rfl, ite2 (fun c5 => ?_) (fun c5 => ?_)⟩
        · have e5 : b = 5 := by have := inteq c5; omega
          obtain ⟨cs, rfl, hdv⟩ := k5 e5
          have eu := dpa_sgns b2
          have cl : cs.length = us.length := by rw [eu, List.length_map]
          refine ⟨⟨_, rfl⟩, _, rfl, "", Pl, cs.map (fun c => (⟨#[c]⟩ : Str)), rfl, rfl, .inl (SqL.of (by rw [b1, eu, List.map_map]; rfl)), ?_, _, rfl, 1, rfl, by show 3 ≤ sizeLine; decide, fun p5 h5 => q _ p5 ((s1.trans b4).trans (same_new h5 _)) ?_⟩
          · rw [sum_chars, List.length_map]
            show cs.length + cs.length * 0 ≤ _
            omega
          · rw [hdv, join_chars]
            exact ⟨_, upd_same, .str _, rfl⟩
        · have e6 : b = 6 := by
            have : ¬ b = 5 := fun h => c5 (by rw [h]; exact decide_eq_true rfl)
            omega
          refine ⟨_, rfl, Pl, us, rfl, .inl ⟨SqL.of b1, fun l hl => ⟨_, rfl, 1, rfl, by show 3 ≤ sizeLine; decide, fun p5 h5 => q _ p5 (((s1.trans b4).trans (same_new hl _)).trans (same_new h5 _)) ?_⟩⟩⟩
          rw [k6 e6]
          exact ⟨_, upd_same, .tup (.inl (.inl (same_new h5 _ _ _ upd_same))) (dpa_mono ((hide_le.trans (same_new hl _)).trans (same_new h5 _)) _ b2), b3⟩
end
end My

set_option Elab.async false
set_option maxRecDepth 100000
set_option maxHeartbeats 4000000
set_option linter.all false
namespace My
open PySem L2 P6
open C8 (pss_cut)
/-- what is told of a reading -/
def told : Rs PyData → PyData
  | .ok d _ => .tuple [.str "value", d]
  | .bad e => .tuple [.str "at", .int (e : Int)]
def spTold (K : PySem.W.Frag) : Sp := fun vs H Q _ => ∃ (D : Addr) (bs : List Nat), vs = [.ref D] ∧ H D = some (.lst (nB bs)) ∧ BsOk bs ∧ ∀ v H', Same H H' → Dp K H' v (told (dun bs)) → Q v H'
theorem call_list_ofK {X : Cx} {K : PySem.W.Frag} (h : X.K = K) : CallR X (.type "list") (fun xs H Q => ∃ p ys, xs = [.ref p] ∧ (SqL K H p ys ∨ SqT K H p ys) ∧ ∀ l, H l = none → Q (.ref l) (upd H l (.lst ys))) := h ▸ call_list_of
/-- an error that is caught, its field read -/
structure Cat (K : PySem.W.Frag) (C : Addr) (fld : Str) : Prop where
  xf : XfC K C
  no : PySem.W.findIn K (.ref C) fld = some none
  yes : PySem.W.exmOne K (.ref C) (.ref C) = some true
section
variable {P : Program} {w : World} {K : PySem.W.Frag} {mg : Str → Option Value} {base : Heap} {f : Addr} {fd : FuncData} {C : Addr} {k : Nat}
theorem ok__law_read (T : Txt K mg) (D : Def K mg "_law_read" ["data", "at", "depth"] s__law_read f fd) (O1 : Own P w K mg base "_law_signs" [] 1 spLSigns) (O2 : Own P w K mg base "_law_number" ["data", "at"] 1 spLNum) : ∀ n, Own P w K mg base "_law_read" ["data", "at", "depth"] (n + 1) (spLRead K n)
  | 0 => ⟨f, fd, D.mg, D.fn.kp, D.bd, fn_never fun vs H Q E ⟨_, _, _, _, _, _, h, _⟩ => absurd h (Nat.not_lt_zero _)⟩
  | n + 1 => ok__law_read1 T D O1 O2 (ok__law_read T D O1 O2 n)
theorem ok__law_due (T : Txt K mg) (D : Def K mg "_law_due" ["data"] s__law_due f fd) (O1 : Own P w K mg base "_law_read" ["data", "at", "depth"] 62 (spLRead K 61)) :
    Own P w K mg base "_law_due" ["data"] 63 (spTold K) := by
  obtain ⟨f_law_read, fd_law_read, m_law_read, k_law_read, b_law_read, G_law_read⟩ := O1
  refine ⟨f, fd, D.mg, D.fn.kp, D.bd, D.fn.ok sc__law_due (fun vs H Q E h => ?_) (fun cdv A outer s H vs Q E hr h => ?_)⟩
  · obtain ⟨_, _, rfl, _⟩ := h
    rfl
  · obtain ⟨L, bs, rfl, hL, hB, q⟩ := h
    refine ⟨_, (pss_cons (ps_asg (pe_call G_law_read (hr.mono (by omega)) rfl m_law_read k_law_read b_law_read .nil pass0 (pa_cons (pv 0) (pa_cons pe_int (pa_cons pe_int pa_nil)))) (pg_tup (by rfl) (pgs_cons (pg_name (i := 1) sc__law_due.nd rfl (Or.inl rfl)) (pgs_cons (pg_name (i := 2) sc__law_due.nd rfl (Or.inl rfl)) (pgs_cons (pg_name (i := 3) sc__law_due.nd rfl (Or.inl rfl)) pgs_nil)))))
      (pss_cons (ps_if (pt_cmpR op_ge (pv 3) pe_int (nomark _)) (pss_one (ps_ret (pe_tup (pa_cons pe_str (pa_cons (pv 3) pa_nil))))) pss_nil)
      (pss_cons (ps_if (pt_cmpR op_lt (pv 2) (pe_callB call_len_seq (by rfl) T.m_len (by decide +kernel) (pa_cons (pv 0) pa_nil)) (nomark _)) (pss_one (ps_ret (pe_tup (pa_cons pe_str (pa_cons (pv 2) pa_nil))))) pss_nil)
      (pss_one (ps_ret (pe_tup (pa_cons pe_str (pa_cons (pv 1) pa_nil)))))))), ?_⟩
    refine ⟨_, rfl, L, bs, 0, 60, 0, rfl, by decide, by decide, hL, hB, Nat.zero_le _, fun H1 p s1 h1 => ?_⟩
    cases hd : dval bs 60 0 with
    | bad e =>
      rw [hd] at h1
      obtain ⟨v, h1⟩ := h1
      refine ⟨p, _, rfl, .inl (.inl h1), rfl, _, _, rfl, _, _, rfl, _, _, rfl, rfl, ?_⟩
      refine ⟨_, rfl, _, _, rfl, rfl, _, rfl, ite2 (fun _ => ?_) (fun c => absurd (decide_eq_true (Int.natCast_nonneg e)) c)⟩
      refine ⟨_, rfl, by show 2 ≤ sizeLine; decide, fun p2 h2 => q _ _ (s1.trans (same_new h2 _)) ?_⟩
      have : dun bs = .bad e := by
        unfold dun
        rw [hd]
        rfl
      rw [this]
      exact .tup (.inl (.inl upd_same)) (.cons (.str _) (.cons (.int _) .nil))
    | ok d j =>
      rw [hd] at h1
      obtain ⟨v, h1, hv, hn⟩ := h1
      have hj := dval_le hd
      refine ⟨p, _, rfl, .inl (.inl h1), rfl, _, _, rfl, _, _, rfl, _, _, rfl, rfl, ?_⟩
      refine ⟨_, rfl, _, _, rfl, rfl, _, rfl, ite2 (fun c => absurd (of_decide_eq_true c : (0 : Int) ≤ -1) (by decide)) (fun _ => ?_)⟩
      refine ⟨_, rfl, _, rfl, L, _, rfl, .inl (SqL.of (s1 _ _ hL)), _, _, rfl, rfl, _, rfl, ite2 (fun c => ?_) (fun c => ?_)⟩
      · have c : (j : Int) < (((nB bs).length : Nat) : Int) := of_decide_eq_true c
        rw [nB_len] at c
        refine ⟨_, rfl, by show 2 ≤ sizeLine; decide, fun p2 h2 => q _ _ (s1.trans (same_new h2 _)) ?_⟩
        have : dun bs = .bad j := by
          unfold dun
          rw [hd]
          exact if_pos (by omega)
        rw [this]
        exact .tup (.inl (.inl upd_same)) (.cons (.str _) (.cons (.int _) .nil))
      · have c : ¬ (j : Int) < (((nB bs).length : Nat) : Int) := fun h => c (decide_eq_true h)
        rw [nB_len] at c
        refine ⟨_, rfl, by show 2 ≤ sizeLine; decide, fun p2 h2 => q _ _ (s1.trans (same_new h2 _)) ?_⟩
        have : dun bs = .ok d j := by
          unfold dun
          rw [hd]
          exact if_neg (by omega)
        rw [this]
        exact .tup (.inl (.inl upd_same)) (.cons (.str _) (.cons (dp_mono (same_new h2 _) _ hv) .nil))
theorem ok__law_told (T : Txt K mg) (ER : Err P w K mg base "PackError" "at" "at" C k) (CT : Cat K C "at") (D : Def K mg "_law_told" ["data"] s__law_told f fd) (O1 : OwnX P w K mg base "unpack" ["data"] (k + 67) (spUnpack K C)) :
    Own P w K mg base "_law_told" ["data"] (k + 68) (spTold K) := by
  obtain ⟨funpack, fdunpack, munpack, kunpack, bunpack, Gunpack⟩ := O1
  have mPackError := ER.gl
  have XFPackError := CT.xf
  have noPackError := CT.no
  refine ⟨f, fd, D.mg, D.fn.kp, D.bd, D.fn.ok sc__law_told (fun vs H Q E h => ?_) (fun cdv A outer s H vs Q E hr h => ?_)⟩
  · obtain ⟨_, _, rfl, _⟩ := h
    rfl
  · obtain ⟨L, bs, rfl, hL, hB, q⟩ := h
    refine ⟨_, (pss_one (ps_try_as (i := 1) rfl rfl sc__law_told.nd rfl rfl ⟨rfl, by decide, .inl mPackError⟩ takes0 (fun W pn xe tk _ => (pss_one (ps_ret (pe_tup (pa_cons pe_str (pa_cons (pe_callS Gunpack (hr.mono (by omega)) rfl munpack kunpack bunpack (fun σ => passAt tk σ) (pa_cons (pe_callTy (call_list_ofK (K := K) rfl) (by rfl) T.m_list (by decide +kernel) (pa_cons (pv 0) pa_nil)) pa_nil)) pa_nil))))))
      (fun a oe cls d pn hz hf => (pss_one (ps_ret (pe_tup (pa_cons pe_str (pa_cons (pe_xf XFPackError noPackError hz hf (pv 1)) pa_nil)))))))), ?_⟩
    refine ⟨_, rfl, L, _, rfl, .inl (SqL.of hL), fun l hl => ?_⟩
    refine ⟨l, bs, rfl, upd_same, hB, fun d j e v H1 s1 hv hn => ?_, fun e he dx H1 s1 hx => ?_⟩
    · refine ⟨by show 2 ≤ sizeLine; decide, fun p hp => q _ _ (((same_new hl _).trans s1).trans (same_new hp _)) ?_⟩
      rw [e]
      exact .tup (.inl (.inl upd_same)) (.cons (.str _) (.cons (dp_mono (same_new hp _) _ hv) .nil))
    · refine ⟨true, CT.yes, fun _ a ha => ?_, fun q => Bool.noConfusion q⟩
      refine ⟨_, rfl, rfl, rfl, dx, _, _, rfl, hx, rfl, by show 2 ≤ sizeLine; decide, fun p hp => q _ _ (((same_new hl _).trans s1).trans (same_new hp _)) ?_⟩
      rw [he]
      exact .tup (.inl (.inl upd_same)) (.cons (.str _) (.cons (.int _) .nil))
end
end My

set_option Elab.async false
set_option maxRecDepth 100000
set_option maxHeartbeats 4000000
set_option linter.all false
namespace My
open PySem L2 P6
open C8 (pss_cut)
/-- bytes, changed at one place, or others -/
def Edit (bs cs : List Nat) : Prop := (∃ A x B m, bs = A ++ (x ++ B) ∧ x.length ≤ 1 ∧ m.length ≤ 1 ∧ (∀ b ∈ m, b ≤ 255) ∧ cs = A ++ (m ++ B)) ∨ (∃ B, bs = cs ++ B) ∨ (∃ n, n ≤ 62 ∧ cs = (List.replicate n [6, 1]).flatten ++ [3, 5]) ∨ cs ∈ [[3, 128, 0], [4, 255, 1], [5, 2, 0, 37], [5, 128, 1, 0], []]
def spChanged : Sp := fun vs H Q _ => ∃ (d L D : Addr) (bs : List Nat), vs = [.ref d, .ref D] ∧ DrawAt H d L ∧ hide d H D = some (.lst (nB bs)) ∧ bs.length ≤ 130100 ∧
  ∀ p cs H', DrawAt H' d L → Same (hide d H) (hide d H') → hide d H' p = some (.lst (nB cs)) → Edit bs cs → Q (.ref p) H'
theorem rep61 : ∀ n : Nat, (List.replicate n [V.int 6, V.int 1]).flatten = nB (List.replicate n [6, 1]).flatten ∧ (List.replicate n [V.int 6, V.int 1]).flatten.length = n * 2
  | 0 => ⟨rfl, rfl⟩
  | n + 1 => by
    obtain ⟨h1, h2⟩ := rep61 n
    rw [List.replicate_succ, List.flatten_cons, List.replicate_succ, List.flatten_cons, nB_app, List.length_append, h1, ← h1, h2]
    refine ⟨by rw [h1] <;> rfl, ?_⟩
    show 2 + n * 2 = _
    omega
theorem cut_to (xs : List V) (k : Nat) : cutV xs none (some (k : Int)) = xs.take k := by
  unfold cutV
  rw [HT.sIx_none, HT.sIx_nat, List.drop_zero, Nat.sub_zero]
  rcases Nat.le_total k xs.length with h | h
  · rw [Nat.min_eq_left h]
  · rw [Nat.min_eq_right h, List.take_length, List.take_of_length_le h]
theorem sl_to {K : PySem.W.Frag} {σ : L2.St} {H : Hp} {Q : VK} {D : Addr} {bs : List Nat} {k : Nat} (h1 : tVar 1 σ H fun v H' => v = .ref D ∧ H' = H) (h3 : ∀ R : VK, R (.int (k : Int)) H → tVar 3 σ H R) (hL : H D = some (.lst (nB bs))) (q : ∀ p, H p = none → Q (.ref p) (upd H p (.lst (nB (bs.take k))))) :
    tSl (rSlL K) (tVar 1) tNoPart (tPart (tVar 3)) σ H Q := by
  obtain ⟨v, e, rfl, _⟩ := h1
  refine ⟨_, e, ?_⟩
  dsimp only [tNoPart]
  refine h3 _ ⟨_, rfl, D, _, rfl, SqL.of hL, fun p hp => ?_⟩
  rw [cut_to]
  have := q p hp
  unfold nB at this ⊢
  rw [List.map_take] at this
  exact this
theorem sl_from {K : PySem.W.Frag} {σ : L2.St} {H : Hp} {Q : VK} {te : TE} {D : Addr} {bs : List Nat} {k : Nat} (h1 : tVar 1 σ H fun v H' => v = .ref D ∧ H' = H) (h3 : ∀ R : VK, R (.int (k : Int)) H → te σ H R) (hL : H D = some (.lst (nB bs))) (q : ∀ p, H p = none → Q (.ref p) (upd H p (.lst (nB (bs.drop k))))) :
    tSl (rSlL K) (tVar 1) (tPart te) tNoPart σ H Q := by
  obtain ⟨v, e, rfl, _⟩ := h1
  refine ⟨_, e, ?_⟩
  refine h3 _ ⟨_, rfl, ?_⟩
  dsimp only [tNoPart]
  refine ⟨D, _, rfl, SqL.of hL, fun p hp => ?_⟩
  rw [cut_from]
  have := q p hp
  unfold nB at this ⊢
  rw [List.map_drop] at this
  exact this
section
variable {P : Program} {w : World} {K : PySem.W.Frag} {mg : Str → Option Value} {base : Heap} {f : Addr} {fd : FuncData}
theorem ok__law_changed (T : Txt K mg) (D : Def K mg "_law_changed" ["draw", "data"] s__law_changed f fd) (O1 : Own P w K mg base "_law_take" ["draw", "many"] 1 spTake) :
    Own P w K mg base "_law_changed" ["draw", "data"] 2 spChanged := by
  obtain ⟨f_law_take, fd_law_take, m_law_take, k_law_take, b_law_take, G_law_take⟩ := O1
  refine ⟨f, fd, D.mg, D.fn.kp, D.bd, D.fn.ok sc__law_changed (fun vs H Q E h => ?_) (fun cdv A outer s H vs Q E hr h => ?_)⟩
  · obtain ⟨_, _, _, _, rfl, _⟩ := h
    rfl
  · obtain ⟨d, L, D0, bs, rfl, hD, hL, hB, q⟩ := h
    refine ⟨_, (pss_cons (ps_set (i := 2) sc__law_changed.nd rfl (Or.inl rfl) (pe_call G_law_take (hr.mono (by omega)) rfl m_law_take k_law_take b_law_take .nil pass0 (pa_cons (pv 0) (pa_cons pe_int pa_nil))))
      (pss_cons (ps_set (i := 3) sc__law_changed.nd rfl (Or.inl rfl) (pe_call G_law_take (hr.mono (by omega)) rfl m_law_take k_law_take b_law_take .nil pass0 (pa_cons (pv 0) (pa_cons (pe_op op_add (pe_callB call_len_seq (by rfl) T.m_len (by decide +kernel) (pa_cons (pv 1) pa_nil)) pe_int) pa_nil))))
      (pss_cons (ps_set (i := 4) sc__law_changed.nd rfl (Or.inl rfl) (pe_ix ix_list (pe_lst (pa_cons pe_int (pa_cons pe_int (pa_cons pe_int (pa_cons pe_int (pa_cons pe_int (pa_cons pe_int (pa_cons pe_int (pa_cons pe_int (pa_cons pe_int (pa_cons pe_int (pa_cons pe_int (pa_cons pe_int (pa_cons pe_int pa_nil)))))))))))))) (pe_call G_law_take (hr.mono (by omega)) rfl m_law_take k_law_take b_law_take .nil pass0 (pa_cons (pv 0) (pa_cons pe_int pa_nil))) (fun _ _ => rfl)))
      (pss_cons (ps_if (pt_cmpR op_eq (pv 2) pe_int (nomark _)) (pss_one (ps_ret (pe_slice sl_list (pv 1) po_none (po_some (pv 3))))) pss_nil)
      (pss_cons (ps_if (pt_cmpR op_eq (pv 2) pe_int (nomark _)) (pss_one (ps_ret (pe_op op_cat (pe_op op_cat (pe_slice sl_list (pv 1) po_none (po_some (pv 3))) (pe_lst (pa_cons (pv 4) pa_nil))) (pe_slice sl_list (pv 1) (po_some (pv 3)) po_none)))) pss_nil)
      (pss_cons (ps_if (pt_cmpR op_eq (pv 2) pe_int (nomark _)) (pss_one (ps_ret (pe_op op_cat (pe_slice sl_list (pv 1) po_none (po_some (pv 3))) (pe_slice sl_list (pv 1) (po_some (pe_op op_add (pv 3) pe_int)) po_none)))) pss_nil)
      (pss_cons (ps_if (pt_cmpR op_eq (pv 2) pe_int (nomark _)) (pss_one (ps_ret (pe_ix ix_list (pe_lst (pa_cons (pe_op op_cat (pe_op op_rep (pe_lst (pa_cons pe_int (pa_cons pe_int pa_nil))) (pe_call G_law_take (hr.mono (by omega)) rfl m_law_take k_law_take b_law_take .nil pass0 (pa_cons (pv 0) (pa_cons pe_int pa_nil)))) (pe_lst (pa_cons pe_int (pa_cons pe_int pa_nil)))) (pa_cons (pe_lst (pa_cons pe_int (pa_cons pe_int (pa_cons pe_int pa_nil)))) (pa_cons (pe_lst (pa_cons pe_int (pa_cons pe_int (pa_cons pe_int pa_nil)))) (pa_cons (pe_lst (pa_cons pe_int (pa_cons pe_int (pa_cons pe_int (pa_cons pe_int pa_nil))))) (pa_cons (pe_lst (pa_cons pe_int (pa_cons pe_int (pa_cons pe_int (pa_cons pe_int pa_nil))))) (pa_cons (pe_lst pa_nil) pa_nil))))))) (pe_call G_law_take (hr.mono (by omega)) rfl m_law_take k_law_take b_law_take .nil pass0 (pa_cons (pv 0) (pa_cons pe_int pa_nil))) (fun _ _ => rfl)))) pss_nil)
      (pss_one (ps_ret (pe_op op_cat (pe_op op_cat (pe_slice sl_list (pv 1) po_none (po_some (pv 3))) (pe_lst (pa_cons (pv 4) pa_nil))) (pe_slice sl_list (pv 1) (po_some (pe_op op_add (pv 3) pe_int)) po_none))))))))))), ?_⟩
    have hne : D0 ≠ d := (hide_some hL).1
    have hLD := (hide_some hL).2
    refine ⟨_, rfl, d, L, 5, rfl, by decide, by decide, hD, fun k H1 k0 k1 D1 s1 => ?_⟩
    have hL1 := s1 _ _ hL
    refine ⟨_, rfl, _, rfl, D0, _, rfl, .inl (SqL.of (hide_le _ _ hL1)), _, _, rfl, rfl, d, L, _, rfl, ?_, ?_, D1, fun at0 H2 a0 a1 D2 s2 => ?_⟩
    · rw [nB_len]; omega
    · rw [nB_len]; omega
    rw [nB_len] at a1
    have hL2 := s2 _ _ hL1
    refine ⟨by show 13 ≤ sizeLine; decide, fun t0 ht0 => ?_⟩
    refine ⟨_, rfl, d, L, 13, rfl, by decide, by decide, D2.new ht0, fun j H3 j0 j1 D3 s3 => ?_⟩
    have s02 := (s1.trans s2).trans ((hide_new ht0 _).trans s3)
    obtain ⟨byte, eb, bb⟩ : ∃ byte : Nat, atI ([0, 1, 2, 3, 4, 5, 6, 7, 36, 37, 127, 128, 255].map V.int) j = some (.int (byte : Int)) ∧ byte ≤ 255 := by
      obtain ⟨z, e, z0, z1⟩ := at_lt (ns := [0, 1, 2, 3, 4, 5, 6, 7, 36, 37, 127, 128, 255]) j0 j1 (B := 255) (fun z m => by
        simp only [List.mem_cons, List.mem_nil_iff, or_false] at m
        omega)
      exact ⟨z.toNat, by rw [e, Int.toNat_of_nonneg z0], by omega⟩
    refine ⟨t0, _, j, _, rfl, rfl, SqL.of (hide_le _ _ (s3 _ _ (D2.in ht0))), eb, ?_⟩
    have hL3 : hide d H3 D0 = some (.lst (nB bs)) := s02 _ _ hL
    obtain ⟨at1, rfl⟩ : ∃ at1 : Nat, at0 = (at1 : Int) := ⟨at0.toNat, by omega⟩
    have al : at1 ≤ bs.length := by omega
    have hL4 := hide_le _ _ hL3
    refine ⟨_, rfl, rfl, _, rfl, ite2 (fun c => ?_) (fun c => ?_)⟩
    · exact sl_to ⟨_, rfl, rfl, rfl⟩ (fun R r => ⟨_, rfl, r⟩) hL4 fun p hp => q p _ _ (D3.new hp) (s02.trans (hide_new hp _)) (D3.in hp) (.inr (.inl ⟨bs.drop at1, (List.take_append_drop at1 bs).symm⟩))
    have mid : ∀ (p1 p3 : Addr) (k1 : Nat) (x : List Nat) (H5 : Hp), bs = bs.take at1 ++ (x ++ bs.drop k1) → x.length ≤ 1 → DrawAt H5 d L → Same (hide d H) (hide d H5) → ∀ p5, H5 p5 = none → Q (.ref p5) (upd H5 p5 (.lst ((nB (bs.take at1) ++ [.int (byte : Int)]) ++ nB (bs.drop k1)))) := by
      intro p1 p3 k1 x H5 e hx D5 s5 p5 h5
      have e2 : (nB (bs.take at1) ++ [V.int (byte : Int)]) ++ nB (bs.drop k1) = nB (bs.take at1 ++ ([byte] ++ bs.drop k1)) := by
        rw [nB_app, nB_app, List.append_assoc]
        rfl
      rw [e2]
      exact q p5 _ _ (D5.new h5) (s5.trans (hide_new h5 _)) (D5.in h5) (.inl ⟨_, x, _, [byte], e, hx, Nat.le_refl _, (fun b m => by rw [List.mem_singleton.mp m]; exact bb), rfl⟩)
    have len1 : ∀ k1, (nB (bs.take at1)).length + 1 + (nB (bs.drop k1)).length ≤ sizeLine := fun k1 => by
      rw [nB_len, nB_len, List.length_take, List.length_drop]
      exact sz5 (by omega)
    have len0 : (nB (bs.take at1)).length + 1 ≤ sizeLine := by
      have := len1 0
      omega
    refine ⟨_, rfl, rfl, _, rfl, ite2 (fun c => ?_) (fun c => ?_)⟩
    · refine sl_to ⟨_, rfl, rfl, rfl⟩ (fun R r => ⟨_, rfl, r⟩) hL4 fun p1 h1 => ?_
      refine ⟨_, rfl, by show 1 ≤ sizeLine; decide, fun p2 h2 => ⟨p1, p2, _, _, rfl, rfl, same_new h2 _ _ _ upd_same, upd_same, len0, fun p3 h3 => ?_⟩⟩
      have D6 := ((D3.new (o := .lst (nB (bs.take at1))) h1).new (o := .lst [.int (byte : Int)]) h2).new (o := .lst (nB (bs.take at1) ++ [.int (byte : Int)])) h3
      have g3 := (same_new h2 (.lst [.int (byte : Int)])).trans (same_new h3 (.lst (nB (bs.take at1) ++ [.int (byte : Int)])))
      refine sl_from (k := at1) ⟨_, rfl, rfl, rfl⟩ (fun R r => ⟨_, rfl, r⟩) (g3 _ _ (same_new h1 _ _ _ hL4)) fun p4 h4 => ?_
      refine ⟨p3, p4, _, _, rfl, rfl, same_new h4 _ _ _ upd_same, upd_same, by rw [List.length_append]; exact len1 _, fun p5 h5 => ?_⟩
      exact mid p1 p3 at1 [] _ (List.take_append_drop at1 bs).symm (Nat.zero_le _) (D6.new h4) ((((s02.trans (hide_new h1 _)).trans (hide_new h2 _)).trans (hide_new h3 _)).trans (hide_new h4 _)) p5 h5
    have cut1 : bs = bs.take at1 ++ ((bs.drop at1).take 1 ++ bs.drop (at1 + 1)) := by
      rw [← List.drop_drop, List.take_append_drop, List.take_append_drop]
    have cutl : ((bs.drop at1).take 1).length ≤ 1 := by rw [List.length_take]; omega
    refine ⟨_, rfl, rfl, _, rfl, ite2 (fun c => ?_) (fun c => ?_)⟩
    · refine sl_to ⟨_, rfl, rfl, rfl⟩ (fun R r => ⟨_, rfl, r⟩) hL4 fun p1 h1 => ?_
      refine sl_from (k := at1 + 1) ⟨_, rfl, rfl, rfl⟩ (fun R r => ⟨_, rfl, _, _, rfl, rfl, r⟩) (same_new h1 _ _ _ hL4) fun p4 h4 => ?_
      refine ⟨p1, p4, _, _, rfl, rfl, same_new h4 _ _ _ upd_same, upd_same, by have := len1 (at1 + 1); omega, fun p5 h5 => ?_⟩
      rw [← nB_app]
      exact q p5 _ _ (((D3.new h1).new h4).new h5) (((s02.trans (hide_new h1 _)).trans (hide_new h4 _)).trans (hide_new h5 _)) (((D3.new h1).new h4).in h5) (.inl ⟨_, _, _, [], cut1, cutl, Nat.zero_le _, (fun b m => absurd m List.not_mem_nil), rfl⟩)
    refine ⟨_, rfl, rfl, _, rfl, ite2 (fun c => ?_) (fun c => ?_)⟩
    · refine ⟨by show 2 ≤ sizeLine; decide, fun a1 h1 => ?_⟩
      refine ⟨_, rfl, d, L, 63, rfl, by decide, by decide, D3.new h1, fun n H5 n0 n1 D5 s5 => ?_⟩
      have g1 := hide_le _ _ (s5 _ _ (D3.in h1))
      refine ⟨a1, n, _, rfl, rfl, g1, by omega, by omega, by show 2 * n.toNat ≤ _; exact sz5 (by omega), fun a2 h2 => ?_⟩
      refine ⟨by show 2 ≤ sizeLine; decide, fun a3 h3 => ?_⟩
      refine ⟨a2, a3, _, _, rfl, rfl, same_new h3 _ _ _ upd_same, upd_same, ?_, fun a4 h4 => ?_⟩
      · rw [(rep61 _).2]
        show n.toNat * 2 + 2 ≤ _
        exact sz5 (by omega)
      have D4 := ((D5.new (o := .lst (List.replicate n.toNat [V.int 6, V.int 1]).flatten) h2).new (o := .lst [.int 3, .int 5]) h3)
      have D4' := D4.new (o := .lst ((List.replicate n.toNat [V.int 6, V.int 1]).flatten ++ [V.int 3, V.int 5])) h4
      have g4 := D4.in (o := .lst ((List.replicate n.toNat [V.int 6, V.int 1]).flatten ++ [V.int 3, V.int 5])) h4
      have s4 := (((s02.trans (hide_new h1 (.lst [.int 6, .int 1]))).trans s5).trans (hide_new h2 (.lst (List.replicate n.toNat [V.int 6, V.int 1]).flatten))).trans ((hide_new h3 (.lst [.int 3, .int 5])).trans (hide_new h4 (.lst ((List.replicate n.toNat [V.int 6, V.int 1]).flatten ++ [V.int 3, V.int 5]))))
      generalize upd (upd (upd H5 a2 (.lst (List.replicate n.toNat [V.int 6, V.int 1]).flatten)) a3 (.lst [.int 3, .int 5])) a4 (.lst ((List.replicate n.toNat [V.int 6, V.int 1]).flatten ++ [V.int 3, V.int 5])) = H7 at D4' g4 s4 ⊢
      refine ⟨by show 3 ≤ sizeLine; decide, fun a5 h5 => ⟨by show 3 ≤ sizeLine; decide, fun a6 h6 => ⟨by show 4 ≤ sizeLine; decide, fun a7 h7 => ⟨by show 4 ≤ sizeLine; decide, fun a8 h8 => ⟨Nat.zero_le _, fun a9 h9 => ⟨by show 6 ≤ sizeLine; decide, fun a10 h10 => ?_⟩⟩⟩⟩⟩⟩
      have E5 := D4'.new (o := .lst [.int 3, .int 128, .int 0]) h5
      have E6 := E5.new (o := .lst [.int 4, .int 255, .int 1]) h6
      have E7 := E6.new (o := .lst [.int 5, .int 2, .int 0, .int 37]) h7
      have E8 := E7.new (o := .lst [.int 5, .int 128, .int 1, .int 0]) h8
      have E9 := E8.new (o := .lst []) h9
      have t5 := hide_new (d := d) h5 (.lst [.int 3, .int 128, .int 0])
      have t6 := hide_new (d := d) h6 (.lst [.int 4, .int 255, .int 1])
      have t7 := hide_new (d := d) h7 (.lst [.int 5, .int 2, .int 0, .int 37])
      have t8 := hide_new (d := d) h8 (.lst [.int 5, .int 128, .int 1, .int 0])
      have t9 := hide_new (d := d) h9 (.lst [])
      have t10 := hide_new (d := d) h10 (.lst [.ref a4, .ref a5, .ref a6, .ref a7, .ref a8, .ref a9])
      refine ⟨_, rfl, d, L, 6, rfl, by decide, by decide, E9.new h10, fun i H6 i0 i1 D6 s6 => ?_⟩
      have g10 := s6 _ _ (E9.in (o := .lst [.ref a4, .ref a5, .ref a6, .ref a7, .ref a8, .ref a9]) h10)
      have w10 := t10.trans s6
      have w9 := t9.trans w10
      have w8 := t8.trans w9
      have w7 := t7.trans w8
      have w6 := t6.trans w7
      have w5 := t5.trans w6
      have sa := s4.trans w5
      have pick : ∃ (a : Addr) (cs : List Nat), atI [V.ref a4, .ref a5, .ref a6, .ref a7, .ref a8, .ref a9] i = some (.ref a) ∧ hide d H6 a = some (.lst (nB cs)) ∧ Edit bs cs := by
        have hi : i = 0 ∨ i = 1 ∨ i = 2 ∨ i = 3 ∨ i = 4 ∨ i = 5 := by omega
        rcases hi with rfl | rfl | rfl | rfl | rfl | rfl
        · refine ⟨a4, _, rfl, (w5 _ _ g4).trans ?_, .inr (.inr (.inl ⟨n.toNat, by omega, rfl⟩))⟩
          rw [(rep61 _).1, nB_app]
          rfl
        · exact ⟨a5, [3, 128, 0], rfl, w6 _ _ (D4'.in h5), .inr (.inr (.inr (by decide)))⟩
        · exact ⟨a6, [4, 255, 1], rfl, w7 _ _ (E5.in h6), .inr (.inr (.inr (by decide)))⟩
        · exact ⟨a7, [5, 2, 0, 37], rfl, w8 _ _ (E6.in h7), .inr (.inr (.inr (by decide)))⟩
        · exact ⟨a8, [5, 128, 1, 0], rfl, w9 _ _ (E7.in h8), .inr (.inr (.inr (by decide)))⟩
        · exact ⟨a9, [], rfl, w10 _ _ (E8.in h9), .inr (.inr (.inr (by decide)))⟩
      obtain ⟨a, cs, e, g, ed⟩ := pick
      exact ⟨a10, _, i, _, rfl, rfl, SqL.of (hide_le _ _ g10), e, q a cs _ D6 sa g ed⟩
    · refine sl_to ⟨_, rfl, rfl, rfl⟩ (fun R r => ⟨_, rfl, r⟩) hL4 fun p1 h1 => ?_
      refine ⟨_, rfl, by show 1 ≤ sizeLine; decide, fun p2 h2 => ⟨p1, p2, _, _, rfl, rfl, same_new h2 _ _ _ upd_same, upd_same, len0, fun p3 h3 => ?_⟩⟩
      have D6 := ((D3.new (o := .lst (nB (bs.take at1))) h1).new (o := .lst [.int (byte : Int)]) h2).new (o := .lst (nB (bs.take at1) ++ [.int (byte : Int)])) h3
      have g3 := (same_new h2 (.lst [.int (byte : Int)])).trans (same_new h3 (.lst (nB (bs.take at1) ++ [.int (byte : Int)])))
      refine sl_from (k := at1 + 1) ⟨_, rfl, rfl, rfl⟩ (fun R r => ⟨_, rfl, _, _, rfl, rfl, r⟩) (g3 _ _ (same_new h1 _ _ _ hL4)) fun p4 h4 => ?_
      refine ⟨p3, p4, _, _, rfl, rfl, same_new h4 _ _ _ upd_same, upd_same, by rw [List.length_append]; exact len1 _, fun p5 h5 => ?_⟩
      exact mid p1 p3 (at1 + 1) _ _ cut1 cutl (D6.new h4) ((((s02.trans (hide_new h1 _)).trans (hide_new h2 _)).trans (hide_new h3 _)).trans (hide_new h4 _)) p5 h5
end
end My

set_option Elab.async false
set_option maxRecDepth 100000
set_option maxHeartbeats 4000000
set_option linter.all false
/-! Bytes whose numbers stay short when they are changed at a few places; what a reading of them shows. -/
namespace My
open PySem L2 P6
/-- high bytes against low ones -/
def hl : List Nat → Int
  | [] => 0
  | b :: l => (if b < 128 then -18 else 1) + hl l
theorem hl_app : ∀ (a b : List Nat), hl (a ++ b) = hl a + hl b
  | [], b => by
    show hl b = 0 + hl b
    omega
  | x :: a, b => by
    show _ + hl (a ++ b) = _ + hl a + hl b
    rw [hl_app a b]
    omega
theorem hl_one {m : List Nat} (h : m.length ≤ 1) : -18 ≤ hl m ∧ hl m ≤ 1 := by
  match m, h with
  | [], _ => exact ⟨by decide, by decide⟩
  | [b], _ =>
    show -18 ≤ (if b < 128 then (-18 : Int) else 1) + 0 ∧ (if b < 128 then (-18 : Int) else 1) + 0 ≤ 1
    split <;> omega
/-- no part of the row has many more high bytes than low ones -/
def Bd (C : Int) (bs : List Nat) : Prop := ∀ p q r, bs = p ++ (q ++ r) → hl q ≤ C
theorem bd_edit {C : Int} {A x B m : List Nat} (h0 : 0 ≤ C) (h : Bd C (A ++ (x ++ B))) (hx : x.length ≤ 1) (hm : m.length ≤ 1) : Bd (C + 19) (A ++ (m ++ B)) := by
  intro p q r e
  obtain ⟨x1, _⟩ := hl_one hx
  obtain ⟨_, m1⟩ := hl_one hm
  rw [← List.append_assoc p q r] at e
  have short : ∀ z : List Nat, z.length ≤ m.length → hl z ≤ 1 := fun z hz => (hl_one (by omega)).2
  rcases List.append_eq_append_iff.mp e with ⟨es, e1, e2⟩ | ⟨es, e1, e2⟩
  · rcases List.append_eq_append_iff.mp e1 with ⟨fs, f1, f2⟩ | ⟨fs, f1, f2⟩
    · rcases List.append_eq_append_iff.mp e2 with ⟨gs, g1, g2⟩ | ⟨gs, g1, g2⟩
      · have := h p (fs ++ (x ++ gs)) r (by rw [f1, g2]; simp)
        rw [hl_app, hl_app] at this
        rw [f2, g1, hl_app, hl_app]
        omega
      · have := h p fs (x ++ B) (by rw [f1]; simp)
        have := short es (by rw [g1, List.length_append]; omega)
        rw [f2, hl_app]
        omega
    · rcases List.append_eq_append_iff.mp e2 with ⟨gs, g1, g2⟩ | ⟨gs, g1, g2⟩
      · rw [f2] at g1
        rcases List.append_eq_append_iff.mp g1 with ⟨ks, k1, k2⟩ | ⟨ks, k1, k2⟩
        · -- m = fs ++ ks, q = ks ++ gs
          have := h (A ++ x) gs r (by rw [g2]; simp)
          have := short ks (by rw [k1, List.length_append]; omega)
          rw [k2, hl_app]
          omega
        · -- fs = m ++ ks, gs = ks ++ q
          have := h (A ++ (x ++ ks)) q r (by rw [g2, k2]; simp)
          omega
      · have := short q (by rw [g1, f2, List.length_append, List.length_append]; omega)
        omega
  · have := h p q (es ++ (x ++ B)) (by rw [e1]; simp)
    omega
theorem bd_mono {C D : Int} {bs : List Nat} (h : Bd C bs) (e : C ≤ D) : Bd D bs := fun p q r x => Int.le_trans (h p q r x) e
theorem bd_pre {C : Int} {bs cs B : List Nat} (h : Bd C bs) (e : bs = cs ++ B) : Bd C cs := fun p q r x => h p q (r ++ B) (by rw [e, x]; simp)
/-- a run of high bytes, so long at the start, at most 18 long everywhere: its length at the end -/
def run : Nat → List Nat → Option Nat
  | s, [] => some s
  | s, b :: l => if b < 128 then run 0 l else if s < 18 then run (s + 1) l else none
theorem run_app : ∀ (s : Nat) (a b : List Nat), run s (a ++ b) = (run s a).bind fun t => run t b
  | s, [], b => rfl
  | s, x :: a, b => by
    show (if x < 128 then run 0 (a ++ b) else if s < 18 then run (s + 1) (a ++ b) else none) = (if x < 128 then run 0 a else if s < 18 then run (s + 1) a else none).bind _
    split
    · exact run_app 0 a b
    · split
      · exact run_app (s + 1) a b
      · rfl
theorem run_hl : ∀ {s t : Nat} {l : List Nat}, s ≤ 18 → run s l = some t → hl l ≤ (t : Int) - s ∧ t ≤ 18
  | s, t, [], hs, h => by
    cases h
    show (0 : Int) ≤ _ ∧ _
    omega
  | s, t, b :: l, hs, h => by
    unfold run at h
    show (if b < 128 then (-18 : Int) else 1) + hl l ≤ _ ∧ _
    split at h
    · rename_i hb
      have := run_hl (by omega) h
      rw [if_pos hb]
      omega
    · rename_i hb
      split at h
      · have := run_hl (by omega) h
        rw [if_neg hb]
        omega
      · cases h
theorem run_bd {bs : List Nat} {t : Nat} (h : run 0 bs = some t) : Bd 18 bs := by
  intro p q r e
  rw [e, run_app] at h
  cases h1 : run 0 p with
  | none =>
    rw [h1] at h
    cases h
  | some a =>
    rw [h1] at h
    have h : run a (q ++ r) = some t := h
    rw [run_app] at h
    cases h2 : run a q with
    | none =>
      rw [h2] at h
      cases h
    | some b =>
      have a1 := (run_hl (by omega) h1).2
      have a2 := run_hl a1 h2
      omega
theorem run_size : ∀ (k : Nat) {s n : Nat}, n < 128 ^ (k + 1) → s + k ≤ 18 → run s (sizeB n) = some 0
  | 0, s, n, h, hs => by
    rw [sizeB_lt (by omega)]
    exact if_pos (by omega)
  | k + 1, s, n, h, hs => by
    by_cases c : n < 128
    · rw [sizeB_lt c]
      exact if_pos c
    · rw [sizeB_ge c]
      show (if n % 128 + 128 < 128 then _ else if s < 18 then run (s + 1) (sizeB (n / 128)) else none) = _
      rw [if_neg (by omega), if_pos (by omega)]
      exact run_size k (n := n / 128) (by rw [Nat.pow_succ] at h; omega) (by omega)
theorem run_low : ∀ {l : List Nat}, (∀ b ∈ l, b < 128) → run 0 l = some 0
  | [], _ => rfl
  | b :: l, h => by
    show (if b < 128 then run 0 l else _) = _
    rw [if_pos (h b (.head _))]
    exact run_low fun x hx => h x (.tail _ hx)
theorem plsOf_lt : ∀ {cs ps : List Nat}, plsOf cs = some ps → ∀ b ∈ ps, b < 37
  | [], ps, h => by
    cases h
    intro b hb
    cases hb
  | c :: r, ps, h => by
    unfold plsOf at h
    split at h
    · rename_i p qs h1 h2
      cases h
      intro b hb
      rcases List.mem_cons.mp hb with rfl | hb
      · exact (pl_lt h1).1
      · exact plsOf_lt h2 b hb
    · cases h
theorem low_run {b : Nat} {l : List Nat} (hb : b < 128) : run 0 (b :: l) = run 0 l := if_pos hb
mutual
theorem run_enc : ∀ (d : PyData) (k : Nat) (e : List Nat), tx d → enc d k = some e → run 0 e = some 0
  | .none, k, e, t, h => by unfold enc at h; cases h; rfl
  | .bool b, k, e, t, h => by unfold enc at h; cases h; cases b <;> rfl
  | .int i, k, e, t, h => by
    have t : -(2 ^ 132) ≤ i ∧ i ≤ 2 ^ 132 := t
    unfold enc at h
    cases h
    by_cases hi : 0 ≤ i
    · rw [if_pos hi, low_run (by decide)]
      exact run_size 18 (by omega) (by decide)
    · rw [if_neg hi, low_run (by decide)]
      exact run_size 18 (by omega) (by decide)
  | .str x, k, e, t, h => by
    have t : x.length ≤ 500 ∧ PyData.strOk x = true := t
    unfold enc at h
    cases hp : plsOf x.cps.toList with
    | none =>
      rw [hp] at h
      cases h
    | some ps =>
      rw [hp] at h
      cases h
      rw [low_run (by decide), run_app, run_size 1 (by omega) (by decide)]
      exact run_low fun b hb => by
        have := plsOf_lt hp b hb
        omega
  | .tuple xs, k, e, t, h => by
    have t : xs.length ≤ 500 ∧ txs xs := t
    unfold enc at h
    cases k with
    | zero => cases h
    | succ k =>
      simp only at h
      cases hp : encs xs k with
      | none =>
        rw [hp] at h
        cases h
      | some bs =>
        rw [hp] at h
        cases h
        rw [low_run (by decide), run_app, run_size 1 (by omega) (by decide)]
        exact run_encs xs k bs t.2 hp
  | .list _, k, e, t, h => by unfold enc at h; cases h
  | .dict _, k, e, t, h => by unfold enc at h; cases h
theorem run_encs : ∀ (xs : List PyData) (k : Nat) (e : List Nat), txs xs → encs xs k = some e → run 0 e = some 0
  | [], k, e, t, h => by unfold encs at h; cases h; rfl
  | x :: r, k, e, t, h => by
    unfold encs at h
    split at h
    · rename_i a b h1 h2
      cases h
      have t : tx x ∧ txs r := t
      rw [run_app, run_enc x k a t.1 h1]
      exact run_encs r k b t.2 h2
    · cases h
end
theorem size_byte : ∀ (n : Nat), ∀ b ∈ sizeB n, b ≤ 255 := by
  intro n
  induction n using Nat.strongRecOn with
  | _ n ih =>
    intro b hb
    by_cases c : n < 128
    · rw [sizeB_lt c] at hb
      rw [List.mem_singleton.mp hb]
      omega
    · rw [sizeB_ge c] at hb
      rcases List.mem_cons.mp hb with rfl | hb
      · omega
      · exact ih (n / 128) (by omega) b hb
mutual
theorem enc_byte : ∀ (d : PyData) (k : Nat) (e : List Nat), enc d k = some e → ∀ b ∈ e, b ≤ 255
  | .none, k, e, h => by unfold enc at h; cases h; decide
  | .bool b, k, e, h => by unfold enc at h; cases h; cases b <;> decide
  | .int i, k, e, h => by
    unfold enc at h
    cases h
    intro b hb
    split at hb
    · rcases List.mem_cons.mp hb with rfl | hb
      · decide
      · exact size_byte _ b hb
    · rcases List.mem_cons.mp hb with rfl | hb
      · decide
      · exact size_byte _ b hb
  | .str x, k, e, h => by
    unfold enc at h
    cases hp : plsOf x.cps.toList with
    | none =>
      rw [hp] at h
      cases h
    | some ps =>
      rw [hp] at h
      cases h
      intro b hb
      rcases List.mem_cons.mp hb with rfl | hb
      · decide
      · rcases List.mem_append.mp hb with hb | hb
        · exact size_byte _ b hb
        · have := plsOf_lt hp b hb
          omega
  | .tuple xs, k, e, h => by
    unfold enc at h
    cases k with
    | zero => cases h
    | succ k =>
      simp only at h
      cases hp : encs xs k with
      | none =>
        rw [hp] at h
        cases h
      | some bs =>
        rw [hp] at h
        cases h
        intro b hb
        rcases List.mem_cons.mp hb with rfl | hb
        · decide
        · rcases List.mem_append.mp hb with hb | hb
          · exact size_byte _ b hb
          · exact encs_byte xs k bs hp b hb
  | .list _, k, e, h => by unfold enc at h; cases h
  | .dict _, k, e, h => by unfold enc at h; cases h
theorem encs_byte : ∀ (xs : List PyData) (k : Nat) (e : List Nat), encs xs k = some e → ∀ b ∈ e, b ≤ 255
  | [], k, e, h => by
    unfold encs at h
    cases h
    intro b hb
    cases hb
  | x :: r, k, e, h => by
    unfold encs at h
    split at h
    · rename_i a b h1 h2
      cases h
      intro y hy
      rcases List.mem_append.mp hy with hy | hy
      · exact enc_byte x k a h1 y hy
      · exact encs_byte r k b h2 y hy
    · cases h
end
/-- bytes after t changes -/
structure Fit (t : Nat) (bs : List Nat) : Prop where
  len : bs.length ≤ 130000 + t
  byte : ∀ b ∈ bs, b ≤ 255
  bd : Bd (18 + 19 * (t : Int)) bs
theorem Fit.ok {t : Nat} {bs : List Nat} (h : Fit t bs) (ht : t ≤ 6) : BsOk bs := ⟨by have := h.len; omega, h.byte⟩
theorem fit_enc {d : PyData} {k : Nat} {e : List Nat} (ht : tx d) (hw : wt d ≤ 130000) (h : enc d k = some e) : Fit 0 e := by
  have := enc_len d k e h
  refine ⟨by omega, enc_byte d k e h, run_bd (run_enc d k e ht h)⟩
theorem rep61_mem : ∀ {n b : Nat}, b ∈ (List.replicate n [6, 1]).flatten → b < 128
  | 0, b, h => by cases h
  | n + 1, b, h => by
    rw [List.replicate_succ, List.flatten_cons] at h
    rcases List.mem_append.mp h with h | h
    · rcases List.mem_cons.mp h with rfl | h
      · decide
      · rw [List.mem_singleton.mp h]
        decide
    · exact rep61_mem h
theorem rep61_len : ∀ n : Nat, (List.replicate n [6, 1]).flatten.length = n * 2
  | 0 => rfl
  | n + 1 => by
    rw [List.replicate_succ, List.flatten_cons, List.length_append, rep61_len n]
    show 2 + n * 2 = _
    omega
theorem Fit.edit {t : Nat} {bs cs : List Nat} (h : Fit t bs) (e : Edit bs cs) : Fit (t + 1) cs := by
  have hc : (18 : Int) + 19 * ((t + 1 : Nat) : Int) = 18 + 19 * (t : Int) + 19 := by omega
  rcases e with ⟨A, x, B, m, rfl, hx, hm, hb, rfl⟩ | ⟨B, rfl⟩ | ⟨n, hn, rfl⟩ | hm
  · refine ⟨?_, fun b hb' => ?_, ?_⟩
    · have := h.len
      simp only [List.length_append] at this ⊢
      omega
    · rcases List.mem_append.mp hb' with hb' | hb'
      · exact h.byte b (List.mem_append_left _ hb')
      · rcases List.mem_append.mp hb' with hb' | hb'
        · exact hb b hb'
        · exact h.byte b (List.mem_append_right _ (List.mem_append_right _ hb'))
    · rw [hc]
      exact bd_edit (by omega) h.bd hx hm
  · refine ⟨?_, fun b hb' => h.byte b (List.mem_append_left _ hb'), ?_⟩
    · have := h.len
      rw [List.length_append] at this
      omega
    · exact bd_mono (bd_pre h.bd rfl) (by omega)
  · have low : ∀ b ∈ (List.replicate n [6, 1]).flatten ++ [3, 5], b < 128 := fun b hb => by
      rcases List.mem_append.mp hb with hb | hb
      · exact rep61_mem hb
      · rcases List.mem_cons.mp hb with rfl | hb
        · decide
        · rw [List.mem_singleton.mp hb]
          decide
    refine ⟨?_, fun b hb => by have := low b hb; omega, bd_mono (run_bd (run_low low)) (by omega)⟩
    rw [List.length_append, rep61_len]
    show n * 2 + 2 ≤ _
    omega
  · simp only [List.mem_cons, List.mem_nil_iff, or_false] at hm
    have key : ∀ l : List Nat, l.length ≤ 4 → (∀ b ∈ l, b ≤ 255) → (∃ s, run 0 l = some s) → Fit (t + 1) l := fun l h1 h2 ⟨s, h3⟩ => ⟨by omega, h2, bd_mono (run_bd h3) (by omega)⟩
    rcases hm with rfl | rfl | rfl | rfl | rfl
    · exact key _ (by decide) (by decide) ⟨_, rfl⟩
    · exact key _ (by decide) (by decide) ⟨_, rfl⟩
    · exact key _ (by decide) (by decide) ⟨_, rfl⟩
    · exact key _ (by decide) (by decide) ⟨_, rfl⟩
    · exact key _ (by decide) (by decide) ⟨_, rfl⟩
end My

set_option Elab.async false
set_option maxRecDepth 100000
set_option maxHeartbeats 4000000
set_option linter.all false
/-! What a reading shows: short enough, flat enough. -/
namespace My
open PySem L2 P6
theorem dsz_win : ∀ {l : List Nat} {i : Nat} {fst : Bool} {n j : Nat}, dsz l i fst = .ok n j → (∀ b ∈ l, b ≤ 255) → ∃ q r, l = q ++ r ∧ j = i + q.length ∧ hl q = (q.length : Int) - 19 ∧ n < 128 ^ q.length
  | [], i, fst, n, j, h, hb => by cases h
  | b :: l, i, fst, n, j, h, hb => by
    unfold dsz at h
    split at h
    · rename_i c
      obtain ⟨a, h1, h2⟩ := map_ok h
      obtain ⟨q, r, e1, e2, e3, e4⟩ := dsz_win h1 fun x hx => hb x (.tail _ hx)
      refine ⟨b :: q, r, by rw [e1]; rfl, by rw [List.length_cons]; omega, ?_, ?_⟩
      · show (if b < 128 then (-18 : Int) else 1) + hl q = _
        rw [if_neg (by omega), e3, List.length_cons]
        omega
      · have := hb b (.head _)
        rw [List.length_cons, Nat.pow_succ]
        omega
    · split at h
      · cases h
      · cases h
        refine ⟨[b], l, rfl, rfl, ?_, ?_⟩
        · show (if b < 128 then (-18 : Int) else 1) + 0 = _
          rw [if_pos (by omega)]
          rfl
        · show b < 128 ^ 1
          omega
/-- a number that is read is short -/
theorem dsz_short {bs : List Nat} {t i n j : Nat} {fst : Bool} (hF : Fit t bs) (ht : t ≤ 6) (h : dsz (bs.drop i) i fst = .ok n j) : i < j ∧ n < 128 ^ (j - i) ∧ n < 2 ^ 1057 := by
  obtain ⟨q, r, e1, e2, e3, e4⟩ := dsz_win h fun b hb => hF.byte b (List.mem_of_mem_drop hb)
  have hq := hF.bd (bs.take i) q r (by rw [← e1, List.take_append_drop])
  have hl2 : q.length ≤ 151 := by omega
  refine ⟨dsz_lt h, by rw [show j - i = q.length by omega]; exact e4, Nat.lt_of_lt_of_le e4 ?_⟩
  have : 128 ^ q.length ≤ 128 ^ 151 := Nat.pow_le_pow_right (by decide) hl2
  exact Nat.le_trans this (by decide +kernel)
/-- what is read shows at most so much -/
structure Shw (k n : Nat) (d : PyData) : Prop where
  ok : d.showable = true
  nd : d.hasDict = false
  dep : d.depth ≤ k
  len : d.shown.length + 2 ≤ n
structure Shws (k n : Nat) (ds : List PyData) : Prop where
  ok : PyData.showableAll ds = true
  nd : PyData.hasDictAll ds = false
  dep : PyData.depthAll ds ≤ k
  len : piled (PyData.shownAll ds) ≤ n
theorem Shw.mono {k k' n n' : Nat} {d : PyData} (h : Shw k n d) (h1 : k ≤ k') (h2 : n ≤ n') : Shw k' n' d := ⟨h.ok, h.nd, Nat.le_trans h.dep h1, Nat.le_trans h.len h2⟩
theorem shw_int {k m : Nat} {i : Int} (h : i.natAbs < 128 ^ m + 1) (h2 : i.natAbs < 2 ^ 1058) : Shw k (12 * (m + 1)) (.int i) := by
  have e1 : i.natAbs.log2 < 1058 := by
    by_cases h0 : i.natAbs = 0
    · rw [h0]; decide
    · exact (Nat.log2_lt h0).mpr h2
  have e2 : i.natAbs.log2 < 7 * m + 1 := by
    by_cases h0 : i.natAbs = 0
    · rw [h0]
      show 0 < _
      omega
    · refine (Nat.log2_lt h0).mpr ?_
      have : (128 : Nat) ^ m = 2 ^ (7 * m) := by rw [Nat.pow_mul]
      rw [Nat.pow_succ, ← this]
      have : 0 < 128 ^ m := Nat.pow_pos (by decide)
      omega
  refine ⟨decide_eq_true (by omega), rfl, Nat.zero_le _, ?_⟩
  show (Str.ofString (toString i)).length + 2 ≤ _
  have := int_text_length_le (by omega) e2
  rw [ofString_length]
  omega
theorem shw_str {k m : Nat} {x : Str} (hx : ∀ c ∈ x.cps.toList, c < 16 ^ 8) (h : x.length ≤ m) : Shw k (12 * (m + 1)) (.str x) := by
  refine ⟨rfl, rfl, Nat.zero_le _, ?_⟩
  show (reprText x).length + 2 ≤ _
  have := PySem.StrLaws.reprText_len x hx
  omega
theorem tup_len (ts : List Str) : (tupleText ts).length ≤ piled ts + 3 := by
  unfold tupleText
  rw [strLen_append, strLen_append]
  have e1 : ((("(" : String) : Str)).length = 1 := rfl
  have e3 : (((if ts.length == 1 then ",)" else ")" : String) : Str)).length ≤ 2 := by split <;> decide
  rw [e1]
  by_cases h : ts = []
  · subst h
    show 1 + (Str.join ", " []).length + _ ≤ _
    have : (Str.join ", " []).length = 0 := rfl
    rw [this, piled_nil]
    omega
  · have := join_length_add ts h
    omega
theorem shw_tup {k n : Nat} {ds : List PyData} (h : Shws k n ds) : Shw (k + 1) (n + 5) (.tuple ds) := by
  refine ⟨by simpa [PyData.showable] using h.ok, by simpa [PyData.hasDict] using h.nd, ?_, ?_⟩
  · show PyData.depthAll ds + 1 ≤ _
    have := h.dep
    omega
  · show (tupleText (PyData.shownAll ds)).length + 2 ≤ _
    have := tup_len (PyData.shownAll ds)
    have := h.len
    omega
theorem rep_shw {k : Nat} {f : Nat → Rs PyData} (hf : ∀ i d j, f i = .ok d j → i < j ∧ Shw k (12 * (j - i)) d) : ∀ {n i : Nat} {ds : List PyData} {j : Nat}, rep f n i = .ok ds j → i ≤ j ∧ Shws k (12 * (j - i)) ds
  | 0, i, ds, j, h => by
    cases h
    exact ⟨Nat.le_refl _, rfl, rfl, Nat.zero_le _, Nat.zero_le _⟩
  | n + 1, i, ds, j, h => by
    obtain ⟨a, j1, h1, h2⟩ := thn_ok h
    obtain ⟨as, h3, h4⟩ := map_ok h2
    subst h4
    obtain ⟨l1, s1⟩ := hf _ _ _ h1
    obtain ⟨l2, s2⟩ := rep_shw hf h3
    refine ⟨by omega, ?_, ?_, ?_, ?_⟩
    · simp only [PyData.showableAll, s1.ok, s2.ok, Bool.and_self]
    · simp only [PyData.hasDictAll, s1.nd, s2.nd, Bool.or_self]
    · show max a.depth (PyData.depthAll as) ≤ k
      have := s1.dep
      have := s2.dep
      omega
    · show piled (a.shown :: PyData.shownAll as) ≤ _
      rw [piled_cons]
      have := s1.len
      have := s2.len
      omega
theorem rep_chr {bs : List Nat} : ∀ {n i : Nat} {cs : List Nat} {j : Nat}, rep (dch bs) n i = .ok cs j → cs.length = j - i ∧ i ≤ j ∧ ∀ c ∈ cs, c < 16 ^ 8
  | 0, i, cs, j, h => by
    cases h
    exact ⟨(Nat.sub_self _).symm, Nat.le_refl _, fun c hc => by cases hc⟩
  | n + 1, i, cs, j, h => by
    obtain ⟨a, j1, h1, h2⟩ := thn_ok h
    obtain ⟨as, h3, h4⟩ := map_ok h2
    subst h4
    obtain ⟨e1, e2, e3⟩ := rep_chr h3
    unfold dch at h1
    split at h1
    · cases h1
    · split at h1
      · cases h1
        refine ⟨by rw [List.length_cons]; omega, by omega, fun c hc => ?_⟩
        rcases List.mem_cons.mp hc with rfl | hc
        · unfold chAt
          split
          · omega
          · split <;> omega
        · exact e3 c hc
      · cases h1
theorem dvalF_shw {bs : List Nat} {t K : Nat} (hF : Fit t bs) (ht : t ≤ 6) {sub : Option (Nat → Rs PyData)} (hs : ∀ f, sub = some f → ∃ k, K = k + 1 ∧ ∀ i d j, f i = .ok d j → i < j ∧ Shw k (12 * (j - i)) d) {i : Nat} {d : PyData} {j : Nat} (h : dvalF bs sub i = .ok d j) : i < j ∧ Shw K (12 * (j - i)) d := by
  unfold dvalF at h
  split at h
  · cases h
  · rename_i b hb
    split at h
    · cases h; exact ⟨by omega, rfl, rfl, Nat.zero_le _, by show 4 + 2 ≤ _; omega⟩
    · split at h
      · cases h; exact ⟨by omega, rfl, rfl, Nat.zero_le _, by show 5 + 2 ≤ _; omega⟩
      · split at h
        · cases h; exact ⟨by omega, rfl, rfl, Nat.zero_le _, by show 4 + 2 ≤ _; omega⟩
        · split at h
          · obtain ⟨a, h1, h2⟩ := map_ok h
            subst h2
            obtain ⟨l1, l2, l3⟩ := dsz_short hF ht h1
            refine ⟨by omega, (shw_int (m := j - (i + 1)) (by rw [Int.natAbs_natCast]; omega) (by rw [Int.natAbs_natCast]; omega)).mono (Nat.le_refl _) (by omega)⟩
          · split at h
            · obtain ⟨a, h1, h2⟩ := map_ok h
              subst h2
              obtain ⟨l1, l2, l3⟩ := dsz_short hF ht h1
              have e : (-1 - (a : Int)).natAbs = a + 1 := by omega
              refine ⟨by omega, (shw_int (m := j - (i + 1)) (by rw [e]; omega) (by rw [e]; omega)).mono (Nat.le_refl _) (by omega)⟩
            · split at h
              · obtain ⟨a, j1, h1, h2⟩ := thn_ok h
                obtain ⟨cs, h3, h4⟩ := map_ok h2
                subst h4
                have l1 := dsz_lt h1
                obtain ⟨e1, e2, e3⟩ := rep_chr h3
                refine ⟨by omega, (shw_str (m := j - j1) (x := ⟨cs.toArray⟩) (fun c hc => e3 c (by simpa using hc)) (by show cs.toArray.size ≤ _; rw [List.size_toArray]; omega)).mono (Nat.le_refl _) (by omega)⟩
              · split at h
                · split at h
                  · cases h
                  · rename_i f
                    obtain ⟨a, j1, h1, h2⟩ := thn_ok h
                    obtain ⟨ds, h3, h4⟩ := map_ok h2
                    subst h4
                    obtain ⟨k, hk, hf⟩ := hs f rfl
                    subst hk
                    have l1 := dsz_lt h1
                    obtain ⟨l2, s2⟩ := rep_shw hf h3
                    exact ⟨by omega, (shw_tup s2).mono (Nat.le_refl _) (by omega)⟩
                · cases h
theorem dval_shw {bs : List Nat} {t : Nat} (hF : Fit t bs) (ht : t ≤ 6) : ∀ {k i : Nat} {d : PyData} {j : Nat}, dval bs k i = .ok d j → i < j ∧ Shw k (12 * (j - i)) d
  | 0, i, d, j, h => dvalF_shw hF ht (sub := none) (fun f e => by cases e) h
  | k + 1, i, d, j, h => dvalF_shw hF ht (sub := some (dval bs k)) (fun f e => ⟨k, rfl, fun i d j h => by cases e; exact dval_shw hF ht h⟩) h
theorem dsz_bad : ∀ {l : List Nat} {i : Nat} {fst : Bool} {e : Nat}, dsz l i fst = .bad e → e ≤ i + l.length
  | [], i, fst, e, h => by
    cases h
    exact Nat.le_add_right _ _
  | b :: l, i, fst, e, h => by
    unfold dsz at h
    rw [List.length_cons]
    split at h
    · cases h1 : dsz l (i + 1) false with
      | ok a j =>
        rw [h1] at h
        cases h
      | bad x =>
        rw [h1] at h
        cases h
        have := dsz_bad h1
        omega
    · split at h
      · cases h
        omega
      · cases h
theorem dsz_badD {bs : List Nat} {i e : Nat} {fst : Bool} (hi : i ≤ bs.length) (h : dsz (bs.drop i) i fst = .bad e) : e ≤ bs.length := by
  have := dsz_bad h
  rw [List.length_drop] at this
  omega
theorem rep_bad {α : Type} {f : Nat → Rs α} {N : Nat} (ho : ∀ i a j, f i = .ok a j → j ≤ N) (hf : ∀ i e, i ≤ N → f i = .bad e → e ≤ N) : ∀ {n i e : Nat}, i ≤ N → rep f n i = .bad e → e ≤ N
  | 0, i, e, hi, h => by cases h
  | n + 1, i, e, hi, h => by
    have h : ((f i).thn fun a j => (rep f n j).map fun as => a :: as) = .bad e := h
    cases h1 : f i with
    | bad x =>
      rw [h1] at h
      cases h
      exact hf _ _ hi h1
    | ok a j =>
      rw [h1] at h
      have h : (rep f n j).map _ = .bad e := h
      cases h2 : rep f n j with
      | ok as j2 =>
        rw [h2] at h
        cases h
      | bad x =>
        rw [h2] at h
        cases h
        exact rep_bad ho hf (ho _ _ _ h1) h2
theorem dch_bad {bs : List Nat} {i e : Nat} (hi : i ≤ bs.length) (h : dch bs i = .bad e) : e ≤ bs.length := by
  unfold dch at h
  split at h
  · cases h
    exact hi
  · split at h
    · cases h
    · cases h
      exact hi
theorem dvalF_bad {bs : List Nat} {sub : Option (Nat → Rs PyData)} (ho : ∀ f, sub = some f → (∀ i a j, f i = .ok a j → j ≤ bs.length) ∧ ∀ i e, i ≤ bs.length → f i = .bad e → e ≤ bs.length) {i e : Nat} (hi : i ≤ bs.length) (h : dvalF bs sub i = .bad e) : e ≤ bs.length := by
  unfold dvalF at h
  split at h
  · cases h
    exact hi
  · rename_i b hb
    have hlt := (List.getElem?_eq_some_iff.mp hb).1
    have sz : ∀ {α : Type} (g : Nat → α), (dsz (bs.drop (i + 1)) (i + 1) true).map g = .bad e → e ≤ bs.length := fun g hg => by
      cases h1 : dsz (bs.drop (i + 1)) (i + 1) true with
      | ok a j =>
        rw [h1] at hg
        cases hg
      | bad x =>
        rw [h1] at hg
        cases hg
        exact dsz_badD (by omega) h1
    have sz2 : ∀ {α β : Type} (f : Nat → Rs α) (g : List α → β), (∀ i a j, f i = .ok a j → j ≤ bs.length) → (∀ i e, i ≤ bs.length → f i = .bad e → e ≤ bs.length) → ((dsz (bs.drop (i + 1)) (i + 1) true).thn fun n j => (rep f n j).map g) = .bad e → e ≤ bs.length := fun f g h1 h2 hg => by
      cases h3 : dsz (bs.drop (i + 1)) (i + 1) true with
      | bad x =>
        rw [h3] at hg
        cases hg
        exact dsz_badD (by omega) h3
      | ok a j =>
        rw [h3] at hg
        have hg : (rep f a j).map g = .bad e := hg
        cases h4 : rep f a j with
        | ok as j2 =>
          rw [h4] at hg
          cases hg
        | bad x =>
          rw [h4] at hg
          cases hg
          exact rep_bad h1 h2 (dsz_leD (by omega) h3) h4
    split at h
    · cases h
    · split at h
      · cases h
      · split at h
        · cases h
        · split at h
          · exact sz _ h
          · split at h
            · exact sz _ h
            · split at h
              · exact sz2 _ _ (fun _ _ _ h => dch_le h) (fun _ _ h1 h2 => dch_bad h1 h2) h
              · split at h
                · split at h
                  · cases h
                    exact hi
                  · rename_i f
                    exact sz2 _ _ (ho f rfl).1 (ho f rfl).2 h
                · cases h
                  exact hi
theorem dval_bad {bs : List Nat} : ∀ {k i e : Nat}, i ≤ bs.length → dval bs k i = .bad e → e ≤ bs.length
  | 0, i, e, hi, h => dvalF_bad (sub := none) (fun f z => by cases z) hi h
  | k + 1, i, e, hi, h => dvalF_bad (sub := some (dval bs k)) (fun f z => by cases z; exact ⟨fun _ _ _ h => dval_le h, fun _ _ h1 h2 => dval_bad h1 h2⟩) hi h
/-- what is told of a reading can be shown -/
theorem told_shw {bs : List Nat} {t : Nat} (hF : Fit t bs) (ht : t ≤ 6) : (told (dun bs)).showable = true ∧ (told (dun bs)).hasDict = false ∧ (told (dun bs)).depth ≤ 61 ∧ (told (dun bs)).shown.length ≤ sizeLine := by
  have hlen := hF.len
  have two : ∀ (x : Str) (d : PyData) (n : Nat), (∀ c ∈ x.cps.toList, c < 16 ^ 8) → x.length ≤ 5 → Shw 60 n d → Shw 61 (72 + n + 5) (.tuple [.str x, d]) := fun x d n hx hl s => by
    have a := shw_str (k := 60) (m := 5) hx hl
    refine shw_tup (k := 60) (n := 72 + n) ⟨?_, ?_, ?_, ?_⟩
    · simp only [PyData.showableAll, a.ok, s.ok, Bool.and_self]
    · simp only [PyData.hasDictAll, a.nd, s.nd, Bool.or_self]
    · show max _ (max d.depth 0) ≤ 60
      have := a.dep
      have := s.dep
      omega
    · show piled [_, d.shown] ≤ _
      rw [piled_cons, piled_cons, piled_nil]
      have := a.len
      have := s.len
      have e : (PyData.str x).shown = reprText x := rfl
      omega
  have fin : ∀ n, n ≤ 2000000 → ∀ D, Shw 61 n D → D.showable = true ∧ D.hasDict = false ∧ D.depth ≤ 61 ∧ D.shown.length ≤ sizeLine := fun n hn D s => ⟨s.ok, s.nd, s.dep, by
    have := s.len
    rw [sizeLine_eq]
    omega⟩
  have bad : ∀ e : Nat, e ≤ 200000 → Shw 60 48 (.int (e : Int)) := fun e he => shw_int (k := 60) (m := 3) (by rw [Int.natAbs_natCast]; omega) (by rw [Int.natAbs_natCast]; omega)
  cases hd : dun bs with
  | ok d j =>
    unfold dun at hd
    obtain ⟨d1, j1, h1, h2⟩ := thn_ok hd
    split at h2
    · cases h2
    · cases h2
      have hj := dval_le h1
      obtain ⟨_, s⟩ := dval_shw hF ht h1
      exact fin _ (by omega) _ (two "value" d _ (by decide) (by decide) s)
  | bad e =>
    have he : e ≤ 200000 := by
      unfold dun at hd
      cases h1 : dval bs 60 0 with
      | ok d1 j1 =>
        rw [h1] at hd
        have hd : (if j1 < bs.length then Rs.bad j1 else Rs.ok d1 j1) = Rs.bad e := hd
        split at hd
        · cases hd
          omega
        · cases hd
      | bad e1 =>
        rw [h1] at hd
        cases hd
        have := dval_bad (Nat.zero_le _) h1
        omega
    exact fin _ (by omega) _ (two "at" _ _ (by decide) (by decide) (bad e he))
end My

set_option Elab.async false
set_option maxRecDepth 100000
set_option maxHeartbeats 4000000
set_option linter.all false
/-! A program of few rows has few bytes. -/
namespace My
open PySem L2 P6 Prg
def G (n : Nat) (d : PyData) : Prop := wt d ≤ n ∧ tx d
def Gs (n : Nat) (ds : List PyData) : Prop := wts ds ≤ n ∧ txs ds
theorem G.mono {n m : Nat} {d : PyData} (h : G n d) (e : n ≤ m) : G m d := ⟨Nat.le_trans h.1 e, h.2⟩
theorem Gs.mono {n m : Nat} {d : List PyData} (h : Gs n d) (e : n ≤ m) : Gs m d := ⟨Nat.le_trans h.1 e, h.2⟩
theorem g_str {k : Nat} {x : Str} (h : x.length ≤ k) (hk : k ≤ 100) (ho : PyData.strOk x = true) : G (k + 2) (.str x) := by
  refine ⟨?_, by omega, ho⟩
  unfold wt
  rw [sizeB_lt (by omega)]
  show 1 + (1 + _) ≤ _
  omega
theorem g_int {i : Int} (h0 : 0 ≤ i) (h : i ≤ 999) : G 3 (.int i) := by
  refine ⟨?_, by omega, by omega⟩
  unfold wt
  rw [if_pos h0]
  have := sizeB_len 1 (n := i.toNat) (by omega)
  omega
theorem g_nil : Gs 0 [] := ⟨Nat.le_refl _, trivial⟩
theorem g_cons {a b : Nat} {x : PyData} {r : List PyData} (h : G a x) (h2 : Gs b r) : Gs (a + b) (x :: r) := ⟨Nat.add_le_add h.1 h2.1, h.2, h2.2⟩
theorem g_tup {n : Nat} {ds : List PyData} (h : Gs n ds) (hl : ds.length ≤ 100) : G (n + 2) (.tuple ds) := by
  refine ⟨?_, by omega, h.2⟩
  unfold wt
  rw [sizeB_lt (by omega)]
  show 1 + (1 + _) ≤ _
  have := h.1
  omega
theorem g_map {α : Type} {f : α → PyData} {n : Nat} : ∀ {l : List α}, (∀ x ∈ l, G n (f x)) → Gs (l.length * n) (l.map f)
  | [], _ => ⟨Nat.zero_le _, trivial⟩
  | x :: r, h => by
    have := g_cons (h x (.head _)) (g_map fun y hy => h y (.tail _ hy))
    refine Gs.mono this ?_
    rw [List.length_cons, Nat.succ_mul]
    omega
def wEx : Nat → Nat
  | 0 => 1
  | m + 1 => 2 * wEx m + 9
theorem wEx_pos : ∀ m, 1 ≤ wEx m
  | 0 => Nat.le_refl _
  | m + 1 => by show 1 ≤ 2 * wEx m + 9; omega
theorem ar_str {ar : List Arr} (h : okArr ar) {a : Arr} (m : a ∈ ar) : a.1.length ≤ 3 ∧ PyData.strOk a.1 = true := by
  have hm : a.1 ∈ ar.map (·.1) := List.mem_map_of_mem m
  rcases h.name with e | e | e | e <;> rw [e] at hm
  · cases hm
  all_goals
    simp only [List.mem_cons, List.mem_nil_iff, or_false] at hm
  · rw [hm]; exact ⟨by decide, by decide +kernel⟩
  · rcases hm with hm | hm <;> rw [hm] <;> exact ⟨by decide, by decide +kernel⟩
  · rcases hm with hm | hm | hm <;> rw [hm] <;> exact ⟨by decide, by decide +kernel⟩
theorem op_str {op : Str} (h : op ∈ pairs) : op.length ≤ 5 ∧ PyData.strOk op = true := by
  have : ∀ op ∈ pairs, op.length ≤ 5 ∧ PyData.strOk op = true := by decide +kernel
  exact this op h
theorem g_ex {ar : List Arr} (ha : okArr ar) : ∀ {m : Nat} {e : Ex}, okEx 3 ar m e → G (wEx m) e.d
  | 0, _, h => by cases h
  | m + 1, .int k, h => by
    have h : 0 ≤ k ∧ k < 2 ^ 3 := h
    exact (g_tup (g_cons (g_str (k := 3) (x := "int") (by decide) (by decide) (by decide +kernel)) (g_cons (g_int h.1 (by omega)) g_nil)) (by show 2 ≤ 100; decide)).mono (by show _ ≤ 2 * wEx m + 9; have := wEx_pos m; omega)
  | m + 1, .var v, h => by
    have h : 0 ≤ v ∧ v ≤ 39 := h
    exact (g_tup (g_cons (g_str (k := 3) (x := "var") (by decide) (by decide) (by decide +kernel)) (g_cons (g_int h.1 (by omega)) g_nil)) (by show 2 ≤ 100; decide)).mono (by show _ ≤ 2 * wEx m + 9; have := wEx_pos m; omega)
  | m + 1, .cell a e, h => by
    obtain ⟨⟨z, hz⟩, h⟩ : (∃ z, (a, z) ∈ ar) ∧ okEx 3 ar m e := h
    obtain ⟨s1, s2⟩ := ar_str ha hz
    have ih := g_ex ha h
    refine (g_tup (g_cons (g_str (k := 4) (x := "cell") (by decide) (by decide) (by decide +kernel)) (g_cons (g_str s1 (by decide) s2) (g_cons ih g_nil))) (by show 3 ≤ 100; decide)).mono ?_
    cases m with
    | zero => cases h
    | succ m =>
      show _ ≤ 2 * (2 * wEx m + 9) + 9
      show 4 + 2 + (3 + 2 + (2 * wEx m + 9 + 0)) + 2 ≤ _
      omega
  | m + 1, .pair op e f, h => by
    obtain ⟨hp, h1, h2⟩ : op ∈ pairs ∧ okEx 3 ar m e ∧ okEx 3 ar m f := h
    obtain ⟨s1, s2⟩ := op_str hp
    refine (g_tup (g_cons (g_str s1 (by decide) s2) (g_cons (g_ex ha h1) (g_cons (g_ex ha h2) g_nil))) (by show 3 ≤ 100; decide)).mono ?_
    show 5 + 2 + (wEx m + (wEx m + 0)) + 2 ≤ 2 * wEx m + 9
    omega
  | m + 1, .single op e, h => by
    obtain ⟨hp, h⟩ : (op = "not" ∨ op = "neg") ∧ okEx 3 ar m e := h
    have s : op.length ≤ 3 ∧ PyData.strOk op = true := by
      rcases hp with rfl | rfl <;> exact ⟨by decide, by decide +kernel⟩
    refine (g_tup (g_cons (g_str s.1 (by decide) s.2) (g_cons (g_ex ha h) g_nil)) (by show 2 ≤ 100; decide)).mono ?_
    show 3 + 2 + (wEx m + 0) + 2 ≤ 2 * wEx m + 9
    omega
theorem g_ex5 {ar : List Arr} (ha : okArr ar) {e : Ex} (h : okEx 3 ar 5 e) : G 311 e.d := (g_ex ha h).mono (by decide)
theorem ot_str {ot : List Oth} (h : okOth ot) {a : Oth} (m : a ∈ ot) : a.1.length ≤ 4 ∧ PyData.strOk a.1 = true ∧ 0 ≤ a.2 ∧ a.2 ≤ 3 := by
  rcases h with rfl | rfl | rfl | rfl
  · cases m
  all_goals
    simp only [List.mem_cons, List.mem_nil_iff, or_false] at m
  · rw [m]; exact ⟨by decide, by decide +kernel, by decide, by decide⟩
  · rcases m with m | m <;> rw [m] <;> exact ⟨by decide, by decide +kernel, by decide, by decide⟩
  · rcases m with m | m <;> rw [m] <;> exact ⟨by decide, by decide +kernel, by decide, by decide⟩
theorem g_rw {ar : List Arr} {ot : List Oth} (ha : okArr ar) (ho : okOth ot) {r : Rw} (h : okRw 3 ar ot r) : G 960 r.d := by
  cases r with
  | set v e =>
    obtain ⟨hv, he⟩ : (0 ≤ v ∧ v ≤ 39) ∧ okEx 3 ar 5 e := h
    exact (g_tup (g_cons (g_str (k := 3) (x := "set") (by decide) (by decide) (by decide +kernel)) (g_cons (g_int hv.1 (by omega)) (g_cons (g_ex5 ha he) g_nil))) (by show 3 ≤ 100; decide)).mono (by decide)
  | take v =>
    have hv : 0 ≤ v ∧ v ≤ 39 := h
    exact (g_tup (g_cons (g_str (k := 4) (x := "take") (by decide) (by decide) (by decide +kernel)) (g_cons (g_int hv.1 (by omega)) g_nil)) (by show 2 ≤ 100; decide)).mono (by decide)
  | put e =>
    exact (g_tup (g_cons (g_str (k := 3) (x := "put") (by decide) (by decide) (by decide +kernel)) (g_cons (g_ex5 ha h) g_nil)) (by show 2 ≤ 100; decide)).mono (by decide)
  | store a e f =>
    obtain ⟨⟨z, hz⟩, h1, h2⟩ : (∃ z, (a, z) ∈ ar) ∧ okEx 3 ar 5 e ∧ okEx 3 ar 5 f := h
    obtain ⟨s1, s2⟩ := ar_str ha hz
    exact (g_tup (g_cons (g_str (k := 5) (x := "store") (by decide) (by decide) (by decide +kernel)) (g_cons (g_str s1 (by decide) s2) (g_cons (g_ex5 ha h1) (g_cons (g_ex5 ha h2) g_nil)))) (by show 4 ≤ 100; decide)).mono (by decide)
  | assert k e =>
    obtain ⟨hv, he⟩ : (0 ≤ k ∧ k ≤ 99) ∧ okEx 3 ar 5 e := h
    exact (g_tup (g_cons (g_str (k := 6) (x := "assert") (by decide) (by decide) (by decide +kernel)) (g_cons (g_int hv.1 (by omega)) (g_cons (g_ex5 ha he) g_nil))) (by show 3 ≤ 100; decide)).mono (by decide)
  | call v p es =>
    obtain ⟨hv, hp, he⟩ : (0 ≤ v ∧ v ≤ 39) ∧ (p, (es.length : Int)) ∈ ot ∧ ∀ e, e ∈ es → okEx 3 ar 5 e := h
    obtain ⟨s1, s2, s3, s4⟩ := ot_str ho hp
    have s4 : (es.length : Int) ≤ 3 := s4
    have ge := g_map (f := Ex.d) (n := 311) fun x hx => g_ex5 ha (he x hx)
    have ge := g_tup (ge.mono (show _ ≤ 3 * 311 from Nat.mul_le_mul_right _ (by omega))) (by rw [List.length_map]; omega)
    exact (g_tup (g_cons (g_str (k := 4) (x := "call") (by decide) (by decide) (by decide +kernel)) (g_cons (g_int hv.1 (by omega)) (g_cons (g_str s1 (by decide) s2) (g_cons ge g_nil)))) (by show 4 ≤ 100; decide)).mono (by decide)
theorem g_en {ar : List Arr} (ha : okArr ar) {r : En} (h : okEn 3 ar r) (ht : ∀ l, l ∈ r.to → 0 ≤ l ∧ l ≤ 999) : G 330 r.d := by
  cases r with
  | go l =>
    have := ht l (.head _)
    exact (g_tup (g_cons (g_str (k := 2) (x := "go") (by decide) (by decide) (by decide +kernel)) (g_cons (g_int this.1 this.2) g_nil)) (by show 2 ≤ 100; decide)).mono (by decide)
  | ifs e l m =>
    have h1 := ht l (.head _)
    have h2 := ht m (.tail _ (.head _))
    exact (g_tup (g_cons (g_str (k := 2) (x := "if") (by decide) (by decide) (by decide +kernel)) (g_cons (g_ex5 ha h) (g_cons (g_int h1.1 h1.2) (g_cons (g_int h2.1 h2.2) g_nil)))) (by show 4 ≤ 100; decide)).mono (by decide)
  | ret e =>
    exact (g_tup (g_cons (g_str (k := 6) (x := "return") (by decide) (by decide) (by decide +kernel)) (g_cons (g_ex5 ha h) g_nil)) (by show 2 ≤ 100; decide)).mono (by decide)
theorem lab_lt {g : Int} {k : Nat} (g1 : 1 ≤ g) (g3 : g ≤ 3) (hk : k ≤ 6) : ∀ l ∈ labs g k, 0 ≤ l ∧ l ≤ 999 := by
  have hg : g = 1 ∨ g = 2 ∨ g = 3 := by omega
  have hm' : k = 0 ∨ k = 1 ∨ k = 2 ∨ k = 3 ∨ k = 4 ∨ k = 5 ∨ k = 6 := by omega
  rcases hg with h | h | h <;> rcases hm' with e | e | e | e | e | e | e <;> subst h e <;> decide +kernel
theorem g_blk {ar : List Arr} {ot : List Oth} (ha : okArr ar) (ho : okOth ot) {bs : List Blk} (h : okDrawn 3 ar ot 3 12 bs) : bs.length ≤ 3 ∧ ∀ b ∈ bs, G 11870 b.d := by
  obtain ⟨g, k, g1, g3, k1, k6, k3, e, hb⟩ := h
  have hl : bs.length = k := by
    have := congrArg List.length e
    rw [List.length_map, labs_len] at this
    exact this
  refine ⟨by omega, fun b hm => ?_⟩
  obtain ⟨h1, h2, h3, h4⟩ := hb b hm
  have hlab : b.label ∈ labs g k := by
    rw [← e]
    exact List.mem_map_of_mem hm
  have := lab_lt g1 g3 k6 b.label hlab
  have gr := g_map (f := Rw.d) (n := 960) fun x hx => g_rw ha ho (h1 x hx)
  have gr := g_tup (gr.mono (show _ ≤ 12 * 960 from Nat.mul_le_mul_right _ h2)) (by rw [List.length_map]; omega)
  have ge := g_en ha h3 fun l hl => lab_lt g1 g3 k6 l (List.mem_of_mem_drop (h4 l hl))
  exact (g_tup (g_cons (g_int this.1 this.2) (g_cons gr (g_cons ge g_nil))) (by show 3 ≤ 100; decide)).mono (by decide)
theorem g_prog {p : Prog} (h : okPrg 3 3 p) : G 130000 p.d := by
  obtain ⟨ot, ho, e, hq⟩ := h.ot
  have len : p.procs.length ≤ 3 := by
    have := congrArg List.length e
    rw [List.length_map] at this
    rw [this]
    rcases ho with rfl | rfl | rfl | rfl <;> decide
  have gp : ∀ q ∈ p.procs, G 35640 q.d := by
    intro q hm
    obtain ⟨l3, gb⟩ := g_blk h.ar ho (hq q hm)
    have mem : (q.name, q.params) ∈ withMain ot := by
      rw [← e]
      exact List.mem_map_of_mem (f := fun q => (q.name, q.params)) hm
    have s : q.name.length ≤ 4 ∧ PyData.strOk q.name = true ∧ 0 ≤ q.params ∧ q.params ≤ 3 := by
      have : ∀ a ∈ withMain ot, a.1.length ≤ 4 ∧ PyData.strOk a.1 = true ∧ 0 ≤ a.2 ∧ a.2 ≤ 3 := by
        rcases ho with rfl | rfl | rfl | rfl <;> decide +kernel
      exact this _ mem
    have gr := g_map (f := Blk.d) (n := 11870) gb
    have gr := g_tup (gr.mono (show _ ≤ 3 * 11870 from Nat.mul_le_mul_right _ l3)) (by rw [List.length_map]; omega)
    exact (g_tup (g_cons (g_str s.1 (by decide) s.2.1) (g_cons (g_int s.2.2.1 (by omega)) (g_cons gr g_nil))) (by show 3 ≤ 100; decide)).mono (by decide)
  have al : p.arrays.length ≤ 3 := by
    have := List.length_map (as := p.arrays) (·.1)
    rcases h.ar.name with e | e | e | e <;> rw [e] at this <;> simp at this <;> omega
  have ga : ∀ a ∈ p.arrays, G 10 (arrD a) := fun a hm => by
    obtain ⟨s1, s2⟩ := ar_str h.ar hm
    have := h.ar.size a hm
    exact (g_tup (g_cons (g_str s1 (by decide) s2) (g_cons (g_int (by omega) (by omega)) g_nil)) (by show 2 ≤ 100; decide)).mono (by decide)
  have ga := g_map (f := arrD) (n := 10) ga
  have ga := g_tup (ga.mono (show _ ≤ 3 * 10 from Nat.mul_le_mul_right _ al)) (by rw [List.length_map]; omega)
  have gq := g_map (f := Pro.d) (n := 35640) gp
  have gq := g_tup (gq.mono (show _ ≤ 3 * 35640 from Nat.mul_le_mul_right _ len)) (by rw [List.length_map]; omega)
  have hw : (p.w : Int) = 3 := by rw [h.w] <;> rfl
  exact (g_tup (g_cons (g_int (by omega) (by omega)) (g_cons ga (g_cons gq g_nil))) (by show 3 ≤ 100; decide)).mono (by decide)
theorem noLst_vl {K : PySem.W.Frag} {H : Hp} {d : PyData} {v : V} (h : Dp K H v d) : Vl K H v d := dp_vl d h
end My

set_option Elab.async false
set_option maxRecDepth 100000
set_option maxHeartbeats 4000000
set_option linter.all false
/-! A law that shows data: run where no repr is under way. -/
namespace My
open PySem PySem.Spec PyProof.Rows L2
/-- as FnOk, asked for only where no repr is under way -/
def RunG (P : Program) (w : World) (K : PySem.W.Frag) (mg : Str → Option Value) (base : Heap) (k : Nat) (f : Addr) (fd : FuncData) (ps : List Str) (sp : Sp) : Prop :=
  ∀ (B : Around) (out : List Env) (t : Shared) (G : Hp) (as : Args) (zs : List Value) (ys : List V) (R : VK) (X : XK), B.guards = some [] → Room k B →
    Env0 P w K mg base B out t G → BindsTo t fd as (ps.zip zs) → Vals ys zs → sp ys G R X → codeAny (model P w) B (.call (.ref f) as) (CR CX0 out P w G t R X) t
theorem run_of {P : Program} {w : World} {K : PySem.W.Frag} {mg : Str → Option Value} {base : Heap} {x qual : Str} {st : Stmt} {f : Addr} {fd : FuncData} {N ps : List Str} {k : Nat} {sp : Sp} (F : Fun K x qual st f fd) (S : FnScope N ps (defScope st))
    (len : ∀ ys G R X, sp ys G R X → ys.length = ps.length)
    (body : ∀ (cd : Value) (B : Around) (out : List Env) (t : Shared) (G : Hp) (ys : List V) (R : VK) (X : XK), B.guards = some [] → Room k (B.deeper (envOfC qual (defScope st) t.heap.objs.size f cd)) → sp ys G R X →
      ∃ u, PSs (cxOf CX0 P w K mg base N qual (defScope st) f cd B out t G X).nox (defBody st) u ∧ u { nx := fun _ G' => R .non G', rt := R } (start N ys) G) :
    RunG P w K mg base (k + 1) f fd ps sp := by
  obtain ⟨oc, od, kV, doc, pm, an, cd, ct, osl, rfl, lk, rec⟩ := F.ex
  intro B out t G as zs ys R X hg room env bi rel hsp
  have below := fun b o e => (env.bs b o e).1
  have inK : K.In t.heap := env.mod.kin.keeps below
  have kinds : ∀ y ∈ ps.zip zs, (defScope st).names.lookup y.1 = some .local ∨ ((defScope st).names.lookup y.1 = some .cell ∧ ((cellsFrom (t.heap.objs.size + 1) (defScope st).names []).lookup y.1).isSome = true) := by
    rintro ⟨n, v⟩ hy
    have hn := (List.of_mem_zip hy).1
    rcases S.par n hn with h | h
    · exact Or.inl h
    · exact Or.inr ⟨h, PySem.W.cellsFrom_some _ _ _ (Or.inl h)⟩
  refine codeAny_call_function room.depth (inK _ _ lk) rfl S.co S.gen rfl (PySem.W.codeRec_of inK rec) (bi _ _ _ _ ?_)
  refine wpAny_newFunctionEnv_cells S.kind kinds fun env1 h1 t1 z => ?_
  subst h1
  refine ⟨(env.mod.nolimit.keeps below).keeps z.toInCall.keep, codeAny_func ?_⟩
  obtain ⟨u, hu, hR⟩ := body cd B out t G ys R X hg (room.deeper _) hsp
  have J0 : Inv (cxOf CX0 P w K mg base N qual (defScope st) f cd B out t G X) [] (start N ys) G t1 := inv_start S room.hd env (len _ _ _ _ hsp) rel z
  refine wpAny_mono (hu.nox.run [] t1 (start N ys) G _ J0 hR) (fun fl t' got => ?_) fun e t' got => got
  match fl, got with
  | .ret _, ⟨v, σ', G', J, rv, q⟩ => exact ⟨v, G', J.os, J.bare, J.base, J.hok, rv, q⟩
  | .next, ⟨σ', G', J, q⟩ => exact ⟨V.non, G', J.os, J.bare, J.base, J.hok, rfl, q⟩
  | .brk, ⟨_, _, _, q⟩ => exact False.elim q
  | .cont, ⟨_, _, _, q⟩ => exact False.elim q
/-- the object of the script's list -/
def scr (zs : List Value) : Obj := { cls := .type "list", data := .seq zs.toArray }
theorem head_of {P : Program} {w : World} {K : PySem.W.Frag} {mg mb : Str → Option Value} {k : Nat} {fl sa : Addr} {fd : FuncData} {x : Str} {sp : Sp} {t : Shared} {zs : List Value} {ns : List Int}
    (inK : K.In t.heap) (gl : t.heap.Ns mainGlobals mg) (bu : t.heap.Ns builtinsNs mb) (boot : ∀ x : Str, x ≠ "__name__" → mb x = bootBuiltins x) (free : t.heap.NoLimit) (gens : t.gens = #[])
    (hs : t.heap.get? sa = some (scr zs)) (ia : IntsAre zs ns) (len : ns.length ≤ sizeLine) (room : Room k callerA)
    (F : ∀ b : Heap, K.In b → b.Ns mainGlobals mg → RunG P w K mg b k fl fd [x] sp) (bi : ∀ (s : Shared) (u : Value), BindsTo s fd ⟨[u], []⟩ [(x, u)])
    (promise : ∀ G : Hp, Only G → SqL K G sa (ns.map V.int) → sp [.ref sa] G (fun v _ => v = .bl true) fun _ _ _ => False) :
    codeAny (model P w) callerA (.call (.ref fl) ⟨[.ref sa], []⟩) (fun r t' => r = .ok (.ret (.bool true)) ∧ OldK t.heap t'.heap ∧ t'.os = t.os ∧ AllBare t'.gens) t := by
  -- G tells at most the script
  suffices main : ∀ G : Hp, (∀ b u, G b = some u → b = sa ∧ K.lookup sa = none ∧ u = .frz (scr zs) (.lst (ns.map V.int))) → SqL K G sa (ns.map V.int) → HOk P w G t.heap →
      codeAny (model P w) callerA (.call (.ref fl) ⟨[.ref sa], []⟩) (fun r t' => r = .ok (.ret (.bool true)) ∧ OldK t.heap t'.heap ∧ t'.os = t.os ∧ AllBare t'.gens) t by
    cases own : K.lookup sa with
    | none =>
      refine main (fun b => if b = sa then some (.frz (scr zs) (.lst (ns.map V.int))) else none) (fun b u e => ?_) (.inl (.inr ⟨scr zs, if_pos rfl⟩)) (fun b u e => ?_)
      all_goals
        have e : (if b = sa then some (HO.frz (scr zs) (.lst (ns.map V.int))) else none) = some u := e
        by_cases h : b = sa
        · rw [if_pos h] at e
          cases e
          subst h
          first
            | exact ⟨rfl, own, rfl⟩
            | exact ⟨hs, by rw [List.length_map]; exact len, zs, _, vals_ints ia, hs⟩
        · rw [if_neg h] at e
          cases e
    | some o =>
      have he := inK sa o own
      rw [hs] at he
      cases he
      refine main (fun _ => none) (fun b u e => nomatch e) (.inr ⟨_, zs.toArray, _, own, rfl, rfl, rfl, ?_, ?_⟩) (fun b u e => nomatch e)
      · rw [List.size_toArray, ia.length]
        exact len
      · have := vals_ints ia
        simpa using this
  intro G only sq hok
  have away : ∀ {b : Addr} {o : Obj}, t.heap.get? b = some o → (b = sa → False) → (hidT t.heap G).get? b = some o := fun {b o} e n => by
    refine hidT_get e ?_
    cases g : G b with
    | none => rfl
    | some u => exact (n (only b u g).1).elim
  have space : ∀ {b : Addr} {m : Str → Option Value}, t.heap.Ns b m → (hidT t.heap G).Ns b m := by
    rintro b m ⟨o, es, ep, e, d, r⟩
    refine ⟨o, es, ep, away e fun h => ?_, d, r⟩
    rw [h, hs] at e
    cases e
    exact Data.noConfusion d
  have inB : K.In (hidT t.heap G) := fun b o e => by
    cases g : G b with
    | none => exact hidT_get (inK b o e) g
    | some u =>
      obtain ⟨rfl, h, _⟩ := only b u g
      rw [h] at e
      cases e
  have md : Mod K mg (hidT t.heap G) := by
    obtain ⟨mc, l1, l2⟩ := free
    exact ⟨inB, space gl, ⟨mb, space bu, boot⟩, mc, space l1, l2⟩
  have nil : ∀ b : Addr, b ∈ ([] : List Addr) → False := fun b h => nomatch h
  have env : Env0 P w K mg (hidT t.heap G) callerA [] t G := ⟨rfl, md, fun _ _ e => of_hidT e, Nat.le_of_eq (hidT_size _ _), trivial, fun b h => (nil b h).elim, hok, .of_eq gens⟩
  have isOnly : Only G := fun b => by
    cases g : G b with
    | none => exact Or.inl rfl
    | some u => exact Or.inr ⟨_, _, congrArg some (only b u g).2.2⟩
  have go := F _ inB (space gl) callerA [] t G ⟨[.ref sa], []⟩ [.ref sa] [.ref sa] _ _ rfl room env (bi t (.ref sa)) (.cons rfl .nil) (promise G isOnly sq)
  refine codeAny_mono go fun r t' got => ?_
  match r, got with
  | .error e, h => exact (h : False).elim
  | .ok .next, h => exact (h : False).elim
  | .ok .brk, h => exact (h : False).elim
  | .ok .cont, h => exact (h : False).elim
  | .ok (.ret u), ⟨v, G', os, bare, un, hok', rv, q⟩ =>
    obtain rfl : v = .bl true := q
    obtain rfl : u = Value.bool true := rv
    refine ⟨rfl, OldK.of_keep fun b o e => ?_, os, bare⟩
    cases g : G b with
    | none => exact un.keep b o e g (fun h => nil b h) (fun h => nil b h)
    | some z =>
      obtain ⟨_, _, rfl⟩ := only b z g
      have e1 := (hok b _ g).1
      rw [e] at e1
      cases e1
      exact (hok' b _ (un.frzs b _ _ g)).1
theorem walk_run {l : PySem.W.OpenLaw} {n k : Nat} {q : Program} {loose : List Str} {XP : (Str → Option Value) → Heap → Prop} {YP : World → Heap → Prop} {d : DefRec} {K : Params → PySem.W.Frag} {sp : PySem.W.Frag → Sp} {x : Str}
    (most : l.most = some n) (few : n ≤ sizeLine) (nod : d.params.defaults = []) (room : Room k callerA)
    (top : ∀ (w : World) (h : Heap), YP w h → (K w.params).In h)
    (F : ∀ (w : World) (mg : Str → Option Value) (fl : Addr) (h : Heap), (K w.params).In h → h.Ns mainGlobals mg → mg d.name = some (.ref fl) →
      ∃ fd : FuncData, (∀ (s : Shared) (u : Value), BindsTo s fd ⟨[u], []⟩ [(x, u)]) ∧
        ∀ b : Heap, (K w.params).In b → b.Ns mainGlobals mg → RunG l.prog w (K w.params) mg b k fl fd [x] (sp (K w.params)))
    (promise : ∀ (K : PySem.W.Frag) (G : Hp) (sa : Addr) (ns : List Int), ns.length ≤ n → Only G → SqL K G sa (ns.map V.int) → sp K [.ref sa] G (fun v _ => v = .bl true) fun _ _ _ => False) :
    PySem.W.WalkO q loose XP YP l.row.toRowW d [] (fun f vs => PySem.call f vs) := by
  refine Att.attach_call most nod ?_
  intro w s0 t mg mb fl o pm cd doc sa zs ns ground y _ _ _ name obj ia many gens
  have inK := top w _ y
  obtain ⟨fd, bi, run⟩ := F w mg fl _ inK ground.T.g name
  exact head_of inK ground.T.g ground.T.b ground.T.builtins ground.T.nolimit gens obj ia (Nat.le_trans many few) room run bi fun G h1 h2 => promise (K w.params) G sa ns many h1 h2
end My

set_option Elab.async false
set_option maxRecDepth 100000
set_option maxHeartbeats 4000000
set_option linter.all false
namespace My
open PySem L2 P6
open C8 (pss_cut)
def spLaw (K : PySem.W.Frag) : Sp := fun vs H Q _ => ∃ (a : Addr) (ns : List Int), vs = [.ref a] ∧ SqL K H a (ns.map V.int) ∧ ns.length ≤ 63 ∧ ∀ H', Q (.bl true) H'
def nbD (bs : List Nat) : List PyData := bs.map fun (n : Nat) => .int (n : Int)
theorem dpa_nb {K : PySem.W.Frag} {H : Hp} : ∀ bs : List Nat, DpAll K H (nB bs) (nbD bs)
  | [] => .nil
  | b :: r => .cons (.int _) (dpa_nb r)
theorem lay_nb : ∀ bs : List Nat, PyData.canLayAll0 (nbD bs) = true ∧ PyData.depthAll (nbD bs) = 0
  | [] => ⟨rfl, rfl⟩
  | b :: r => by
    obtain ⟨h1, h2⟩ := lay_nb r
    exact ⟨by show (true && PyData.canLayAll0 (nbD r)) = true; rw [h1]; rfl, by show max 0 (PyData.depthAll (nbD r)) = 0; rw [h2]; rfl⟩
theorem shp_nb (bs : List Nat) : SeqAt.shaped (.list (nbD bs)) = true := by
  obtain ⟨h1, h2⟩ := lay_nb bs
  show (PyData.canLay0 (.list (nbD bs)) && decide (PyData.depth (.list (nbD bs)) ≤ 64)) = true
  simp only [PyData.canLay0, PyData.depth, h1, h2]
  rfl
theorem dun_enc {pd : PyData} {bs : List Nat} (e : enc pd 60 = some bs) : told (dun bs) = .tuple [.str "value", pd] := by
  have h := dval_enc pd 60 bs [] [] e
  rw [List.append_nil, List.nil_append] at h
  have h : dval bs 60 0 = .ok pd (0 + bs.length) := h
  unfold dun
  rw [h]
  show told (if 0 + bs.length < bs.length then _ else _) = _
  rw [if_neg (by omega)]
  rfl
theorem told_ref {K : PySem.W.Frag} {H : Hp} {v : V} {r : Rs PyData} (h : Dp K H v (told r)) : ∃ a, v = .ref a := by
  cases r with
  | ok d j => cases h with | tup _ _ => exact ⟨_, rfl⟩
  | bad e => cases h with | tup _ _ => exact ⟨_, rfl⟩
section
variable {P : Program} {w : World} {K : PySem.W.Frag} {mg : Str → Option Value} {base : Heap} {f : Addr} {fd : FuncData} {C : Addr}
theorem ok_law (T : Txt K mg) (ER : Err P w K mg base "PackError" "at" "at" C 1) (CT : Cat K C "at") (D : Def K mg "law" ["script"] s_law f fd) (O1 : Own P w K mg base "_law_draw" ["script"] 1 (spDraw K)) (O2 : Own P w K mg base "_law_take" ["draw", "many"] 1 spTake) (O3 : Own P w K mg base "_law_program" ["draw", "w", "blocks", "rows"] 29 (spProgram K)) (O4 : Own P w K mg base "_law_plain" ["draw", "depth"] 6 (spPlain K 5)) (O5 : Own P w K mg base "_law_bytes" ["value", "depth"] 62 (spLBytes K 61)) (O6 : OwnX P w K mg base "pack" ["value"] 66 (spPack K C)) (O7 : Own P w K mg base "_law_told" ["data"] 69 (spTold K)) (O8 : Own P w K mg base "_law_due" ["data"] 63 (spTold K)) (O9 : Own P w K mg base "_law_changed" ["draw", "data"] 2 spChanged) : RunG P w K mg base 70 f fd ["script"] (spLaw K) := by
  obtain ⟨f_law_draw, fd_law_draw, m_law_draw, k_law_draw, b_law_draw, G_law_draw⟩ := O1
  obtain ⟨f_law_take, fd_law_take, m_law_take, k_law_take, b_law_take, G_law_take⟩ := O2
  obtain ⟨f_law_program, fd_law_program, m_law_program, k_law_program, b_law_program, G_law_program⟩ := O3
  obtain ⟨f_law_plain, fd_law_plain, m_law_plain, k_law_plain, b_law_plain, G_law_plain⟩ := O4
  obtain ⟨f_law_bytes, fd_law_bytes, m_law_bytes, k_law_bytes, b_law_bytes, G_law_bytes⟩ := O5
  obtain ⟨fpack, fdpack, mpack, kpack, bpack, Gpack⟩ := O6
  obtain ⟨f_law_told, fd_law_told, m_law_told, k_law_told, b_law_told, G_law_told⟩ := O7
  obtain ⟨f_law_due, fd_law_due, m_law_due, k_law_due, b_law_due, G_law_due⟩ := O8
  obtain ⟨f_law_changed, fd_law_changed, m_law_changed, k_law_changed, b_law_changed, G_law_changed⟩ := O9
  have mPackError := ER.gl
  have XFPackError := CT.xf
  have noPackError := CT.no
  refine run_of D.fn sc_law (fun vs H Q E h => ?_) (fun cdv A outer s H vs Q E hg hr h => ?_)
  · obtain ⟨_, _, rfl, _⟩ := h
    rfl
  · obtain ⟨a, ns, rfl, hS, hn, q⟩ := h
    refine ⟨_, (pss_cons (ps_set (i := 1) sc_law.nd rfl (Or.inl rfl) (pe_call G_law_draw (hr.mono (by omega)) rfl m_law_draw k_law_draw b_law_draw .nil pass0 (pa_cons (pv 0) pa_nil)))
      (pss_cons (ps_set (i := 2) sc_law.nd rfl (Or.inl rfl) (pe_cut (pe_ifExp (pt_cmpR op_eq (pe_call G_law_take (hr.mono (by omega)) rfl m_law_take k_law_take b_law_take .nil pass0 (pa_cons (pv 1) (pa_cons pe_int pa_nil))) pe_int (nomark _)) (pe_call G_law_program (hr.mono (by omega)) rfl m_law_program k_law_program b_law_program .nil pass0 (pa_cons (pv 1) (pa_cons pe_int (pa_cons pe_int (pa_cons pe_int pa_nil))))) (pe_call G_law_plain (hr.mono (by omega)) rfl m_law_plain k_law_plain b_law_plain .nil pass0 (pa_cons (pv 1) (pa_cons pe_int pa_nil))))))
      (pss_cons (ps_set (i := 3) sc_law.nd rfl (Or.inl rfl) (pe_call G_law_bytes (hr.mono (by omega)) rfl m_law_bytes k_law_bytes b_law_bytes .nil pass0 (pa_cons (pv 2) (pa_cons pe_int pa_nil))))
      (pss_cons (ps_try_as (i := 5) rfl rfl sc_law.nd rfl rfl ⟨rfl, by decide, .inl mPackError⟩ takes0 (fun W pn xe tk _ => (pss_one (ps_set (i := 4) sc_law.nd rfl (Or.inl rfl) (pe_callS Gpack (hr.mono (by omega)) rfl mpack kpack bpack (fun σ => passAt tk σ) (pa_cons (pv 2) pa_nil)))))
      (fun a oe cls d pn hz hf => (pss_one (ps_ret (pe_and (pe_cmpR op_isN (pv 3) pe_non (nomark _)) (pe_one (pe_cmpR op_eq (pe_xf XFPackError noPackError hz hf (pv 5)) (pe_un un_neg pe_int) (nomark _))))))))
      (pss_cons (ps_if (pt_cut (PW.pt (pw_or (pt_cmpR op_isN (pv 3) pe_non (nomark _)) (pw_or (pt_cmpR (op_neD hr.units) (pv 4) (pv 3) (nomark _)) (pw_or (pt_not (pt_val (pe_callB cr_isiV (by rfl) T.m_isinstance (by decide +kernel) (pa_cons (pv 4) (pa_cons (pe_bltn (v := .ty "list") (u := .type "list") (by rfl) T.m_list (by decide +kernel) (by rfl)) pa_nil))))) (pw_or1 (pt_cmpR op_ne (pe_callB (call_repr_dp hg) (by rfl) T.m_repr (by decide +kernel) (pa_cons (pe_call G_law_told (hr.mono (by omega)) rfl m_law_told k_law_told b_law_told .nil pass0 (pa_cons (pv 4) pa_nil)) pa_nil)) (pe_callB (call_repr_dp hg) (by rfl) T.m_repr (by decide +kernel) (pa_cons (pe_tup (pa_cons pe_str (pa_cons (pv 2) pa_nil))) pa_nil)) (nomark _)))))))) (pss_one (ps_ret pe_bl)) pss_nil)
      (pss_cons (ps_for PassesOwn.never rfl (pi_range1 (by rfl) T.m_range (pa_cons pe_int pa_nil)) (pg_name (i := 6) sc_law.nd rfl (Or.inl rfl)) (pss_cons (ps_set (i := 4) sc_law.nd rfl (Or.inl rfl) (pe_call G_law_changed (hr.mono (by omega)) rfl m_law_changed k_law_changed b_law_changed .nil pass0 (pa_cons (pv 1) (pa_cons (pv 4) pa_nil))))
      (pss_one (ps_if (pt_cmpR op_ne (pe_callB (call_repr_dp hg) (by rfl) T.m_repr (by decide +kernel) (pa_cons (pe_call G_law_told (hr.mono (by omega)) rfl m_law_told k_law_told b_law_told .nil pass0 (pa_cons (pv 4) pa_nil)) pa_nil)) (pe_callB (call_repr_dp hg) (by rfl) T.m_repr (by decide +kernel) (pa_cons (pe_call G_law_due (hr.mono (by omega)) rfl m_law_due k_law_due b_law_due .nil pass0 (pa_cons (pv 4) pa_nil)) pa_nil)) (nomark _)) (pss_one (ps_ret pe_bl)) pss_nil))))
      (pss_one (ps_ret pe_bl)))))))), ?_⟩
    refine ⟨_, rfl, a, ns, rfl, hS, hn, fun d L H1 hd0 hL0 s1 D1 => ?_⟩
    refine ⟨fun v H' => ∃ pd, DrawAt H' d L ∧ Vl K (hide d H') v pd ∧ wt pd ≤ 130000 ∧ tx pd, ⟨_, rfl, d, L, 4, rfl, by decide, by decide, D1, fun k H2 k0 k1 D2 s2 => ⟨rfl, _, rfl, ite2 (fun _ => ?_) (fun _ => ?_)⟩⟩, ?_⟩
    · exact ⟨_, rfl, d, L, 3, 3, 3, rfl, by decide, by decide, by decide, by decide, by decide, D2, fun v p H3 D3 s3 hv hok => ⟨p.d, D3, dp_vl _ hv, (g_prog hok).1, (g_prog hok).2⟩⟩
    · exact ⟨_, rfl, d, L, 4, rfl, by decide, D2, fun v pd H3 D3 s3 hv hw ht => ⟨pd, D3, vl_mono exc_le _ hv, Nat.le_trans hw (by decide), ht⟩⟩
    rintro v H2 ⟨pd, D2, hv, hw, ht⟩
    have hv2 := vl_mono hide_le pd hv
    refine ⟨_, rfl, v, pd, 60, 0, rfl, by decide, rfl, hv2, hw, ht, fun bs e H3 p s3 hp => ?_, fun e H3 s3 => ?_⟩
    rotate_left
    · -- no bytes
      refine ⟨_, rfl, v, pd, rfl, vl_mono s3 pd hv2, hw, fun bs' e' => absurd (e.symm.trans e') (by intro z; cases z), fun _ dx H4 s4 hx => ?_⟩
      refine ⟨true, CT.yes, fun _ ae ha => ?_, fun z => Bool.noConfusion z⟩
      exact ⟨_, rfl, rfl, _, rfl, ite2 (fun _ => ⟨_, rfl, rfl, rfl, dx, _, _, rfl, hx, rfl, 1, rfl, rfl, q _⟩) (fun c => absurd rfl c)⟩
    have D3 := D2.mono s3
    refine ⟨_, rfl, v, pd, rfl, vl_mono s3 pd hv2, hw, fun bs' e' H4 p4 s4 hn4 hp4 => ?_, fun e' => absurd (e.symm.trans e') (by intro z; cases z)⟩
    obtain rfl : bs = bs' := Option.some.inj (e.symm.trans e')
    have F0 := fit_enc ht hw e
    have D4 := D3.mono s4
    have hp3 := s4 _ _ hp
    have hv4 := vl_mono (s3.trans s4) pd hv2
    refine ⟨fun b H' => b = false ∧ Same H4 H', ?_, ?_⟩
    · refine ⟨_, rfl, rfl, _, rfl, ite2 (fun c => absurd (of_decide_eq_true c) (fun z => by cases z)) (fun _ => ?_)⟩
      refine ⟨_, rfl, _, rfl, .list (nbD bs), .list (nbD bs), .lst (SqL.of hp4) (dpa_nb bs), .lst (SqL.of hp3) (dpa_nb bs), shp_nb bs, shp_nb bs, _, rfl, ite2 (fun c => ?_) (fun _ => ?_)⟩
      · rw [SeqAt.eqv_refl _ (by simpa [PyData.canLay0] using (lay_nb bs).1)] at c
        cases c
      refine ⟨_, rfl, _, .list (nbD bs), "list", true, rfl, dp_vl _ (.lst (SqL.of hp4) (dpa_nb bs)), rfl, true, rfl, ite2 (fun c => absurd c Bool.false_ne_true) (fun _ => ?_)⟩
      refine ⟨_, rfl, p4, bs, rfl, hp4, F0.ok (by decide), fun v5 H5 s5 hd5 => ?_⟩
      obtain ⟨a5, rfl⟩ := told_ref hd5
      obtain ⟨t1, t2, t3, t4⟩ := told_shw F0 (by decide)
      refine ⟨a5, _, rfl, hd5, ⟨t1, t2⟩, ?_, t4, ?_⟩
      · exact Nat.lt_of_le_of_lt (Nat.add_le_add_left (show _ + 1 ≤ 64 by omega) _) hr.units
      refine ⟨_, rfl, by show 2 ≤ sizeLine; decide, fun a6 h6 => ?_⟩
      rw [dun_enc e] at t1 t2 t3 t4 ⊢
      refine ⟨a6, .tuple [.str "value", pd], rfl, .tup (.inl (.inl upd_same)) (.cons (.str _) (.cons (dp_mono (s5.trans (same_new h6 _)) _ (vl_dp pd e hv4)) .nil)), ⟨t1, t2⟩, ?_, t4, rfl, _, rfl, ?_, s5.trans (same_new h6 _)⟩
      · exact Nat.lt_of_le_of_lt (Nat.add_le_add_left (show _ + 1 ≤ 64 by omega) _) hr.units
      · rw [decide_eq_true rfl]
        rfl
    rintro b H5 ⟨rfl, s5⟩
    refine ite2 (fun c => absurd c Bool.false_ne_true) (fun _ => ?_)
    have D5 := D4.mono s5
    have g5 : hide d H5 p4 = some (.lst (nB bs)) := hide_in (s5 _ _ hp4) (fun z => by
      obtain ⟨u, hu⟩ := D3.at
      rw [z, hu] at hn4
      cases hn4)
    refine ⟨6, rfl, by decide, by decide, for_range (lo := 0) (n := 6) (fun j σ' H' => ∃ (D : Addr) (cs : List Nat) (tp : Option V), σ' = [some (.ref a), some (.ref d), some v, some (.ref p), some (.ref D), none, tp] ∧ DrawAt H' d L ∧ hide d H' D = some (.lst (nB cs)) ∧ Fit j cs) ⟨p4, bs, none, rfl, D5, g5, F0⟩ ?_ ?_⟩
    · rintro j σ' H6 hj ⟨D, cs, tp, rfl, D6, g6, F6⟩
      refine ⟨_, rfl, _, rfl, d, L, D, cs, rfl, D6, g6, by have := F6.len; omega, fun p7 cs7 H7 D7 s7 g7 ed => ?_⟩
      have F7 := F6.edit ed
      obtain ⟨t1, t2, t3, t4⟩ := told_shw F7 (by omega)
      refine ⟨_, rfl, p7, cs7, rfl, hide_le _ _ g7, F7.ok (by omega), fun v8 H8 s8 hd8 => ?_⟩
      obtain ⟨a8, rfl⟩ := told_ref hd8
      refine ⟨a8, _, rfl, hd8, ⟨t1, t2⟩, ?_, t4, ?_⟩
      · exact Nat.lt_of_le_of_lt (Nat.add_le_add_left (show _ + 1 ≤ 64 by omega) _) hr.units
      refine ⟨_, rfl, p7, cs7, rfl, s8 _ _ (hide_le _ _ g7), F7.ok (by omega), fun v9 H9 s9 hd9 => ?_⟩
      obtain ⟨a9, rfl⟩ := told_ref hd9
      refine ⟨a9, _, rfl, hd9, ⟨t1, t2⟩, ?_, t4, rfl, _, rfl, ite2 (fun c => ?_) (fun _ => ?_)⟩
      · exact Nat.lt_of_le_of_lt (Nat.add_le_add_left (show _ + 1 ≤ 64 by omega) _) hr.units
      · rw [decide_eq_true rfl] at c
        cases c
      · exact ⟨p7, cs7, _, rfl, D7.mono (s8.trans s9), hide_same (s8.trans s9) _ _ g7, F7⟩
    · rintro σ' H6 ⟨D, cs, tp, rfl, D6, g6, F6⟩
      exact q _
end
end My

set_option Elab.async false
set_option maxRecDepth 100000
set_option maxHeartbeats 8000000
set_option linter.all false
namespace My
open PySem L2 P6 PyProof.Rows
theorem Own.mono {P : Program} {w : World} {K : PySem.W.Frag} {mg : Str → Option Value} {base : Heap} {x : Str} {ps : List Str} {j k : Nat} {sp : Sp} (o : Own P w K mg base x ps j sp) (h : j ≤ k) : Own P w K mg base x ps k sp := by
  obtain ⟨f, fd, a, b, c, F⟩ := o
  exact ⟨f, fd, a, b, c, F.mono h⟩
theorem all_mk {l : PySem.W.OpenLaw} {w : World} {K : PySem.W.Frag} {h : Heap} {mg : Str → Option Value} {fa : Addr} (X : K.In h) (G : h.Ns mainGlobals mg) (hfa : mg "law" = some (.ref fa))
    {f0 : Addr} {od0 an0 : Option Addr} {sl0 : Array (Option Value)} {oc0 kV0 dc0 pm0 cd0 ct0 : Value}
    (a0 : PySem.W.nsIn K mainGlobals "is_between" = some (some (.ref f0)))
    (l0 : K.lookup f0 = some ⟨oc0, od0, .func (PySem.W.fnOf "is_between" "is_between" (defArgs s_is_between) (defBody s_is_between) (defScope s_is_between) .none kV0 dc0 pm0 an0 cd0 ct0), sl0⟩)
    (c0 : PySem.W.codeIn K cd0 "is_between" = true)
    (k0 : PySem.W.keepIn K (.ref f0) = true)
    {f1 : Addr} {od1 an1 : Option Addr} {sl1 : Array (Option Value)} {oc1 kV1 dc1 pm1 cd1 ct1 : Value}
    (a1 : PySem.W.nsIn K mainGlobals "pack" = some (some (.ref f1)))
    (l1 : K.lookup f1 = some ⟨oc1, od1, .func (PySem.W.fnOf "pack" "pack" (defArgs s_pack) (defBody s_pack) (defScope s_pack) .none kV1 dc1 pm1 an1 cd1 ct1), sl1⟩)
    (c1 : PySem.W.codeIn K cd1 "pack" = true)
    (k1 : PySem.W.keepIn K (.ref f1) = true)
    {f2 : Addr} {od2 an2 : Option Addr} {sl2 : Array (Option Value)} {oc2 kV2 dc2 pm2 cd2 ct2 : Value}
    (a2 : PySem.W.nsIn K mainGlobals "pack_into" = some (some (.ref f2)))
    (l2 : K.lookup f2 = some ⟨oc2, od2, .func (PySem.W.fnOf "pack_into" "pack_into" (defArgs s_pack_into) (defBody s_pack_into) (defScope s_pack_into) .none kV2 dc2 pm2 an2 cd2 ct2), sl2⟩)
    (c2 : PySem.W.codeIn K cd2 "pack_into" = true)
    (k2 : PySem.W.keepIn K (.ref f2) = true)
    {f3 : Addr} {od3 an3 : Option Addr} {sl3 : Array (Option Value)} {oc3 kV3 dc3 pm3 cd3 ct3 : Value}
    (a3 : PySem.W.nsIn K mainGlobals "place_of" = some (some (.ref f3)))
    (l3 : K.lookup f3 = some ⟨oc3, od3, .func (PySem.W.fnOf "place_of" "place_of" (defArgs s_place_of) (defBody s_place_of) (defScope s_place_of) .none kV3 dc3 pm3 an3 cd3 ct3), sl3⟩)
    (c3 : PySem.W.codeIn K cd3 "place_of" = true)
    (k3 : PySem.W.keepIn K (.ref f3) = true)
    {f4 : Addr} {od4 an4 : Option Addr} {sl4 : Array (Option Value)} {oc4 kV4 dc4 pm4 cd4 ct4 : Value}
    (a4 : PySem.W.nsIn K mainGlobals "size_bytes" = some (some (.ref f4)))
    (l4 : K.lookup f4 = some ⟨oc4, od4, .func (PySem.W.fnOf "size_bytes" "size_bytes" (defArgs s_size_bytes) (defBody s_size_bytes) (defScope s_size_bytes) .none kV4 dc4 pm4 an4 cd4 ct4), sl4⟩)
    (c4 : PySem.W.codeIn K cd4 "size_bytes" = true)
    (k4 : PySem.W.keepIn K (.ref f4) = true)
    {f5 : Addr} {od5 an5 : Option Addr} {sl5 : Array (Option Value)} {oc5 kV5 dc5 pm5 cd5 ct5 : Value}
    (a5 : PySem.W.nsIn K mainGlobals "unpack" = some (some (.ref f5)))
    (l5 : K.lookup f5 = some ⟨oc5, od5, .func (PySem.W.fnOf "unpack" "unpack" (defArgs s_unpack) (defBody s_unpack) (defScope s_unpack) .none kV5 dc5 pm5 an5 cd5 ct5), sl5⟩)
    (c5 : PySem.W.codeIn K cd5 "unpack" = true)
    (k5 : PySem.W.keepIn K (.ref f5) = true)
    {f6 : Addr} {od6 an6 : Option Addr} {sl6 : Array (Option Value)} {oc6 kV6 dc6 pm6 cd6 ct6 : Value}
    (a6 : PySem.W.nsIn K mainGlobals "_law_draw" = some (some (.ref f6)))
    (l6 : K.lookup f6 = some ⟨oc6, od6, .func (PySem.W.fnOf "_law_draw" "_law_draw" (defArgs s__law_draw) (defBody s__law_draw) (defScope s__law_draw) .none kV6 dc6 pm6 an6 cd6 ct6), sl6⟩)
    (c6 : PySem.W.codeIn K cd6 "_law_draw" = true)
    (k6 : PySem.W.keepIn K (.ref f6) = true)
    {f7 : Addr} {od7 an7 : Option Addr} {sl7 : Array (Option Value)} {oc7 kV7 dc7 pm7 cd7 ct7 : Value}
    (a7 : PySem.W.nsIn K mainGlobals "_law_take" = some (some (.ref f7)))
    (l7 : K.lookup f7 = some ⟨oc7, od7, .func (PySem.W.fnOf "_law_take" "_law_take" (defArgs s__law_take) (defBody s__law_take) (defScope s__law_take) .none kV7 dc7 pm7 an7 cd7 ct7), sl7⟩)
    (c7 : PySem.W.codeIn K cd7 "_law_take" = true)
    (k7 : PySem.W.keepIn K (.ref f7) = true)
    {f8 : Addr} {od8 an8 : Option Addr} {sl8 : Array (Option Value)} {oc8 kV8 dc8 pm8 cd8 ct8 : Value}
    (a8 : PySem.W.nsIn K mainGlobals "_law_top" = some (some (.ref f8)))
    (l8 : K.lookup f8 = some ⟨oc8, od8, .func (PySem.W.fnOf "_law_top" "_law_top" (defArgs s__law_top) (defBody s__law_top) (defScope s__law_top) .none kV8 dc8 pm8 an8 cd8 ct8), sl8⟩)
    (c8 : PySem.W.codeIn K cd8 "_law_top" = true)
    (k8 : PySem.W.keepIn K (.ref f8) = true)
    {f9 : Addr} {od9 an9 : Option Addr} {sl9 : Array (Option Value)} {oc9 kV9 dc9 pm9 cd9 ct9 : Value}
    (a9 : PySem.W.nsIn K mainGlobals "_law_word" = some (some (.ref f9)))
    (l9 : K.lookup f9 = some ⟨oc9, od9, .func (PySem.W.fnOf "_law_word" "_law_word" (defArgs s__law_word) (defBody s__law_word) (defScope s__law_word) .none kV9 dc9 pm9 an9 cd9 ct9), sl9⟩)
    (c9 : PySem.W.codeIn K cd9 "_law_word" = true)
    (k9 : PySem.W.keepIn K (.ref f9) = true)
    {f10 : Addr} {od10 an10 : Option Addr} {sl10 : Array (Option Value)} {oc10 kV10 dc10 pm10 cd10 ct10 : Value}
    (a10 : PySem.W.nsIn K mainGlobals "_law_ops" = some (some (.ref f10)))
    (l10 : K.lookup f10 = some ⟨oc10, od10, .func (PySem.W.fnOf "_law_ops" "_law_ops" (defArgs s__law_ops) (defBody s__law_ops) (defScope s__law_ops) .none kV10 dc10 pm10 an10 cd10 ct10), sl10⟩)
    (c10 : PySem.W.codeIn K cd10 "_law_ops" = true)
    (k10 : PySem.W.keepIn K (.ref f10) = true)
    {f11 : Addr} {od11 an11 : Option Addr} {sl11 : Array (Option Value)} {oc11 kV11 dc11 pm11 cd11 ct11 : Value}
    (a11 : PySem.W.nsIn K mainGlobals "_law_variable" = some (some (.ref f11)))
    (l11 : K.lookup f11 = some ⟨oc11, od11, .func (PySem.W.fnOf "_law_variable" "_law_variable" (defArgs s__law_variable) (defBody s__law_variable) (defScope s__law_variable) .none kV11 dc11 pm11 an11 cd11 ct11), sl11⟩)
    (c11 : PySem.W.codeIn K cd11 "_law_variable" = true)
    (k11 : PySem.W.keepIn K (.ref f11) = true)
    {f12 : Addr} {od12 an12 : Option Addr} {sl12 : Array (Option Value)} {oc12 kV12 dc12 pm12 cd12 ct12 : Value}
    (a12 : PySem.W.nsIn K mainGlobals "_law_expression" = some (some (.ref f12)))
    (l12 : K.lookup f12 = some ⟨oc12, od12, .func (PySem.W.fnOf "_law_expression" "_law_expression" (defArgs s__law_expression) (defBody s__law_expression) (defScope s__law_expression) .none kV12 dc12 pm12 an12 cd12 ct12), sl12⟩)
    (c12 : PySem.W.codeIn K cd12 "_law_expression" = true)
    (k12 : PySem.W.keepIn K (.ref f12) = true)
    {f13 : Addr} {od13 an13 : Option Addr} {sl13 : Array (Option Value)} {oc13 kV13 dc13 pm13 cd13 ct13 : Value}
    (a13 : PySem.W.nsIn K mainGlobals "_law_index" = some (some (.ref f13)))
    (l13 : K.lookup f13 = some ⟨oc13, od13, .func (PySem.W.fnOf "_law_index" "_law_index" (defArgs s__law_index) (defBody s__law_index) (defScope s__law_index) .none kV13 dc13 pm13 an13 cd13 ct13), sl13⟩)
    (c13 : PySem.W.codeIn K cd13 "_law_index" = true)
    (k13 : PySem.W.keepIn K (.ref f13) = true)
    {f14 : Addr} {od14 an14 : Option Addr} {sl14 : Array (Option Value)} {oc14 kV14 dc14 pm14 cd14 ct14 : Value}
    (a14 : PySem.W.nsIn K mainGlobals "_law_row" = some (some (.ref f14)))
    (l14 : K.lookup f14 = some ⟨oc14, od14, .func (PySem.W.fnOf "_law_row" "_law_row" (defArgs s__law_row) (defBody s__law_row) (defScope s__law_row) .none kV14 dc14 pm14 an14 cd14 ct14), sl14⟩)
    (c14 : PySem.W.codeIn K cd14 "_law_row" = true)
    (k14 : PySem.W.keepIn K (.ref f14) = true)
    {f15 : Addr} {od15 an15 : Option Addr} {sl15 : Array (Option Value)} {oc15 kV15 dc15 pm15 cd15 ct15 : Value}
    (a15 : PySem.W.nsIn K mainGlobals "_law_blocks" = some (some (.ref f15)))
    (l15 : K.lookup f15 = some ⟨oc15, od15, .func (PySem.W.fnOf "_law_blocks" "_law_blocks" (defArgs s__law_blocks) (defBody s__law_blocks) (defScope s__law_blocks) .none kV15 dc15 pm15 an15 cd15 ct15), sl15⟩)
    (c15 : PySem.W.codeIn K cd15 "_law_blocks" = true)
    (k15 : PySem.W.keepIn K (.ref f15) = true)
    {f16 : Addr} {od16 an16 : Option Addr} {sl16 : Array (Option Value)} {oc16 kV16 dc16 pm16 cd16 ct16 : Value}
    (a16 : PySem.W.nsIn K mainGlobals "_law_program" = some (some (.ref f16)))
    (l16 : K.lookup f16 = some ⟨oc16, od16, .func (PySem.W.fnOf "_law_program" "_law_program" (defArgs s__law_program) (defBody s__law_program) (defScope s__law_program) .none kV16 dc16 pm16 an16 cd16 ct16), sl16⟩)
    (c16 : PySem.W.codeIn K cd16 "_law_program" = true)
    (k16 : PySem.W.keepIn K (.ref f16) = true)
    {f17 : Addr} {od17 an17 : Option Addr} {sl17 : Array (Option Value)} {oc17 kV17 dc17 pm17 cd17 ct17 : Value}
    (a17 : PySem.W.nsIn K mainGlobals "_law_size" = some (some (.ref f17)))
    (l17 : K.lookup f17 = some ⟨oc17, od17, .func (PySem.W.fnOf "_law_size" "_law_size" (defArgs s__law_size) (defBody s__law_size) (defScope s__law_size) .none kV17 dc17 pm17 an17 cd17 ct17), sl17⟩)
    (c17 : PySem.W.codeIn K cd17 "_law_size" = true)
    (k17 : PySem.W.keepIn K (.ref f17) = true)
    {f18 : Addr} {od18 an18 : Option Addr} {sl18 : Array (Option Value)} {oc18 kV18 dc18 pm18 cd18 ct18 : Value}
    (a18 : PySem.W.nsIn K mainGlobals "_law_signs" = some (some (.ref f18)))
    (l18 : K.lookup f18 = some ⟨oc18, od18, .func (PySem.W.fnOf "_law_signs" "_law_signs" (defArgs s__law_signs) (defBody s__law_signs) (defScope s__law_signs) .none kV18 dc18 pm18 an18 cd18 ct18), sl18⟩)
    (c18 : PySem.W.codeIn K cd18 "_law_signs" = true)
    (k18 : PySem.W.keepIn K (.ref f18) = true)
    {f19 : Addr} {od19 an19 : Option Addr} {sl19 : Array (Option Value)} {oc19 kV19 dc19 pm19 cd19 ct19 : Value}
    (a19 : PySem.W.nsIn K mainGlobals "_law_bytes" = some (some (.ref f19)))
    (l19 : K.lookup f19 = some ⟨oc19, od19, .func (PySem.W.fnOf "_law_bytes" "_law_bytes" (defArgs s__law_bytes) (defBody s__law_bytes) (defScope s__law_bytes) .none kV19 dc19 pm19 an19 cd19 ct19), sl19⟩)
    (c19 : PySem.W.codeIn K cd19 "_law_bytes" = true)
    (k19 : PySem.W.keepIn K (.ref f19) = true)
    {f20 : Addr} {od20 an20 : Option Addr} {sl20 : Array (Option Value)} {oc20 kV20 dc20 pm20 cd20 ct20 : Value}
    (a20 : PySem.W.nsIn K mainGlobals "_law_plain" = some (some (.ref f20)))
    (l20 : K.lookup f20 = some ⟨oc20, od20, .func (PySem.W.fnOf "_law_plain" "_law_plain" (defArgs s__law_plain) (defBody s__law_plain) (defScope s__law_plain) .none kV20 dc20 pm20 an20 cd20 ct20), sl20⟩)
    (c20 : PySem.W.codeIn K cd20 "_law_plain" = true)
    (k20 : PySem.W.keepIn K (.ref f20) = true)
    {f21 : Addr} {od21 an21 : Option Addr} {sl21 : Array (Option Value)} {oc21 kV21 dc21 pm21 cd21 ct21 : Value}
    (a21 : PySem.W.nsIn K mainGlobals "_law_number" = some (some (.ref f21)))
    (l21 : K.lookup f21 = some ⟨oc21, od21, .func (PySem.W.fnOf "_law_number" "_law_number" (defArgs s__law_number) (defBody s__law_number) (defScope s__law_number) .none kV21 dc21 pm21 an21 cd21 ct21), sl21⟩)
    (c21 : PySem.W.codeIn K cd21 "_law_number" = true)
    (k21 : PySem.W.keepIn K (.ref f21) = true)
    {f22 : Addr} {od22 an22 : Option Addr} {sl22 : Array (Option Value)} {oc22 kV22 dc22 pm22 cd22 ct22 : Value}
    (a22 : PySem.W.nsIn K mainGlobals "_law_read" = some (some (.ref f22)))
    (l22 : K.lookup f22 = some ⟨oc22, od22, .func (PySem.W.fnOf "_law_read" "_law_read" (defArgs s__law_read) (defBody s__law_read) (defScope s__law_read) .none kV22 dc22 pm22 an22 cd22 ct22), sl22⟩)
    (c22 : PySem.W.codeIn K cd22 "_law_read" = true)
    (k22 : PySem.W.keepIn K (.ref f22) = true)
    {f23 : Addr} {od23 an23 : Option Addr} {sl23 : Array (Option Value)} {oc23 kV23 dc23 pm23 cd23 ct23 : Value}
    (a23 : PySem.W.nsIn K mainGlobals "_law_told" = some (some (.ref f23)))
    (l23 : K.lookup f23 = some ⟨oc23, od23, .func (PySem.W.fnOf "_law_told" "_law_told" (defArgs s__law_told) (defBody s__law_told) (defScope s__law_told) .none kV23 dc23 pm23 an23 cd23 ct23), sl23⟩)
    (c23 : PySem.W.codeIn K cd23 "_law_told" = true)
    (k23 : PySem.W.keepIn K (.ref f23) = true)
    {f24 : Addr} {od24 an24 : Option Addr} {sl24 : Array (Option Value)} {oc24 kV24 dc24 pm24 cd24 ct24 : Value}
    (a24 : PySem.W.nsIn K mainGlobals "_law_due" = some (some (.ref f24)))
    (l24 : K.lookup f24 = some ⟨oc24, od24, .func (PySem.W.fnOf "_law_due" "_law_due" (defArgs s__law_due) (defBody s__law_due) (defScope s__law_due) .none kV24 dc24 pm24 an24 cd24 ct24), sl24⟩)
    (c24 : PySem.W.codeIn K cd24 "_law_due" = true)
    (k24 : PySem.W.keepIn K (.ref f24) = true)
    {f25 : Addr} {od25 an25 : Option Addr} {sl25 : Array (Option Value)} {oc25 kV25 dc25 pm25 cd25 ct25 : Value}
    (a25 : PySem.W.nsIn K mainGlobals "_law_changed" = some (some (.ref f25)))
    (l25 : K.lookup f25 = some ⟨oc25, od25, .func (PySem.W.fnOf "_law_changed" "_law_changed" (defArgs s__law_changed) (defBody s__law_changed) (defScope s__law_changed) .none kV25 dc25 pm25 an25 cd25 ct25), sl25⟩)
    (c25 : PySem.W.codeIn K cd25 "_law_changed" = true)
    (k25 : PySem.W.keepIn K (.ref f25) = true)
    {f26 : Addr} {od26 an26 : Option Addr} {sl26 : Array (Option Value)} {oc26 kV26 dc26 pm26 cd26 ct26 : Value}
    (a26 : PySem.W.nsIn K mainGlobals "law" = some (some (.ref f26)))
    (l26 : K.lookup f26 = some ⟨oc26, od26, .func (PySem.W.fnOf "law" "law" (defArgs s_law) (defBody s_law) (defScope s_law) .none kV26 dc26 pm26 an26 cd26 ct26), sl26⟩)
    (c26 : PySem.W.codeIn K cd26 "law" = true)
    (k26 : PySem.W.keepIn K (.ref f26) = true)
    {t_FROM_ZERO : Tok}
    (i_FROM_ZERO : PySem.W.nsIn K mainGlobals "FROM_ZERO" = some (some (.int (3) t_FROM_ZERO)))
    {t_BELOW_ZERO : Tok}
    (i_BELOW_ZERO : PySem.W.nsIn K mainGlobals "BELOW_ZERO" = some (some (.int (4) t_BELOW_ZERO)))
    {t_STRING : Tok}
    (i_STRING : PySem.W.nsIn K mainGlobals "STRING" = some (some (.int (5) t_STRING)))
    {t_TUPLE : Tok}
    (i_TUPLE : PySem.W.nsIn K mainGlobals "TUPLE" = some (some (.int (6) t_TUPLE)))
    {t_DEEPEST_TUPLES : Tok}
    (i_DEEPEST_TUPLES : PySem.W.nsIn K mainGlobals "DEEPEST_TUPLES" = some (some (.int (60) t_DEEPEST_TUPLES)))
    {t_MORE : Tok}
    (i_MORE : PySem.W.nsIn K mainGlobals "MORE" = some (some (.int (128) t_MORE)))
    {t_NO_BYTE : Tok}
    (i_NO_BYTE : PySem.W.nsIn K mainGlobals "NO_BYTE" = some (some (.int (-1) t_NO_BYTE)))
    {t_CHARACTERS : Tok}
    (i_CHARACTERS : PySem.W.nsIn K mainGlobals "CHARACTERS" = some (some (.str charS t_CHARACTERS)))
    {a_PLAIN : Addr} {od_PLAIN : Option Addr} {its_PLAIN : Array Value} {n_PLAIN : Nat} {sl_PLAIN : Array (Option Value)}
    (ca_PLAIN : PySem.W.nsIn K mainGlobals "PLAIN" = some (some (.ref a_PLAIN)))
    (cl_PLAIN : K.lookup a_PLAIN = some ⟨.type "tuple", od_PLAIN, .seq its_PLAIN n_PLAIN, sl_PLAIN⟩)
    (cs_PLAIN : its_PLAIN.size ≤ sizeLine)
    (cv_PLAIN : Vals con_PLAIN its_PLAIN.toList)
    {R : Addr}
    (aR : PySem.W.nsIn K mainGlobals "Reader" = some (some (.ref R)))
    {mf_Reader___init__ : Addr} {mod_Reader___init__ man_Reader___init__ : Option Addr} {msl_Reader___init__ : Array (Option Value)} {moc_Reader___init__ mkV_Reader___init__ mdc_Reader___init__ mpm_Reader___init__ mcd_Reader___init__ mct_Reader___init__ : Value}
    (ma_Reader___init__ : PySem.W.findIn K (.ref R) "__init__" = some (some (.ref mf_Reader___init__)))
    (mi_Reader___init__ : PySem.W.isFn K (.ref mf_Reader___init__) = true)
    (ml_Reader___init__ : K.lookup mf_Reader___init__ = some ⟨moc_Reader___init__, mod_Reader___init__, .func (PySem.W.fnOf "__init__" "Reader.__init__" (defArgs s_Reader___init__) (defBody s_Reader___init__) (defScope s_Reader___init__) .none mkV_Reader___init__ mdc_Reader___init__ mpm_Reader___init__ man_Reader___init__ mcd_Reader___init__ mct_Reader___init__), msl_Reader___init__⟩)
    (mc_Reader___init__ : PySem.W.codeIn K mcd_Reader___init__ "Reader.__init__" = true)
    (mk_Reader___init__ : PySem.W.keepIn K (.ref mf_Reader___init__) = true)
    {mf_Reader_byte : Addr} {mod_Reader_byte man_Reader_byte : Option Addr} {msl_Reader_byte : Array (Option Value)} {moc_Reader_byte mkV_Reader_byte mdc_Reader_byte mpm_Reader_byte mcd_Reader_byte mct_Reader_byte : Value}
    (ma_Reader_byte : PySem.W.findIn K (.ref R) "byte" = some (some (.ref mf_Reader_byte)))
    (mi_Reader_byte : PySem.W.isFn K (.ref mf_Reader_byte) = true)
    (ml_Reader_byte : K.lookup mf_Reader_byte = some ⟨moc_Reader_byte, mod_Reader_byte, .func (PySem.W.fnOf "byte" "Reader.byte" (defArgs s_Reader_byte) (defBody s_Reader_byte) (defScope s_Reader_byte) .none mkV_Reader_byte mdc_Reader_byte mpm_Reader_byte man_Reader_byte mcd_Reader_byte mct_Reader_byte), msl_Reader_byte⟩)
    (mc_Reader_byte : PySem.W.codeIn K mcd_Reader_byte "Reader.byte" = true)
    (mk_Reader_byte : PySem.W.keepIn K (.ref mf_Reader_byte) = true)
    {mf_Reader_value : Addr} {mod_Reader_value man_Reader_value : Option Addr} {msl_Reader_value : Array (Option Value)} {moc_Reader_value mkV_Reader_value mdc_Reader_value mpm_Reader_value mcd_Reader_value mct_Reader_value : Value}
    (ma_Reader_value : PySem.W.findIn K (.ref R) "value" = some (some (.ref mf_Reader_value)))
    (mi_Reader_value : PySem.W.isFn K (.ref mf_Reader_value) = true)
    (ml_Reader_value : K.lookup mf_Reader_value = some ⟨moc_Reader_value, mod_Reader_value, .func (PySem.W.fnOf "value" "Reader.value" (defArgs s_Reader_value) (defBody s_Reader_value) (defScope s_Reader_value) .none mkV_Reader_value mdc_Reader_value mpm_Reader_value man_Reader_value mcd_Reader_value mct_Reader_value), msl_Reader_value⟩)
    (mc_Reader_value : PySem.W.codeIn K mcd_Reader_value "Reader.value" = true)
    (mk_Reader_value : PySem.W.keepIn K (.ref mf_Reader_value) = true)
    {mf_Reader_size : Addr} {mod_Reader_size man_Reader_size : Option Addr} {msl_Reader_size : Array (Option Value)} {moc_Reader_size mkV_Reader_size mdc_Reader_size mpm_Reader_size mcd_Reader_size mct_Reader_size : Value}
    (ma_Reader_size : PySem.W.findIn K (.ref R) "size" = some (some (.ref mf_Reader_size)))
    (mi_Reader_size : PySem.W.isFn K (.ref mf_Reader_size) = true)
    (ml_Reader_size : K.lookup mf_Reader_size = some ⟨moc_Reader_size, mod_Reader_size, .func (PySem.W.fnOf "size" "Reader.size" (defArgs s_Reader_size) (defBody s_Reader_size) (defScope s_Reader_size) .none mkV_Reader_size mdc_Reader_size mpm_Reader_size man_Reader_size mcd_Reader_size mct_Reader_size), msl_Reader_size⟩)
    (mc_Reader_size : PySem.W.codeIn K mcd_Reader_size "Reader.size" = true)
    (mk_Reader_size : PySem.W.keepIn K (.ref mf_Reader_size) = true)
    {mf_Reader_character : Addr} {mod_Reader_character man_Reader_character : Option Addr} {msl_Reader_character : Array (Option Value)} {moc_Reader_character mkV_Reader_character mdc_Reader_character mpm_Reader_character mcd_Reader_character mct_Reader_character : Value}
    (ma_Reader_character : PySem.W.findIn K (.ref R) "character" = some (some (.ref mf_Reader_character)))
    (mi_Reader_character : PySem.W.isFn K (.ref mf_Reader_character) = true)
    (ml_Reader_character : K.lookup mf_Reader_character = some ⟨moc_Reader_character, mod_Reader_character, .func (PySem.W.fnOf "character" "Reader.character" (defArgs s_Reader_character) (defBody s_Reader_character) (defScope s_Reader_character) .none mkV_Reader_character mdc_Reader_character mpm_Reader_character man_Reader_character mcd_Reader_character mct_Reader_character), msl_Reader_character⟩)
    (mc_Reader_character : PySem.W.codeIn K mcd_Reader_character "Reader.character" = true)
    (mk_Reader_character : PySem.W.keepIn K (.ref mf_Reader_character) = true)
    (pgR : PySem.W.plainGet K R Str.empty = true)
    (hdR : PySem.W.hasDictIn K R = true)
    (poR : PySem.W.plainOver K R = true)
    (saR : PySem.W.findIn K (.ref R) "__setattr__" = some (some (.builtin "object.__setattr__")))
    (mkR : PySem.W.makesIn K R = true)
    (kcR : PySem.W.keepIn K (.ref R) = true)
    (nRd : PySem.W.findIn K (.ref R) "data" = some none)
    (nRa : PySem.W.findIn K (.ref R) "at" = some none)
    {C fI cc cda : Addr} {nm q : Str} {N : Addr} {bs bm : List Value} {sn : List Str} {sub : List Value} {ab : Bool} {col : Option Bool} {dd : Option Addr} {m0 m1 m2 m3 m5 : Option Value}
    (aC : PySem.W.nsIn K mainGlobals "PackError" = some (some (.ref C)))
    (xL : K.lookup C = some (excClassObj nm q C N bs bm true sn sub ab col dd m0 m1 m2 m3 m5 "ValueError.__new__"))
    (xV : PySem.HandSPX.refsVE bm = true)
    (saC : PySem.W.findIn K (.ref C) "__setattr__" = some (some (.builtin "object.__setattr__")))
    (gaC : PySem.W.findIn K (.ref C) "__getattribute__" = some (some (.builtin "BaseException.__getattribute__")))
    (ggC : PySem.W.findIn K (.ref C) "__getattr__" = some none)
    (nC : PySem.W.findIn K (.ref C) "at" = some none)
    (kC : PySem.W.keepIn K (.ref C) = true)
    (eC : PySem.W.subIn K (.ref C) (.type "BaseException") = some true)
    (tC : PySem.W.typeIn K (.ref C) = some (.type "type"))
    (hC : PySem.W.hasDictIn K C = true)
    (iC : PySem.W.isClsIn K C = true)
    (sC : PySem.W.subIn K (.ref C) (.ref C) = some true)
    (vC : PySem.W.subIn K (.ref C) (.type "ValueError") = some true)
    (mC : PySem.W.mroIn K C (.ref C) = some true)
    (fC : PySem.W.findIn K (.ref C) "__init__" = some (some (.ref fI)))
    (tI : PySem.W.typeIn K (.ref fI) = some (.type "function"))
    {oc kV doc pm ct cl : Value} {an od cld : Option Addr} {osl csl : Array (Option Value)}
    (lI : K.lookup fI = some ⟨oc, od, .func (PySem.W.ksFn "__init__" "PackError.__init__" (defArgs s_PackError___init__) (defBody s_PackError___init__) (defScope s_PackError___init__) .none kV doc pm an (.ref cda) ct cc), osl⟩)
    (cI : PySem.W.codeIn K (.ref cda) "PackError.__init__" = true)
    (eI : K.lookup cc = some ⟨cl, cld, .cell (some (.ref C)), csl⟩)
    {kc : Value} {kd : Option Addr} {kvs : Array Value} {ksl : Array (Option Value)} {file : Str} {tf : Tok}
    (oI : K.lookup cda = some ⟨kc, kd, .fields kvs, ksl⟩)
    (vI : kvs[2]? = some (.str file tf))
    (mI : ((l.prog.main.file : Str) == file) = true)
    (sI : PySem.W.nsIn K mainGlobals "super" = some none)
    (pI : (l.prog.main.scope.names.lookup ("super" : Str)).isSome = false)
    (hI : PySem.W.nsIn K cStatics "thirdparty.any" = some none)
    (uI : PySem.W.ks_superIn K C C "__init__" = some (some (.builtin "ValueError.__init__")))
    (z_abs : PySem.W.nsIn K mainGlobals "abs" = some none)
    (z_bool : PySem.W.nsIn K mainGlobals "bool" = some none)
    (z_int : PySem.W.nsIn K mainGlobals "int" = some none)
    (z_isinstance : PySem.W.nsIn K mainGlobals "isinstance" = some none)
    (z_len : PySem.W.nsIn K mainGlobals "len" = some none)
    (z_list : PySem.W.nsIn K mainGlobals "list" = some none)
    (z_max : PySem.W.nsIn K mainGlobals "max" = some none)
    (z_min : PySem.W.nsIn K mainGlobals "min" = some none)
    (z_range : PySem.W.nsIn K mainGlobals "range" = some none)
    (z_repr : PySem.W.nsIn K mainGlobals "repr" = some none)
    (z_sorted : PySem.W.nsIn K mainGlobals "sorted" = some none)
    (z_str : PySem.W.nsIn K mainGlobals "str" = some none)
    (z_tuple : PySem.W.nsIn K mainGlobals "tuple" = some none)
    : ∃ fd : FuncData, (∀ (s : Shared) (v : Value), BindsTo s fd ⟨[v], []⟩ [("script", v)]) ∧ ∀ base : Heap, K.In base → base.Ns mainGlobals mg → RunG l.prog w K mg base 70 fa fd ["script"] (spLaw K) := by
  have e := hfa.symm.trans (PySem.W.mg_of X G a26)
  have T : Txt K mg := ⟨PySem.W.mg_none_of X G z_abs, PySem.W.mg_none_of X G z_bool, PySem.W.mg_none_of X G z_int, PySem.W.mg_none_of X G z_isinstance, PySem.W.mg_none_of X G z_len, PySem.W.mg_none_of X G z_list, PySem.W.mg_none_of X G z_max, PySem.W.mg_none_of X G z_min, PySem.W.mg_none_of X G z_range, PySem.W.mg_none_of X G z_repr, PySem.W.mg_none_of X G z_sorted, PySem.W.mg_none_of X G z_str, PySem.W.mg_none_of X G z_tuple⟩
  have C_FROM_ZERO : ConN mg "FROM_ZERO" (3) := ⟨t_FROM_ZERO, PySem.W.mg_of X G i_FROM_ZERO⟩
  have C_BELOW_ZERO : ConN mg "BELOW_ZERO" (4) := ⟨t_BELOW_ZERO, PySem.W.mg_of X G i_BELOW_ZERO⟩
  have C_STRING : ConN mg "STRING" (5) := ⟨t_STRING, PySem.W.mg_of X G i_STRING⟩
  have C_TUPLE : ConN mg "TUPLE" (6) := ⟨t_TUPLE, PySem.W.mg_of X G i_TUPLE⟩
  have C_DEEPEST_TUPLES : ConN mg "DEEPEST_TUPLES" (60) := ⟨t_DEEPEST_TUPLES, PySem.W.mg_of X G i_DEEPEST_TUPLES⟩
  have C_MORE : ConN mg "MORE" (128) := ⟨t_MORE, PySem.W.mg_of X G i_MORE⟩
  have C_NO_BYTE : ConN mg "NO_BYTE" (-1) := ⟨t_NO_BYTE, PySem.W.mg_of X G i_NO_BYTE⟩
  have C_CHARACTERS : ConT mg "CHARACTERS" charS := ⟨t_CHARACTERS, PySem.W.mg_of X G i_CHARACTERS⟩
  have C_PLAIN : Con K mg "PLAIN" con_PLAIN := ⟨a_PLAIN, od_PLAIN, its_PLAIN, n_PLAIN, sl_PLAIN, PySem.W.mg_of X G ca_PLAIN, cl_PLAIN, cs_PLAIN, cv_PLAIN⟩
  let fd_is_between : FuncData := PySem.W.fnOf "is_between" "is_between" (defArgs s_is_between) (defBody s_is_between) (defScope s_is_between) .none kV0 dc0 pm0 an0 cd0 ct0
  have D_is_between : Def K mg "is_between" ["value", "low", "high"] s_is_between f0 fd_is_between := ⟨fun_mk (st := s_is_between) l0 c0 k0, PySem.W.mg_of X G a0, (fun_mk (st := s_is_between) l0 c0 k0).binds (ps := ["value", "low", "high"]) fun _ _ _ _ _ _ us hl => match us, hl with | [_, _, _], _ => rfl⟩
  let fd_pack : FuncData := PySem.W.fnOf "pack" "pack" (defArgs s_pack) (defBody s_pack) (defScope s_pack) .none kV1 dc1 pm1 an1 cd1 ct1
  have D_pack : Def K mg "pack" ["value"] s_pack f1 fd_pack := ⟨fun_mk (st := s_pack) l1 c1 k1, PySem.W.mg_of X G a1, (fun_mk (st := s_pack) l1 c1 k1).binds (ps := ["value"]) fun _ _ _ _ _ _ us hl => match us, hl with | [_], _ => rfl⟩
  let fd_pack_into : FuncData := PySem.W.fnOf "pack_into" "pack_into" (defArgs s_pack_into) (defBody s_pack_into) (defScope s_pack_into) .none kV2 dc2 pm2 an2 cd2 ct2
  have D_pack_into : Def K mg "pack_into" ["data", "value", "depth"] s_pack_into f2 fd_pack_into := ⟨fun_mk (st := s_pack_into) l2 c2 k2, PySem.W.mg_of X G a2, (fun_mk (st := s_pack_into) l2 c2 k2).binds (ps := ["data", "value", "depth"]) fun _ _ _ _ _ _ us hl => match us, hl with | [_, _, _], _ => rfl⟩
  let fd_place_of : FuncData := PySem.W.fnOf "place_of" "place_of" (defArgs s_place_of) (defBody s_place_of) (defScope s_place_of) .none kV3 dc3 pm3 an3 cd3 ct3
  have D_place_of : Def K mg "place_of" ["sign"] s_place_of f3 fd_place_of := ⟨fun_mk (st := s_place_of) l3 c3 k3, PySem.W.mg_of X G a3, (fun_mk (st := s_place_of) l3 c3 k3).binds (ps := ["sign"]) fun _ _ _ _ _ _ us hl => match us, hl with | [_], _ => rfl⟩
  let fd_size_bytes : FuncData := PySem.W.fnOf "size_bytes" "size_bytes" (defArgs s_size_bytes) (defBody s_size_bytes) (defScope s_size_bytes) .none kV4 dc4 pm4 an4 cd4 ct4
  have D_size_bytes : Def K mg "size_bytes" ["n"] s_size_bytes f4 fd_size_bytes := ⟨fun_mk (st := s_size_bytes) l4 c4 k4, PySem.W.mg_of X G a4, (fun_mk (st := s_size_bytes) l4 c4 k4).binds (ps := ["n"]) fun _ _ _ _ _ _ us hl => match us, hl with | [_], _ => rfl⟩
  let fd_unpack : FuncData := PySem.W.fnOf "unpack" "unpack" (defArgs s_unpack) (defBody s_unpack) (defScope s_unpack) .none kV5 dc5 pm5 an5 cd5 ct5
  have D_unpack : Def K mg "unpack" ["data"] s_unpack f5 fd_unpack := ⟨fun_mk (st := s_unpack) l5 c5 k5, PySem.W.mg_of X G a5, (fun_mk (st := s_unpack) l5 c5 k5).binds (ps := ["data"]) fun _ _ _ _ _ _ us hl => match us, hl with | [_], _ => rfl⟩
  let fd__law_draw : FuncData := PySem.W.fnOf "_law_draw" "_law_draw" (defArgs s__law_draw) (defBody s__law_draw) (defScope s__law_draw) .none kV6 dc6 pm6 an6 cd6 ct6
  have D__law_draw : Def K mg "_law_draw" ["script"] s__law_draw f6 fd__law_draw := ⟨fun_mk (st := s__law_draw) l6 c6 k6, PySem.W.mg_of X G a6, (fun_mk (st := s__law_draw) l6 c6 k6).binds (ps := ["script"]) fun _ _ _ _ _ _ us hl => match us, hl with | [_], _ => rfl⟩
  let fd__law_take : FuncData := PySem.W.fnOf "_law_take" "_law_take" (defArgs s__law_take) (defBody s__law_take) (defScope s__law_take) .none kV7 dc7 pm7 an7 cd7 ct7
  have D__law_take : Def K mg "_law_take" ["draw", "many"] s__law_take f7 fd__law_take := ⟨fun_mk (st := s__law_take) l7 c7 k7, PySem.W.mg_of X G a7, (fun_mk (st := s__law_take) l7 c7 k7).binds (ps := ["draw", "many"]) fun _ _ _ _ _ _ us hl => match us, hl with | [_, _], _ => rfl⟩
  let fd__law_top : FuncData := PySem.W.fnOf "_law_top" "_law_top" (defArgs s__law_top) (defBody s__law_top) (defScope s__law_top) .none kV8 dc8 pm8 an8 cd8 ct8
  have D__law_top : Def K mg "_law_top" ["w"] s__law_top f8 fd__law_top := ⟨fun_mk (st := s__law_top) l8 c8 k8, PySem.W.mg_of X G a8, (fun_mk (st := s__law_top) l8 c8 k8).binds (ps := ["w"]) fun _ _ _ _ _ _ us hl => match us, hl with | [_], _ => rfl⟩
  let fd__law_word : FuncData := PySem.W.fnOf "_law_word" "_law_word" (defArgs s__law_word) (defBody s__law_word) (defScope s__law_word) .none kV9 dc9 pm9 an9 cd9 ct9
  have D__law_word : Def K mg "_law_word" ["draw", "w"] s__law_word f9 fd__law_word := ⟨fun_mk (st := s__law_word) l9 c9 k9, PySem.W.mg_of X G a9, (fun_mk (st := s__law_word) l9 c9 k9).binds (ps := ["draw", "w"]) fun _ _ _ _ _ _ us hl => match us, hl with | [_, _], _ => rfl⟩
  let fd__law_ops : FuncData := PySem.W.fnOf "_law_ops" "_law_ops" (defArgs s__law_ops) (defBody s__law_ops) (defScope s__law_ops) .none kV10 dc10 pm10 an10 cd10 ct10
  have D__law_ops : Def K mg "_law_ops" [] s__law_ops f10 fd__law_ops := ⟨fun_mk (st := s__law_ops) l10 c10 k10, PySem.W.mg_of X G a10, (fun_mk (st := s__law_ops) l10 c10 k10).binds (ps := []) fun _ _ _ _ _ _ us hl => match us, hl with | [], _ => rfl⟩
  let fd__law_variable : FuncData := PySem.W.fnOf "_law_variable" "_law_variable" (defArgs s__law_variable) (defBody s__law_variable) (defScope s__law_variable) .none kV11 dc11 pm11 an11 cd11 ct11
  have D__law_variable : Def K mg "_law_variable" ["draw"] s__law_variable f11 fd__law_variable := ⟨fun_mk (st := s__law_variable) l11 c11 k11, PySem.W.mg_of X G a11, (fun_mk (st := s__law_variable) l11 c11 k11).binds (ps := ["draw"]) fun _ _ _ _ _ _ us hl => match us, hl with | [_], _ => rfl⟩
  let fd__law_expression : FuncData := PySem.W.fnOf "_law_expression" "_law_expression" (defArgs s__law_expression) (defBody s__law_expression) (defScope s__law_expression) .none kV12 dc12 pm12 an12 cd12 ct12
  have D__law_expression : Def K mg "_law_expression" ["p", "depth"] s__law_expression f12 fd__law_expression := ⟨fun_mk (st := s__law_expression) l12 c12 k12, PySem.W.mg_of X G a12, (fun_mk (st := s__law_expression) l12 c12 k12).binds (ps := ["p", "depth"]) fun _ _ _ _ _ _ us hl => match us, hl with | [_, _], _ => rfl⟩
  let fd__law_index : FuncData := PySem.W.fnOf "_law_index" "_law_index" (defArgs s__law_index) (defBody s__law_index) (defScope s__law_index) .none kV13 dc13 pm13 an13 cd13 ct13
  have D__law_index : Def K mg "_law_index" ["p", "size", "depth"] s__law_index f13 fd__law_index := ⟨fun_mk (st := s__law_index) l13 c13 k13, PySem.W.mg_of X G a13, (fun_mk (st := s__law_index) l13 c13 k13).binds (ps := ["p", "size", "depth"]) fun _ _ _ _ _ _ us hl => match us, hl with | [_, _, _], _ => rfl⟩
  let fd__law_row : FuncData := PySem.W.fnOf "_law_row" "_law_row" (defArgs s__law_row) (defBody s__law_row) (defScope s__law_row) .none kV14 dc14 pm14 an14 cd14 ct14
  have D__law_row : Def K mg "_law_row" ["p", "others"] s__law_row f14 fd__law_row := ⟨fun_mk (st := s__law_row) l14 c14 k14, PySem.W.mg_of X G a14, (fun_mk (st := s__law_row) l14 c14 k14).binds (ps := ["p", "others"]) fun _ _ _ _ _ _ us hl => match us, hl with | [_, _], _ => rfl⟩
  let fd__law_blocks : FuncData := PySem.W.fnOf "_law_blocks" "_law_blocks" (defArgs s__law_blocks) (defBody s__law_blocks) (defScope s__law_blocks) .none kV15 dc15 pm15 an15 cd15 ct15
  have D__law_blocks : Def K mg "_law_blocks" ["p", "others", "blocks", "rows"] s__law_blocks f15 fd__law_blocks := ⟨fun_mk (st := s__law_blocks) l15 c15 k15, PySem.W.mg_of X G a15, (fun_mk (st := s__law_blocks) l15 c15 k15).binds (ps := ["p", "others", "blocks", "rows"]) fun _ _ _ _ _ _ us hl => match us, hl with | [_, _, _, _], _ => rfl⟩
  let fd__law_program : FuncData := PySem.W.fnOf "_law_program" "_law_program" (defArgs s__law_program) (defBody s__law_program) (defScope s__law_program) .none kV16 dc16 pm16 an16 cd16 ct16
  have D__law_program : Def K mg "_law_program" ["draw", "w", "blocks", "rows"] s__law_program f16 fd__law_program := ⟨fun_mk (st := s__law_program) l16 c16 k16, PySem.W.mg_of X G a16, (fun_mk (st := s__law_program) l16 c16 k16).binds (ps := ["draw", "w", "blocks", "rows"]) fun _ _ _ _ _ _ us hl => match us, hl with | [_, _, _, _], _ => rfl⟩
  let fd__law_size : FuncData := PySem.W.fnOf "_law_size" "_law_size" (defArgs s__law_size) (defBody s__law_size) (defScope s__law_size) .none kV17 dc17 pm17 an17 cd17 ct17
  have D__law_size : Def K mg "_law_size" ["n"] s__law_size f17 fd__law_size := ⟨fun_mk (st := s__law_size) l17 c17 k17, PySem.W.mg_of X G a17, (fun_mk (st := s__law_size) l17 c17 k17).binds (ps := ["n"]) fun _ _ _ _ _ _ us hl => match us, hl with | [_], _ => rfl⟩
  let fd__law_signs : FuncData := PySem.W.fnOf "_law_signs" "_law_signs" (defArgs s__law_signs) (defBody s__law_signs) (defScope s__law_signs) .none kV18 dc18 pm18 an18 cd18 ct18
  have D__law_signs : Def K mg "_law_signs" [] s__law_signs f18 fd__law_signs := ⟨fun_mk (st := s__law_signs) l18 c18 k18, PySem.W.mg_of X G a18, (fun_mk (st := s__law_signs) l18 c18 k18).binds (ps := []) fun _ _ _ _ _ _ us hl => match us, hl with | [], _ => rfl⟩
  let fd__law_bytes : FuncData := PySem.W.fnOf "_law_bytes" "_law_bytes" (defArgs s__law_bytes) (defBody s__law_bytes) (defScope s__law_bytes) .none kV19 dc19 pm19 an19 cd19 ct19
  have D__law_bytes : Def K mg "_law_bytes" ["value", "depth"] s__law_bytes f19 fd__law_bytes := ⟨fun_mk (st := s__law_bytes) l19 c19 k19, PySem.W.mg_of X G a19, (fun_mk (st := s__law_bytes) l19 c19 k19).binds (ps := ["value", "depth"]) fun _ _ _ _ _ _ us hl => match us, hl with | [_, _], _ => rfl⟩
  let fd__law_plain : FuncData := PySem.W.fnOf "_law_plain" "_law_plain" (defArgs s__law_plain) (defBody s__law_plain) (defScope s__law_plain) .none kV20 dc20 pm20 an20 cd20 ct20
  have D__law_plain : Def K mg "_law_plain" ["draw", "depth"] s__law_plain f20 fd__law_plain := ⟨fun_mk (st := s__law_plain) l20 c20 k20, PySem.W.mg_of X G a20, (fun_mk (st := s__law_plain) l20 c20 k20).binds (ps := ["draw", "depth"]) fun _ _ _ _ _ _ us hl => match us, hl with | [_, _], _ => rfl⟩
  let fd__law_number : FuncData := PySem.W.fnOf "_law_number" "_law_number" (defArgs s__law_number) (defBody s__law_number) (defScope s__law_number) .none kV21 dc21 pm21 an21 cd21 ct21
  have D__law_number : Def K mg "_law_number" ["data", "at"] s__law_number f21 fd__law_number := ⟨fun_mk (st := s__law_number) l21 c21 k21, PySem.W.mg_of X G a21, (fun_mk (st := s__law_number) l21 c21 k21).binds (ps := ["data", "at"]) fun _ _ _ _ _ _ us hl => match us, hl with | [_, _], _ => rfl⟩
  let fd__law_read : FuncData := PySem.W.fnOf "_law_read" "_law_read" (defArgs s__law_read) (defBody s__law_read) (defScope s__law_read) .none kV22 dc22 pm22 an22 cd22 ct22
  have D__law_read : Def K mg "_law_read" ["data", "at", "depth"] s__law_read f22 fd__law_read := ⟨fun_mk (st := s__law_read) l22 c22 k22, PySem.W.mg_of X G a22, (fun_mk (st := s__law_read) l22 c22 k22).binds (ps := ["data", "at", "depth"]) fun _ _ _ _ _ _ us hl => match us, hl with | [_, _, _], _ => rfl⟩
  let fd__law_told : FuncData := PySem.W.fnOf "_law_told" "_law_told" (defArgs s__law_told) (defBody s__law_told) (defScope s__law_told) .none kV23 dc23 pm23 an23 cd23 ct23
  have D__law_told : Def K mg "_law_told" ["data"] s__law_told f23 fd__law_told := ⟨fun_mk (st := s__law_told) l23 c23 k23, PySem.W.mg_of X G a23, (fun_mk (st := s__law_told) l23 c23 k23).binds (ps := ["data"]) fun _ _ _ _ _ _ us hl => match us, hl with | [_], _ => rfl⟩
  let fd__law_due : FuncData := PySem.W.fnOf "_law_due" "_law_due" (defArgs s__law_due) (defBody s__law_due) (defScope s__law_due) .none kV24 dc24 pm24 an24 cd24 ct24
  have D__law_due : Def K mg "_law_due" ["data"] s__law_due f24 fd__law_due := ⟨fun_mk (st := s__law_due) l24 c24 k24, PySem.W.mg_of X G a24, (fun_mk (st := s__law_due) l24 c24 k24).binds (ps := ["data"]) fun _ _ _ _ _ _ us hl => match us, hl with | [_], _ => rfl⟩
  let fd__law_changed : FuncData := PySem.W.fnOf "_law_changed" "_law_changed" (defArgs s__law_changed) (defBody s__law_changed) (defScope s__law_changed) .none kV25 dc25 pm25 an25 cd25 ct25
  have D__law_changed : Def K mg "_law_changed" ["draw", "data"] s__law_changed f25 fd__law_changed := ⟨fun_mk (st := s__law_changed) l25 c25 k25, PySem.W.mg_of X G a25, (fun_mk (st := s__law_changed) l25 c25 k25).binds (ps := ["draw", "data"]) fun _ _ _ _ _ _ us hl => match us, hl with | [_, _], _ => rfl⟩
  let fd_law : FuncData := PySem.W.fnOf "law" "law" (defArgs s_law) (defBody s_law) (defScope s_law) .none kV26 dc26 pm26 an26 cd26 ct26
  have D_law : Def K mg "law" ["script"] s_law f26 fd_law := ⟨fun_mk (st := s_law) l26 c26 k26, PySem.W.mg_of X G a26, (fun_mk (st := s_law) l26 c26 k26).binds (ps := ["script"]) fun _ _ _ _ _ _ us hl => match us, hl with | [_], _ => rfl⟩
  let fd_Reader___init__ : FuncData := PySem.W.fnOf "__init__" "Reader.__init__" (defArgs s_Reader___init__) (defBody s_Reader___init__) (defScope s_Reader___init__) .none mkV_Reader___init__ mdc_Reader___init__ mpm_Reader___init__ man_Reader___init__ mcd_Reader___init__ mct_Reader___init__
  have D_Reader___init__ : DefI6 K "__init__" "Reader.__init__" ["self", "data"] s_Reader___init__ mf_Reader___init__ fd_Reader___init__ := ⟨fun_mk (st := s_Reader___init__) ml_Reader___init__ mc_Reader___init__ mk_Reader___init__, (fun_mk (st := s_Reader___init__) ml_Reader___init__ mc_Reader___init__ mk_Reader___init__).binds (ps := ["self", "data"]) fun _ _ _ _ _ _ us hl => match us, hl with | [_, _], _ => rfl⟩
  let fd_Reader_byte : FuncData := PySem.W.fnOf "byte" "Reader.byte" (defArgs s_Reader_byte) (defBody s_Reader_byte) (defScope s_Reader_byte) .none mkV_Reader_byte mdc_Reader_byte mpm_Reader_byte man_Reader_byte mcd_Reader_byte mct_Reader_byte
  have D_Reader_byte : DefM6 K R "byte" "Reader.byte" ["self"] s_Reader_byte mf_Reader_byte fd_Reader_byte := ⟨fun_mk (st := s_Reader_byte) ml_Reader_byte mc_Reader_byte mk_Reader_byte, (fun_mk (st := s_Reader_byte) ml_Reader_byte mc_Reader_byte mk_Reader_byte).binds (ps := ["self"]) fun _ _ _ _ _ _ us hl => match us, hl with | [_], _ => rfl, ⟨ma_Reader_byte, mi_Reader_byte, mk_Reader_byte⟩⟩
  let fd_Reader_value : FuncData := PySem.W.fnOf "value" "Reader.value" (defArgs s_Reader_value) (defBody s_Reader_value) (defScope s_Reader_value) .none mkV_Reader_value mdc_Reader_value mpm_Reader_value man_Reader_value mcd_Reader_value mct_Reader_value
  have D_Reader_value : DefM6 K R "value" "Reader.value" ["self", "depth"] s_Reader_value mf_Reader_value fd_Reader_value := ⟨fun_mk (st := s_Reader_value) ml_Reader_value mc_Reader_value mk_Reader_value, (fun_mk (st := s_Reader_value) ml_Reader_value mc_Reader_value mk_Reader_value).binds (ps := ["self", "depth"]) fun _ _ _ _ _ _ us hl => match us, hl with | [_, _], _ => rfl, ⟨ma_Reader_value, mi_Reader_value, mk_Reader_value⟩⟩
  let fd_Reader_size : FuncData := PySem.W.fnOf "size" "Reader.size" (defArgs s_Reader_size) (defBody s_Reader_size) (defScope s_Reader_size) .none mkV_Reader_size mdc_Reader_size mpm_Reader_size man_Reader_size mcd_Reader_size mct_Reader_size
  have D_Reader_size : DefM6 K R "size" "Reader.size" ["self"] s_Reader_size mf_Reader_size fd_Reader_size := ⟨fun_mk (st := s_Reader_size) ml_Reader_size mc_Reader_size mk_Reader_size, (fun_mk (st := s_Reader_size) ml_Reader_size mc_Reader_size mk_Reader_size).binds (ps := ["self"]) fun _ _ _ _ _ _ us hl => match us, hl with | [_], _ => rfl, ⟨ma_Reader_size, mi_Reader_size, mk_Reader_size⟩⟩
  let fd_Reader_character : FuncData := PySem.W.fnOf "character" "Reader.character" (defArgs s_Reader_character) (defBody s_Reader_character) (defScope s_Reader_character) .none mkV_Reader_character mdc_Reader_character mpm_Reader_character man_Reader_character mcd_Reader_character mct_Reader_character
  have D_Reader_character : DefM6 K R "character" "Reader.character" ["self"] s_Reader_character mf_Reader_character fd_Reader_character := ⟨fun_mk (st := s_Reader_character) ml_Reader_character mc_Reader_character mk_Reader_character, (fun_mk (st := s_Reader_character) ml_Reader_character mc_Reader_character mk_Reader_character).binds (ps := ["self"]) fun _ _ _ _ _ _ us hl => match us, hl with | [_], _ => rfl, ⟨ma_Reader_character, mi_Reader_character, mk_Reader_character⟩⟩
  have mR := PySem.W.mg_of X G aR
  have RK : RdK K R := ⟨⟨pgR, hdR, poR, saR⟩, nRd, nRa⟩
  have MR : Mk K R mf_Reader___init__ := ⟨mkR, ma_Reader___init__, mi_Reader___init__, kcR⟩
  have ox : OexC K C := ⟨⟨_, _, _, _, bm, _, _, _, _, _, _, _, _, _, _, xL, xV⟩, saC, eC, tC, kC⟩
  have SE : SupE l.prog K mg C fI cc cda "self" := ⟨ox, ⟨_, _, _, _, _, lI, rfl, rfl⟩, ⟨_, _, _, eI⟩, ⟨_, _, _, _, _, _, oI, vI, mI⟩, mC, PySem.W.mg_none_of X G sI, pI, hI, uI, vC⟩
  have CT : Cat K C "at" := ⟨⟨gaC, ggC, eC, hC⟩, nC, PySem.W.exm_ref eC hC tC sC⟩
  cases e
  exact ⟨fd_law, fun s v => .of_eq rfl, fun base _ _ => by
    have ER : Err l.prog w K mg base "PackError" "at" "at" C 1 := ⟨ox, PySem.W.mg_of X G aC, fI, _, fC, tI, .all (fun us hl => match us, hl with | [_, _], _ => rfl), ok_err (P := l.prog) (w := w) (base := base) (k := 0) SE nC lI cI eI⟩
    have o_bet := ok_is_between (P := l.prog) (w := w) (base := base) T D_is_between
    have o_size := ok_size_bytes (P := l.prog) (w := w) (base := base) T C_MORE D_size_bytes
    have o_place := ok_place_of (P := l.prog) (w := w) (base := base) T C_CHARACTERS C_NO_BYTE ER D_place_of
    have o_into := ok_pack_into (P := l.prog) (w := w) (base := base) T C_NO_BYTE C_FROM_ZERO C_BELOW_ZERO C_STRING C_TUPLE ER D_pack_into o_place o_size 61
    have o_pack := ok_pack (P := l.prog) (w := w) (base := base) T C_DEEPEST_TUPLES D_pack o_into
    have o_byte := ok_byte (P := l.prog) (w := w) (base := base) T RK ER D_Reader_byte o_bet
    have o_chr := ok_character (P := l.prog) (w := w) (base := base) T C_CHARACTERS RK ER D_Reader_character o_byte
    have o_sz := ok_size (P := l.prog) (w := w) (base := base) T C_MORE RK ER D_Reader_size o_byte
    have o_val := ok_value (P := l.prog) (w := w) (base := base) T C_PLAIN C_FROM_ZERO C_BELOW_ZERO C_STRING C_TUPLE RK ER D_Reader_value o_byte o_sz o_chr 61
    have o_rd := ok_Reader (P := l.prog) (w := w) (base := base) RK D_Reader___init__ MR mR
    have o_unp := ok_unpack (P := l.prog) (w := w) (base := base) T C_DEEPEST_TUPLES RK ER D_unpack o_rd o_val
    have l_top := ok__law_top (P := l.prog) (w := w) (base := base) D__law_top
    have l_ops := ok__law_ops (P := l.prog) (w := w) (base := base) D__law_ops
    have l_take := ok__law_take (P := l.prog) (w := w) (base := base) T D__law_take
    have l_draw := ok__law_draw (P := l.prog) (w := w) (base := base) T D__law_draw
    have l_word := ok__law_word (P := l.prog) (w := w) (base := base) T D__law_word l_top l_take
    have l_var := ok__law_variable (P := l.prog) (w := w) (base := base) D__law_variable l_take
    have l_ix : ∀ (m j : Nat), 2 ≤ j → Own l.prog w K mg base "_law_expression" ["p", "depth"] j (spExpr K m) → Own l.prog w K mg base "_law_index" ["p", "size", "depth"] (j + 1) (spIndex K m) := fun m j hj o => ok__law_index hj T D__law_index l_take l_top l_var o
    have l_ex : ∀ m : Nat, Own l.prog w K mg base "_law_expression" ["p", "depth"] (2 * m + 2) (spExpr K m) := by
      intro m
      induction m with
      | zero => exact ⟨_, _, D__law_expression.mg, D__law_expression.fn.kp, D__law_expression.bd, fn_never fun vs H Q E ⟨d, L, dp, n, va, ar, k, _, hk, _⟩ => absurd hk (Nat.not_lt_zero k)⟩
      | succ m ih => exact ok__law_expression (j := 2 * m + 3) (by omega) T D__law_expression l_take l_word l_var l_ops (ih.mono (by omega)) (l_ix m _ (by omega) ih)
    have l_ex3 := l_ex 3
    have l_ix3 := l_ix 3 8 (by decide) l_ex3
    have l_row := ok__law_row (P := l.prog) (w := w) (base := base) (j := 9) (by decide) T D__law_row l_take l_var (l_ex3.mono (by decide)) l_ix3
    have l_blks := ok__law_blocks (P := l.prog) (w := w) (base := base) (j := 10) (by decide) T D__law_blocks l_take (l_ex3.mono (by decide)) l_row
    have l_prog := (ok__law_program (P := l.prog) (w := w) (base := base) (j := 11) (by decide) T D__law_program l_take l_var l_blks).mono (k := 29) (by decide)
    have l_size := ok__law_size (P := l.prog) (w := w) (base := base) T D__law_size
    have l_signs := ok__law_signs (P := l.prog) (w := w) (base := base) D__law_signs
    have l_bytes := ok__law_bytes (P := l.prog) (w := w) (base := base) T D__law_bytes l_size l_signs 61
    have l_plain := ok__law_plain (P := l.prog) (w := w) (base := base) T D__law_plain l_take 5
    have l_num := ok__law_number (P := l.prog) (w := w) (base := base) T D__law_number
    have l_read := ok__law_read (P := l.prog) (w := w) (base := base) T D__law_read l_signs l_num 61
    have l_due := ok__law_due (P := l.prog) (w := w) (base := base) T D__law_due l_read
    have l_told := ok__law_told (P := l.prog) (w := w) (base := base) T ER CT D__law_told o_unp
    have l_chg := ok__law_changed (P := l.prog) (w := w) (base := base) T D__law_changed l_take
    exact ok_law T ER CT D_law l_draw l_take l_prog l_plain l_bytes o_pack l_told l_due l_chg⟩
theorem walk {l : PySem.W.OpenLaw} {q : Program} {loose : List Str} {XP : (Str → Option Value) → Heap → Prop} {YP : World → Heap → Prop} {d : DefRec} {K : Params → PySem.W.Frag} (hn : l.most = some 63) (hdf : d.params.defaults = [])
    (hY : ∀ (w : World) (h : Heap), YP w h → (K w.params).In h)
    (F : ∀ (w : World) (mg : Str → Option Value) (fa : Addr) (h : Heap), (K w.params).In h → h.Ns mainGlobals mg → mg d.name = some (.ref fa) →
      ∃ fd : FuncData, (∀ (s : Shared) (u : Value), BindsTo s fd ⟨[u], []⟩ [("script", u)]) ∧ ∀ base : Heap, (K w.params).In base → base.Ns mainGlobals mg → RunG l.prog w (K w.params) mg base 70 fa fd ["script"] (spLaw (K w.params))) :
    PySem.W.WalkO q loose XP YP l.row.toRowW d [] (fun f vs => PySem.call f vs) :=
  walk_run (n := 63) (k := 70) (x := "script") (sp := spLaw) hn (by decide) hdf ⟨rfl, by decide, by decide⟩ hY F fun _ _ a ns hl _ hS => ⟨a, ns, rfl, hS, hl, fun _ => rfl⟩
end My

open PySem PySem.W PyProof.Rows in
set_option maxRecDepth 100000 in
set_option maxHeartbeats 0 in
theorem PySem.Challenge.cw_inputways_k06_packing_holds : PySem.Challenge.rw_inputways_k06_packing.Holds := by
  w_on; o_law; k_head; (case hw => w_witness2)
  k_fill
  refine My.walk (l := PySem.Challenge.rw_inputways_k06_packing) rfl rfl (fun w h Y => PySem.W.kIn_of Y) ?F
  case F =>
    intro w mg fa h KX G hmg
    refine' My.all_mk KX G hmg ?a0 ?l0 ?c0 ?k0 ?a1 ?l1 ?c1 ?k1 ?a2 ?l2 ?c2 ?k2 ?a3 ?l3 ?c3 ?k3 ?a4 ?l4 ?c4 ?k4 ?a5 ?l5 ?c5 ?k5 ?a6 ?l6 ?c6 ?k6 ?a7 ?l7 ?c7 ?k7 ?a8 ?l8 ?c8 ?k8 ?a9 ?l9 ?c9 ?k9 ?a10 ?l10 ?c10 ?k10 ?a11 ?l11 ?c11 ?k11 ?a12 ?l12 ?c12 ?k12 ?a13 ?l13 ?c13 ?k13 ?a14 ?l14 ?c14 ?k14 ?a15 ?l15 ?c15 ?k15 ?a16 ?l16 ?c16 ?k16 ?a17 ?l17 ?c17 ?k17 ?a18 ?l18 ?c18 ?k18 ?a19 ?l19 ?c19 ?k19 ?a20 ?l20 ?c20 ?k20 ?a21 ?l21 ?c21 ?k21 ?a22 ?l22 ?c22 ?k22 ?a23 ?l23 ?c23 ?k23 ?a24 ?l24 ?c24 ?k24 ?a25 ?l25 ?c25 ?k25 ?a26 ?l26 ?c26 ?k26 ?i_FROM_ZERO ?i_BELOW_ZERO ?i_STRING ?i_TUPLE ?i_DEEPEST_TUPLES ?i_MORE ?i_NO_BYTE ?i_CHARACTERS ?ca_PLAIN ?cl_PLAIN ?cs_PLAIN ?cv_PLAIN ?aR ?ma_Reader___init__ ?mi_Reader___init__ ?ml_Reader___init__ ?mc_Reader___init__ ?mk_Reader___init__ ?ma_Reader_byte ?mi_Reader_byte ?ml_Reader_byte ?mc_Reader_byte ?mk_Reader_byte ?ma_Reader_value ?mi_Reader_value ?ml_Reader_value ?mc_Reader_value ?mk_Reader_value ?ma_Reader_size ?mi_Reader_size ?ml_Reader_size ?mc_Reader_size ?mk_Reader_size ?ma_Reader_character ?mi_Reader_character ?ml_Reader_character ?mc_Reader_character ?mk_Reader_character ?pgR ?hdR ?poR ?saR ?mkR ?kcR ?nRd ?nRa ?aC ?xL ?xV ?saC ?gaC ?ggC ?nC ?kC ?eC ?tC ?hC ?iC ?sC ?vC ?mC ?fC ?tI ?lI ?cI ?eI ?oI ?vI ?mI ?sI ?pI ?hI ?uI ?z_abs ?z_bool ?z_int ?z_isinstance ?z_len ?z_list ?z_max ?z_min ?z_range ?z_repr ?z_sorted ?z_str ?z_tuple
    (case a0 => k_is)
    (case l0 => k_is)
    (case c0 => k_is)
    (case k0 => k_is)
    (case a1 => k_is)
    (case l1 => k_is)
    (case c1 => k_is)
    (case k1 => k_is)
    (case a2 => k_is)
    (case l2 => k_is)
    (case c2 => k_is)
    (case k2 => k_is)
    (case a3 => k_is)
    (case l3 => k_is)
    (case c3 => k_is)
    (case k3 => k_is)
    (case a4 => k_is)
    (case l4 => k_is)
    (case c4 => k_is)
    (case k4 => k_is)
    (case a5 => k_is)
    (case l5 => k_is)
    (case c5 => k_is)
    (case k5 => k_is)
    (case a6 => k_is)
    (case l6 => k_is)
    (case c6 => k_is)
    (case k6 => k_is)
    (case a7 => k_is)
    (case l7 => k_is)
    (case c7 => k_is)
    (case k7 => k_is)
    (case a8 => k_is)
    (case l8 => k_is)
    (case c8 => k_is)
    (case k8 => k_is)
    (case a9 => k_is)
    (case l9 => k_is)
    (case c9 => k_is)
    (case k9 => k_is)
    (case a10 => k_is)
    (case l10 => k_is)
    (case c10 => k_is)
    (case k10 => k_is)
    (case a11 => k_is)
    (case l11 => k_is)
    (case c11 => k_is)
    (case k11 => k_is)
    (case a12 => k_is)
    (case l12 => k_is)
    (case c12 => k_is)
    (case k12 => k_is)
    (case a13 => k_is)
    (case l13 => k_is)
    (case c13 => k_is)
    (case k13 => k_is)
    (case a14 => k_is)
    (case l14 => k_is)
    (case c14 => k_is)
    (case k14 => k_is)
    (case a15 => k_is)
    (case l15 => k_is)
    (case c15 => k_is)
    (case k15 => k_is)
    (case a16 => k_is)
    (case l16 => k_is)
    (case c16 => k_is)
    (case k16 => k_is)
    (case a17 => k_is)
    (case l17 => k_is)
    (case c17 => k_is)
    (case k17 => k_is)
    (case a18 => k_is)
    (case l18 => k_is)
    (case c18 => k_is)
    (case k18 => k_is)
    (case a19 => k_is)
    (case l19 => k_is)
    (case c19 => k_is)
    (case k19 => k_is)
    (case a20 => k_is)
    (case l20 => k_is)
    (case c20 => k_is)
    (case k20 => k_is)
    (case a21 => k_is)
    (case l21 => k_is)
    (case c21 => k_is)
    (case k21 => k_is)
    (case a22 => k_is)
    (case l22 => k_is)
    (case c22 => k_is)
    (case k22 => k_is)
    (case a23 => k_is)
    (case l23 => k_is)
    (case c23 => k_is)
    (case k23 => k_is)
    (case a24 => k_is)
    (case l24 => k_is)
    (case c24 => k_is)
    (case k24 => k_is)
    (case a25 => k_is)
    (case l25 => k_is)
    (case c25 => k_is)
    (case k25 => k_is)
    (case a26 => k_is)
    (case l26 => k_is)
    (case c26 => k_is)
    (case k26 => k_is)
    (case i_FROM_ZERO => k_is)
    (case i_BELOW_ZERO => k_is)
    (case i_STRING => k_is)
    (case i_TUPLE => k_is)
    (case i_DEEPEST_TUPLES => k_is)
    (case i_MORE => k_is)
    (case i_NO_BYTE => k_is)
    (case i_CHARACTERS => k_is)
    (case ca_PLAIN => k_is)
    (case cl_PLAIN => k_is)
    (case cs_PLAIN => decide +kernel)
    (case cv_PLAIN => (repeat (first | exact .nil | refine .cons rfl ?_)))
    (case aR => k_is)
    (case ma_Reader___init__ => k_is)
    (case mi_Reader___init__ => k_is)
    (case ml_Reader___init__ => k_is)
    (case mc_Reader___init__ => k_is)
    (case mk_Reader___init__ => k_is)
    (case ma_Reader_byte => k_is)
    (case mi_Reader_byte => k_is)
    (case ml_Reader_byte => k_is)
    (case mc_Reader_byte => k_is)
    (case mk_Reader_byte => k_is)
    (case ma_Reader_value => k_is)
    (case mi_Reader_value => k_is)
    (case ml_Reader_value => k_is)
    (case mc_Reader_value => k_is)
    (case mk_Reader_value => k_is)
    (case ma_Reader_size => k_is)
    (case mi_Reader_size => k_is)
    (case ml_Reader_size => k_is)
    (case mc_Reader_size => k_is)
    (case mk_Reader_size => k_is)
    (case ma_Reader_character => k_is)
    (case mi_Reader_character => k_is)
    (case ml_Reader_character => k_is)
    (case mc_Reader_character => k_is)
    (case mk_Reader_character => k_is)
    (case pgR => k_is)
    (case hdR => k_is)
    (case poR => k_is)
    (case saR => k_is)
    (case mkR => k_is)
    (case kcR => k_is)
    (case nRd => k_is)
    (case nRa => k_is)
    (case aC => k_is)
    (case xL => k_is)
    (case xV => first | k_is | decide +kernel | rfl)
    (case saC => k_is)
    (case gaC => k_is)
    (case ggC => k_is)
    (case nC => k_is)
    (case kC => k_is)
    (case eC => k_is)
    (case tC => k_is)
    (case hC => k_is)
    (case iC => k_is)
    (case sC => first | k_is | rfl)
    (case vC => k_is)
    (case mC => first | k_is | rfl)
    (case fC => k_is)
    (case tI => k_is)
    (case lI => k_is)
    (case cI => k_is)
    (case eI => k_is)
    (case oI => k_is)
    (case vI => first | rfl | k_is)
    (case mI => first | rfl | decide +kernel)
    (case sI => k_is)
    (case pI => first | rfl | decide +kernel)
    (case hI => k_is)
    (case uI => first | k_is | rfl | decide +kernel)
    (case z_abs => k_is)
    (case z_bool => k_is)
    (case z_int => k_is)
    (case z_isinstance => k_is)
    (case z_len => k_is)
    (case z_list => k_is)
    (case z_max => k_is)
    (case z_min => k_is)
    (case z_range => k_is)
    (case z_repr => k_is)
    (case z_sorted => k_is)
    (case z_str => k_is)
    (case z_tuple => k_is)
