import PyProof.Rows.All
import Wide.All
import OpenK.AllK
import Wide.FinOn
import HandS.Base
import HandS.Call
import HandS.List
import HandS.Comp
import HandS.Ends
import HandS.Dict
import HandS.Iter
import HandS.Words
import HandS.IsInst
import HandS.Codes
import HandS.Text
import HandS.TupSets
import KE.SortCalls
import HandS.Deep
import KE.KeyNested
import HandS.SetIn
import KE.KDictKeyed
import HandS.Small
import PyProof.Rows.BitMore
import KE.BitLaws
import HandS.Style
import HandS.More
import HandS.SortInts
import PySem.Challenge.RW_inputways_k30_circuits_and_their_bits
set_option Elab.async false
set_option maxRecDepth 100000
set_option maxHeartbeats 4000000
set_option linter.all false
namespace My
open PySem L2
open C8 (pss_cut)
/-! ### a def of the text, as the top has written it; a def that keeps a promise -/
structure Def (K : PySem.W.Frag) (mg : Str → Option Value) (x : Str) (ps : List Str) (st : Stmt) (f : Addr) (fd : FuncData) : Prop where
  fn : Fun K x x st f fd
  mg : mg x = some (.ref f)
  bd : Binds K fd ps []
def Own (P : Program) (w : World) (K : PySem.W.Frag) (mg : Str → Option Value) (base : Heap) (x : Str) (ps : List Str) (k : Nat) (sp : Sp) : Prop :=
  ∃ (f : Addr) (fd : FuncData), mg x = some (.ref f) ∧ PySem.W.keepIn K (.ref f) = true ∧ Binds K fd ps [] ∧ FnOk P w K mg base CX0 k f fd ps sp
/-- a def whose promise nobody can ask for -/
theorem fn_never {P : Program} {w : World} {K : PySem.W.Frag} {mg : Str → Option Value} {base : Heap} {k : Nat} {f : Addr} {fd : FuncData} {ps : List Str} {sp : Sp} (no : ∀ vs H Q E, ¬ sp vs H Q E) : FnOk P w K mg base CX0 k f fd ps sp :=
  ⟨fun vs H Q E h => absurd h (no vs H Q E), fun A outer s H args us vs Q E _ _ _ _ h => absurd h (no vs H Q E)⟩
/-- a constant of the top: a tuple of these -/
def Con (K : PySem.W.Frag) (mg : Str → Option Value) (x : Str) (xs : List V) : Prop :=
  ∃ (a : Addr) (od : Option Addr) (its : Array Value) (n : Nat) (sl : Array (Option Value)), mg x = some (.ref a) ∧ K.lookup a = some ⟨.type "tuple", od, .seq its n, sl⟩ ∧ its.size ≤ sizeLine ∧ Vals xs its.toList
theorem con_seq {K : PySem.W.Frag} {H : Hp} {a : Addr} {od : Option Addr} {its : Array Value} {n : Nat} {sl : Array (Option Value)} {xs : List V} (l : K.lookup a = some ⟨.type "tuple", od, .seq its n, sl⟩) (s : its.size ≤ sizeLine) (v : Vals xs its.toList) : SqT K H a xs :=
  .inr ⟨_, its, n, l, rfl, rfl, s, v⟩

/-! ### small words -/
theorem same_new {H : Hp} {p : Addr} (h : H p = none) (o : HO) : Same H (upd H p o) := fun b u q => by rw [upd_ne (ne_of_none q h)]; exact q
theorem streq {a b : Str} (c : decide (V.str a = V.str b) = true) : a = b := V.str.inj (of_decide_eq_true c)
theorem strne {a b : Str} (c : ¬ decide (V.str a = V.str b) = true) : a ≠ b := fun e => c (by rw [e]; exact decide_eq_true rfl)
theorem inteq {a b : Int} (c : decide (V.int a = V.int b) = true) : a = b := V.int.inj (of_decide_eq_true c)
theorem intne {a b : Int} (c : ¬ decide (V.int a = V.int b) = true) : a ≠ b := fun e => c (by rw [e]; exact decide_eq_true rfl)
theorem toI {Q : V → Hp → Prop} {H : Hp} {a b : Int} (e : a = b) (q : Q (.int b) H) : Q (.int a) H := by rw [e]; exact q
theorem toB {Q : V → Hp → Prop} {H : Hp} {a b : Bool} (e : a = b) (q : Q (.bl b) H) : Q (.bl a) H := by rw [e]; exact q
theorem inS {x : Str} : ∀ {xs : List Str}, inV (.str x) (xs.map V.str) = decide (x ∈ xs)
  | [] => by simp [inV]
  | y :: ys => by
    have ih := inS (x := x) (xs := ys)
    unfold inV at ih ⊢
    rw [List.map_cons, List.any_cons, ih]
    show (y == x || decide (x ∈ ys)) = decide (x ∈ y :: ys)
    by_cases h : y = x
    · subst h
      simp
    · have h' : ¬ x = y := fun e => h e.symm
      simp [h, h']
theorem atI_get {ns : List Int} {k : Int} (h0 : 0 ≤ k) (h : k < (ns.length : Int)) : ∃ z : Int, z ∈ ns ∧ atI (ns.map V.int) k = some (.int z) := by
  have hk : k.toNat < ns.length := by omega
  have ek : k = ((k.toNat : Nat) : Int) := by omega
  have q : atI (ns.map V.int) ((k.toNat : Nat) : Int) = some (.int ns[k.toNat]) := atI_nat (by rw [List.getElem?_map, List.getElem?_eq_getElem hk] <;> rfl)
  rw [← ek] at q
  exact ⟨_, List.getElem_mem hk, q⟩
/-- an item in bounds -/
theorem atI_in {xs : List V} {k : Int} (h0 : 0 ≤ k) (h : k < (xs.length : Int)) : ∃ v : V, atI xs k = some v ∧ xs[k.toNat]? = some v ∧ v ∈ xs := by
  have hk : k.toNat < xs.length := by omega
  have ek : k = ((k.toNat : Nat) : Int) := by omega
  have q : atI xs ((k.toNat : Nat) : Int) = some xs[k.toNat] := atI_nat (List.getElem?_eq_getElem hk)
  rw [← ek] at q
  exact ⟨_, q, List.getElem?_eq_getElem hk, List.getElem_mem hk⟩
theorem map_at {ns : List Int} {i : Nat} {y : V} (hi : (ns.map V.int)[i]? = some y) : ∃ z, y = V.int z ∧ ns[i]? = some z := by
  rw [List.getElem?_map] at hi
  cases e : ns[i]? with
  | none =>
    rw [e] at hi
    cases hi
  | some z =>
    rw [e] at hi
    exact ⟨z, (Option.some.inj hi).symm, rfl⟩
theorem yes2 {σ : L2.St} {H : Hp} {A B : Hp → Prop} (h : A H) : tYes σ H (fun b H3 => if b = true then A H3 else B H3) := iteT (A := A H) (B := B H) h
theorem small {n : Nat} (h : n ≤ 1000) : n ≤ sizeLine := Nat.le_of_lt (small1000 h)

/-! ### a heap without one object -/
def hide (d : Addr) (H : Hp) : Hp := fun b => if b = d then none else H b
theorem hide_at {d : Addr} {H : Hp} : hide d H d = none := if_pos rfl
theorem hide_ne {d b : Addr} {H : Hp} (h : b ≠ d) : hide d H b = H b := if_neg h
theorem hide_some {d b : Addr} {H : Hp} {o : HO} (h : hide d H b = some o) : b ≠ d ∧ H b = some o := by
  unfold hide at h
  by_cases e : b = d
  · rw [if_pos e] at h
    cases h
  · rw [if_neg e] at h
    exact ⟨e, h⟩
theorem hide_le {d : Addr} {H : Hp} : Same (hide d H) H := fun b o h => (hide_some h).2
theorem hide_new {d p : Addr} {H : Hp} (hp : H p = none) (o : HO) : Same (hide d H) (hide d (upd H p o)) := fun b u h => by
  obtain ⟨h1, h2⟩ := hide_some h
  rw [hide_ne h1, upd_ne (ne_of_none h2 hp)]
  exact h2
theorem hide_put {d : Addr} {H : Hp} (o : HO) : Same (hide d H) (hide d (upd H d o)) := fun b u h => by
  obtain ⟨h1, h2⟩ := hide_some h
  rw [hide_ne h1, upd_ne h1]
  exact h2
theorem hide_same {d : Addr} {H H' : Hp} (e : Same H H') : Same (hide d H) (hide d H') := fun b u h => by
  obtain ⟨h1, h2⟩ := hide_some h
  rw [hide_ne h1]
  exact e b u h2
/-- what stands apart from d and is tracked, is tracked without d -/
theorem hide_in {d b : Addr} {H : Hp} {o : HO} (h : H b = some o) (hb : b ≠ d) : hide d H b = some o := by rw [hide_ne hb]; exact h
/-- a new object behind the draw -/
theorem hide_upd {d p : Addr} {H : Hp} {o u : HO} (hd : H d = some u) (hp : H p = none) : hide d (upd H p o) p = some o := by
  rw [hide_ne (fun e => by rw [e, hd] at hp; cases hp), upd_same]

/-! ### sequences and data in a heap that has grown -/
theorem rd_mono {H H' : Hp} {a : Addr} {u : HO} (e : Same H H') (h : Rd H a u) : Rd H' a u := by
  rcases h with h | ⟨o, h⟩
  · exact .inl (e _ _ h)
  · exact .inr ⟨o, e _ _ h⟩
theorem sqt_mono {K : PySem.W.Frag} {H H' : Hp} {a : Addr} {xs : List V} (e : Same H H') (h : SqT K H a xs) : SqT K H' a xs := by
  rcases h with h | h
  · exact .inl (rd_mono e h)
  · exact .inr h
theorem sql_mono {K : PySem.W.Frag} {H H' : Hp} {a : Addr} {xs : List V} (e : Same H H') (h : SqL K H a xs) : SqL K H' a xs := e.seq h
mutual
theorem dp_mono {K : PySem.W.Frag} {H H' : Hp} (e : Same H H') : ∀ (d : PyData) {v : V}, Dp K H v d → Dp K H' v d
  | .none, _, .non => .non
  | .bool _, _, .bl b => .bl b
  | .int _, _, .int i => .int i
  | .str _, _, .str x => .str x
  | .list ds, _, .lst h hs => .lst (sql_mono e h) (dpa_mono e ds hs)
  | .tuple ds, _, .tup h hs => .tup (sqt_mono e h) (dpa_mono e ds hs)
  | .dict _, _, h => by cases h
theorem dpa_mono {K : PySem.W.Frag} {H H' : Hp} (e : Same H H') : ∀ (ds : List PyData) {vs : List V}, DpAll K H vs ds → DpAll K H' vs ds
  | [], _, .nil => .nil
  | d :: ds, _, .cons h hs => .cons (dp_mono e d h) (dpa_mono e ds hs)
end
section
variable {K : PySem.W.Frag} {H : Hp}
theorem dpa_len : ∀ {vs : List V} {ds : List PyData}, DpAll K H vs ds → vs.length = ds.length
  | _, _, .nil => rfl
  | _, _, .cons _ t => by rw [List.length_cons, List.length_cons, dpa_len t]
theorem dpa_get : ∀ {vs : List V} {ds : List PyData} {i : Nat} {v : V}, DpAll K H vs ds → vs[i]? = some v → ∃ d, ds[i]? = some d ∧ Dp K H v d
  | _, _, _, _, .nil, e => by cases e
  | _, _, 0, _, .cons h _, e => by
    cases e
    exact ⟨_, rfl, h⟩
  | _, _, i + 1, _, .cons _ t, e => dpa_get (i := i) t e
theorem dpa_app : ∀ {vs us : List V} {ds es : List PyData}, DpAll K H vs ds → DpAll K H us es → DpAll K H (vs ++ us) (ds ++ es)
  | _, _, _, _, .nil, h => h
  | _, _, _, _, .cons a t, h => .cons a (dpa_app t h)
theorem dpa_one {v : V} {d : PyData} (h : Dp K H v d) : DpAll K H [v] [d] := .cons h .nil
theorem dpa_take : ∀ {vs : List V} {ds : List PyData} (n : Nat), DpAll K H vs ds → DpAll K H (vs.take n) (ds.take n)
  | _, _, 0, _ => .nil
  | _, _, _ + 1, .nil => .nil
  | _, _, n + 1, .cons h t => .cons h (dpa_take n t)
theorem dpa_drop : ∀ {vs : List V} {ds : List PyData} (n : Nat), DpAll K H vs ds → DpAll K H (vs.drop n) (ds.drop n)
  | _, _, 0, h => h
  | _, _, _ + 1, .nil => .nil
  | _, _, n + 1, .cons _ t => dpa_drop n t
theorem dpa_map {α : Type} (f : α → V) (g : α → PyData) (h : ∀ x, Dp K H (f x) (g x)) : ∀ l : List α, DpAll K H (l.map f) (l.map g)
  | [] => .nil
  | x :: xs => .cons (h x) (dpa_map f g h xs)
/-- a tuple that is data: its items -/
theorem dp_tup {v : V} {ds : List PyData} (h : Dp K H v (.tuple ds)) : ∃ a xs, v = .ref a ∧ SqT K H a xs ∧ DpAll K H xs ds := by
  cases h with
  | tup hs ha => exact ⟨_, _, rfl, hs, ha⟩
theorem dp_lst {v : V} {ds : List PyData} (h : Dp K H v (.list ds)) : ∃ a xs, v = .ref a ∧ SqL K H a xs ∧ DpAll K H xs ds := by
  cases h with
  | lst hs ha => exact ⟨_, _, rfl, hs, ha⟩
theorem dp_int {v : V} {i : Int} (h : Dp K H v (.int i)) : v = .int i := by cases h; rfl
theorem dp_str {v : V} {x : Str} (h : Dp K H v (.str x)) : v = .str x := by cases h; rfl
theorem dp_bool {v : V} {b : Bool} (h : Dp K H v (.bool b)) : v = .bl b := by cases h; rfl
theorem dp_none {v : V} (h : Dp K H v .none) : v = .non := by cases h; rfl
end

/-! ### a draw: the cells, the place, what is left of the cell, the seed -/
def DrawAt (H : Hp) (d L : Addr) : Prop := ∃ (ns : List Int) (at_ left seed : Int), H d = some (.lst [.ref L, .int at_, .int left, .int seed]) ∧ H L = some (.lst (ns.map V.int)) ∧ d ≠ L ∧ (∀ z, z ∈ ns → 0 ≤ z) ∧ -1 ≤ at_ ∧ 0 ≤ left ∧ 0 ≤ seed ∧ seed < 2147483647
theorem DrawAt.mono {H H' : Hp} {d L : Addr} (h : DrawAt H d L) (e : Same H H') : DrawAt H' d L := by
  obtain ⟨ns, a, l, s, h1, h2, r⟩ := h
  exact ⟨ns, a, l, s, e _ _ h1, e _ _ h2, r⟩
theorem DrawAt.at {H : Hp} {d L : Addr} (h : DrawAt H d L) : ∃ u, H d = some u := by
  obtain ⟨ns, a, l, s, h1, _⟩ := h
  exact ⟨_, h1⟩
theorem DrawAt.cells {H : Hp} {d L : Addr} (h : DrawAt H d L) : ∃ u, H L = some u := by
  obtain ⟨ns, a, l, s, _, h1, _⟩ := h
  exact ⟨_, h1⟩
/-- a new object is no draw -/
theorem DrawAt.new {H : Hp} {d L p : Addr} {o : HO} (h : DrawAt H d L) (hp : H p = none) : DrawAt (upd H p o) d L := h.mono (same_new hp o)
theorem DrawAt.ne {H : Hp} {d L p : Addr} (h : DrawAt H d L) (hp : H p = none) : d ≠ p := by
  obtain ⟨u, hu⟩ := h.at
  exact ne_of_none hu hp
theorem DrawAt.neL {H : Hp} {d L p : Addr} (h : DrawAt H d L) (hp : H p = none) : L ≠ p := by
  obtain ⟨u, hu⟩ := h.cells
  exact ne_of_none hu hp
/-- an object apart from the draw may change -/
theorem DrawAt.put {H : Hp} {d L p : Addr} (o : HO) (h : DrawAt H d L) (h1 : d ≠ p) (h2 : L ≠ p) : DrawAt (upd H p o) d L := by
  obtain ⟨ns, a, l, s, g1, g2, r⟩ := h
  exact ⟨ns, a, l, s, by rw [upd_ne h1]; exact g1, by rw [upd_ne h2]; exact g2, r⟩
theorem DrawAt.in {H : Hp} {d L p : Addr} {o : HO} (h : DrawAt H d L) (hp : H p = none) : hide d (upd H p o) p = some o := by
  obtain ⟨u, hu⟩ := h.at
  exact hide_upd hu hp

/-! ### a word between a test, an expression, and what follows -/
def tCutT (t : TT) : TT := fun σ H Q => ∃ Mid : Bool → Hp → Prop, t σ H Mid ∧ ∀ b H', Mid b H' → Q b H'
theorem pt_cut {X : Cx} {e : Expr} {t : TT} (h : PT X e t) : PT X e (tCutT t) := ⟨fun pins s σ H Q I ⟨Mid, h1, h2⟩ => thn (h.run pins s σ H Mid I h1) fun b s' ⟨H', I', q⟩ => ⟨H', I', h2 b H' q⟩⟩
def tCutE (t : TE) : TE := fun σ H Q => ∃ Mid : V → Hp → Prop, t σ H Mid ∧ ∀ v H', Mid v H' → Q v H'
theorem pe_cut {X : Cx} {e : Expr} {t : TE} (h : PE X e t) : PE X e (tCutE t) := ⟨fun pins s σ H Q I ⟨Mid, h1, h2⟩ => thn (h.run pins s σ H Mid I h1) fun u s' ⟨v, H', I', r, q⟩ => ⟨v, H', I', r, h2 v H' q⟩⟩
/-- a test that leaves the heap as it is and says b -/
theorem cut_same {t : TT} {σ : L2.St} {H : Hp} {Q : Bool → Hp → Prop} (b : Bool) (h : t σ H fun c H' => c = b ∧ H' = H) (q : Q b H) : tCutT t σ H Q :=
  ⟨_, h, fun c H' ⟨e1, e2⟩ => by rw [e1, e2]; exact q⟩
theorem cutE_same {t : TE} {σ : L2.St} {H : Hp} {Q : V → Hp → Prop} (v : V) (h : t σ H fun c H' => c = v ∧ H' = H) (q : Q v H) : tCutE t σ H Q :=
  ⟨_, h, fun c H' ⟨e1, e2⟩ => by rw [e1, e2]; exact q⟩
/-- a dict's key, written: the first, the second, the third .. -/
theorem get_k {H : Hp} {a : Addr} {kvs : List (Key × V)} {x : Str} {v : V} (e : H a = some (.dK kvs)) (g : valV kvs (Sum.inr x : Key) = some v) : DGet H a (.str x) (some v) := by
  have q := DGet.k (k := (Sum.inr x : Key)) e
  rw [g] at q
  exact q
/-- a new tuple of data behind the draw -/
theorem dp_new {K : PySem.W.Frag} {H : Hp} {d L p : Addr} {xs : List V} {ds : List PyData} (D : DrawAt H d L) (hp : H p = none) (h : DpAll K (hide d H) xs ds) : Dp K (hide d (upd H p (.tup xs))) (.ref p) (.tuple ds) :=
  .tup (SqT.of (D.in hp)) (dpa_mono (hide_new hp _) _ h)

/-! ### a list that grows apart from the data -/
mutual
def noLst : PyData → Bool
  | .none => true
  | .bool _ => true
  | .int _ => true
  | .str _ => true
  | .list _ => false
  | .tuple ds => noLsts ds
  | .dict _ => false
def noLsts : List PyData → Bool
  | [] => true
  | d :: ds => noLst d && noLsts ds
end
theorem sqt_hide {K : PySem.W.Frag} {H : Hp} {D a : Addr} {ys xs : List V} (hD : H D = some (.lst ys)) (h : SqT K H a xs) : SqT K (hide D H) a xs := by
  rcases h with (h | ⟨o, h⟩) | h
  · exact .inl (.inl (hide_in h (ne_of h hD (by intro z; cases z))))
  · exact .inl (.inr ⟨o, hide_in h (ne_of h hD (by intro z; cases z))⟩)
  · exact .inr h
mutual
theorem dp_hide {K : PySem.W.Frag} {H : Hp} {D : Addr} {ys : List V} (hD : H D = some (.lst ys)) : ∀ (d : PyData) {v : V}, noLst d = true → Dp K H v d → Dp K (hide D H) v d
  | .none, _, _, .non => .non
  | .bool _, _, _, .bl b => .bl b
  | .int _, _, _, .int i => .int i
  | .str _, _, _, .str x => .str x
  | .list ds, _, n, _ => by cases (show false = true from n)
  | .tuple ds, _, n, .tup h hs => .tup (sqt_hide hD h) (dpa_hide hD ds n hs)
  | .dict _, _, _, h => by cases h
theorem dpa_hide {K : PySem.W.Frag} {H : Hp} {D : Addr} {ys : List V} (hD : H D = some (.lst ys)) : ∀ (ds : List PyData) {vs : List V}, noLsts ds = true → DpAll K H vs ds → DpAll K (hide D H) vs ds
  | [], _, _, .nil => .nil
  | d :: ds, _, n, .cons h hs => by
    have n' := Bool.and_eq_true_iff.mp (show (noLst d && noLsts ds) = true from n)
    exact .cons (dp_hide hD d n'.1 h) (dpa_hide hD ds n'.2 hs)
end
theorem noLsts_map {α : Type} {g : α → PyData} (h : ∀ x, noLst (g x) = true) : ∀ l : List α, noLsts (l.map g) = true
  | [] => rfl
  | x :: xs => by
    show (noLst (g x) && noLsts (xs.map g)) = true
    rw [h x, noLsts_map h xs]
    rfl
/-- the new list of a comprehension, D, behind the draw at d: what stands in it so far, as data -/
structure Grows (K : PySem.W.Frag) (H0 H : Hp) (d L D : Addr) (vs : List V) (ds : List PyData) : Prop where
  at_ : H D = some (.lst vs)
  all : DpAll K (hide D (hide d H)) vs ds
  dr : DrawAt H d L
  old : Same (hide d H0) (hide d H)
  nd : d ≠ D
  nL : L ≠ D
  fr : hide d H0 D = none
theorem Grows.start {K : PySem.W.Frag} {H : Hp} {d L D : Addr} (h : DrawAt H d L) (hD : H D = none) : Grows K H (upd H D (.lst [])) d L D [] [] :=
  ⟨upd_same, .nil, h.new hD, hide_new hD _, h.ne hD, h.neL hD, by rw [hide_ne (h.ne hD).symm]; exact hD⟩
/-- what a call leaves -/
theorem Grows.step {K : PySem.W.Frag} {H0 H H' : Hp} {d L D : Addr} {vs : List V} {ds : List PyData} (g : Grows K H0 H d L D vs ds) (h : DrawAt H' d L) (e : Same (hide d H) (hide d H')) : Grows K H0 H' d L D vs ds :=
  ⟨hide_le _ _ (e _ _ (hide_in g.at_ g.nd.symm)), dpa_mono (hide_same e) _ g.all, h, g.old.trans e, g.nd, g.nL, g.fr⟩
theorem Grows.push {K : PySem.W.Frag} {H0 H : Hp} {d L D : Addr} {vs : List V} {ds : List PyData} {v : V} {x : PyData} (g : Grows K H0 H d L D vs ds) (n : noLst x = true) (h : Dp K (hide d H) v x) : Grows K H0 (upd H D (.lst (vs ++ [v]))) d L D (vs ++ [v]) (ds ++ [x]) := by
  have h' := dp_hide (hide_in g.at_ g.nd.symm) x n h
  have e : Same (hide D (hide d H)) (hide D (hide d (upd H D (.lst (vs ++ [v]))))) := fun b o hb => by
    obtain ⟨h1, h2⟩ := hide_some hb
    obtain ⟨h3, h4⟩ := hide_some h2
    rw [hide_ne h1, hide_ne h3, upd_ne h1]
    exact h4
  refine ⟨upd_same, dpa_mono e _ (dpa_app g.all (dpa_one h')), g.dr.put _ g.nd g.nL, fun b o hb => ?_, g.nd, g.nL, g.fr⟩
  have hbD : b ≠ D := ne_of_none hb g.fr
  obtain ⟨h3, h4⟩ := hide_some (g.old _ _ hb)
  rw [hide_ne h3, upd_ne hbD]
  exact h4
theorem Grows.data {K : PySem.W.Frag} {H0 H : Hp} {d L D : Addr} {vs : List V} {ds : List PyData} (g : Grows K H0 H d L D vs ds) : DpAll K (hide d H) vs ds := dpa_mono hide_le _ g.all

/-! ### promises of the drawing -/
def spTop : Sp := fun vs H Q _ => ∃ n : Nat, vs = [.int n] ∧ n ≤ 1000 ∧ Q (.int (2 ^ n - 1)) H
def spDraw (K : PySem.W.Frag) : Sp := fun vs H Q _ => ∃ (a : Addr) (ns : List Int), vs = [.ref a] ∧ SqL K H a (ns.map V.int) ∧ ns.length ≤ 63 ∧ ∀ d L H', H d = none → H L = none → Same H H' → DrawAt H' d L → Q (.ref d) H'
def spTake : Sp := fun vs H Q _ => ∃ (d L : Addr) (m : Int), vs = [.ref d, .int m] ∧ 0 < m ∧ m < 1073741824 ∧ DrawAt H d L ∧ ∀ v H', 0 ≤ v → v < m → DrawAt H' d L → Same (hide d H) (hide d H') → Q (.int v) H'
def spWord : Sp := fun vs H Q _ => ∃ (d L : Addr) (n : Nat), vs = [.ref d, .int n] ∧ n ≤ 16 ∧ DrawAt H d L ∧ ∀ v H', 0 ≤ v → v < 2 ^ n → DrawAt H' d L → Same (hide d H) (hide d H') → Q (.int v) H'
def opsL : List V := [.str "add", .str "sub", .str "mul", .str "and", .str "or", .str "xor", .str "shl", .str "shr", .str "less", .str "equal"]
def opsS : List Str := ["add", "sub", "mul", "and", "or", "xor", "shl", "shr", "less", "equal"]
def spOps : Sp := fun vs H Q _ => vs = [] ∧ ∀ p H', H p = none → Same H H' → H' p = some (.lst opsL) → Q (.ref p) H'
end My

set_option autoImplicit false
/-! Clauses, pure: what units give, fillings. -/
namespace MC
open Classical
abbrev Cl := List Int
/-- the bit of an item -/
def lit (A : Int → Bool) (x : Int) : Bool := if 0 < x then A x else !A (-x)
def Keeps (A : Int → Bool) (cs : List Cl) : Prop := ∀ c ∈ cs, ∃ x ∈ c, lit A x = true
def Sat (cs : List Cl) : Prop := ∃ A, Keeps A cs
def Nz (cs : List Cl) : Prop := ∀ c ∈ cs, ∀ x ∈ c, x ≠ 0
theorem lit_neg {A : Int → Bool} {x : Int} (h : x ≠ 0) : lit A (-x) = !lit A x := by
  unfold lit
  by_cases c : 0 < x
  · have c2 : ¬ 0 < -x := by omega
    rw [if_pos c, if_neg c2, Int.neg_neg]
  · have c2 : 0 < -x := by omega
    rw [if_neg c, if_pos c2, Bool.not_not]
def rest (l : Int) (c : Cl) : Cl := c.filter fun x => decide (x ≠ -l)
def less (cs : List Cl) (l : Int) : List Cl := (cs.filter fun c => decide (l ∉ c)).map (rest l)
theorem mem_less {cs : List Cl} {l : Int} {d : Cl} : d ∈ less cs l ↔ ∃ c ∈ cs, l ∉ c ∧ rest l c = d := by
  unfold less
  rw [List.mem_map]
  constructor
  · rintro ⟨c, h, e⟩
    obtain ⟨h1, h2⟩ := List.mem_filter.mp h
    exact ⟨c, h1, of_decide_eq_true h2, e⟩
  · rintro ⟨c, h1, h2, e⟩
    exact ⟨c, List.mem_filter.mpr ⟨h1, decide_eq_true h2⟩, e⟩
theorem mem_rest {l x : Int} {c : Cl} : x ∈ rest l c ↔ x ∈ c ∧ x ≠ -l := by
  unfold rest
  rw [List.mem_filter]
  exact ⟨fun ⟨a, b⟩ => ⟨a, of_decide_eq_true b⟩, fun ⟨a, b⟩ => ⟨a, decide_eq_true b⟩⟩
theorem nz_less {cs : List Cl} {l : Int} (h : Nz cs) : Nz (less cs l) := fun d hd x hx => by
  obtain ⟨c, hc, _, rfl⟩ := mem_less.1 hd
  exact h c hc x (mem_rest.1 hx).1
theorem keeps_less {A : Int → Bool} {cs : List Cl} {l : Int} (hl : l ≠ 0) (h : Keeps A cs) (t : lit A l = true) : Keeps A (less cs l) := fun d hd => by
  obtain ⟨c, hc, _, rfl⟩ := mem_less.1 hd
  obtain ⟨x, hx, tx⟩ := h c hc
  refine ⟨x, mem_rest.2 ⟨hx, fun e => ?_⟩, tx⟩
  rw [e, lit_neg hl, t] at tx
  cases tx
def put (A : Int → Bool) (l : Int) : Int → Bool := fun v => if v = l then true else if v = -l then false else A v
theorem lit_put {A : Int → Bool} {l : Int} (hl : l ≠ 0) : lit (put A l) l = true := by
  unfold lit put
  by_cases c : 0 < l
  · rw [if_pos c, if_pos rfl]
  · rw [if_neg c, if_neg (by omega), if_pos rfl] <;> rfl
theorem lit_put_ne {A : Int → Bool} {l x : Int} (h1 : x ≠ l) (h2 : x ≠ -l) : lit (put A l) x = lit A x := by
  unfold lit put
  by_cases c : 0 < x
  · rw [if_pos c, if_pos c, if_neg h1, if_neg h2]
  · rw [if_neg c, if_neg c, if_neg (by omega), if_neg (by omega)]
theorem keeps_put {A : Int → Bool} {cs : List Cl} {l : Int} (hl : l ≠ 0) (h : Keeps A (less cs l)) : Keeps (put A l) cs := fun c hc => by
  by_cases m : l ∈ c
  · exact ⟨l, m, lit_put hl⟩
  · obtain ⟨x, hx, tx⟩ := h _ (mem_less.2 ⟨c, hc, m, rfl⟩)
    obtain ⟨x1, x2⟩ := mem_rest.1 hx
    have x3 : x ≠ l := fun e => m (by rw [← e]; exact x1)
    exact ⟨x, x1, by rw [lit_put_ne x3 x2]; exact tx⟩
theorem sat_less_of {cs : List Cl} {l : Int} (hl : l ≠ 0) (h : Sat (less cs l)) : Sat cs := by
  obtain ⟨A, h⟩ := h
  exact ⟨_, keeps_put hl h⟩
theorem sat_unit {cs : List Cl} {l : Int} (hl : l ≠ 0) (m : [l] ∈ cs) : Sat cs ↔ Sat (less cs l) := by
  refine ⟨fun ⟨A, h⟩ => ⟨A, keeps_less hl h ?_⟩, sat_less_of hl⟩
  obtain ⟨x, hx, t⟩ := h _ m
  rw [List.mem_singleton] at hx
  rw [← hx]
  exact t
theorem sat_split {cs : List Cl} {l : Int} (hl : l ≠ 0) : Sat cs ↔ Sat (less cs l) ∨ Sat (less cs (-l)) := by
  refine ⟨fun ⟨A, h⟩ => ?_, fun h => h.elim (sat_less_of hl) (sat_less_of (by omega))⟩
  cases t : lit A l with
  | true => exact .inl ⟨A, keeps_less hl h t⟩
  | false => exact .inr ⟨A, keeps_less (by omega) h (by rw [lit_neg hl, t] <;> rfl)⟩
theorem not_sat_empty {cs : List Cl} (h : [] ∈ cs) : ¬ Sat cs := fun ⟨A, k⟩ => by
  obtain ⟨x, hx, _⟩ := k _ h
  cases hx
theorem sat_nil : Sat [] := ⟨fun _ => true, fun c h => by cases h⟩
/-- some row is left empty -/
def Bare (cs : List Cl) (l : Int) : Prop := ∃ c ∈ cs, l ∉ c ∧ rest l c = []
theorem bare_iff {cs : List Cl} {l : Int} : Bare cs l ↔ [] ∈ less cs l := by
  rw [mem_less]
  exact Iff.rfl
/-! the variables: the law takes one at a time -/
def vars (cs : List Cl) : List Int := ((cs.flatten).map fun x => if 0 < x then x else -x).eraseDups
def Vin (n : Nat) (cs : List Cl) : Prop := ∃ vs : List Int, vs.length ≤ n ∧ ∀ c ∈ cs, ∀ x ∈ c, (x ∈ vs ∨ -x ∈ vs)
theorem vin_less {n : Nat} {cs : List Cl} {l : Int} {c0 : Cl} (h : Vin n cs) (hc : c0 ∈ cs) (m : l ∈ c0 ∨ -l ∈ c0) : ∃ k, n = k + 1 ∧ Vin k (less cs l) := by
  obtain ⟨vs, hl, hv⟩ := h
  have hm : l ∈ vs ∨ -l ∈ vs := by
    rcases m with m | m
    · exact hv c0 hc l m
    · rcases hv c0 hc _ m with z | z
      · exact .inr z
      · rw [Int.neg_neg] at z; exact .inl z
  have key : ∀ w : Int, w ∈ vs → (w = l ∨ w = -l) → ∃ k, n = k + 1 ∧ Vin k (less cs l) := fun w hw ew => by
    have hlen := List.length_erase_of_mem hw
    have hp : 0 < vs.length := List.length_pos_of_mem hw
    refine ⟨n - 1, by omega, vs.erase w, by omega, fun d hd x hx => ?_⟩
    obtain ⟨c, hc, hn, rfl⟩ := mem_less.1 hd
    obtain ⟨x1, x2⟩ := mem_rest.1 hx
    have x3 : x ≠ l := fun e => hn (by rw [← e]; exact x1)
    rcases hv c hc x x1 with z | z
    · exact .inl ((List.mem_erase_of_ne (by omega)).2 z)
    · exact .inr ((List.mem_erase_of_ne (by omega)).2 z)
  rcases hm with h | h
  · exact key l h (.inl rfl)
  · exact key _ h (.inr rfl)
/-! units -/
inductive Forced (cs : List Cl) (row : Cl) : Int → Prop
  | start {x : Int} : x ∈ row → Forced cs row (-x)
  | unit {c : Cl} {l : Int} : c ∈ cs → l ∈ c → (∀ x ∈ c, x ≠ l → Forced cs row (-x)) → Forced cs row l
def Conf (cs : List Cl) (row : Cl) : Prop := ∃ c ∈ cs, ∀ x ∈ c, Forced cs row (-x)
theorem forced_mono {cs ds : List Cl} {row : Cl} (h : ∀ c, c ∈ cs → c ∈ ds) {x : Int} (f : Forced cs row x) : Forced ds row x := by
  induction f with
  | start m => exact .start m
  | unit hc hl _ ih => exact .unit (h _ hc) hl ih
theorem conf_mono {cs ds : List Cl} {row : Cl} (h : ∀ c, c ∈ cs → c ∈ ds) (f : Conf cs row) : Conf ds row := by
  obtain ⟨c, hc, k⟩ := f
  exact ⟨c, h c hc, fun x hx => forced_mono h (k x hx)⟩
theorem forced_true {cs : List Cl} {row : Cl} {A : Int → Bool} (nz : Nz cs) (_nr : ∀ x ∈ row, x ≠ 0) (k : Keeps A cs) (r : ∀ x ∈ row, lit A (-x) = true) {x : Int} (f : Forced cs row x) : lit A x = true := by
  induction f with
  | start m => exact r _ m
  | @unit c l hc hl _ ih =>
    obtain ⟨x, hx, t⟩ := k c hc
    by_cases e : x = l
    · rw [← e]; exact t
    · have := ih x hx e
      rw [lit_neg (nz c hc x hx), t] at this
      cases this
theorem conf_unsat {cs : List Cl} {row : Cl} (nz : Nz cs) (nr : ∀ x ∈ row, x ≠ 0) (f : Conf cs row) : ¬ Sat (cs ++ row.map fun x => [-x]) := fun ⟨A, k⟩ => by
  obtain ⟨c, hc, h⟩ := f
  have k1 : Keeps A cs := fun c hc => k c (List.mem_append_left _ hc)
  have r : ∀ x ∈ row, lit A (-x) = true := fun x hx => by
    obtain ⟨y, hy, t⟩ := k [-x] (List.mem_append_right _ (List.mem_map.mpr ⟨x, hx, rfl⟩))
    rw [List.mem_singleton] at hy
    rw [← hy]; exact t
  obtain ⟨x, hx, t⟩ := k1 c hc
  have := forced_true nz nr k1 r (h x hx)
  rw [lit_neg (nz c hc x hx), t] at this
  cases this
/-! a set of given items that is closed -/
theorem conf_of {cs : List Cl} {row : Cl} {g : Int → Prop} (sound : ∀ x, g x → Forced cs row x) {c : Cl} (hc : c ∈ cs) (all : ∀ x ∈ c, g (-x)) : Conf cs row := ⟨c, hc, fun x hx => sound _ (all x hx)⟩
theorem not_conf {cs : List Cl} {row : Cl} {g : Int → Prop} (st : ∀ x ∈ row, g (-x)) (two : ∀ x, g x → ¬ g (-x)) (cl : ∀ c ∈ cs, (∃ x ∈ c, g x) ∨ ∃ x ∈ c, ∃ y ∈ c, x ≠ y ∧ ¬ g (-x) ∧ ¬ g (-y)) : ¬ Conf cs row := by
  have all : ∀ x, Forced cs row x → g x := by
    intro x f
    induction f with
    | start m => exact st _ m
    | @unit c l hc hl _ ih =>
      rcases cl c hc with ⟨x, hx, gx⟩ | ⟨x, hx, y, hy, ne, nx, ny⟩
      · by_cases e : x = l
        · rw [← e]; exact gx
        · exact absurd (ih x hx e) (two x gx)
      · by_cases e : x = l
        · exact absurd (ih y hy (fun z => ne (e.trans z.symm))) ny
        · exact absurd (ih x hx e) nx
  rintro ⟨c, hc, h⟩
  rcases cl c hc with ⟨x, hx, gx⟩ | ⟨x, hx, _, _, _, nx, _⟩
  · exact two x gx (all _ (h x hx))
  · exact nx (all _ (h x hx))
end MC

set_option Elab.async false
set_option maxRecDepth 100000
set_option maxHeartbeats 4000000
set_option linter.all false
/-! sorted(xs), of a list or of a set, the items alike data of any depth. -/
namespace My
open PySem PySem.Spec PyProof.Rows L2
open PySem.W (EachIs alike dataLt dataKind keyToks SortsAt AllAlike Sortable sortVals)
abbrev leD (p q : V × PyData) : Bool := PySem.W.sortLe (PyProof.Rows.listOrd PyProof.Rows.itemOrd) false (fun p : V × PyData => keyToks p.2) p q
theorem leD_lt {p q : V × PyData} : leD p q = !dataLt q.2 p.2 := rfl
/-- values and what they read as -/
def Twos (K : PySem.W.Frag) (H : Hp) (ps : List (V × PyData)) : Prop := ∀ p ∈ ps, Dp K H p.1 p.2
theorem twos_of {K : PySem.W.Frag} {H : Hp} : ∀ {xs : List V} {ds : List PyData}, DpAll K H xs ds → ∃ ps : List (V × PyData), ps.map (·.1) = xs ∧ ps.map (·.2) = ds ∧ Twos K H ps
  | _, _, .nil => ⟨[], rfl, rfl, fun p h => by cases h⟩
  | _, _, .cons (v := v) (d := d) h t => by
    obtain ⟨ps, h1, h2, h3⟩ := twos_of t
    refine ⟨(v, d) :: ps, by rw [List.map_cons, h1], by rw [List.map_cons, h2], fun p hp => ?_⟩
    rcases List.mem_cons.mp hp with e | hp
    · rw [e]; exact h
    · exact h3 p hp
theorem Twos.all {K : PySem.W.Frag} {H : Hp} : ∀ {ps : List (V × PyData)}, Twos K H ps → DpAll K H (ps.map (·.1)) (ps.map (·.2))
  | [], _ => .nil
  | p :: ps, h => .cons (h p List.mem_cons_self) (Twos.all fun q hq => h q (List.mem_cons_of_mem _ hq))
theorem each_vals : ∀ {ps : List (V × PyData)} {us : List Value}, Vals (ps.map (·.1)) us → EachIs (fun u (p : V × PyData) => RelV p.1 u) us ps
  | [], _, .nil => .nil
  | p :: ps, _, .cons r t => .cons r (each_vals t)
theorem vals_each : ∀ {ps : List (V × PyData)} {us : List Value}, EachIs (fun u (p : V × PyData) => RelV p.1 u) us ps → Vals (ps.map (·.1)) us
  | _, _, .nil => .nil
  | _, _, .cons r t => .cons r (vals_each t)
theorem each_snd {R : Value → PyData → Prop} : ∀ {us : List Value} {ps : List (V × PyData)}, EachIs (fun u (p : V × PyData) => R u p.2) us ps → EachIs R us (ps.map (·.2))
  | _, _, .nil => .nil
  | _, _, .cons r t => .cons r (each_snd t)
/-- what sorting gives -/
structure SortedD (ps qs : List (V × PyData)) : Prop where
  perm : qs.Perm ps
  asc : qs.Pairwise fun p q => dataLt q.2 p.2 = false
theorem sortedD_of (ps : List (V × PyData)) : SortedD ps (ps.mergeSort leD) where
  perm := List.mergeSort_perm _ _
  asc := by
    have := PySem.W.sort_pairwise (PySem.W.sortLe_total (PyProof.Rows.listOrd PyProof.Rows.itemOrd) false fun p : V × PyData => keyToks p.2) ps
    refine List.Pairwise.imp (fun {p q} h => ?_) this
    have h' : (!dataLt q.2 p.2) = true := h
    cases e : dataLt q.2 p.2 with
    | false => rfl
    | true => rw [e] at h'; cases h'
section
variable {X : Cx} {pins : List (Addr × Obj)} {σ : L2.St} {H : Hp} {s : Shared}
theorem reads_each (I : Inv X pins σ H s) : ∀ {ps : List (V × PyData)} {us : List Value}, Twos X.K H ps → Vals (ps.map (·.1)) us → EachIs (fun u (p : V × PyData) => ∃ as, Reads s.heap u p.2 as) us ps
  | [], _, _, .nil => .nil
  | p :: ps, _, h, .cons r t => .cons (Dp.reads I p.2 p.1 _ (h p List.mem_cons_self) r) (reads_each I (fun q hq => h q (List.mem_cons_of_mem _ hq)) t)
/-- the sorted values, told -/
theorem sorted_each {h : Heap} {ps : List (V × PyData)} {us : List Value} (hal : AllAlike (ps.map (·.2))) (r : Vals (ps.map (·.1)) us) (e : EachIs (fun u (p : V × PyData) => ∃ as, Reads h u p.2 as) us ps) : EachIs (fun u (p : V × PyData) => RelV p.1 u) (sortVals (dataKind h (ps.map (·.2))) false us us) (ps.mergeSort leD) := by
  refine PySem.W.sortVals_each (κ := dataKind h (ps.map (·.2))) (fun p : V × PyData => keyToks p.2) (each_vals r) ?_
  have key : ∀ {qs : List (V × PyData)} {us : List Value}, (∀ q ∈ qs, q ∈ ps) → EachIs (fun u (p : V × PyData) => ∃ as, Reads h u p.2 as) us qs → EachIs (fun v (b : V × PyData) => (dataKind h (ps.map (·.2))).keyOf v = some (keyToks b.2)) us qs := by
    intro qs us hq e
    induction e with
    | nil => exact .nil
    | @cons u p us qs h1 _ ih =>
      obtain ⟨as, h1⟩ := h1
      exact .cons (PySem.W.dataKind_some hal (List.mem_map.mpr ⟨p, hq p List.mem_cons_self, rfl⟩) h1) (ih fun q m => hq q (List.mem_cons_of_mem _ m))
  exact key (fun q m => m) e
theorem sorts_at {P : Program} {w : World} {A : Around} {s0 s1 : Shared} {ps : List (V × PyData)} {us : List Value} (e : EachIs (fun u (p : V × PyData) => ∃ as, Reads s0.heap u p.2 as) us ps) (kp : ∀ b o, s0.heap.get? b = some o → s1.heap.get? b = some o) (hal : AllAlike (ps.map (·.2))) (hk : Sortable (ps.map (·.2))) (hu : ∀ d, d ∈ ps.map (·.2) → A.units + d.depth < cLine) :
    SortsAt P w A s1 (dataKind s1.heap (ps.map (·.2))) us := by
  refine SortsAt.data (each_snd (R := fun u d => ∃ as, Reads s1.heap u d as) ?_) hal hk hu
  exact EachIs.mono (fun u p ⟨as, r⟩ => ⟨as, PyProof.Rows.Reads.keeps kp r⟩) e
/-- sorted(xs), xs a list -/
def rSortedD (K : PySem.W.Frag) : List V → Hp → VK → Prop := fun vs H Q => ∃ (a : Addr) (ps : List (V × PyData)), vs = [V.ref a] ∧ SqL K H a (ps.map (·.1)) ∧ Twos K H ps ∧ AllAlike (ps.map (·.2)) ∧ Sortable (ps.map (·.2)) ∧ (∀ p ∈ ps, p.2.depth ≤ 60) ∧
  ∀ qs p, SortedD ps qs → H p = none → Q (.ref p) (upd H p (.lst (qs.map (·.1))))
theorem cr_sortedD (hu : X.A.units + 64 < cLine) : CallR X (.builtin "sorted") (rSortedD X.K) := by
  intro pins s σ H vs us Q I r h
  obtain ⟨a, ps, rfl, hs, hd, hal, hk, hdp, q⟩ := h
  obtain ⟨its, rv, hl, hz⟩ := I.list hs
  obtain ⟨u, rfl, ru⟩ := vals1 r
  obtain rfl : u = Value.ref a := ru
  have e0 := reads_each I hd rv
  have kp1 : ∀ b o, s.heap.get? b = some o → (PySem.W.sortingHeap (PySem.W.copyHeap s.heap its) (s.heap.objs.size + 1) its).get? b = some o := fun b o e => PySem.W.sorting_copy_old e
  have S := sorts_at (P := X.prog) (w := X.w) (A := X.A.in1.in1) (s0 := s) (s1 := { s with heap := PySem.W.sortingHeap (PySem.W.copyHeap s.heap its) (s.heap.objs.size + 1) its }) e0 kp1 hal hk fun d m => by
    obtain ⟨p, hp, rfl⟩ := List.mem_map.mp m
    have := hdp p hp
    show X.A.units + 1 + 1 + p.2.depth < cLine
    omega
  refine PySem.W.sorted_vals hl.isList S (by rw [← rv.length]; exact hz) ?_
  have e1 : EachIs (fun u (p : V × PyData) => ∃ as, Reads (PySem.W.sortingHeap (PySem.W.copyHeap s.heap its) (s.heap.objs.size + 1) its) u p.2 as) its ps := EachIs.mono (fun u p ⟨as, r⟩ => ⟨as, PyProof.Rows.Reads.keeps kp1 r⟩) e0
  have out := vals_each (sorted_each hal rv e1)
  have hperm := (sortedD_of ps).perm
  obtain ⟨ep, he'⟩ := sortedAll_at s.heap its (sortVals (dataKind (PySem.W.sortingHeap (PySem.W.copyHeap s.heap its) (s.heap.objs.size + 1) its) (ps.map (·.2))) false its its).toArray
  refine ⟨.ref _, upd H (s.heap.objs.size + 1) (.lst ((ps.mergeSort leD).map (·.1))), I.laid (t' := s.toks) (fun _ _ => sortedAll_old) (Nat.le_succ _) ⟨?_, _, ep, out, he'⟩, rfl, q _ _ (sortedD_of ps) (I.hok.fresh (Nat.le_succ _))⟩
  rw [List.length_map, hperm.length_eq, ← List.length_map (f := (·.1))]
  exact hz
/-! ### a set, its values -/
structure SetV0 (w : World) (h : Heap) (a : Addr) (vs : List V) : Prop where
  ex : ∃ (es : Array (Int × Value)) (ep : Nat) (t : SetTable), (∃ o, h.get? a = some o ∧ o.ExactSet ∧ o.data = .set es ep t) ∧ t.fits es.size = true ∧ Ris t.place.toList ∧ (w.params.followText "set-order" = true ∨ t.led = true) ∧ es.size < 2000 ∧ Vals vs (es.toList.map (·.2))
def SetV (w : World) (a : Addr) (vs : List V) : HO := .ext fun h => SetV0 w h a vs
theorem setV_new {P : Program} {w : World} {H : Hp} {h : Heap} {a : Addr} {vs : List V} (R : SetV0 w h a vs) : ObjOk P w H h a (SetV w a vs) := by
  have ⟨es, ep, t, ⟨o, ho, r⟩, q⟩ := R.ex
  refine ⟨R, ⟨o, ho⟩, fun h1 h2 p k => ?_⟩
  have ⟨es', ep', t', ⟨o', ho', r'⟩, q'⟩ := SetV0.ex p
  exact ⟨es', ep', t', ⟨o', k o' ho', r'⟩, q'⟩
end
theorem each_perm {α β : Type} {R : α → β → Prop} : ∀ {us us' : List α}, us'.Perm us → ∀ {bs : List β}, EachIs R us bs → ∃ bs', EachIs R us' bs' ∧ bs'.Perm bs := by
  intro us us' p
  induction p with
  | nil => intro bs h; exact ⟨bs, h, .refl _⟩
  | cons x _ ih =>
    intro bs h
    cases h with
    | cons r t =>
      obtain ⟨bs', e, pm⟩ := ih t
      exact ⟨_ :: bs', .cons r e, pm.cons _⟩
  | swap x y l =>
    intro bs h
    cases h with
    | cons r t =>
      cases t with
      | cons r2 t2 => exact ⟨_, .cons r2 (.cons r t2), .swap _ _ _⟩
  | trans _ _ ih1 ih2 =>
    intro bs h
    obtain ⟨b2, e2, p2⟩ := ih2 h
    obtain ⟨b1, e1, p1⟩ := ih1 e2
    exact ⟨b1, e1, p1.trans p2⟩
section
variable {X : Cx}
/-- sorted(xs), xs a set -/
def rSortedS (K : PySem.W.Frag) (w : World) : List V → Hp → VK → Prop := fun vs H Q => ∃ (a : Addr) (ps : List (V × PyData)), vs = [V.ref a] ∧ H a = some (SetV w a (ps.map (·.1))) ∧ Twos K H ps ∧ AllAlike (ps.map (·.2)) ∧ Sortable (ps.map (·.2)) ∧ (∀ p ∈ ps, p.2.depth ≤ 60) ∧
  ∀ qs p, SortedD ps qs → H p = none → Q (.ref p) (upd H p (.lst (qs.map (·.1))))
theorem cr_sortedS (hc : X.calm = true) (hu : X.A.units + 64 < cLine) : CallR X (.builtin "sorted") (rSortedS X.K X.w) := by
  intro pins s σ H vs us Q I r h
  obtain ⟨a, ps, rfl, ha, hd, hal, hk, hdp, q⟩ := h
  have R : SetV0 X.w s.heap a (ps.map (·.1)) := (I.hok a _ ha).1
  obtain ⟨es, ep, t, ⟨o, ho, hex, hdt⟩, hf, hr, hl, hsz, rv⟩ := R.ex
  obtain ⟨u, rfl, ru⟩ := vals1 r
  obtain rfl : u = Value.ref a := ru
  have e0 := reads_each I hd rv
  refine Calls.call_function_entry kind_sorted plain_sorted entry_sorted (args_sorted1 _) ?_
  unfold Builtin.«sorted»
  refine wpAny_bind (m := checkCount "sorted" 1 1 _) (wpAny_pure ?_)
  refine wpAny_bind (collect_set (A := X.A.in1) (I.ok.hd hc) ⟨o, ho, hex.1, hdt⟩ hf (by unfold scanBound; omega) hr hl fun s1 vs k1 hz g1 o1 pm => ?_)
  obtain ⟨ps1, e1, pm1⟩ := each_perm pm (R := fun u (p : V × PyData) => RelV p.1 u ∧ ∃ as, Reads s.heap u p.2 as) (bs := ps) (by
    have := each_vals rv
    have key : ∀ {us : List Value} {ps : List (V × PyData)}, EachIs (fun u (p : V × PyData) => RelV p.1 u) us ps → EachIs (fun u (p : V × PyData) => ∃ as, Reads s.heap u p.2 as) us ps → EachIs (fun u (p : V × PyData) => RelV p.1 u ∧ ∃ as, Reads s.heap u p.2 as) us ps := by
      intro us ps h1 h2
      induction h1 with
      | nil => exact .nil
      | cons a _ ih =>
        cases h2 with
        | cons b t => exact .cons ⟨a, b⟩ (ih t)
    exact key this e0)
  have hvl : vs.length < 2000 := by
    rw [pm.length_eq, List.length_map, Array.length_toList]
    exact hsz
  have hvz : vs.length ≤ sizeLine := by rw [sizeLine_eq]; omega
  refine wpAny_bind (wpAny_newList ?_ hvz)
  have hoL : (s1.heap.push (seqObj "list" vs.toArray 0)).get? s1.heap.objs.size = some (seqObj "list" vs.toArray 0) := Heap.get?_push_size _ rfl
  have kp1 : ∀ b o, s.heap.get? b = some o → (PySem.W.sortingHeap (s1.heap.push (seqObj "list" vs.toArray 0)) s1.heap.objs.size vs).get? b = some o := fun b o e => by
    have e2 := k1 b o e
    exact PySem.W.sortingHeap_old (Nat.ne_of_lt (Heap.lt_size e2)) (Heap.get?_push_of_some _ e2)
  have hal1 : AllAlike (ps1.map (·.2)) := fun d hd d' hd' => hal d ((pm1.map (·.2)).mem_iff.mp hd) d' ((pm1.map (·.2)).mem_iff.mp hd')
  have hk1 : Sortable (ps1.map (·.2)) := by
    rcases hk with k | k
    · exact .inl fun d m => k d ((pm1.map (·.2)).mem_iff.mp m)
    · exact .inr fun d m => k d ((pm1.map (·.2)).mem_iff.mp m)
  have er : EachIs (fun u (p : V × PyData) => ∃ as, Reads s.heap u p.2 as) vs ps1 := EachIs.mono (fun u p h => h.2) e1
  have S := sorts_at (P := X.prog) (w := X.w) (A := X.A.in1.in1) (s0 := s) (s1 := { s1 with heap := PySem.W.sortingHeap (s1.heap.push (seqObj "list" vs.toArray 0)) s1.heap.objs.size vs }) er kp1 hal1 hk1 fun d m => by
    obtain ⟨p, hp, rfl⟩ := List.mem_map.mp m
    have := hdp p (pm1.mem_iff.mp hp)
    show X.A.units + 1 + 1 + p.2.depth < cLine
    omega
  refine wpAny_bind (wpAny_holding (wpAny_call_entry slot_list_sort ⟨_, hoL, rfl⟩ entry_list_sort (PySem.W.list_sort_vals (s := { s1 with heap := s1.heap.push (seqObj "list" vs.toArray 0) }) hoL S hvz ⟨_, rfl, ?_⟩) (args_list_sort _)))
  have rv1 : Vals (ps1.map (·.1)) vs := vals_each (EachIs.mono (fun u p h => h.1) e1)
  have out := vals_each (sorted_each hal1 rv1 (EachIs.mono (fun u p ⟨as, r⟩ => ⟨as, PyProof.Rows.Reads.keeps kp1 r⟩) er))
  have sd := sortedD_of ps1
  obtain ⟨c, hc'⟩ := sortedHeap_at (vs := vs) (out := (sortVals (dataKind (PySem.W.sortingHeap (s1.heap.push (seqObj "list" vs.toArray 0)) s1.heap.objs.size vs) (ps1.map (·.2))) false vs vs).toArray) hoL
  have hn : H s1.heap.objs.size = none := I.hok.fresh hz
  have keep : ∀ b u, s.heap.get? b = some u → (sortedHeap (s1.heap.push (seqObj "list" vs.toArray 0)) s1.heap.objs.size vs (sortVals (dataKind (PySem.W.sortingHeap (s1.heap.push (seqObj "list" vs.toArray 0)) s1.heap.objs.size vs) (ps1.map (·.2))) false vs vs).toArray).get? b = some u := fun b u e => by
    have q := k1 b u e
    have hlt := Heap.lt_size q
    rw [sortedHeap_old (Nat.ne_of_lt hlt) (by rw [size_push']; exact Nat.lt_succ_of_lt hlt)]
    exact Heap.get?_push_of_some _ q
  have hlen : ((ps1.mergeSort leD).map (·.1)).length ≤ sizeLine := by
    rw [List.length_map, sd.perm.length_eq, ← List.length_map (f := (·.1)), rv1.length]
    exact hvz
  have J : Inv X pins σ (upd H s1.heap.objs.size (.lst ((ps1.mergeSort leD).map (·.1)))) { s with heap := _, gens := s1.gens, drawn := s1.drawn, toks := s1.toks } :=
    I.call (ch := []) (Un.laid keep hz hn) (I.hok.laid keep hz ⟨hlen, _, c, out, hc'⟩) (by rw [g1]; exact I.bare) (fun _ z => nomatch z)
  have e2 : ∀ hh : Heap, ({ heap := hh, gens := s1.gens, drawn := s1.drawn, toks := s1.toks, os := s1.os } : Shared) = { s with heap := hh, gens := s1.gens, drawn := s1.drawn, toks := s1.toks } := fun hh => by rw [o1]
  refine wpAny_pure ⟨_, rfl, ?_⟩
  show EP X pins σ Q _ ({ heap := _, gens := s1.gens, drawn := s1.drawn, toks := s1.toks, os := s1.os } : Shared)
  rw [e2]
  exact ⟨.ref s1.heap.objs.size, _, J, rfl, q _ _ ⟨sd.perm.trans pm1, sd.asc⟩ hn⟩
end
end My

set_option Elab.async false
set_option maxRecDepth 100000
set_option maxHeartbeats 4000000
set_option linter.all false
/-! Rules that the clauses' laws share. -/
namespace My
open PySem L2
theorem ints_all {K : PySem.W.Frag} {H : Hp} : ∀ c : List Int, DpAll K H (c.map V.int) (c.map PyData.int)
  | [] => .nil
  | x :: c => .cons (.int x) (ints_all c)
theorem inV_ints {x : Int} : ∀ {ms : List Int}, inV (.int x) (ms.map V.int) = decide (x ∈ ms)
  | [] => by simp [inV]
  | y :: ys => by
    have ih := inV_ints (x := x) (ms := ys)
    unfold inV at ih ⊢
    rw [List.map_cons, List.any_cons, ih]
    show (y == x || decide (x ∈ ys)) = decide (x ∈ y :: ys)
    by_cases h : y = x
    · subst h
      simp
    · have h' : ¬ x = y := fun e => h e.symm
      simp [h, h']
theorem flat_ints : ∀ ms : List Int, (ms.map V.int).all flatV = true
  | [] => rfl
  | x :: ms => by rw [List.map_cons, List.all_cons, flat_ints ms] <;> rfl
/-! rules within a comprehension: the fragment named from outside -/
section
variable {X : Cx} {K : PySem.W.Frag}
theorem ix_seqK (h : X.K = K) : IxR X (rIx K) := h ▸ ix_seq
theorem ix_listK (h : X.K = K) : IxR X (rIxL K) := h ▸ ix_list
theorem ix_tupK (h : X.K = K) : IxR X (rIxT K) := h ▸ ix_tup
theorem call_len_seqK (h : X.K = K) : CallR X (.builtin "len") (fun xs H Q => ∃ p ys, xs = [.ref p] ∧ (SqL K H p ys ∨ SqT K H p ys) ∧ Q (.int ys.length) H) := h ▸ call_len_seq
theorem op_in_seqK (h : X.K = K) : OpR X (compareOp .In) (rIn K false) := h ▸ op_in_seq
theorem op_notIn_seqK (h : X.K = K) : OpR X (compareOp .NotIn) (rIn K true) := h ▸ op_notIn_seq
theorem op_neDK (h : X.K = K) (hu : X.A.units + 64 < cLine) : OpR X (compareOp .NotEq) (rNeD K) := h ▸ op_neD hu
theorem op_eqDK (h : X.K = K) (hu : X.A.units + 64 < cLine) : OpR X (compareOp .Eq) (rEqD K) := h ▸ op_eqD hu
end
section
variable {X : Cx} {tg : Expr}
/-- over a list or a tuple -/
def iSeq (K : PySem.W.Frag) (tl : TE) : TI := fun σ H R => tl σ H fun x H1 => ∃ a, x = .ref a ∧ (((∃ xs, SqL K H1 a xs) ∧ R (Itl K a) H1) ∨ ((∃ xs, SqT K H1 a xs) ∧ R (Itt K a) H1))
theorem pi_seq {l : Expr} {tl : TE} (hl : PE X l tl) : PI X tg l (iSeq X.K tl) := by
  refine ⟨fun pins s σ H R I h => ?_⟩
  refine thn (hl.run pins s σ H _ I h) fun v s1 ⟨x, H1, I1, r1, q1⟩ => ?_
  have none' : ∀ b ∈ [s1.heap.objs.size], FpOk X pins H1 b := fun b hb => by
    have e : b = s1.heap.objs.size := by simpa using hb
    rw [e]
    exact I1.fpOk (Nat.le_refl _) (I1.hok.fresh (Nat.le_refl _))
  obtain ⟨a, rfl, ⟨⟨xs, hq⟩, q⟩ | ⟨⟨xs, hq⟩, q⟩⟩ := q1
  · obtain ⟨its, _, p, _⟩ := I1.list hq
    obtain rfl : v = Value.ref a := r1
    exact wpAny_pyIter_list p.isList ⟨_, _, _, _, H1, rfl, I1.kept (t' := s1.toks) fun b o e => Heap.get?_push_of_some _ e, turn_list a _, ⟨_, Heap.get?_push_size _ rfl, rfl, rfl⟩, none', q⟩
  · obtain ⟨its, _, p, _⟩ := I1.tuple hq
    obtain rfl : v = Value.ref a := r1
    exact wpAny_pyIter_tuple (show s1.heap.IsTuple a its.toArray from p) ⟨_, _, _, _, H1, rfl, I1.kept (t' := s1.toks) fun b o e => Heap.get?_push_of_some _ e, turn_tuple a _, ⟨_, Heap.get?_push_size _ rfl, rfl, rfl⟩, none', q⟩
end
end My

set_option Elab.async false
set_option maxRecDepth 100000
set_option maxHeartbeats 4000000
set_option linter.all false
/-! Sets of nested tuples (whole numbers, texts, None, tuples of such), fewer than 64: set(xs), sorted(set(xs)). -/
namespace My
open PySem PySem.Spec PyProof.Rows L2
abbrev NK := NestedKey
abbrev hN (w : World) (k : NK) : Int := NestedKey.hash w k
/-- the tuple at a is the key k -/
abbrev IsN (h : Heap) (k : NK) (a : Addr) : Prop := NestedIs h k (.ref a) ∧ k.depth ≤ 8
theorem IsN.keep {h h' : Heap} {k : NK} {a : Addr} (x : IsN h k a) (kp : ∀ b o, h.get? b = some o → h'.get? b = some o) : IsN h' k a := ⟨NestedIs.at (fun b o _ _ e _ => kp b o e) k _ x.1, x.2⟩
theorem IsN.but {h h' : Heap} {k : NK} {a d : Addr} {o : Obj} {es : Array (Int × Value)} {ep : Nat} {t : SetTable} (x : IsN h k a) (ho : h.get? d = some o) (hd : o.data = .set es ep t) (sb : Heap.SameBut d h h') : IsN h' k a :=
  ⟨NestedIs.at (fun b u vs n e c => (sb.2 b fun z => by
    subst z
    rw [ho] at e
    cases e
    rw [hd] at c
    cases c).trans e) k _ x.1, x.2⟩
section
variable {P : Program} {w : World}
/-- a walk that asks each item and goes on -/
theorem ask_each {A : Around} {E : Value → Shared → Prop} {s : Shared} {β : Type} {b0 : β} {body : Value → β → Sem (ForInStep β)} {Q : β → Shared → Prop} :
    ∀ (vs : List Value), (∀ v ∈ vs, ∀ (Q' : ForInStep β → Shared → Prop), Q' (.yield b0) s → (∀ b, Q b s → Q' (.done b) s) → wpAny (model P w) A (body v b0) Q' E s) → Q b0 s → wpAny (model P w) A (forIn vs b0 body) Q E s
  | [], _, h => wpAny_pure h
  | v :: vs, hb, h => by
    rw [List.forIn_cons]
    exact wpAny_bind (hb v List.mem_cons_self _ (ask_each vs (fun u hu => hb u (List.mem_cons_of_mem _ hu)) h) fun b q => wpAny_pure q)
mutual
/-- no class statement made it -/
theorem cls_key : ∀ (k : NK) (v : Value) (n : Nat) (s : Shared), NestedIs s.heap k v → k.depth ≤ n → ∀ (A : Around) (E : Value → Shared → Prop) (Q : Bool → Shared → Prop), Q false s → wpAny (model P w) A (ofAClassStatement n v) Q E s
  | .none, _, n, s, x, _, A, E, Q, h => by cases x; cases n <;> exact wpAny_pure h
  | .num i, _, n, s, x, _, A, E, Q, h => by cases x <;> cases n <;> exact wpAny_pure h
  | .text y, _, n, s, x, _, A, E, Q, h => by cases x; cases n <;> exact wpAny_pure h
  | .tup ks, _, n, s, x, hn, A, E, Q, h => by
    cases x with
    | @tup a o vs m _ ho hc hd hk =>
      simp only [NestedKey.depth] at hn
      cases n with
      | zero => omega
      | succ n =>
        have hT : s.TypeIs (.ref a) "tuple" := ⟨o, ho, hc⟩
        unfold ofAClassStatement
        refine wpAny_bind (wpAny_typeOf hT ?_)
        dsimp only
        have e : (("tuple" : String) == "tuple") = true := by decide
        simp only [e, if_true, Bool.not_true, Bool.false_eq_true, if_false]
        try refine wpAny_bind (wpAny_pure ?_)
        try simp only [Bool.not_true, Bool.false_eq_true, if_false]
        show wpAny _ _ (seqItems? (.ref a) >>= _) _ _ s
        refine wpAny_bind (wpAny_seqItems ho hd ?_)
        dsimp only
        refine wpAny_bind ?_
        show wpAny _ _ (forIn vs _ _) _ _ s
        rw [← Array.forIn_toList]
        have ih := cls_keys ks vs.toList n s hk (by omega)
        refine ask_each vs.toList (fun v hv Q' hQ _ => ?_) ?_
        case refine_2 => exact wpAny_pure h
        refine wpAny_bind (ih v hv _ _ _ ?_)
        simp only [Bool.false_eq_true, if_false]
        exact wpAny_pure hQ
theorem cls_keys : ∀ (ks : List NK) (vs : List Value) (n : Nat) (s : Shared), NestedAll s.heap ks vs → NestedKey.depthAll ks ≤ n → ∀ v ∈ vs, ∀ (A : Around) (E : Value → Shared → Prop) (Q : Bool → Shared → Prop), Q false s → wpAny (model P w) A (ofAClassStatement n v) Q E s
  | [], _, n, s, x, _, v, hv, _, _, _, _ => by cases x; cases hv
  | k :: ks, _, n, s, x, hn, v, hv, A, E, Q, h => by
    cases x with
    | cons x1 x2 =>
      simp only [NestedKey.depthAll] at hn
      rcases List.mem_cons.mp hv with e | hv
      · rw [e]; exact cls_key k _ n s x1 (by omega) A E Q h
      · exact cls_keys ks _ n s x2 (by omega) v hv A E Q h
end
mutual
/-- whether its hash is its value's: one of both answers -/
theorem val_key : ∀ (k : NK) (v : Value) (n : Nat) (s : Shared), NestedIs s.heap k v → ∀ (A : Around) (E : Value → Shared → Prop) (Q : Bool → Shared → Prop), (∀ b, Q b s) → wpAny (model P w) A (hashByValue n v) Q E s
  | .none, _, n, s, x, A, E, Q, h => by cases x; cases n <;> exact wpAny_pure (h _)
  | .num i, _, n, s, x, A, E, Q, h => by cases x <;> cases n <;> exact wpAny_pure (h _)
  | .text y, _, n, s, x, A, E, Q, h => by cases x; cases n <;> exact wpAny_pure (h _)
  | .tup ks, _, n, s, x, A, E, Q, h => by
    cases x with
    | @tup a o vs m _ ho hc hd hk =>
      cases n with
      | zero => exact wpAny_pure (h _)
      | succ n =>
        have hT : s.TypeIs (.ref a) "tuple" := ⟨o, ho, hc⟩
        unfold hashByValue
        refine wpAny_bind (wpAny_specialOf hT F.slot_tuple_hash.lookup ?_)
        show wpAny _ _ (seqItems? (.ref a) >>= _) _ _ s
        refine wpAny_bind (wpAny_seqItems ho hd ?_)
        refine wpAny_bind ?_
        show wpAny _ _ (forIn vs _ _) _ _ s
        rw [← Array.forIn_toList]
        have ih := val_keys ks vs.toList n s hk
        refine ask_each vs.toList (fun v hv Q' hQ hD => ?_) ?_
        case refine_2 => exact wpAny_pure (h _)
        refine wpAny_bind (ih v hv _ _ _ fun b => ?_)
        cases b with
        | true =>
          simp only [Bool.not_true, Bool.false_eq_true, if_false]
          exact wpAny_pure hQ
        | false =>
          simp only [Bool.not_false, if_true]
          exact wpAny_pure (hD _ (wpAny_pure (h _)))
theorem val_keys : ∀ (ks : List NK) (vs : List Value) (n : Nat) (s : Shared), NestedAll s.heap ks vs → ∀ v ∈ vs, ∀ (A : Around) (E : Value → Shared → Prop) (Q : Bool → Shared → Prop), (∀ b, Q b s) → wpAny (model P w) A (hashByValue n v) Q E s
  | [], _, n, s, x, v, hv, _, _, _, _ => by cases x; cases hv
  | k :: ks, _, n, s, x, v, hv, A, E, Q, h => by
    cases x with
    | cons x1 x2 =>
      rcases List.mem_cons.mp hv with e | hv
      · rw [e]; exact val_key k _ n s x1 A E Q h
      · exact val_keys ks _ n s x2 v hv A E Q h
end
variable {A : Around} {E : Value → Shared → Prop} {s : Shared}
/-- a search among such tuples shows nothing -/
theorem seenN {k : NK} {b : Addr} {Q : Bool → Shared → Prop} (hk : IsN s.heap k b) {ys : List Value} (hy : ∀ y ∈ ys, ∃ k' c, y = Value.ref c ∧ IsN s.heap k' c) (h : Q false s) : wpAny (model P w) A (searchCouldBeSeen (.ref b) ys) Q E s := by
  unfold searchCouldBeSeen
  refine wpAny_bind (ask_each ys (fun v hv Q' hQ _ => ?_) ?_)
  case refine_2 => exact wpAny_pure h
  obtain ⟨k', c, rfl, hc⟩ := hy v hv
  dsimp only
  by_cases hv : (b == c || (carriedByValue (.ref b) && carriedByValue (.ref c))) = true
  · exact wp_if_pos hv (wpAny_pure hQ)
  · refine wp_if_neg hv ?_
    refine wpAny_bind (quiet_key k _ 8 s hk.1 hk.2 A E _ ?_)
    simp only [Bool.not_true, Bool.false_eq_true, if_false]
    refine wpAny_bind (quiet_key k' _ 8 s hc.1 hc.2 A E _ ?_)
    simp only [Bool.not_true, Bool.false_eq_true, if_false]
    refine wpAny_bind (cls_key k _ 8 s hk.1 hk.2 A E _ ?_)
    simp only [Bool.false_eq_true, if_false]
    refine wpAny_bind (cls_key k' _ 8 s hc.1 hc.2 A E _ ?_)
    simp only [Bool.false_eq_true, if_false]
    exact wpAny_pure hQ
end
end My

set_option Elab.async false
set_option maxRecDepth 100000
set_option maxHeartbeats 4000000
set_option linter.all false
namespace My
open PySem PySem.Spec PyProof.Rows L2
abbrev rowN (w : World) (p : Addr × NK) : Int × Value := (hN w p.2, Value.ref p.1)
structure SetN (w : World) (h : Heap) (a : Addr) (L : List (Addr × NK)) (es : Array (Int × Value)) (ep : Nat) (t : SetTable) : Prop where
  ob : ∃ o, h.get? a = some o ∧ o.ExactSet ∧ o.data = .set es ep t
  rows : es.toList = L.map (rowN w)
  tab : TabOk t (L.map fun p => hN w p.2)
  nd : (L.map (·.2)).Nodup
  is_ : ∀ p ∈ L, IsN h p.2 p.1
  led : w.params.followText "set-order" = true ∨ t.led = true
  room : L.length * 5 < t.mask * 3
  few : L.length < 64
section
variable {P : Program} {w : World} {A : Around} {E : Value → Shared → Prop} {s : Shared} {a : Addr} {L : List (Addr × NK)} {es : Array (Int × Value)} {ep : Nat} {t : SetTable}
theorem rows_size (h : es.toList = L.map (rowN w)) : es.size = L.length := by
  have := congrArg List.length h
  rwa [Array.length_toList, List.length_map] at this
theorem rows_at (h : es.toList = L.map (rowN w)) {i : Nat} {p : Addr × NK} (e : L[i]? = some p) : es[i]? = some (rowN w p) := by
  rw [← Array.getElem?_toList, h, List.getElem?_map, e] <;> rfl
theorem fits_of (h1 : t.place.size = es.size) (h2 : t.dummies = #[]) (h3 : es.size ≤ t.mask) : t.fits es.size = true := by
  unfold SetTable.fits SetTable.fill
  rw [h2, Bool.and_eq_true, beq_iff_eq, decide_eq_true_eq]
  exact ⟨h1, by show t.place.size + 0 ≤ t.mask; omega⟩
theorem SetN.psz (R : SetN w s.heap a L es ep t) : t.place.size = L.length := by
  have := R.tab.sz
  rwa [List.length_map] at this
theorem SetN.fits (R : SetN w s.heap a L es ep t) : t.fits es.size = true := by
  have h1 := R.psz
  have h2 := rows_size R.rows
  have h3 := R.room
  exact fits_of (by omega) R.tab.dm (by omega)
theorem gave_not {t : SetTable} {hs : List Int} (T : TabOk t hs) : ¬ t.gaveWay = true := by
  unfold SetTable.gaveWay
  rw [mask_odd T.mok]
  decide
theorem nth_dummy (m : Nat) : ∀ (n : Nat) (p : SetTable.Probe), p.dummy = none → (nth m p n).dummy = none
  | 0, _, h => h
  | n + 1, p, h => nth_dummy m n (adv m p) (by unfold adv; split <;> exact h)
abbrev wayS (m : Nat) (g : Int) : SetTable.Probe := runAt m (SetTable.bits g % (m + 1)) (SetTable.bits g)
/-- the search, from the c-th step of its way on -/
theorem searchN (R : SetN w s.heap a L es ep t) {x : Addr} {k : NK} (hx : IsN s.heap k x) (hu : A.units + 8 < cLine) {g : Int} (hg : g = hN w k) {K : Nat} (hKf : K < 10 * SetTable.turns t.mask)
    (hK : way t.mask g K ∉ t.place.toList) (hKb : ∀ c, c < K → way t.mask g c ∈ t.place.toList) {Q : SetFound → Shared → Prop} (hin : k ∈ L.map (·.2) → Q (.there none) s) (hout : k ∉ L.map (·.2) → Q (.free (way t.mask g K) false) s) :
    ∀ (f c : Nat) (stand : Option SetTable.Probe), stand.getD (t.probeStart g) = nth t.mask (wayS t.mask g) c → c ≤ K → K - c < f → (∀ (i : Nat) p, L[i]? = some p → p.2 = k → ∃ c', c ≤ c' ∧ c' < K ∧ t.place.toList[i]? = some (way t.mask g c')) →
      wpAny (model P w) A (setSearchFrom a (.ref x) g true f stand) Q E s
  | 0, _, _, _, _, hf, _ => absurd hf (Nat.not_lt_zero _)
  | f + 1, c, stand, hst, hc, hf, hre => by
    obtain ⟨o, ho, hex, hd⟩ := R.ob
    rw [setSearchFrom_succ]
    refine wpAny_bind (wpAny_setState_of ho hd R.fits ?_)
    dsimp only
    refine wp_if_neg (gave_not R.tab) ?_
    try refine wpAny_bind (wpAny_pure ?_)
    have step : ∀ q, (nth t.mask (nth t.mask (wayS t.mask g) c) q).j = way t.mask g (c + q) := fun q => congrArg SetTable.Probe.j (nth_add t.mask c _ q).symm
    have hs : ∀ (i : Nat) p, L[i]? = some p → (es[i]?.map (fun e : Int × Value => e.1)).getD 0 = hN w p.2 := fun i p e => by rw [rows_at R.rows e] <;> rfl
    -- where a row with the key stands, it is not passed
    have late : ∀ (q : Nat), (∀ k' i', k' < q → t.place.toList[i']? = some (nth t.mask (nth t.mask (wayS t.mask g) c) k').j → (es[i']?.map (fun e : Int × Value => e.1)).getD 0 ≠ g) → ∀ (i : Nat) p, L[i]? = some p → p.2 = k → ∃ c', c + q ≤ c' ∧ c' < K ∧ t.place.toList[i]? = some (way t.mask g c') := fun q no i p e1 e2 => by
      obtain ⟨c', a1, a2, a3⟩ := hre i p e1 e2
      refine ⟨c', ?_, a2, a3⟩
      rcases Nat.lt_or_ge c' (c + q) with z | z
      · refine absurd (show (es[i]?.map (fun e : Int × Value => e.1)).getD 0 = g by rw [hs i p e1, e2, hg]) (no (c' - c) i (by omega) ?_)
        rw [step, show c + (c' - c) = c' by omega]
        exact a3
      · exact z
    rcases go_spec t R.tab.ris R.tab.dm (fun i => (es[i]?.map (fun e : Int × Value => e.1)).getD 0) g (10 * SetTable.turns t.mask) (K - c) (nth t.mask (wayS t.mask g) c) (nth_dummy _ _ _ rfl) (by omega) (fun q hq => by rw [step]; exact hKb _ (by omega)) (by rw [step, show c + (K - c) = K by omega]; exact hK) with ⟨q, i, hq, hi, hh, hno, hpr⟩ | ⟨hno, hpr⟩
    · rw [← nth_add t.mask c (wayS t.mask g) (q + 1)] at hpr
      rw [step] at hi hpr
      have hpr' : t.probe (fun i => (es[i]?.map (fun e : Int × Value => e.1)).getD 0) g (stand.getD (t.probeStart g)) = some (.candidate (way t.mask g (c + q)) i (nth t.mask (wayS t.mask g) (c + (q + 1)))) := by rw [hst]; exact hpr
      rw [hpr']
      dsimp only
      have hil : i < L.length := by
        have := (List.getElem?_eq_some_iff.mp hi).1
        rw [Array.length_toList, R.psz] at this
        exact this
      obtain ⟨p, hp⟩ : ∃ p, L[i]? = some p := ⟨_, List.getElem?_eq_getElem hil⟩
      have hm := List.mem_of_getElem? hp
      have rest : wpAny (model P w) A (searchRest a (.ref x) g true f es t (way t.mask g (c + q)) i (nth t.mask (wayS t.mask g) (c + (q + 1)))) Q E s := by
        unfold searchRest
        rw [rows_at R.rows hp]
        dsimp only
        refine wpAny_bind (wpAny_holding ((nestedKind P w).eqBool hu (R.is_ p hm) hx ?_))
        refine wpAny_bind (wpAny_setState_of ho hd R.fits ?_)
        dsimp only
        by_cases hkk : p.2 = k
        · exact wp_if_pos (by simp [hkk]) (wpAny_pure (hin (List.mem_map.mpr ⟨p, hm, hkk⟩)))
        · refine wp_if_neg (by simp [hkk]) ?_
          try refine wpAny_bind (wpAny_pure ?_)
          rw [sameMem]
          dsimp only
          have hsl : t.slot (way t.mask g (c + q)) = .live i := slot_live R.tab.ris hi
          simp only [if_true, hsl, rows_at R.rows hp]
          refine wpAny_bind (wpAny_isSame_ref_self (wpAny_bind (wpAny_pure ?_)))
          simp only [if_true]
          refine wp_if_neg (by simp [hkk]) ?_
          refine searchN R hx hu hg hKf hK hKb hin hout f (c + (q + 1)) _ rfl (by omega) (by omega) fun i0 p0 h0 hk0 => ?_
          obtain ⟨c', a1, a2, a3⟩ := late q (fun k' i' lt e => hno k' i' lt e) i0 p0 h0 hk0
          refine ⟨c', ?_, a2, a3⟩
          rcases Nat.lt_or_ge (c + q) c' with z | z
          · omega
          · have ec : c' = c + q := Nat.le_antisymm z a1
            rw [ec] at a3
            have s0 := slot_live R.tab.ris a3
            rw [hsl] at s0
            injection s0 with s0
            rw [← s0, hp] at h0
            exact absurd (by rw [Option.some.inj h0]; exact hk0) hkk
      by_cases hl : t.led = true
      · refine wp_if_neg (by simp [hl]) ?_
        try refine wpAny_bind (wpAny_pure ?_)
        exact rest
      · refine wp_if_pos (by simp [hl]) ?_
        refine wpAny_bind (seenN hx (fun y hy => ?_) ?_)
        · obtain ⟨e, he, ee⟩ := List.mem_map.mp hy
          have he1 : e ∈ es ∧ e.1 = g := by simpa using he
          have he2 : e ∈ es.toList := by simpa using he1.1
          rw [R.rows] at he2
          obtain ⟨p2, hp2, e2⟩ := List.mem_map.mp he2
          exact ⟨p2.2, p2.1, by rw [← ee, ← e2], R.is_ p2 hp2⟩
        · refine wp_if_neg (by decide) ?_
          try refine wpAny_bind (wpAny_pure ?_)
          exact rest
    · rw [step, show c + (K - c) = K by omega] at hpr
      have hpr' : t.probe (fun i => (es[i]?.map (fun e : Int × Value => e.1)).getD 0) g (stand.getD (t.probeStart g)) = some (.empty (way t.mask g K) none) := by rw [hst]; exact hpr
      rw [hpr']
      dsimp only
      refine wpAny_pure (hout fun hm => ?_)
      obtain ⟨p0, h0, hk0⟩ := List.mem_map.mp hm
      obtain ⟨i0, e0⟩ := List.getElem?_of_mem h0
      obtain ⟨c', a1, a2, a3⟩ := late (K - c) hno i0 p0 e0 hk0
      omega
theorem searchN_all (R : SetN w s.heap a L es ep t) {x : Addr} {k : NK} (hx : IsN s.heap k x) (hu : A.units + 8 < cLine) {Q : SetFound → Shared → Prop} (hin : k ∈ L.map (·.2) → Q (.there none) s)
    (hout : ∀ K, k ∉ L.map (·.2) → way t.mask (hN w k) K ∉ t.place.toList → (∀ c, c < K → way t.mask (hN w k) c ∈ t.place.toList) → Q (.free (way t.mask (hN w k) K) false) s) : wpAny (model P w) A (setSearch a (.ref x) (hN w k) true) Q E s := by
  have hroom := R.room
  obtain ⟨K, hKf, hK, hKb⟩ := R.tab.first (by rw [List.length_map]; omega) (hN w k)
  have hbig : K < 100000 := by
    have : 10 * SetTable.turns t.mask ≤ 1420 := by
      unfold SetTable.turns
      rcases R.tab.mok with e | e | e <;> omega
    omega
  unfold setSearch
  refine searchN R hx hu rfl hKf hK hKb hin (fun hn => hout K hn hK hKb) 100000 0 none rfl (Nat.zero_le _) (by omega) fun i p hp hk => ?_
  have hil : i < t.place.toList.length := by
    have := (List.getElem?_eq_some_iff.mp hp).1
    rw [Array.length_toList, R.psz]
    exact this
  have hj := List.getElem?_eq_getElem hil
  obtain ⟨c, hc, e⟩ := R.tab.before hK (show (L.map fun p => hN w p.2)[i]? = some (hN w k) by rw [List.getElem?_map, hp, ← hk] <;> rfl) hj
  exact ⟨c, Nat.zero_le _, hc, by rw [hj, e]⟩
end
end My

set_option Elab.async false
set_option maxRecDepth 100000
set_option maxHeartbeats 4000000
set_option linter.all false
namespace My
open PySem PySem.Spec PyProof.Rows L2
/-! picking rows by their numbers -/
theorem pick_map {α β : Type} (f : α → β) (L : List α) : ∀ l : List Nat, l.filterMap (fun i => (L.map f)[i]?) = (l.filterMap fun i => L[i]?).map f
  | [] => rfl
  | i :: l => by
    rw [List.filterMap_cons, List.filterMap_cons, List.getElem?_map, pick_map f L l]
    cases L[i]? <;> rfl
theorem pick_getD {α : Type} (d : α) (L : List α) : ∀ l : List Nat, (∀ i ∈ l, i < L.length) → l.filterMap (fun i => L[i]?) = l.map fun i => L.getD i d
  | [], _ => rfl
  | i :: l, h => by
    have hi := h i List.mem_cons_self
    rw [List.filterMap_cons_some (List.getElem?_eq_getElem hi), List.map_cons, pick_getD d L l fun j hj => h j (List.mem_cons_of_mem _ hj), List.getD_eq_getElem?_getD, List.getElem?_eq_getElem hi] <;> rfl
theorem pick_all {α : Type} (L : List α) : (List.range L.length).filterMap (fun i => L[i]?) = L := by
  refine List.ext_getElem? fun i => ?_
  induction L generalizing i with
  | nil => rfl
  | cons x L ih =>
    rw [List.length_cons, List.range_succ_eq_map, List.filterMap_cons_some (by rfl : (x :: L)[0]? = some x), List.filterMap_map]
    cases i with
    | zero => rfl
    | succ i => exact ih i
section
variable {P : Program} {w : World} {A : Around} {E : Value → Shared → Prop} {s : Shared} {a : Addr} {L : List (Addr × NK)} {es : Array (Int × Value)} {ep : Nat} {t : SetTable}
theorem order_rowsN {order : Array Nat} (hr : es.toList = L.map (rowN w)) (hp : order.toList.Perm (List.range L.length)) :
    ∃ L2 : List (Addr × NK), (order.filterMap (es[·]?)).toList = L2.map (rowN w) ∧ L2.Perm L ∧ (L2.map fun p => hN w p.2) = order.toList.map fun i => (es.map (·.1)).getD i 0 := by
  refine ⟨order.toList.filterMap fun i => L[i]?, ?_, ?_, ?_⟩
  · rw [Array.toList_filterMap, ← pick_map, ← hr]
    refine congrFun (congrArg _ (funext fun i => ?_)) _
    rw [Array.getElem?_toList]
  · have := hp.filterMap fun i => L[i]?
    rwa [pick_all] at this
  · rw [← pick_map (fun p : Addr × NK => hN w p.2), pick_getD 0 _ _ fun i hi => by rw [List.length_map]; exact List.mem_range.mp (hp.mem_iff.mp hi)]
    refine List.map_congr_left fun i _ => ?_
    have e : (L.map fun p => hN w p.2) = (es.map (·.1)).toList := by
      rw [Array.toList_map, hr, List.map_map] <;> rfl
    rw [e, List.getD_eq_getElem?_getD, Array.getElem?_toList, ← Array.getD_eq_getD_getElem?]
/-- the table laid anew -/
theorem relayN {o : Obj} (ho : s.heap.get? a = some o) (hex : o.ExactSet) (hd : o.data = .set es ep t) (hrows : es.toList = L.map (rowN w)) (hsz : t.place.size = es.size) (hdm : t.dummies = #[]) (hfl : es.size ≤ t.mask)
    (nd : (L.map (·.2)).Nodup) (is_ : ∀ p ∈ L, IsN s.heap p.2 p.1) (ld : w.params.followText "set-order" = true ∨ t.led = true) (few : L.length < 64) {wanted M : Nat}
    (hw : SetTable.sizeAbove wanted - 1 = M) (hM : MaskOk M) (hw2 : SetTable.sizeAbove wanted ≤ 128) (hn : L.length * 5 < M * 3) {Q : Unit → Shared → Prop}
    (hQ : ∀ h' L' es' ep' t', Heap.SameBut a s.heap h' → SetN w h' a L' es' ep' t' → L'.Perm L → Q () { s with heap := h' }) : wpAny (model P w) A (setRelay a wanted) Q E s := by
  have hsl := rows_size hrows
  obtain ⟨t', order, e, hp, T, em, el, epl, ed⟩ := relaid_ok t (hs := es.map (·.1)) (wanted := wanted) hw hM (by rw [Array.size_map, hsl]; omega)
  rw [Array.size_map, hsl] at hp
  obtain ⟨L2, r1, r2, r3⟩ := order_rowsN hrows hp
  rw [← r3] at T
  have hs2 : (order.filterMap (es[·]?)).size = es.size := by rw [rows_size r1, r2.length_eq, hsl]
  rw [setRelay_eq]
  refine wpAny_bind (wpAny_setState_of ho hd (fits_of hsz hdm hfl) ?_)
  dsimp only
  refine wp_if_neg (by rw [sizeLine_eq]; omega) ?_
  try refine wpAny_bind (wpAny_pure ?_)
  rw [e]
  dsimp only
  refine wpAny_bind ?_
  refine wp_if_neg (by rw [hs2]; simp) ?_
  try refine wpAny_bind (wpAny_pure ?_)
  refine wpAny_pure ?_
  dsimp only
  refine wpAny_storeSet_of ho hd ?_ (by rw [hs2, hsl, sizeLine_eq]; omega)
  have sb : Heap.SameBut a s.heap (s.heap.update a (Obj.putSet (order.filterMap (es[·]?)) t')) := Heap.SameBut.update ..
  refine hQ _ L2 _ (ep + 1) t' sb ⟨⟨_, store_at ho hd, ⟨hex.1, hex.2.1, hex.2.2⟩, rfl⟩, r1, T, (r2.map (·.2)).nodup_iff.mpr nd, fun p hpm => (is_ p (r2.mem_iff.mp hpm)).but ho hd sb, by rw [el]; exact ld, by rw [r2.length_eq, em]; exact hn, by rw [r2.length_eq]; exact few⟩ r2
theorem TabOk.unplain {t : SetTable} {hs : List Int} (T : TabOk t hs) : TabOk { t with plain := false } hs := ⟨T.ris, T.dm, T.sz, T.mok, T.bd, T.reach⟩
/-- one more -/
theorem addN (R : SetN w s.heap a L es ep t) {x : Addr} {k : NK} (hx : IsN s.heap k x) (hu : A.units + 8 < cLine) (hfew : L.length + 1 < 64) {Q : Bool → Shared → Prop}
    (hQ : ∀ b h' L' es' ep' t', Heap.SameBut a s.heap h' → SetN w h' a L' es' ep' t' → (k ∈ L.map (·.2) → L' = L) → (k ∉ L.map (·.2) → L'.Perm ((x, k) :: L)) → Q b { s with heap := h' }) :
    wpAny (model P w) A (setAddHashed a (.ref x) (hN w k)) Q E s := by
  obtain ⟨o, ho, hex, hd⟩ := R.ob
  have hsl := rows_size R.rows
  have hroom := R.room
  unfold setAddHashed
  refine wpAny_holding ?_
  rw [show (100000 : Nat) = 99999 + 1 from rfl, setAddHashedIn_succ]
  refine wpAny_bind (wpAny_setState_of ho hd R.fits ?_)
  dsimp only
  refine wp_if_neg (by simp [byScan, Value.scannable]) ?_
  try refine wpAny_bind (wpAny_pure ?_)
  refine wpAny_bind (searchN_all R hx hu (fun hm => ?_) fun K hm hK hb => ?_)
  · dsimp only
    exact wpAny_pure (hQ false s.heap L es ep t (Heap.SameBut.refl a s.heap) R (fun _ => rfl) fun z => absurd hm z)
  · dsimp only
    refine wpAny_bind (wpAny_setState_of ho hd R.fits ?_)
    dsimp only
    obtain ⟨q1, q2, q3, q4, q5, q6, q7, q8, q9⟩ := R.tab.put hK hb
    generalize hpt : t.put (way t.mask (hN w k) K) = pt at q1 q3 q4 q5 q6 q7 q8 q9 ⊢
    obtain ⟨t1, p⟩ := pt
    dsimp only at q1 q3 q4 q5 q6 q7 q8 q9 ⊢
    subst q1
    -- whatever becomes of the mark plain
    have main : ∀ t2 : SetTable, (t2 = t1 ∨ t2 = { t1 with plain := false }) → wpAny (model P w) A (do
        storeSet a (SetTable.insertAt es (SetTable.below t.place (way t.mask (hN w k) K)) (hN w k, Value.ref x)) t2
        if (!false && t2.tooFull) = true then setRelay a (SetTable.grown (es.size + 1))
        return true) Q E s := by
      intro t2 ht2
      have hin : (SetTable.insertAt es (SetTable.below t.place (way t.mask (hN w k) K)) (hN w k, Value.ref x)).toList = (L.take (SetTable.below t.place (way t.mask (hN w k) K)) ++ (x, k) :: L.drop (SetTable.below t.place (way t.mask (hN w k) K))).map (rowN w) := by
        rw [SetTable.toList_insertAt, R.rows, List.map_append, List.map_cons, List.map_take, List.map_drop]
      have hh : (L.take (SetTable.below t.place (way t.mask (hN w k) K)) ++ (x, k) :: L.drop (SetTable.below t.place (way t.mask (hN w k) K))).map (fun p => hN w p.2) = (L.map fun p => hN w p.2).take (SetTable.below t.place (way t.mask (hN w k) K)) ++ hN w k :: (L.map fun p => hN w p.2).drop (SetTable.below t.place (way t.mask (hN w k) K)) := by
        rw [List.map_append, List.map_cons, List.map_take, List.map_drop]
      rw [← hh] at q3
      have pm := put_perm L (SetTable.below t.place (way t.mask (hN w k) K)) (x, k)
      generalize SetTable.below t.place (way t.mask (hN w k) K) = p at q2 q3 hin pm ⊢
      have hlen : (L.take p ++ (x, k) :: L.drop p).length = L.length + 1 := pm.length_eq
      have hes := rows_size hin
      generalize SetTable.insertAt es p (hN w k, Value.ref x) = es1 at hin hes ⊢
      generalize L.take p ++ (x, k) :: L.drop p = L1 at pm hlen q3 hin hes
      have nd1 : (L1.map (·.2)).Nodup := (pm.map (·.2)).nodup_iff.mpr (by rw [List.map_cons]; exact List.nodup_cons.mpr ⟨hm, R.nd⟩)
      have T2 : TabOk t2 (L1.map fun p => hN w p.2) := by
        rcases ht2 with e | e
        · rw [e]; exact q3
        · rw [e]; exact TabOk.unplain q3
      have m2 : t2.mask = t.mask := by rcases ht2 with e | e <;> (rw [e]; exact q4)
      have l2 : t2.led = t.led := by rcases ht2 with e | e <;> (rw [e]; exact q5)
      have ld2 : w.params.followText "set-order" = true ∨ t2.led = true := by rw [l2]; exact R.led
      have f2 : t2.fill = L.length + 1 := by
        have e9 : t1.fill = L.length + 1 := by rw [q9, List.length_map]
        rcases ht2 with e | e
        · rw [e]; exact e9
        · rw [e]; exact e9
      refine wpAny_bind (wpAny_storeSet_of ho hd ?_ (by rw [hes, hlen, sizeLine_eq]; omega))
      have sb : Heap.SameBut a s.heap (s.heap.update a (Obj.putSet es1 t2)) := Heap.SameBut.update ..
      have ho1 := store_at (es' := es1) (t' := t2) ho hd
      generalize s.heap.update a (Obj.putSet es1 t2) = h1 at sb ho1 ⊢
      have is1 : ∀ p ∈ L1, IsN h1 p.2 p.1 := fun p hp => by
        rcases List.mem_cons.mp (pm.mem_iff.mp hp) with e | hp
        · rw [e]; exact hx.but ho hd sb
        · exact (R.is_ p hp).but ho hd sb
      have tf : t2.tooFull = decide ((L.length + 1) * 5 ≥ t.mask * 3) := by
        unfold SetTable.tooFull
        rw [f2, m2]
      by_cases hf : (L.length + 1) * 5 ≥ t.mask * 3
      · have hc : (!false && t2.tooFull) = true := by rw [tf, decide_eq_true hf] <;> rfl
        first
          | (refine wpAny_bind ?_; refine wp_if_pos hc ?_)
          | (refine wp_if_pos hc ?_; refine wpAny_bind ?_)
        have cases2 : (t.mask = 7 ∧ L.length = 4) ∨ (t.mask = 31 ∧ L.length = 18) := by
          rcases R.tab.mok with e | e | e
          · left; rw [e] at hf hroom; exact ⟨e, by omega⟩
          · right; rw [e] at hf hroom; exact ⟨e, by omega⟩
          · exfalso; rw [e] at hf; omega
        rw [hsl]
        have psz : t2.place.size = es1.size := by rw [T2.sz, List.length_map, hes]
        have go : ∀ M, SetTable.sizeAbove (SetTable.grown (L.length + 1)) - 1 = M → MaskOk M → SetTable.sizeAbove (SetTable.grown (L.length + 1)) ≤ 128 → (L.length + 1) * 5 < M * 3 →
            wpAny (model P w) A (setRelay a (SetTable.grown (L.length + 1))) (fun _ s' => wpAny (model P w) A (pure true) Q E s') E { s with heap := h1 } := fun M a1 a2 a3 a4 => by
          refine relayN (s := { s with heap := h1 }) ho1 ⟨hex.1, hex.2.1, hex.2.2⟩ rfl hin psz T2.dm (by rw [hes, hlen, m2]; omega) nd1 is1 ld2 (by rw [hlen]; exact hfew) a1 a2 a3 (by rw [hlen]; exact a4) ?_
          intro h2 L2 es2 ep2 t3 sb2 R2 pm2
          exact wpAny_pure (hQ true h2 L2 es2 ep2 t3 (sb.trans sb2) R2 (fun z => absurd z hm) fun _ => pm2.trans pm)
        rcases cases2 with ⟨_, e2⟩ | ⟨_, e2⟩
        · exact go 31 (by rw [e2, size_20]) (.inr (.inl rfl)) (by rw [e2, size_20]; decide) (by omega)
        · exact go 127 (by rw [e2, size_76]) (.inr (.inr rfl)) (by rw [e2, size_76]; decide) (by omega)
      · have hc : ¬ (!false && t2.tooFull) = true := by rw [tf, decide_eq_false hf]; decide
        first
          | refine wp_if_neg hc ?_
          | (refine wpAny_bind ?_; refine wp_if_neg hc ?_; refine wpAny_pure ?_)
        refine wpAny_pure (hQ true h1 L1 es1 (ep + 1) t2 sb ⟨⟨_, ho1, ⟨hex.1, hex.2.1, hex.2.2⟩, rfl⟩, hin, T2, nd1, is1, ld2, by rw [hlen, m2]; omega, by rw [hlen]; exact hfew⟩ (fun z => absurd z hm) fun _ => pm)
    by_cases hpl : t1.plain = true
    · first
        | (refine wpAny_bind ?_; refine wp_if_pos hpl ?_; refine val_key k _ 8 s hx.1 _ _ _ fun b => ?_)
        | refine wp_if_pos hpl (wpAny_bind (val_key k _ 8 s hx.1 _ _ _ fun b => ?_))
      cases b with
      | true =>
        simp only [if_true]
        exact main _ (.inl rfl)
      | false =>
        simp only [Bool.false_eq_true, if_false]
        exact main _ (.inr rfl)
    · first
        | (refine wpAny_bind ?_; refine wp_if_neg hpl ?_; refine wpAny_pure ?_)
        | refine wp_if_neg hpl (wpAny_bind (wpAny_pure ?_))
      simp only [if_true]
      exact main _ (.inl rfl)
end
end My

set_option Elab.async false
set_option maxRecDepth 100000
set_option maxHeartbeats 4000000
set_option linter.all false
namespace My
open PySem PySem.Spec PyProof.Rows L2
abbrev set0 (w : World) : Obj := { cls := .type "set", dict := none, data := .set #[] 0 (.fresh 0 0 (!w.params.followText "set-order")) }
/-- what one item more does to the set at S: T i says what the set is behind i items -/
def Adds (P : Program) (w : World) (A : Around) (h0 : Heap) (S : Addr) (n : Nat) (Pv : Nat → Value → Prop) (T : Nat → Obj → Prop) : Prop :=
  ∀ (i : Nat) (v : Value) (o : Obj) (s : Shared) (E : Value → Shared → Prop) (Q : Bool → Shared → Prop), i < n → Pv i v → s.heap.get? S = some o → T i o → (∀ b u, h0.get? b = some u → s.heap.get? b = some u) →
    (∀ b h' tk o', s.toks ≤ tk → Heap.SameBut S s.heap h' → h'.get? S = some o' → T (i + 1) o' → Q b { s with heap := h', toks := tk }) → wpAny (model P w) A (setAdd S v) Q E s
section
variable {P : Program} {w : World} {A : Around} {E : Value → Shared → Prop} {s : Shared}
theorem update_any {I : Addr} {fp wr : List Addr} {G : Array GenState → Array GenState → Prop} {n : Nat} {Pv : Nat → Value → Prop} {St : Nat → Shared → Prop} {R : Result → Shared → Prop}
    (W : WalksS P w A.in1 I fp wr G n Pv St) {S : Addr} (hSf : S ∉ fp) {T : Nat → Obj → Prop} {h0 : Heap} (hS0 : h0.get? S = none) (hw0 : ∀ b ∈ wr, h0.get? b = none) (add : Adds P w A.in1 h0 S n Pv T) :
    ∀ (k i : Nat) (s : Shared), n - i = k → i ≤ n → St i s → (∀ b o, h0.get? b = some o → s.heap.get? b = some o) → (∃ o, s.heap.get? S = some o ∧ T i o) →
      (∀ s' o, Moved (S :: wr) G s s' → s'.heap.get? S = some o → T n o → (∀ b o, h0.get? b = some o → s'.heap.get? b = some o) → R (.ok (.ret .none)) s') →
      codeAny (model P w) A (.builtin "set.update.loop" ⟨[.ref S, .ref I], []⟩) R s := by
  have hSw : S ∉ wr := fun h => hSf (W.sub _ h)
  have hsub : ∀ b ∈ wr, b ∈ S :: wr := fun b hb => List.mem_cons_of_mem _ hb
  have keepM : ∀ {s s' : Shared}, Moved wr G s s' → (∀ b o, h0.get? b = some o → s.heap.get? b = some o) → ∀ b o, h0.get? b = some o → s'.heap.get? b = some o := fun hm hkp b o e =>
    hm.heap b o (fun hb => by rw [hw0 b hb] at e; cases e) (hkp b o e)
  intro k
  induction k with
  | zero =>
    intro i s hk' hi hst hkp ⟨o, hS, hT⟩ hR
    obtain rfl : i = n := by omega
    refine codeAny_builtin F.entry_set_update_loop ?_
    rw [Around.under_plainId F.plain_set_update_loop _]
    show wpAny _ A.in1 (pyNext (.ref I) >>= _) _ _ s
    refine wpAny_bind (W.done s _ _ hst fun s' hm => ?_)
    show wpAny _ A.in1 (ret Value.none) _ _ s'
    exact wpAny_pure (hR s' o (hm.mono hsub) (hm.heap S o hSw hS) hT (keepM hm hkp))
  | succ k ih =>
    intro i s hk' hi hst hkp ⟨o, hS, hT⟩ hR
    have hlt : i < n := by omega
    refine codeAny_builtin F.entry_set_update_loop ?_
    rw [Around.under_plainId F.plain_set_update_loop _]
    show wpAny _ A.in1 (pyNext (.ref I) >>= _) _ _ s
    refine wpAny_bind (W.item i s _ _ hlt hst fun v s' hP hst' hm => ?_)
    have hkp' := keepM hm hkp
    show wpAny _ A.in1 (holding [v] (setAdd S v) >>= _) _ _ s'
    refine wpAny_bind (wpAny_holding (add i v o s' _ _ hlt hP (hm.heap S o hSw hS) hT hkp' fun b h' tk o' htk hsb hS2 hT2 => ?_))
    have hkp2 : ∀ b o, h0.get? b = some o → h'.get? b = some o := fun b o e => (hsb.2 b (fun z => by rw [z, hS0] at e; cases e)).trans (hkp' b o e)
    refine wpAny_pure ⟨plainId_quiet F.plain_set_update_loop _, ih (i + 1) _ (by omega) hlt (W.frame _ s' _ _ hst' htk fun b hb o e => ?_) hkp2 ⟨o', hS2, hT2⟩ fun s'' o2 hm'' hS'' hT'' hkp'' => ?_⟩
    · rw [hsb.2 b (fun h : b = S => hSf (by rw [← h]; exact hb))]; exact e
    · refine hR s'' o2 (Moved.trans W.gtrans ((hm.mono hsub).then_heap htk fun b o hb e => ?_) hm'') hS'' hT'' hkp''
      rw [hsb.2 b (fun h : b = S => hb (by rw [h]; exact List.mem_cons_self))]; exact e
set_option maxHeartbeats 3200000 in
/-- set(xs), xs a list -/
theorem call_set_any {l : Addr} {items : Array Value} {Q : Value → Shared → Prop} (hh : A.handled = none) (hl : s.heap.IsList l items) {T : Nat → Obj → Prop} (t0 : T 0 (set0 w))
    (add : Adds P w A.in1.in1.in1 s.heap s.heap.objs.size items.size (fun i v => items[i]? = some v) T)
    (h : ∀ (h' : Heap) (tk : Nat) (o : Obj), h'.get? s.heap.objs.size = some o → T items.size o → (∀ b o, s.heap.get? b = some o → h'.get? b = some o) → Q (.ref s.heap.objs.size) { s with heap := h', toks := tk }) :
    wpAny (model P w) A (call (.type "set") [.ref l]) Q E s := by
  obtain ⟨c, tl, hmro⟩ := F.called_set.mro
  have hmade := F.called_set.made
  have hsub := F.called_set.sub
  refine wpAny_call (codeAny_of_tree ?_)
  show wpAny _ _ (callAny (.type "set") _) _ _ _
  refine wpAny_pure ⟨Code.quiet_builtin _ (by decide +kernel), codeAny_builtin F.entry_type_call ?_⟩
  rw [Around.under_plain (weight_type_call_type "set" [.ref l] []) rfl]
  have h1 := F.called_set.notType
  have h2 := F.called_set.canCreate
  have hct := F.typeCall_set_1 (.ref l)
  repeat (any_goals (first | assumption | wp_step))
  refine codeAny_mono (code_set_led1 (.ref l) (E := E) (Q₁ := fun obj s₁ => obj = .ref s.heap.objs.size ∧ s₁ = { s with heap := s.heap.push (set0 w) }) ⟨rfl, rfl⟩) fun r s₁ hr => ?_
  cases r with
  | error e => exact hr
  | ok fl =>
    cases fl with
    | ret obj =>
      obtain ⟨rfl, rfl⟩ := hr
      have hS : (s.heap.push (set0 w)).get? s.heap.objs.size = some (set0 w) := Heap.get?_push_size _ rfl
      have hT : Shared.TypeIs { s with heap := s.heap.push (set0 w) } (.ref s.heap.objs.size) "set" := ⟨_, hS, rfl⟩
      have hli := F.called_set.init.lookup
      have hbi := F.called_set.init.bind (.ref s.heap.objs.size)
      repeat (any_goals (first | assumption | wp_step))
      refine codeAny_mono (codeAny_call_builtin (R := wants (fun r s₂ => r = .none ∧ ∃ h' tk o, s₂ = { s with heap := h', toks := tk } ∧ h'.get? s.heap.objs.size = some o ∧ T items.size o ∧ (∀ b o, s.heap.get? b = some o → h'.get? b = some o)) E)
        F.called_set.init.plain F.entry_set_init (check_set_init_1 hT ?_)) fun r₂ s₂ hr₂ => ?_
      · obtain ⟨ol, hol, hcl, nl, hdl⟩ := hl
        obtain ⟨ocls, odict, odata, oslots⟩ := ol
        simp only at hcl hdl
        subst hcl; subst hdl
        have hol' : (s.heap.push (set0 w)).get? l = some { cls := .type "list", dict := odict, data := .seq items nl, slots := oslots } := Heap.get?_push_of_some _ hol
        have hsls := F.sub_list_set
        have hslf := F.sub_list_frozenset
        have hne : (Value.type "list" == Value.type "dict") = false := by decide
        have hl1 : (s.heap.push (set0 w)).IsList l items := ⟨_, hol', rfl, nl, rfl⟩
        unfold Builtin.«set.__init__» noKeywords Builtin.Frozenset.updateFrom
        generalize hPI : pyIter = PI
        wp_walk
        subst hPI
        refine wpAny_pyIter_list hl1 ?_
        refine wpAny_bind (wpAny_runValue ?_)
        have hlS : l < s.heap.objs.size := Heap.lt_size hol
        have hh3 : A.in1.in1.in1.handled = none := by simp [hh]
        have hneI : l ≠ (s.heap.push (set0 w)).objs.size := by
          rw [Heap.size_push]; exact Nat.ne_of_lt (Nat.lt_succ_of_lt hlS)
        have hSf : s.heap.objs.size ∉ [(s.heap.push (set0 w)).objs.size, l] := by
          rw [Heap.size_push]; simp only [List.mem_cons, List.mem_singleton, List.not_mem_nil, or_false, not_or]
          exact ⟨Nat.ne_of_lt (Nat.lt_succ_self _), Nat.ne_of_gt hlS⟩
        have none_of : ∀ b, s.heap.objs.size ≤ b → s.heap.get? b = none := fun b hb => by
          cases q : s.heap.get? b with
          | none => rfl
          | some o => exact absurd (Nat.lt_of_lt_of_le (Heap.lt_size q) hb) (Nat.lt_irrefl _)
        refine update_any ((Walks.list hh3 _ l hneI items).toS) hSf (T := T) (h0 := s.heap) (none_of _ (Nat.le_refl _)) (fun b hb => none_of b (by
            rw [List.mem_singleton.mp hb, Heap.size_push]
            exact Nat.le_succ _)) ?hadd (items.size - 0) 0 _ (by omega) (Nat.zero_le _)
          ⟨⟨_, Heap.get?_push_size _ rfl, rfl, rfl⟩, (hl1.push _)⟩ (fun b o e => Heap.get?_push_of_some _ (Heap.get?_push_of_some _ e)) ⟨_, Heap.get?_push_of_some _ hS, t0⟩ ?hR
        case hadd => exact add
        case hR =>
          intro s' o hm hS' hT' hkp
          obtain ⟨h', g2, d', tk', os'⟩ := s'
          have eg : g2 = s.gens := hm.gens
          have ed : d' = s.drawn := hm.drawn
          have eo : os' = s.os := hm.os
          subst eg; subst ed; subst eo
          show wpAny _ _ _ _ _ _
          refine wpAny_pure ?_
          show wpAny _ _ (ret Value.none) _ _ _
          exact wpAny_pure ⟨rfl, h', tk', o, rfl, hS', hT', hkp⟩
      · cases r₂ with
        | error e => exact hr₂
        | ok fl₂ =>
          cases fl₂ with
          | ret r =>
            obtain ⟨rfl, h', tk, o, rfl, hS', hT', hk'⟩ := hr₂
            repeat (any_goals (first | assumption | wp_step))
            exact h _ _ _ hS' hT' hk'
          | _ => exact hr₂.elim
    | _ => exact hr.elim
end
end My

set_option Elab.async false
set_option maxRecDepth 100000
set_option maxHeartbeats 4000000
set_option linter.all false
namespace My
open PySem PySem.Spec PyProof.Rows L2
/-! ### tuples -/
structure TupT (w : World) (h0 : Heap) (ks : List (Addr × NK)) (i : Nat) (o : Obj) : Prop where
  ex : ∃ (L : List (Addr × NK)) (es : Array (Int × Value)) (ep : Nat) (t : SetTable), o.ExactSet ∧ o.data = .set es ep t ∧ es.toList = L.map (rowN w) ∧ TabOk t (L.map fun p => hN w p.2) ∧ (L.map (·.2)).Nodup ∧ (w.params.followText "set-order" = true ∨ t.led = true) ∧ L.length * 5 < t.mask * 3 ∧
    L.length ≤ i ∧ (∀ p ∈ L, p ∈ ks.take i) ∧ ∀ p ∈ ks.take i, p.2 ∈ L.map (·.2)
theorem mem_take_next {α : Type} {l : List α} {i : Nat} {x : α} (h : l[i]? = some x) {y : α} : y ∈ l.take (i + 1) ↔ y ∈ l.take i ∨ y = x := by
  rw [take_next h, List.mem_append, List.mem_singleton]
theorem led_new (w : World) : w.params.followText "set-order" = true ∨ (SetTable.fresh 0 0 (!w.params.followText "set-order")).led = true := by
  show _ ∨ (!w.params.followText "set-order") = true
  cases w.params.followText "set-order"
  · exact .inr rfl
  · exact .inl rfl
theorem tupT_new {w : World} {h0 : Heap} {ks : List (Addr × NK)} : TupT w h0 ks 0 (set0 w) :=
  ⟨[], #[], 0, _, ⟨rfl, rfl, rfl⟩, rfl, rfl, ⟨List.Pairwise.nil, rfl, rfl, .inl rfl, fun x hx => (by cases hx), fun i h j hi => (by simp at hi)⟩, List.nodup_nil, led_new w, (by show 0 * 5 < 7 * 3; decide), Nat.le_refl _, fun p h => (by cases h), fun p h => (by simp at h)⟩
theorem tupT_adds {P : Program} {w : World} {A : Around} {h0 : Heap} {S : Addr} {n : Nat} {Pv : Nat → Value → Prop} {ks : List (Addr × NK)} (hS0 : h0.get? S = none) (hn : n = ks.length) (hfew : ks.length < 64) (hval : ∀ i v, Pv i v → ∃ p, ks[i]? = some p ∧ v = .ref p.1) (hk : ∀ p ∈ ks, IsN h0 p.2 p.1) (hu : A.units + 8 < cLine) : Adds P w A h0 S n Pv (TupT w h0 ks) := by
  intro i v o s E Q hi hP hS hT kp hQ
  obtain ⟨p, hp, rfl⟩ := hval i v hP
  obtain ⟨L, es, ep, t, hex, hd, hr, tab, nd, ld, room, len, sub, all⟩ := hT.ex
  have hpm := List.mem_of_getElem? hp
  have hx : IsN s.heap p.2 p.1 := (hk p hpm).keep kp
  have R : SetN w s.heap S L es ep t := ⟨⟨o, hS, hex, hd⟩, hr, tab, nd, fun q hq => (hk q (List.mem_of_mem_take (sub q hq))).keep kp, ld, room, by omega⟩
  unfold setAdd
  refine wpAny_holding ?_
  refine wpAny_bind (pyHash_key p.2 _ A s _ hx.1 (by have := hx.2; omega) ?_)
  refine addN (s := { s with toks := s.toks + p.2.draws }) R hx hu (by omega) fun b h' L' es' ep' t' sb R' c1 c2 => ?_
  obtain ⟨o', ho', hex', hd'⟩ := R'.ob
  refine hQ b h' _ o' (Nat.le_add_right _ _) sb ho' ⟨L', es', ep', t', hex', hd', R'.rows, R'.tab, R'.nd, R'.led, R'.room, ?_⟩
  rcases Classical.em (p.2 ∈ L.map (·.2)) with c | c
  · rw [c1 c]
    refine ⟨by omega, fun q hq => (mem_take_next hp).2 (.inl (sub q hq)), fun q hq => ?_⟩
    rcases (mem_take_next hp).1 hq with z | z
    · exact all q z
    · rw [z]; exact c
  · have pm := c2 c
    refine ⟨by rw [pm.length_eq, List.length_cons]; omega, fun q hq => ?_, fun q hq => ?_⟩
    · rcases List.mem_cons.mp (pm.mem_iff.mp hq) with e | z
      · exact (mem_take_next hp).2 (.inr e)
      · exact (mem_take_next hp).2 (.inl (sub q z))
    · rw [(pm.map (·.2)).mem_iff, List.map_cons]
      rcases (mem_take_next hp).1 hq with z | z
      · exact List.mem_cons_of_mem _ (all q z)
      · rw [z]; exact List.mem_cons_self
/-! data as keys -/
mutual
theorem dp_nested {X : Cx} {pins : List (Addr × Obj)} {σ : L2.St} {H : Hp} {s : Shared} (I : Inv X pins σ H s) : ∀ (k : NK) (v : V) (u : Value), Dp X.K H v k.data → RelV v u → NestedIs s.heap k u
  | .none, _, u, h, r => by
    cases h
    cases r
    exact .none
  | .num i, _, u, h, r => by
    cases h
    obtain ⟨t, rfl⟩ := r
    exact .int _ _
  | .text x, _, u, h, r => by
    cases h
    obtain ⟨t, rfl⟩ := r
    exact .text _ _
  | .tup ks, v, u, h, r => by
    have h' : Dp X.K H v (.tuple (NestedKey.datas ks)) := h
    cases h' with
    | tup hs ha =>
      obtain rfl : u = Value.ref _ := r
      obtain ⟨its, rv, ⟨o, ho, hc, n, hd⟩, _⟩ := I.tuple hs
      exact .tup ho hc hd (by simpa using dp_nesteds I ks _ its ha rv)
theorem dp_nesteds {X : Cx} {pins : List (Addr × Obj)} {σ : L2.St} {H : Hp} {s : Shared} (I : Inv X pins σ H s) : ∀ (ks : List NK) (vs : List V) (us : List Value), DpAll X.K H vs (NestedKey.datas ks) → Vals vs us → NestedAll s.heap ks us
  | [], _, us, h, r => by
    cases h
    cases r
    exact .nil
  | k :: ks, _, us, h, r => by
    cases h with
    | cons h t =>
      cases r with
      | cons r rt => exact .cons (dp_nested I k _ _ h r) (dp_nesteds I ks _ _ t rt)
end
theorem datas_map : ∀ ks : List NK, NestedKey.datas ks = ks.map NestedKey.data
  | [] => rfl
  | k :: ks => by rw [NestedKey.datas, datas_map ks, List.map_cons]
theorem data_inj {H : Hp} {K : PySem.W.Frag} : True := trivial
def isTup : NK → Bool
  | .tup _ => true
  | _ => false
/-- set(xs), xs a list of fewer than 64 tuples -/
def rSetT (K : PySem.W.Frag) (w : World) : List V → Hp → VK → Prop := fun xs H Q => ∃ (l : Addr) (ps : List (Addr × NK)), xs = [V.ref l] ∧ SqL K H l (ps.map fun p => V.ref p.1) ∧ (∀ p ∈ ps, Dp K H (.ref p.1) p.2.data ∧ p.2.depth ≤ 8) ∧ ps.length < 64 ∧
  ∀ a (L : List (Addr × NK)), H a = none → (∀ p ∈ L, p ∈ ps) → (L.map (·.2)).Nodup → (∀ p ∈ ps, p.2 ∈ L.map (·.2)) → Q (.ref a) (upd H a (SetV w a (L.map fun p => V.ref p.1)))
theorem refs_back2 : ∀ {ks : List (Addr × NK)} {us : List Value}, Vals (ks.map fun p => V.ref p.1) us → us = ks.map fun p => Value.ref p.1
  | [], _, .nil => rfl
  | p :: ks, _, .cons r t => by
    cases r
    rw [refs_back2 t] <;> rfl
theorem vals_refs2 : ∀ (ks : List (Addr × NK)), Vals (ks.map fun p => V.ref p.1) (ks.map fun p => Value.ref p.1)
  | [] => .nil
  | p :: ks => .cons rfl (vals_refs2 ks)
section
variable {X : Cx}
theorem cr_setT (hc : X.calm = true) (hu : X.A.units + 65 < cLine) : CallR X (.type "set") (rSetT X.K X.w) := by
  intro pins s σ H xs us Q I r h
  obtain ⟨l, ps, rfl, hl, hk, hf, q⟩ := h
  obtain ⟨u, rfl, ru⟩ := vals1 r
  obtain rfl : u = Value.ref l := ru
  obtain ⟨its, rv, pl, hz⟩ := I.list hl
  have hn : H s.heap.objs.size = none := I.hok.fresh (Nat.le_refl _)
  have hits : its = ps.map fun p => Value.ref p.1 := refs_back2 rv
  have hz2 : its.toArray.size = ps.length := by rw [List.size_toArray, hits, List.length_map]
  have hk' : ∀ p ∈ ps, IsN s.heap p.2 p.1 := fun p hp => ⟨dp_nested I p.2 _ _ (hk p hp).1 rfl, (hk p hp).2⟩
  have hfresh : s.heap.get? s.heap.objs.size = none := by
    cases z : s.heap.get? s.heap.objs.size with
    | none => rfl
    | some o => exact absurd (Heap.lt_size z) (Nat.lt_irrefl _)
  refine call_set_any (P := X.prog) (w := X.w) (I.ok.hd hc) pl.isList (T := TupT X.w s.heap ps) tupT_new ?_ fun h' tk o ho hT kp => ?_
  · refine tupT_adds hfresh hz2 hf (fun i v hv => ?_) hk' (by show X.A.units + 1 + 1 + 1 + 8 < cLine; omega)
    rw [← Array.getElem?_toList, hits] at hv
    have hv' : (ps.map fun p => Value.ref p.1)[i]? = some v := by simpa using hv
    rw [List.getElem?_map] at hv'
    cases e : ps[i]? with
    | none => rw [e] at hv'; cases hv'
    | some p =>
      rw [e] at hv'
      exact ⟨p, rfl, (Option.some.inj hv').symm⟩
  · obtain ⟨L, es, ep, t, hex, hd, hr, tab, nd, ld, room, len, sub, all⟩ := hT.ex
    rw [hz2] at len sub all
    rw [List.take_length] at sub all
    have hsl := rows_size hr
    have psz : t.place.size = es.size := by rw [tab.sz, List.length_map, hsl]
    have sv : SetV0 X.w h' s.heap.objs.size (L.map fun p => V.ref p.1) := ⟨es, ep, t, ⟨o, ho, hex, hd⟩, fits_of psz tab.dm (by omega), tab.ris, ld, by omega, by
      rw [hr, List.map_map]
      exact vals_refs2 L⟩
    exact ⟨.ref s.heap.objs.size, upd H s.heap.objs.size (SetV X.w s.heap.objs.size (L.map fun p => V.ref p.1)), I.laid (t' := tk) kp (Nat.le_refl _) (setV_new sv), rfl, q _ L hn sub nd all⟩
end
/-! ### texts -/
def keyS (e : Int × Value) : Str := match e.2 with | .str x _ => x | _ => ""
def IsS (w : World) (e : Int × Value) : Prop := ∃ x tk, e = (hashStr w x, Value.str x tk)
structure TxtT (w : World) (xs : List Str) (i : Nat) (o : Obj) : Prop where
  ex : ∃ (es : Array (Int × Value)) (ep : Nat) (t : SetTable), o.ExactSet ∧ o.data = .set es ep t ∧ t.fits es.size = true ∧ Ris t.place.toList ∧ (w.params.followText "set-order" = true ∨ t.led = true) ∧ (∀ e ∈ es.toList, IsS w e) ∧ (es.toList.map keyS).Nodup ∧ (∀ x, x ∈ xs.take i ↔ x ∈ es.toList.map keyS) ∧ es.size ≤ i
theorem txtT_new {w : World} {xs : List Str} : TxtT w xs 0 (set0 w) :=
  ⟨#[], 0, _, ⟨rfl, rfl, rfl⟩, rfl, rfl, List.Pairwise.nil, led_new w, fun e he => (by simp at he), List.nodup_nil, fun x => by simp, Nat.le_refl _⟩
section
variable {P : Program} {w : World} {A : Around} {E : Value → Shared → Prop} {s : Shared}
theorem isS_elems {l : List (Int × Value)} (g : ∀ e ∈ l, IsS w e) : ElemsOf (strKind P w) l := fun e he => by
  obtain ⟨x, tk, rfl⟩ := g e he
  exact ⟨⟨x, by show Value.isStr (.str x tk) x = true; simp [Value.isStr], rfl⟩, rfl⟩
theorem isS_is {e : Int × Value} (g : IsS w e) (x : Str) : (strKind P w).is x e.2 = true ↔ keyS e = x := by
  obtain ⟨y, tk, rfl⟩ := g
  show Value.isStr (.str y tk) x = true ↔ y = x
  simp [Value.isStr]
  try exact eq_comm
theorem add_txt {S : Addr} {o : Obj} {es : Array (Int × Value)} {ep : Nat} {t : SetTable} (ho : s.heap.get? S = some o) (hex : o.ExactSet) (hd : o.data = .set es ep t) (hf : t.fits es.size = true) (hr : Ris t.place.toList) (hl : w.params.followText "set-order" = true ∨ t.led = true)
    (g : ∀ e ∈ es.toList, IsS w e) (hb : es.size + 1 < scanBound) {x : Str} {tk : Tok} {Q : Bool → Shared → Prop}
    (hQ : ∀ b h' o' es' ep' t', Heap.SameBut S s.heap h' → h'.get? S = some o' → o'.ExactSet → o'.data = .set es' ep' t' → t'.fits es'.size = true → Ris t'.place.toList → (w.params.followText "set-order" = true ∨ t'.led = true) →
      (x ∈ es.toList.map keyS → es'.toList.Perm es.toList) → (x ∉ es.toList.map keyS → es'.toList.Perm ((hashStr w x, Value.str x tk) :: es.toList)) → Q b { s with heap := h' }) :
    wpAny (model P w) A (setAddHashed S (.str x tk) (hashStr w x)) Q E s := by
  have hkey : (strKind P w).is x (.str x tk) = true := by show Value.isStr (.str x tk) x = true; simp [Value.isStr]
  have hsc : (Value.str x tk).scannable = true := rfl
  have hel : ElemsOf (strKind P w) es.toList := isS_elems g
  have hx : hashStr w x = (strKind P w).hash x := rfl
  unfold setAddHashed setAddHashedIn
  refine wpAny_holding (wpAny_bind (wpAny_setState_of ho hd hf ?_))
  dsimp only
  rw [byScan_of hsc (by omega) hel]
  simp only [↓reduceIte]
  unfold setAddByScan
  refine wpAny_bind ?_
  refine wpAny_bind (wpAny_rule ?_)
  refine wpAny_bind (wpAny_setScan_of hkey ho hd hf hel ?_)
  cases hfi : List.findIdx? (fun e => (strKind P w).is x e.2) es.toList with
  | some j =>
    dsimp only
    obtain ⟨hj, pj, _⟩ := List.findIdx?_eq_some_iff_getElem.mp hfi
    have hin : x ∈ es.toList.map keyS := List.mem_map.mpr ⟨es.toList[j], List.getElem_mem hj, (isS_is (P := P) (g _ (List.getElem_mem hj)) x).1 pj⟩
    exact wpAny_pure (wpAny_pure (hQ _ s.heap o es ep t (Heap.SameBut.refl S s.heap) ho hex hd hf hr hl (fun _ => .refl _) fun z => absurd hin z))
  | none =>
    dsimp only
    have hnx : x ∉ es.toList.map keyS := fun z => by
      obtain ⟨e, he, q⟩ := List.mem_map.mp z
      have c := List.findIdx?_eq_none_iff.mp hfi e he
      rw [(isS_is (P := P) (g e he) x).2 q] at c
      cases c
    have hgw : ∀ (b : Bool) {s₁ : Shared} {Q' : Unit → Shared → Prop}, Q' () s₁ → wpAny (model P w) A (match b with | true => rule "set.scan.the-table-gave-way" | false => pure ()) Q' E s₁ :=
      fun b s₁ Q' q => by cases b <;> first | exact wpAny_pure q | exact wpAny_rule q
    have pm := layNew_perm t es ((strKind P w).hash x) (.str x tk)
    have hf1 := layNew_fits t es ((strKind P w).hash x) (.str x tk)
    have hr1 := layNew_ris t es ((strKind P w).hash x) (.str x tk) hr
    have hl1 := layNew_led t es ((strKind P w).hash x) (.str x tk)
    rw [hx] at hQ ⊢
    generalize layNew t es ((strKind P w).hash x) (.str x tk) = Z at pm hf1 hr1 hl1 ⊢
    obtain ⟨es1, t1, wasDummy, gave⟩ := Z
    dsimp only at pm hf1 hr1 hl1 ⊢
    rw [Array.toList_push] at pm
    have pc : es1.toList.Perm (((strKind P w).hash x, Value.str x tk) :: es.toList) := pm.trans (List.perm_append_singleton _ _)
    have hsz : es1.size = es.size + 1 := by rw [← Array.length_toList, pc.length_eq, List.length_cons, Array.length_toList]
    have hled : w.params.followText "set-order" = true ∨ t1.led = true := hl.imp id fun z => by rw [hl1]; exact z
    -- what comes behind the laying, whatever the mark
    have tail : ∀ (t2 : SetTable) (R : Option Bool → Shared → Prop) (gg : Bool → Sem Unit), (∀ (b : Bool) (s₁ : Shared) (Q' : Unit → Shared → Prop), Q' () s₁ → wpAny (model P w) A (gg b) Q' E s₁) → t2.fits es1.size = true → Ris t2.place.toList → (w.params.followText "set-order" = true ∨ t2.led = true) →
        (∀ s', (∀ b, Q b s') → R (some true) s') → wpAny (model P w) A (do
        storeSet S es1 t2
        if (!wasDummy && t2.tooFull) = true then do
            gg (relayAll t2 es1 (SetTable.grown es1.size)).2.2
            storeSet S (relayAll t2 es1 (SetTable.grown es1.size)).1 (relayAll t2 es1 (SetTable.grown es1.size)).2.1
            pure (some true)
          else pure (some true)) R E s := by
      intro t2 R gg hgg f2 r2 l2 hR
      refine wpAny_bind (wpAny_storeSet_of ho hd ?_ (fits_of_scanBound (by omega)))
      have ho1 := store_at (es' := es1) (t' := t2) ho hd
      have sb1 := Heap.SameBut.update s.heap S (Obj.putSet es1 t2)
      split
      · have pm3 := relayAll_perm t2 es1 (SetTable.grown es1.size)
        have hf3 := relayAll_fits t2 es1 (SetTable.grown es1.size)
        have hr3 := relayAll_ris t2 es1 (SetTable.grown es1.size)
        have hl3 := relayAll_led t2 es1 (SetTable.grown es1.size)
        generalize relayAll t2 es1 (SetTable.grown es1.size) = Z at pm3 hf3 hr3 hl3 ⊢
        obtain ⟨es2, t3, gave2⟩ := Z
        dsimp only at pm3 hf3 hr3 hl3 ⊢
        have hsz2 : es2.size = es1.size := by rw [← Array.length_toList, pm3.length_eq, Array.length_toList]
        refine wpAny_bind (hgg _ _ _ ?_)
        refine wpAny_bind (wpAny_storeSet_of ho1 rfl ?_ (fits_of_scanBound (by omega)))
        have ho2 := store_at (es' := es2) (t' := t3) ho1 rfl
        refine wpAny_pure (hR _ fun b => ?_)
        exact hQ b _ _ es2 _ t3 (sb1.trans (Heap.SameBut.update _ S _)) ho2 ⟨hex.1, hex.2.1, hex.2.2⟩ rfl (by rw [hsz2]; first | exact hf3 | (rw [← hsz2]; exact hf3)) hr3 (l2.imp id fun z => by rw [hl3]; exact z) (fun z => absurd z hnx) fun _ => pm3.trans pc
      · exact wpAny_pure (hR _ fun b => hQ b _ _ es1 _ t2 sb1 ho1 ⟨hex.1, hex.2.1, hex.2.2⟩ rfl f2 r2 l2 (fun z => absurd z hnx) fun _ => pc)
    refine wpAny_bind (hgw _ ?_)
    split
    · refine wpAny_bind ?_
      rw [hashByValue_scannable 8 hsc]
      refine wpAny_pure ?_
      refine tail _ _ _ ?_ ?_ ?_ ?_ ?_
      · intro b s₁ Q' q; cases b <;> first | exact wpAny_pure q | exact wpAny_rule q
      · first | (split <;> first | exact hf1 | exact SetTable.fits_plain_off hf1) | exact hf1
      · first | (split <;> exact hr1) | exact hr1
      · first | (split <;> exact hled) | exact hled
      · intro s' q; dsimp only; exact wpAny_pure (q _)
    · refine wpAny_bind (wpAny_pure ?_)
      simp only [↓reduceIte]
      refine tail _ _ _ ?_ hf1 hr1 hled ?_
      · intro b s₁ Q' q; cases b <;> first | exact wpAny_pure q | exact wpAny_rule q
      · intro s' q; dsimp only; exact wpAny_pure (q _)
theorem txtT_adds {h0 : Heap} {S : Addr} {n : Nat} {Pv : Nat → Value → Prop} {xs : List Str} (hn : n = xs.length) (hfew : xs.length < 1000) (hval : ∀ i v, Pv i v → ∃ x tk, xs[i]? = some x ∧ v = .str x tk) : Adds P w A h0 S n Pv (TxtT w xs) := by
  intro i v o s E Q hi hP hS hT kp hQ
  obtain ⟨x, tk, hx, rfl⟩ := hval i v hP
  obtain ⟨es, ep, t, hex, hd, hf, hr, hl, g, nd, mem, len⟩ := hT.ex
  unfold setAdd
  refine wpAny_holding ?_
  refine wpAny_bind (wpAny_pyHash_str ?_)
  refine add_txt (s := { s with toks := s.toks + 1 }) hS hex hd hf hr hl g (by unfold scanBound; omega) fun b h' o' es' ep' t' sb ho' hex' hd' hf' hr' hl' c1 c2 => ?_
  refine hQ b h' _ o' (Nat.le_succ _) sb ho' ⟨es', ep', t', hex', hd', hf', hr', hl', ?_⟩
  rcases Classical.em (x ∈ es.toList.map keyS) with c | c
  · have pm := c1 c
    refine ⟨fun e he => g e (pm.mem_iff.mp he), (pm.map keyS).nodup_iff.mpr nd, fun y => ?_, ?_⟩
    · rw [(pm.map keyS).mem_iff, ← mem y, mem_take_next hx]
      constructor
      · rintro (z | z)
        · exact z
        · rw [z]; exact (mem x).2 c
      · exact .inl
    · rw [← Array.length_toList, pm.length_eq, Array.length_toList]; omega
  · have pm := c2 c
    have pk : (es'.toList.map keyS).Perm (x :: es.toList.map keyS) := pm.map keyS
    refine ⟨fun e he => ?_, pk.nodup_iff.mpr (List.nodup_cons.mpr ⟨c, nd⟩), fun y => ?_, ?_⟩
    · rcases List.mem_cons.mp (pm.mem_iff.mp he) with z | z
      · exact ⟨x, tk, z⟩
      · exact g e z
    · rw [pk.mem_iff, List.mem_cons, ← mem y, mem_take_next hx]
      exact Or.comm
    · rw [← Array.length_toList, pm.length_eq, List.length_cons, Array.length_toList]; omega
end
/-- set(xs), xs a list of texts -/
def rSetS (K : PySem.W.Frag) (w : World) : List V → Hp → VK → Prop := fun vs H Q => ∃ (l : Addr) (xs : List Str), vs = [V.ref l] ∧ SqL K H l (xs.map V.str) ∧ xs.length < 1000 ∧
  ∀ a (ys : List Str), H a = none → ys.Nodup → (∀ x, x ∈ ys ↔ x ∈ xs) → Q (.ref a) (upd H a (SetV w a (ys.map V.str)))
theorem vals_strs : ∀ {l : List (Int × Value)} {w : World}, (∀ e ∈ l, IsS w e) → Vals ((l.map keyS).map V.str) (l.map (·.2))
  | [], _, _ => .nil
  | e :: l, w, g => by
    obtain ⟨x, tk, h⟩ := g e List.mem_cons_self
    subst h
    exact .cons ⟨tk, rfl⟩ (vals_strs fun e he => g e (List.mem_cons_of_mem _ he))
theorem strs_at : ∀ {xs : List Str} {us : List Value}, Vals (xs.map V.str) us → ∀ (i : Nat) (v : Value), us[i]? = some v → ∃ x tk, xs[i]? = some x ∧ v = .str x tk
  | [], _, .nil, i, v, h => by simp at h
  | x :: xs, _, .cons r t, 0, v, h => by
    obtain ⟨tk, e⟩ := r
    exact ⟨x, tk, rfl, by rw [← Option.some.inj h]; exact e⟩
  | x :: xs, _, .cons r t, i + 1, v, h => strs_at t i v h
section
variable {X : Cx}
theorem cr_setS (hc : X.calm = true) : CallR X (.type "set") (rSetS X.K X.w) := by
  intro pins s σ H vs us Q I r h
  obtain ⟨l, xs, rfl, hl, hf, q⟩ := h
  obtain ⟨u, rfl, ru⟩ := vals1 r
  obtain rfl : u = Value.ref l := ru
  obtain ⟨its, rv, pl, hz⟩ := I.list hl
  have hn : H s.heap.objs.size = none := I.hok.fresh (Nat.le_refl _)
  have hz2 : its.toArray.size = xs.length := by rw [List.size_toArray, ← rv.length, List.length_map]
  refine call_set_any (P := X.prog) (w := X.w) (I.ok.hd hc) pl.isList (T := TxtT X.w xs) txtT_new (txtT_adds hz2 hf fun i v hv => strs_at rv i v (by simpa using hv)) fun h' tk o ho hT kp => ?_
  obtain ⟨es, ep, t, hex, hd, hft, hr, hl, g, nd, mem, len⟩ := hT.ex
  rw [hz2, List.take_length] at mem
  rw [hz2] at len
  have sv : SetV0 X.w h' s.heap.objs.size ((es.toList.map keyS).map V.str) := ⟨es, ep, t, ⟨o, ho, hex, hd⟩, hft, hr, hl, by omega, vals_strs g⟩
  exact ⟨.ref s.heap.objs.size, upd H s.heap.objs.size (SetV X.w s.heap.objs.size ((es.toList.map keyS).map V.str)), I.laid (t' := tk) kp (Nat.le_refl _) (setV_new sv), rfl, q _ _ hn nd fun x => (mem x).symm⟩
end
end My

set_option Elab.async false
set_option maxRecDepth 100000
set_option maxHeartbeats 4000000
set_option linter.all false
/-! Dicts whose keys are tuples, also of tuples. -/
namespace My
open PySem PySem.Spec PyProof.Rows L2
abbrev NRow := NK × Addr × V
abbrev NRows := List NRow
def NRel (p : NRow) (q : NK × Addr × Value) : Prop := p.1 = q.1 ∧ p.2.1 = q.2.1 ∧ RelV p.2.2 q.2.2
def dnP (P : Program) (w : World) (d : Addr) (xs : NRows) (h : Heap) : Prop :=
  (d == sysModules) = false ∧ ∃ vs : List (NK × Addr × Value), Paired NRel xs vs ∧ ∃ o es ep, h.get? d = some o ∧ o.ExactDict ∧ o.data = .dict es ep ∧ es.toList = vs.map (entryOfKey (nestedKind P w)) ∧ (vs.map (·.1)).Nodup
def dnO (P : Program) (w : World) (d : Addr) (xs : NRows) : HO := .ext (dnP P w d xs)
theorem dnO_ok {P : Program} {w : World} {H : Hp} {h : Heap} {d : Addr} {xs : NRows} (x : dnP P w d xs h) : ObjOk P w H h d (dnO P w d xs) := by
  obtain ⟨hd, vs, r, o, es, ep, e, c⟩ := x
  refine ⟨⟨hd, vs, r, o, es, ep, e, c⟩, ⟨o, e⟩, fun h1 h2 x k => ?_⟩
  obtain ⟨hd, vs, r, o, es, ep, e, c⟩ := x
  exact ⟨hd, vs, r, o, es, ep, k o e, c⟩
def valN (xs : NRows) (k : NK) : Option V := (xs.find? fun x => decide (x.1 = k)).map (·.2.2)
structure DN (P : Program) (w : World) (K : PySem.W.Frag) (H : Hp) (d : Addr) (xs : NRows) : Prop where
  at_ : H d = some (dnO P w d xs) ∨ (xs = [] ∧ H d = some (.dK []))
  len : xs.length ≤ sizeLine
  keys : ∀ x ∈ xs, Dp K H (.ref x.2.1) x.1.data ∧ x.1.depth ≤ 8
theorem nrel_val {k : NK} : ∀ {xs : NRows} {vs : List (NK × Addr × Value)}, Paired NRel xs vs → RelO (valN xs k) ((atKey vs k).map (·.2))
  | _, _, .nil => True.intro
  | _, _, .cons (a := p) (b := q) h t => by
    have ih := nrel_val (k := k) t
    unfold valN atKey at *
    by_cases e : p.1 = k
    · have e2 : q.1 = k := h.1.symm.trans e
      rw [List.find?_cons_of_pos (by simp [e]), List.find?_cons_of_pos (by simp [e2])]
      exact h.2.2
    · have e2 : ¬ q.1 = k := fun z => e (h.1.trans z)
      rw [List.find?_cons_of_neg (by simp [e]), List.find?_cons_of_neg (by simp [e2])]
      exact ih
theorem nrel_mem {xs : NRows} {vs : List (NK × Addr × Value)} (r : Paired NRel xs vs) : ∀ q ∈ vs, ∃ p ∈ xs, NRel p q := by
  induction r with
  | nil => intro q hq; cases hq
  | @cons p q ps qs h t ih =>
    intro z hz
    rcases List.mem_cons.mp hz with e | hz
    · exact ⟨p, .head _, by rw [e]; exact h⟩
    · obtain ⟨y, h1, h2⟩ := ih z hz
      exact ⟨y, .tail _ h1, h2⟩
section
variable {X : Cx} {pins : List (Addr × Obj)} {σ : L2.St} {H : Hp} {s : Shared} {d : Addr} {xs : NRows}
theorem dn_of (I : Inv X pins σ H s) (D : DN X.prog X.w X.K H d xs) : (d == sysModules) = false ∧ ∃ vs, Paired NRel xs vs ∧ s.heap.DictOfH (nestedKind X.prog X.w) d vs := by
  rcases D.at_ with e | ⟨rfl, e⟩
  · obtain ⟨⟨hd, vs, r, o, es, ep, h1, h2, h3, h4, h5⟩, _⟩ := (show ObjOk X.prog X.w H s.heap d (dnO X.prog X.w d xs) from I.hok d _ e)
    refine ⟨hd, vs, r, o, es, ep, h1, h2, h3, h4, fun q hq => ?_, h5⟩
    obtain ⟨p, hp, e1, e2, _⟩ := nrel_mem r q hq
    obtain ⟨k1, k2⟩ := D.keys p hp
    rw [e1, e2] at k1
    rw [e1] at k2
    exact ⟨dp_nested I q.1 _ _ k1 rfl, k2⟩
  · obtain ⟨z, hd, vs, rel, o, es, ep, h1, h2, h3, h4, h5, h6⟩ := dk_of I.hok e
    cases rel
    have e0 : es.toList = [] := by
      cases hes : es.toList with
      | nil => rfl
      | cons y ys => rw [hes] at h5; cases h5
    exact ⟨hd, [], .nil, o, es, ep, h1, h2, h3, e0, (fun q hq => by cases hq), List.nodup_nil⟩
end
section
variable {X : Cx}
/-- k not in d -/
def rNotInN (P : Program) (w : World) (K : PySem.W.Frag) : R2 := fun x y H Q => ∃ (b : Addr) (k : NK) (d : Addr) (xs : NRows), x = .ref b ∧ y = .ref d ∧ Dp K H (.ref b) k.data ∧ k.depth ≤ 8 ∧ DN P w K H d xs ∧ Q (.bl (!(valN xs k).isSome)) H
theorem op_notinN (hu : X.A.units + 65 < cLine) : OpR X (compareOp .NotIn) (rNotInN X.prog X.w X.K) := by
  intro pins s σ H x y v u Q I rx ry h
  obtain ⟨b, k, d, xs, rfl, rfl, hk, h8, D, q⟩ := h
  cases rx
  cases ry
  obtain ⟨hd, vs, r, dd⟩ := dn_of I D
  refine wpAny_notIn_heap (knd := nestedKind X.prog X.w) (k := k) (by show X.A.units + 1 + 8 < cLine; omega) ⟨dp_nested I k _ _ hk rfl, h8⟩ hd dd ?_
  have e := (nrel_val (k := k) r).isSome_eq
  rw [Option.isSome_map] at e
  rw [← e]
  exact ⟨.bl _, H, I.tok _, rfl, q⟩
/-- d[k] -/
def rIxN (P : Program) (w : World) (K : PySem.W.Frag) : R2 := fun x y H Q => ∃ (b : Addr) (k : NK) (d : Addr) (xs : NRows) (v : V), x = .ref d ∧ y = .ref b ∧ Dp K H (.ref b) k.data ∧ k.depth ≤ 8 ∧ DN P w K H d xs ∧ valN xs k = some v ∧ Q v H
theorem ix_N (hu : X.A.units + 65 < cLine) : IxR X (rIxN X.prog X.w X.K) := by
  intro value slice pins s σ H x y v u Q I rx ry h hs
  obtain ⟨b, k, d, xs, z, rfl, rfl, hk, h8, D, hv, q⟩ := h
  cases rx
  cases ry
  obtain ⟨hd, vs, r, dd⟩ := dn_of I D
  obtain ⟨w', hw, rw'⟩ := RelO.some_of (v := z) (o := (atKey vs k).map (·.2)) (by rw [← hv]; exact nrel_val r)
  obtain ⟨p, hp, rfl⟩ := Option.map_eq_some_iff.mp hw
  exact subscriptTail_builtinR (x := p.2) dd.typeIs PySem.F.slot_dict_getitem.lookup
    (wpAny_getItem_heap (knd := nestedKind X.prog X.w) (k := k) (by show X.A.units + 1 + 8 < cLine; omega) ⟨dp_nested I k _ _ hk rfl, h8⟩ dd hp ⟨rfl, z, H, I.tok _, rw', q⟩) hs
/-- d[k] = v, k not yet in d -/
def rSetN (P : Program) (w : World) (K : PySem.W.Frag) : TSet := fun o i v H Q => ∃ (b : Addr) (k : NK) (d : Addr) (xs : NRows), o = .ref d ∧ i = .ref b ∧ Dp K H (.ref b) k.data ∧ k.depth ≤ 8 ∧ DN P w K H d xs ∧ xs.length < sizeLine ∧ valN xs k = none ∧ Q (upd H d (dnO P w d (xs ++ [(k, b, v)])))
theorem set_N (hu : X.A.units + 65 < cLine) : PSet X (rSetN X.prog X.w X.K) := by
  intro pins s σ H o i v ov iv u Q I ro ri rv h
  obtain ⟨b, k, d, xs, rfl, rfl, hk, h8, D, hl, hv, q⟩ := h
  cases ro
  cases ri
  obtain ⟨hd, vs, r, dd⟩ := dn_of I D
  have hz : vs.length ≤ sizeLine := by rw [← Paired.length r]; omega
  have ek : atKey vs k = none := by
    have e := (nrel_val (k := k) r).isSome_eq
    rw [hv, Option.isSome_map] at e
    exact Option.isNone_iff_eq_none.mp (by rw [Option.isNone_iff_eq_none, ← Option.not_isSome_iff_eq_none, ← e]; decide)
  refine wpAny_setItem_heap (knd := nestedKind X.prog X.w) (k := k) (hsz := hz) (by show X.A.units + 1 + 8 < cLine; omega) ⟨dp_nested I k _ _ hk rfl, h8⟩ dd fun h' dd' hs => ?_
  rw [storedH_new ek] at dd'
  obtain ⟨o, es, ep, h1, h2, h3, h4, _, h5⟩ := dd'
  refine ⟨_, d_write I ?_ hs ⟨o, h1⟩ (dnO_ok ⟨hd, _, Paired.snoc r ⟨rfl, rfl, rv⟩, o, es, ep, h1, h2, h3, h4, h5⟩), q⟩
  rcases D.at_ with e | ⟨_, e⟩ <;> rw [e] <;> exact True.intro
end
/-! what stays -/
/-- all but the thing at d stays -/
theorem hide_upd_self {d : Addr} {H : Hp} (o : HO) : hide d (upd H d o) = hide d H := funext fun b => by
  by_cases e : b = d
  · rw [e, hide_at, hide_at]
  · rw [hide_ne e, hide_ne e, upd_ne e]
end My

set_option Elab.async false
set_option maxRecDepth 100000
set_option maxHeartbeats 4000000
set_option linter.all false
/-! Pools as data: gates, what they say of named bits. -/
namespace My
open PySem PySem.Spec PyProof.Rows L2
inductive Gt where
  | no | bit (n : NK) | both (x y : Int) | unlike (x y : Int) | chosen (c x y : Int) | most (x y z : Int)
def Gt.nk : Gt → NK
  | .no => .tup [.text "no"]
  | .bit n => .tup [.text "bit", n]
  | .both x y => .tup [.text "both", .num x, .num y]
  | .unlike x y => .tup [.text "unlike", .num x, .num y]
  | .chosen c x y => .tup [.text "chosen", .num c, .num x, .num y]
  | .most x y z => .tup [.text "most", .num x, .num y, .num z]
def Gt.parts : Gt → List Int
  | .no => []
  | .bit _ => []
  | .both x y => [x, y]
  | .unlike x y => [x, y]
  | .chosen c x y => [c, x, y]
  | .most x y z => [x, y, z]
/-- the bit of a literal, the gates' bits being bs -/
def litv (bs : List Int) (x : Int) : Int := if x % 2 = 0 then bs.getD (x / 2).toNat 0 else 1 - bs.getD (x / 2).toNat 0
abbrev Bits := NK → Int
def Gt.val (env : Bits) (bs : List Int) : Gt → Int
  | .no => 0
  | .bit n => env n
  | .both x y => if litv bs x + litv bs y ≥ 2 then 1 else 0
  | .unlike x y => if litv bs x = litv bs y then 0 else 1
  | .chosen c x y => if litv bs c = 1 then litv bs x else litv bs y
  | .most x y z => if litv bs x + litv bs y + litv bs z ≥ 2 then 1 else 0
def bitsOf (env : Bits) (gs : List Gt) : List Int := gs.foldl (fun bs g => bs ++ [g.val env bs]) []
theorem bitsOf_snoc (env : Bits) (gs : List Gt) (g : Gt) : bitsOf env (gs ++ [g]) = bitsOf env gs ++ [g.val env (bitsOf env gs)] := by
  unfold bitsOf
  rw [List.foldl_append]
  rfl
theorem snoc_cases {α : Type} (xs : List α) : xs = [] ∨ ∃ ys y, xs = ys ++ [y] := by
  rcases xs.eq_nil_or_concat with h | ⟨ys, y, h⟩
  · exact .inl h
  · exact .inr ⟨ys, y, by rw [h, List.concat_eq_append]⟩
theorem snoc_rec {α : Type} {p : List α → Prop} (h0 : p []) (h1 : ∀ xs x, p xs → p (xs ++ [x])) : ∀ xs, p xs := by
  intro xs
  have : ∀ n (xs : List α), xs.length = n → p xs := by
    intro n
    induction n with
    | zero => intro xs h; rw [List.length_eq_zero_iff.mp h]; exact h0
    | succ n ih =>
      intro xs h
      rcases snoc_cases xs with e | ⟨ys, y, e⟩
      · rw [e]; exact h0
      · rw [e] at h ⊢
        exact h1 ys y (ih ys (by rw [List.length_append, List.length_singleton] at h; omega))
  exact this _ xs rfl
theorem bitsOf_len (env : Bits) (gs : List Gt) : (bitsOf env gs).length = gs.length := by
  induction gs using snoc_rec with
  | h0 => rfl
  | h1 xs x ih => rw [bitsOf_snoc, List.length_append, List.length_append, ih]; rfl
theorem bitsOf_pre (env : Bits) (gs more : List Gt) : ∃ t, bitsOf env (gs ++ more) = bitsOf env gs ++ t := by
  induction more using snoc_rec with
  | h0 => exact ⟨[], by rw [List.append_nil, List.append_nil]⟩
  | h1 xs x ih =>
    obtain ⟨t, ht⟩ := ih
    rw [← List.append_assoc, bitsOf_snoc, ht]
    exact ⟨t ++ [x.val env (bitsOf env gs ++ t)], by rw [List.append_assoc]⟩
def okL (gs : List Gt) (x : Int) : Prop := 0 ≤ x ∧ x < 2 * (gs.length : Int)
theorem okL.mono {gs gs' : List Gt} {x : Int} (h : okL gs x) (p : gs <+: gs') : okL gs' x := ⟨h.1, by have := p.length_le; have := h.2; omega⟩
theorem litv_pre {env : Bits} {gs gs' : List Gt} {x : Int} (h : okL gs x) (p : gs <+: gs') : litv (bitsOf env gs') x = litv (bitsOf env gs) x := by
  obtain ⟨more, rfl⟩ := p
  obtain ⟨t, e⟩ := bitsOf_pre env gs more
  have hl : (x / 2).toNat < (bitsOf env gs).length := by rw [bitsOf_len]; have := h.1; have := h.2; omega
  unfold litv
  rw [e, List.getD_eq_getElem?_getD, List.getElem?_append_left hl, ← List.getD_eq_getElem?_getD]
/-- gates in order -/
structure okGs (gs : List Gt) : Prop where
  first : gs[0]? = some .no
  parts : ∀ (i : Nat) (g : Gt), gs[i]? = some g → ∀ x ∈ g.parts, 0 ≤ x ∧ x < 2 * (i : Int)
theorem okGs.pos {gs : List Gt} (h : okGs gs) : 0 < gs.length := by
  have := h.first
  cases gs with
  | nil => cases this
  | cons g r => exact Nat.succ_pos _
theorem okGs.snoc {gs : List Gt} (h : okGs gs) {g : Gt} (hg : ∀ x ∈ g.parts, okL gs x) : okGs (gs ++ [g]) := by
  refine ⟨?_, fun i g' e x hx => ?_⟩
  · rw [List.getElem?_append_left h.pos]
    exact h.first
  · by_cases hi : i < gs.length
    · rw [List.getElem?_append_left hi] at e
      exact h.parts i g' e x hx
    · rw [List.getElem?_append_right (by omega)] at e
      have hi2 : i = gs.length := by
        have := (List.getElem?_eq_some_iff.mp e).1
        rw [List.length_singleton] at this
        omega
      rw [hi2, Nat.sub_self] at e
      cases e
      rw [hi2]
      exact hg x hx
def bitEnv (env : Bits) : Prop := ∀ n, env n = 0 ∨ env n = 1
theorem getD_app {α : Type} {xs : List α} {y d : α} {i : Nat} : (xs ++ [y]).getD i d = if i < xs.length then xs.getD i d else if i = xs.length then y else d := by
  rw [List.getD_eq_getElem?_getD, List.getD_eq_getElem?_getD]
  by_cases h : i < xs.length
  · rw [if_pos h, List.getElem?_append_left h]
  · rw [if_neg h, List.getElem?_append_right (by omega)]
    by_cases h2 : i = xs.length
    · rw [if_pos h2, h2, Nat.sub_self]; rfl
    · rw [if_neg h2, List.getElem?_eq_none (by rw [List.length_singleton]; omega)]; rfl
theorem litv_bit {bs : List Int} (h : ∀ b ∈ bs, b = 0 ∨ b = 1) (x : Int) : litv bs x = 0 ∨ litv bs x = 1 := by
  have k : bs.getD (x / 2).toNat 0 = 0 ∨ bs.getD (x / 2).toNat 0 = 1 := by
    rw [List.getD_eq_getElem?_getD]
    cases e : bs[(x / 2).toNat]? with
    | none => exact .inl rfl
    | some b => exact h b (List.mem_of_getElem? e)
  unfold litv
  split <;> omega
theorem bits_bit {env : Bits} (he : bitEnv env) (gs : List Gt) : ∀ b ∈ bitsOf env gs, b = 0 ∨ b = 1 := by
  induction gs using snoc_rec with
  | h0 => intro b hb; cases hb
  | h1 xs g ih =>
    intro b hb
    rw [bitsOf_snoc] at hb
    rcases List.mem_append.mp hb with hb | hb
    · exact ih b hb
    · rw [List.mem_singleton.mp hb]
      cases g with
      | no => exact .inl rfl
      | bit n => exact he n
      | both x y => show (if _ then (1 : Int) else 0) = 0 ∨ (if _ then (1 : Int) else 0) = 1; split <;> simp
      | unlike x y => show (if _ then (0 : Int) else 1) = 0 ∨ (if _ then (0 : Int) else 1) = 1; split <;> simp
      | chosen c x y =>
        show (if litv (bitsOf env xs) c = 1 then litv (bitsOf env xs) x else litv (bitsOf env xs) y) = 0 ∨ (if litv (bitsOf env xs) c = 1 then litv (bitsOf env xs) x else litv (bitsOf env xs) y) = 1
        split
        · exact litv_bit ih x
        · exact litv_bit ih y
      | most x y z => show (if _ then (1 : Int) else 0) = 0 ∨ (if _ then (1 : Int) else 0) = 1; split <;> simp
/-- the bit of gate i -/
theorem bits_at {env : Bits} : ∀ (gs : List Gt), okGs gs → ∀ (i : Nat) (g : Gt), gs[i]? = some g → (bitsOf env gs).getD i 0 = g.val env (bitsOf env gs) := by
  have vcongr : ∀ (g : Gt) (a b : List Int), (∀ x ∈ g.parts, litv a x = litv b x) → g.val env a = g.val env b := by
    intro g a b h
    cases g with
    | no => rfl
    | bit n => rfl
    | both x y => show (if litv a x + litv a y ≥ 2 then (1 : Int) else 0) = _; rw [h x (.head _), h y (.tail _ (.head _))]; rfl
    | unlike x y => show (if litv a x = litv a y then (0 : Int) else 1) = _; rw [h x (.head _), h y (.tail _ (.head _))]; rfl
    | chosen c x y => show (if litv a c = 1 then litv a x else litv a y) = _; rw [h c (.head _), h x (.tail _ (.head _)), h y (.tail _ (.tail _ (.head _)))]; rfl
    | most x y z => show (if litv a x + litv a y + litv a z ≥ 2 then (1 : Int) else 0) = _; rw [h x (.head _), h y (.tail _ (.head _)), h z (.tail _ (.tail _ (.head _)))]; rfl
  intro gs hk i g hg
  have hi := (List.getElem?_eq_some_iff.mp hg).1
  have e : gs = gs.take i ++ ([g] ++ gs.drop (i + 1)) := by
    have hgi : gs[i] = g := (List.getElem?_eq_some_iff.mp hg).2
    conv => lhs; rw [← List.take_append_drop i gs, List.drop_eq_getElem_cons hi, hgi]
    rfl
  have hpre : gs.take i <+: gs := List.take_prefix _ _
  have hlen : (gs.take i).length = i := by rw [List.length_take]; omega
  have hparts := hk.parts i g hg
  obtain ⟨t, ht⟩ := bitsOf_pre env (gs.take i ++ [g]) (gs.drop (i + 1))
  rw [List.append_assoc, ← e] at ht
  have h1 : (bitsOf env gs).getD i 0 = g.val env (bitsOf env (gs.take i)) := by
    rw [ht, bitsOf_snoc, List.getD_eq_getElem?_getD, List.getElem?_append_left (by rw [List.length_append, bitsOf_len, hlen, List.length_singleton]; omega), ← List.getD_eq_getElem?_getD, getD_app, bitsOf_len, hlen, if_neg (Nat.lt_irrefl i), if_pos rfl]
  rw [h1]
  refine vcongr g _ _ fun x hx => (litv_pre ⟨(hparts x hx).1, by rw [hlen]; exact (hparts x hx).2⟩ hpre).symm
/-! ### literals -/
theorem xor1 (x : Int) : Builtin.bitXor x 1 = if x % 2 = 0 then x + 1 else x - 1 := by
  rw [bitXor_and, bitAnd_m1]
  split <;> omega
theorem litv_xor1 {bs : List Int} {x : Int} (h0 : 0 ≤ x) : litv bs (Builtin.bitXor x 1) = 1 - litv bs x := by
  rw [xor1]
  unfold litv
  by_cases h : x % 2 = 0
  · rw [if_pos h, if_pos h, if_neg (by omega), show (x + 1) / 2 = x / 2 by omega]
  · rw [if_neg h, if_neg h, if_pos (by omega), show (x - 1) / 2 = x / 2 by omega]
    omega
theorem okL_xor1 {gs : List Gt} {x : Int} (h : okL gs x) : okL gs (Builtin.bitXor x 1) := by
  rw [xor1]
  have := h.1
  have := h.2
  unfold okL
  split <;> omega
theorem xor_t {x t : Int} (ht : t = 0 ∨ t = 1) : Builtin.bitXor x t = if t = 0 then x else Builtin.bitXor x 1 := by
  rcases ht with h | h <;> rw [h]
  · rw [bitXor_zero, if_pos rfl]
  · rw [if_neg (by decide)]
theorem litv_xort {bs : List Int} {x t : Int} (h0 : 0 ≤ x) (ht : t = 0 ∨ t = 1) : litv bs (Builtin.bitXor x t) = if t = 0 then litv bs x else 1 - litv bs x := by
  rw [xor_t ht]
  split
  · rfl
  · exact litv_xor1 h0
theorem okL_xort {gs : List Gt} {x t : Int} (h : okL gs x) (ht : t = 0 ∨ t = 1) : okL gs (Builtin.bitXor x t) := by
  rw [xor_t ht]
  split
  · exact h
  · exact okL_xor1 h
/-- the literal without its turn -/
theorem even_of (x : Int) : Builtin.bitXor x (Builtin.bitAnd x 1) = x - x % 2 := by
  rw [bitAnd_m1, bitXor_and]
  have h : x % 2 = 0 ∨ x % 2 = 1 := by omega
  rcases h with h | h <;> rw [h]
  · rw [bitAnd_zero]; omega
  · rw [bitAnd_m1]; omega
theorem turned_of (x y : Int) : Builtin.bitAnd (Builtin.bitXor x y) 1 = (x + y) % 2 := by
  rw [bitAnd_m1, bitXor_and]
  omega
theorem litv_even {bs : List Int} (x : Int) : litv bs (x - x % 2) = if x % 2 = 0 then litv bs x else 1 - litv bs x := by
  unfold litv
  by_cases h : x % 2 = 0
  · rw [if_pos h, if_pos h, if_pos (by omega), show x - x % 2 = x by omega]
  · rw [if_neg h, if_neg h, if_pos (by omega), show (x - x % 2) / 2 = x / 2 by omega]
    omega
theorem litv_no {env : Bits} {gs : List Gt} (h : okGs gs) : litv (bitsOf env gs) 0 = 0 := by
  show (if (0 : Int) % 2 = 0 then (bitsOf env gs).getD 0 0 else 1 - (bitsOf env gs).getD 0 0) = 0
  rw [if_pos (by decide), bits_at gs h 0 .no h.first]
  rfl
theorem litv_yes {env : Bits} {gs : List Gt} (h : okGs gs) : litv (bitsOf env gs) 1 = 1 := by
  show (if (1 : Int) % 2 = 0 then (bitsOf env gs).getD 0 0 else 1 - (bitsOf env gs).getD 0 0) = 1
  rw [if_neg (by decide), bits_at gs h 0 .no h.first]
  rfl
end My

set_option Elab.async false
set_option maxRecDepth 100000
set_option maxHeartbeats 4000000
set_option linter.all false
/-! Pools in the heap. -/
namespace My
open PySem PySem.Spec PyProof.Rows L2
/-! ### all but some things stays -/
def But (A : List Addr) (H H' : Hp) : Prop := ∀ b o, b ∉ A → H b = some o → H' b = some o
theorem But.refl (A : List Addr) (H : Hp) : But A H H := fun _ _ _ h => h
theorem But.trans {A : List Addr} {H H' H'' : Hp} (h : But A H H') (k : But A H' H'') : But A H H'' := fun b o n e => k b o n (h b o n e)
theorem But.wide {A B : List Addr} {H H' : Hp} (h : But A H H') (s : ∀ a ∈ A, a ∈ B) : But B H H' := fun b o n e => h b o (fun m => n (s b m)) e
theorem But.of_same {A : List Addr} {H H' : Hp} (h : Same H H') : But A H H' := fun b o _ e => h b o e
theorem But.of_hide {d : Addr} {H H' : Hp} (h : Same (hide d H) (hide d H')) : But [d] H H' := fun b o n e => hide_le _ _ (h b o (hide_in e fun z => n (by rw [z]; exact List.mem_singleton_self d)))
theorem But.to_hide {d : Addr} {H H' : Hp} (h : But [d] H H') : Same (hide d H) (hide d H') := fun b o e => by
  obtain ⟨h1, h2⟩ := hide_some e
  exact hide_in (h b o (fun m => h1 (List.mem_singleton.mp m)) h2) h1
theorem But.new {A : List Addr} {H : Hp} {p : Addr} (h : H p = none) (o : HO) : But A H (upd H p o) := .of_same (same_new h o)
theorem But.put {A : List Addr} {H : Hp} {p : Addr} (h : p ∈ A) (o : HO) : But A H (upd H p o) := fun b u n e => by
  rw [upd_ne fun z => n (by rw [z]; exact h)]
  exact e
theorem sqt_but {K : PySem.W.Frag} {A : List Addr} {H H' : Hp} (hA : ∀ a ∈ A, Mut (H a)) (hb : But A H H') {a : Addr} {xs : List V} (h : SqT K H a xs) : SqT K H' a xs := by
  rcases h with (h | ⟨o, h⟩) | h
  · refine .inl (.inl (hb a _ (fun m => ?_) h))
    have := hA a m
    rw [h] at this
    exact this
  · refine .inl (.inr ⟨o, hb a _ (fun m => ?_) h⟩)
    have := hA a m
    rw [h] at this
    exact this
  · exact .inr h
mutual
theorem dp_but {K : PySem.W.Frag} {A : List Addr} {H H' : Hp} (hA : ∀ a ∈ A, Mut (H a)) (hb : But A H H') : ∀ (d : PyData) {v : V}, noLst d = true → Dp K H v d → Dp K H' v d
  | .none, _, _, .non => .non
  | .bool _, _, _, .bl b => .bl b
  | .int _, _, _, .int i => .int i
  | .str _, _, _, .str x => .str x
  | .list ds, _, n, _ => by cases (show false = true from n)
  | .tuple ds, _, n, .tup h hs => .tup (sqt_but hA hb h) (dpa_but hA hb ds n hs)
  | .dict _, _, _, h => by cases h
theorem dpa_but {K : PySem.W.Frag} {A : List Addr} {H H' : Hp} (hA : ∀ a ∈ A, Mut (H a)) (hb : But A H H') : ∀ (ds : List PyData) {vs : List V}, noLsts ds = true → DpAll K H vs ds → DpAll K H' vs ds
  | [], _, _, .nil => .nil
  | d :: ds, _, n, .cons h hs => by
    have n' := Bool.and_eq_true_iff.mp (show (noLst d && noLsts ds) = true from n)
    exact .cons (dp_but hA hb d n'.1 h) (dpa_but hA hb ds n'.2 hs)
end
mutual
theorem nk_noLst : ∀ k : NK, noLst k.data = true
  | .none => rfl
  | .num _ => rfl
  | .text _ => rfl
  | .tup ks => nks_noLst ks
theorem nks_noLst : ∀ ks : List NK, noLsts (NestedKey.datas ks) = true
  | [] => rfl
  | k :: ks => by
    show (noLst k.data && noLsts (NestedKey.datas ks)) = true
    rw [nk_noLst k, nks_noLst ks]
    rfl
end
/-! ### the class, a pool -/
structure PlK (K : PySem.W.Frag) (C : Addr) : Prop where
  cls : L2.Cls K C
  g : L2.NoAttr K C "gates"
  l : L2.NoAttr K C "literals"
def plFs (G D : Addr) : List (Str × V) := putF "literals" (.ref D) (putF "gates" (.ref G) [])
theorem plFs_g (G D : Addr) : (plFs G D).lookup ("gates" : Str) = some (.ref G) := by
  unfold plFs
  rw [lookup_putF, if_neg (by decide +kernel), lookup_putF, if_pos rfl]
theorem plFs_l (G D : Addr) : (plFs G D).lookup ("literals" : Str) = some (.ref D) := by
  unfold plFs
  rw [lookup_putF, if_pos rfl]
theorem plFs_no (G D : Addr) {m : Str} (h1 : ¬ m = "literals") (h2 : ¬ m = "gates") : (plFs G D).lookup m = none := by
  unfold plFs
  rw [lookup_putF, if_neg h1, lookup_putF, if_neg h2]
  rfl
/-- the literals' rows from gate i on -/
def plRows : Nat → List Gt → List Addr → NRows
  | i, g :: gs, t :: ts => (g.nk, t, .int (2 * (i : Int))) :: plRows (i + 1) gs ts
  | _, _, _ => []
theorem plRows_snoc {g : Gt} {t : Addr} : ∀ {i : Nat} {gs : List Gt} {ts : List Addr}, gs.length = ts.length → plRows i (gs ++ [g]) (ts ++ [t]) = plRows i gs ts ++ [(g.nk, t, .int (2 * ((i + gs.length : Nat) : Int)))]
  | i, [], [], _ => rfl
  | i, g' :: gs, t' :: ts, h => by
    show (g'.nk, t', V.int (2 * (i : Int))) :: plRows (i + 1) (gs ++ [g]) (ts ++ [t]) = _
    rw [plRows_snoc (by simpa using h), show i + 1 + gs.length = i + (g' :: gs).length by simp; omega]
    rfl
theorem plRows_len : ∀ {i : Nat} {gs : List Gt} {ts : List Addr}, gs.length = ts.length → (plRows i gs ts).length = gs.length
  | i, [], [], _ => rfl
  | i, g' :: gs, t' :: ts, h => by
    show (plRows (i + 1) gs ts).length + 1 = gs.length + 1
    rw [plRows_len (by simpa using h)]
theorem plRows_mem {x : NRow} : ∀ {i : Nat} {gs : List Gt} {ts : List Addr}, x ∈ plRows i gs ts → ∃ (j : Nat) (g : Gt), gs[j]? = some g ∧ ts[j]? = some x.2.1 ∧ x.1 = g.nk ∧ x.2.2 = .int (2 * ((i + j : Nat) : Int))
  | i, [], _, h => by cases h
  | i, _ :: _, [], h => by cases h
  | i, g :: gs, t :: ts, h => by
    rcases List.mem_cons.mp (show x ∈ (g.nk, t, V.int (2 * (i : Int))) :: plRows (i + 1) gs ts from h) with e | h
    · rw [e]
      exact ⟨0, g, rfl, rfl, rfl, rfl⟩
    · obtain ⟨j, g', h1, h2, h3, h4⟩ := plRows_mem h
      exact ⟨j + 1, g', by rw [List.getElem?_cons_succ]; exact h1, by rw [List.getElem?_cons_succ]; exact h2, h3, by rw [h4, show i + 1 + j = i + (j + 1) by omega]⟩
theorem plRows_has {g : Gt} : ∀ {i j : Nat} {gs : List Gt} {ts : List Addr}, gs.length = ts.length → gs[j]? = some g → ∃ x ∈ plRows i gs ts, x.1 = g.nk
  | i, j, [], _, _, h => by simp at h
  | i, j, _ :: _, [], h, _ => by simp at h
  | i, 0, g' :: gs, t :: ts, h, e => by
    rw [List.getElem?_cons_zero] at e
    cases e
    exact ⟨_, .head _, rfl⟩
  | i, j + 1, g' :: gs, t :: ts, h, e => by
    rw [List.getElem?_cons_succ] at e
    obtain ⟨x, h1, h2⟩ := plRows_has (i := i + 1) (gs := gs) (ts := ts) (by simpa using h) e
    exact ⟨x, .tail _ h1, h2⟩
def drop1 (gs : List Gt) (ts : List Addr) : NRows := plRows 1 (gs.drop 1) (ts.drop 1)
theorem Gt.nk_inj : ∀ {a b : Gt}, a.nk = b.nk → a = b := by
  intro a b h
  cases a <;> cases b <;> simp only [Gt.nk, NestedKey.tup.injEq, List.cons.injEq, NestedKey.text.injEq, NestedKey.num.injEq, and_true, reduceCtorEq, and_false, false_and, true_and] at h <;> first
    | rfl
    | (exfalso; revert h; decide +kernel)
    | (exfalso; exact absurd h.1 (by decide +kernel))
    | (obtain ⟨rfl, rfl, rfl⟩ := h; rfl)
    | (obtain ⟨rfl, rfl⟩ := h; rfl)
    | (subst h; rfl)
structure PoolAt (P : Program) (w : World) (K : PySem.W.Frag) (H : Hp) (C p G D : Addr) (gs : List Gt) : Prop where
  cl : PlK K C
  ok : okGs gs
  nd : (gs.map Gt.nk).Nodup
  len : gs.length ≤ 100000
  nm : ∀ n, Gt.bit n ∈ gs → ∃ ks, n = NestedKey.tup ks
  at_ : ∃ (dx : Addr) (ts : List Addr), H p = some (.ins C dx (plFs G D)) ∧ H G = some (.lst (ts.map V.ref)) ∧ ts.length = gs.length ∧ (∀ (i : Nat) (g : Gt) (t : Addr), gs[i]? = some g → ts[i]? = some t → Dp K H (.ref t) g.nk.data ∧ g.nk.depth ≤ 8) ∧ (H D = some (dnO P w D (drop1 gs ts)) ∨ (drop1 gs ts = [] ∧ H D = some (.dK [])))
section
variable {P : Program} {w : World} {K : PySem.W.Frag} {H H' : Hp} {C p G D : Addr} {gs : List Gt}
theorem PoolAt.mut (A : PoolAt P w K H C p G D gs) : ∀ a ∈ [G, D], Mut (H a) := by
  obtain ⟨dx, ts, h1, h2, h3, h4, h5⟩ := A.at_
  intro a ha
  rcases List.mem_cons.mp ha with e | ha
  · rw [e, h2]; exact True.intro
  · rw [List.mem_singleton.mp ha]
    rcases h5 with e | ⟨_, e⟩ <;> rw [e] <;> exact True.intro
theorem PoolAt.dn (A : PoolAt P w K H C p G D gs) {dx : Addr} {ts : List Addr} (h3 : ts.length = gs.length) (h4 : ∀ (i : Nat) (g : Gt) (t : Addr), gs[i]? = some g → ts[i]? = some t → Dp K H (.ref t) g.nk.data ∧ g.nk.depth ≤ 8) (h5 : H D = some (dnO P w D (drop1 gs ts)) ∨ (drop1 gs ts = [] ∧ H D = some (.dK []))) : DN P w K H D (drop1 gs ts) := by
  refine ⟨h5, ?_, fun x hx => ?_⟩
  · unfold drop1
    rw [plRows_len (by rw [List.length_drop, List.length_drop, h3]), List.length_drop]
    have := A.len
    exact Nat.le_trans (by omega) (show 100000 ≤ sizeLine by decide)
  · obtain ⟨j, g, e1, e2, e3, e4⟩ := plRows_mem hx
    rw [List.getElem?_drop] at e1 e2
    rw [e3]
    exact h4 _ _ _ e1 e2
/-- a pool stays while other things change -/
theorem PoolAt.keep (A : PoolAt P w K H C p G D gs) {S : List Addr} (hS : ∀ a ∈ S, Mut (H a)) (hb : But S H H') (np : p ∉ S) (nG : G ∉ S) (nD : D ∉ S) : PoolAt P w K H' C p G D gs := by
  obtain ⟨dx, ts, h1, h2, h3, h4, h5⟩ := A.at_
  refine ⟨A.cl, A.ok, A.nd, A.len, A.nm, dx, ts, hb _ _ np h1, hb _ _ nG h2, h3, fun i g t e1 e2 => ?_, ?_⟩
  · obtain ⟨k1, k2⟩ := h4 i g t e1 e2
    exact ⟨dp_but hS hb _ (nk_noLst _) k1, k2⟩
  · rcases h5 with e | ⟨e0, e⟩
    · exact .inl (hb _ _ nD e)
    · exact .inr ⟨e0, hb _ _ nD e⟩
theorem PoolAt.same (A : PoolAt P w K H C p G D gs) (s : Same H H') : PoolAt P w K H' C p G D gs := A.keep (S := []) (fun _ h => nomatch h) (.of_same s) (fun h => nomatch h) (fun h => nomatch h) (fun h => nomatch h)
end
end My


set_option Elab.async false
set_option maxRecDepth 100000
set_option maxHeartbeats 4000000
set_option linter.all false
namespace My
open PySem L2
open C8 (pss_cut)
def top (i : Nat) : Stmt := PySem.Challenge.pw_inputways_k30_circuits_and_their_bits.main.body.getD i (.Pass ⟨0, 0, 0, 0⟩)
abbrev s__law_draw : Stmt := top 8
abbrev N__law_draw : List Str := ["script", "seed", "cell"]
theorem sc__law_draw : FnScope N__law_draw ["script"] (defScope s__law_draw) := ⟨rfl, rfl, rfl, by decide +kernel, rfl, by decide +kernel, by decide +kernel⟩
abbrev s__law_take : Stmt := top 9
abbrev N__law_take : List Str := ["draw", "many", "found"]
theorem sc__law_take : FnScope N__law_take ["draw", "many"] (defScope s__law_take) := ⟨rfl, rfl, rfl, by decide +kernel, rfl, by decide +kernel, by decide +kernel⟩
abbrev s_Pool___init__ : Stmt := inClass (top 4) 0
abbrev N_Pool___init__ : List Str := ["self"]
theorem sc_Pool___init__ : FnScope N_Pool___init__ ["self"] (defScope s_Pool___init__) := ⟨rfl, rfl, rfl, by decide +kernel, rfl, by decide +kernel, by decide +kernel⟩
abbrev s_Pool_bit : Stmt := inClass (top 4) 1
abbrev N_Pool_bit : List Str := ["self", "name"]
theorem sc_Pool_bit : FnScope N_Pool_bit ["self", "name"] (defScope s_Pool_bit) := ⟨rfl, rfl, rfl, by decide +kernel, rfl, by decide +kernel, by decide +kernel⟩
abbrev s_Pool_both : Stmt := inClass (top 4) 2
abbrev N_Pool_both : List Str := ["self", "x", "y"]
theorem sc_Pool_both : FnScope N_Pool_both ["self", "x", "y"] (defScope s_Pool_both) := ⟨rfl, rfl, rfl, by decide +kernel, rfl, by decide +kernel, by decide +kernel⟩
abbrev s_Pool_either : Stmt := inClass (top 4) 3
abbrev N_Pool_either : List Str := ["self", "x", "y"]
theorem sc_Pool_either : FnScope N_Pool_either ["self", "x", "y"] (defScope s_Pool_either) := ⟨rfl, rfl, rfl, by decide +kernel, rfl, by decide +kernel, by decide +kernel⟩
abbrev s_Pool_unlike : Stmt := inClass (top 4) 4
abbrev N_Pool_unlike : List Str := ["self", "x", "y", "turned"]
theorem sc_Pool_unlike : FnScope N_Pool_unlike ["self", "x", "y"] (defScope s_Pool_unlike) := ⟨rfl, rfl, rfl, by decide +kernel, rfl, by decide +kernel, by decide +kernel⟩
abbrev s_Pool_chosen : Stmt := inClass (top 4) 5
abbrev N_Pool_chosen : List Str := ["self", "c", "x", "y", "turned"]
theorem sc_Pool_chosen : FnScope N_Pool_chosen ["self", "c", "x", "y"] (defScope s_Pool_chosen) := ⟨rfl, rfl, rfl, by decide +kernel, rfl, by decide +kernel, by decide +kernel⟩
abbrev s_Pool_literal_of : Stmt := inClass (top 4) 12
abbrev N_Pool_literal_of : List Str := ["self", "gate"]
theorem sc_Pool_literal_of : FnScope N_Pool_literal_of ["self", "gate"] (defScope s_Pool_literal_of) := ⟨rfl, rfl, rfl, by decide +kernel, rfl, by decide +kernel, by decide +kernel⟩
abbrev s_Pool_value : Stmt := inClass (top 4) 13
abbrev N_Pool_value : List Str := ["self", "literal", "bits"]
theorem sc_Pool_value : FnScope N_Pool_value ["self", "literal", "bits"] (defScope s_Pool_value) := ⟨rfl, rfl, rfl, by decide +kernel, rfl, by decide +kernel, by decide +kernel⟩
abbrev s_Pool_values : Stmt := inClass (top 4) 14
abbrev N_Pool_values : List Str := ["self", "literals", "bits"]
theorem sc_Pool_values : FnScope N_Pool_values ["self", "literals", "bits"] (defScope s_Pool_values) := ⟨rfl, rfl, rfl, by decide +kernel, rfl, by decide +kernel, by decide +kernel⟩
abbrev s_Pool_computed : Stmt := inClass (top 4) 15
abbrev N_Pool_computed : List Str := ["self", "literals", "bits", "found", "k", "x"]
theorem sc_Pool_computed : FnScope N_Pool_computed ["self", "literals", "bits"] (defScope s_Pool_computed) := ⟨rfl, rfl, rfl, by decide +kernel, rfl, by decide +kernel, by decide +kernel⟩
abbrev s_Pool_cone : Stmt := inClass (top 4) 16
abbrev N_Pool_cone : List Str := ["self", "literals", "seen", "found", "todo", "k", "gate", "x"]
theorem sc_Pool_cone : FnScope N_Pool_cone ["self", "literals", "seen"] (defScope s_Pool_cone) := ⟨rfl, rfl, rfl, by decide +kernel, rfl, by decide +kernel, by decide +kernel⟩
abbrev s_both_gate : Stmt := top 5
abbrev N_both_gate : List Str := ["x", "y"]
theorem sc_both_gate : FnScope N_both_gate ["x", "y"] (defScope s_both_gate) := ⟨rfl, rfl, rfl, by decide +kernel, rfl, by decide +kernel, by decide +kernel⟩
abbrev s_gate_value : Stmt := top 6
abbrev N_gate_value : List Str := ["gate", "found", "bits", "kind", "parts", "x"]
theorem sc_gate_value : FnScope N_gate_value ["gate", "found", "bits"] (defScope s_gate_value) := ⟨rfl, rfl, rfl, by decide +kernel, rfl, by decide +kernel, by decide +kernel⟩
abbrev s__law_names : Stmt := top 10
abbrev N__law_names : List Str := []
theorem sc__law_names : FnScope N__law_names [] (defScope s__law_names) := ⟨rfl, rfl, rfl, by decide +kernel, rfl, by decide +kernel, by decide +kernel⟩
abbrev s__law_some : Stmt := top 11
abbrev N__law_some : List Str := ["draw", "rows", "k", "turn"]
theorem sc__law_some : FnScope N__law_some ["draw", "rows"] (defScope s__law_some) := ⟨rfl, rfl, rfl, by decide +kernel, rfl, by decide +kernel, by decide +kernel⟩
abbrev s__law_more : Stmt := top 12
abbrev N__law_more : List Str := ["draw", "pool", "rows", "many", "k", "what", "x", "y", "c", "name"]
theorem sc__law_more : FnScope N__law_more ["draw", "pool", "rows", "many"] (defScope s__law_more) := ⟨rfl, rfl, rfl, by decide +kernel, rfl, by decide +kernel, by decide +kernel⟩
abbrev s__law_values : Stmt := top 13
abbrev N__law_values : List Str := ["rows", "bits", "found", "literal", "made", "told", "due", "k", "turn"]
theorem sc__law_values : FnScope N__law_values ["rows", "bits"] (defScope s__law_values) := ⟨rfl, rfl, rfl, by decide +kernel, rfl, by decide +kernel, by decide +kernel⟩
abbrev s__law_right : Stmt := top 14
abbrev N__law_right : List Str := ["draw", "pool", "rows", "turn", "bits", "name", "due", "k", "row"]
theorem sc__law_right : FnScope N__law_right ["draw", "pool", "rows"] (defScope s__law_right) := ⟨rfl, rfl, rfl, by decide +kernel, rfl, by decide +kernel, by decide +kernel⟩
abbrev s_law : Stmt := top 15
abbrev N_law : List Str := ["script", "draw", "pool", "first", "rows", "literal", "made", "k", "name"]
theorem sc_law : FnScope N_law ["script"] (defScope s_law) := ⟨rfl, rfl, rfl, by decide +kernel, rfl, by decide +kernel, by decide +kernel⟩
/-- what the top binds: built-ins that are not shadowed -/
structure Txt (K : PySem.W.Frag) (mg : Str → Option Value) : Prop where
  m_abs : mg "abs" = none
  m_bool : mg "bool" = none
  m_int : mg "int" = none
  m_isinstance : mg "isinstance" = none
  m_len : mg "len" = none
  m_list : mg "list" = none
  m_max : mg "max" = none
  m_min : mg "min" = none
  m_range : mg "range" = none
  m_sorted : mg "sorted" = none
  m_sum : mg "sum" = none
section
variable {P : Program} {w : World} {K : PySem.W.Frag} {mg : Str → Option Value} {base : Heap} {f : Addr} {fd : FuncData}
theorem ok__law_take (T : Txt K mg) (D : Def K mg "_law_take" ["draw", "many"] s__law_take f fd) : Own P w K mg base "_law_take" ["draw", "many"] 1 spTake := by
  refine ⟨f, fd, D.mg, D.fn.kp, D.bd, D.fn.ok sc__law_take (fun vs H Q E h => ?_) (fun cdv A outer s H vs Q E hr h => ?_)⟩
  · obtain ⟨d, L, m, rfl, _⟩ := h
    rfl
  · obtain ⟨d, L, m, rfl, hm0, hm1, hD, q⟩ := h
    obtain ⟨ns, at_, left, seed, h1, h2, hdL, hpos, ha, hl, hs, hs2⟩ := hD
    refine ⟨_, (pss_cut (ps_if (pt_cmpR op_eq (pe_ix ix_list (pv 0) pe_int (fun _ _ => rfl)) pe_int (nomark _)) (pss_cons (ps_asg (pe_op op_add (pe_ix ix_list (pv 0) pe_int (fun _ _ => rfl)) pe_int) (pg_sub (pv 0) pe_int set_list))
      (pss_cut (ps_if (pt_cmpR op_lt (pe_ix ix_list (pv 0) pe_int (fun _ _ => rfl)) (pe_callB call_len_seq (by rfl) T.m_len (by decide +kernel) (pa_cons (pe_ix ix_list (pv 0) pe_int (fun _ _ => rfl)) pa_nil)) (nomark _)) (pss_one (ps_asg (pe_ix ix_list (pe_ix ix_list (pv 0) pe_int (fun _ _ => rfl)) (pe_ix ix_list (pv 0) pe_int (fun _ _ => rfl)) (fun _ _ => rfl)) (pg_sub (pv 0) pe_int set_list))) pss_nil)
      (pss_one (ps_if (pt_cmpR op_eq (pe_ix ix_list (pv 0) pe_int (fun _ _ => rfl)) pe_int (nomark _)) (pss_cons (ps_asg (pe_op op_mod (pe_callTy call_int1 (by rfl) T.m_int (by decide +kernel) (pa_cons (pe_op op_add (pe_op op_mul (pe_ix ix_list (pv 0) pe_int (fun _ _ => rfl)) pe_int) pe_int) pa_nil)) pe_int) (pg_sub (pv 0) pe_int set_list))
      (pss_one (ps_asg (pe_ix ix_list (pv 0) pe_int (fun _ _ => rfl)) (pg_sub (pv 0) pe_int set_list)))) pss_nil)))) pss_nil)
      (pss_cons (ps_set (i := 2) sc__law_take.nd rfl (Or.inl rfl) (pe_op op_mod (pe_callTy call_int1 (by rfl) T.m_int (by decide +kernel) (pa_cons (pe_ix ix_list (pv 0) pe_int (fun _ _ => rfl)) pa_nil)) (pv 1)))
      (pss_cons (ps_asg (pe_op op_fdiv (pe_ix ix_list (pv 0) pe_int (fun _ _ => rfl)) (pv 1)) (pg_sub (pv 0) pe_int set_list))
      (pss_one (ps_ret (pv 2)))))), ?_⟩
    refine ⟨fun σ' H' => σ' = [some (.ref d), some (.int m), none] ∧ DrawAt H' d L ∧ Same (hide d H) (hide d H'), ?_, ?_⟩
    · refine ⟨_, rfl, d, _, _, _, rfl, rfl, SqL.of h1, rfl, rfl, _, rfl, ite2 (fun c => ?_) (fun c => ?_)⟩
      · refine ⟨_, rfl, d, _, _, _, rfl, rfl, SqL.of h1, rfl, _, _, rfl, rfl, _, rfl, d, _, _, _, rfl, rfl, h1, rfl, ?_⟩
        refine ⟨fun σ' H' => σ' = [some (.ref d), some (.int m), none] ∧ (∃ l2, 0 ≤ l2 ∧ H' d = some (.lst [.ref L, .int (at_ + 1), .int l2, .int seed])) ∧ H' L = some (.lst (ns.map V.int)) ∧ Same (hide d H) (hide d H'), ?_, ?_⟩
        · have g1 : (upd H d (.lst ([.ref L, .int at_, .int left, .int seed].set 1 (.int (at_ + 1))))) L = some (.lst (ns.map V.int)) := by rw [upd_ne hdL.symm]; exact h2
          refine ⟨_, rfl, d, _, _, _, rfl, rfl, SqL.of upd_same, rfl, _, rfl, d, _, _, _, rfl, rfl, SqL.of upd_same, rfl, L, _, rfl, .inl (SqL.of g1), _, _, rfl, rfl, _, rfl, ite2 (fun e => ?_) (fun e => ?_)⟩
          · have e' : at_ + 1 < ((ns.map V.int).length : Int) := of_decide_eq_true e
            rw [List.length_map] at e'
            obtain ⟨z, hz, ez⟩ := atI_get (ns := ns) (k := at_ + 1) (by omega) e'
            refine ⟨_, rfl, d, _, _, _, rfl, rfl, SqL.of upd_same, rfl, _, rfl, d, _, _, _, rfl, rfl, SqL.of upd_same, rfl, L, _, _, _, rfl, rfl, SqL.of g1, ez, _, rfl, d, _, _, _, rfl, rfl, upd_same, rfl, ?_⟩
            exact ⟨rfl, ⟨z, hpos z hz, upd_same⟩, by rw [upd_ne hdL.symm]; exact g1, (hide_put _).trans (hide_put _)⟩
          · exact ⟨rfl, ⟨left, hl, upd_same⟩, g1, hide_put _⟩
        · rintro σ' H' ⟨rfl, ⟨l2, hl2, k1⟩, k2, kb⟩
          refine ⟨_, rfl, d, _, _, _, rfl, rfl, SqL.of k1, rfl, rfl, _, rfl, ite2 (fun e => ?_) (fun e => ?_)⟩
          · refine ⟨_, rfl, d, _, _, _, rfl, rfl, SqL.of k1, rfl, _, _, rfl, rfl, .inl ⟨by omega, by omega⟩, _, _, rfl, rfl, .inl ⟨_, rfl, _, _, rfl, rfl, (by show (0 : Int) < 2147483647; decide), _, rfl, d, _, _, _, rfl, rfl, k1, rfl, ?_⟩⟩
            refine ⟨_, rfl, d, _, _, _, rfl, rfl, SqL.of upd_same, rfl, _, rfl, d, _, _, _, rfl, rfl, upd_same, rfl, ?_⟩
            have p0 : 0 ≤ (seed * 48271 + 11) % 2147483647 := Int.emod_nonneg _ (by decide)
            have p1 : (seed * 48271 + 11) % 2147483647 < 2147483647 := Int.emod_lt_of_pos _ (by decide)
            exact ⟨rfl, ⟨ns, at_ + 1, _, _, upd_same, by rw [upd_ne hdL.symm, upd_ne hdL.symm]; exact k2, hdL, hpos, by omega, p0, p0, p1⟩, (kb.trans (hide_put _)).trans (hide_put _)⟩
          · exact ⟨rfl, ⟨ns, at_ + 1, l2, seed, k1, k2, hdL, hpos, by omega, hl2, hs, hs2⟩, kb⟩
      · exact ⟨rfl, ⟨ns, at_, left, seed, h1, h2, hdL, hpos, ha, hl, hs, hs2⟩, Same.refl _⟩
    · rintro σ' H' ⟨rfl, ⟨ns, at_, left, seed, h1, h2, hdL, hpos, ha, hl, hs, hs2⟩, kb⟩
      refine ⟨_, rfl, d, _, _, _, rfl, rfl, SqL.of h1, rfl, .inl ⟨_, rfl, _, rfl, _, _, rfl, rfl, hm0, ?_⟩⟩
      refine ⟨_, rfl, d, _, _, _, rfl, rfl, SqL.of h1, rfl, _, rfl, _, _, rfl, rfl, ⟨hm0, hm1⟩, _, rfl, d, _, _, _, rfl, rfl, h1, rfl, ?_⟩
      refine ⟨_, rfl, ?_⟩
      exact q _ _ (Int.emod_nonneg _ (by omega)) (Int.emod_lt_of_pos _ hm0) ⟨ns, at_, _, seed, upd_same, by rw [upd_ne hdL.symm]; exact h2, hdL, hpos, ha, Int.ediv_nonneg hl (by omega), hs, hs2⟩ (kb.trans (hide_put _))
theorem ok__law_draw (T : Txt K mg) (D : Def K mg "_law_draw" ["script"] s__law_draw f fd) : Own P w K mg base "_law_draw" ["script"] 1 (spDraw K) := by
  refine ⟨f, fd, D.mg, D.fn.kp, D.bd, D.fn.ok sc__law_draw (fun vs H Q E h => ?_) (fun cdv A outer s H vs Q E hr h => ?_)⟩
  · obtain ⟨a, ns, rfl, _⟩ := h
    rfl
  · obtain ⟨a, ns, rfl, hS, h63, q⟩ := h
    refine ⟨_, (pss_cons (ps_set (i := 1) sc__law_draw.nd rfl (Or.inl rfl) pe_int)
      (pss_cons (ps_for PassesOwn.never rfl (pi_list (pv 0)) (pg_name (i := 2) sc__law_draw.nd rfl (Or.inl rfl)) (pss_one (ps_set (i := 1) sc__law_draw.nd rfl (Or.inl rfl) (pe_op op_mod (pe_callTy call_int1 (by rfl) T.m_int (by decide +kernel) (pa_cons (pe_op op_add (pe_op op_add (pe_op op_mul (pv 1) pe_int) (pe_op op_mod (pe_callB call_abs (by rfl) T.m_abs (by decide +kernel) (pa_cons (pe_callTy call_int1 (by rfl) T.m_int (by decide +kernel) (pa_cons (pv 2) pa_nil)) pa_nil)) pe_int)) pe_int) pa_nil)) pe_int))))
      (pss_one (ps_ret (pe_lst (pa_cons (pe_lc (own := [("cell", 2)]) (g := gName 2) (tt := tYes) rfl sc__law_draw.nd (pi_list (pv 0)) (blkOk_by (N := N__law_draw) (sc := defScope s__law_draw) (own := [("cell", 2)]) (by decide +kernel)) (fun _ _ _ _ _ => (pg_name (i := 2) sc__law_draw.nd rfl (Or.inl rfl))) (fun _ _ _ _ _ => pts_nil) (fun _ _ _ _ _ => (pe_callB call_abs (by rfl) T.m_abs (by decide +kernel) (pa_cons (pe_callTy call_int1 (by rfl) T.m_int (by decide +kernel) (pa_cons (pv 2) pa_nil)) pa_nil)))) (pa_cons (pe_un un_neg pe_int) (pa_cons pe_int (pa_cons (pv 1) pa_nil))))))))), ?_⟩
    refine ⟨_, rfl, a, rfl, ⟨_, hS⟩, for_list (K := K) (a := a) (xs := ns.map V.int) (fun i σ H' => ∃ (sd : Int) (v : Option V), σ = [some (.ref a), some (.int sd), v] ∧ Same H H' ∧ 0 ≤ sd ∧ sd < 2147483647)
      ⟨7, none, rfl, Same.refl H, by decide, by decide⟩ (fun i σ H' _ ⟨_, _, _, e, _⟩ => e.seq hS) ?_ ?_⟩
    · rintro i y σ H' hi ⟨sd, v, rfl, e, s0, s1⟩
      obtain ⟨z, rfl, _⟩ := map_at hi
      refine ⟨_, rfl, _, _, rfl, rfl, .inl ⟨by omega, by omega⟩, _, rfl, .inl ⟨_, rfl, _, rfl, _, _, rfl, rfl, (by show (0 : Int) < 65521; decide), _, _, rfl, rfl, _, _, rfl, rfl, .inl ⟨_, rfl, _, _, rfl, rfl, (by show (0 : Int) < 2147483647; decide), ?_⟩⟩⟩
      exact ⟨_, _, rfl, e, Int.emod_nonneg _ (by decide), Int.emod_lt_of_pos _ (by decide)⟩
    · rintro σ H' ⟨sd, v, rfl, e, s0, s1⟩
      refine ⟨_, rfl, a, rfl, ⟨_, e.seq hS⟩, fun D hD => lc_list (K := K) (a := a) (xs := ns.map V.int) (fun i H2 => ∃ ms : List Int, H2 D = some (.lst (ms.map V.int)) ∧ ms.length = i ∧ (∀ z, z ∈ ms → 0 ≤ z) ∧ (∀ b o, H' b = some o → H2 b = some o) ∧ i ≤ ns.length)
        ⟨[], upd_same, rfl, (fun z hz => by cases hz), same_new hD _, Nat.zero_le _⟩ (fun i H2 _ ⟨_, _, _, _, s, _⟩ => Same.seq s (e.seq hS)) ?_ ?_⟩
      · rintro i y H2 hi ⟨ms, hm, hml, hm0, s, _⟩
        obtain ⟨z, rfl, hz⟩ := map_at hi
        have hi' : i < ns.length := (List.getElem?_eq_some_iff.mp hz).1
        refine ⟨rfl, yes2 ?_⟩
        refine ⟨_, rfl, .inl ⟨_, rfl, _, rfl, _, hm, by rw [List.length_map]; exact small1000 (by omega), ms ++ [if z < 0 then -z else z], ?_, by rw [List.length_append, hml]; rfl, ?_, ?_, hi'⟩⟩
        · rw [upd_same, List.map_append]
          all_goals rfl
        · intro u hu
          rcases List.mem_append.mp hu with hu | hu
          · exact hm0 u hu
          · rw [List.mem_singleton] at hu
            rw [hu]
            split <;> omega
        · intro b o hb
          rw [upd_ne (ne_of_none hb hD)]
          exact s b o hb
      · rintro H2 ⟨ms, hm, hml, hm0, s, _⟩
        refine ⟨_, rfl, _, rfl, by show 4 ≤ sizeLine; decide, fun l hl => ?_⟩
        have nDl : D ≠ l := ne_of_none hm hl
        refine q l D _ (Same.free (e.trans s) hl) (Same.free e hD) ((e.trans s).trans (same_new hl _)) ⟨ms, -1, 0, sd, upd_same, by rw [upd_ne nDl]; exact hm, nDl.symm, hm0, by omega, by omega, s0, s1⟩
end
end My

set_option linter.all false
namespace My
open PySem L2
theorem room65 {A : Around} {k : Nat} (hr : Room k A) : A.units + 65 < cLine := by have := hr.un; omega
end My


set_option Elab.async false
set_option maxRecDepth 100000
set_option maxHeartbeats 4000000
set_option linter.all false
namespace My
open PySem L2
open C8 (pss_cut)
/-- a method of the text -/
structure DefM (K : PySem.W.Frag) (C : Addr) (x qx : Str) (ps : List Str) (st : Stmt) (f : Addr) (fd : FuncData) : Prop where
  fn : Fun K x qx st f fd
  bd : Binds K fd ps []
  me : Meth K C x f
def OwnM (P : Program) (w : World) (K : PySem.W.Frag) (mg : Str → Option Value) (base : Heap) (C : Addr) (x : Str) (ps : List Str) (k : Nat) (sp : Sp) : Prop :=
  ∃ (f : Addr) (fd : FuncData), Meth K C x f ∧ Binds K fd ps [] ∧ FnOk P w K mg base CX0 k f fd ps sp
def spMade (P : Program) (w : World) (K : PySem.W.Frag) (C : Addr) : Sp := fun vs H Q _ => ∃ (p G D t : Addr) (gs : List Gt) (g : Gt), vs = [.ref p, .ref t] ∧ PoolAt P w K H C p G D gs ∧ Dp K H (.ref t) g.nk.data ∧ g.nk.depth ≤ 8 ∧ g ≠ .no ∧ (∀ n, g = .bit n → ∃ ks, n = NestedKey.tup ks) ∧ (∀ x ∈ g.parts, okL gs x) ∧ gs.length < 100000 ∧
  ∀ H' gs' (j : Nat), PoolAt P w K H' C p G D gs' → But [G, D] H H' → gs <+: gs' → gs'.length ≤ gs.length + 1 → gs'[j]? = some g → Q (.int (2 * (j : Int))) H'
section
variable {P : Program} {w : World} {K : PySem.W.Frag} {mg : Str → Option Value} {base : Heap} {f C : Addr} {fd : FuncData}
theorem valN_app {xs : NRows} {k : NK} {b : Addr} {v : V} (h : valN xs k = none) : valN (xs ++ [(k, b, v)]) k = some v := by
  unfold valN at *
  rw [List.find?_append, Option.map_eq_none_iff.mp h]
  rw [List.find?_cons_of_pos (by simp)]
  rfl
theorem valN_some {xs : NRows} {k : NK} {v : V} (h : valN xs k = some v) : ∃ x ∈ xs, x.1 = k ∧ x.2.2 = v := by
  unfold valN at h
  obtain ⟨x, h1, h2⟩ := Option.map_eq_some_iff.mp h
  exact ⟨x, List.mem_of_find?_eq_some h1, of_decide_eq_true (List.find?_some (p := fun (x : NRow) => decide (x.1 = k)) h1), h2⟩
theorem valN_none {xs : NRows} {k : NK} (h : valN xs k = none) : ∀ x ∈ xs, x.1 ≠ k := by
  unfold valN at h
  intro x hx e
  have := List.find?_eq_none.mp (Option.map_eq_none_iff.mp h) x hx
  exact this (decide_eq_true e)
theorem ok_literal_of (T : Txt K mg) (PK : PlK K C) (D : DefM K C "literal_of" "Pool.literal_of" ["self", "gate"] s_Pool_literal_of f fd) : OwnM P w K mg base C "literal_of" ["self", "gate"] 1 (spMade P w K C) := by
  refine ⟨f, fd, D.me, D.bd, D.fn.ok sc_Pool_literal_of (fun vs H Q E h => ?_) (fun cdv A outer s H vs Q E hr h => ?_)⟩
  · obtain ⟨p, G, D', t, gs, g, rfl, _⟩ := h
    rfl
  · obtain ⟨p, G, D', t, gs, g, rfl, A0, ht, h8, hno, hnm, hpa, hl, q⟩ := h
    obtain ⟨dx, ts, h1, h2, h3, h4, h5⟩ := A0.at_
    have DN0 := A0.dn (dx := dx) h3 h4 h5
    refine ⟨_, (pss_cut (ps_if (pt_cmpR (op_notinN (room65 hr)) (pv 1) (pe_fld (pv 0) (by rfl)) (by rfl)) (pss_cons (ps_asg (pe_op op_mul pe_int (pe_callB call_len_seq (by rfl) T.m_len (by decide +kernel) (pa_cons (pe_fld (pv 0) (by rfl)) pa_nil))) (pg_sub (pe_fld (pv 0) (by rfl)) (pv 1) (set_N (room65 hr))))
      (pss_one (ps_expr (pe_bm PySem.F.plainAttrs_list PySem.F.slot_list_append PySem.F.type_list_append mt_append (pe_fld (pv 0) (by rfl)) (pa_cons (pv 1) pa_nil))))) pss_nil)
      (pss_one (ps_ret (pe_ix (ix_N (room65 hr)) (pe_fld (pv 0) (by rfl)) (pv 1) (fun _ _ => rfl))))), ?_⟩
    refine ⟨fun σ' H' => ∃ (gs' : List Gt) (ts' : List Addr) (j : Nat), σ' = [some (.ref p), some (.ref t)] ∧ PoolAt P w K H' C p G D' gs' ∧ But [G, D'] H H' ∧ gs <+: gs' ∧ gs'.length ≤ gs.length + 1 ∧ gs'[j]? = some g ∧ H' p = some (.ins C dx (plFs G D')) ∧ DN P w K H' D' (drop1 gs' ts') ∧ valN (drop1 gs' ts') g.nk = some (.int (2 * (j : Int))), ?_, ?_⟩
    · refine ⟨_, rfl, _, rfl, p, C, dx, _, _, rfl, h1, PK.cls, PK.l, plFs_l _ _, t, g.nk, D', _, rfl, rfl, ht, h8, DN0, _, rfl, ?_⟩
      cases hv : valN (drop1 gs ts) g.nk with
      | some v =>
        refine iteF ?_
        obtain ⟨x, hx, e1, e2⟩ := valN_some hv
        obtain ⟨j, g', k1, k2, k3, k4⟩ := plRows_mem hx
        have eg : g' = g := Gt.nk_inj (k3.symm.trans e1)
        rw [List.getElem?_drop] at k1
        rw [eg] at k1
        refine ⟨gs, ts, 1 + j, rfl, A0, .refl _ _, List.prefix_refl _, Nat.le_succ _, k1, h1, DN0, ?_⟩
        rw [hv, ← e2, k4]
      | none =>
        refine iteT ?_
        have nDp : p ≠ D' := by
          rcases h5 with e | ⟨_, e⟩ <;> exact ne_of h1 e (by intro z; cases z)
        have nDG : G ≠ D' := by
          rcases h5 with e | ⟨_, e⟩ <;> exact ne_of h2 e (by intro z; cases z)
        have npG : p ≠ G := ne_of h1 h2 (by intro z; cases z)
        have hlen : (ts.map V.ref).length = gs.length := by rw [List.length_map, h3]
        have hz : (drop1 gs ts).length < sizeLine := by
          unfold drop1
          rw [plRows_len (by rw [List.length_drop, List.length_drop, h3]), List.length_drop]
          exact Nat.lt_of_lt_of_le (by omega) (show 100000 ≤ sizeLine by decide)
        refine ⟨_, rfl, p, C, dx, _, _, rfl, h1, PK.cls, PK.g, plFs_g _ _, G, _, rfl, .inl (SqL.of h2), _, _, rfl, rfl, .inl ⟨by omega, by omega⟩, ?_⟩
        refine ⟨_, rfl, p, C, dx, _, _, rfl, h1, PK.cls, PK.l, plFs_l _ _, _, rfl, t, g.nk, D', _, rfl, rfl, ht, h8, DN0, hz, hv, ?_⟩
        refine ⟨_, rfl, p, C, dx, _, _, rfl, (by rw [upd_ne nDp]; exact h1), PK.cls, PK.g, plFs_g _ _, .inl ⟨rfl, _, SqL.of (by rw [upd_ne nDG]; exact h2)⟩, _, rfl, G, _, _, rfl, rfl, (by rw [upd_ne nDG]; exact h2), by rw [hlen]; exact Nat.lt_of_lt_of_le hl (by decide), ?_⟩
        have hb : But [G, D'] H (upd (upd H D' (dnO P w D' (drop1 gs ts ++ [(g.nk, t, .int (2 * (((ts.map V.ref).length : Nat) : Int)))]))) G (.lst (ts.map V.ref ++ [.ref t]))) := (But.put (.tail _ (.head _)) _).trans (But.put (.head _) _)
        have ep : (upd (upd H D' (dnO P w D' (drop1 gs ts ++ [(g.nk, t, .int (2 * (((ts.map V.ref).length : Nat) : Int)))]))) G (.lst (ts.map V.ref ++ [.ref t]))) p = some (.ins C dx (plFs G D')) := by rw [upd_ne npG, upd_ne nDp]; exact h1
        have pos := A0.ok.pos
        have er : drop1 (gs ++ [g]) (ts ++ [t]) = drop1 gs ts ++ [(g.nk, t, .int (2 * (((ts.map V.ref).length : Nat) : Int)))] := by
          unfold drop1
          rw [List.drop_append_of_le_length (by omega), List.drop_append_of_le_length (by omega), plRows_snoc (by rw [List.length_drop, List.length_drop, h3]), List.length_drop, hlen, show 1 + (gs.length - 1) = gs.length by omega]
        have h4' : ∀ (i : Nat) (g' : Gt) (t' : Addr), (gs ++ [g])[i]? = some g' → (ts ++ [t])[i]? = some t' → Dp K (upd (upd H D' (dnO P w D' (drop1 gs ts ++ [(g.nk, t, .int (2 * (((ts.map V.ref).length : Nat) : Int)))]))) G (.lst (ts.map V.ref ++ [.ref t]))) (.ref t') g'.nk.data ∧ g'.nk.depth ≤ 8 := by
          intro i g' t' e1 e2
          by_cases hi : i < gs.length
          · rw [List.getElem?_append_left hi] at e1
            rw [List.getElem?_append_left (by omega)] at e2
            obtain ⟨k1, k2⟩ := h4 i g' t' e1 e2
            exact ⟨dp_but A0.mut hb _ (nk_noLst _) k1, k2⟩
          · have hi2 : i = gs.length := by
              have := (List.getElem?_eq_some_iff.mp e1).1
              rw [List.length_append, List.length_singleton] at this
              omega
            rw [hi2, List.getElem?_append_right (Nat.le_refl _), Nat.sub_self] at e1
            rw [hi2, ← h3, List.getElem?_append_right (Nat.le_refl _), Nat.sub_self] at e2
            cases e1
            cases e2
            exact ⟨dp_but A0.mut hb _ (nk_noLst _) ht, h8⟩
        have h5' : (upd (upd H D' (dnO P w D' (drop1 gs ts ++ [(g.nk, t, .int (2 * (((ts.map V.ref).length : Nat) : Int)))]))) G (.lst (ts.map V.ref ++ [.ref t]))) D' = some (dnO P w D' (drop1 (gs ++ [g]) (ts ++ [t]))) := by rw [upd_ne nDG.symm, upd_same, er]
        have A1 : PoolAt P w K (upd (upd H D' (dnO P w D' (drop1 gs ts ++ [(g.nk, t, .int (2 * (((ts.map V.ref).length : Nat) : Int)))]))) G (.lst (ts.map V.ref ++ [.ref t]))) C p G D' (gs ++ [g]) := by
          refine ⟨PK, A0.ok.snoc hpa, ?_, by rw [List.length_append, List.length_singleton]; omega, (fun n hn => (List.mem_append.mp hn).elim (fun h => A0.nm n h) fun h => hnm n (List.mem_singleton.mp h).symm), dx, ts ++ [t], ep, by rw [upd_same, List.map_append]; rfl, by rw [List.length_append, List.length_append, h3]; rfl, h4', .inl h5'⟩
          rw [List.map_append, List.nodup_append]
          refine ⟨A0.nd, (by simp), fun k hk k' hk' e => ?_⟩
          rw [List.mem_singleton.mp hk'] at e
          obtain ⟨g2, hg2, rfl⟩ := List.mem_map.mp hk
          have eg := Gt.nk_inj e
          rw [eg] at hg2
          obtain ⟨i, hi⟩ := List.getElem?_of_mem hg2
          cases i with
          | zero =>
            rw [A0.ok.first] at hi
            cases hi
            exact hno rfl
          | succ i =>
            obtain ⟨x, hx, ex⟩ := plRows_has (g := g) (i := 1) (j := i) (gs := gs.drop 1) (ts := ts.drop 1) (by rw [List.length_drop, List.length_drop, h3]) (by rw [List.getElem?_drop, Nat.add_comm]; exact hi)
            exact valN_none hv x hx ex
        refine ⟨gs ++ [g], ts ++ [t], gs.length, rfl, A1, hb, List.prefix_append _ _, by rw [List.length_append]; exact Nat.le_refl _, by rw [List.getElem?_append_right (Nat.le_refl _), Nat.sub_self]; rfl, ep, A1.dn (dx := dx) (by rw [List.length_append, List.length_append, h3]; rfl) h4' (.inl h5'), ?_⟩
        rw [er, valN_app hv, hlen]
    · rintro σ' H' ⟨gs', ts', j, rfl, A, hb, hp, hl', hj, h1', DN1, hv⟩
      exact ⟨_, rfl, p, C, dx, _, _, rfl, h1', PK.cls, PK.l, plFs_l _ _, _, rfl, t, g.nk, D', _, _, rfl, rfl, dp_but A0.mut hb _ (nk_noLst _) ht, h8, DN1, hv, q H' gs' j A hb hp hl' hj⟩
end
end My

set_option Elab.async false
set_option maxRecDepth 100000
set_option maxHeartbeats 4000000
set_option linter.all false
/-! Plain values as data: what asks them. -/
namespace My
open PySem PySem.Spec PyProof.Rows L2
mutual
/-- texts are not long -/
def short : PyData → Bool
  | .str x => decide (x.length ≤ 1000)
  | .list ds => decide (ds.length ≤ 1000) && shorts ds
  | .tuple ds => decide (ds.length ≤ 1000) && shorts ds
  | _ => true
def shorts : List PyData → Bool
  | [] => true
  | d :: ds => short d && shorts ds
end
theorem shorts_of : ∀ {ds : List PyData}, shorts ds = true → ∀ d ∈ ds, short d = true
  | x :: xs, h, d, hm => by
    have h' := Bool.and_eq_true_iff.mp (show (short x && shorts xs) = true from h)
    rcases List.mem_cons.mp hm with e | hm
    · rw [e]; exact h'.1
    · exact shorts_of h'.2 d hm
def okD (d : PyData) : Prop := d.canLay0 = true ∧ d.depth ≤ 60 ∧ short d = true
theorem okD.sh {d : PyData} (h : okD d) : SeqAt.shaped d = true := by
  show (d.canLay0 && decide (d.depth ≤ 64)) = true
  rw [h.1, decide_eq_true (by have := h.2.1; omega)] <;> rfl
theorem okAll_of : ∀ {ds : List PyData} {n : Nat}, PyData.canLayAll0 ds = true → PyData.depthAll ds ≤ n → ∀ d ∈ ds, d.canLay0 = true ∧ d.depth ≤ n
  | [], _, _, _, d, h => by cases h
  | x :: xs, n, h, hd, d, hm => by
    simp only [PyData.canLayAll0, Bool.and_eq_true] at h
    simp only [PyData.depthAll] at hd
    rcases List.mem_cons.mp hm with e | hm
    · rw [e]; exact ⟨h.1, by omega⟩
    · exact okAll_of h.2 (by omega) d hm
theorem okD_tlen {ds : List PyData} (h : okD (.tuple ds)) : ds.length ≤ 1000 := of_decide_eq_true (Bool.and_eq_true_iff.mp (show (decide (ds.length ≤ 1000) && shorts ds) = true from h.2.2)).1
theorem okD_tup {ds : List PyData} (h : okD (.tuple ds)) : ∀ d ∈ ds, okD d := fun d hd => by
  obtain ⟨h1, h2, h3⟩ := h
  have h3 := (Bool.and_eq_true_iff.mp (show (decide (ds.length ≤ 1000) && shorts ds) = true from h3)).2
  simp only [PyData.canLay0] at h1
  simp only [PyData.depth] at h2
  have := okAll_of (n := 59) h1 (by omega) d hd
  exact ⟨this.1, by omega, shorts_of h3 d hd⟩
theorem okD_lst {ds : List PyData} (h : okD (.list ds)) : ∀ d ∈ ds, okD d := fun d hd => by
  obtain ⟨h1, h2, h3⟩ := h
  have h3 := (Bool.and_eq_true_iff.mp (show (decide (ds.length ≤ 1000) && shorts ds) = true from h3)).2
  simp only [PyData.canLay0] at h1
  simp only [PyData.depth] at h2
  have := okAll_of (n := 59) h1 (by omega) d hd
  exact ⟨this.1, by omega, shorts_of h3 d hd⟩
theorem okD_int (i : Int) : okD (.int i) := ⟨rfl, by simp [PyData.depth], rfl⟩
theorem okD_nil : okD (.tuple []) := ⟨rfl, by decide, rfl⟩
theorem okD_nilL : okD (.list []) := ⟨rfl, by decide, rfl⟩
/-! isinstance -/
def tyN : PyData → String
  | .none => "NoneType"
  | .bool _ => "bool"
  | .int _ => "int"
  | .str _ => "str"
  | .list _ => "list"
  | .tuple _ => "tuple"
  | .dict _ => "dict"
theorem ty_dp {K : PySem.W.Frag} {H : Hp} {v : V} {d : PyData} (h : Dp K H v d) : TyX K H v (.type (tyN d)) := by
  cases h with
  | non => exact .base .non
  | bl b => exact .base (.bl b)
  | int i => exact .base (.int i)
  | str x => exact .base (.str x)
  | lst hs ha =>
    rcases hs with (h | ⟨o, h⟩) | ⟨o, its, n, hk, hc, hd, hs, hz, r⟩
    · exact .base (.lst h)
    · exact .base (.frz h)
    · exact .kList hk hc
  | tup hs ha =>
    rcases hs with (h | ⟨o, h⟩) | ⟨o, its, n, hk, hc, hs, hz, r⟩
    · exact .base (.tup h)
    · exact .fTuple h
    · exact .kTuple hk hc
def isI : PyData → Bool
  | .int _ => true
  | .bool _ => true
  | _ => false
def isB : PyData → Bool
  | .bool _ => true
  | _ => false
def isS : PyData → Bool
  | .str _ => true
  | _ => false
def isT : PyData → Bool
  | .tuple _ => true
  | _ => false
def isL : PyData → Bool
  | .list _ => true
  | _ => false
theorem kit_I : ∀ d : PyData, kitB (tyN d) "int" = some (isI d)
  | .none => (by decide +kernel : kitB "NoneType" "int" = some false)
  | .bool _ => (by decide +kernel : kitB "bool" "int" = some true)
  | .int _ => (by decide +kernel : kitB "int" "int" = some true)
  | .str _ => (by decide +kernel : kitB "str" "int" = some false)
  | .list _ => (by decide +kernel : kitB "list" "int" = some false)
  | .tuple _ => (by decide +kernel : kitB "tuple" "int" = some false)
  | .dict _ => (by decide +kernel : kitB "dict" "int" = some false)
theorem kit_B : ∀ d : PyData, kitB (tyN d) "bool" = some (isB d)
  | .none => (by decide +kernel : kitB "NoneType" "bool" = some false)
  | .bool _ => (by decide +kernel : kitB "bool" "bool" = some true)
  | .int _ => (by decide +kernel : kitB "int" "bool" = some false)
  | .str _ => (by decide +kernel : kitB "str" "bool" = some false)
  | .list _ => (by decide +kernel : kitB "list" "bool" = some false)
  | .tuple _ => (by decide +kernel : kitB "tuple" "bool" = some false)
  | .dict _ => (by decide +kernel : kitB "dict" "bool" = some false)
theorem kit_S : ∀ d : PyData, kitB (tyN d) "str" = some (isS d)
  | .none => (by decide +kernel : kitB "NoneType" "str" = some false)
  | .bool _ => (by decide +kernel : kitB "bool" "str" = some false)
  | .int _ => (by decide +kernel : kitB "int" "str" = some false)
  | .str _ => (by decide +kernel : kitB "str" "str" = some true)
  | .list _ => (by decide +kernel : kitB "list" "str" = some false)
  | .tuple _ => (by decide +kernel : kitB "tuple" "str" = some false)
  | .dict _ => (by decide +kernel : kitB "dict" "str" = some false)
theorem kit_T : ∀ d : PyData, kitB (tyN d) "tuple" = some (isT d)
  | .none => (by decide +kernel : kitB "NoneType" "tuple" = some false)
  | .bool _ => (by decide +kernel : kitB "bool" "tuple" = some false)
  | .int _ => (by decide +kernel : kitB "int" "tuple" = some false)
  | .str _ => (by decide +kernel : kitB "str" "tuple" = some false)
  | .list _ => (by decide +kernel : kitB "list" "tuple" = some false)
  | .tuple _ => (by decide +kernel : kitB "tuple" "tuple" = some true)
  | .dict _ => (by decide +kernel : kitB "dict" "tuple" = some false)
theorem kit_L : ∀ d : PyData, kitB (tyN d) "list" = some (isL d)
  | .none => (by decide +kernel : kitB "NoneType" "list" = some false)
  | .bool _ => (by decide +kernel : kitB "bool" "list" = some false)
  | .int _ => (by decide +kernel : kitB "int" "list" = some false)
  | .str _ => (by decide +kernel : kitB "str" "list" = some false)
  | .list _ => (by decide +kernel : kitB "list" "list" = some true)
  | .tuple _ => (by decide +kernel : kitB "tuple" "list" = some false)
  | .dict _ => (by decide +kernel : kitB "dict" "list" = some false)
/-- isinstance(x, T), x data, T a built-in type -/
def rIsiD (K : PySem.W.Frag) : List V → Hp → VK → Prop := fun xs H Q => ∃ (v : V) (d : PyData) (T : String) (b : Bool), xs = [v, .ty T] ∧ Dp K H v d ∧ kitB (tyN d) T = some b ∧ Q (.bl b) H
section
variable {X : Cx}
theorem cr_isiD : CallR X (.builtin "isinstance") (rIsiD X.K) := by
  intro pins s σ H xs us Q I r h
  obtain ⟨v, d, T, b, rfl, hd, hk, q⟩ := h
  exact call_isi pins s σ H _ us Q I r ⟨v, .ty T, .type (tyN d), .type T, b, rfl, .ty T, ty_dp hd, kit_ty hk, q⟩
theorem cr_isiDK {K : PySem.W.Frag} (h : X.K = K) : CallR X (.builtin "isinstance") (rIsiD K) := h ▸ cr_isiD
/-! in: lists and tuples of data -/
def rInDD (K : PySem.W.Frag) (neg : Bool) : R2 := fun x y H Q => ∃ (d : PyData) (ds : List PyData), Dp K H x d ∧ (Dp K H y (.list ds) ∨ Dp K H y (.tuple ds)) ∧ okD d ∧ okD (.list ds) ∧ Q (.bl (if neg then !ds.any fun z => PyData.eqv z d else ds.any fun z => PyData.eqv z d)) H
theorem room_in2 {A : Around} {d : PyData} {ds : List PyData} (hd : okD d) (hu : A.units + 65 < cLine) : A.units + 1 + min (PyData.depthAll ds) d.depth < cLine := by
  have h1 := hd.2.1
  have h2 : min (PyData.depthAll ds) d.depth ≤ d.depth := Nat.min_le_right _ _
  omega
theorem op_inDD (hu : X.A.units + 65 < cLine) : OpR X (compareOp .In) (rInDD X.K false) := by
  intro pins s σ H x y v u Q I rx ry h
  obtain ⟨d, ds, hd, he, sd, se, q⟩ := h
  obtain ⟨as, r1⟩ := Dp.reads I d x v hd rx
  have lay : PyData.canLayAll0 ds = true := by have := se.1; simpa only [PyData.canLay0] using this
  rcases he with he | he
  · obtain ⟨bs, r2⟩ := Dp.reads I (.list ds) y u he ry
    exact SeqAt.in_list_reads r2 r1 lay sd.1 (room_in2 sd hu) ⟨.bl _, H, I, rfl, q⟩
  · obtain ⟨bs, r2⟩ := Dp.reads I (.tuple ds) y u he ry
    exact SeqAt.in_tuple_reads r2 r1 lay sd.1 (room_in2 sd hu) ⟨.bl _, H, I, rfl, q⟩
theorem op_notInDD (hu : X.A.units + 65 < cLine) : OpR X (compareOp .NotIn) (rInDD X.K true) := by
  intro pins s σ H x y v u Q I rx ry h
  obtain ⟨d, ds, hd, he, sd, se, q⟩ := h
  obtain ⟨as, r1⟩ := Dp.reads I d x v hd rx
  have lay : PyData.canLayAll0 ds = true := by have := se.1; simpa only [PyData.canLay0] using this
  rcases he with he | he
  · obtain ⟨bs, r2⟩ := Dp.reads I (.list ds) y u he ry
    exact SeqAt.notIn_list_reads r2 r1 lay sd.1 (room_in2 sd hu) ⟨.bl _, H, I, rfl, q⟩
  · obtain ⟨bs, r2⟩ := Dp.reads I (.tuple ds) y u he ry
    exact SeqAt.notIn_tuple_reads r2 r1 lay sd.1 (room_in2 sd hu) ⟨.bl _, H, I, rfl, q⟩
end
/-! texts among data -/
def isX (x : Str) : PyData → Bool
  | .str y => decide (x = y)
  | _ => false
theorem eqv_strL (x : Str) (d : PyData) : PyData.eqv (.str x) d = isX x d := by
  cases d with
  | str y =>
    show (x == y) = decide (x = y)
    by_cases h : x = y
    · rw [h]; simp
    · rw [decide_eq_false h]; exact beq_eq_false_iff_ne.mpr h
  | _ => rfl
theorem eqv_strR (x : Str) (d : PyData) : PyData.eqv d (.str x) = isX x d := by
  cases d with
  | str y =>
    show (y == x) = decide (x = y)
    by_cases h : x = y
    · rw [h]; simp
    · rw [decide_eq_false h]; exact beq_eq_false_iff_ne.mpr fun e => h e.symm
  | _ => rfl
theorem isX_iff {x : Str} {d : PyData} : isX x d = true ↔ d = .str x := by
  cases d with
  | str y =>
    show decide (x = y) = true ↔ _
    rw [decide_eq_true_eq]
    exact ⟨fun e => by rw [e], fun e => by injection e with e; exact e.symm⟩
  | _ => exact ⟨fun e => (by cases (show false = true from e)), fun e => by cases e⟩
def inX (xs : List Str) (d : PyData) : Bool := xs.any fun x => isX x d
theorem any_strs (xs : List Str) (d : PyData) : ((xs.map PyData.str).any fun z => PyData.eqv z d) = inX xs d := by
  unfold inX
  rw [List.any_map]
  exact congrArg (fun f => xs.any f) (funext fun x => eqv_strL x d)
/-! whole numbers among data -/
def bw (lo hi : Int) : PyData → Bool
  | .int n => decide (lo ≤ n ∧ n ≤ hi)
  | _ => false
def isRow (n : Int) : PyData → Bool
  | .tuple ds => decide ((ds.length : Int) = n)
  | _ => false
theorem bw_iff {lo hi : Int} {d : PyData} : bw lo hi d = true ↔ ∃ n, d = .int n ∧ lo ≤ n ∧ n ≤ hi := by
  cases d with
  | int n => exact ⟨fun e => ⟨n, rfl, of_decide_eq_true e⟩, fun ⟨m, e, h⟩ => by cases e; exact decide_eq_true h⟩
  | _ => exact ⟨fun e => (by cases (show false = true from e)), fun ⟨n, e, _⟩ => by cases e⟩
theorem isRow_iff {n : Int} {d : PyData} : isRow n d = true ↔ ∃ ds, d = .tuple ds ∧ (ds.length : Int) = n := by
  cases d with
  | tuple ds => exact ⟨fun e => ⟨ds, rfl, of_decide_eq_true e⟩, fun ⟨es, e, h⟩ => by cases e; exact decide_eq_true h⟩
  | _ => exact ⟨fun e => (by cases (show false = true from e)), fun ⟨n, e, _⟩ => by cases e⟩
/-- item i of a tuple -/
def rowAt (d : PyData) (i : Nat) : PyData := match d with
  | .tuple ds => ds.getD i .none
  | _ => .none
theorem dp_row2 {K : PySem.W.Frag} {H : Hp} {v : V} {d : PyData} (h : Dp K H v d) (r : isRow 2 d = true) : ∃ t a b x y, v = .ref t ∧ d = .tuple [x, y] ∧ SqT K H t [a, b] ∧ Dp K H a x ∧ Dp K H b y := by
  obtain ⟨ds, rfl, hl⟩ := isRow_iff.1 r
  match ds, hl with
  | [x, y], _ =>
    obtain ⟨t, us, rfl, ht, hts⟩ := dp_tup h
    cases hts with
    | cons h1 r1 =>
      cases r1 with
      | cons h2 r2 =>
        cases r2
        exact ⟨t, _, _, x, y, rfl, rfl, ht, h1, h2⟩
  | [], h => exact absurd h (by decide)
  | [_], h => exact absurd h (by simp)
  | _ :: _ :: _ :: r, h => exact absurd h (by simp only [List.length_cons]; omega)
theorem dp_row3 {K : PySem.W.Frag} {H : Hp} {v : V} {d : PyData} (h : Dp K H v d) (r : isRow 3 d = true) : ∃ t a b c x y z, v = .ref t ∧ d = .tuple [x, y, z] ∧ SqT K H t [a, b, c] ∧ Dp K H a x ∧ Dp K H b y ∧ Dp K H c z := by
  obtain ⟨ds, rfl, hl⟩ := isRow_iff.1 r
  match ds, hl with
  | [x, y, z], _ =>
    obtain ⟨t, us, rfl, ht, hts⟩ := dp_tup h
    cases hts with
    | cons h1 r1 =>
      cases r1 with
      | cons h2 r2 =>
        cases r2 with
        | cons h3 r3 =>
          cases r3
          exact ⟨t, _, _, _, x, y, z, rfl, rfl, ht, h1, h2, h3⟩
  | [], h => exact absurd h (by decide)
  | [_], h => exact absurd h (by simp)
  | [_, _], h => exact absurd h (by simp)
  | _ :: _ :: _ :: _ :: r, h => exact absurd h (by simp only [List.length_cons]; omega)
def ConI (mg : Str → Option Value) (x : Str) (n : Int) : Prop := ∃ t, mg x = some (.int n t)
def ConS (mg : Str → Option Value) (x y : Str) : Prop := ∃ t, mg x = some (.str y t)
end My


set_option Elab.async false
set_option maxRecDepth 100000
set_option maxHeartbeats 4000000
set_option linter.all false
namespace My
open PySem L2
open C8 (pss_cut)
def fB (a b : Int) : Int := if a + b ≥ 2 then 1 else 0
def fE (a b : Int) : Int := if a + b ≥ 1 then 1 else 0
def fU (a b : Int) : Int := if a = b then 0 else 1
def fC (c a b : Int) : Int := if c = 1 then a else b
/-- what a call that makes a literal leaves -/
def Res (P : Program) (w : World) (K : PySem.W.Frag) (C p G D : Addr) (gs : List Gt) (H : Hp) (m : Nat) (φ : Bits → Int) (Q : VK) : Prop :=
  ∀ (H' : Hp) (gs' : List Gt) (r : Int), PoolAt P w K H' C p G D gs' → But [G, D] H H' → gs <+: gs' → gs'.length ≤ gs.length + m → okL gs' r → (∀ env, bitEnv env → litv (bitsOf env gs') r = φ env) → Q (.int r) H'
def sp2 (P : Program) (w : World) (K : PySem.W.Frag) (C : Addr) (m : Nat) (f : Int → Int → Int) : Sp := fun vs H Q _ => ∃ (p G D : Addr) (gs : List Gt) (x y : Int), vs = [.ref p, .int x, .int y] ∧ PoolAt P w K H C p G D gs ∧ okL gs x ∧ okL gs y ∧ gs.length + m ≤ 100000 ∧
  Res P w K C p G D gs H m (fun env => f (litv (bitsOf env gs) x) (litv (bitsOf env gs) y)) Q
def spBit (P : Program) (w : World) (K : PySem.W.Frag) (C : Addr) : Sp := fun vs H Q _ => ∃ (p G D t : Addr) (gs : List Gt) (n : NK), vs = [.ref p, .ref t] ∧ PoolAt P w K H C p G D gs ∧ Dp K H (.ref t) n.data ∧ n.depth ≤ 7 ∧ gs.length + 1 ≤ 100000 ∧
  ∀ H' gs' (j : Nat), PoolAt P w K H' C p G D gs' → But [G, D] H H' → gs <+: gs' → gs'.length ≤ gs.length + 1 → gs'[j]? = some (.bit n) → Q (.int (2 * (j : Int))) H'
section
variable {P : Program} {w : World} {K : PySem.W.Frag} {mg : Str → Option Value} {base : Heap} {f C : Addr} {fd : FuncData}
theorem lit_gate {gs : List Gt} (h : okGs gs) {j : Nat} {g : Gt} (hj : gs[j]? = some g) (env : Bits) : litv (bitsOf env gs) (2 * (j : Int)) = g.val env (bitsOf env gs) := by
  unfold litv
  rw [if_pos (by omega), show (2 * (j : Int) / 2).toNat = j by omega]
  exact bits_at gs h j g hj
theorem okL_gate {gs : List Gt} {j : Nat} {g : Gt} (hj : gs[j]? = some g) : okL gs (2 * (j : Int)) := by
  have := (List.getElem?_eq_some_iff.mp hj).1
  unfold okL
  omega
theorem both_depth (x y : Int) : (Gt.both x y).nk.depth ≤ 8 := by simp only [Gt.nk, NestedKey.depth, NestedKey.depthAll]; decide
theorem unlike_depth (x y : Int) : (Gt.unlike x y).nk.depth ≤ 8 := by simp only [Gt.nk, NestedKey.depth, NestedKey.depthAll]; decide
theorem chosen_depth (c x y : Int) : (Gt.chosen c x y).nk.depth ≤ 8 := by simp only [Gt.nk, NestedKey.depth, NestedKey.depthAll]; decide
theorem ref_tup {K : PySem.W.Frag} {H : Hp} {t : Addr} {n : NK} (h : Dp K H (.ref t) n.data) : ∃ ks, n = NestedKey.tup ks := by
  cases n with
  | tup ks => exact ⟨ks, rfl⟩
  | none => cases h
  | num z => cases h
  | text z => cases h
theorem int_of {x y : Int} (h : decide (V.int x = V.int y) = true) : x = y := by
  have := of_decide_eq_true h
  injection this
theorem ok_bit (T : Txt K mg) (PK : PlK K C) (D : DefM K C "bit" "Pool.bit" ["self", "name"] s_Pool_bit f fd) (O1 : OwnM P w K mg base C "literal_of" ["self", "gate"] 1 (spMade P w K C)) : OwnM P w K mg base C "bit" ["self", "name"] 2 (spBit P w K C) := by
  obtain ⟨fliteral_of, fdliteral_of, Mliteral_of, bliteral_of, Gliteral_of⟩ := O1
  refine ⟨f, fd, D.me, D.bd, D.fn.ok sc_Pool_bit (fun vs H Q E h => ?_) (fun cdv A outer s H vs Q E hr h => ?_)⟩
  · obtain ⟨p, G, D', t, gs, n, rfl, _⟩ := h
    rfl
  · obtain ⟨p, G, D', t, gs, n, rfl, A0, ht, h8, hl, q⟩ := h
    obtain ⟨dx, ts, h1, _⟩ := A0.at_
    refine ⟨_, (pss_one (ps_ret (pe_meth (pv 0) PK.cls Mliteral_of Gliteral_of (hr.mono (by omega)) bliteral_of .nil pass0 (pa_cons (pe_tup (pa_cons pe_str (pa_cons (pv 1) pa_nil))) pa_nil)))), ?_⟩
    refine ⟨_, rfl, p, dx, _, rfl, h1, plFs_no _ _ (by decide +kernel) (by decide +kernel), _, rfl, by show 2 ≤ sizeLine; decide, fun g hg => ?_⟩
    have sn := same_new hg (.tup [.str "bit", .ref t])
    exact ⟨p, G, D', g, gs, .bit n, rfl, A0.same sn, .tup (SqT.of upd_same) (.cons (.str _) (.cons (dp_mono sn _ ht) .nil)), by simp only [Gt.nk, NestedKey.depth, NestedKey.depthAll]; omega, (by intro z; cases z), (fun m e => by cases e; exact ref_tup ht), (fun x hx => nomatch hx), by omega, fun H' gs' j A1 hb hp hle hj => q H' gs' j A1 ((But.of_same sn).trans hb) hp hle hj⟩
def spBothG : Sp := fun vs H Q _ => ∃ x y : Int, vs = [.int x, .int y] ∧ x ≤ y ∧ ∀ g, H g = none → Q (.ref g) (upd H g (.tup [.str "both", .int x, .int y]))
theorem ok_both_gate (T : Txt K mg) (D : Def K mg "both_gate" ["x", "y"] s_both_gate f fd) : Own P w K mg base "both_gate" ["x", "y"] 1 spBothG := by
  refine ⟨f, fd, D.mg, D.fn.kp, D.bd, D.fn.ok sc_both_gate (fun vs H Q E h => ?_) (fun cdv A outer s H vs Q E hr h => ?_)⟩
  · obtain ⟨x, y, rfl, _⟩ := h
    rfl
  · obtain ⟨x, y, rfl, hxy, q⟩ := h
    refine ⟨_, (pss_one (ps_ret (pe_tup (pa_cons pe_str (pa_cons (pe_callB (call_min2 rfl) (by rfl) T.m_min (by decide +kernel) (pa_cons (pv 0) (pa_cons (pv 1) pa_nil))) (pa_cons (pe_callB (call_max2 rfl) (by rfl) T.m_max (by decide +kernel) (pa_cons (pv 0) (pa_cons (pv 1) pa_nil))) pa_nil)))))), ?_⟩
    have e1 : (if y < x then y else x) = x := if_neg (by omega)
    have e2 : (if y > x then y else x) = y := by split <;> omega
    refine ⟨_, rfl, _, rfl, x, y, rfl, _, rfl, _, rfl, x, y, rfl, by show 3 ≤ sizeLine; decide, fun g hg => ?_⟩
    rw [e1, e2]
    exact q g hg
theorem ok_both (T : Txt K mg) (PK : PlK K C) (C1 : ConI mg "NO" 0) (C2 : ConI mg "YES" 1) (D : DefM K C "both" "Pool.both" ["self", "x", "y"] s_Pool_both f fd) (O1 : OwnM P w K mg base C "literal_of" ["self", "gate"] 1 (spMade P w K C)) (O2 : Own P w K mg base "both_gate" ["x", "y"] 1 spBothG) : OwnM P w K mg base C "both" ["self", "x", "y"] 2 (sp2 P w K C 1 fB) := by
  obtain ⟨fliteral_of, fdliteral_of, Mliteral_of, bliteral_of, Gliteral_of⟩ := O1
  obtain ⟨fboth_gate, fdboth_gate, mboth_gate, kboth_gate, bboth_gate, Gboth_gate⟩ := O2
  obtain ⟨t_NO, c_NO⟩ := C1
  obtain ⟨t_YES, c_YES⟩ := C2
  refine ⟨f, fd, D.me, D.bd, D.fn.ok sc_Pool_both (fun vs H Q E h => ?_) (fun cdv A outer s H vs Q E hr h => ?_)⟩
  · obtain ⟨p, G, D', gs, x, y, rfl, _⟩ := h
    rfl
  · obtain ⟨p, G, D', gs, x0, y0, rfl, A0, hx0, hy0, hl, q0⟩ := h
    obtain ⟨dx, ts, h1, _⟩ := A0.at_
    have no := fun env => litv_no (env := env) A0.ok
    have yes := fun env => litv_yes (env := env) A0.ok
    refine ⟨_, (pss_cut (ps_if (pt_cmpR op_gt (pv 1) (pv 2) (nomark _)) (pss_one (ps_par (i := 1) (j := 2) rfl sc_Pool_both.nd rfl rfl (by decide) rfl rfl (pa_cons (pv 2) (pa_cons (pv 1) pa_nil)) (by rfl))) pss_nil)
      (pss_cons (ps_if (PW.pt (pw_or (pt_cmpR op_eq (pv 1) (pe_glob (v := .int 0) (u := .int 0 t_NO) (by rfl) c_NO ⟨t_NO, rfl⟩) (nomark _)) (pw_or1 (pt_cmpR op_eq (pv 1) (pe_op op_xor (pv 2) pe_int) (nomark _))))) (pss_one (ps_ret (pe_glob (v := .int 0) (u := .int 0 t_NO) (by rfl) c_NO ⟨t_NO, rfl⟩))) pss_nil)
      (pss_cons (ps_if (PW.pt (pw_or (pt_cmpR op_eq (pv 1) (pe_glob (v := .int 1) (u := .int 1 t_YES) (by rfl) c_YES ⟨t_YES, rfl⟩) (nomark _)) (pw_or1 (pt_cmpR op_eq (pv 1) (pv 2) (nomark _))))) (pss_one (ps_ret (pv 2))) pss_nil)
      (pss_one (ps_ret (pe_meth (pv 0) PK.cls Mliteral_of Gliteral_of (hr.mono (by omega)) bliteral_of .nil pass0 (pa_cons (pe_call Gboth_gate (hr.mono (by omega)) rfl mboth_gate kboth_gate bboth_gate .nil pass0 (pa_cons (pv 1) (pa_cons (pv 2) pa_nil))) pa_nil))))))), ?_⟩
    refine ⟨fun σ' H' => H' = H ∧ ∃ x y, σ' = [some (.ref p), some (.int x), some (.int y)] ∧ okL gs x ∧ okL gs y ∧ x ≤ y ∧ Res P w K C p G D' gs H 1 (fun env => fB (litv (bitsOf env gs) x) (litv (bitsOf env gs) y)) Q, ?_, ?_⟩
    · refine ⟨_, rfl, _, rfl, _, _, rfl, rfl, _, rfl, ite2 (fun c => ?_) (fun c => ?_)⟩
      · refine ⟨_, rfl, _, rfl, _, _, rfl, rfl, _, _, rfl, hy0, hx0, by have := of_decide_eq_true c; omega, fun H' gs' r k1 k2 k3 k4 k5 k6 => q0 H' gs' r k1 k2 k3 k4 k5 fun env he => ?_⟩
        rw [k6 env he]
        show fB _ _ = fB _ _
        unfold fB
        rw [Int.add_comm]
      · exact ⟨rfl, _, _, rfl, hx0, hy0, by have : ¬ (x0 > y0) := fun z => c (decide_eq_true z); omega, q0⟩
    · rintro σ' H' ⟨rfl, x, y, rfl, hx, hy, hxy, q⟩
      have lb : ∀ env z, bitEnv env → litv (bitsOf env gs) z = 0 ∨ litv (bitsOf env gs) z = 1 := fun env z he => litv_bit (bits_bit he gs) z
      have rno : (∀ env, bitEnv env → fB (litv (bitsOf env gs) x) (litv (bitsOf env gs) y) = 0) → Q (.int 0) H' := fun h0 => q H' gs 0 A0 (.refl _ _) (List.prefix_refl _) (Nat.le_succ _) ⟨Int.le_refl _, by have := A0.ok.pos; omega⟩ fun env he => by rw [no env]; exact (h0 env he).symm
      have ry : (∀ env, bitEnv env → fB (litv (bitsOf env gs) x) (litv (bitsOf env gs) y) = litv (bitsOf env gs) y) → Q (.int y) H' := fun h0 => q H' gs y A0 (.refl _ _) (List.prefix_refl _) (Nat.le_succ _) hy fun env he => (h0 env he).symm
      refine ⟨_, rfl, rfl, _, rfl, ite2 (fun c => ?_) (fun c => ?_)⟩
      · have e : x = 0 := int_of c
        refine iteT ?_
        exact rno fun env he => by
          rw [e, no env]
          have := lb env y he
          unfold fB
          rw [if_neg (by omega)]
      · refine ⟨_, rfl, _, rfl, _, _, rfl, rfl, rfl, _, rfl, ite2 (fun c => ?_) (fun c => ?_)⟩
        · have e : x = Builtin.bitXor y 1 := int_of c
          exact rno fun env he => by
            rw [e, litv_xor1 hy.1]
            have := lb env y he
            unfold fB
            rw [if_neg (by omega)]
        · refine ⟨_, rfl, rfl, _, rfl, ite2 (fun c => ?_) (fun c => ?_)⟩
          · have e : x = 1 := int_of c
            refine iteT ?_
            exact ⟨_, rfl, ry fun env he => by
              rw [e, yes env]
              have := lb env y he
              unfold fB
              split <;> omega⟩
          · refine ⟨_, rfl, _, rfl, rfl, _, rfl, ite2 (fun c => ?_) (fun c => ?_)⟩
            · have e : x = y := int_of c
              exact ⟨_, rfl, ry fun env he => by
                rw [e]
                have := lb env y he
                unfold fB
                split <;> omega⟩
            · refine ⟨_, rfl, p, dx, _, rfl, h1, plFs_no _ _ (by decide +kernel) (by decide +kernel), _, rfl, _, rfl, x, y, rfl, hxy, fun g hg => ?_⟩
              have sn := same_new hg (.tup [.str "both", .int x, .int y])
              refine ⟨p, G, D', g, gs, .both x y, rfl, A0.same sn, .tup (SqT.of upd_same) (.cons (.str _) (.cons (.int _) (.cons (.int _) .nil))), both_depth x y, (by intro z; cases z), (fun m e => by cases e), (fun z hz => ?_), by omega, fun H2 gs' j A1 hb hp hle hj => ?_⟩
              · rcases List.mem_cons.mp hz with e | hz
                · rw [e]; exact hx
                · rw [List.mem_singleton.mp hz]; exact hy
              · refine q H2 gs' _ A1 ((But.of_same sn).trans hb) hp hle (okL_gate hj) fun env he => ?_
                rw [lit_gate A1.ok hj env]
                show (if litv (bitsOf env gs') x + litv (bitsOf env gs') y ≥ 2 then (1 : Int) else 0) = _
                rw [litv_pre hx hp, litv_pre hy hp]
                rfl
theorem ok_either (T : Txt K mg) (PK : PlK K C) (D : DefM K C "either" "Pool.either" ["self", "x", "y"] s_Pool_either f fd) (O1 : OwnM P w K mg base C "both" ["self", "x", "y"] 2 (sp2 P w K C 1 fB)) : OwnM P w K mg base C "either" ["self", "x", "y"] 3 (sp2 P w K C 1 fE) := by
  obtain ⟨fboth, fdboth, Mboth, bboth, Gboth⟩ := O1
  refine ⟨f, fd, D.me, D.bd, D.fn.ok sc_Pool_either (fun vs H Q E h => ?_) (fun cdv A outer s H vs Q E hr h => ?_)⟩
  · obtain ⟨p, G, D', gs, x, y, rfl, _⟩ := h
    rfl
  · obtain ⟨p, G, D', gs, x, y, rfl, A0, hx, hy, hl, q⟩ := h
    obtain ⟨dx, ts, h1, _⟩ := A0.at_
    refine ⟨_, (pss_one (ps_ret (pe_op op_xor (pe_meth (pv 0) PK.cls Mboth Gboth (hr.mono (by omega)) bboth .nil pass0 (pa_cons (pe_op op_xor (pv 1) pe_int) (pa_cons (pe_op op_xor (pv 2) pe_int) pa_nil))) pe_int))), ?_⟩
    refine ⟨_, rfl, p, dx, _, rfl, h1, plFs_no _ _ (by decide +kernel) (by decide +kernel), _, rfl, _, _, rfl, rfl, _, rfl, _, _, rfl, rfl, p, G, D', gs, _, _, rfl, A0, okL_xor1 hx, okL_xor1 hy, hl, fun H' gs' r k1 k2 k3 k4 k5 k6 => ?_⟩
    refine ⟨_, _, rfl, rfl, q H' gs' _ k1 k2 k3 k4 (okL_xor1 k5) fun env he => ?_⟩
    rw [litv_xor1 k5.1, k6 env he]
    show 1 - fB (litv (bitsOf env gs) (Builtin.bitXor x 1)) (litv (bitsOf env gs) (Builtin.bitXor y 1)) = _
    rw [litv_xor1 hx.1, litv_xor1 hy.1]
    have lx := litv_bit (bits_bit he gs) x
    have ly := litv_bit (bits_bit he gs) y
    show 1 - fB _ _ = fE _ _
    unfold fB fE
    split <;> split <;> omega
theorem fU_turn {a b : Int} (ha : a = 0 ∨ a = 1) (hb : b = 0 ∨ b = 1) (s t : Int) : fU (if s % 2 = 0 then a else 1 - a) (if t % 2 = 0 then b else 1 - b) = if (s + t) % 2 = 0 then fU a b else 1 - fU a b := by
  unfold fU
  rcases ha with rfl | rfl <;> rcases hb with rfl | rfl <;> (split <;> split <;> split <;> simp <;> omega)
theorem litv_parts {bs : List Int} (x : Int) : litv bs x = if x % 2 = 0 then litv bs (x - x % 2) else 1 - litv bs (x - x % 2) := by
  rw [litv_even]
  split <;> omega
theorem ok_unlike (T : Txt K mg) (PK : PlK K C) (C1 : ConI mg "NO" 0) (D : DefM K C "unlike" "Pool.unlike" ["self", "x", "y"] s_Pool_unlike f fd) (O1 : OwnM P w K mg base C "literal_of" ["self", "gate"] 1 (spMade P w K C)) : OwnM P w K mg base C "unlike" ["self", "x", "y"] 2 (sp2 P w K C 1 fU) := by
  obtain ⟨fliteral_of, fdliteral_of, Mliteral_of, bliteral_of, Gliteral_of⟩ := O1
  obtain ⟨t_NO, c_NO⟩ := C1
  refine ⟨f, fd, D.me, D.bd, D.fn.ok sc_Pool_unlike (fun vs H Q E h => ?_) (fun cdv A outer s H vs Q E hr h => ?_)⟩
  · obtain ⟨p, G, D', gs, x, y, rfl, _⟩ := h
    rfl
  · obtain ⟨p, G, D', gs, x0, y0, rfl, A0, hx0, hy0, hl, q0⟩ := h
    obtain ⟨dx, ts, h1, _⟩ := A0.at_
    have no := fun env => litv_no (env := env) A0.ok
    have yes := fun env => litv_yes (env := env) A0.ok
    have hX : okL gs (x0 - x0 % 2) := by have := hx0.1; have := hx0.2; unfold okL; omega
    have hY : okL gs (y0 - y0 % 2) := by have := hy0.1; have := hy0.2; unfold okL; omega
    obtain ⟨tn, htn⟩ : ∃ tn, tn = (x0 + y0) % 2 := ⟨_, rfl⟩
    have ht : tn = 0 ∨ tn = 1 := by omega
    refine ⟨_, (pss_cons (ps_set (i := 3) sc_Pool_unlike.nd rfl (Or.inl rfl) (pe_op op_and (pe_op op_xor (pv 1) (pv 2)) pe_int))
      (pss_cons (ps_set (i := 1) sc_Pool_unlike.nd rfl (Or.inl rfl) (pe_op op_xor (pv 1) (pe_op op_and (pv 1) pe_int)))
      (pss_cons (ps_set (i := 2) sc_Pool_unlike.nd rfl (Or.inl rfl) (pe_op op_xor (pv 2) (pe_op op_and (pv 2) pe_int)))
      (pss_cut (ps_if (pt_cmpR op_gt (pv 1) (pv 2) (nomark _)) (pss_one (ps_par (i := 1) (j := 2) rfl sc_Pool_unlike.nd rfl rfl (by decide) rfl rfl (pa_cons (pv 2) (pa_cons (pv 1) pa_nil)) (by rfl))) pss_nil)
      (pss_cons (ps_if (pt_cmpR op_eq (pv 1) (pv 2) (nomark _)) (pss_one (ps_ret (pv 3))) pss_nil)
      (pss_cons (ps_if (pt_cmpR op_eq (pv 1) (pe_glob (v := .int 0) (u := .int 0 t_NO) (by rfl) c_NO ⟨t_NO, rfl⟩) (nomark _)) (pss_one (ps_ret (pe_op op_xor (pv 2) (pv 3)))) pss_nil)
      (pss_one (ps_ret (pe_op op_xor (pe_meth (pv 0) PK.cls Mliteral_of Gliteral_of (hr.mono (by omega)) bliteral_of .nil pass0 (pa_cons (pe_tup (pa_cons pe_str (pa_cons (pv 1) (pa_cons (pv 2) pa_nil)))) pa_nil)) (pv 3)))))))))), ?_⟩
    refine ⟨_, rfl, _, rfl, _, _, rfl, rfl, _, _, rfl, rfl, ?_⟩
    refine ⟨_, rfl, _, rfl, _, _, rfl, rfl, _, _, rfl, rfl, ?_⟩
    refine ⟨_, rfl, _, rfl, _, _, rfl, rfl, _, _, rfl, rfl, ?_⟩
    dsimp only
    rw [turned_of, even_of, even_of, ← htn]
    refine ⟨fun σ' H' => H' = H ∧ ∃ x y, σ' = [some (.ref p), some (.int x), some (.int y), some (.int tn)] ∧ okL gs x ∧ okL gs y ∧ Res P w K C p G D' gs H 1 (fun env => if tn = 0 then fU (litv (bitsOf env gs) x) (litv (bitsOf env gs) y) else 1 - fU (litv (bitsOf env gs) x) (litv (bitsOf env gs) y)) Q, ?_, ?_⟩
    · have q1 : Res P w K C p G D' gs H 1 (fun env => if tn = 0 then fU (litv (bitsOf env gs) (x0 - x0 % 2)) (litv (bitsOf env gs) (y0 - y0 % 2)) else 1 - fU (litv (bitsOf env gs) (x0 - x0 % 2)) (litv (bitsOf env gs) (y0 - y0 % 2))) Q := fun H' gs' r k1 k2 k3 k4 k5 k6 => q0 H' gs' r k1 k2 k3 k4 k5 fun env he => by
        rw [k6 env he, htn]
        show _ = fU (litv (bitsOf env gs) x0) (litv (bitsOf env gs) y0)
        rw [litv_parts x0, litv_parts y0, fU_turn (litv_bit (bits_bit he gs) _) (litv_bit (bits_bit he gs) _)]
      refine ⟨_, rfl, _, rfl, _, _, rfl, rfl, _, rfl, ite2 (fun c => ?_) (fun c => ?_)⟩
      · refine ⟨_, rfl, _, rfl, _, _, rfl, rfl, _, _, rfl, hY, hX, fun H' gs' r k1 k2 k3 k4 k5 k6 => q1 H' gs' r k1 k2 k3 k4 k5 fun env he => ?_⟩
        rw [k6 env he]
        have e : ∀ a b : Int, fU a b = fU b a := fun a b => by unfold fU; split <;> split <;> omega
        show (if tn = 0 then fU (litv (bitsOf env gs) (y0 - y0 % 2)) (litv (bitsOf env gs) (x0 - x0 % 2)) else 1 - fU (litv (bitsOf env gs) (y0 - y0 % 2)) (litv (bitsOf env gs) (x0 - x0 % 2))) = _
        rw [e (litv (bitsOf env gs) (y0 - y0 % 2))]
      · exact ⟨rfl, _, _, rfl, hX, hY, q1⟩
    · rintro σ' H' ⟨rfl, x, y, rfl, hx, hy, q⟩
      refine ⟨_, rfl, _, rfl, rfl, _, rfl, ite2 (fun c => ?_) (fun c => ?_)⟩
      · have e : x = y := int_of c
        refine ⟨_, rfl, q H' gs tn A0 (.refl _ _) (List.prefix_refl _) (Nat.le_succ _) ?_ fun env he => ?_⟩
        · have := A0.ok.pos
          unfold okL
          omega
        · have z : ∀ a : Int, fU a a = 0 := fun a => by unfold fU; rw [if_pos rfl]
          show _ = if tn = 0 then fU (litv (bitsOf env gs) x) (litv (bitsOf env gs) y) else 1 - fU (litv (bitsOf env gs) x) (litv (bitsOf env gs) y)
          rw [e, z]
          rcases ht with h | h <;> rw [h]
          · rw [no env, if_pos rfl]
          · rw [yes env, if_neg (by decide)]; rfl
      · refine ⟨_, rfl, rfl, _, rfl, ite2 (fun c => ?_) (fun c => ?_)⟩
        · have e : x = 0 := int_of c
          refine ⟨_, rfl, _, rfl, _, _, rfl, rfl, q H' gs _ A0 (.refl _ _) (List.prefix_refl _) (Nat.le_succ _) (okL_xort hy ht) fun env he => ?_⟩
          rw [litv_xort hy.1 ht]
          show _ = if tn = 0 then fU (litv (bitsOf env gs) x) (litv (bitsOf env gs) y) else 1 - fU (litv (bitsOf env gs) x) (litv (bitsOf env gs) y)
          have := litv_bit (bits_bit he gs) y
          have eU : fU (litv (bitsOf env gs) x) (litv (bitsOf env gs) y) = litv (bitsOf env gs) y := by
            rw [e, no env]
            unfold fU
            split <;> omega
          rw [eU]
        · refine ⟨_, rfl, p, dx, _, rfl, h1, plFs_no _ _ (by decide +kernel) (by decide +kernel), _, rfl, _, rfl, by show 3 ≤ sizeLine; decide, fun g hg => ?_⟩
          have sn := same_new hg (.tup [.str "unlike", .int x, .int y])
          refine ⟨p, G, D', g, gs, .unlike x y, rfl, A0.same sn, .tup (SqT.of upd_same) (.cons (.str _) (.cons (.int _) (.cons (.int _) .nil))), unlike_depth x y, (by intro z; cases z), (fun m e => by cases e), (fun z hz => ?_), by omega, fun H2 gs' j A1 hb hp hle hj => ?_⟩
          · rcases List.mem_cons.mp hz with e | hz
            · rw [e]; exact hx
            · rw [List.mem_singleton.mp hz]; exact hy
          · refine ⟨_, rfl, _, _, rfl, rfl, q H2 gs' _ A1 ((But.of_same sn).trans hb) hp hle (okL_xort (okL_gate hj) ht) fun env he => ?_⟩
            rw [litv_xort (by omega) ht, lit_gate A1.ok hj env]
            show (if tn = 0 then (if litv (bitsOf env gs') x = litv (bitsOf env gs') y then (0 : Int) else 1) else 1 - (if litv (bitsOf env gs') x = litv (bitsOf env gs') y then (0 : Int) else 1)) = _
            rw [litv_pre hx hp, litv_pre hy hp]
            rfl
end
end My


set_option Elab.async false
set_option maxRecDepth 100000
set_option maxHeartbeats 4000000
set_option linter.all false
namespace My
open PySem L2 PyProof.Rows
open C8 (pss_cut)
theorem xor_half {x c : Int} (hx : 0 ≤ x) (hc : 0 ≤ c) (h : x / 2 = c / 2) : Builtin.bitXor x c = if x = c then 0 else 1 := by
  rw [Bits.bitXor_pp hx hc]
  have hn : x.toNat / 2 = c.toNat / 2 := by omega
  have h1 : (x.toNat ^^^ c.toNat) / 2 = 0 := by rw [Nat.xor_div_two, hn, Nat.xor_self]
  have h2 : (Builtin.bitXor x c) % 2 = (x + c) % 2 := by rw [bitXor_and]; omega
  rw [Bits.bitXor_pp hx hc] at h2
  split <;> omega
def sp3 (P : Program) (w : World) (K : PySem.W.Frag) (C : Addr) (m : Nat) (f : Int → Int → Int → Int) : Sp := fun vs H Q _ => ∃ (p G D : Addr) (gs : List Gt) (c x y : Int), vs = [.ref p, .int c, .int x, .int y] ∧ PoolAt P w K H C p G D gs ∧ okL gs c ∧ okL gs x ∧ okL gs y ∧ gs.length + m ≤ 100000 ∧
  Res P w K C p G D gs H m (fun env => f (litv (bitsOf env gs) c) (litv (bitsOf env gs) x) (litv (bitsOf env gs) y)) Q
section
variable {P : Program} {w : World} {K : PySem.W.Frag} {mg : Str → Option Value} {base : Heap} {f C : Addr} {fd : FuncData}
theorem Res.imp {p G D : Addr} {gs : List Gt} {H : Hp} {m : Nat} {φ ψ : Bits → Int} {Q : VK} (r : Res P w K C p G D gs H m φ Q) (h : ∀ env, bitEnv env → ψ env = φ env) : Res P w K C p G D gs H m ψ Q := fun H' gs' r' k1 k2 k3 k4 k5 k6 => r H' gs' r' k1 k2 k3 k4 k5 fun env he => by rw [k6 env he, h env he]
theorem Res.here {p G D : Addr} {gs : List Gt} {H : Hp} {m : Nat} {φ : Bits → Int} {Q : VK} (r : Res P w K C p G D gs H m φ Q) (A : PoolAt P w K H C p G D gs) {x : Int} (hx : okL gs x) (h : ∀ env, bitEnv env → litv (bitsOf env gs) x = φ env) : Q (.int x) H :=
  r H gs x A (.refl _ _) (List.prefix_refl _) (Nat.le_add_right _ _) hx h
theorem ok_chosen (T : Txt K mg) (PK : PlK K C) (C1 : ConI mg "NO" 0) (C2 : ConI mg "YES" 1) (D : DefM K C "chosen" "Pool.chosen" ["self", "c", "x", "y"] s_Pool_chosen f fd) (O1 : OwnM P w K mg base C "literal_of" ["self", "gate"] 1 (spMade P w K C)) (O2 : OwnM P w K mg base C "both" ["self", "x", "y"] 2 (sp2 P w K C 1 fB)) (O3 : OwnM P w K mg base C "either" ["self", "x", "y"] 3 (sp2 P w K C 1 fE)) (O4 : OwnM P w K mg base C "unlike" ["self", "x", "y"] 2 (sp2 P w K C 1 fU)) :
    OwnM P w K mg base C "chosen" ["self", "c", "x", "y"] 4 (sp3 P w K C 1 fC) := by
  obtain ⟨fliteral_of, fdliteral_of, Mliteral_of, bliteral_of, Gliteral_of⟩ := O1
  obtain ⟨fboth, fdboth, Mboth, bboth, Gboth⟩ := O2
  obtain ⟨feither, fdeither, Meither, beither, Geither⟩ := O3
  obtain ⟨funlike, fdunlike, Munlike, bunlike, Gunlike⟩ := O4
  obtain ⟨t_NO, c_NO⟩ := C1
  obtain ⟨t_YES, c_YES⟩ := C2
  refine ⟨f, fd, D.me, D.bd, D.fn.ok sc_Pool_chosen (fun vs H Q E h => ?_) (fun cdv A outer s H vs Q E hr h => ?_)⟩
  · obtain ⟨p, G, D', gs, c, x, y, rfl, _⟩ := h
    rfl
  · obtain ⟨p, G, D', gs, c0, x0, y0, rfl, A0, hc0, hx0, hy0, hl, q0⟩ := h
    obtain ⟨dx, ts, h1, _⟩ := A0.at_
    have no := fun env => litv_no (env := env) A0.ok
    have yes := fun env => litv_yes (env := env) A0.ok
    have lb : ∀ env z, bitEnv env → litv (bitsOf env gs) z = 0 ∨ litv (bitsOf env gs) z = 1 := fun env z he => litv_bit (bits_bit he gs) z
    have okno : okL gs 0 := by have := A0.ok.pos; unfold okL; omega
    have okyes : okL gs 1 := by have := A0.ok.pos; unfold okL; omega
    have meth : ∀ {m : Str}, ¬ m = "literals" → ¬ m = "gates" → (plFs G D').lookup m = none := fun a b => plFs_no _ _ a b
    refine ⟨_, (pss_cut (ps_if (pt_truth (pe_op op_and (pv 1) pe_int) (by intro _; rfl)) (pss_one (ps_par3 (i := 1) (j := 2) (l := 3) rfl sc_Pool_chosen.nd rfl rfl rfl (by decide) (by decide) (by decide) rfl rfl rfl (pa_cons (pe_op op_xor (pv 1) pe_int) (pa_cons (pv 3) (pa_cons (pv 2) pa_nil))) (by rfl))) pss_nil)
      (pss_cons (ps_if (PW.pt (pw_or (pt_cmpR op_eq (pv 1) (pe_glob (v := .int 0) (u := .int 0 t_NO) (by rfl) c_NO ⟨t_NO, rfl⟩) (nomark _)) (pw_or1 (pt_cmpR op_eq (pv 2) (pv 3) (nomark _))))) (pss_one (ps_ret (pv 3))) pss_nil)
      (pss_cut (ps_if (pt_cmpR op_eq (pe_op op_shr (pv 2) pe_int) (pe_op op_shr (pv 1) pe_int) (nomark _)) (pss_one (ps_set (i := 2) sc_Pool_chosen.nd rfl (Or.inl rfl) (pe_op op_xor (pe_op op_xor (pv 2) (pv 1)) pe_int))) pss_nil)
      (pss_cut (ps_if (pt_cmpR op_eq (pe_op op_shr (pv 3) pe_int) (pe_op op_shr (pv 1) pe_int) (nomark _)) (pss_one (ps_set (i := 3) sc_Pool_chosen.nd rfl (Or.inl rfl) (pe_op op_xor (pv 3) (pv 1)))) pss_nil)
      (pss_cons (ps_if (pt_cmpR op_eq (pv 2) (pe_op op_xor (pv 3) pe_int) (nomark _)) (pss_one (ps_ret (pe_meth (pv 0) PK.cls Munlike Gunlike (hr.mono (by omega)) bunlike .nil pass0 (pa_cons (pv 1) (pa_cons (pv 3) pa_nil))))) pss_nil)
      (pss_cons (ps_if (pt_cmpR op_eq (pv 2) (pe_glob (v := .int 0) (u := .int 0 t_NO) (by rfl) c_NO ⟨t_NO, rfl⟩) (nomark _)) (pss_one (ps_ret (pe_meth (pv 0) PK.cls Mboth Gboth (hr.mono (by omega)) bboth .nil pass0 (pa_cons (pe_op op_xor (pv 1) pe_int) (pa_cons (pv 3) pa_nil))))) pss_nil)
      (pss_cons (ps_if (pt_cmpR op_eq (pv 2) (pe_glob (v := .int 1) (u := .int 1 t_YES) (by rfl) c_YES ⟨t_YES, rfl⟩) (nomark _)) (pss_one (ps_ret (pe_meth (pv 0) PK.cls Meither Geither (hr.mono (by omega)) beither .nil pass0 (pa_cons (pv 1) (pa_cons (pv 3) pa_nil))))) pss_nil)
      (pss_cons (ps_if (pt_cmpR op_eq (pv 3) (pe_glob (v := .int 0) (u := .int 0 t_NO) (by rfl) c_NO ⟨t_NO, rfl⟩) (nomark _)) (pss_one (ps_ret (pe_meth (pv 0) PK.cls Mboth Gboth (hr.mono (by omega)) bboth .nil pass0 (pa_cons (pv 1) (pa_cons (pv 2) pa_nil))))) pss_nil)
      (pss_cons (ps_if (pt_cmpR op_eq (pv 3) (pe_glob (v := .int 1) (u := .int 1 t_YES) (by rfl) c_YES ⟨t_YES, rfl⟩) (nomark _)) (pss_one (ps_ret (pe_meth (pv 0) PK.cls Meither Geither (hr.mono (by omega)) beither .nil pass0 (pa_cons (pe_op op_xor (pv 1) pe_int) (pa_cons (pv 2) pa_nil))))) pss_nil)
      (pss_cons (ps_set (i := 4) sc_Pool_chosen.nd rfl (Or.inl rfl) (pe_op op_and (pv 2) pe_int))
      (pss_one (ps_ret (pe_op op_xor (pe_meth (pv 0) PK.cls Mliteral_of Gliteral_of (hr.mono (by omega)) bliteral_of .nil pass0 (pa_cons (pe_tup (pa_cons pe_str (pa_cons (pv 1) (pa_cons (pe_op op_xor (pv 2) (pv 4)) (pa_cons (pe_op op_xor (pv 3) (pv 4)) pa_nil))))) pa_nil)) (pv 4)))))))))))))), ?_⟩
    refine ⟨fun σ' H' => H' = H ∧ ∃ c x y, σ' = [some (.ref p), some (.int c), some (.int x), some (.int y), none] ∧ okL gs c ∧ okL gs x ∧ okL gs y ∧ Res P w K C p G D' gs H 1 (fun env => fC (litv (bitsOf env gs) c) (litv (bitsOf env gs) x) (litv (bitsOf env gs) y)) Q, ?_, ?_⟩
    · refine ⟨_, rfl, _, _, rfl, rfl, _, rfl, ite2 (fun c => ?_) (fun c => ?_)⟩
      · refine ⟨_, rfl, _, _, rfl, rfl, _, rfl, _, rfl, _, _, _, rfl, rfl, _, _, _, rfl, okL_xor1 hc0, hy0, hx0, q0.imp fun env he => ?_⟩
        show fC _ _ _ = fC _ _ _
        rw [litv_xor1 hc0.1]
        have := lb env c0 he
        unfold fC
        split <;> split <;> omega
      · exact ⟨rfl, _, _, _, rfl, hc0, hx0, hy0, q0⟩
    · rintro σ' H1 ⟨e0, c, x, y, rfl, hc, hx, hy, q⟩
      subst e0
      refine ⟨_, rfl, rfl, _, rfl, ite2 (fun b => ?_) (fun b => ?_)⟩
      · have e : c = 0 := int_of b
        refine iteT ?_
        exact ⟨_, rfl, q.here A0 hy fun env he => by
          show _ = fC _ _ _
          rw [e, no env]
          rfl⟩
      refine ⟨_, rfl, _, rfl, rfl, _, rfl, ite2 (fun b => ?_) (fun b => ?_)⟩
      · have e : x = y := int_of b
        exact ⟨_, rfl, q.here A0 hy fun env he => by
          show _ = fC _ _ _
          rw [e]
          unfold fC
          split <;> rfl⟩
      refine ⟨fun σ' H' => H' = H1 ∧ ∃ x, σ' = [some (.ref p), some (.int c), some (.int x), some (.int y), none] ∧ okL gs x ∧ Res P w K C p G D' gs H1 1 (fun env => fC (litv (bitsOf env gs) c) (litv (bitsOf env gs) x) (litv (bitsOf env gs) y)) Q, ?_, ?_⟩
      · refine ⟨_, rfl, _, _, rfl, rfl, (by show (0 : Int) ≤ 1; decide), _, rfl, _, _, rfl, rfl, (by show (0 : Int) ≤ 1; decide), rfl, _, rfl, ite2 (fun b => ?_) (fun b => ?_)⟩
        · have e : x / 2 = c / 2 := int_of b
          refine ⟨_, rfl, _, rfl, _, _, rfl, rfl, _, _, rfl, rfl, rfl, _, rfl, ?_, ?_⟩
          · rw [xor_half hx.1 hc.1 e]
            split
            · exact okyes
            · exact okno
          · refine q.imp fun env he => ?_
            show fC _ (litv _ (Builtin.bitXor (Builtin.bitXor x c) 1)) _ = fC _ _ _
            rw [xor_half hx.1 hc.1 e]
            by_cases h : x = c
            · rw [if_pos h, h, show Builtin.bitXor 0 1 = 1 from rfl, yes env]
              unfold fC
              split
              · omega
              · rfl
            · have ex : x = Builtin.bitXor c 1 := by rw [xor1]; split <;> omega
              rw [if_neg h, ex, litv_xor1 hc.1, show Builtin.bitXor 1 1 = 0 from rfl, no env]
              unfold fC
              split
              · omega
              · rfl
        · exact ⟨rfl, _, rfl, hx, q⟩
      rintro σ' H2 ⟨e0, x, rfl, hx, q⟩
      subst e0
      refine ⟨fun σ' H' => H' = H2 ∧ ∃ y, σ' = [some (.ref p), some (.int c), some (.int x), some (.int y), none] ∧ okL gs y ∧ Res P w K C p G D' gs H2 1 (fun env => fC (litv (bitsOf env gs) c) (litv (bitsOf env gs) x) (litv (bitsOf env gs) y)) Q, ?_, ?_⟩
      · refine ⟨_, rfl, _, _, rfl, rfl, (by show (0 : Int) ≤ 1; decide), _, rfl, _, _, rfl, rfl, (by show (0 : Int) ≤ 1; decide), rfl, _, rfl, ite2 (fun b => ?_) (fun b => ?_)⟩
        · have e : y / 2 = c / 2 := int_of b
          refine ⟨_, rfl, _, rfl, _, _, rfl, rfl, rfl, _, rfl, ?_, ?_⟩
          · rw [xor_half hy.1 hc.1 e]
            split
            · exact okno
            · exact okyes
          · refine q.imp fun env he => ?_
            show fC _ _ (litv _ (Builtin.bitXor y c)) = fC _ _ _
            rw [xor_half hy.1 hc.1 e]
            have := lb env c he
            by_cases h : y = c
            · rw [if_pos h, h, no env]
              unfold fC
              split
              · rfl
              · omega
            · have ex : y = Builtin.bitXor c 1 := by rw [xor1]; split <;> omega
              rw [if_neg h, ex, litv_xor1 hc.1, yes env]
              unfold fC
              split
              · rfl
              · omega
        · exact ⟨rfl, _, rfl, hy, q⟩
      rintro σ' H3 ⟨e0, y, rfl, hy, q⟩
      subst e0
      refine ⟨_, rfl, _, rfl, _, _, rfl, rfl, rfl, _, rfl, ite2 (fun b => ?_) (fun b => ?_)⟩
      · have e : x = Builtin.bitXor y 1 := int_of b
        refine ⟨_, rfl, p, dx, _, rfl, h1, meth (by decide +kernel) (by decide +kernel), _, rfl, _, rfl, p, G, D', gs, _, _, rfl, A0, hc, hy, hl, q.imp fun env he => ?_⟩
        show fU _ _ = fC _ _ _
        rw [e, litv_xor1 hy.1]
        have := lb env c he
        have := lb env y he
        unfold fU fC
        split <;> split <;> omega
      refine ⟨_, rfl, rfl, _, rfl, ite2 (fun b => ?_) (fun b => ?_)⟩
      · have e : x = 0 := int_of b
        refine ⟨_, rfl, p, dx, _, rfl, h1, meth (by decide +kernel) (by decide +kernel), _, rfl, _, _, rfl, rfl, _, rfl, p, G, D', gs, _, _, rfl, A0, okL_xor1 hc, hy, hl, q.imp fun env he => ?_⟩
        show fB _ _ = fC _ _ _
        rw [e, no env, litv_xor1 hc.1]
        have := lb env c he
        have := lb env y he
        unfold fB fC
        split <;> split <;> omega
      refine ⟨_, rfl, rfl, _, rfl, ite2 (fun b => ?_) (fun b => ?_)⟩
      · have e : x = 1 := int_of b
        refine ⟨_, rfl, p, dx, _, rfl, h1, meth (by decide +kernel) (by decide +kernel), _, rfl, _, rfl, p, G, D', gs, _, _, rfl, A0, hc, hy, hl, q.imp fun env he => ?_⟩
        show fE _ _ = fC _ _ _
        rw [e, yes env]
        have := lb env c he
        have := lb env y he
        unfold fE fC
        split <;> split <;> omega
      refine ⟨_, rfl, rfl, _, rfl, ite2 (fun b => ?_) (fun b => ?_)⟩
      · have e : y = 0 := int_of b
        refine ⟨_, rfl, p, dx, _, rfl, h1, meth (by decide +kernel) (by decide +kernel), _, rfl, _, rfl, p, G, D', gs, _, _, rfl, A0, hc, hx, hl, q.imp fun env he => ?_⟩
        show fB _ _ = fC _ _ _
        rw [e, no env]
        have := lb env c he
        have := lb env x he
        unfold fB fC
        split <;> split <;> omega
      refine ⟨_, rfl, rfl, _, rfl, ite2 (fun b => ?_) (fun b => ?_)⟩
      · have e : y = 1 := int_of b
        refine ⟨_, rfl, p, dx, _, rfl, h1, meth (by decide +kernel) (by decide +kernel), _, rfl, _, _, rfl, rfl, _, rfl, p, G, D', gs, _, _, rfl, A0, okL_xor1 hc, hx, hl, q.imp fun env he => ?_⟩
        show fE _ _ = fC _ _ _
        rw [e, yes env, litv_xor1 hc.1]
        have := lb env c he
        have := lb env x he
        unfold fE fC
        split <;> split <;> omega
      refine ⟨_, rfl, _, _, rfl, rfl, ?_⟩
      have ht : Builtin.bitAnd x 1 = 0 ∨ Builtin.bitAnd x 1 = 1 := by rw [bitAnd_m1]; omega
      refine ⟨_, rfl, p, dx, _, rfl, h1, meth (by decide +kernel) (by decide +kernel), _, rfl, _, rfl, _, rfl, _, _, rfl, rfl, _, rfl, _, rfl, _, _, rfl, rfl, by show 4 ≤ sizeLine; decide, fun g hg => ?_⟩
      have sn := same_new hg (.tup [.str "chosen", .int c, .int (Builtin.bitXor x (Builtin.bitAnd x 1)), .int (Builtin.bitXor y (Builtin.bitAnd x 1))])
      refine ⟨p, G, D', g, gs, .chosen c (Builtin.bitXor x (Builtin.bitAnd x 1)) (Builtin.bitXor y (Builtin.bitAnd x 1)), rfl, A0.same sn, .tup (SqT.of upd_same) (.cons (.str _) (.cons (.int _) (.cons (.int _) (.cons (.int _) .nil)))), chosen_depth _ _ _, (by intro z; cases z), (fun m e => by cases e), (fun z hz => ?_), by omega, fun H4 gs' j A1 hb hp hle hj => ?_⟩
      · rcases List.mem_cons.mp hz with e | hz
        · rw [e]; exact hc
        · rcases List.mem_cons.mp hz with e | hz
          · rw [e]; exact okL_xort hx ht
          · rw [List.mem_singleton.mp hz]; exact okL_xort hy ht
      · refine ⟨_, rfl, _, _, rfl, rfl, q H4 gs' _ A1 ((But.of_same sn).trans hb) hp hle (okL_xort (okL_gate hj) ht) fun env he => ?_⟩
        rw [litv_xort (by omega) ht, lit_gate A1.ok hj env]
        show (if Builtin.bitAnd x 1 = 0 then (if litv (bitsOf env gs') c = 1 then litv (bitsOf env gs') (Builtin.bitXor x (Builtin.bitAnd x 1)) else litv (bitsOf env gs') (Builtin.bitXor y (Builtin.bitAnd x 1))) else 1 - (if litv (bitsOf env gs') c = 1 then litv (bitsOf env gs') (Builtin.bitXor x (Builtin.bitAnd x 1)) else litv (bitsOf env gs') (Builtin.bitXor y (Builtin.bitAnd x 1)))) = fC _ _ _
        rw [litv_xort hx.1 ht, litv_xort hy.1 ht, litv_pre hc hp, litv_pre hx hp, litv_pre hy hp]
        unfold fC
        rcases ht with h | h <;> rw [h]
        · rw [if_pos rfl, if_pos rfl, if_pos rfl]
        · have n1 : ¬ (1 : Int) = 0 := by decide
          rw [if_neg n1, if_neg n1, if_neg n1]
          split <;> omega
end
end My

set_option Elab.async false
set_option maxRecDepth 100000
set_option maxHeartbeats 4000000
set_option linter.all false
namespace My
open PySem PySem.Spec L2
theorem yesV {σ : L2.St} {H : Hp} {Q : Bool → Hp → Prop} (h : Q true H) : tYes σ H Q := h
theorem take_nextV {α : Type} {l : List α} {i : Nat} {x : α} (h : l[i]? = some x) : l.take (i + 1) = l.take i ++ [x] := by
  rw [List.take_add_one, h]
  rfl
theorem lenV {n : Nat} (h : n ≤ 1000) : n < sizeLine := Nat.lt_of_le_of_lt h (by decide)
/-- [f(x) for x in t], t a tuple -/
theorem lc_mapT {K : PySem.W.Frag} {a : Addr} {xs : List V} {k : Nat} {te : TE} {vs : List Nat} {σ : L2.St} {H1 : Hp} {D : Addr} {Qd : Hp → Prop} (f : V → V) (ha : SqT K H1 a xs) (hl : xs.length ≤ 1000) (hD : H1 D = none) (hw : ∀ x, wipe ((wipe σ vs).set k (some x)) vs = wipe σ vs)
    (he : ∀ y H2 (R : VK), y ∈ xs → Same H1 H2 → R (f y) H2 → te ((wipe σ vs).set k (some y)) H2 R)
    (hq : ∀ H2, H2 D = some (.lst (xs.map f)) → Same H1 H2 → Qd H2) :
    ∃ W : Nat → Nat → Hp → Prop, (∃ m, W 0 m (upd H1 D (.lst []))) ∧ ∀ i m H, W i m H →
      ((Itt K a).stop i H ∧ Qd H) ∨ ((Itt K a).go i H ∧ ∃ Nx : Hp → Prop, (∀ H', Nx H' → ∃ m', m' < m ∧ W (i + 1) m' H') ∧ ∀ x H', (Itt K a).yld i H x H' → gName k x (wipe σ vs) H' fun σ2 H2 => wipe σ2 vs = wipe σ vs ∧ tYes σ2 H2 fun b H3 =>
        if b = true then te σ2 H3 fun y H4 => ∃ acc, H4 D = some (.lst acc) ∧ acc.length < sizeLine ∧ Nx (upd H4 D (.lst (acc ++ [y]))) else Nx H3) := by
  refine lc_tup (K := K) (a := a) (xs := xs) (fun i H2 => H2 D = some (.lst ((xs.take i).map f)) ∧ Same H1 H2 ∧ i ≤ xs.length) ⟨upd_same, same_new hD _, Nat.zero_le _⟩ (fun i H2 _ ⟨_, s, _⟩ => sqt_mono s ha) ?_ ?_
  · rintro i y H2 hi ⟨h1, s, _⟩
    have hi' : i < xs.length := (List.getElem?_eq_some_iff.mp hi).1
    refine ⟨hw y, ?_⟩
    refine yesV ?_
    rw [if_pos rfl]
    refine he y H2 _ (List.mem_of_getElem? hi) s ⟨_, h1, ?_, ?_, fun b o hb => ?_, hi'⟩
    · rw [List.length_map, List.length_take]
      exact lenV (by omega)
    · rw [upd_same, take_nextV hi, List.map_append] <;> rfl
    · rw [upd_ne (ne_of_none hb hD)]
      exact s b o hb
  · rintro H2 ⟨h1, s, _⟩
    rw [List.take_length] at h1
    exact hq H2 h1 s
/-- [f(x) for x in xs], xs a list -/
theorem lc_mapL {K : PySem.W.Frag} {a : Addr} {xs : List V} {k : Nat} {te : TE} {vs : List Nat} {σ : L2.St} {H1 : Hp} {D : Addr} {Qd : Hp → Prop} (f : V → V) (ha : SqL K H1 a xs) (hl : xs.length ≤ 1000) (hD : H1 D = none) (hw : ∀ x, wipe ((wipe σ vs).set k (some x)) vs = wipe σ vs)
    (he : ∀ y H2 (R : VK), y ∈ xs → Same H1 H2 → R (f y) H2 → te ((wipe σ vs).set k (some y)) H2 R)
    (hq : ∀ H2, H2 D = some (.lst (xs.map f)) → Same H1 H2 → Qd H2) :
    ∃ W : Nat → Nat → Hp → Prop, (∃ m, W 0 m (upd H1 D (.lst []))) ∧ ∀ i m H, W i m H →
      ((Itl K a).stop i H ∧ Qd H) ∨ ((Itl K a).go i H ∧ ∃ Nx : Hp → Prop, (∀ H', Nx H' → ∃ m', m' < m ∧ W (i + 1) m' H') ∧ ∀ x H', (Itl K a).yld i H x H' → gName k x (wipe σ vs) H' fun σ2 H2 => wipe σ2 vs = wipe σ vs ∧ tYes σ2 H2 fun b H3 =>
        if b = true then te σ2 H3 fun y H4 => ∃ acc, H4 D = some (.lst acc) ∧ acc.length < sizeLine ∧ Nx (upd H4 D (.lst (acc ++ [y]))) else Nx H3) := by
  refine lc_list (K := K) (a := a) (xs := xs) (fun i H2 => H2 D = some (.lst ((xs.take i).map f)) ∧ Same H1 H2 ∧ i ≤ xs.length) ⟨upd_same, same_new hD _, Nat.zero_le _⟩ (fun i H2 _ ⟨_, s, _⟩ => sql_mono s ha) ?_ ?_
  · rintro i y H2 hi ⟨h1, s, _⟩
    have hi' : i < xs.length := (List.getElem?_eq_some_iff.mp hi).1
    refine ⟨hw y, ?_⟩
    refine yesV ?_
    rw [if_pos rfl]
    refine he y H2 _ (List.mem_of_getElem? hi) s ⟨_, h1, ?_, ?_, fun b o hb => ?_, hi'⟩
    · rw [List.length_map, List.length_take]
      exact lenV (by omega)
    · rw [upd_same, take_nextV hi, List.map_append] <;> rfl
    · rw [upd_ne (ne_of_none hb hD)]
      exact s b o hb
  · rintro H2 ⟨h1, s, _⟩
    rw [List.take_length] at h1
    exact hq H2 h1 s
end My

set_option Elab.async false
set_option maxRecDepth 100000
set_option maxHeartbeats 4000000
set_option linter.all false
namespace My
open PySem PySem.Spec PyProof.Rows L2
theorem RelO.getD' {o : Option V} {p : Option Value} {d : V} {r : Value} (h : RelO o p) (hd : RelV d r) : RelV (o.getD d) (p.getD r) := h.getD hd
/-- d.get(k, x) -/
def tGetN (P : Program) (w : World) (K : PySem.W.Frag) (td ty tx : TE) : TE := fun σ H Q => td σ H fun x H1 => ∃ (a : Addr) (xs : NRows), x = .ref a ∧ DN P w K H1 a xs ∧ ty σ H1 fun y H2 => tx σ H2 fun z H3 => ∃ (b : Addr) (k : NK) (xs : NRows), y = .ref b ∧ Dp K H3 (.ref b) k.data ∧ k.depth ≤ 8 ∧ DN P w K H3 a xs ∧ Q ((valN xs k).getD z) H3
section
variable {X : Cx} {o e f : Expr} {apos cpos : Pos} {td ty tx : TE}
theorem pe_getN (hu : X.A.units + 65 < cLine) (ho : PE X o td) (he : PE X e ty) (hf : PE X f tx) (m : M2 X o "get" apos e f cpos) : PE X (.Call (.Attribute o "get" apos) [e, f] [] cpos) (tGetN X.prog X.w X.K td ty tx) := by
  refine ⟨fun pins s σ H Q I h => ?_⟩
  refine wpAny_Call_method m.base m.few m.line PySem.F.plainAttrs_dict PySem.F.slot_dict_get PySem.F.type_dict_get (thn (ho.run pins s σ H _ I h) fun u s1 ⟨x, H1, I1, rx, a, xs, ex, D1, q1⟩ => ?_)
  subst ex
  obtain rfl : u = Value.ref a := rx
  obtain ⟨hd1, vs1, r1, dd1⟩ := dn_of I1 D1
  refine ⟨dd1.typeIs, fun b q => ?_, ?_⟩
  · cases q
    obtain ⟨ob, _, _, h1, h2, _⟩ := dd1
    exact ⟨ob, h1, h2.2.1⟩
  rw [m.trees]
  refine Calls.callWith_builtin rfl (Calls.evalArgs_plain (Calls.spliced_cons (thn (he.run pins s1 σ H1 _ I1 q1) fun iv s2 ⟨y, H2, I2, ry, q2⟩ =>
    Calls.spliced_cons (thn (hf.run pins s2 σ H2 _ I2 q2) fun fv s3 ⟨z, H3, I3, rz, b, k, ys, ey, hk, h8, D3, q3⟩ => Calls.spliced_nil ?_))))
  subst ey
  obtain rfl : iv = Value.ref b := ry
  obtain ⟨hd, vs, r, dd⟩ := dn_of I3 D3
  refine call_meetsIn PySem.F.slot_dict_get dd.typeIs PySem.F.entry_dict_get (PySem.F.args_dict_get_3 _ _ _) (meetsH_dict_get_default (nestedKind X.prog X.w) a b hd fv) ⟨(by show X.A.units + 1 + 8 < cLine; omega), k, vs, ⟨dp_nested I3 k _ _ hk rfl, h8⟩, dd, ?_⟩
  exact ⟨_, H3, I3.tok _, RelO.getD' (nrel_val r) rz, q3⟩
end
end My


set_option Elab.async false
set_option maxRecDepth 100000
set_option maxHeartbeats 4000000
set_option linter.all false
namespace My
open PySem L2 PyProof.Rows
open C8 (pss_cut)
def envOf (rows : NRows) : Bits := fun n => match valN rows n with
  | some (.int b) => b
  | _ => 0
structure BitsAt (P : Program) (w : World) (K : PySem.W.Frag) (H : Hp) (a : Addr) (rows : NRows) : Prop where
  dn : DN P w K H a rows
  bit : ∀ x ∈ rows, ∃ b, x.2.2 = .int b ∧ (b = 0 ∨ b = 1)
theorem envOf_bit {P : Program} {w : World} {K : PySem.W.Frag} {H : Hp} {a : Addr} {rows : NRows} (h : BitsAt P w K H a rows) : bitEnv (envOf rows) := fun n => by
  unfold envOf
  cases e : valN rows n with
  | none => exact .inl rfl
  | some v =>
    obtain ⟨x, hx, _, ev⟩ := valN_some e
    obtain ⟨b, eb, hb⟩ := h.bit x hx
    rw [← ev, eb]
    exact hb
theorem envOf_get {P : Program} {w : World} {K : PySem.W.Frag} {H : Hp} {a : Addr} {rows : NRows} (h : BitsAt P w K H a rows) (n : NK) : (valN rows n).getD (.int 0) = .int (envOf rows n) := by
  unfold envOf
  cases e : valN rows n with
  | none => rfl
  | some v =>
    obtain ⟨x, hx, _, ev⟩ := valN_some e
    obtain ⟨b, eb, hb⟩ := h.bit x hx
    rw [← ev, eb]
    rfl
def kindS : Gt → Str
  | .no => "no"
  | .bit _ => "bit"
  | .both _ _ => "both"
  | .unlike _ _ => "unlike"
  | .chosen _ _ _ => "chosen"
  | .most _ _ _ => "most"
def Gt.isBit : Gt → Bool
  | .bit _ => true
  | _ => false
theorem dp_nil {K : PySem.W.Frag} {H : Hp} {vs : List V} (h : DpAll K H vs []) : vs = [] := by cases h; rfl
theorem gt_seq {K : PySem.W.Frag} {H : Hp} {t : Addr} : ∀ {g : Gt}, g.isBit = false → Dp K H (.ref t) g.nk.data → SqT K H t (.str (kindS g) :: g.parts.map V.int) := by
  have hints : ∀ (zs : List Int) (vs : List V), DpAll K H vs (NestedKey.datas (zs.map NestedKey.num)) → vs = zs.map V.int := by
    intro zs
    induction zs with
    | nil => intro vs h; exact dp_nil h
    | cons z zs ih =>
      intro vs h
      cases h with
      | cons h1 h2 =>
        cases h1
        rw [ih _ h2]
        rfl
  have gen : ∀ (x : Str) (zs : List Int), Dp K H (.ref t) (NestedKey.data (.tup (.text x :: zs.map NestedKey.num))) → SqT K H t (.str x :: zs.map V.int) := by
    intro x zs h
    cases h with
    | tup hs ha =>
      cases ha with
      | cons h1 h2 =>
        cases h1
        rw [← hints zs _ h2]
        exact hs
  intro g hg h
  cases g with
  | bit n => cases hg
  | no => exact gen "no" [] h
  | both x y => exact gen "both" [x, y] h
  | unlike x y => exact gen "unlike" [x, y] h
  | chosen c x y => exact gen "chosen" [c, x, y] h
  | most x y z => exact gen "most" [x, y, z] h
theorem bit_seq {K : PySem.W.Frag} {H : Hp} {t : Addr} {n : NK} (h : Dp K H (.ref t) (Gt.bit n).nk.data) : ∃ v, SqT K H t [.str "bit", v] ∧ Dp K H v n.data := by
  cases (show Dp K H (.ref t) (.tuple [.str "bit", n.data]) from h) with
  | tup hs ha =>
    cases ha with
    | cons h1 h2 =>
      cases h1
      cases h2 with
      | cons h3 h4 =>
        cases h4
        exact ⟨_, hs, h3⟩
theorem at0' {α : Type} {x : α} {xs : List α} : atI (x :: xs) 0 = some x := atI_nat (j := 0) rfl
theorem hu_of {k : Nat} {A : Around} (hr : Room k A) : A.units + 1 < cLine := by
  have := room65 hr
  omega
theorem cut_from1 (xs : List V) : cutV xs (some 1) none = xs.drop 1 := by
  unfold cutV
  rw [HT.sIx_none]
  have e1 : HT.sIx xs.length 0 (some 1) = min 1 xs.length := by
    show (if (1 : Int) < 0 then ((1 : Int) + (xs.length : Int)).toNat else min (1 : Int).toNat xs.length) = min 1 xs.length
    rw [if_neg (by decide)] <;> rfl
  rw [e1]
  by_cases h : 1 ≤ xs.length
  · rw [Nat.min_eq_left h, List.take_of_length_le (by rw [List.length_drop]; exact Nat.le_refl _)]
  · have h0 : xs = [] := List.length_eq_zero_iff.mp (by omega)
    rw [h0]
    rfl
theorem not_whole (x : V) (xs : List V) (hi : Option Int) : ¬ (HT.sIx (x :: xs).length 0 (some 1) = 0 ∧ HT.sIx (x :: xs).length (x :: xs).length hi = (x :: xs).length) := fun h => by
  have e1 : HT.sIx (x :: xs).length 0 (some 1) = min 1 (x :: xs).length := by
    show (if (1 : Int) < 0 then ((1 : Int) + ((x :: xs).length : Int)).toNat else min (1 : Int).toNat (x :: xs).length) = min 1 (x :: xs).length
    rw [if_neg (by decide)] <;> rfl
  rw [e1, List.length_cons] at h
  omega
theorem getD_bit {bs : List Int} (h : ∀ b ∈ bs, b = 0 ∨ b = 1) (i : Nat) : bs.getD i 0 = 0 ∨ bs.getD i 0 = 1 := by
  rw [List.getD_eq_getElem?_getD]
  cases e : bs[i]? with
  | none => exact .inl rfl
  | some b => exact h b (List.mem_of_getElem? e)
theorem litv_xor {bs : List Int} (h : ∀ b ∈ bs, b = 0 ∨ b = 1) (x : Int) : Builtin.bitXor (bs.getD (x / 2).toNat 0) (Builtin.bitAnd x 1) = litv bs x := by
  rw [bitAnd_m1]
  unfold litv
  have hb := getD_bit h (x / 2).toNat
  by_cases e : x % 2 = 0
  · rw [e, if_pos rfl, bitXor_zero]
  · rw [if_neg e, show x % 2 = 1 by omega, xor1]
    rcases hb with b | b <;> rw [b] <;> decide
def litV (bs : List Int) : V → V
  | .int x => .int (litv bs x)
  | v => v
theorem litV_map (bs : List Int) (xs : List Int) : (xs.map V.int).map (litV bs) = (xs.map (litv bs)).map V.int := by
  rw [List.map_map, List.map_map]
  rfl
theorem kind_no {g : Gt} (h : g.isBit = false) : ¬ (decide (V.str (kindS g) = V.str "bit") = true) := by
  cases g with
  | bit n => cases h
  | no => show ¬ (decide (V.str "no" = V.str "bit") = true); decide +kernel
  | both x y => show ¬ (decide (V.str "both" = V.str "bit") = true); decide +kernel
  | unlike x y => show ¬ (decide (V.str "unlike" = V.str "bit") = true); decide +kernel
  | chosen c x y => show ¬ (decide (V.str "chosen" = V.str "bit") = true); decide +kernel
  | most x y z => show ¬ (decide (V.str "most" = V.str "bit") = true); decide +kernel
theorem xor_bits {a b : Int} (ha : a = 0 ∨ a = 1) (hb : b = 0 ∨ b = 1) : Builtin.bitXor a b = if a = b then 0 else 1 := by
  rcases ha with rfl | rfl <;> rcases hb with rfl | rfl <;> decide +kernel
/-- the bits of the parts are known -/
def FoundAt (H : Hp) (F : Addr) (kvs : List (Key × V)) (bs : List Int) (xs : List Int) : Prop := H F = some (.dK kvs) ∧ ∀ x ∈ xs, 0 ≤ x ∧ valV kvs (.inl (x / 2)) = some (.int (bs.getD (x / 2).toNat 0))
def spGV (P : Program) (w : World) (K : PySem.W.Frag) : Sp := fun vs H Q _ => ∃ (t F a : Addr) (g : Gt) (kvs : List (Key × V)) (bs : List Int) (rows : NRows), vs = [.ref t, .ref F, .ref a] ∧ Dp K H (.ref t) g.nk.data ∧ g.nk.depth ≤ 8 ∧ (∀ n, g = .bit n → ∃ ks, n = NestedKey.tup ks) ∧ FoundAt H F kvs bs g.parts ∧ (∀ b ∈ bs, b = 0 ∨ b = 1) ∧ BitsAt P w K H a rows ∧ ∀ H', Same H H' → Q (.int (g.val (envOf rows) bs)) H'
section
variable {P : Program} {w : World} {K : PySem.W.Frag} {mg : Str → Option Value} {base : Heap} {f C : Addr} {fd : FuncData}
theorem ok_gate_value (T : Txt K mg) (D : Def K mg "gate_value" ["gate", "found", "bits"] s_gate_value f fd) : Own P w K mg base "gate_value" ["gate", "found", "bits"] 1 (spGV P w K) := by
  refine ⟨f, fd, D.mg, D.fn.kp, D.bd, D.fn.ok sc_gate_value (fun vs H Q E h => ?_) (fun cdv A outer s H vs Q E hr h => ?_)⟩
  · obtain ⟨t, F, a, g, kvs, bs, rows, rfl, _⟩ := h
    rfl
  · obtain ⟨t, F, a, g, kvs, bs, rows, rfl, ht, h8, hnm, hF, hbs, hB, q⟩ := h
    have hu := hu_of hr
    refine ⟨_, (pss_cons (ps_set (i := 3) sc_gate_value.nd rfl (Or.inl rfl) (pe_ix ix_tup (pv 0) pe_int (fun _ _ => rfl)))
      (pss_cons (ps_if (pt_cmpR op_eq (pv 3) pe_str (nomark _)) (pss_one (ps_ret (pe_getN (room65 hr) (pv 2) (pe_ix ix_tup (pv 0) pe_int (fun _ _ => rfl)) pe_int ⟨rfl, rfl, rfl, rfl⟩))) pss_nil)
      (pss_cons (ps_setLc (i := 4) (own := [("x", 5)]) (g := gName 5) (tt := tYes) rfl sc_gate_value.nd rfl rfl (sw_true rfl rfl rfl (by decide +kernel)) (pi_tup (pe_slice sl_tup (pv 0) (po_some pe_int) po_none)) (blkOk_by (N := N_gate_value) (sc := defScope s_gate_value) (own := [("x", 5)]) (by decide +kernel)) (fun _ _ _ _ _ => (pg_name (i := 5) sc_gate_value.nd rfl (Or.inl rfl))) (fun _ _ _ _ _ => pts_nil) (fun _ _ _ _ _ => (pe_op op_xor (pe_dget hu (pv 1) (pe_op op_shr (pv 5) pe_int) (fun _ _ => rfl)) (pe_op op_and (pv 5) pe_int))))
      (pss_cons (ps_if (pt_cmpR op_eq (pv 3) pe_str (nomark _)) (pss_one (ps_ret (pe_op op_xor (pe_ix ix_list (pv 4) pe_int (fun _ _ => rfl)) (pe_ix ix_list (pv 4) pe_int (fun _ _ => rfl))))) pss_nil)
      (pss_cons (ps_if (pt_cmpR op_eq (pv 3) pe_str (nomark _)) (pss_one (ps_ret (pe_ifExp (pt_cmpR op_eq (pe_ix ix_list (pv 4) pe_int (fun _ _ => rfl)) pe_int (nomark _)) (pe_ix ix_list (pv 4) pe_int (fun _ _ => rfl)) (pe_ix ix_list (pv 4) pe_int (fun _ _ => rfl))))) pss_nil)
      (pss_one (ps_ret (pe_ifExp (pt_cmpR op_ge (pe_callB (cr_sum rfl) (by rfl) T.m_sum (by decide +kernel) (pa_cons (pv 4) pa_nil)) pe_int (nomark _)) pe_int pe_int)))))))), ?_⟩
    cases hb : g.isBit with
    | true =>
      obtain ⟨n, rfl⟩ : ∃ n, g = .bit n := by
        cases g with
        | bit n => exact ⟨n, rfl⟩
        | _ => cases hb
      obtain ⟨v, hs, hv⟩ := bit_seq ht
      obtain ⟨ks, rfl⟩ := hnm n rfl
      obtain ⟨b, rfl⟩ : ∃ b, v = .ref b := by cases hv; exact ⟨_, rfl⟩
      refine ⟨_, rfl, t, _, _, _, rfl, rfl, hs, rfl, ?_⟩
      refine ⟨_, rfl, rfl, _, rfl, ite2 (fun _ => ?_) (fun c => absurd (decide_eq_true rfl) c)⟩
      refine ⟨_, rfl, a, rows, rfl, hB.dn, _, rfl, t, _, _, _, rfl, rfl, hs, rfl, b, _, rows, rfl, hv, ?_, hB.dn, ?_⟩
      · simp only [Gt.nk, NestedKey.depth, NestedKey.depthAll] at h8 ⊢
        omega
      · rw [envOf_get hB]
        exact q H (Same.refl _)
    | false =>
      have hs := gt_seq hb ht
      refine ⟨_, rfl, t, _, _, _, rfl, rfl, hs, at0', ?_⟩
      refine ⟨_, rfl, rfl, _, rfl, ite2 (fun c => absurd c (kind_no hb)) (fun _ => ?_)⟩
      refine ⟨_, rfl, _, rfl, t, _, rfl, hs, not_whole _ _ _, fun p hp => ?_⟩
      rw [cut_from1]
      have s1 := same_new hp (.tup ((V.str (kindS g) :: g.parts.map V.int).drop 1))
      have hlen : ((V.str (kindS g) :: g.parts.map V.int).drop 1).length ≤ 1000 := by
        show (g.parts.map V.int).length ≤ 1000
        rw [List.length_map]
        cases g <;> (simp only [Gt.parts, List.length_cons, List.length_nil]; omega)
      refine ⟨p, rfl, ⟨_, SqT.of upd_same⟩, fun D1 hD1 => lc_mapT (litV bs) (SqT.of upd_same) hlen hD1 (fun _ => rfl) (fun y H2 R hy s2 r => ?_) fun H1 h1 s2 => ?_⟩
      · obtain ⟨x, hx, rfl⟩ := List.mem_map.mp (show y ∈ g.parts.map V.int from hy)
        obtain ⟨x0, hv⟩ := hF.2 x hx
        have hF2 := s2 _ _ (s1 _ _ hF.1)
        refine ⟨_, rfl, _, rfl, _, _, rfl, rfl, (by show (0 : Int) ≤ 1; decide), F, _, rfl, (by rw [← hv]; show DGet H2 F (V.int (x / 2)) _; exact DGet.k (k := .inl (x / 2)) hF2), _, rfl, _, _, rfl, rfl, _, _, rfl, rfl, ?_⟩
        show R (V.int (Builtin.bitXor (bs.getD (x / 2).toNat 0) (Builtin.bitAnd x 1))) H2
        rw [litv_xor hbs]
        exact r
      · rw [show (V.str (kindS g) :: g.parts.map V.int).drop 1 = g.parts.map V.int from rfl, litV_map] at h1
        have sA := s1.trans s2
        have lb := fun x => litv_bit hbs x
        have h1L := SqL.of (K := K) h1
        cases g with
        | bit n => cases hb
        | no =>
          refine ⟨_, rfl, rfl, _, rfl, ite2 (fun c => absurd c (by show ¬ (decide (V.str "no" = V.str "unlike") = true); decide +kernel)) (fun _ => ?_)⟩
          refine ⟨_, rfl, rfl, _, rfl, ite2 (fun c => absurd c (by show ¬ (decide (V.str "no" = V.str "chosen") = true); decide +kernel)) (fun _ => ?_)⟩
          exact ⟨_, rfl, D1, _, rfl, h1L, _, _, rfl, rfl, _, rfl, q H1 sA⟩
        | both x y =>
          refine ⟨_, rfl, rfl, _, rfl, ite2 (fun c => absurd c (by show ¬ (decide (V.str "both" = V.str "unlike") = true); decide +kernel)) (fun _ => ?_)⟩
          refine ⟨_, rfl, rfl, _, rfl, ite2 (fun c => absurd c (by show ¬ (decide (V.str "both" = V.str "chosen") = true); decide +kernel)) (fun _ => ?_)⟩
          refine ⟨_, rfl, D1, _, rfl, h1L, _, _, rfl, rfl, _, rfl, ?_⟩
          have hq := q H1 sA
          have e : Gt.val (envOf rows) bs (.both x y) = if litv bs x + litv bs y ≥ 2 then 1 else 0 := rfl
          rw [e] at hq
          refine ite2 (fun c => ?_) (fun c => ?_)
          · have c : (2 : Int) ≤ litv bs x + (litv bs y + 0) := of_decide_eq_true c
            rw [if_pos (by omega)] at hq
            exact hq
          · rw [if_neg (fun z => c (decide_eq_true (by show (2 : Int) ≤ litv bs x + (litv bs y + 0); omega)))] at hq
            exact hq
        | unlike x y =>
          refine ⟨_, rfl, rfl, _, rfl, ite2 (fun _ => ?_) (fun c => absurd (decide_eq_true rfl) c)⟩
          refine ⟨_, rfl, D1, _, _, _, rfl, rfl, h1L, rfl, _, rfl, D1, _, _, _, rfl, rfl, h1L, rfl, _, _, rfl, rfl, ?_⟩
          have hq := q H1 sA
          have e : Gt.val (envOf rows) bs (.unlike x y) = Builtin.bitXor (litv bs x) (litv bs y) := by
            rw [xor_bits (lb x) (lb y)]
            rfl
          rw [e] at hq
          exact hq
        | chosen c x y =>
          refine ⟨_, rfl, rfl, _, rfl, ite2 (fun c => absurd c (by show ¬ (decide (V.str "chosen" = V.str "unlike") = true); decide +kernel)) (fun _ => ?_)⟩
          refine ⟨_, rfl, rfl, _, rfl, ite2 (fun _ => ?_) (fun c => absurd (decide_eq_true rfl) c)⟩
          have hq := q H1 sA
          have e : Gt.val (envOf rows) bs (.chosen c x y) = if litv bs c = 1 then litv bs x else litv bs y := rfl
          rw [e] at hq
          refine ⟨_, rfl, D1, _, _, _, rfl, rfl, h1L, rfl, rfl, _, rfl, ite2 (fun b => ?_) (fun b => ?_)⟩
          · rw [if_pos (int_of b)] at hq
            exact ⟨_, rfl, D1, _, _, _, rfl, rfl, h1L, rfl, hq⟩
          · rw [if_neg (fun z => b (decide_eq_true (by rw [z])))] at hq
            exact ⟨_, rfl, D1, _, _, _, rfl, rfl, h1L, rfl, hq⟩
        | most x y z =>
          refine ⟨_, rfl, rfl, _, rfl, ite2 (fun c => absurd c (by show ¬ (decide (V.str "most" = V.str "unlike") = true); decide +kernel)) (fun _ => ?_)⟩
          refine ⟨_, rfl, rfl, _, rfl, ite2 (fun c => absurd c (by show ¬ (decide (V.str "most" = V.str "chosen") = true); decide +kernel)) (fun _ => ?_)⟩
          refine ⟨_, rfl, D1, _, rfl, h1L, _, _, rfl, rfl, _, rfl, ?_⟩
          have hq := q H1 sA
          have e : Gt.val (envOf rows) bs (.most x y z) = if litv bs x + litv bs y + litv bs z ≥ 2 then 1 else 0 := rfl
          rw [e] at hq
          refine ite2 (fun c => ?_) (fun c => ?_)
          · have c : (2 : Int) ≤ litv bs x + (litv bs y + (litv bs z + 0)) := of_decide_eq_true c
            rw [if_pos (by omega)] at hq
            exact hq
          · rw [if_neg (fun e => c (decide_eq_true (by show (2 : Int) ≤ litv bs x + (litv bs y + (litv bs z + 0)); omega)))] at hq
            exact hq
end
end My


set_option Elab.async false
set_option maxRecDepth 100000
set_option maxHeartbeats 4000000
set_option linter.all false
namespace My
open PySem L2 PyProof.Rows
open C8 (pss_cut)
def seenK (ys : List Int) : List (Key × V) := ys.map fun y => (Sum.inl y, V.bl true)
theorem seen_val (ys : List Int) (k : Int) : (valV (seenK ys) (.inl k)).isSome = decide (k ∈ ys) := by
  unfold seenK
  induction ys with
  | nil => rfl
  | cons y ys ih =>
    unfold valV at *
    rw [List.map_cons]
    by_cases h : y = k
    · rw [List.find?_cons_of_pos (by simp [h]), decide_eq_true (by rw [h]; exact List.mem_cons_self)]
      rfl
    · rw [List.find?_cons_of_neg (by simp [h]), ih]
      by_cases h2 : k ∈ ys
      · rw [decide_eq_true h2, decide_eq_true (List.mem_cons_of_mem _ h2)]
      · rw [decide_eq_false h2, decide_eq_false (fun m => (List.mem_cons.mp m).elim (fun e => h e.symm) h2)]
theorem seen_put {ys : List Int} {k : Int} (h : k ∉ ys) : putK (seenK ys) (.inl k) (.bl true) = seenK (ys ++ [k]) := by
  have e := seen_val ys k
  rw [decide_eq_false h] at e
  unfold putK
  rw [valV_any, e]
  unfold seenK
  rw [List.map_append]
  rfl
/-- a set of gates that holds the gates of the parts, too -/
structure Cone (gs : List Gt) (xs ys : List Int) : Prop where
  asc : ys.Pairwise (· < ·)
  rng : ∀ y ∈ ys, 0 ≤ y ∧ y < (gs.length : Int)
  has : ∀ x ∈ xs, x / 2 ∈ ys
  cl : ∀ y ∈ ys, ∀ g, gs[y.toNat]? = some g → ∀ z ∈ g.parts, z / 2 ∈ ys
def halfV : V → V
  | .int x => .int (x / 2)
  | v => v
theorem halfV_map (xs : List Int) : (xs.map V.int).map halfV = (xs.map fun x => x / 2).map V.int := by
  rw [List.map_map, List.map_map]
  rfl
structure CI (gs : List Gt) (xs : List Int) (H0 H' : Hp) (S T F : Addr) (ys ts : List Int) : Prop where
  s : Same H0 H'
  sS : H' S = some (.dK (seenK ys))
  sT : H' T = some (.lst (ts.map V.int))
  sF : H' F = some (.lst (ys.map V.int))
  nTF : T ≠ F
  fS : H0 S = none
  fT : H0 T = none
  fF : H0 F = none
  nd : ys.Nodup
  ry : ∀ y ∈ ys, 0 ≤ y ∧ y < (gs.length : Int)
  rt : ∀ y ∈ ts, 0 ≤ y ∧ y < (gs.length : Int)
  has : ∀ x ∈ xs, x / 2 ∈ ys ∨ x / 2 ∈ ts
  cl : ∀ y ∈ ys, ∀ g, gs[y.toNat]? = some g → ∀ z ∈ g.parts, z / 2 ∈ ys ∨ z / 2 ∈ ts
  len : ts.length ≤ 100 + 3 * ys.length
theorem few_of {ys : List Int} {n : Nat} (nd : ys.Nodup) (h : ∀ y ∈ ys, 0 ≤ y ∧ y < (n : Int)) : ys.length ≤ n := by
  have := List.Nodup.length_le_of_subset (l₂ := (List.range n).map fun (i : Nat) => (i : Int)) nd fun y hy => List.mem_map.mpr ⟨y.toNat, List.mem_range.mpr (by have := h y hy; omega), by have := h y hy; omega⟩
  rw [List.length_map, List.length_range] at this
  exact this
theorem parts_len (g : Gt) : g.parts.length ≤ 3 := by cases g <;> simp [Gt.parts]
def spCone (P : Program) (w : World) (K : PySem.W.Frag) (C : Addr) : Sp := fun vs H Q _ => ∃ (H0 : Hp) (p G D l S : Addr) (gs : List Gt) (xs : List Int), vs = [.ref p, .ref l, .ref S] ∧ Same H0 H ∧ H0 S = none ∧ H S = some (.dK []) ∧ PoolAt P w K H0 C p G D gs ∧ SqL K H0 l (xs.map V.int) ∧ (∀ x ∈ xs, okL gs x) ∧ xs.length ≤ 100 ∧ gs.length ≤ 10000 ∧
  ∀ H' r ys, Same H0 H' → H' r = some (.lst (ys.map V.int)) → Cone gs xs ys → Q (.ref r) H'
section
variable {P : Program} {w : World} {K : PySem.W.Frag} {mg : Str → Option Value} {base : Heap} {f C : Addr} {fd : FuncData}
theorem ok_cone (T : Txt K mg) (PK : PlK K C) (D : DefM K C "cone" "Pool.cone" ["self", "literals", "seen"] s_Pool_cone f fd) : OwnM P w K mg base C "cone" ["self", "literals", "seen"] 1 (spCone P w K C) := by
  refine ⟨f, fd, D.me, D.bd, D.fn.ok sc_Pool_cone (fun vs H Q E h => ?_) (fun cdv A outer s H9 vs Q E hr h => ?_)⟩
  · obtain ⟨H0, p, G, D', l, S, gs, xs, rfl, _⟩ := h
    rfl
  · obtain ⟨H, p, G, D', l, S, gs, xs, rfl, s1, hS, hS1, A0, hl, hx, hxl, h64, q⟩ := h
    obtain ⟨dx, ts0, h1, h2, h3, h4, h5⟩ := A0.at_
    have hu := hu_of hr
    refine ⟨_, (pss_cons (ps_set (i := 3) sc_Pool_cone.nd rfl (Or.inl rfl) (pe_lst pa_nil))
      (pss_cons (ps_setLc (i := 4) (own := [("x", 7)]) (g := gName 7) (tt := tYes) rfl sc_Pool_cone.nd rfl rfl (sw_true rfl rfl rfl (by decide +kernel)) (pi_list (pv 1)) (blkOk_by (N := N_Pool_cone) (sc := defScope s_Pool_cone) (own := [("x", 7)]) (by decide +kernel)) (fun _ _ _ _ _ => (pg_name (i := 7) sc_Pool_cone.nd rfl (Or.inl rfl))) (fun _ _ _ _ _ => pts_nil) (fun _ _ _ _ _ => (pe_op op_shr (pv 7) pe_int)))
      (pss_cons (ps_while PassesOwn.never (pt_cmpR op_gt (pe_callB call_len_seq (by rfl) T.m_len (by decide +kernel) (pa_cons (pv 4) pa_nil)) pe_int (nomark _)) (pss_cons (ps_set (i := 5) sc_Pool_cone.nd rfl (Or.inl rfl) (pe_bm0 PySem.F.plainAttrs_list PySem.F.slot_list_pop PySem.F.type_list_pop mt_pop (pv 4)))
      (pss_one (ps_if (pt_cmp (pc_dnotin hu (pv 5) (pv 2))) (pss_cons (ps_dput hu (pv 2) (pv 5) pe_bl rfl)
      (pss_cons (ps_expr (pe_bm PySem.F.plainAttrs_list PySem.F.slot_list_append PySem.F.type_list_append mt_append (pv 3) (pa_cons (pv 5) pa_nil)))
      (pss_cons (ps_set (i := 6) sc_Pool_cone.nd rfl (Or.inl rfl) (pe_ix ix_list (pe_fld (pv 0) (by rfl)) (pv 5) (fun _ _ => rfl)))
      (pss_one (ps_if (pt_cmpR op_ne (pe_ix ix_tup (pv 6) pe_int (fun _ _ => rfl)) pe_str (nomark _)) (pss_one (ps_expr (pe_bm PySem.F.plainAttrs_list PySem.F.slot_list_extend PySem.F.type_list_extend mt_extend (pv 4) (pa_cons (pe_lc (own := [("x", 7)]) (g := gName 7) (tt := tYes) rfl sc_Pool_cone.nd (pi_tup (pe_slice sl_tup (pv 6) (po_some pe_int) po_none)) (blkOk_by (N := N_Pool_cone) (sc := defScope s_Pool_cone) (own := [("x", 7)]) (by decide +kernel)) (fun _ _ _ _ _ => (pg_name (i := 7) sc_Pool_cone.nd rfl (Or.inl rfl))) (fun _ _ _ _ _ => pts_nil) (fun _ _ _ _ _ => (pe_op op_shr (pv 7) pe_int))) pa_nil)))) pss_nil))))) pss_nil))))
      (pss_one (ps_ret (pe_callB cr_sortedI (by rfl) T.m_sorted (by decide +kernel) (pa_cons (pv 3) pa_nil))))))), ?_⟩
    have hN : ∀ x ∈ xs.map (fun x => x / 2), 0 ≤ x ∧ x < (gs.length : Int) := fun x hm => by
      obtain ⟨z, hz, rfl⟩ := List.mem_map.mp hm
      have := (hx z hz).1
      have := (hx z hz).2
      omega
    refine ⟨by show 0 ≤ sizeLine; decide, fun F hF => ?_⟩
    have s0 := same_new hF (.lst [])
    have sF := s1.trans s0
    refine ⟨_, rfl, l, rfl, ⟨_, sql_mono sF hl⟩, fun TD hTD => lc_mapL halfV (sql_mono sF hl) (by rw [List.length_map]; omega) hTD (fun _ => rfl) (fun y H2 R hy s2 r => ?_) fun H1 h1' s2 => ?_⟩
    · obtain ⟨x, hx', rfl⟩ := List.mem_map.mp hy
      exact ⟨_, rfl, _, _, rfl, rfl, (by show (0 : Int) ≤ 1; decide), r⟩
    rw [halfV_map] at h1'
    have fT : H TD = none := by
      cases e : H TD with
      | none => rfl
      | some u =>
        rw [sF _ _ e] at hTD
        cases hTD
    have fF : H F = none := by
      cases e : H F with
      | none => rfl
      | some u =>
        rw [s1 _ _ e] at hF
        cases hF
    have nTF : TD ≠ F := fun e => by rw [e, upd_same] at hTD; cases hTD
    have I0 : CI gs xs H H1 S TD F [] (xs.map fun x => x / 2) := ⟨sF.trans s2, s2 _ _ (s0 _ _ hS1), h1', s2 _ _ upd_same, nTF, hS, fT, fF, List.nodup_nil, (fun y hy => nomatch hy), hN, (fun x hx => .inr (List.mem_map.mpr ⟨x, hx, rfl⟩)), (fun y hy => nomatch hy), by rw [List.length_map]; omega⟩
    refine ⟨fun m σ' H' => ∃ (ys ts : List Int) (o4 o5 : Option V), σ' = [some (.ref p), some (.ref l), some (.ref S), some (.ref F), some (.ref TD), o4, o5, none] ∧ CI gs xs H H' S TD F ys ts ∧ m = 4 * (gs.length - ys.length) + ts.length, ⟨_, [], _, none, none, rfl, I0, rfl⟩, ?_⟩
    rintro m σ' H' ⟨ys, ts, o4, o5, rfl, I, rfl⟩
    have nST : S ≠ TD := ne_of I.sS I.sT (by intro z; cases z)
    have nSF : S ≠ F := ne_of I.sS I.sF (by intro z; cases z)
    refine ⟨_, rfl, TD, _, rfl, .inl (SqL.of I.sT), _, _, rfl, rfl, _, rfl, ite2 (fun c => ?_) (fun c => ?_)⟩
    · have c : (0 : Int) < ((ts.map V.int).length : Int) := of_decide_eq_true c
      rw [List.length_map] at c
      obtain ⟨t1, k, rfl⟩ : ∃ t1 k, ts = t1 ++ [k] := by
        rcases snoc_cases ts with e | e
        · rw [e] at c; exact absurd c (by decide)
        · exact e
      have rk := I.rt k (List.mem_append_right _ (List.mem_singleton_self k))
      refine ⟨fun σ2 H2 => ∃ (ys2 ts2 : List Int) (o4 o5 : Option V), σ2 = [some (.ref p), some (.ref l), some (.ref S), some (.ref F), some (.ref TD), o4, o5, none] ∧ CI gs xs H H2 S TD F ys2 ts2 ∧ 4 * (gs.length - ys2.length) + ts2.length < 4 * (gs.length - ys.length) + (t1 ++ [k]).length, fun σ2 H2 ⟨ys2, ts2, o4, o5, e1, e2, e3⟩ => ⟨_, e3, ys2, ts2, o4, o5, e1, e2, rfl⟩, ?_⟩
      have hdl : ((t1 ++ [k]).map V.int).dropLast = t1.map V.int := by rw [List.map_append]; exact List.dropLast_concat
      refine ⟨_, rfl, .inl ⟨rfl, _, SqL.of I.sT⟩, TD, _, .int k, rfl, rfl, I.sT, ?_, ?_⟩
      · rw [List.map_append, List.length_append]
        show (t1.map V.int ++ [V.int k])[(t1.map V.int).length + 1 - 1]? = _
        rw [List.getElem?_append_right (by omega), show (t1.map V.int).length + 1 - 1 - (t1.map V.int).length = 0 by omega]
        rfl
      rw [hdl]
      have sA : Same H (upd H' TD (.lst (t1.map V.int))) := fun b o hb => by
        rw [upd_ne (ne_of_none hb I.fT)]
        exact I.s b o hb
      have sFA : (upd H' TD (.lst (t1.map V.int))) F = some (.lst (ys.map V.int)) := by rw [upd_ne nTF.symm]; exact I.sF
      have sSA : (upd H' TD (.lst (t1.map V.int))) S = some (.dK (seenK ys)) := by rw [upd_ne nST]; exact I.sS
      refine ⟨_, rfl, _, rfl, S, _, rfl, DGet.k (k := .inl k) sSA, _, rfl, ?_⟩
      rw [seen_val]
      by_cases hk : k ∈ ys
      · rw [decide_eq_true hk]
        refine iteF ?_
        refine ⟨ys, t1, _, _, rfl, ⟨sA, sSA, upd_same, sFA, nTF, I.fS, I.fT, I.fF, I.nd, I.ry, fun y hy => I.rt y (List.mem_append_left _ hy), fun x hx => ?_, fun y hy g hg z hz => ?_, by have := I.len; rw [List.length_append] at this; omega⟩, by rw [List.length_append, List.length_singleton]; omega⟩
        · rcases I.has x hx with h | h
          · exact .inl h
          · rcases List.mem_append.mp h with h | h
            · exact .inr h
            · rw [List.mem_singleton.mp h]; exact .inl hk
        · rcases I.cl y hy g hg z hz with h | h
          · exact .inl h
          · rcases List.mem_append.mp h with h | h
            · exact .inr h
            · rw [List.mem_singleton.mp h]; exact .inl hk
      · rw [decide_eq_false hk]
        refine iteT ?_
        have ysl := few_of I.nd I.ry
        have nd2 : (ys ++ [k]).Nodup := by
          rw [List.nodup_append]
          exact ⟨I.nd, by simp, fun a ha b hb e => hk (by rw [← List.mem_singleton.mp hb, ← e]; exact ha)⟩
        have ry2 : ∀ y ∈ ys ++ [k], 0 ≤ y ∧ y < (gs.length : Int) := fun y hy => by
          rcases List.mem_append.mp hy with h | h
          · exact I.ry y h
          · rw [List.mem_singleton.mp h]; exact rk
        have ysl2 := few_of nd2 ry2
        rw [List.length_append, List.length_singleton] at ysl2
        refine ⟨_, rfl, _, rfl, S, _, rfl, DPut.k (k := .inl k) sSA (by unfold seenK; rw [List.length_map]; exact Nat.lt_of_le_of_lt (Nat.le_trans ysl h64) (by decide)), ?_⟩
        rw [seen_put hk]
        have sB0 : Same H (upd (upd H' TD (.lst (t1.map V.int))) S (.dK (seenK (ys ++ [k])))) := fun b o hb => by
          rw [upd_ne (ne_of_none hb I.fS)]
          exact sA b o hb
        have sFB0 : (upd (upd H' TD (.lst (t1.map V.int))) S (.dK (seenK (ys ++ [k])))) F = some (.lst (ys.map V.int)) := by rw [upd_ne nSF.symm]; exact sFA
        refine ⟨_, rfl, .inl ⟨rfl, _, SqL.of sFB0⟩, _, rfl, F, _, _, rfl, rfl, sFB0, by rw [List.length_map]; exact Nat.lt_of_le_of_lt (Nat.le_trans ysl h64) (by decide), ?_⟩
        have eF : ys.map V.int ++ [V.int k] = (ys ++ [k]).map V.int := by rw [List.map_append]; rfl
        rw [eF]
        have sB : Same H (upd (upd (upd H' TD (.lst (t1.map V.int))) S (.dK (seenK (ys ++ [k])))) F (.lst ((ys ++ [k]).map V.int))) := fun b o hb => by
          rw [upd_ne (ne_of_none hb I.fF)]
          exact sB0 b o hb
        have sSB : (upd (upd (upd H' TD (.lst (t1.map V.int))) S (.dK (seenK (ys ++ [k])))) F (.lst ((ys ++ [k]).map V.int))) S = some (.dK (seenK (ys ++ [k]))) := by rw [upd_ne nSF]; exact upd_same
        have sTB : (upd (upd (upd H' TD (.lst (t1.map V.int))) S (.dK (seenK (ys ++ [k])))) F (.lst ((ys ++ [k]).map V.int))) TD = some (.lst (t1.map V.int)) := by rw [upd_ne nTF, upd_ne nST.symm]; exact upd_same
        have sFB : (upd (upd (upd H' TD (.lst (t1.map V.int))) S (.dK (seenK (ys ++ [k])))) F (.lst ((ys ++ [k]).map V.int))) F = some (.lst ((ys ++ [k]).map V.int)) := upd_same
        obtain ⟨g, hg⟩ : ∃ g, gs[k.toNat]? = some g := ⟨gs[k.toNat]'(by omega), List.getElem?_eq_getElem (by omega)⟩
        obtain ⟨t, htk⟩ : ∃ t, ts0[k.toNat]? = some t := ⟨ts0[k.toNat]'(by omega), List.getElem?_eq_getElem (by omega)⟩
        obtain ⟨hd, _⟩ := h4 _ g t hg htk
        have hdB := dp_mono sB _ hd
        have hat : atI (ts0.map V.ref) k = some (.ref t) := by
          have e := atI_nat (xs := ts0.map V.ref) (j := k.toNat) (v := .ref t) (by rw [List.getElem?_map, htk]; rfl)
          rw [show ((k.toNat : Nat) : Int) = k by omega] at e
          exact e
        refine ⟨_, rfl, p, C, dx, _, _, rfl, sB _ _ h1, PK.cls, PK.g, plFs_g _ _, _, rfl, G, _, k, _, rfl, rfl, SqL.of (sB _ _ h2), hat, ?_⟩
        have cl2 : ∀ (more : List Int), (∀ z ∈ g.parts, z / 2 ∈ more) → ∀ y ∈ ys ++ [k], ∀ g', gs[y.toNat]? = some g' → ∀ z ∈ g'.parts, z / 2 ∈ ys ++ [k] ∨ z / 2 ∈ t1 ++ more := fun more hm y hy g' hg' z hz => by
          rcases List.mem_append.mp hy with h | h
          · rcases I.cl y h g' hg' z hz with h | h
            · exact .inl (List.mem_append_left _ h)
            · rcases List.mem_append.mp h with h | h
              · exact .inr (List.mem_append_left _ h)
              · exact .inl (List.mem_append_right _ h)
          · rw [List.mem_singleton.mp h, hg] at hg'
            cases hg'
            exact .inr (List.mem_append_right _ (hm z hz))
        have has2 : ∀ (more : List Int), ∀ x ∈ xs, x / 2 ∈ ys ++ [k] ∨ x / 2 ∈ t1 ++ more := fun more x hx => by
          rcases I.has x hx with h | h
          · exact .inl (List.mem_append_left _ h)
          · rcases List.mem_append.mp h with h | h
            · exact .inr (List.mem_append_left _ h)
            · exact .inl (List.mem_append_right _ h)
        have hlen := I.len
        rw [List.length_append, List.length_singleton] at hlen
        cases hb : g.isBit with
        | true =>
          obtain ⟨n, rfl⟩ : ∃ n, g = .bit n := by
            cases g with
            | bit n => exact ⟨n, rfl⟩
            | _ => cases hb
          obtain ⟨v, hs, hv⟩ := bit_seq hdB
          refine ⟨_, rfl, t, _, _, _, rfl, rfl, hs, rfl, rfl, _, rfl, ite2 (fun c => absurd c (by show ¬ ((!decide (V.str "bit" = V.str "bit")) = true); decide +kernel)) (fun _ => ?_)⟩
          refine ⟨ys ++ [k], t1, _, _, rfl, ⟨sB, sSB, sTB, sFB, nTF, I.fS, I.fT, I.fF, nd2, ry2, fun y hy => I.rt y (List.mem_append_left _ hy), fun x hx => ?_, fun y hy g hg z hz => ?_, by rw [List.length_append]; omega⟩, by rw [List.length_append, List.length_append, List.length_singleton]; omega⟩
          · have := has2 [] x hx
            rw [List.append_nil] at this
            exact this
          · have := cl2 [] (fun z hz => nomatch hz) y hy g hg z hz
            rw [List.append_nil] at this
            exact this
        | false =>
          have hs := gt_seq hb hdB
          refine ⟨_, rfl, t, _, _, _, rfl, rfl, hs, at0', rfl, _, rfl, ite2 (fun _ => ?_) (fun c => absurd (by show (!decide (V.str (kindS g) = V.str "bit")) = true; rw [Bool.not_eq_true'] ; exact Bool.eq_false_iff.mpr (kind_no hb)) c)⟩
          refine ⟨_, rfl, .inl ⟨rfl, _, SqL.of sTB⟩, _, rfl, _, rfl, t, _, rfl, hs, not_whole _ _ _, fun p2 hp2 => ?_⟩
          rw [cut_from1]
          have sC := same_new hp2 (.tup ((V.str (kindS g) :: g.parts.map V.int).drop 1))
          have hl3 := parts_len g
          refine ⟨p2, rfl, ⟨_, SqT.of upd_same⟩, fun D1 hD1 => lc_mapT halfV (SqT.of upd_same) (by show (g.parts.map V.int).length ≤ 1000; rw [List.length_map]; omega) hD1 (fun _ => rfl) (fun y H2 R hy s2 r => ?_) fun H3 h3' s3 => ?_⟩
          · obtain ⟨x, hx, rfl⟩ := List.mem_map.mp (show y ∈ g.parts.map V.int from hy)
            exact ⟨_, rfl, _, _, rfl, rfl, (by show (0 : Int) ≤ 1; decide), r⟩
          rw [show (V.str (kindS g) :: g.parts.map V.int).drop 1 = g.parts.map V.int from rfl, halfV_map] at h3'
          have sD := (sC.trans s3)
          refine ⟨TD, D1, _, _, rfl, rfl, sD _ _ sTB, h3', ?_, ?_⟩
          · rw [List.length_map, List.length_map, List.length_map]
            exact Nat.le_trans (by omega) (show 40000 ≤ sizeLine by decide)
          have sE : Same H (upd H3 TD (.lst (t1.map V.int ++ (g.parts.map fun x => x / 2).map V.int))) := fun b o hb => by
            rw [upd_ne (ne_of_none hb I.fT)]
            exact sD _ _ (sB b o hb)
          refine ⟨ys ++ [k], t1 ++ g.parts.map (fun x => x / 2), _, _, rfl, ⟨sE, by rw [upd_ne nST]; exact sD _ _ sSB, by rw [upd_same, List.map_append], by rw [upd_ne nTF.symm]; exact sD _ _ sFB, nTF, I.fS, I.fT, I.fF, nd2, ry2, fun y hy => ?_, has2 _, cl2 _ (fun z hz => List.mem_map.mpr ⟨z, hz, rfl⟩), by rw [List.length_append, List.length_append, List.length_map, List.length_singleton]; omega⟩, ?_⟩
          · rcases List.mem_append.mp hy with h | h
            · exact I.rt y (List.mem_append_left _ h)
            · obtain ⟨z, hz, rfl⟩ := List.mem_map.mp h
              have := A0.ok.parts _ g hg z hz
              omega
          · rw [List.length_append, List.length_append, List.length_append, List.length_map, List.length_singleton]
            omega
    · have c : ¬ (0 : Int) < ((ts.map V.int).length : Int) := fun z => c (decide_eq_true z)
      rw [List.length_map] at c
      have e0 : ts = [] := List.length_eq_zero_iff.mp (by omega)
      rw [e0] at I
      have ysl := few_of I.nd I.ry
      refine ⟨_, rfl, F, ys, rfl, SqL.of I.sF, fun zs r pm asc hr' => ?_⟩
      refine q _ r zs (I.s.trans (same_new hr' _)) upd_same ⟨?_, fun y hy => I.ry y (pm.mem_iff.mp hy), fun x hx => ?_, fun y hy g hg z hz => ?_⟩
      · have ndz : zs.Nodup := pm.nodup_iff.mpr I.nd
        exact (asc.and ndz).imp fun {a b} h => by have := h.1; have := h.2; omega
      · rcases I.has x hx with h | h
        · exact pm.mem_iff.mpr h
        · cases h
      · rcases I.cl y (pm.mem_iff.mp hy) g hg z hz with h | h
        · exact pm.mem_iff.mpr h
        · cases h
end
end My


set_option Elab.async false
set_option maxRecDepth 100000
set_option maxHeartbeats 4000000
set_option linter.all false
namespace My
open PySem L2 PyProof.Rows
open C8 (pss_cut)
def foundK (bs : List Int) (ys : List Int) : List (Key × V) := ys.map fun y => (Sum.inl y, V.int (bs.getD y.toNat 0))
theorem found_val {bs ys : List Int} {k : Int} (h : k ∈ ys) : valV (foundK bs ys) (.inl k) = some (.int (bs.getD k.toNat 0)) := by
  unfold foundK
  induction ys with
  | nil => cases h
  | cons y ys ih =>
    unfold valV at *
    rw [List.map_cons]
    by_cases e : y = k
    · rw [List.find?_cons_of_pos (by simp [e]), e]
      rfl
    · rw [List.find?_cons_of_neg (by simp [e])]
      exact ih ((List.mem_cons.mp h).resolve_left fun z => e z.symm)
theorem found_no {bs ys : List Int} {k : Int} (h : k ∉ ys) : valV (foundK bs ys) (.inl k) = none := by
  unfold foundK
  induction ys with
  | nil => rfl
  | cons y ys ih =>
    unfold valV at *
    rw [List.map_cons, List.find?_cons_of_neg (by simp; exact fun e => h (by rw [e]; exact List.mem_cons_self))]
    exact ih fun m => h (List.mem_cons_of_mem _ m)
theorem found_put {bs ys : List Int} {k : Int} (h : k ∉ ys) : putK (foundK bs ys) (.inl k) (.int (bs.getD k.toNat 0)) = foundK bs (ys ++ [k]) := by
  have e := found_no (bs := bs) h
  unfold putK
  rw [valV_any, e]
  unfold foundK
  rw [List.map_append]
  rfl
def spComp (P : Program) (w : World) (K : PySem.W.Frag) (C : Addr) : Sp := fun vs H Q _ => ∃ (p G D l a : Addr) (gs : List Gt) (xs : List Int) (rows : NRows), vs = [.ref p, .ref l, .ref a] ∧ PoolAt P w K H C p G D gs ∧ SqL K H l (xs.map V.int) ∧ (∀ x ∈ xs, okL gs x) ∧ xs.length ≤ 100 ∧ gs.length ≤ 10000 ∧ BitsAt P w K H a rows ∧
  ∀ H' r, Same H H' → H' r = some (.lst ((xs.map (litv (bitsOf (envOf rows) gs))).map V.int)) → Q (.ref r) H'
def spVal (P : Program) (w : World) (K : PySem.W.Frag) (C : Addr) : Sp := fun vs H Q _ => ∃ (p G D a : Addr) (gs : List Gt) (x : Int) (rows : NRows), vs = [.ref p, .int x, .ref a] ∧ PoolAt P w K H C p G D gs ∧ okL gs x ∧ gs.length ≤ 10000 ∧ BitsAt P w K H a rows ∧
  ∀ H', Same H H' → Q (.int (litv (bitsOf (envOf rows) gs) x)) H'
theorem BitsAt.keep {P : Program} {w : World} {K : PySem.W.Frag} {H H' : Hp} {a : Addr} {rows : NRows} (B : BitsAt P w K H a rows) {S : List Addr} (hS : ∀ a ∈ S, Mut (H a)) (hb : But S H H') (na : a ∉ S) : BitsAt P w K H' a rows := by
  refine ⟨⟨?_, B.dn.len, fun x hx => ?_⟩, B.bit⟩
  · rcases B.dn.at_ with e | ⟨e0, e⟩
    · exact .inl (hb _ _ na e)
    · exact .inr ⟨e0, hb _ _ na e⟩
  · obtain ⟨k1, k2⟩ := B.dn.keys x hx
    exact ⟨dp_but hS hb _ (nk_noLst _) k1, k2⟩
theorem BitsAt.same {P : Program} {w : World} {K : PySem.W.Frag} {H H' : Hp} {a : Addr} {rows : NRows} (B : BitsAt P w K H a rows) (s : Same H H') : BitsAt P w K H' a rows := B.keep (S := []) (fun _ h => nomatch h) (.of_same s) (fun h => nomatch h)
section
variable {P : Program} {w : World} {K : PySem.W.Frag} {mg : Str → Option Value} {base : Heap} {f C : Addr} {fd : FuncData}
theorem ok_computed (T : Txt K mg) (PK : PlK K C) (D : DefM K C "computed" "Pool.computed" ["self", "literals", "bits"] s_Pool_computed f fd) (O1 : OwnM P w K mg base C "cone" ["self", "literals", "seen"] 1 (spCone P w K C)) (O2 : Own P w K mg base "gate_value" ["gate", "found", "bits"] 1 (spGV P w K)) : OwnM P w K mg base C "computed" ["self", "literals", "bits"] 2 (spComp P w K C) := by
  obtain ⟨fcone, fdcone, Mcone, bcone, Gcone⟩ := O1
  obtain ⟨fgate_value, fdgate_value, mgate_value, kgate_value, bgate_value, Ggate_value⟩ := O2
  refine ⟨f, fd, D.me, D.bd, D.fn.ok sc_Pool_computed (fun vs H Q E h => ?_) (fun cdv A outer s H vs Q E hr h => ?_)⟩
  · obtain ⟨p, G, D', l, a, gs, xs, rows, rfl, _⟩ := h
    rfl
  · obtain ⟨p, G, D', l, a, gs, xs, rows, rfl, A0, hl, hx, hxl, h64, hB, q⟩ := h
    obtain ⟨dx, ts0, h1, h2, h3, h4, h5⟩ := A0.at_
    have hu := hu_of hr
    have hbits := bits_bit (envOf_bit hB) gs
    refine ⟨_, (pss_cons (ps_set (i := 3) sc_Pool_computed.nd rfl (Or.inr rfl) pe_dnewK)
      (pss_cons (ps_for PassesOwn.never rfl (pi_list (pe_meth (pv 0) PK.cls Mcone Gcone (hr.mono (by omega)) bcone .nil pass0 (pa_cons (pv 1) (pa_cons pe_dnewK pa_nil)))) (pg_name (i := 4) sc_Pool_computed.nd rfl (Or.inl rfl)) (pss_one (ps_dput hu (pv 3) (pv 4) (pe_call Ggate_value (hr.mono (by omega)) rfl mgate_value kgate_value bgate_value .nil pass0 (pa_cons (pe_ix ix_list (pe_fld (pv 0) (by rfl)) (pv 4) (fun _ _ => rfl)) (pa_cons (pv 3) (pa_cons (pv 2) pa_nil)))) rfl)))
      (pss_one (ps_ret (pe_lc (own := [("x", 5)]) (g := gName 5) (tt := tYes) rfl sc_Pool_computed.nd (pi_list (pv 1)) (blkOk_by (N := N_Pool_computed) (sc := defScope s_Pool_computed) (own := [("x", 5)]) (by decide +kernel)) (fun _ _ _ _ _ => (pg_name (i := 5) sc_Pool_computed.nd rfl (Or.inl rfl))) (fun _ _ _ _ _ => pts_nil) (fun _ _ _ _ _ => (pe_op op_xor (pe_dget hu (pv 3) (pe_op op_shr (pv 5) pe_int) (fun _ _ => rfl)) (pe_op op_and (pv 5) pe_int)))))))), ?_⟩
    refine fun F hF => ?_
    have s1 := same_new hF (.dK [])
    refine ⟨_, rfl, p, dx, _, rfl, s1 _ _ h1, plFs_no _ _ (by decide +kernel) (by decide +kernel), _, rfl, fun S hS => ⟨upd H F (.dK []), p, G, D', l, S, gs, xs, rfl, same_new hS _, hS, upd_same, A0.same s1, sql_mono s1 hl, hx, hxl, h64, fun H2 r ys s2 hr2 hC => ?_⟩⟩
    have nd : ys.Nodup := hC.asc.imp fun {a b} h => by omega
    have ysl := few_of nd hC.rng
    have fF : ∀ b o, H b = some o → b ≠ F := fun b o e => ne_of_none e hF
    have hFr : F ≠ r := by
      intro e
      have := s2 _ _ (upd_same : upd H F (.dK []) F = _)
      rw [e, hr2] at this
      cases this
    refine ⟨r, rfl, ⟨_, SqL.of hr2⟩, for_list (K := K) (a := r) (xs := ys.map V.int) (fun i σ' H' => ∃ o4, σ' = [some (.ref p), some (.ref l), some (.ref a), some (.ref F), o4, none] ∧ Same H H' ∧ H' r = some (.lst (ys.map V.int)) ∧ H' F = some (.dK (foundK (bitsOf (envOf rows) gs) (ys.take i)))) ⟨none, rfl, s1.trans s2, hr2, s2 _ _ upd_same⟩ (fun i σ' H' _ ⟨_, _, _, h, _⟩ => SqL.of h) ?_ ?_⟩
    · rintro i y σ' H' hi ⟨o4, rfl, s3, hr3, hF3⟩
      obtain ⟨k, hk, rfl⟩ : ∃ k, ys[i]? = some k ∧ y = .int k := by
        rw [List.getElem?_map] at hi
        cases e : ys[i]? with
        | none => rw [e] at hi; cases hi
        | some k => rw [e] at hi; exact ⟨k, rfl, (Option.some.inj hi).symm⟩
      have hkm := List.mem_of_getElem? hk
      have rk := hC.rng k hkm
      obtain ⟨g, hg⟩ : ∃ g, gs[k.toNat]? = some g := ⟨gs[k.toNat]'(by omega), List.getElem?_eq_getElem (by omega)⟩
      obtain ⟨t, htk⟩ : ∃ t, ts0[k.toNat]? = some t := ⟨ts0[k.toNat]'(by omega), List.getElem?_eq_getElem (by omega)⟩
      obtain ⟨hd, hd8⟩ := h4 _ g t hg htk
      have hat : atI (ts0.map V.ref) k = some (.ref t) := by
        have e := atI_nat (xs := ts0.map V.ref) (j := k.toNat) (v := .ref t) (by rw [List.getElem?_map, htk]; rfl)
        rw [show ((k.toNat : Nat) : Int) = k by omega] at e
        exact e
      have hknot : k ∉ ys.take i := fun m => by
        obtain ⟨j, hj⟩ := List.getElem?_of_mem m
        have hji : j < i := by
          have := (List.getElem?_eq_some_iff.mp hj).1
          rw [List.length_take] at this
          omega
        rw [List.getElem?_take_of_lt hji] at hj
        have := (List.getElem?_inj (by have := (List.getElem?_eq_some_iff.mp hk).1; omega) nd).mp (hj.trans hk.symm)
        omega
      refine ⟨_, rfl, p, C, dx, _, _, rfl, s3 _ _ h1, PK.cls, PK.g, plFs_g _ _, _, rfl, G, _, k, _, rfl, rfl, SqL.of (s3 _ _ h2), hat, _, rfl, _, rfl, ?_⟩
      refine ⟨t, F, a, g, _, bitsOf (envOf rows) gs, rows, rfl, dp_mono s3 _ hd, hd8, (fun n e => A0.nm n (by rw [← e]; exact List.mem_of_getElem? hg)), ⟨hF3, fun z hz => ?_⟩, hbits, hB.same s3, fun H4 s4 => ?_⟩
      · have hp := A0.ok.parts _ g hg z hz
        refine ⟨hp.1, found_val ?_⟩
        have hm := hC.cl k hkm g hg z hz
        obtain ⟨j, hj⟩ := List.getElem?_of_mem hm
        refine List.mem_of_getElem? (i := j) ?_
        have hji : j < i := by
          rcases Nat.lt_or_ge j i with h | h
          · exact h
          · exfalso
            have hj' := (List.getElem?_eq_some_iff.mp hj)
            have hk' := (List.getElem?_eq_some_iff.mp hk)
            rcases Nat.eq_or_lt_of_le h with e | h
            · subst e
              rw [hk] at hj
              have := Option.some.inj hj
              omega
            · have := List.pairwise_iff_getElem.mp hC.asc i j hk'.1 hj'.1 h
              rw [hk'.2, hj'.2] at this
              omega
        rw [List.getElem?_take_of_lt hji]
        exact hj
      · rw [← bits_at gs A0.ok k.toNat g hg]
        have hil := (List.getElem?_eq_some_iff.mp hk).1
        refine ⟨_, rfl, _, rfl, F, _, rfl, DPut.k (k := .inl k) (s4 _ _ hF3) (by unfold foundK; rw [List.length_map, List.length_take]; exact Nat.lt_of_le_of_lt (show min i ys.length ≤ 10000 by omega) (by decide)), ?_⟩
        rw [found_put hknot]
        refine ⟨_, rfl, fun b o e => ?_, ?_, ?_⟩
        · rw [upd_ne (fF b o e)]
          exact s4 _ _ (s3 b o e)
        · rw [upd_ne hFr.symm]
          exact s4 _ _ hr3
        · rw [upd_same, ← take_nextV hk]
    · rintro σ' H' ⟨o4, rfl, s3, hr3, hF3⟩
      rw [List.length_map, List.take_length] at hF3
      refine ⟨_, rfl, l, rfl, ⟨_, sql_mono s3 hl⟩, fun D1 hD1 => lc_mapL (litV (bitsOf (envOf rows) gs)) (sql_mono s3 hl) (by rw [List.length_map]; omega) hD1 (fun _ => rfl) (fun y H2 R hy s4 rr => ?_) fun H5 h5' s5 => ?_⟩
      · obtain ⟨x, hx', rfl⟩ := List.mem_map.mp hy
        refine ⟨_, rfl, _, rfl, _, _, rfl, rfl, (by show (0 : Int) ≤ 1; decide), F, _, rfl, (by rw [← found_val (bs := bitsOf (envOf rows) gs) (hC.has x hx')]; show DGet H2 F (V.int (x / 2)) _; exact DGet.k (k := .inl (x / 2)) (s4 _ _ hF3)), _, rfl, _, _, rfl, rfl, _, _, rfl, rfl, ?_⟩
        show R (V.int (Builtin.bitXor ((bitsOf (envOf rows) gs).getD (x / 2).toNat 0) (Builtin.bitAnd x 1))) H2
        rw [litv_xor hbits]
        exact rr
      · rw [litV_map] at h5'
        exact q _ D1 (s3.trans s5) h5'
theorem ok_values (T : Txt K mg) (PK : PlK K C) (D : DefM K C "values" "Pool.values" ["self", "literals", "bits"] s_Pool_values f fd) (O1 : OwnM P w K mg base C "computed" ["self", "literals", "bits"] 2 (spComp P w K C)) : OwnM P w K mg base C "values" ["self", "literals", "bits"] 3 (spComp P w K C) := by
  obtain ⟨fcomputed, fdcomputed, Mcomputed, bcomputed, Gcomputed⟩ := O1
  refine ⟨f, fd, D.me, D.bd, D.fn.ok sc_Pool_values (fun vs H Q E h => ?_) (fun cdv A outer s H vs Q E hr h => ?_)⟩
  · obtain ⟨p, G, D', l, a, gs, xs, rows, rfl, _⟩ := h
    rfl
  · obtain ⟨p, G, D', l, a, gs, xs, rows, rfl, A0, h⟩ := h
    obtain ⟨dx, ts0, h1, _⟩ := A0.at_
    refine ⟨_, (pss_one (ps_ret (pe_meth (pv 0) PK.cls Mcomputed Gcomputed (hr.mono (by omega)) bcomputed .nil pass0 (pa_cons (pv 1) (pa_cons (pv 2) pa_nil))))), ?_⟩
    exact ⟨_, rfl, p, dx, _, rfl, h1, plFs_no _ _ (by decide +kernel) (by decide +kernel), _, rfl, _, rfl, p, G, D', l, a, gs, xs, rows, rfl, A0, h⟩
theorem ok_value (T : Txt K mg) (PK : PlK K C) (D : DefM K C "value" "Pool.value" ["self", "literal", "bits"] s_Pool_value f fd) (O1 : OwnM P w K mg base C "computed" ["self", "literals", "bits"] 2 (spComp P w K C)) : OwnM P w K mg base C "value" ["self", "literal", "bits"] 3 (spVal P w K C) := by
  obtain ⟨fcomputed, fdcomputed, Mcomputed, bcomputed, Gcomputed⟩ := O1
  refine ⟨f, fd, D.me, D.bd, D.fn.ok sc_Pool_value (fun vs H Q E h => ?_) (fun cdv A outer s H vs Q E hr h => ?_)⟩
  · obtain ⟨p, G, D', a, gs, x, rows, rfl, _⟩ := h
    rfl
  · obtain ⟨p, G, D', a, gs, x, rows, rfl, A0, hx, h64, hB, q⟩ := h
    obtain ⟨dx, ts0, h1, _⟩ := A0.at_
    refine ⟨_, (pss_one (ps_ret (pe_ix ix_list (pe_meth (pv 0) PK.cls Mcomputed Gcomputed (hr.mono (by omega)) bcomputed .nil pass0 (pa_cons (pe_lst (pa_cons (pv 1) pa_nil)) (pa_cons (pv 2) pa_nil))) pe_int (fun _ _ => rfl)))), ?_⟩
    refine ⟨_, rfl, p, dx, _, rfl, h1, plFs_no _ _ (by decide +kernel) (by decide +kernel), _, rfl, by show 1 ≤ sizeLine; decide, fun l hl => ?_⟩
    have s1 := same_new hl (.lst [.int x])
    refine ⟨_, rfl, p, G, D', l, a, gs, [x], rows, rfl, A0.same s1, SqL.of upd_same, (fun z hz => by rw [List.mem_singleton.mp hz]; exact hx), (by show 1 ≤ 100; decide), h64, hB.same s1, fun H' r s2 hr2 => ?_⟩
    exact ⟨r, _, _, _, rfl, rfl, SqL.of hr2, rfl, q H' (s1.trans s2)⟩
end
end My


set_option Elab.async false
set_option maxRecDepth 100000
set_option maxHeartbeats 4000000
set_option linter.all false
namespace My
open PySem L2 PyProof.Rows
open C8 (pss_cut)
/-! what the law made -/
abbrev Ref := Nat × Int
def Ref.d (a : Ref) : PyData := .tuple [.int (a.1 : Int), .int a.2]
inductive Md where
  | is (b : Int) | bit (n : NK) | both (a b : Ref) | either (a b : Ref) | unlike (a b : Ref) | chosen (c a b : Ref)
def Md.d : Md → PyData
  | .is b => .tuple [.str "is", .int b]
  | .bit n => .tuple [.str "bit", n.data]
  | .both a b => .tuple [.str "both", a.d, b.d]
  | .either a b => .tuple [.str "either", a.d, b.d]
  | .unlike a b => .tuple [.str "unlike", a.d, b.d]
  | .chosen c a b => .tuple [.str "chosen", c.d, a.d, b.d]
def Md.refs : Md → List Ref
  | .is _ => []
  | .bit _ => []
  | .both a b => [a, b]
  | .either a b => [a, b]
  | .unlike a b => [a, b]
  | .chosen c a b => [c, a, b]
structure Rw where
  lit : Int
  md : Md
def Rw.d (r : Rw) : PyData := .tuple [.int r.lit, r.md.d]
def told (vs : List Int) (a : Ref) : Int := if a.2 = 0 then vs.getD a.1 0 else 1 - vs.getD a.1 0
def Md.val (env : Bits) (vs : List Int) : Md → Int
  | .is b => b
  | .bit n => env n
  | .both a b => fB (told vs a) (told vs b)
  | .either a b => fE (told vs a) (told vs b)
  | .unlike a b => fU (told vs a) (told vs b)
  | .chosen c a b => fC (told vs c) (told vs a) (told vs b)
def valsOf (env : Bits) (rs : List Rw) : List Int := rs.foldl (fun vs r => vs ++ [r.md.val env vs]) []
theorem valsOf_snoc (env : Bits) (rs : List Rw) (r : Rw) : valsOf env (rs ++ [r]) = valsOf env rs ++ [r.md.val env (valsOf env rs)] := by
  unfold valsOf
  rw [List.foldl_append]
  rfl
theorem valsOf_len (env : Bits) (rs : List Rw) : (valsOf env rs).length = rs.length := by
  induction rs using snoc_rec with
  | h0 => rfl
  | h1 xs x ih => rw [valsOf_snoc, List.length_append, List.length_append, ih]; rfl
/-- rows that speak of earlier ones, and say the right bits -/
structure RowsOk (gs : List Gt) (rs : List Rw) : Prop where
  lit : ∀ r ∈ rs, okL gs r.lit
  refs : ∀ (i : Nat) (r : Rw), rs[i]? = some r → ∀ a ∈ r.md.refs, a.1 < i ∧ (a.2 = 0 ∨ a.2 = 1)
  nm : ∀ r ∈ rs, ∀ n, r.md = .bit n → (∃ ks, n = NestedKey.tup ks) ∧ n.depth ≤ 7
  val : ∀ env, bitEnv env → valsOf env rs = rs.map fun r => litv (bitsOf env gs) r.lit
  is : ∀ r ∈ rs, ∀ b, r.md = .is b → b = 0 ∨ b = 1
theorem RowsOk.pre {gs gs' : List Gt} {rs : List Rw} (h : RowsOk gs rs) (p : gs <+: gs') : RowsOk gs' rs :=
  ⟨fun r hr => (h.lit r hr).mono p, h.refs, h.nm, fun env he => by
    rw [h.val env he]
    exact List.map_congr_left fun r hr => (litv_pre (h.lit r hr) p).symm, h.is⟩
theorem RowsOk.snoc {gs : List Gt} {rs : List Rw} (h : RowsOk gs rs) {r : Rw} (h1 : okL gs r.lit) (h2 : ∀ a ∈ r.md.refs, a.1 < rs.length ∧ (a.2 = 0 ∨ a.2 = 1)) (h3 : ∀ n, r.md = .bit n → (∃ ks, n = NestedKey.tup ks) ∧ n.depth ≤ 7) (h4 : ∀ env, bitEnv env → r.md.val env (rs.map fun r => litv (bitsOf env gs) r.lit) = litv (bitsOf env gs) r.lit) (h5 : ∀ b, r.md = .is b → b = 0 ∨ b = 1) : RowsOk gs (rs ++ [r]) := by
  have mem : ∀ {q : Rw → Prop}, (∀ r ∈ rs, q r) → q r → ∀ x ∈ rs ++ [r], q x := fun hq hr x hx => by
    rcases List.mem_append.mp hx with e | e
    · exact hq x e
    · rw [List.mem_singleton.mp e]; exact hr
  refine ⟨mem h.lit h1, fun i x hx a ha => ?_, mem h.nm h3, fun env he => ?_, mem h.is h5⟩
  · by_cases hi : i < rs.length
    · rw [List.getElem?_append_left hi] at hx
      exact h.refs i x hx a ha
    · rw [List.getElem?_append_right (by omega)] at hx
      have hi2 : i = rs.length := by
        have := (List.getElem?_eq_some_iff.mp hx).1
        rw [List.length_singleton] at this
        omega
      rw [hi2, Nat.sub_self] at hx
      cases hx
      rw [hi2]
      exact h2 a ha
  · rw [valsOf_snoc, List.map_append, h.val env he, h4 env he]
    rfl
theorem told_lit {gs : List Gt} {rs : List Rw} (h : RowsOk gs rs) {k : Nat} {r : Rw} (hr : rs[k]? = some r) {t : Int} (ht : t = 0 ∨ t = 1) (env : Bits) : told (rs.map fun r => litv (bitsOf env gs) r.lit) (k, t) = litv (bitsOf env gs) (Builtin.bitXor r.lit t) := by
  unfold told
  have e : (rs.map fun r => litv (bitsOf env gs) r.lit).getD k 0 = litv (bitsOf env gs) r.lit := by
    rw [List.getD_eq_getElem?_getD, List.getElem?_map, hr]
    rfl
  rw [litv_xort (h.lit r (List.mem_of_getElem? hr)).1 ht]
  show (if t = 0 then _ else _) = _
  rw [e]
/-- rows as a list of data -/
structure RowsAt (K : PySem.W.Frag) (H : Hp) (R : Addr) (rs : List Rw) : Prop where
  ex : ∃ vs, H R = some (.lst vs) ∧ DpAll K H vs (rs.map Rw.d)
def nmL : List NK := [.tup [.num 0, .num 0], .tup [.num 0, .num 1], .tup [.num 2, .num 0], .tup [.text "new", .num 3, .num 1]]
theorem nmL_ok : ∀ n ∈ nmL, (∃ ks, n = NestedKey.tup ks) ∧ n.depth ≤ 7 := by
  intro n hn
  unfold nmL at hn
  simp only [List.mem_cons, List.mem_singleton, List.not_mem_nil, or_false] at hn
  rcases hn with rfl | rfl | rfl | rfl <;> exact ⟨⟨_, rfl⟩, by decide⟩
theorem dp_two {K : PySem.W.Frag} {H : Hp} {v : V} {x y : PyData} (h : Dp K H v (.tuple [x, y])) : ∃ t a b, v = .ref t ∧ SqT K H t [a, b] ∧ Dp K H a x ∧ Dp K H b y := by
  cases h with
  | tup hs ha =>
    cases ha with
    | cons h1 h2 =>
      cases h2 with
      | cons h3 h4 =>
        cases h4
        exact ⟨_, _, _, rfl, hs, h1, h3⟩
def spNames (K : PySem.W.Frag) : Sp := fun vs H Q _ => vs = [] ∧ ∀ r ts H', Same H H' → H r = none → H' r = some (.lst ts) → DpAll K H' ts (nmL.map NestedKey.data) → Q (.ref r) H'
def spSome (K : PySem.W.Frag) : Sp := fun vs H Q _ => ∃ (d L R : Addr) (rs : List Rw) (us : List V), vs = [.ref d, .ref R] ∧ DrawAt H d L ∧ SqL K (hide d H) R us ∧ DpAll K (hide d H) us (rs.map Rw.d) ∧ rs ≠ [] ∧ rs.length ≤ 1000 ∧
  ∀ H' t (k : Nat) r (tn : Int), rs[k]? = some r → (tn = 0 ∨ tn = 1) → DrawAt H' d L → Same (hide d H) (hide d H') → Dp K (hide d H') (.ref t) (.tuple [.int (Builtin.bitXor r.lit tn), Ref.d (k, tn)]) → Q (.ref t) H'
section
variable {P : Program} {w : World} {K : PySem.W.Frag} {mg : Str → Option Value} {base : Heap} {f C : Addr} {fd : FuncData}
theorem ok__law_names (T : Txt K mg) (D : Def K mg "_law_names" [] s__law_names f fd) : Own P w K mg base "_law_names" [] 1 (spNames K) := by
  refine ⟨f, fd, D.mg, D.fn.kp, D.bd, D.fn.ok sc__law_names (fun vs H Q E h => ?_) (fun cdv A outer s H vs Q E hr h => ?_)⟩
  · obtain ⟨rfl, _⟩ := h
    rfl
  · obtain ⟨rfl, q⟩ := h
    refine ⟨_, (pss_one (ps_ret (pe_lst (pa_cons (pe_tup (pa_cons pe_int (pa_cons pe_int pa_nil))) (pa_cons (pe_tup (pa_cons pe_int (pa_cons pe_int pa_nil))) (pa_cons (pe_tup (pa_cons pe_int (pa_cons pe_int pa_nil))) (pa_cons (pe_tup (pa_cons pe_str (pa_cons pe_int (pa_cons pe_int pa_nil)))) pa_nil))))))), ?_⟩
    refine ⟨by show 2 ≤ sizeLine; decide, fun t1 f1 => ?_⟩
    refine ⟨by show 2 ≤ sizeLine; decide, fun t2 f2 => ?_⟩
    refine ⟨by show 2 ≤ sizeLine; decide, fun t3 f3 => ?_⟩
    refine ⟨by show 3 ≤ sizeLine; decide, fun t4 f4 => ?_⟩
    refine ⟨by show 4 ≤ sizeLine; decide, fun r fr => ?_⟩
    have e1 := same_new f1 (.tup [.int 0, .int 0])
    have e2 := same_new f2 (.tup [.int 0, .int 1])
    have e3 := same_new f3 (.tup [.int 2, .int 0])
    have e4 := same_new f4 (.tup [.str "new", .int 3, .int 1])
    have e5 := same_new fr (.lst [.ref t1, .ref t2, .ref t3, .ref t4])
    have all := (((e1.trans e2).trans e3).trans e4).trans e5
    have hr0 : H r = none := by
      cases e : H r with
      | none => rfl
      | some u =>
        rw [(((e1.trans e2).trans e3).trans e4) _ _ e] at fr
        cases fr
    refine q r _ _ all hr0 upd_same (.cons ?_ (.cons ?_ (.cons ?_ (.cons ?_ .nil))))
    · exact .tup (SqT.of ((((e2.trans e3).trans e4).trans e5) _ _ upd_same)) (.cons (.int _) (.cons (.int _) .nil))
    · exact .tup (SqT.of (((e3.trans e4).trans e5) _ _ upd_same)) (.cons (.int _) (.cons (.int _) .nil))
    · exact .tup (SqT.of ((e4.trans e5) _ _ upd_same)) (.cons (.int _) (.cons (.int _) .nil))
    · exact .tup (SqT.of (e5 _ _ upd_same)) (.cons (.str _) (.cons (.int _) (.cons (.int _) .nil)))
theorem ok__law_some (T : Txt K mg) (D : Def K mg "_law_some" ["draw", "rows"] s__law_some f fd) (O1 : Own P w K mg base "_law_take" ["draw", "many"] 1 spTake) : Own P w K mg base "_law_some" ["draw", "rows"] 2 (spSome K) := by
  obtain ⟨f_law_take, fd_law_take, m_law_take, k_law_take, b_law_take, G_law_take⟩ := O1
  refine ⟨f, fd, D.mg, D.fn.kp, D.bd, D.fn.ok sc__law_some (fun vs H Q E h => ?_) (fun cdv A outer s H vs Q E hr h => ?_)⟩
  · obtain ⟨d, L, R, rs, us, rfl, _⟩ := h
    rfl
  · obtain ⟨d, L, R, rs, us, rfl, hD, hR, hds, hne, hl, q⟩ := h
    have lus : us.length = rs.length := by rw [dpa_len hds, List.length_map]
    have lpos : 0 < rs.length := List.length_pos_iff.mpr hne
    refine ⟨_, (pss_cons (ps_set (i := 2) sc__law_some.nd rfl (Or.inl rfl) (pe_call G_law_take (hr.mono (by omega)) rfl m_law_take k_law_take b_law_take .nil pass0 (pa_cons (pv 0) (pa_cons (pe_callB call_len_seq (by rfl) T.m_len (by decide +kernel) (pa_cons (pv 1) pa_nil)) pa_nil))))
      (pss_cons (ps_set (i := 3) sc__law_some.nd rfl (Or.inl rfl) (pe_call G_law_take (hr.mono (by omega)) rfl m_law_take k_law_take b_law_take .nil pass0 (pa_cons (pv 0) (pa_cons pe_int pa_nil))))
      (pss_one (ps_ret (pe_tup (pa_cons (pe_op op_xor (pe_ix ix_tup (pe_ix ix_list (pv 1) (pv 2) (fun _ _ => rfl)) pe_int (fun _ _ => rfl)) (pv 3)) (pa_cons (pe_tup (pa_cons (pv 2) (pa_cons (pv 3) pa_nil))) pa_nil))))))), ?_⟩
    refine ⟨_, rfl, _, rfl, R, _, rfl, .inl (sql_mono hide_le hR), d, L, _, rfl, by omega, by omega, hD, fun k H1 k0 k1 D1 s1 => ?_⟩
    refine ⟨_, rfl, d, L, 2, rfl, by decide, by decide, D1, fun tn H2 t0 t1 D2 s2 => ?_⟩
    obtain ⟨kn, rfl⟩ : ∃ m : Nat, k = m := ⟨k.toNat, by omega⟩
    have hkn : kn < rs.length := by omega
    have s12 := s1.trans s2
    have hR2 := sql_mono (s12.trans hide_le) hR
    have hd2 := dpa_mono s12 _ hds
    have hk : (rs.map Rw.d)[kn]? = some (rs[kn]).d := by rw [List.getElem?_map, List.getElem?_eq_getElem hkn]; rfl
    obtain ⟨u, hu⟩ : ∃ u, us[kn]? = some u := ⟨us[kn]'(by omega), List.getElem?_eq_getElem (by omega)⟩
    obtain ⟨dd, hdd, hy⟩ := dpa_get hd2 hu
    rw [hk] at hdd
    cases hdd
    obtain ⟨t, a, b, rfl, ht, ha, hb⟩ := dp_two hy
    cases ha
    refine ⟨_, rfl, _, rfl, R, us, _, _, rfl, rfl, hR2, atI_nat hu, t, _, _, _, rfl, rfl, sqt_mono hide_le ht, rfl, _, rfl, _, _, rfl, rfl, ?_⟩
    refine ⟨_, rfl, _, rfl, by show 2 ≤ sizeLine; decide, fun t5 f5 => ?_⟩
    refine ⟨by show 2 ≤ sizeLine; decide, fun t6 f6 => ?_⟩
    have e5 := same_new f5 (.tup [.int kn, .int tn])
    have e6 := same_new f6 (.tup [.int (Builtin.bitXor (rs[kn]).lit tn), .ref t5])
    have nd5 : t5 ≠ d := by
      obtain ⟨z, hz⟩ := D2.at
      exact (ne_of_none hz f5).symm
    have nd6 : t6 ≠ d := by
      obtain ⟨z, hz⟩ := D2.at
      exact (ne_of_none (e5 _ _ hz) f6).symm
    refine q _ t6 kn rs[kn] tn (List.getElem?_eq_getElem hkn) (by omega) ((D2.mono e5).mono e6) (s12.trans ((hide_same e5).trans (hide_same e6))) ?_
    exact .tup (SqT.of (hide_in upd_same nd6)) (.cons (.int _) (.cons (.tup (SqT.of (hide_in (e6 _ _ upd_same) nd5)) (.cons (.int _) (.cons (.int _) .nil))) .nil))
end
end My


set_option Elab.async false
set_option maxRecDepth 100000
set_option maxHeartbeats 4000000
set_option linter.all false
namespace My
open PySem L2 PyProof.Rows
open C8 (pss_cut)
theorem DrawAt.but {S : List Addr} {H H' : Hp} {d L : Addr} (h : DrawAt H d L) (b : But S H H') (nd : d ∉ S) (nL : L ∉ S) : DrawAt H' d L := by
  obtain ⟨ns, a, l, s, h1, h2, r⟩ := h
  exact ⟨ns, a, l, s, b _ _ nd h1, b _ _ nL h2, r⟩
structure Apart (d L p G D : Addr) : Prop where
  dp : d ≠ p
  dG : d ≠ G
  dD : d ≠ D
  Lp : L ≠ p
  LG : L ≠ G
  LD : L ≠ D
theorem PoolAt.apart {P : Program} {w : World} {K : PySem.W.Frag} {H : Hp} {C p G D d L : Addr} {gs : List Gt} (A : PoolAt P w K H C p G D gs) (h : DrawAt H d L) : Apart d L p G D := by
  obtain ⟨ns, a, l, s, h1, h2, _⟩ := h
  obtain ⟨dx, ts, k1, k2, k3, _, k5⟩ := A.at_
  have pos := A.ok.pos
  have hts : ∃ t tr, ts = t :: tr := by
    cases ts with
    | nil => rw [List.length_nil] at k3; omega
    | cons t tr => exact ⟨t, tr, rfl⟩
  obtain ⟨t, tr, rfl⟩ := hts
  refine ⟨ne_of h1 k1 (by intro z; cases z), ?_, ?_, ne_of h2 k1 (by intro z; cases z), ?_, ?_⟩
  · refine ne_of h1 k2 fun z => ?_
    have z := HO.lst.inj z
    cases tr with
    | nil => simp at z
    | cons t2 tr => simp at z
  · rcases k5 with e | ⟨_, e⟩ <;> exact ne_of h1 e (by intro z; cases z)
  · refine ne_of h2 k2 fun z => ?_
    have z := HO.lst.inj z
    cases ns with
    | nil => simp at z
    | cons n nr => simp at z
  · rcases k5 with e | ⟨_, e⟩ <;> exact ne_of h2 e (by intro z; cases z)
theorem ref_noLst (a : Ref) : noLst a.d = true := rfl
theorem md_noLst (m : Md) : noLst m.d = true := by
  cases m with
  | bit n => show (true && (noLst n.data && true)) = true; rw [nk_noLst n]; rfl
  | _ => rfl
theorem rw_noLst (r : Rw) : noLst r.d = true := by
  show (true && (noLst r.md.d && true)) = true
  rw [md_noLst]
  rfl
theorem rws_noLst (rs : List Rw) : noLsts (rs.map Rw.d) = true := noLsts_map rw_noLst rs
def spMore (P : Program) (w : World) (K : PySem.W.Frag) (C : Addr) : Sp := fun vs H Q _ => ∃ (d L p G D R : Addr) (gs : List Gt) (rs : List Rw) (us : List V) (many : Nat), vs = [.ref d, .ref p, .ref R, .int many] ∧ DrawAt H d L ∧ PoolAt P w K H C p G D gs ∧ H R = some (.lst us) ∧ DpAll K H us (rs.map Rw.d) ∧ RowsOk gs rs ∧ rs ≠ [] ∧ many ≤ 100 ∧ gs.length + many ≤ 1000 ∧ rs.length + many ≤ 900 ∧
  ∀ H' R' gs' rs' us', DrawAt H' d L → PoolAt P w K H' C p G D gs' → But [d, G, D] H H' → H R' = none → gs <+: gs' → gs'.length ≤ gs.length + many → rs <+: rs' → rs'.length = rs.length + many → H' R' = some (.lst us') → DpAll K H' us' (rs'.map Rw.d) → RowsOk gs' rs' → Q (.ref R') H'
section
variable {P : Program} {w : World} {K : PySem.W.Frag} {mg : Str → Option Value} {base : Heap} {f C : Addr} {fd : FuncData}
theorem ok__law_more (T : Txt K mg) (PK : PlK K C) (D : Def K mg "_law_more" ["draw", "pool", "rows", "many"] s__law_more f fd) (O1 : Own P w K mg base "_law_take" ["draw", "many"] 1 spTake) (O2 : Own P w K mg base "_law_some" ["draw", "rows"] 2 (spSome K)) (O3 : Own P w K mg base "_law_names" [] 1 (spNames K))
    (O4 : OwnM P w K mg base C "both" ["self", "x", "y"] 2 (sp2 P w K C 1 fB)) (O5 : OwnM P w K mg base C "either" ["self", "x", "y"] 3 (sp2 P w K C 1 fE)) (O6 : OwnM P w K mg base C "unlike" ["self", "x", "y"] 2 (sp2 P w K C 1 fU)) (O7 : OwnM P w K mg base C "chosen" ["self", "c", "x", "y"] 4 (sp3 P w K C 1 fC)) (O8 : OwnM P w K mg base C "bit" ["self", "name"] 2 (spBit P w K C)) :
    Own P w K mg base "_law_more" ["draw", "pool", "rows", "many"] 5 (spMore P w K C) := by
  obtain ⟨f_law_take, fd_law_take, m_law_take, k_law_take, b_law_take, G_law_take⟩ := O1
  obtain ⟨f_law_some, fd_law_some, m_law_some, k_law_some, b_law_some, G_law_some⟩ := O2
  obtain ⟨f_law_names, fd_law_names, m_law_names, k_law_names, b_law_names, G_law_names⟩ := O3
  obtain ⟨fboth, fdboth, Mboth, bboth, Gboth⟩ := O4
  obtain ⟨feither, fdeither, Meither, beither, Geither⟩ := O5
  obtain ⟨funlike, fdunlike, Munlike, bunlike, Gunlike⟩ := O6
  obtain ⟨fchosen, fdchosen, Mchosen, bchosen, Gchosen⟩ := O7
  obtain ⟨fbit, fdbit, Mbit, bbit, Gbit⟩ := O8
  refine ⟨f, fd, D.mg, D.fn.kp, D.bd, D.fn.ok sc__law_more (fun vs H Q E h => ?_) (fun cdv A outer s H vs Q E hr h => ?_)⟩
  · obtain ⟨d, L, p, G, D', R, gs, rs, us, many, rfl, _⟩ := h
    rfl
  · obtain ⟨d, L, p, G, D', R, gs, rs, us, many, rfl, hD, A0, hR, hds, hok, hne, hm, hgl, hrl, q⟩ := h
    have ap := A0.apart hD
    obtain ⟨dx0, ts0, hp0, _⟩ := A0.at_
    refine ⟨_, (pss_cons (ps_set (i := 2) sc__law_more.nd rfl (Or.inl rfl) (pe_callTy call_list_of (by rfl) T.m_list (by decide +kernel) (pa_cons (pv 2) pa_nil)))
      (pss_cons (ps_for PassesOwn.never rfl (pi_range1 (by rfl) T.m_range (pa_cons (pv 3) pa_nil)) (pg_name (i := 4) sc__law_more.nd rfl (Or.inl rfl)) (pss_cons (ps_set (i := 5) sc__law_more.nd rfl (Or.inl rfl) (pe_call G_law_take (hr.mono (by omega)) rfl m_law_take k_law_take b_law_take .nil pass0 (pa_cons (pv 0) (pa_cons pe_int pa_nil))))
      (pss_cons (ps_set (i := 6) sc__law_more.nd rfl (Or.inl rfl) (pe_call G_law_some (hr.mono (by omega)) rfl m_law_some k_law_some b_law_some .nil pass0 (pa_cons (pv 0) (pa_cons (pv 2) pa_nil))))
      (pss_cons (ps_set (i := 7) sc__law_more.nd rfl (Or.inl rfl) (pe_call G_law_some (hr.mono (by omega)) rfl m_law_some k_law_some b_law_some .nil pass0 (pa_cons (pv 0) (pa_cons (pv 2) pa_nil))))
      (pss_cons (ps_set (i := 8) sc__law_more.nd rfl (Or.inl rfl) (pe_call G_law_some (hr.mono (by omega)) rfl m_law_some k_law_some b_law_some .nil pass0 (pa_cons (pv 0) (pa_cons (pv 2) pa_nil))))
      (pss_one (ps_if (pt_cmpR op_lt (pv 5) pe_int (nomark _)) (pss_one (ps_expr (pe_bm PySem.F.plainAttrs_list PySem.F.slot_list_append PySem.F.type_list_append mt_append (pv 2) (pa_cons (pe_tup (pa_cons (pe_meth (pv 1) PK.cls Mboth Gboth (hr.mono (by omega)) bboth .nil pass0 (pa_cons (pe_ix ix_tup (pv 6) pe_int (fun _ _ => rfl)) (pa_cons (pe_ix ix_tup (pv 7) pe_int (fun _ _ => rfl)) pa_nil))) (pa_cons (pe_tup (pa_cons pe_str (pa_cons (pe_ix ix_tup (pv 6) pe_int (fun _ _ => rfl)) (pa_cons (pe_ix ix_tup (pv 7) pe_int (fun _ _ => rfl)) pa_nil)))) pa_nil))) pa_nil)))) (pss_one (ps_if (pt_cmpR op_eq (pv 5) pe_int (nomark _)) (pss_one (ps_expr (pe_bm PySem.F.plainAttrs_list PySem.F.slot_list_append PySem.F.type_list_append mt_append (pv 2) (pa_cons (pe_tup (pa_cons (pe_meth (pv 1) PK.cls Meither Geither (hr.mono (by omega)) beither .nil pass0 (pa_cons (pe_ix ix_tup (pv 6) pe_int (fun _ _ => rfl)) (pa_cons (pe_ix ix_tup (pv 7) pe_int (fun _ _ => rfl)) pa_nil))) (pa_cons (pe_tup (pa_cons pe_str (pa_cons (pe_ix ix_tup (pv 6) pe_int (fun _ _ => rfl)) (pa_cons (pe_ix ix_tup (pv 7) pe_int (fun _ _ => rfl)) pa_nil)))) pa_nil))) pa_nil)))) (pss_one (ps_if (pt_cmpR op_lt (pv 5) pe_int (nomark _)) (pss_one (ps_expr (pe_bm PySem.F.plainAttrs_list PySem.F.slot_list_append PySem.F.type_list_append mt_append (pv 2) (pa_cons (pe_tup (pa_cons (pe_meth (pv 1) PK.cls Munlike Gunlike (hr.mono (by omega)) bunlike .nil pass0 (pa_cons (pe_ix ix_tup (pv 6) pe_int (fun _ _ => rfl)) (pa_cons (pe_ix ix_tup (pv 7) pe_int (fun _ _ => rfl)) pa_nil))) (pa_cons (pe_tup (pa_cons pe_str (pa_cons (pe_ix ix_tup (pv 6) pe_int (fun _ _ => rfl)) (pa_cons (pe_ix ix_tup (pv 7) pe_int (fun _ _ => rfl)) pa_nil)))) pa_nil))) pa_nil)))) (pss_one (ps_if (pt_cmpR op_eq (pv 5) pe_int (nomark _)) (pss_one (ps_expr (pe_bm PySem.F.plainAttrs_list PySem.F.slot_list_append PySem.F.type_list_append mt_append (pv 2) (pa_cons (pe_tup (pa_cons (pe_meth (pv 1) PK.cls Mchosen Gchosen (hr.mono (by omega)) bchosen .nil pass0 (pa_cons (pe_ix ix_tup (pv 8) pe_int (fun _ _ => rfl)) (pa_cons (pe_ix ix_tup (pv 6) pe_int (fun _ _ => rfl)) (pa_cons (pe_ix ix_tup (pv 7) pe_int (fun _ _ => rfl)) pa_nil)))) (pa_cons (pe_tup (pa_cons pe_str (pa_cons (pe_ix ix_tup (pv 8) pe_int (fun _ _ => rfl)) (pa_cons (pe_ix ix_tup (pv 6) pe_int (fun _ _ => rfl)) (pa_cons (pe_ix ix_tup (pv 7) pe_int (fun _ _ => rfl)) pa_nil))))) pa_nil))) pa_nil)))) (pss_cons (ps_set (i := 9) sc__law_more.nd rfl (Or.inl rfl) (pe_ix ix_list (pe_call0 G_law_names (hr.mono (by omega)) (by rfl) m_law_names k_law_names b_law_names .nil pass0) (pe_call G_law_take (hr.mono (by omega)) rfl m_law_take k_law_take b_law_take .nil pass0 (pa_cons (pv 0) (pa_cons pe_int pa_nil))) (fun _ _ => rfl)))
      (pss_one (ps_expr (pe_bm PySem.F.plainAttrs_list PySem.F.slot_list_append PySem.F.type_list_append mt_append (pv 2) (pa_cons (pe_tup (pa_cons (pe_meth (pv 1) PK.cls Mbit Gbit (hr.mono (by omega)) bbit .nil pass0 (pa_cons (pv 9) pa_nil)) (pa_cons (pe_tup (pa_cons pe_str (pa_cons (pv 9) pa_nil))) pa_nil))) pa_nil))))))))))))))))))
      (pss_one (ps_ret (pv 2))))), ?_⟩
    refine ⟨_, rfl, R, us, rfl, .inl (SqL.of hR), fun R' hR' => ?_⟩
    have s0 := same_new hR' (.lst us)
    have nR : ∀ b o, H b = some o → b ≠ R' := fun b o e => ne_of_none e hR'
    have ndR : d ≠ R' := by obtain ⟨u, hu⟩ := hD.at; exact nR _ _ hu
    have nLR : L ≠ R' := by obtain ⟨u, hu⟩ := hD.cells; exact nR _ _ hu
    have npR : p ≠ R' := nR _ _ hp0
    obtain ⟨hmG, hmD⟩ : Mut (H G) ∧ Mut (H D') := ⟨A0.mut G (.head _), A0.mut D' (.tail _ (.head _))⟩
    have nGR : G ≠ R' := fun e => by rw [e, hR'] at hmG; exact hmG
    have nDR : D' ≠ R' := fun e => by rw [e, hR'] at hmD; exact hmD
    refine ⟨_, rfl, _, rfl, by omega, by omega, for_range (lo := 0) (n := many) (fun i σ' H' => ∃ (gs' : List Gt) (rs' : List Rw) (us' : List V) (o4 o5 o6 o7 o8 o9 : Option V), σ' = [some (.ref d), some (.ref p), some (.ref R'), some (.int many), o4, o5, o6, o7, o8, o9] ∧ DrawAt H' d L ∧ PoolAt P w K H' C p G D' gs' ∧ But [d, G, D'] H H' ∧ gs <+: gs' ∧ gs'.length ≤ gs.length + i ∧ rs <+: rs' ∧ rs'.length = rs.length + i ∧ H' R' = some (.lst us') ∧ DpAll K H' us' (rs'.map Rw.d) ∧ RowsOk gs' rs') ⟨gs, rs, us, _, _, _, _, _, _, rfl, hD.mono s0, A0.same s0, .of_same s0, List.prefix_refl _, Nat.le_refl _, List.prefix_refl _, rfl, upd_same, dpa_mono s0 _ hds, hok⟩ ?_ ?_⟩
    · rintro i σ' H1 hi ⟨gs1, rs1, us1, o4, o5, o6, o7, o8, o9, rfl, D1, A1, b1, pg1, lg1, pr1, lr1, hR1, hd1, ok1⟩
      obtain ⟨dx, ts1, hp1, _⟩ := A1.at_
      have ap1 := A1.apart D1
      have mutS : ∀ a ∈ [d, G, D'], Mut (H1 a) := by
        intro a ha
        rcases List.mem_cons.mp ha with e | ha
        · obtain ⟨ns, at_, left, seed, e1, _⟩ := D1
          rw [e, e1]; exact True.intro
        · exact A1.mut a ha
      have mutd : ∀ a ∈ [d], Mut (H1 a) := fun a ha => mutS a (by rw [List.mem_singleton.mp ha]; exact .head _)
      have nin : ∀ {S : List Addr} {b : Addr}, (∀ a ∈ S, b ≠ a) → b ∉ S := fun h m => h _ m rfl
      have rne : rs1 ≠ [] := fun e => hne (by rw [e] at pr1; exact List.prefix_nil.mp pr1)
      have hd1len : us1.length = rs1.length := by rw [dpa_len hd1, List.length_map]
      have dhide : DpAll K (hide d H1) us1 (rs1.map Rw.d) := by
        obtain ⟨ns, at_, left, seed, e1, _⟩ := D1
        exact dpa_hide e1 _ (rws_noLst _) hd1
      have fin : ∀ (H8 : Hp) (t8 : Addr) (gs6 : List Gt) (r : Int) (md : Md) (p4 p5 p6 p7 p8 p9 : Option V), DrawAt H8 d L → PoolAt P w K H8 C p G D' gs6 → But [d, G, D'] H1 H8 → gs1 <+: gs6 → gs6.length ≤ gs1.length + 1 → Dp K H8 (.ref t8) (Rw.d ⟨r, md⟩) → RowsOk gs6 (rs1 ++ [⟨r, md⟩]) →
          ∃ l xs v, V.ref R' = .ref l ∧ [V.ref t8] = [v] ∧ H8 l = some (.lst xs) ∧ xs.length < sizeLine ∧ ∃ (gs' : List Gt) (rs' : List Rw) (us' : List V) (o4 o5 o6 o7 o8 o9 : Option V), ([some (.ref d), some (.ref p), some (.ref R'), some (.int many), p4, p5, p6, p7, p8, p9] : L2.St) = [some (.ref d), some (.ref p), some (.ref R'), some (.int many), o4, o5, o6, o7, o8, o9] ∧ DrawAt (upd H8 l (.lst (xs ++ [v]))) d L ∧ PoolAt P w K (upd H8 l (.lst (xs ++ [v]))) C p G D' gs' ∧ But [d, G, D'] H (upd H8 l (.lst (xs ++ [v]))) ∧ gs <+: gs' ∧ gs'.length ≤ gs.length + (i + 1) ∧ rs <+: rs' ∧ rs'.length = rs.length + (i + 1) ∧ (upd H8 l (.lst (xs ++ [v]))) R' = some (.lst us') ∧ DpAll K (upd H8 l (.lst (xs ++ [v]))) us' (rs'.map Rw.d) ∧ RowsOk gs' rs' := by
        intro H8 t8 gs6 r md p4 p5 p6 p7 p8 p9 D8 A8 b8 pg8 lg8 ht8 ok8
        have nRS : R' ∉ [d, G, D'] := nin fun a ha => by
          rcases List.mem_cons.mp ha with e | ha
          · rw [e]; exact ndR.symm
          · rcases List.mem_cons.mp ha with e | ha
            · rw [e]; exact nGR.symm
            · rw [List.mem_singleton.mp ha]; exact nDR.symm
        have hR8 := b8 _ _ nRS hR1
        have mutR : ∀ a ∈ [R'], Mut (H8 a) := fun a ha => by rw [List.mem_singleton.mp ha, hR8]; exact True.intro
        have bR : But [R'] H8 (upd H8 R' (.lst (us1 ++ [.ref t8]))) := .put (.head _) _
        have n1 : ∀ {b : Addr}, b ≠ R' → b ∉ [R'] := fun h m => h (List.mem_singleton.mp m)
        refine ⟨R', us1, _, rfl, rfl, hR8, by rw [hd1len, lr1]; exact Nat.lt_of_le_of_lt (by omega) (show 1000 < sizeLine by decide), gs6, rs1 ++ [⟨r, md⟩], us1 ++ [.ref t8], _, _, _, _, _, _, rfl, D8.put _ ndR nLR, A8.keep mutR bR (n1 npR) (n1 nGR) (n1 nDR), fun b o n e => ?_, pg1.trans pg8, by omega, pr1.trans (List.prefix_append _ _), by rw [List.length_append, List.length_singleton]; omega, upd_same, ?_, ok8⟩
        · rw [upd_ne (nR _ _ e)]
          exact b8 _ _ n (b1 _ _ n e)
        · rw [List.map_append]
          exact dpa_app (dpa_but mutR bR _ (rws_noLst _) (dpa_but mutS b8 _ (rws_noLst _) hd1)) (dpa_one (dp_but mutR bR _ (rw_noLst _) ht8))
      -- what, x, y, c
      refine ⟨_, rfl, d, L, 9, rfl, by decide, by decide, D1, fun what H2 w0 w1 D2 s2 => ?_⟩
      have mono2 := fun (s : Same (hide d H1) (hide d H2)) => s
      refine ⟨_, rfl, _, rfl, d, L, R', rs1, us1, rfl, D2, SqL.of (s2 _ _ (hide_in hR1 ndR.symm)), dpa_mono s2 _ dhide, rne, by omega, fun H3 tx kx rx nx hkx htx D3 s3 hx => ?_⟩
      have s13 := s2.trans s3
      refine ⟨_, rfl, _, rfl, d, L, R', rs1, us1, rfl, D3, SqL.of (s13 _ _ (hide_in hR1 ndR.symm)), dpa_mono s13 _ dhide, rne, by omega, fun H4 ty ky ry ny hky hty D4 s4 hy => ?_⟩
      have s14 := s13.trans s4
      refine ⟨_, rfl, _, rfl, d, L, R', rs1, us1, rfl, D4, SqL.of (s14 _ _ (hide_in hR1 ndR.symm)), dpa_mono s14 _ dhide, rne, by omega, fun H5 tc kc rc nc hkc htc D5 s5 hc => ?_⟩
      have s15 := s14.trans s5
      have be := But.of_hide s15
      have n1 : ∀ {b : Addr}, b ≠ d → b ∉ [d] := fun h m => h (List.mem_singleton.mp m)
      have A5 := A1.keep mutd be (n1 ap1.dp.symm) (n1 ap1.dG.symm) (n1 ap1.dD.symm)
      have hp5 := be _ _ (n1 ap1.dp.symm) hp1
      have hR5 := be _ _ (n1 ndR.symm) hR1
      obtain ⟨_, ax, bx, ex, hsx, hax, hbx⟩ := dp_two (dp_mono hide_le _ (dp_mono (s4.trans s5) _ hx))
      cases ex
      cases hax
      obtain ⟨_, ay, by_, ey, hsy, hay, hby⟩ := dp_two (dp_mono hide_le _ (dp_mono s5 _ hy))
      cases ey
      cases hay
      obtain ⟨_, ac, bc, ec, hsc, hac, hbc⟩ := dp_two (dp_mono hide_le _ hc)
      cases ec
      cases hac
      have memk : ∀ {k : Nat} {r : Rw}, rs1[k]? = some r → r ∈ rs1 := fun h => List.mem_of_getElem? h
      have kl : ∀ {k : Nat} {r : Rw}, rs1[k]? = some r → k < rs1.length := fun h => (List.getElem?_eq_some_iff.mp h).1
      have okx := okL_xort (ok1.lit _ (memk hkx)) htx
      have oky := okL_xort (ok1.lit _ (memk hky)) hty
      have okc := okL_xort (ok1.lit _ (memk hkc)) htc
      have ap5 := A5.apart D5
      have glen : gs1.length + 1 ≤ 100000 := by omega
      have dGD : d ∉ [G, D'] := fun m => by
        rcases List.mem_cons.mp m with e | m
        · exact ap5.dG e
        · exact ap5.dD (List.mem_singleton.mp m)
      have LGD : L ∉ [G, D'] := fun m => by
        rcases List.mem_cons.mp m with e | m
        · exact ap5.LG e
        · exact ap5.LD (List.mem_singleton.mp m)
      have wide : ∀ {Ha Hb : Hp}, But [G, D'] Ha Hb → But [d, G, D'] Ha Hb := fun h => h.wide fun a ha => List.mem_cons_of_mem _ ha
      have b15 : But [d, G, D'] H1 H5 := be.wide fun a ha => by rw [List.mem_singleton.mp ha]; exact .head _
      have gx : ∀ {gs6 : List Gt}, gs1 <+: gs6 → ∀ env, told (rs1.map fun r => litv (bitsOf env gs6) r.lit) (kx, nx) = litv (bitsOf env gs1) (Builtin.bitXor rx.lit nx) := fun pg env => by rw [told_lit (ok1.pre pg) hkx htx, litv_pre okx pg]
      have gy : ∀ {gs6 : List Gt}, gs1 <+: gs6 → ∀ env, told (rs1.map fun r => litv (bitsOf env gs6) r.lit) (ky, ny) = litv (bitsOf env gs1) (Builtin.bitXor ry.lit ny) := fun pg env => by rw [told_lit (ok1.pre pg) hky hty, litv_pre oky pg]
      have gc : ∀ {gs6 : List Gt}, gs1 <+: gs6 → ∀ env, told (rs1.map fun r => litv (bitsOf env gs6) r.lit) (kc, nc) = litv (bitsOf env gs1) (Builtin.bitXor rc.lit nc) := fun pg env => by rw [told_lit (ok1.pre pg) hkc htc, litv_pre okc pg]
      -- an op of two
      have two : ∀ (md : Md) (nm : Str) (fo : Int → Int → Int) (H6 : Hp) (gs6 : List Gt) (r : Int), md = .both (kx, nx) (ky, ny) ∧ nm = "both" ∧ fo = fB ∨ md = .either (kx, nx) (ky, ny) ∧ nm = "either" ∧ fo = fE ∨ md = .unlike (kx, nx) (ky, ny) ∧ nm = "unlike" ∧ fo = fU →
          PoolAt P w K H6 C p G D' gs6 → But [G, D'] H5 H6 → gs1 <+: gs6 → gs6.length ≤ gs1.length + 1 → okL gs6 r → (∀ env, bitEnv env → litv (bitsOf env gs6) r = fo (litv (bitsOf env gs1) (Builtin.bitXor rx.lit nx)) (litv (bitsOf env gs1) (Builtin.bitXor ry.lit ny))) →
          RowsOk gs6 (rs1 ++ [⟨r, md⟩]) ∧ ∀ t7 t8, H6 t7 = none → (upd H6 t7 (.tup [.str nm, bx, by_])) t8 = none → Dp K (upd (upd H6 t7 (.tup [.str nm, bx, by_])) t8 (.tup [.int r, .ref t7])) (.ref t8) (Rw.d ⟨r, md⟩) := by
        intro md nm fo H6 gs6 r hmd A6 b6 pg6 lg6 okr sem
        constructor
        · refine (ok1.pre pg6).snoc okr (fun a ha => ?_) (fun n e => ?_) (fun env he => ?_) (fun b e => ?_)
          · have hrefs : md.refs = [(kx, nx), (ky, ny)] := by rcases hmd with ⟨e, _⟩ | ⟨e, _⟩ | ⟨e, _⟩ <;> rw [e] <;> rfl
            rw [hrefs] at ha
            rcases List.mem_cons.mp ha with e | ha
            · rw [e]; exact ⟨kl hkx, htx⟩
            · rw [List.mem_singleton.mp ha]; exact ⟨kl hky, hty⟩
          · rcases hmd with ⟨e2, _⟩ | ⟨e2, _⟩ | ⟨e2, _⟩ <;> rw [e2] at e <;> cases e
          · have hval : md.val env (rs1.map fun r => litv (bitsOf env gs6) r.lit) = fo (told (rs1.map fun r => litv (bitsOf env gs6) r.lit) (kx, nx)) (told (rs1.map fun r => litv (bitsOf env gs6) r.lit) (ky, ny)) := by
              rcases hmd with ⟨e, _, e2⟩ | ⟨e, _, e2⟩ | ⟨e, _, e2⟩ <;> rw [e, e2] <;> rfl
            show md.val env _ = litv (bitsOf env gs6) r
            rw [hval, sem env he, gx pg6, gy pg6]
          · rcases hmd with ⟨e2, _⟩ | ⟨e2, _⟩ | ⟨e2, _⟩ <;> rw [e2] at e <;> cases e
        · intro t7 t8 f7 f8
          have e7 := same_new f7 (.tup [.str nm, bx, by_])
          have e8 := same_new f8 (.tup [.int r, .ref t7])
          have hbx6 := dp_mono (e7.trans e8) _ (dp_but A5.mut b6 _ (ref_noLst _) hbx)
          have hby6 := dp_mono (e7.trans e8) _ (dp_but A5.mut b6 _ (ref_noLst _) hby)
          have hd : md.d = .tuple [.str nm, Ref.d (kx, nx), Ref.d (ky, ny)] := by rcases hmd with ⟨e, e2, _⟩ | ⟨e, e2, _⟩ | ⟨e, e2, _⟩ <;> rw [e, e2] <;> rfl
          show Dp K _ _ (.tuple [.int r, md.d])
          rw [hd]
          exact .tup (SqT.of upd_same) (.cons (.int _) (.cons (.tup (SqT.of (e8 _ _ upd_same)) (.cons (.str _) (.cons hbx6 (.cons hby6 .nil)))) .nil))
      have after : ∀ {H6 : Hp} {gs6 : List Gt}, PoolAt P w K H6 C p G D' gs6 → But [G, D'] H5 H6 → ∀ {H8 : Hp}, Same H6 H8 → DrawAt H8 d L ∧ PoolAt P w K H8 C p G D' gs6 ∧ But [d, G, D'] H1 H8 := fun A6 b6 _ s => ⟨(D5.but b6 dGD LGD).mono s, A6.same s, (b15.trans (wide b6)).trans (.of_same s)⟩
      have sx6 : ∀ {H6 : Hp}, But [G, D'] H5 H6 → SqT K H6 tx [.int (Builtin.bitXor rx.lit nx), bx] ∧ SqT K H6 ty [.int (Builtin.bitXor ry.lit ny), by_] ∧ SqT K H6 tc [.int (Builtin.bitXor rc.lit nc), bc] := fun b6 => ⟨sqt_but A5.mut b6 hsx, sqt_but A5.mut b6 hsy, sqt_but A5.mut b6 hsc⟩
      refine ⟨_, rfl, _, _, rfl, rfl, _, rfl, ite2 (fun _ => ?_) (fun _ => ?_)⟩
      · refine ⟨_, rfl, .inl ⟨rfl, _, SqL.of hR5⟩, _, rfl, p, dx, _, rfl, hp5, plFs_no _ _ (by decide +kernel) (by decide +kernel), _, rfl, tx, _, _, _, rfl, rfl, hsx, rfl, _, rfl, ty, _, _, _, rfl, rfl, hsy, rfl, p, G, D', gs1, _, _, rfl, A5, okx, oky, glen, fun H6 gs6 r A6 b6 pg6 lg6 okr sem => ?_⟩
        obtain ⟨hsx6, hsy6, hsc6⟩ := sx6 b6
        refine ⟨_, rfl, tx, _, _, _, rfl, rfl, hsx6, rfl, _, rfl, ty, _, _, _, rfl, rfl, hsy6, rfl, by show 3 ≤ sizeLine; decide, fun t7 f7 => ?_⟩
        refine ⟨by show 2 ≤ sizeLine; decide, fun t8 f8 => ?_⟩
        obtain ⟨ok8, hd8⟩ := two (.both (kx, nx) (ky, ny)) "both" fB H6 gs6 r (.inl ⟨rfl, rfl, rfl⟩) A6 b6 pg6 lg6 okr sem
        obtain ⟨D8, A8, b8⟩ := after A6 b6 ((same_new f7 _).trans (same_new f8 _))
        exact fin _ t8 gs6 r _ _ _ _ _ _ _ D8 A8 b8 pg6 lg6 (hd8 t7 t8 f7 f8) ok8
      refine ⟨_, rfl, rfl, _, rfl, ite2 (fun _ => ?_) (fun _ => ?_)⟩
      · refine ⟨_, rfl, .inl ⟨rfl, _, SqL.of hR5⟩, _, rfl, p, dx, _, rfl, hp5, plFs_no _ _ (by decide +kernel) (by decide +kernel), _, rfl, tx, _, _, _, rfl, rfl, hsx, rfl, _, rfl, ty, _, _, _, rfl, rfl, hsy, rfl, p, G, D', gs1, _, _, rfl, A5, okx, oky, glen, fun H6 gs6 r A6 b6 pg6 lg6 okr sem => ?_⟩
        obtain ⟨hsx6, hsy6, hsc6⟩ := sx6 b6
        refine ⟨_, rfl, tx, _, _, _, rfl, rfl, hsx6, rfl, _, rfl, ty, _, _, _, rfl, rfl, hsy6, rfl, by show 3 ≤ sizeLine; decide, fun t7 f7 => ?_⟩
        refine ⟨by show 2 ≤ sizeLine; decide, fun t8 f8 => ?_⟩
        obtain ⟨ok8, hd8⟩ := two (.either (kx, nx) (ky, ny)) "either" fE H6 gs6 r (.inr (.inl ⟨rfl, rfl, rfl⟩)) A6 b6 pg6 lg6 okr sem
        obtain ⟨D8, A8, b8⟩ := after A6 b6 ((same_new f7 _).trans (same_new f8 _))
        exact fin _ t8 gs6 r _ _ _ _ _ _ _ D8 A8 b8 pg6 lg6 (hd8 t7 t8 f7 f8) ok8
      refine ⟨_, rfl, _, _, rfl, rfl, _, rfl, ite2 (fun _ => ?_) (fun _ => ?_)⟩
      · refine ⟨_, rfl, .inl ⟨rfl, _, SqL.of hR5⟩, _, rfl, p, dx, _, rfl, hp5, plFs_no _ _ (by decide +kernel) (by decide +kernel), _, rfl, tx, _, _, _, rfl, rfl, hsx, rfl, _, rfl, ty, _, _, _, rfl, rfl, hsy, rfl, p, G, D', gs1, _, _, rfl, A5, okx, oky, glen, fun H6 gs6 r A6 b6 pg6 lg6 okr sem => ?_⟩
        obtain ⟨hsx6, hsy6, hsc6⟩ := sx6 b6
        refine ⟨_, rfl, tx, _, _, _, rfl, rfl, hsx6, rfl, _, rfl, ty, _, _, _, rfl, rfl, hsy6, rfl, by show 3 ≤ sizeLine; decide, fun t7 f7 => ?_⟩
        refine ⟨by show 2 ≤ sizeLine; decide, fun t8 f8 => ?_⟩
        obtain ⟨ok8, hd8⟩ := two (.unlike (kx, nx) (ky, ny)) "unlike" fU H6 gs6 r (.inr (.inr ⟨rfl, rfl, rfl⟩)) A6 b6 pg6 lg6 okr sem
        obtain ⟨D8, A8, b8⟩ := after A6 b6 ((same_new f7 _).trans (same_new f8 _))
        exact fin _ t8 gs6 r _ _ _ _ _ _ _ D8 A8 b8 pg6 lg6 (hd8 t7 t8 f7 f8) ok8
      refine ⟨_, rfl, rfl, _, rfl, ite2 (fun _ => ?_) (fun _ => ?_)⟩
      · refine ⟨_, rfl, .inl ⟨rfl, _, SqL.of hR5⟩, _, rfl, p, dx, _, rfl, hp5, plFs_no _ _ (by decide +kernel) (by decide +kernel), _, rfl, tc, _, _, _, rfl, rfl, hsc, rfl, _, rfl, tx, _, _, _, rfl, rfl, hsx, rfl, _, rfl, ty, _, _, _, rfl, rfl, hsy, rfl, p, G, D', gs1, _, _, _, rfl, A5, okc, okx, oky, glen, fun H6 gs6 r A6 b6 pg6 lg6 okr sem => ?_⟩
        obtain ⟨hsx6, hsy6, hsc6⟩ := sx6 b6
        refine ⟨_, rfl, tc, _, _, _, rfl, rfl, hsc6, rfl, _, rfl, tx, _, _, _, rfl, rfl, hsx6, rfl, _, rfl, ty, _, _, _, rfl, rfl, hsy6, rfl, by show 4 ≤ sizeLine; decide, fun t7 f7 => ?_⟩
        refine ⟨by show 2 ≤ sizeLine; decide, fun t8 f8 => ?_⟩
        have e7 := same_new f7 (.tup [.str "chosen", bc, bx, by_])
        have e8 := same_new f8 (.tup [.int r, .ref t7])
        obtain ⟨D8, A8, b8⟩ := after A6 b6 (e7.trans e8)
        refine fin _ t8 gs6 r (.chosen (kc, nc) (kx, nx) (ky, ny)) _ _ _ _ _ _ D8 A8 b8 pg6 lg6 ?_ ?_
        · have hbx6 := dp_mono (e7.trans e8) _ (dp_but A5.mut b6 _ (ref_noLst _) hbx)
          have hby6 := dp_mono (e7.trans e8) _ (dp_but A5.mut b6 _ (ref_noLst _) hby)
          have hbc6 := dp_mono (e7.trans e8) _ (dp_but A5.mut b6 _ (ref_noLst _) hbc)
          exact .tup (SqT.of upd_same) (.cons (.int _) (.cons (.tup (SqT.of (e8 _ _ upd_same)) (.cons (.str _) (.cons hbc6 (.cons hbx6 (.cons hby6 .nil))))) .nil))
        · refine (ok1.pre pg6).snoc okr (fun a ha => ?_) (fun n e => by cases e) (fun env he => ?_) (fun b e => by cases e)
          · rcases List.mem_cons.mp (show a ∈ [(kc, nc), (kx, nx), (ky, ny)] from ha) with e | ha
            · rw [e]; exact ⟨kl hkc, htc⟩
            · rcases List.mem_cons.mp ha with e | ha
              · rw [e]; exact ⟨kl hkx, htx⟩
              · rw [List.mem_singleton.mp ha]; exact ⟨kl hky, hty⟩
          · show fC (told _ (kc, nc)) (told _ (kx, nx)) (told _ (ky, ny)) = litv (bitsOf env gs6) r
            rw [sem env he, gx pg6, gy pg6, gc pg6]
      · refine ⟨rfl, fun rn ns Hn sn fn hrn hns => ?_⟩
        have Dn := D5.mono sn
        have An := A5.same sn
        have ndn : rn ≠ d := by
          obtain ⟨z, hz⟩ := D5.at
          exact (ne_of_none hz fn).symm
        refine ⟨_, rfl, d, L, 4, rfl, by decide, by decide, Dn, fun z H6 z0 z1 D6 s6 => ?_⟩
        have b6 := But.of_hide s6
        have hns6 := dpa_mono s6 _ (by
          obtain ⟨nss, at_, left, seed, e1, _⟩ := Dn
          exact dpa_hide e1 _ (show noLsts (nmL.map NestedKey.data) = true from noLsts_map nk_noLst _) hns)
        have lns : ns.length = 4 := by rw [dpa_len hns]; rfl
        obtain ⟨y, ay, gy4, my⟩ := atI_in (xs := ns) z0 (by omega)
        obtain ⟨dd, hdd, hyd⟩ := dpa_get hns6 gy4
        obtain ⟨n, hn, rfl⟩ := List.mem_map.mp (List.mem_of_getElem? hdd)
        obtain ⟨⟨ks, hks⟩, h7⟩ := nmL_ok n hn
        obtain ⟨nb, rfl⟩ : ∃ nb, y = .ref nb := by
          rw [hks] at hyd
          cases hyd
          exact ⟨_, rfl⟩
        have hyd6 := dp_mono hide_le _ hyd
        refine ⟨rn, ns, _, _, rfl, rfl, SqL.of (hide_le _ _ (s6 _ _ (hide_in hrn ndn))), ay, ?_⟩
        have mutd5 : ∀ a ∈ [d], Mut (Hn a) := fun a ha => by
          obtain ⟨nss, at_, left, seed, e1, _⟩ := Dn
          rw [List.mem_singleton.mp ha, e1]
          exact True.intro
        have apn := An.apart Dn
        have A6 := An.keep mutd5 b6 (n1 apn.dp.symm) (n1 apn.dG.symm) (n1 apn.dD.symm)
        have hp6 := b6 _ _ (n1 apn.dp.symm) (sn _ _ hp5)
        have hR6 := b6 _ _ (n1 ndR.symm) (sn _ _ hR5)
        refine ⟨_, rfl, .inl ⟨rfl, _, SqL.of hR6⟩, _, rfl, p, dx, _, rfl, hp6, plFs_no _ _ (by decide +kernel) (by decide +kernel), _, rfl, p, G, D', nb, gs1, n, rfl, A6, hyd6, h7, glen, fun H9 gs6 j A9 b9 pg9 lg9 hj => ?_⟩
        refine ⟨_, rfl, by show 2 ≤ sizeLine; decide, fun t7 f7 => ?_⟩
        refine ⟨by show 2 ≤ sizeLine; decide, fun t8 f8 => ?_⟩
        have e7 := same_new f7 (.tup [.str "bit", .ref nb])
        have e8 := same_new f8 (.tup [.int (2 * (j : Int)), .ref t7])
        have hyd9 := dp_mono (e7.trans e8) _ (dp_but A6.mut b9 _ (nk_noLst _) hyd6)
        have b1n : But [d, G, D'] H1 H6 := (b15.trans (.of_same sn)).trans (b6.wide fun a ha => by rw [List.mem_singleton.mp ha]; exact .head _)
        have ap6 := A6.apart D6
        have dGD6 : d ∉ [G, D'] := dGD
        refine fin _ t8 gs6 (2 * (j : Int)) (.bit n) _ _ _ _ _ _ ((D6.but b9 dGD LGD).mono (e7.trans e8)) (A9.same (e7.trans e8)) ((b1n.trans (wide b9)).trans (.of_same (e7.trans e8))) pg9 lg9 ?_ ?_
        · exact .tup (SqT.of upd_same) (.cons (.int _) (.cons (.tup (SqT.of (e8 _ _ upd_same)) (.cons (.str _) (.cons hyd9 .nil))) .nil))
        · refine (ok1.pre pg9).snoc (okL_gate hj) (fun a ha => nomatch ha) (fun m e => by cases e; exact ⟨⟨ks, hks⟩, h7⟩) (fun env he => ?_) (fun b e => by cases e)
          show env n = litv (bitsOf env gs6) (2 * (j : Int))
          rw [lit_gate A9.ok hj env]
          rfl
    · rintro σ' H' ⟨gs', rs', us', o4, o5, o6, o7, o8, o9, rfl, D1, A1, b1, pg1, lg1, pr1, lr1, hR1, hd1, ok1⟩
      exact ⟨_, rfl, q H' R' gs' rs' us' D1 A1 b1 hR' pg1 lg1 pr1 lr1 hR1 hd1 ok1⟩
end
end My


set_option Elab.async false
set_option maxRecDepth 100000
set_option maxHeartbeats 4000000
set_option linter.all false
namespace My
open PySem L2 PyProof.Rows
open C8 (pss_cut)
theorem valsOf_pre (env : Bits) (a b : List Rw) : ∃ t, valsOf env (a ++ b) = valsOf env a ++ t := by
  induction b using snoc_rec with
  | h0 => exact ⟨[], by rw [List.append_nil, List.append_nil]⟩
  | h1 xs x ih =>
    obtain ⟨t, ht⟩ := ih
    rw [← List.append_assoc, valsOf_snoc, ht]
    exact ⟨t ++ [x.md.val env (valsOf env a ++ t)], by rw [List.append_assoc]⟩
theorem valsOf_take (env : Bits) (rs : List Rw) (i : Nat) (h : i ≤ rs.length) : valsOf env (rs.take i) = (valsOf env rs).take i := by
  obtain ⟨t, ht⟩ := valsOf_pre env (rs.take i) (rs.drop i)
  rw [List.take_append_drop] at ht
  have hl : (valsOf env (rs.take i)).length = i := by rw [valsOf_len, List.length_take]; omega
  rw [ht, List.take_append_of_le_length (Nat.le_of_eq hl.symm)]
  exact (List.take_of_length_le (Nat.le_of_eq hl)).symm
theorem vals_bit {gs : List Gt} {rs : List Rw} (h : RowsOk gs rs) {env : Bits} (he : bitEnv env) : ∀ v ∈ valsOf env rs, v = 0 ∨ v = 1 := by
  rw [h.val env he]
  intro v hv
  obtain ⟨r, _, rfl⟩ := List.mem_map.mp hv
  exact litv_bit (bits_bit he gs) _
theorem told_bit {vs : List Int} (h : ∀ v ∈ vs, v = 0 ∨ v = 1) (a : Ref) : told vs a = 0 ∨ told vs a = 1 := by
  have := getD_bit h a.1
  unfold told
  split <;> omega
def mdS : Md → Str
  | .is _ => "is"
  | .bit _ => "bit"
  | .both _ _ => "both"
  | .either _ _ => "either"
  | .unlike _ _ => "unlike"
  | .chosen _ _ _ => "chosen"
def Md.op : Md → Bool
  | .is _ => false
  | .bit _ => false
  | _ => true
theorem mdS_no {md : Md} (h : md.op = true) : ¬ (decide (V.str (mdS md) = V.str "is") = true) ∧ ¬ (decide (V.str (mdS md) = V.str "bit") = true) := by
  cases md with
  | is b => cases h
  | bit n => cases h
  | both a b => show ¬ (decide (V.str "both" = V.str "is") = true) ∧ ¬ (decide (V.str "both" = V.str "bit") = true); decide +kernel
  | either a b => show ¬ (decide (V.str "either" = V.str "is") = true) ∧ ¬ (decide (V.str "either" = V.str "bit") = true); decide +kernel
  | unlike a b => show ¬ (decide (V.str "unlike" = V.str "is") = true) ∧ ¬ (decide (V.str "unlike" = V.str "bit") = true); decide +kernel
  | chosen c a b => show ¬ (decide (V.str "chosen" = V.str "is") = true) ∧ ¬ (decide (V.str "chosen" = V.str "bit") = true); decide +kernel
theorem refs_len (md : Md) : md.refs.length ≤ 3 := by cases md <;> simp [Md.refs]
theorem md_seq {K : PySem.W.Frag} {H : Hp} {v : V} {md : Md} (ho : md.op = true) (h : Dp K H v md.d) : ∃ t bs, v = .ref t ∧ SqT K H t (.str (mdS md) :: bs) ∧ DpAll K H bs (md.refs.map Ref.d) := by
  have gen : ∀ (x : Str) (ds : List PyData), Dp K H v (.tuple (.str x :: ds)) → ∃ t bs, v = .ref t ∧ SqT K H t (.str x :: bs) ∧ DpAll K H bs ds := by
    intro x ds h
    cases h with
    | tup hs ha =>
      cases ha with
      | cons h1 h2 =>
        cases h1
        exact ⟨_, _, rfl, hs, h2⟩
  cases md with
  | is b => cases ho
  | bit n => cases ho
  | both a b => exact gen "both" [a.d, b.d] h
  | either a b => exact gen "either" [a.d, b.d] h
  | unlike a b => exact gen "unlike" [a.d, b.d] h
  | chosen c a b => exact gen "chosen" [c.d, a.d, b.d] h
def due3 (x y z : V) : List (Key × V) := [(Sum.inr "both", x), (Sum.inr "either", y), (Sum.inr "unlike", z)]
theorem due_b (x y z : V) : valV (mergeK [] (due3 x y z)) (.inr "both") = some x := by rfl
theorem due_e (x y z : V) : valV (mergeK [] (due3 x y z)) (.inr "either") = some y := by rfl
theorem due_u (x y z : V) : valV (mergeK [] (due3 x y z)) (.inr "unlike") = some z := by rfl
def spValues (P : Program) (w : World) (K : PySem.W.Frag) : Sp := fun vs H Q _ => ∃ (R a : Addr) (gs : List Gt) (rs : List Rw) (us : List V) (rows : NRows), vs = [.ref R, .ref a] ∧ SqL K H R us ∧ DpAll K H us (rs.map Rw.d) ∧ RowsOk gs rs ∧ rs.length ≤ 900 ∧ BitsAt P w K H a rows ∧
  ∀ H' F, Same H H' → H F = none → H' F = some (.lst ((valsOf (envOf rows) rs).map V.int)) → Q (.ref F) H'
section
variable {P : Program} {w : World} {K : PySem.W.Frag} {mg : Str → Option Value} {base : Heap} {f C : Addr} {fd : FuncData}
theorem ok__law_values (T : Txt K mg) (D : Def K mg "_law_values" ["rows", "bits"] s__law_values f fd) : Own P w K mg base "_law_values" ["rows", "bits"] 1 (spValues P w K) := by
  refine ⟨f, fd, D.mg, D.fn.kp, D.bd, D.fn.ok sc__law_values (fun vs H Q E h => ?_) (fun cdv A outer s H vs Q E hr h => ?_)⟩
  · obtain ⟨R, a, gs, rs, us, rows, rfl, _⟩ := h
    rfl
  · obtain ⟨R, a, gs, rs, us, rows, rfl, hR, hds, hok, hl, hB, q⟩ := h
    have hu := hu_of hr
    have lus : us.length = rs.length := by rw [dpa_len hds, List.length_map]
    have hvb := vals_bit hok (envOf_bit hB)
    refine ⟨_, (pss_cons (ps_set (i := 2) sc__law_values.nd rfl (Or.inr rfl) (pe_lst pa_nil))
      (pss_cons (ps_for PassesOwn.never rfl (pi_list (pv 0)) (pg_tup (by rfl) (pgs_cons (pg_name (i := 3) sc__law_values.nd rfl (Or.inl rfl)) (pgs_cons (pg_name (i := 4) sc__law_values.nd rfl (Or.inl rfl)) pgs_nil))) (pss_one (ps_if (pt_cmpR op_eq (pe_ix ix_tup (pv 4) pe_int (fun _ _ => rfl)) pe_str (nomark _)) (pss_one (ps_expr (pe_bm PySem.F.plainAttrs_list PySem.F.slot_list_append PySem.F.type_list_append mt_append (pv 2) (pa_cons (pe_ix ix_tup (pv 4) pe_int (fun _ _ => rfl)) pa_nil)))) (pss_one (ps_if (pt_cmpR op_eq (pe_ix ix_tup (pv 4) pe_int (fun _ _ => rfl)) pe_str (nomark _)) (pss_one (ps_expr (pe_bm PySem.F.plainAttrs_list PySem.F.slot_list_append PySem.F.type_list_append mt_append (pv 2) (pa_cons (pe_getN (room65 hr) (pv 1) (pe_ix ix_tup (pv 4) pe_int (fun _ _ => rfl)) pe_int ⟨rfl, rfl, rfl, rfl⟩) pa_nil)))) (pss_cons (ps_setLc (i := 5) (own := [("k", 7), ("turn", 8)]) (g := gTup K 2 (gCons (gName 7) (gCons (gName 8) gNil))) (tt := tYes) rfl sc__law_values.nd rfl rfl (sw_true rfl rfl rfl (by decide +kernel)) (pi_tup (pe_slice sl_tup (pv 4) (po_some pe_int) po_none)) (blkOk_by (N := N__law_values) (sc := defScope s__law_values) (own := [("k", 7), ("turn", 8)]) (by decide +kernel)) (fun _ _ _ _ _ => (pg_tup (by rfl) (pgs_cons (pg_name (i := 7) sc__law_values.nd rfl (Or.inl rfl)) (pgs_cons (pg_name (i := 8) sc__law_values.nd rfl (Or.inl rfl)) pgs_nil)))) (fun _ _ _ _ _ => pts_nil) (fun _ _ _ _ _ => (pe_ifExp (pt_cmpR op_eq (pv 8) pe_int (nomark _)) (pe_ix (ix_listK (K := K) rfl) (pv 2) (pv 7) (fun _ _ => rfl)) (pe_op op_sub pe_int (pe_ix (ix_listK (K := K) rfl) (pv 2) (pv 7) (fun _ _ => rfl))))))
      (pss_one (ps_if (pt_cmpR op_eq (pe_ix ix_tup (pv 4) pe_int (fun _ _ => rfl)) pe_str (nomark _)) (pss_one (ps_expr (pe_bm PySem.F.plainAttrs_list PySem.F.slot_list_append PySem.F.type_list_append mt_append (pv 2) (pa_cons (pe_ifExp (pt_cmpR op_eq (pe_ix ix_list (pv 5) pe_int (fun _ _ => rfl)) pe_int (nomark _)) (pe_ix ix_list (pv 5) pe_int (fun _ _ => rfl)) (pe_ix ix_list (pv 5) pe_int (fun _ _ => rfl))) pa_nil)))) (pss_cons (ps_set (i := 6) sc__law_values.nd rfl (Or.inl rfl) (pe_dget hu (pe_disp (pps_cons pe_str (pe_lst (pa_cons pe_int pa_nil)) (pps_cons pe_str (pe_lst (pa_cons pe_int (pa_cons pe_int pa_nil))) (pps_cons pe_str (pe_lst (pa_cons pe_int pa_nil)) pps_nil))) (by rfl) (by rfl) (fun z => by cases z) (by decide)) (pe_ix ix_tup (pv 4) pe_int (fun _ _ => rfl)) (fun _ _ => rfl)))
      (pss_one (ps_expr (pe_bm PySem.F.plainAttrs_list PySem.F.slot_list_append PySem.F.type_list_append mt_append (pv 2) (pa_cons (pe_callTy call_int1 (by rfl) T.m_int (by decide +kernel) (pa_cons (pe_cmpR op_in_seq (pe_callB (cr_sum rfl) (by rfl) T.m_sum (by decide +kernel) (pa_cons (pv 5) pa_nil)) (pv 6) (by rfl)) pa_nil)) pa_nil)))))))))))))
      (pss_one (ps_ret (pv 2))))), ?_⟩
    refine ⟨Nat.zero_le _, fun F hF => ?_⟩
    have s0 := same_new hF (.lst [])
    have nF : ∀ b o, H b = some o → b ≠ F := fun b o e => ne_of_none e hF
    refine ⟨_, rfl, R, rfl, ⟨_, sql_mono s0 hR⟩, for_list (K := K) (a := R) (xs := us) (fun i σ' H' => ∃ (o3 o4 o5 o6 : Option V), σ' = [some (.ref R), some (.ref a), some (.ref F), o3, o4, o5, o6, none, none] ∧ Same H H' ∧ H' F = some (.lst ((valsOf (envOf rows) (rs.take i)).map V.int)) ∧ i ≤ rs.length) ⟨_, _, _, _, rfl, s0, upd_same, Nat.zero_le _⟩ (fun i σ' H' _ ⟨_, _, _, _, _, s, _⟩ => sql_mono s hR) ?_ ?_⟩
    · rintro i y σ' H1 hi ⟨o3, o4, o5, o6, rfl, s1, hF1, _⟩
      obtain ⟨dd, hdd, hy⟩ := dpa_get (dpa_mono s1 _ hds) hi
      have hir : i < rs.length := by rw [← lus]; exact (List.getElem?_eq_some_iff.mp hi).1
      have hri : rs[i]? = some rs[i] := List.getElem?_eq_getElem hir
      rw [List.getElem?_map, hri] at hdd
      cases hdd
      obtain ⟨t, va, vm, rfl, ht, hva, hvm⟩ := dp_two hy
      cases hva
      obtain ⟨vs, hvs⟩ : ∃ vs, vs = valsOf (envOf rows) (rs.take i) := ⟨_, rfl⟩
      rw [← hvs] at hF1
      have lvs : vs.length = i := by rw [hvs, valsOf_len, List.length_take]; omega
      have hvbs : ∀ v ∈ vs, v = 0 ∨ v = 1 := fun v hv => hvb v (by rw [hvs, valsOf_take _ _ _ (by omega)] at hv; exact List.mem_of_mem_take hv)
      have fin : ∀ (H8 : Hp) (p3 p4 p5 p6 : Option V), Same H1 H8 → ∃ l xs v, V.ref F = .ref l ∧ [V.int (rs[i].md.val (envOf rows) vs)] = [v] ∧ H8 l = some (.lst xs) ∧ xs.length < sizeLine ∧ ∃ (o3 o4 o5 o6 : Option V), ([some (.ref R), some (.ref a), some (.ref F), p3, p4, p5, p6, none, none] : L2.St) = [some (.ref R), some (.ref a), some (.ref F), o3, o4, o5, o6, none, none] ∧ Same H (upd H8 l (.lst (xs ++ [v]))) ∧ (upd H8 l (.lst (xs ++ [v]))) F = some (.lst ((valsOf (envOf rows) (rs.take (i + 1))).map V.int)) ∧ i + 1 ≤ rs.length := by
        intro H8 p3 p4 p5 p6 s8
        refine ⟨F, _, _, rfl, rfl, s8 _ _ hF1, ?_, _, _, _, _, rfl, fun b o e => ?_, ?_, hir⟩
        · rw [List.length_map, lvs]
          exact Nat.lt_of_lt_of_le (show i < 1000 by omega) (by decide)
        · rw [upd_ne (nF _ _ e)]
          exact s8 _ _ (s1 b o e)
        · rw [upd_same, take_nextV hri, valsOf_snoc, ← hvs, List.map_append]
          rfl
      have hF1L := SqL.of (K := K) hF1
      refine ⟨t, _, rfl, ht, rfl, _, _, rfl, _, _, rfl, rfl, ?_⟩
      cases hop : rs[i].md.op with
      | false =>
        cases hmd : rs[i].md with
        | is b =>
          rw [hmd] at hvm fin
          obtain ⟨tm, x1, x2, rfl, hs, h1, h2⟩ := dp_two (show Dp K H1 vm (.tuple [.str "is", .int b]) from hvm)
          cases h1
          cases h2
          refine ⟨_, rfl, tm, _, _, _, rfl, rfl, hs, rfl, rfl, _, rfl, ite2 (fun _ => ?_) (fun c => absurd (decide_eq_true rfl) c)⟩
          exact ⟨_, rfl, .inl ⟨rfl, _, hF1L⟩, _, rfl, tm, _, _, _, rfl, rfl, hs, rfl, fin H1 _ _ _ _ (Same.refl _)⟩
        | bit n =>
          rw [hmd] at hvm fin
          obtain ⟨⟨ks, hks⟩, h7⟩ := hok.nm _ (List.getElem_mem hir) n hmd
          obtain ⟨tm, x1, x2, rfl, hs, h1, h2⟩ := dp_two (show Dp K H1 vm (.tuple [.str "bit", n.data]) from hvm)
          cases h1
          obtain ⟨nb, rfl⟩ : ∃ nb, x2 = .ref nb := by
            rw [hks] at h2
            cases h2
            exact ⟨_, rfl⟩
          have B1 := hB.same s1
          refine ⟨_, rfl, tm, _, _, _, rfl, rfl, hs, rfl, rfl, _, rfl, ite2 (fun c => absurd c (by show ¬ (decide (V.str "bit" = V.str "is") = true); decide +kernel)) (fun _ => ?_)⟩
          refine ⟨_, rfl, tm, _, _, _, rfl, rfl, hs, rfl, rfl, _, rfl, ite2 (fun _ => ?_) (fun c => absurd (decide_eq_true rfl) c)⟩
          refine ⟨_, rfl, .inl ⟨rfl, _, hF1L⟩, _, rfl, a, rows, rfl, B1.dn, _, rfl, tm, _, _, _, rfl, rfl, hs, rfl, nb, n, rows, rfl, h2, by omega, B1.dn, ?_⟩
          rw [envOf_get B1]
          exact fin H1 _ _ _ _ (Same.refl _)
        | _ => rw [hmd] at hop; cases hop
      | true =>
        obtain ⟨tm, bs, rfl, hs, hbs⟩ := md_seq hop hvm
        have hrefs := hok.refs i rs[i] hri
        refine ⟨_, rfl, tm, _, _, _, rfl, rfl, hs, at0', rfl, _, rfl, ite2 (fun c => absurd c (mdS_no hop).1) (fun _ => ?_)⟩
        refine ⟨_, rfl, tm, _, _, _, rfl, rfl, hs, at0', rfl, _, rfl, ite2 (fun c => absurd c (mdS_no hop).2) (fun _ => ?_)⟩
        refine ⟨_, rfl, _, rfl, tm, _, rfl, hs, not_whole _ _ _, fun p2 hp2 => ?_⟩
        rw [cut_from1]
        have s2 := same_new hp2 (.tup ((V.str (mdS rs[i].md) :: bs).drop 1))
        have hl3 := refs_len rs[i].md
        have lbs : bs.length = rs[i].md.refs.length := by rw [dpa_len hbs, List.length_map]
        refine ⟨p2, rfl, ⟨_, SqT.of upd_same⟩, fun D1 hD1 => lc_tup (K := K) (a := p2) (xs := bs) (fun j H2 => H2 D1 = some (.lst (((rs[i].md.refs.take j).map (told vs)).map V.int)) ∧ Same (upd H1 p2 (.tup ((V.str (mdS rs[i].md) :: bs).drop 1))) H2 ∧ j ≤ rs[i].md.refs.length) ⟨upd_same, same_new hD1 _, Nat.zero_le _⟩ (fun j H2 _ ⟨_, s, _⟩ => sqt_mono s (SqT.of upd_same)) ?_ ?_⟩
        · rintro j y H2 hj ⟨h1, s3, _⟩
          obtain ⟨dd, hdd, hy2⟩ := dpa_get (dpa_mono (s2.trans s3) _ hbs) hj
          rw [List.getElem?_map] at hdd
          obtain ⟨r, hr2, rfl⟩ := Option.map_eq_some_iff.mp hdd
          obtain ⟨ty, x1, x2, rfl, hty, hx1, hx2⟩ := dp_two hy2
          cases hx1
          cases hx2
          have hrr := hrefs r (List.mem_of_getElem? hr2)
          have hF2 := SqL.of (K := K) ((s2.trans s3) _ _ hF1)
          have hlt : r.1 < vs.length := by omega
          have hat : atI (vs.map V.int) (r.1 : Int) = some (.int (vs.getD r.1 0)) := atI_nat (by rw [List.getElem?_map, List.getD_eq_getElem?_getD, List.getElem?_eq_getElem hlt]; rfl)
          have fin2 : ∃ acc, H2 D1 = some (.lst acc) ∧ acc.length < sizeLine ∧ (upd H2 D1 (.lst (acc ++ [V.int (told vs r)]))) D1 = some (.lst (((rs[i].md.refs.take (j + 1)).map (told vs)).map V.int)) ∧ Same (upd H1 p2 (.tup ((V.str (mdS rs[i].md) :: bs).drop 1))) (upd H2 D1 (.lst (acc ++ [V.int (told vs r)]))) ∧ j + 1 ≤ rs[i].md.refs.length := by
            refine ⟨_, h1, ?_, ?_, fun b o e => ?_, (List.getElem?_eq_some_iff.mp hr2).1⟩
            · rw [List.length_map, List.length_map, List.length_take]
              exact Nat.lt_of_le_of_lt (show _ ≤ 3 by omega) (by decide)
            · rw [upd_same, take_nextV hr2, List.map_append, List.map_append]
              rfl
            · rw [upd_ne (ne_of_none e hD1)]
              exact s3 _ _ e
          refine ⟨ty, _, rfl, hty, rfl, _, _, rfl, _, _, rfl, rfl, rfl, yesV ?_⟩
          rw [if_pos rfl]
          refine ⟨_, rfl, rfl, _, rfl, ite2 (fun c => ?_) (fun c => ?_)⟩
          · have e : told vs r = vs.getD r.1 0 := by unfold told; rw [if_pos (int_of c)]
            rw [e] at fin2
            exact ⟨_, rfl, _, rfl, F, _, _, _, rfl, rfl, hF2, hat, fin2⟩
          · have e : told vs r = 1 - vs.getD r.1 0 := by unfold told; rw [if_neg (fun z => c (decide_eq_true (by rw [z])))]
            rw [e] at fin2
            exact ⟨_, rfl, _, rfl, F, _, _, _, rfl, rfl, hF2, hat, _, _, rfl, rfl, fin2⟩
        · rintro H3 ⟨h3, s3, _⟩
          rw [lbs, List.take_length] at h3
          have s13 := s2.trans s3
          have hs3 := sqt_mono s13 hs
          have h3L := SqL.of (K := K) h3
          have hF3L := SqL.of (K := K) (s13 _ _ hF1)
          have tb := told_bit hvbs
          cases hmd : rs[i].md with
          | is b => rw [hmd] at hop; cases hop
          | bit n => rw [hmd] at hop; cases hop
          | chosen c x y =>
            rw [hmd] at hs3 h3L fin
            refine ⟨_, rfl, tm, _, _, _, rfl, rfl, hs3, at0', rfl, _, rfl, ite2 (fun _ => ?_) (fun b => absurd (decide_eq_true rfl) b)⟩
            have e : Md.val (envOf rows) vs (.chosen c x y) = if told vs c = 1 then told vs x else told vs y := rfl
            rw [e] at fin
            refine ⟨_, rfl, .inl ⟨rfl, _, hF3L⟩, _, rfl, D1, _, _, _, rfl, rfl, h3L, rfl, rfl, _, rfl, ite2 (fun b => ?_) (fun b => ?_)⟩
            · rw [if_pos (int_of b)] at fin
              exact ⟨_, rfl, D1, _, _, _, rfl, rfl, h3L, rfl, fin H3 _ _ _ _ s13⟩
            · rw [if_neg (fun z => b (decide_eq_true (by rw [z])))] at fin
              exact ⟨_, rfl, D1, _, _, _, rfl, rfl, h3L, rfl, fin H3 _ _ _ _ s13⟩
          | both x y =>
            rw [hmd] at hs3 h3L fin
            refine ⟨_, rfl, tm, _, _, _, rfl, rfl, hs3, at0', rfl, _, rfl, ite2 (fun b => absurd b (by show ¬ (decide (V.str "both" = V.str "chosen") = true); decide +kernel)) (fun _ => ?_)⟩
            refine fun pD fD => ?_
            refine ⟨by show 1 ≤ sizeLine; decide, fun l1 f1 => ?_⟩
            refine ⟨by show 2 ≤ sizeLine; decide, fun l2 f2 => ?_⟩
            refine ⟨by show 1 ≤ sizeLine; decide, fun l3 f3 => ?_⟩
            have g0 : (upd H3 pD (.dK [])) pD = some (.dK []) := upd_same
            have n1 : l1 ≠ pD := (ne_of_none g0 f1).symm
            have g1 := same_new f1 (.lst [V.int 2]) _ _ g0
            have n2 : l2 ≠ pD := (ne_of_none g1 f2).symm
            have m12 : l1 ≠ l2 := ne_of_none (upd_same : (upd (upd H3 pD (.dK [])) l1 (.lst [V.int 2])) l1 = _) f2
            have g2 := same_new f2 (.lst [V.int 1, V.int 2]) _ _ g1
            have n3 : l3 ≠ pD := (ne_of_none g2 f3).symm
            have m13 : l1 ≠ l3 := ne_of_none ((same_new f2 (.lst [V.int 1, V.int 2])) _ _ (upd_same : (upd (upd H3 pD (.dK [])) l1 (.lst [V.int 2])) l1 = _)) f3
            have m23 : l2 ≠ l3 := ne_of_none (upd_same : (upd (upd (upd H3 pD (.dK [])) l1 (.lst [V.int 2])) l2 (.lst [V.int 1, V.int 2])) l2 = _) f3
            refine ⟨same_new f3 _ _ _ g2, due3 (.ref l1) (.ref l2) (.ref l3), rfl, by show 3 ≤ 15; decide, ?_⟩
            have sE : Same H3 (upd (upd (upd (upd (upd H3 pD (.dK [])) l1 (.lst [V.int 2])) l2 (.lst [V.int 1, V.int 2])) l3 (.lst [V.int 1])) pD (.dK (mergeK [] (due3 (.ref l1) (.ref l2) (.ref l3))))) := fun b o e => by
              rw [upd_ne (ne_of_none e fD)]
              exact same_new f3 _ _ _ (same_new f2 _ _ _ (same_new f1 _ _ _ (same_new fD _ _ _ e)))
            have hl : (upd (upd (upd (upd (upd H3 pD (.dK [])) l1 (.lst [V.int 2])) l2 (.lst [V.int 1, V.int 2])) l3 (.lst [V.int 1])) pD (.dK (mergeK [] (due3 (.ref l1) (.ref l2) (.ref l3))))) l1 = some (.lst [V.int 2]) := by rw [upd_ne n1, upd_ne m13, upd_ne m12]; exact upd_same
            refine ⟨_, rfl, tm, _, _, _, rfl, rfl, sqt_mono sE hs3, at0', pD, _, rfl, (by rw [← due_b (.ref l1) (.ref l2) (.ref l3)]; exact DGet.k (k := .inr "both") upd_same), ?_⟩
            have e : Md.val (envOf rows) vs (.both x y) = if inV (V.int (told vs x + (told vs y + 0))) [V.int 2] = true then 1 else 0 := by
              show fB (told vs x) (told vs y) = _
              rcases tb x with h | h <;> rcases tb y with h2 | h2 <;> rw [h, h2] <;> decide +kernel
            rw [e] at fin
            exact ⟨_, rfl, .inl ⟨rfl, _, sql_mono sE hF3L⟩, _, rfl, D1, _, rfl, sql_mono sE h3L, _, rfl, l1, _, rfl, .inl (SqL.of hl), rfl, rfl, .inr ⟨_, rfl, fin _ _ _ _ _ (s13.trans sE)⟩⟩
          | either x y =>
            rw [hmd] at hs3 h3L fin
            refine ⟨_, rfl, tm, _, _, _, rfl, rfl, hs3, at0', rfl, _, rfl, ite2 (fun b => absurd b (by show ¬ (decide (V.str "either" = V.str "chosen") = true); decide +kernel)) (fun _ => ?_)⟩
            refine fun pD fD => ?_
            refine ⟨by show 1 ≤ sizeLine; decide, fun l1 f1 => ?_⟩
            refine ⟨by show 2 ≤ sizeLine; decide, fun l2 f2 => ?_⟩
            refine ⟨by show 1 ≤ sizeLine; decide, fun l3 f3 => ?_⟩
            have g0 : (upd H3 pD (.dK [])) pD = some (.dK []) := upd_same
            have n1 : l1 ≠ pD := (ne_of_none g0 f1).symm
            have g1 := same_new f1 (.lst [V.int 2]) _ _ g0
            have n2 : l2 ≠ pD := (ne_of_none g1 f2).symm
            have m12 : l1 ≠ l2 := ne_of_none (upd_same : (upd (upd H3 pD (.dK [])) l1 (.lst [V.int 2])) l1 = _) f2
            have g2 := same_new f2 (.lst [V.int 1, V.int 2]) _ _ g1
            have n3 : l3 ≠ pD := (ne_of_none g2 f3).symm
            have m13 : l1 ≠ l3 := ne_of_none ((same_new f2 (.lst [V.int 1, V.int 2])) _ _ (upd_same : (upd (upd H3 pD (.dK [])) l1 (.lst [V.int 2])) l1 = _)) f3
            have m23 : l2 ≠ l3 := ne_of_none (upd_same : (upd (upd (upd H3 pD (.dK [])) l1 (.lst [V.int 2])) l2 (.lst [V.int 1, V.int 2])) l2 = _) f3
            refine ⟨same_new f3 _ _ _ g2, due3 (.ref l1) (.ref l2) (.ref l3), rfl, by show 3 ≤ 15; decide, ?_⟩
            have sE : Same H3 (upd (upd (upd (upd (upd H3 pD (.dK [])) l1 (.lst [V.int 2])) l2 (.lst [V.int 1, V.int 2])) l3 (.lst [V.int 1])) pD (.dK (mergeK [] (due3 (.ref l1) (.ref l2) (.ref l3))))) := fun b o e => by
              rw [upd_ne (ne_of_none e fD)]
              exact same_new f3 _ _ _ (same_new f2 _ _ _ (same_new f1 _ _ _ (same_new fD _ _ _ e)))
            have hl : (upd (upd (upd (upd (upd H3 pD (.dK [])) l1 (.lst [V.int 2])) l2 (.lst [V.int 1, V.int 2])) l3 (.lst [V.int 1])) pD (.dK (mergeK [] (due3 (.ref l1) (.ref l2) (.ref l3))))) l2 = some (.lst [V.int 1, V.int 2]) := by rw [upd_ne n2, upd_ne m23]; exact upd_same
            refine ⟨_, rfl, tm, _, _, _, rfl, rfl, sqt_mono sE hs3, at0', pD, _, rfl, (by rw [← due_e (.ref l1) (.ref l2) (.ref l3)]; exact DGet.k (k := .inr "either") upd_same), ?_⟩
            have e : Md.val (envOf rows) vs (.either x y) = if inV (V.int (told vs x + (told vs y + 0))) [V.int 1, V.int 2] = true then 1 else 0 := by
              show fE (told vs x) (told vs y) = _
              rcases tb x with h | h <;> rcases tb y with h2 | h2 <;> rw [h, h2] <;> decide +kernel
            rw [e] at fin
            exact ⟨_, rfl, .inl ⟨rfl, _, sql_mono sE hF3L⟩, _, rfl, D1, _, rfl, sql_mono sE h3L, _, rfl, l2, _, rfl, .inl (SqL.of hl), rfl, rfl, .inr ⟨_, rfl, fin _ _ _ _ _ (s13.trans sE)⟩⟩
          | unlike x y =>
            rw [hmd] at hs3 h3L fin
            refine ⟨_, rfl, tm, _, _, _, rfl, rfl, hs3, at0', rfl, _, rfl, ite2 (fun b => absurd b (by show ¬ (decide (V.str "unlike" = V.str "chosen") = true); decide +kernel)) (fun _ => ?_)⟩
            refine fun pD fD => ?_
            refine ⟨by show 1 ≤ sizeLine; decide, fun l1 f1 => ?_⟩
            refine ⟨by show 2 ≤ sizeLine; decide, fun l2 f2 => ?_⟩
            refine ⟨by show 1 ≤ sizeLine; decide, fun l3 f3 => ?_⟩
            have g0 : (upd H3 pD (.dK [])) pD = some (.dK []) := upd_same
            have n1 : l1 ≠ pD := (ne_of_none g0 f1).symm
            have g1 := same_new f1 (.lst [V.int 2]) _ _ g0
            have n2 : l2 ≠ pD := (ne_of_none g1 f2).symm
            have m12 : l1 ≠ l2 := ne_of_none (upd_same : (upd (upd H3 pD (.dK [])) l1 (.lst [V.int 2])) l1 = _) f2
            have g2 := same_new f2 (.lst [V.int 1, V.int 2]) _ _ g1
            have n3 : l3 ≠ pD := (ne_of_none g2 f3).symm
            have m13 : l1 ≠ l3 := ne_of_none ((same_new f2 (.lst [V.int 1, V.int 2])) _ _ (upd_same : (upd (upd H3 pD (.dK [])) l1 (.lst [V.int 2])) l1 = _)) f3
            have m23 : l2 ≠ l3 := ne_of_none (upd_same : (upd (upd (upd H3 pD (.dK [])) l1 (.lst [V.int 2])) l2 (.lst [V.int 1, V.int 2])) l2 = _) f3
            refine ⟨same_new f3 _ _ _ g2, due3 (.ref l1) (.ref l2) (.ref l3), rfl, by show 3 ≤ 15; decide, ?_⟩
            have sE : Same H3 (upd (upd (upd (upd (upd H3 pD (.dK [])) l1 (.lst [V.int 2])) l2 (.lst [V.int 1, V.int 2])) l3 (.lst [V.int 1])) pD (.dK (mergeK [] (due3 (.ref l1) (.ref l2) (.ref l3))))) := fun b o e => by
              rw [upd_ne (ne_of_none e fD)]
              exact same_new f3 _ _ _ (same_new f2 _ _ _ (same_new f1 _ _ _ (same_new fD _ _ _ e)))
            have hl : (upd (upd (upd (upd (upd H3 pD (.dK [])) l1 (.lst [V.int 2])) l2 (.lst [V.int 1, V.int 2])) l3 (.lst [V.int 1])) pD (.dK (mergeK [] (due3 (.ref l1) (.ref l2) (.ref l3))))) l3 = some (.lst [V.int 1]) := by rw [upd_ne n3]; exact upd_same
            refine ⟨_, rfl, tm, _, _, _, rfl, rfl, sqt_mono sE hs3, at0', pD, _, rfl, (by rw [← due_u (.ref l1) (.ref l2) (.ref l3)]; exact DGet.k (k := .inr "unlike") upd_same), ?_⟩
            have e : Md.val (envOf rows) vs (.unlike x y) = if inV (V.int (told vs x + (told vs y + 0))) [V.int 1] = true then 1 else 0 := by
              show fU (told vs x) (told vs y) = _
              rcases tb x with h | h <;> rcases tb y with h2 | h2 <;> rw [h, h2] <;> decide +kernel
            rw [e] at fin
            exact ⟨_, rfl, .inl ⟨rfl, _, sql_mono sE hF3L⟩, _, rfl, D1, _, rfl, sql_mono sE h3L, _, rfl, l3, _, rfl, .inl (SqL.of hl), rfl, rfl, .inr ⟨_, rfl, fin _ _ _ _ _ (s13.trans sE)⟩⟩
    · rintro σ' H' ⟨o3, o4, o5, o6, rfl, s1, hF1, _⟩
      rw [lus, List.take_length] at hF1
      exact ⟨_, rfl, q H' F s1 hF hF1⟩
end
end My


set_option Elab.async false
set_option maxRecDepth 100000
set_option maxHeartbeats 4000000
set_option linter.all false
namespace My
open PySem L2 PyProof.Rows
open C8 (pss_cut)
theorem nmL_nd : nmL.Nodup := by
  unfold nmL
  simp
theorem nm_new {n : NK} {j : Nat} (h : nmL[j]? = some n) : n ∉ nmL.take j := fun m => by
  obtain ⟨k, hk⟩ := List.getElem?_of_mem m
  have hkj : k < j := by
    have := (List.getElem?_eq_some_iff.mp hk).1
    rw [List.length_take] at this
    omega
  rw [List.getElem?_take_of_lt hkj] at hk
  have := (List.getElem?_inj (by have := (List.getElem?_eq_some_iff.mp h).1; omega) nmL_nd).mp (hk.trans h.symm)
  omega
theorem dpa_intsV {K : PySem.W.Frag} {H : Hp} : ∀ ns : List Int, DpAll K H (ns.map V.int) (ns.map PyData.int)
  | [] => .nil
  | n :: ns => .cons (.int n) (dpa_intsV ns)
theorem eqvAll_self : ∀ ns : List Int, PyData.eqvAll (ns.map PyData.int) (ns.map PyData.int) = true
  | [] => rfl
  | n :: ns => by
    rw [List.map_cons, PyData.eqvAll, eqvAll_self ns]
    show ((n == n) && true) = true
    simp
theorem eqv_listI (ns : List Int) : PyData.eqv (.list (ns.map PyData.int)) (.list (ns.map PyData.int)) = true := eqvAll_self ns
def spRightL (P : Program) (w : World) (K : PySem.W.Frag) (C : Addr) : Sp := fun vs H Q _ => ∃ (d L p G D R : Addr) (gs : List Gt) (rs : List Rw) (us : List V), vs = [.ref d, .ref p, .ref R] ∧ DrawAt H d L ∧ PoolAt P w K H C p G D gs ∧ H R = some (.lst us) ∧ DpAll K H us (rs.map Rw.d) ∧ RowsOk gs rs ∧ rs.length ≤ 100 ∧ gs.length ≤ 10000 ∧ R ≠ d ∧
  ∀ H', DrawAt H' d L → But [d] H H' → Q (.bl true) H'
section
variable {P : Program} {w : World} {K : PySem.W.Frag} {mg : Str → Option Value} {base : Heap} {f C : Addr} {fd : FuncData}
theorem ok__law_right (T : Txt K mg) (PK : PlK K C) (D : Def K mg "_law_right" ["draw", "pool", "rows"] s__law_right f fd) (O1 : Own P w K mg base "_law_take" ["draw", "many"] 1 spTake) (O2 : Own P w K mg base "_law_values" ["rows", "bits"] 1 (spValues P w K)) (O3 : Own P w K mg base "_law_names" [] 1 (spNames K))
    (O4 : OwnM P w K mg base C "values" ["self", "literals", "bits"] 3 (spComp P w K C)) (O5 : OwnM P w K mg base C "value" ["self", "literal", "bits"] 3 (spVal P w K C)) :
    Own P w K mg base "_law_right" ["draw", "pool", "rows"] 4 (spRightL P w K C) := by
  obtain ⟨f_law_take, fd_law_take, m_law_take, k_law_take, b_law_take, G_law_take⟩ := O1
  obtain ⟨f_law_values, fd_law_values, m_law_values, k_law_values, b_law_values, G_law_values⟩ := O2
  obtain ⟨f_law_names, fd_law_names, m_law_names, k_law_names, b_law_names, G_law_names⟩ := O3
  obtain ⟨fvalues, fdvalues, Mvalues, bvalues, Gvalues⟩ := O4
  obtain ⟨fvalue, fdvalue, Mvalue, bvalue, Gvalue⟩ := O5
  refine ⟨f, fd, D.mg, D.fn.kp, D.bd, D.fn.ok sc__law_right (fun vs H Q E h => ?_) (fun cdv A outer s H vs Q E hr h => ?_)⟩
  · obtain ⟨d, L, p, G, D', R, gs, rs, us, rfl, _⟩ := h
    rfl
  · obtain ⟨d, L, p, G, D', R, gs, rs, us, rfl, hD, A0, hR, hds, hok, hl, h64, hRd, q⟩ := h
    have hu := hu_of hr
    have ap := A0.apart hD
    obtain ⟨dx, ts0, hp0, _⟩ := A0.at_
    have mutd : ∀ a ∈ [d], Mut (H a) := fun a ha => by
      obtain ⟨nss, at_, left, seed, e1, _⟩ := hD
      rw [List.mem_singleton.mp ha, e1]
      exact True.intro
    have n1 : ∀ {b : Addr}, b ≠ d → b ∉ [d] := fun h m => h (List.mem_singleton.mp m)
    refine ⟨_, (pss_cons (ps_for PassesOwn.never rfl (pi_range1 (by rfl) T.m_range (pa_cons pe_int pa_nil)) (pg_name (i := 3) sc__law_right.nd rfl (Or.inl rfl)) (pss_cons (ps_set (i := 4) sc__law_right.nd rfl (Or.inl rfl) pe_dnewK)
      (pss_cons (ps_for PassesOwn.never rfl (pi_list (pe_call0 G_law_names (hr.mono (by omega)) (by rfl) m_law_names k_law_names b_law_names .nil pass0)) (pg_name (i := 5) sc__law_right.nd rfl (Or.inl rfl)) (pss_one (ps_if (pt_cmpR op_gt (pe_call G_law_take (hr.mono (by omega)) rfl m_law_take k_law_take b_law_take .nil pass0 (pa_cons (pv 0) (pa_cons pe_int pa_nil))) pe_int (nomark _)) (pss_one (ps_asg (pe_call G_law_take (hr.mono (by omega)) rfl m_law_take k_law_take b_law_take .nil pass0 (pa_cons (pv 0) (pa_cons pe_int pa_nil))) (pg_sub (pv 4) (pv 5) (set_N (room65 hr))))) pss_nil)))
      (pss_cons (ps_set (i := 6) sc__law_right.nd rfl (Or.inl rfl) (pe_call G_law_values (hr.mono (by omega)) rfl m_law_values k_law_values b_law_values .nil pass0 (pa_cons (pv 2) (pa_cons (pv 4) pa_nil))))
      (pss_cons (ps_if (pt_cmpR (op_neD hr.units) (pe_callTy call_list_of (by rfl) T.m_list (by decide +kernel) (pa_cons (pe_meth (pv 1) PK.cls Mvalues Gvalues (hr.mono (by omega)) bvalues .nil pass0 (pa_cons (pe_lc (own := [("row", 8)]) (g := gName 8) (tt := tYes) rfl sc__law_right.nd (pi_list (pv 2)) (blkOk_by (N := N__law_right) (sc := defScope s__law_right) (own := [("row", 8)]) (by decide +kernel)) (fun _ _ _ _ _ => (pg_name (i := 8) sc__law_right.nd rfl (Or.inl rfl))) (fun _ _ _ _ _ => pts_nil) (fun _ _ _ _ _ => (pe_ix (ix_tupK (K := K) rfl) (pv 8) pe_int (fun _ _ => rfl)))) (pa_cons (pv 4) pa_nil))) pa_nil)) (pv 6) (nomark _)) (pss_one (ps_ret pe_bl)) pss_nil)
      (pss_one (ps_for PassesOwn.never rfl (pi_range1 (by rfl) T.m_range (pa_cons (pe_callB call_len_seq (by rfl) T.m_len (by decide +kernel) (pa_cons (pv 2) pa_nil)) pa_nil)) (pg_name (i := 7) sc__law_right.nd rfl (Or.inl rfl)) (pss_one (ps_if (PW.pt (pw_or (pt_cmpR op_ne (pe_meth (pv 1) PK.cls Mvalue Gvalue (hr.mono (by omega)) bvalue .nil pass0 (pa_cons (pe_ix ix_tup (pe_ix ix_list (pv 2) (pv 7) (fun _ _ => rfl)) pe_int (fun _ _ => rfl)) (pa_cons (pv 4) pa_nil))) (pe_ix ix_list (pv 6) (pv 7) (fun _ _ => rfl)) (nomark _)) (pw_or1 (pt_cmpR op_ne (pe_meth (pv 1) PK.cls Mvalue Gvalue (hr.mono (by omega)) bvalue .nil pass0 (pa_cons (pe_op op_xor (pe_ix ix_tup (pe_ix ix_list (pv 2) (pv 7) (fun _ _ => rfl)) pe_int (fun _ _ => rfl)) pe_int) (pa_cons (pv 4) pa_nil))) (pe_op op_sub pe_int (pe_ix ix_list (pv 6) (pv 7) (fun _ _ => rfl))) (nomark _))))) (pss_one (ps_ret pe_bl)) pss_nil)))))))))
      (pss_one (ps_ret pe_bl))), ?_⟩
    refine ⟨_, rfl, by decide, by decide, for_range (lo := 0) (n := 4) (fun i σ' H' => ∃ (o3 o4 o5 o6 o7 : Option V), σ' = [some (.ref d), some (.ref p), some (.ref R), o3, o4, o5, o6, o7, none] ∧ DrawAt H' d L ∧ But [d] H H') ⟨_, _, _, _, _, rfl, hD, .refl _ _⟩ ?_ ?_⟩
    · rintro i σ' H1 hi ⟨o3, o4, o5, o6, o7, rfl, D1, b1⟩
      have hR1 := b1 _ _ (n1 hRd) hR
      have hd1 := dpa_but mutd b1 _ (rws_noLst _) hds
      have A1 := A0.keep mutd b1 (n1 ap.dp.symm) (n1 ap.dG.symm) (n1 ap.dD.symm)
      refine fun B fB => ?_
      have sB := same_new fB (.dK [])
      have nd1 : d ≠ B := D1.ne fB
      refine ⟨rfl, fun rn ns Hn sn fn hrn hns => ?_⟩
      have Dn := (D1.mono sB).mono sn
      have hB0 : Hn B = some (.dK []) := sn _ _ upd_same
      have lns : ns.length = 4 := by rw [dpa_len hns]; rfl
      have nBr : B ≠ rn := ne_of hB0 hrn (by intro z; cases z)
      have ndr : d ≠ rn := by
        obtain ⟨z, hz⟩ := (D1.mono sB).at
        exact ne_of_none hz fn
      have bn : But [d] H Hn := b1.trans (.of_same (sB.trans sn))
      have mutn : ∀ a ∈ [d], Mut (Hn a) := fun a ha => by
        obtain ⟨nss, at_, left, seed, e1, _⟩ := Dn
        rw [List.mem_singleton.mp ha, e1]
        exact True.intro
      have hnl : noLsts (nmL.map NestedKey.data) = true := noLsts_map nk_noLst _
      refine ⟨rn, rfl, ⟨_, SqL.of hrn⟩, for_list (K := K) (a := rn) (xs := ns) (fun j σ' H' => ∃ (rows : NRows) (o5 : Option V), σ' = [some (.ref d), some (.ref p), some (.ref R), some (.int (0 + i)), some (.ref B), o5, o6, o7, none] ∧ DrawAt H' d L ∧ But [d, B] Hn H' ∧ H' rn = some (.lst ns) ∧ BitsAt P w K H' B rows ∧ (∀ x ∈ rows, x.1 ∈ nmL.take j) ∧ rows.length ≤ j) ⟨[], _, rfl, Dn, .refl _ _, hrn, ⟨⟨.inr ⟨rfl, hB0⟩, Nat.zero_le _, fun x hx => nomatch hx⟩, fun x hx => nomatch hx⟩, (fun x hx => nomatch hx), Nat.le_refl _⟩ (fun j σ' H' _ ⟨_, _, _, _, _, h, _⟩ => SqL.of h) ?_ ?_⟩
      · rintro j y σ' H2 hj ⟨rows, o5', rfl, D2, b2, hrn2, B2, hk2, hl2⟩
        have hj4 : j < 4 := by rw [← lns]; exact (List.getElem?_eq_some_iff.mp hj).1
        have mutdB : ∀ a ∈ [d, B], Mut (Hn a) := fun a ha => by
          rcases List.mem_cons.mp ha with e | ha
          · exact mutn a (by rw [e]; exact .head _)
          · rw [List.mem_singleton.mp ha, hB0]; exact True.intro
        have mut2 : ∀ a ∈ [d], Mut (H2 a) := fun a ha => by
          obtain ⟨nss, at_, left, seed, e1, _⟩ := D2
          rw [List.mem_singleton.mp ha, e1]
          exact True.intro
        refine ⟨_, rfl, d, L, 5, rfl, by decide, by decide, D2, fun z H3 z0 z1 D3 s3 => ?_⟩
        have b3 := But.of_hide s3
        have B3 := B2.keep mut2 b3 (n1 nd1.symm)
        have hrn3 := b3 _ _ (n1 ndr.symm) hrn2
        have b23 : But [d, B] Hn H3 := b2.trans (b3.wide fun a ha => by rw [List.mem_singleton.mp ha]; exact .head _)
        refine ⟨_, _, rfl, rfl, _, rfl, ite2 (fun _ => ?_) (fun _ => ?_)⟩
        · refine ⟨_, rfl, d, L, 2, rfl, by decide, by decide, D3, fun v H4 v0 v1 D4 s4 => ?_⟩
          have b4 := But.of_hide s4
          have mut3 : ∀ a ∈ [d], Mut (H3 a) := fun a ha => by
            obtain ⟨nss, at_, left, seed, e1, _⟩ := D3
            rw [List.mem_singleton.mp ha, e1]
            exact True.intro
          have B4 := B3.keep mut3 b4 (n1 nd1.symm)
          have hrn4 := b4 _ _ (n1 ndr.symm) hrn3
          have b24 : But [d, B] Hn H4 := b23.trans (b4.wide fun a ha => by rw [List.mem_singleton.mp ha]; exact .head _)
          obtain ⟨dd, hdd, hy⟩ := dpa_get (dpa_but mutdB b24 _ hnl hns) hj
          rw [List.getElem?_map] at hdd
          obtain ⟨n, hn, rfl⟩ := Option.map_eq_some_iff.mp hdd
          obtain ⟨⟨ks, hks⟩, h7⟩ := nmL_ok n (List.mem_of_getElem? hn)
          obtain ⟨nb, rfl⟩ : ∃ nb, y = .ref nb := by
            rw [hks] at hy
            cases hy
            exact ⟨_, rfl⟩
          have hnone : valN rows n = none := by
            cases e : valN rows n with
            | none => rfl
            | some u =>
              obtain ⟨x, hx, e1, _⟩ := valN_some e
              have := hk2 x hx
              rw [e1] at this
              exact absurd this (nm_new hn)
          refine ⟨_, rfl, _, rfl, nb, n, B, rows, rfl, rfl, hy, by omega, B4.dn, Nat.lt_of_le_of_lt (show rows.length ≤ 4 by omega) (by decide), hnone, ?_⟩
          have mutB : ∀ a ∈ [B], Mut (H4 a) := fun a ha => by
            rw [List.mem_singleton.mp ha]
            rcases B4.dn.at_ with e | ⟨_, e⟩ <;> rw [e] <;> exact True.intro
          have bB : But [B] H4 (upd H4 B (dnO P w B (rows ++ [(n, nb, .int v)]))) := .put (.head _) _
          have LB : L ≠ B := by
            obtain ⟨z, hz⟩ := D1.cells
            exact ne_of_none hz fB
          refine ⟨rows ++ [(n, nb, .int v)], _, rfl, D4.put _ nd1 LB, b24.trans (bB.wide fun a ha => by rw [List.mem_singleton.mp ha]; exact .tail _ (.head _)), by rw [upd_ne nBr.symm]; exact hrn4, ⟨⟨.inl upd_same, by rw [List.length_append, List.length_singleton]; exact Nat.le_trans (show rows.length + 1 ≤ 5 by omega) (by decide), fun x hx => ?_⟩, fun x hx => ?_⟩, fun x hx => ?_, by rw [List.length_append, List.length_singleton]; omega⟩
          · rcases List.mem_append.mp hx with h | h
            · obtain ⟨k1, k2⟩ := B4.dn.keys x h
              exact ⟨dp_but mutB bB _ (nk_noLst _) k1, k2⟩
            · rw [List.mem_singleton.mp h]
              exact ⟨dp_but mutB bB _ (nk_noLst _) hy, by show n.depth ≤ 8; omega⟩
          · rcases List.mem_append.mp hx with h | h
            · exact B4.bit x h
            · rw [List.mem_singleton.mp h]
              exact ⟨v, rfl, by omega⟩
          · rw [take_nextV hn]
            rcases List.mem_append.mp hx with h | h
            · exact List.mem_append_left _ (hk2 x h)
            · rw [List.mem_singleton.mp h]
              exact List.mem_append_right _ (List.mem_singleton_self _)
        · exact ⟨rows, _, rfl, D3, b23, hrn3, B3, fun x hx => by rw [List.take_add_one]; exact List.mem_append_left _ (hk2 x hx), by omega⟩
      · rintro σ' H2 ⟨rows, o5', rfl, D2, b2, hrn2, B2, hk2, hl2⟩
        have mutdB : ∀ a ∈ [d, B], Mut (Hn a) := fun a ha => by
          rcases List.mem_cons.mp ha with e | ha
          · exact mutn a (by rw [e]; exact .head _)
          · rw [List.mem_singleton.mp ha, hB0]; exact True.intro
        have fBH : ∀ b o, H1 b = some o → b ≠ B := fun b o e => ne_of_none e fB
        have nin : ∀ {b : Addr}, b ≠ d → b ≠ B → b ∉ [d, B] := fun h1 h2 m => by
          rcases List.mem_cons.mp m with e | m
          · exact h1 e
          · exact h2 (List.mem_singleton.mp m)
        have sN := sB.trans sn
        have b12 : But [d] H H2 := fun b o n e => b2 b o (nin (fun z => n (by rw [z]; exact .head _)) (fBH b o (b1 b o n e))) (sN b o (b1 b o n e))
        have hR2 := b12 _ _ (n1 hRd) hR
        have hd2 := dpa_but mutd b12 _ (rws_noLst _) hds
        have A2 := A0.keep mutd b12 (n1 ap.dp.symm) (n1 ap.dG.symm) (n1 ap.dD.symm)
        have hp2 := b12 _ _ (n1 ap.dp.symm) hp0
        have hbits := envOf_bit B2
        have hvals := hok.val (envOf rows) hbits
        refine ⟨_, rfl, _, rfl, R, B, gs, rs, us, rows, rfl, SqL.of hR2, hd2, hok, by omega, B2, fun H3 F s3 fF hF => ?_⟩
        have lus : us.length = rs.length := by rw [dpa_len hds, List.length_map]
        have hR3 := s3 _ _ hR2
        have hd3 := dpa_mono s3 _ hd2
        refine ⟨_, rfl, p, dx, _, rfl, s3 _ _ hp2, plFs_no _ _ (by decide +kernel) (by decide +kernel), _, rfl, R, rfl, ⟨_, SqL.of hR3⟩, fun D1' hD1' => lc_list (K := K) (a := R) (xs := us) (fun j H' => H' D1' = some (.lst (((rs.take j).map Rw.lit).map V.int)) ∧ Same H3 H' ∧ j ≤ rs.length) ⟨upd_same, same_new hD1' _, Nat.zero_le _⟩ (fun j H' _ ⟨_, s, _⟩ => SqL.of (s _ _ hR3)) ?_ ?_⟩
        · rintro j y H4 hj ⟨h4, s4, _⟩
          obtain ⟨dd, hdd, hy⟩ := dpa_get (dpa_mono s4 _ hd3) hj
          rw [List.getElem?_map] at hdd
          obtain ⟨r, hr2, rfl⟩ := Option.map_eq_some_iff.mp hdd
          obtain ⟨t, va, vm, rfl, ht, hva, hvm⟩ := dp_two hy
          cases hva
          refine ⟨rfl, yesV ?_⟩
          rw [if_pos rfl]
          refine ⟨_, rfl, t, _, _, _, rfl, rfl, ht, rfl, _, h4, ?_, ?_, fun b o e => ?_, (List.getElem?_eq_some_iff.mp hr2).1⟩
          · rw [List.length_map, List.length_map, List.length_take]
            exact Nat.lt_of_le_of_lt (show _ ≤ 100 by omega) (by decide)
          · rw [upd_same, take_nextV hr2, List.map_append, List.map_append]
            rfl
          · rw [upd_ne (ne_of_none e hD1')]
            exact s4 _ _ e
        rintro H4 ⟨h4, s4, _⟩
        rw [lus, List.take_length] at h4
        have s24 := s3.trans s4
        refine ⟨_, rfl, p, G, D', D1', B, gs, rs.map Rw.lit, rows, rfl, A2.same s24, SqL.of h4, (fun x hx => by obtain ⟨r, hr', rfl⟩ := List.mem_map.mp hx; exact hok.lit r hr'), by rw [List.length_map]; exact hl, h64, B2.same s24, fun H5 r5 s5 hr5 => ?_⟩
        have s25 := s24.trans s5
        have hmap : (rs.map Rw.lit).map (litv (bitsOf (envOf rows) gs)) = valsOf (envOf rows) rs := by rw [hvals, List.map_map]; rfl
        rw [hmap] at hr5
        refine ⟨r5, _, rfl, .inl (SqL.of hr5), fun l2 fl2 => ?_⟩
        have s26 := s25.trans (same_new fl2 (.lst ((valsOf (envOf rows) rs).map V.int)))
        have hF5 := (s4.trans s5) _ _ hF
        refine ⟨_, rfl, .list ((valsOf (envOf rows) rs).map PyData.int), .list ((valsOf (envOf rows) rs).map PyData.int), .lst (SqL.of upd_same) (dpa_intsV _), .lst (SqL.of (same_new fl2 _ _ _ hF5)) (dpa_intsV _), PySem.W.shaped_ints _, PySem.W.shaped_ints _, _, rfl, ?_⟩
        rw [eqv_listI]
        refine iteF ?_
        have hR6 := s26 _ _ hR2
        refine ⟨_, rfl, R, _, rfl, .inl (SqL.of hR6), _, rfl, by omega, by omega, for_range (lo := 0) (n := us.length) (fun k σ' H' => ∃ o7, σ' = [some (.ref d), some (.ref p), some (.ref R), some (.int (0 + i)), some (.ref B), o5', some (.ref F), o7, none] ∧ Same H2 H' ∧ H' F = some (.lst ((valsOf (envOf rows) rs).map V.int))) ⟨_, rfl, s26, same_new fl2 _ _ _ hF5⟩ ?_ ?_⟩
        · rintro k σ' H7 hk ⟨o7', rfl, s7, hF7⟩
          rw [show (0 : Int) + (k : Int) = (k : Int) from Int.zero_add _]
          have hkr : k < rs.length := by omega
          have hku : us[k]? = some (us[k]'(by omega)) := List.getElem?_eq_getElem (by omega)
          have hR7 := s7 _ _ hR2
          have hd7 := dpa_mono s7 _ hd2
          obtain ⟨dd, hdd, hy⟩ := dpa_get hd7 hku
          rw [List.getElem?_map, List.getElem?_eq_getElem hkr] at hdd
          cases hdd
          obtain ⟨t, va, vm, et, ht, hva, hvm⟩ := dp_two hy
          cases hva
          have hatU : atI us (k : Int) = some (.ref t) := atI_nat (by rw [hku, et])
          have hatV : atI ((valsOf (envOf rows) rs).map V.int) (k : Int) = some (.int (litv (bitsOf (envOf rows) gs) (rs[k]).lit)) := atI_nat (by rw [hvals, List.getElem?_map, List.getElem?_map, List.getElem?_eq_getElem hkr]; rfl)
          have okl := hok.lit _ (List.getElem_mem hkr)
          have noM : (plFs G D').lookup ("value" : Str) = none := plFs_no _ _ (by decide +kernel) (by decide +kernel)
          refine ⟨_, rfl, p, dx, _, rfl, s7 _ _ hp2, noM, _, rfl, _, rfl, R, us, _, _, rfl, rfl, SqL.of hR7, hatU, t, _, _, _, rfl, rfl, ht, rfl, _, rfl, p, G, D', B, gs, _, rows, rfl, A2.same s7, okl, h64, B2.same s7, fun H8 s8 => ?_⟩
          have hF8 := s8 _ _ hF7
          refine ⟨_, rfl, _, rfl, F, _, _, _, rfl, rfl, SqL.of hF8, hatV, rfl, _, rfl, ?_⟩
          refine iteNS rfl ?_
          have s78 := s7.trans s8
          refine ⟨_, rfl, p, dx, _, rfl, s78 _ _ hp2, noM, _, rfl, _, rfl, R, us, _, _, rfl, rfl, SqL.of (s8 _ _ hR7), hatU, t, _, _, _, rfl, rfl, sqt_mono s8 ht, rfl, _, _, rfl, rfl, _, rfl, p, G, D', B, gs, _, rows, rfl, A2.same s78, okL_xor1 okl, h64, B2.same s78, fun H9 s9 => ?_⟩
          have hF9 := s9 _ _ hF8
          refine ⟨_, rfl, _, rfl, F, _, _, _, rfl, rfl, SqL.of hF9, hatV, _, _, rfl, rfl, rfl, _, rfl, ?_⟩
          rw [litv_xor1 okl.1]
          refine iteNS rfl ?_
          exact ⟨_, rfl, s78.trans s9, hF9⟩
        · rintro σ' H7 ⟨o7', rfl, s7, hF7⟩
          exact ⟨_, _, _, _, _, rfl, D2.mono s7, b12.trans (.of_same s7)⟩
    · rintro σ' H' ⟨o3, o4, o5, o6, o7, rfl, D1, b1⟩
      exact q H' D1 b1
end
end My


set_option Elab.async false
set_option maxRecDepth 100000
set_option maxHeartbeats 4000000
set_option linter.all false
namespace My
open PySem L2 PyProof.Rows
open C8 (pss_cut)
structure DefM0 (K : PySem.W.Frag) (x qx : Str) (ps : List Str) (st : Stmt) (f : Addr) (fd : FuncData) : Prop where
  fn : Fun K x qx st f fd
  bd : Binds K fd ps []
def OwnC (P : Program) (w : World) (K : PySem.W.Frag) (mg : Str → Option Value) (base : Heap) (x : Str) (C : Addr) (ps : List Str) (k : Nat) (sp : Sp) : Prop :=
  ∃ (f : Addr) (fd : FuncData), mg x = some (.ref C) ∧ Mk K C f ∧ Binds K fd ps [] ∧ FnOk P w K mg base CX0 k f fd ps sp
def spInit (P : Program) (w : World) (K : PySem.W.Frag) (C : Addr) : Sp := fun vs H Q _ => ∃ (p dx : Addr), vs = [.ref p] ∧ H p = some (.ins C dx []) ∧ ∀ H' G D, PoolAt P w K H' C p G D [.no] → But [p] H H' → H G = none → H D = none → Q .non H'
theorem okGs_no : okGs [.no] := ⟨rfl, fun i g h x hx => by
  cases i with
  | zero => cases h; cases hx
  | succ i => simp at h⟩
section
variable {P : Program} {w : World} {K : PySem.W.Frag} {mg : Str → Option Value} {base : Heap} {f C : Addr} {fd : FuncData}
theorem ok_Pool (PK : PlK K C) (D : DefM0 K "__init__" "Pool.__init__" ["self"] s_Pool___init__ f fd) (M : Mk K C f) (mC : mg "Pool" = some (.ref C)) : OwnC P w K mg base "Pool" C ["self"] 1 (spInit P w K C) := by
  refine ⟨f, fd, mC, M, D.bd, D.fn.ok sc_Pool___init__ (fun vs H Q E h => ?_) (fun cdv A outer s H vs Q E hr h => ?_)⟩
  · obtain ⟨p, dx, rfl, _⟩ := h
    rfl
  · obtain ⟨p, dx, rfl, hp, q⟩ := h
    refine ⟨_, (pss_cons (ps_fld (pv 0) (pe_lst (pa_cons (pe_tup (pa_cons pe_str pa_nil)) pa_nil)) rfl)
      (pss_one (ps_fld (pv 0) pe_dnewK rfl))), ?_⟩
    refine ⟨by show 1 ≤ sizeLine; decide, fun t ft => ?_⟩
    refine ⟨by show 1 ≤ sizeLine; decide, fun G fG => ?_⟩
    have st := same_new ft (.tup [.str "no"])
    have sG := same_new fG (.lst [.ref t])
    refine ⟨_, rfl, p, C, dx, [], rfl, sG _ _ (st _ _ hp), PK.cls, PK.g, by show 0 < 1000; decide, ?_⟩
    refine fun D' fD => ?_
    have nGp : G ≠ p := (ne_of_none (st _ _ hp) fG).symm
    have ntp : t ≠ p := (ne_of_none hp ft).symm
    have gT : (upd (upd H t (.tup [.str "no"])) G (.lst [.ref t])) t = some (.tup [.str "no"]) := sG _ _ upd_same
    have nDp : D' ≠ p := (ne_of_none (upd_same) fD).symm
    have nDG : D' ≠ G := (ne_of_none (show (upd (upd (upd H t (.tup [.str "no"])) G (.lst [.ref t])) p _) G = some (.lst [.ref t]) by rw [upd_ne nGp]; exact upd_same) fD).symm
    have nDt : D' ≠ t := (ne_of_none (show (upd (upd (upd H t (.tup [.str "no"])) G (.lst [.ref t])) p _) t = some (.tup [.str "no"]) by rw [upd_ne ntp]; exact gT) fD).symm
    refine ⟨_, rfl, p, C, dx, _, rfl, by rw [upd_ne nDp.symm]; exact upd_same, PK.cls, PK.l, by show 1 < 1000; decide, ?_⟩
    refine q _ G D' ⟨PK, okGs_no, by simp, by show 1 ≤ 100000; decide, (fun n hn => by cases (List.mem_singleton.mp hn)), dx, [t], upd_same, by rw [upd_ne nGp, upd_ne nDG.symm, upd_ne nGp]; exact upd_same, rfl, fun i g t' e1 e2 => ?_, .inr ⟨rfl, by rw [upd_ne nDp]; exact upd_same⟩⟩ (fun b o n e => ?_) ?_ ?_
    · cases i with
      | zero =>
        cases e1
        cases e2
        refine ⟨.tup (SqT.of (by rw [upd_ne ntp, upd_ne nDt.symm, upd_ne ntp]; exact gT)) (.cons (.str _) .nil), by decide⟩
      | succ i => simp at e1
    · have hbp : b ≠ p := fun z => n (by rw [z]; exact .head _)
      have h1 := sG _ _ (st _ _ e)
      rw [upd_ne hbp, upd_ne (ne_of_none (show (upd (upd (upd H t (.tup [.str "no"])) G (.lst [.ref t])) p _) b = some o by rw [upd_ne hbp]; exact h1) fD), upd_ne hbp]
      exact h1
    · cases e : H G with
      | none => rfl
      | some u => rw [st _ _ e] at fG; cases fG
    · cases e : H D' with
      | none => rfl
      | some u =>
        have h1 := sG _ _ (st _ _ e)
        have : (upd (upd (upd H t (.tup [.str "no"])) G (.lst [.ref t])) p (.ins C dx (putF "gates" (.ref G) []))) D' = some u := by rw [upd_ne nDp]; exact h1
        rw [fD] at this
        cases this
end
end My


set_option Elab.async false
set_option maxRecDepth 100000
set_option maxHeartbeats 4000000
set_option linter.all false
namespace My
open PySem L2 PyProof.Rows
open C8 (pss_cut)
def spLaw (K : PySem.W.Frag) : Sp := fun vs H Q _ => ∃ (a : Addr) (ns : List Int), vs = [.ref a] ∧ SqL K H a (ns.map V.int) ∧ ns.length ≤ 63 ∧ ∀ H', Q (.bl true) H'
def isRows : List Rw := [⟨0, .is 0⟩, ⟨1, .is 1⟩]
theorem isRows_ok {gs : List Gt} (h : okGs gs) : RowsOk gs isRows := by
  have pos := h.pos
  refine ⟨fun r hr => ?_, fun i r hr a ha => ?_, fun r hr n e => ?_, fun env he => ?_, fun r hr b e => ?_⟩
  · rcases List.mem_cons.mp hr with e | hr
    · rw [e]; exact ⟨Int.le_refl _, by show (0 : Int) < _; omega⟩
    · rw [List.mem_singleton.mp hr]; exact ⟨by decide, by show (1 : Int) < _; omega⟩
  · rcases List.mem_cons.mp (List.mem_of_getElem? hr) with e | hr
    · rw [e] at ha; cases ha
    · rw [List.mem_singleton.mp hr] at ha; cases ha
  · rcases List.mem_cons.mp hr with e2 | hr
    · rw [e2] at e; cases e
    · rw [List.mem_singleton.mp hr] at e; cases e
  · show [0, 1] = [litv (bitsOf env gs) 0, litv (bitsOf env gs) 1]
    rw [litv_no h, litv_yes h]
  · rcases List.mem_cons.mp hr with e2 | hr
    · rw [e2] at e; cases e; exact .inl rfl
    · rw [List.mem_singleton.mp hr] at e; cases e; exact .inr rfl
section
variable {P : Program} {w : World} {K : PySem.W.Frag} {mg : Str → Option Value} {base : Heap} {f C : Addr} {fd : FuncData}
theorem ok_law (T : Txt K mg) (PK : PlK K C) (C1 : ConI mg "NO" 0) (C2 : ConI mg "YES" 1) (D : Def K mg "law" ["script"] s_law f fd) (O0 : Own P w K mg base "_law_draw" ["script"] 1 (spDraw K)) (O1 : Own P w K mg base "_law_take" ["draw", "many"] 1 spTake) (O2 : OwnC P w K mg base "Pool" C ["self"] 1 (spInit P w K C)) (O3 : Own P w K mg base "_law_names" [] 1 (spNames K))
    (O4 : OwnM P w K mg base C "bit" ["self", "name"] 2 (spBit P w K C)) (O5 : Own P w K mg base "_law_more" ["draw", "pool", "rows", "many"] 5 (spMore P w K C)) (O6 : Own P w K mg base "_law_right" ["draw", "pool", "rows"] 4 (spRightL P w K C)) :
    FnOk P w K mg base CX0 6 f fd ["script"] (spLaw K) := by
  obtain ⟨t_NO, c_NO⟩ := C1
  obtain ⟨t_YES, c_YES⟩ := C2
  obtain ⟨f_law_draw, fd_law_draw, m_law_draw, k_law_draw, b_law_draw, G_law_draw⟩ := O0
  obtain ⟨f_law_take, fd_law_take, m_law_take, k_law_take, b_law_take, G_law_take⟩ := O1
  obtain ⟨fPool, fdPool, mPool, MPool, bPool, GPool⟩ := O2
  obtain ⟨f_law_names, fd_law_names, m_law_names, k_law_names, b_law_names, G_law_names⟩ := O3
  obtain ⟨fbit, fdbit, Mbit, bbit, Gbit⟩ := O4
  obtain ⟨f_law_more, fd_law_more, m_law_more, k_law_more, b_law_more, G_law_more⟩ := O5
  obtain ⟨f_law_right, fd_law_right, m_law_right, k_law_right, b_law_right, G_law_right⟩ := O6
  refine D.fn.ok sc_law (fun vs H Q E h => ?_) (fun cdv A outer s H vs Q E hr h => ?_)
  · obtain ⟨a, ns, rfl, _⟩ := h
    rfl
  · obtain ⟨a, ns, rfl, hS, h63, q⟩ := h
    refine ⟨_, (pss_cons (ps_set (i := 1) sc_law.nd rfl (Or.inl rfl) (pe_call G_law_draw (hr.mono (by omega)) rfl m_law_draw k_law_draw b_law_draw .nil pass0 (pa_cons (pv 0) pa_nil)))
      (pss_cons (ps_if (PW.pt (pw_or (pt_cmpR op_ne (pe_glob (v := .int 0) (u := .int 0 t_NO) (by rfl) c_NO ⟨t_NO, rfl⟩) pe_int (nomark _)) (pw_or1 (pt_cmpR op_ne (pe_glob (v := .int 1) (u := .int 1 t_YES) (by rfl) c_YES ⟨t_YES, rfl⟩) pe_int (nomark _))))) (pss_one (ps_ret pe_bl)) pss_nil)
      (pss_cons (ps_set (i := 2) sc_law.nd rfl (Or.inr rfl) (pe_make0 MPool GPool (hr.mono (by omega)) (by rfl) mPool bPool .nil pass0))
      (pss_cons (ps_set (i := 3) sc_law.nd rfl (Or.inl rfl) (pe_op op_cat (pe_lst (pa_cons (pe_tup (pa_cons (pe_glob (v := .int 0) (u := .int 0 t_NO) (by rfl) c_NO ⟨t_NO, rfl⟩) (pa_cons (pe_tup (pa_cons pe_str (pa_cons pe_int pa_nil))) pa_nil))) (pa_cons (pe_tup (pa_cons (pe_glob (v := .int 1) (u := .int 1 t_YES) (by rfl) c_YES ⟨t_YES, rfl⟩) (pa_cons (pe_tup (pa_cons pe_str (pa_cons pe_int pa_nil))) pa_nil))) pa_nil))) (pe_lc (own := [("name", 8)]) (g := gName 8) (tt := tYes) rfl sc_law.nd (pi_list (pe_call0 G_law_names (hr.mono (by omega)) (by rfl) m_law_names k_law_names b_law_names .nil pass0)) (blkOk_by (N := N_law) (sc := defScope s_law) (own := [("name", 8)]) (by decide +kernel)) (fun _ _ _ _ _ => (pg_name (i := 8) sc_law.nd rfl (Or.inl rfl))) (fun _ _ _ _ _ => pts_nil) (fun _ _ _ _ _ => (pe_tup (pa_cons (pe_meth (pv 2) PK.cls Mbit Gbit (hr.mono (by omega)) bbit .nil pass0 (pa_cons (pv 8) pa_nil)) (pa_cons (pe_tup (pa_cons pe_str (pa_cons (pv 8) pa_nil))) pa_nil)))))))
      (pss_cons (ps_set (i := 4) sc_law.nd rfl (Or.inl rfl) (pe_call G_law_more (hr.mono (by omega)) rfl m_law_more k_law_more b_law_more .nil pass0 (pa_cons (pv 1) (pa_cons (pv 2) (pa_cons (pv 3) (pa_cons (pe_call G_law_take (hr.mono (by omega)) rfl m_law_take k_law_take b_law_take .nil pass0 (pa_cons (pv 1) (pa_cons pe_int pa_nil))) pa_nil))))))
      (pss_cons (ps_for PassesOwn.never rfl (pi_list (pv 4)) (pg_tup (by rfl) (pgs_cons (pg_name (i := 5) sc_law.nd rfl (Or.inl rfl)) (pgs_cons (pg_name (i := 6) sc_law.nd rfl (Or.inl rfl)) pgs_nil))) (pss_one (ps_if (PW.pt (pw_or (pt_not (pt_val (pe_callB call_isi (by rfl) T.m_isinstance (by decide +kernel) (pa_cons (pv 5) (pa_cons (pe_bltn (v := .ty "int") (u := .type "int") (by rfl) T.m_int (by decide +kernel) (by rfl)) pa_nil))))) (pw_or (pt_val (pe_callB call_isi (by rfl) T.m_isinstance (by decide +kernel) (pa_cons (pv 5) (pa_cons (pe_bltn (v := .ty "bool") (u := .type "bool") (by rfl) T.m_bool (by decide +kernel) (by rfl)) pa_nil)))) (pw_or1 (pt_cmpR op_lt (pv 5) pe_int (nomark _)))))) (pss_one (ps_ret pe_bl)) pss_nil)))
      (pss_cons (ps_if (pt_not (pt_val (pe_call G_law_right (hr.mono (by omega)) rfl m_law_right k_law_right b_law_right .nil pass0 (pa_cons (pv 1) (pa_cons (pv 2) (pa_cons (pv 4) pa_nil)))))) (pss_one (ps_ret pe_bl)) pss_nil)
      (pss_cons (ps_set (i := 4) sc_law.nd rfl (Or.inl rfl) (pe_call G_law_more (hr.mono (by omega)) rfl m_law_more k_law_more b_law_more .nil pass0 (pa_cons (pv 1) (pa_cons (pv 2) (pa_cons (pv 4) (pa_cons (pe_call G_law_take (hr.mono (by omega)) rfl m_law_take k_law_take b_law_take .nil pass0 (pa_cons (pv 1) (pa_cons pe_int pa_nil))) pa_nil))))))
      (pss_cons (ps_for PassesOwn.never rfl (pi_range1 (by rfl) T.m_range (pa_cons pe_int pa_nil)) (pg_name (i := 7) sc_law.nd rfl (Or.inl rfl)) (pss_one (ps_if (pt_cmpR op_ne (pe_meth (pv 2) PK.cls Mbit Gbit (hr.mono (by omega)) bbit .nil pass0 (pa_cons (pe_ix ix_list (pe_call0 G_law_names (hr.mono (by omega)) (by rfl) m_law_names k_law_names b_law_names .nil pass0) (pv 7) (fun _ _ => rfl)) pa_nil)) (pe_ix ix_tup (pe_ix ix_list (pv 3) (pe_op op_add pe_int (pv 7)) (fun _ _ => rfl)) pe_int (fun _ _ => rfl)) (nomark _)) (pss_one (ps_ret pe_bl)) pss_nil)))
      (pss_one (ps_ret (pe_call G_law_right (hr.mono (by omega)) rfl m_law_right k_law_right b_law_right .nil pass0 (pa_cons (pv 1) (pa_cons (pv 2) (pa_cons (pv 4) pa_nil))))))))))))))), ?_⟩
    refine ⟨_, rfl, a, ns, rfl, hS, h63, fun d L H1 hd0 hL0 e1 hD1 => ?_⟩
    refine ⟨rfl, _, rfl, ?_⟩
    refine iteNS rfl ?_
    refine ⟨rfl, _, rfl, ?_⟩
    refine iteNS rfl ?_
    intro p dx fp fdx ndx
    have sI : Same H1 (upd (upd H1 dx (.own p)) p (.ins C dx [])) := fun b o e => by
      rw [upd_ne (ne_of_none e fp), upd_ne (ne_of_none e fdx)]
      exact e
    have D2 := hD1.mono sI
    refine ⟨p, dx, rfl, upd_same, fun H3 G D' A3 b3 fG fD => ⟨rfl, ?_⟩⟩
    have n1 : ∀ {b c : Addr}, b ≠ c → b ∉ [c] := fun h m => h (List.mem_singleton.mp m)
    have dp : d ≠ p := by obtain ⟨u, hu⟩ := hD1.at; exact ne_of_none hu fp
    have Lp : L ≠ p := by obtain ⟨u, hu⟩ := hD1.cells; exact ne_of_none hu fp
    have D3 := D2.but b3 (n1 dp) (n1 Lp)
    obtain ⟨dx3, ts3, hp3, _⟩ := A3.at_
    have noB : (plFs G D').lookup ("bit" : Str) = none := plFs_no _ _ (by decide +kernel) (by decide +kernel)
    -- the first rows
    refine ⟨by show 2 ≤ sizeLine; decide, fun t1 f1 => ?_⟩
    refine ⟨by show 2 ≤ sizeLine; decide, fun t2 f2 => ?_⟩
    refine ⟨by show 2 ≤ sizeLine; decide, fun t3 f3 => ?_⟩
    refine ⟨by show 2 ≤ sizeLine; decide, fun t4 f4 => ?_⟩
    refine ⟨by show 2 ≤ sizeLine; decide, fun l0 fl0 => ?_⟩
    have e1 := same_new f1 (.tup [.str "is", .int 0])
    have e2 := same_new f2 (.tup [.int 0, .ref t1])
    have e3 := same_new f3 (.tup [.str "is", .int 1])
    have e4 := same_new f4 (.tup [.int 1, .ref t3])
    have e5 := same_new fl0 (.lst [.ref t2, .ref t4])
    have nl0 : ∀ b o, H3 b = some o → b ≠ l0 := fun b o e => ne_of_none ((((e1.trans e2).trans e3).trans e4) _ _ e) fl0
    have nlG : l0 ≠ G := by
      obtain ⟨_, _, _, k2, _⟩ := A3.at_
      exact (nl0 _ _ k2).symm
    have nlD : l0 ≠ D' := by
      obtain ⟨_, _, _, _, _, _, k5⟩ := A3.at_
      rcases k5 with k | ⟨_, k⟩ <;> exact (nl0 _ _ k).symm
    refine ⟨rfl, fun rn ns Hn sn fn hrn hns => ?_⟩
    have s3n := ((((e1.trans e2).trans e3).trans e4).trans e5).trans sn
    have hl0 : Hn l0 = some (.lst [.ref t2, .ref t4]) := sn _ _ upd_same
    have hisd : DpAll K Hn [.ref t2, .ref t4] (isRows.map Rw.d) := by
      refine .cons ?_ (.cons ?_ .nil)
      · exact .tup (SqT.of ((((e3.trans e4).trans e5).trans sn) _ _ upd_same)) (.cons (.int _) (.cons (.tup (SqT.of (((((e2.trans e3).trans e4).trans e5).trans sn) _ _ upd_same)) (.cons (.str _) (.cons (.int _) .nil))) .nil))
      · exact .tup (SqT.of ((e5.trans sn) _ _ upd_same)) (.cons (.int _) (.cons (.tup (SqT.of (((e4.trans e5).trans sn) _ _ upd_same)) (.cons (.str _) (.cons (.int _) .nil))) .nil))
    have An := A3.same s3n
    have Dn := D3.mono s3n
    have hpn := s3n _ _ hp3
    have lns : ns.length = 4 := by rw [dpa_len hns]; rfl
    have hnl : noLsts (nmL.map NestedKey.data) = true := noLsts_map nk_noLst _
    have apn := An.apart Dn
    refine ⟨rn, rfl, ⟨_, SqL.of hrn⟩, fun D1 hD1' => ?_⟩
    have nF : ∀ b o, Hn b = some o → b ≠ D1 := fun b o e => ne_of_none e hD1'
    have npD1 := nF _ _ hpn
    have nGD1 : G ≠ D1 := fun e => by have := An.mut G (.head _); rw [e, hD1'] at this; exact this
    have nDD1 : D' ≠ D1 := fun e => by have := An.mut D' (.tail _ (.head _)); rw [e, hD1'] at this; exact this
    have nrD1 := nF _ _ hrn
    have nlD1 := nF _ _ hl0
    have ndD1 : d ≠ D1 := by obtain ⟨u, hu⟩ := Dn.at; exact nF _ _ hu
    have nLD1 : L ≠ D1 := by obtain ⟨u, hu⟩ := Dn.cells; exact nF _ _ hu
    have nrG : rn ≠ G := fun e => by
      have := An.mut G (.head _)
      rw [← e] at this
      obtain ⟨dxx, tss, _, k2, k3, _⟩ := An.at_
      rw [e] at hrn
      have z := k2.symm.trans hrn
      have z2 := HO.lst.inj (Option.some.inj z)
      have z3 := congrArg List.length z2
      rw [List.length_map, k3, lns] at z3
      cases z3
    have nrD : rn ≠ D' := fun e => by
      obtain ⟨dxx, tss, _, _, _, _, k5⟩ := An.at_
      rw [e] at hrn
      rcases k5 with k | ⟨_, k⟩ <;> rw [hrn] at k <;> cases k
    have mutD1 : ∀ a ∈ [G, D', D1], Mut ((upd Hn D1 (.lst [])) a) := fun a ha => by
      rcases List.mem_cons.mp ha with e | ha
      · rw [e, upd_ne nGD1]; exact An.mut G (.head _)
      · rcases List.mem_cons.mp ha with e | ha
        · rw [e, upd_ne nDD1]; exact An.mut D' (.tail _ (.head _))
        · rw [List.mem_singleton.mp ha, upd_same]; exact True.intro
    have nin3 : ∀ {b : Addr}, b ≠ G → b ≠ D' → b ≠ D1 → b ∉ [G, D', D1] := fun h1 h2 h3 m => by
      rcases List.mem_cons.mp m with e | m
      · exact h1 e
      · rcases List.mem_cons.mp m with e | m
        · exact h2 e
        · exact h3 (List.mem_singleton.mp m)
    have sD1 := same_new hD1' (.lst [])
    obtain ⟨dxn, tsn, hpn', hGn, _⟩ := An.at_
    have npG : p ≠ G := ne_of hpn hGn (by intro z; cases z)
    have npD : p ≠ D' := fun e => by
      obtain ⟨_, _, k1, _, _, _, k5⟩ := An.at_
      rw [e] at k1
      rcases k5 with k | ⟨_, k⟩ <;> rw [k1] at k <;> cases k
    refine lc_list (K := K) (a := rn) (xs := ns) (fun j H' => ∃ (gs' : List Gt) (qs : List Rw) (vs : List V), H' D1 = some (.lst vs) ∧ DpAll K H' vs (qs.map Rw.d) ∧ PoolAt P w K H' C p G D' gs' ∧ But [G, D', D1] (upd Hn D1 (.lst [])) H' ∧ gs'.length ≤ 1 + j ∧ RowsOk gs' (isRows ++ qs) ∧ qs.length = j ∧ (∀ (k : Nat) (r : Rw), qs[k]? = some r → ∃ (j0 : Nat) (n : NK), nmL[k]? = some n ∧ r = ⟨2 * (j0 : Int), .bit n⟩ ∧ gs'[j0]? = some (.bit n))) ⟨[.no], [], [], upd_same, .nil, An.same sD1, .refl _ _, Nat.le_refl _, isRows_ok An.ok, rfl, (fun k r h => by simp at h)⟩ (fun j H' _ ⟨_, _, _, _, _, _, b, _⟩ => SqL.of (b _ _ (nin3 nrG nrD nrD1) (sD1 _ _ hrn))) ?_ ?_
    · rintro j y H5 hj ⟨gs5, qs, vs, hD5, hdv, A5, b5, lg5, ok5, lq, hq5⟩
      have hj4 : j < 4 := by rw [← lns]; exact (List.getElem?_eq_some_iff.mp hj).1
      obtain ⟨dd, hdd, hy⟩ := dpa_get (dpa_but mutD1 b5 _ hnl (dpa_mono sD1 _ hns)) hj
      rw [List.getElem?_map] at hdd
      obtain ⟨n, hn, rfl⟩ := Option.map_eq_some_iff.mp hdd
      obtain ⟨⟨ks, hks⟩, h7⟩ := nmL_ok n (List.mem_of_getElem? hn)
      obtain ⟨nb, rfl⟩ : ∃ nb, y = .ref nb := by
        rw [hks] at hy
        cases hy
        exact ⟨_, rfl⟩
      refine ⟨rfl, yesV ?_⟩
      rw [if_pos rfl]
      have hp5 := b5 _ _ (nin3 npG npD npD1) (sD1 _ _ hpn)
      refine ⟨_, rfl, p, _, _, rfl, hp5, noB, _, rfl, p, G, D', nb, gs5, n, rfl, A5, hy, h7, by omega, fun H6 gs6 j0 A6 b6 pg6 lg6 hj0 => ?_⟩
      refine ⟨_, rfl, by show 2 ≤ sizeLine; decide, fun t7 f7 => ?_⟩
      refine ⟨by show 2 ≤ sizeLine; decide, fun t8 f8 => ?_⟩
      have e7 := same_new f7 (.tup [.str "bit", .ref nb])
      have e8 := same_new f8 (.tup [.int (2 * (j0 : Int)), .ref t7])
      have s68 := e7.trans e8
      have nGD : ∀ {b : Addr}, b ≠ G → b ≠ D' → b ∉ [G, D'] := fun h1 h2 m => by
        rcases List.mem_cons.mp m with e | m
        · exact h1 e
        · exact h2 (List.mem_singleton.mp m)
      have hD8 := s68 _ _ (b6 _ _ (nGD nGD1.symm nDD1.symm) hD5)
      have A8 := A6.same s68
      have hy8 := dp_mono s68 _ (dp_but A5.mut b6 _ (nk_noLst _) hy)
      have hdv8 := dpa_mono s68 _ (dpa_but A5.mut b6 _ (rws_noLst _) hdv)
      have mut8 : ∀ a ∈ [D1], Mut ((upd (upd H6 t7 (.tup [.str "bit", .ref nb])) t8 (.tup [.int (2 * (j0 : Int)), .ref t7])) a) := fun a ha => by rw [List.mem_singleton.mp ha, hD8]; exact True.intro
      have b8 : But [D1] (upd (upd H6 t7 (.tup [.str "bit", .ref nb])) t8 (.tup [.int (2 * (j0 : Int)), .ref t7])) (upd (upd (upd H6 t7 (.tup [.str "bit", .ref nb])) t8 (.tup [.int (2 * (j0 : Int)), .ref t7])) D1 (.lst (vs ++ [.ref t8]))) := .put (.head _) _
      have lvs : vs.length = j := by rw [dpa_len hdv, List.length_map, lq]
      refine ⟨vs, hD8, by rw [lvs]; exact Nat.lt_of_lt_of_le hj4 (by decide), gs6, qs ++ [⟨2 * (j0 : Int), .bit n⟩], vs ++ [.ref t8], upd_same, ?_, A8.keep mut8 b8 (n1 npD1) (n1 nGD1) (n1 nDD1), ((b5.trans (b6.wide fun a ha => by rcases List.mem_cons.mp ha with e | ha; exact e ▸ .head _; rw [List.mem_singleton.mp ha]; exact .tail _ (.head _))).trans (.of_same s68)).trans (b8.wide fun a ha => by rw [List.mem_singleton.mp ha]; exact .tail _ (.tail _ (.head _))), by omega, ?_, by rw [List.length_append, List.length_singleton, lq], fun k r hk => ?_⟩
      · rw [List.map_append]
        refine dpa_app (dpa_but mut8 b8 _ (rws_noLst _) hdv8) (dpa_one (dp_but mut8 b8 _ (rw_noLst _) ?_))
        exact .tup (SqT.of upd_same) (.cons (.int _) (.cons (.tup (SqT.of (e8 _ _ upd_same)) (.cons (.str _) (.cons hy8 .nil))) .nil))
      · rw [← List.append_assoc]
        refine (ok5.pre pg6).snoc (okL_gate hj0) (fun a ha => nomatch ha) (fun m e => by cases e; exact ⟨⟨ks, hks⟩, h7⟩) (fun env he => ?_) (fun b e => by cases e)
        show env n = litv (bitsOf env gs6) (2 * (j0 : Int))
        rw [lit_gate A6.ok hj0 env]
        rfl
      · by_cases hkl : k < qs.length
        · rw [List.getElem?_append_left hkl] at hk
          obtain ⟨j1, n1', h1, h2, h3⟩ := hq5 k r hk
          obtain ⟨more, rfl⟩ := pg6
          exact ⟨j1, n1', h1, h2, by rw [List.getElem?_append_left (List.getElem?_eq_some_iff.mp h3).1]; exact h3⟩
        · have hke : k = qs.length := by
            have := (List.getElem?_eq_some_iff.mp hk).1
            rw [List.length_append, List.length_singleton] at this
            omega
          rw [hke, List.getElem?_append_right (Nat.le_refl _), Nat.sub_self] at hk
          cases hk
          exact ⟨j0, n, by rw [hke, lq]; exact hn, rfl, hj0⟩
    rintro H5 ⟨gs5, qs, vs, hD5, hdv, A5, b5, lg5, ok5, lq, hq5⟩
    have hl5 := b5 _ _ (nin3 nlG nlD nlD1) (sD1 _ _ hl0)
    have D5 := (Dn.mono sD1).but b5 (nin3 apn.dG apn.dD ndD1) (nin3 apn.LG apn.LD nLD1)
    have his5 := dpa_but mutD1 b5 _ (rws_noLst _) (dpa_mono sD1 _ hisd)
    rw [lns] at lq
    refine ⟨l0, D1, _, _, rfl, rfl, hl5, hD5, by rw [dpa_len hdv, List.length_map, lq]; show 2 + 4 ≤ sizeLine; decide, fun R0 fR0 => ?_⟩
    have sR := same_new fR0 (.lst ([V.ref t2, .ref t4] ++ vs))
    have Db := D5.mono sR
    have Ab := A5.same sR
    have hRb : (upd H5 R0 (.lst ([V.ref t2, .ref t4] ++ vs))) R0 = some (.lst ([V.ref t2, .ref t4] ++ vs)) := upd_same
    have hdb : DpAll K (upd H5 R0 (.lst ([V.ref t2, .ref t4] ++ vs))) ([V.ref t2, .ref t4] ++ vs) ((isRows ++ qs).map Rw.d) := by
      rw [List.map_append]
      exact dpa_app (dpa_mono sR _ his5) (dpa_mono sR _ hdv)
    have nR0 : ∀ b o, H5 b = some o → b ≠ R0 := fun b o e => ne_of_none e fR0
    have ndR0 : R0 ≠ d := by obtain ⟨u, hu⟩ := D5.at; exact (nR0 _ _ hu).symm
    have nGR0 : R0 ≠ G := fun e => by have := A5.mut G (.head _); rw [← e, fR0] at this; exact this
    have nDR0 : R0 ≠ D' := fun e => by have := A5.mut D' (.tail _ (.head _)); rw [← e, fR0] at this; exact this
    -- moving on behind a draw
    have mv : ∀ {Hx Hy : Hp} {gx : List Gt}, DrawAt Hx d L → PoolAt P w K Hx C p G D' gx → But [d] Hx Hy → PoolAt P w K Hy C p G D' gx := fun {Hx Hy gx} Dx Ax b => by
      have ap := Ax.apart Dx
      exact Ax.keep (fun a ha => by obtain ⟨_, _, _, _, e1, _⟩ := Dx; rw [List.mem_singleton.mp ha, e1]; exact True.intro) b (n1 ap.dp.symm) (n1 ap.dG.symm) (n1 ap.dD.symm)
    have mutD : ∀ {Hx : Hp}, DrawAt Hx d L → ∀ a ∈ [d], Mut (Hx a) := fun Dx a ha => by
      obtain ⟨_, _, _, _, e1, _⟩ := Dx
      rw [List.mem_singleton.mp ha, e1]
      exact True.intro
    have mut3 : ∀ {Hx : Hp} {gx : List Gt}, DrawAt Hx d L → PoolAt P w K Hx C p G D' gx → ∀ a ∈ [d, G, D'], Mut (Hx a) := fun Dx Ax a ha => by
      rcases List.mem_cons.mp ha with e | ha
      · exact mutD Dx a (by rw [e]; exact .head _)
      · exact Ax.mut a ha
    have w3 : ∀ {Hx Hy : Hp}, But [d] Hx Hy → But [d, G, D'] Hx Hy := fun b => b.wide fun a ha => by rw [List.mem_singleton.mp ha]; exact .head _
    have w3' : ∀ {Hx Hy : Hp}, But [G, D'] Hx Hy → But [d, G, D'] Hx Hy := fun b => b.wide fun a ha => List.mem_cons_of_mem _ ha
    have nin : ∀ {b : Addr}, b ≠ d → b ≠ G → b ≠ D' → b ∉ [d, G, D'] := fun h1 h2 h3 m => by
      rcases List.mem_cons.mp m with e | m
      · exact h1 e
      · rcases List.mem_cons.mp m with e | m
        · exact h2 e
        · exact h3 (List.mem_singleton.mp m)
    refine ⟨_, rfl, _, rfl, _, rfl, _, rfl, d, L, 17, rfl, by decide, by decide, Db, fun m Hm m0 m1 Dm sm => ?_⟩
    obtain ⟨mn, rfl⟩ : ∃ k : Nat, m = k := ⟨m.toNat, by omega⟩
    have bm := But.of_hide sm
    have Am := mv Db Ab bm
    have lrs : (isRows ++ qs).length = 6 := by rw [List.length_append, lq]; rfl
    refine ⟨d, L, p, G, D', R0, gs5, isRows ++ qs, _, mn, rfl, Dm, Am, bm _ _ (n1 ndR0) hRb, dpa_but (mutD Db) bm _ (rws_noLst _) hdb, ok5, (fun e => by rw [e] at lrs; cases lrs), by omega, by omega, by omega, fun H6 R1 gs6 rs6 us6 D6 A6 b6 fR1 pg6 lg6 pr6 lr6 hR6 hd6 ok6 => ?_⟩
    have bb6 : But [d, G, D'] (upd H5 R0 (.lst ([V.ref t2, .ref t4] ++ vs))) H6 := (w3 bm).trans b6
    have nR1 : ∀ b o, Hm b = some o → b ≠ R1 := fun b o e => ne_of_none e fR1
    have ndR1 : R1 ≠ d := by obtain ⟨u, hu⟩ := Dm.at; exact (nR1 _ _ hu).symm
    have lrs6 : rs6.length ≤ 22 := by omega
    have lus6 : us6.length = rs6.length := by rw [dpa_len hd6, List.length_map]
    -- each literal is a number
    refine ⟨_, rfl, R1, rfl, ⟨_, SqL.of hR6⟩, for_list (K := K) (a := R1) (xs := us6) (fun i σ' H' => ∃ (o5 o6 : Option V), σ' = [some (.ref a), some (.ref d), some (.ref p), some (.ref R0), some (.ref R1), o5, o6, none, none] ∧ H' = H6) ⟨_, _, rfl, rfl⟩ (fun i σ' H' _ ⟨_, _, _, e⟩ => by rw [e]; exact SqL.of hR6) ?_ ?_⟩
    · rintro i y σ' H7 hi ⟨o5, o6, rfl, e⟩
      subst e
      obtain ⟨dd, hdd, hy⟩ := dpa_get hd6 hi
      rw [List.getElem?_map] at hdd
      obtain ⟨r, hr2, rfl⟩ := Option.map_eq_some_iff.mp hdd
      obtain ⟨t, va, vm, rfl, ht, hva, hvm⟩ := dp_two hy
      cases hva
      have hl0 := (ok6.lit r (List.mem_of_getElem? hr2)).1
      refine ⟨t, _, rfl, ht, rfl, _, _, rfl, _, _, rfl, rfl, ?_⟩
      refine ⟨_, rfl, _, _, .type "int", .type "int", true, rfl, .ty _, .base (.int _), kit_ty (by decide +kernel), _, rfl, ?_⟩
      refine iteF ?_
      refine ⟨_, rfl, _, _, .type "int", .type "bool", false, rfl, .ty _, .base (.int _), kit_ty (by decide +kernel), _, rfl, ?_⟩
      refine iteF ?_
      refine ⟨_, rfl, _, _, rfl, rfl, _, rfl, ite2 (fun c => absurd (show r.lit < 0 from of_decide_eq_true c) (by omega)) (fun _ => ?_)⟩
      exact ⟨_, _, rfl, rfl⟩
    · rintro σ' H7 ⟨o5, o6, rfl, e⟩
      subst e
      -- the law's bits
      refine ⟨_, rfl, _, rfl, _, rfl, d, L, p, G, D', R1, gs6, rs6, us6, rfl, D6, A6, hR6, hd6, ok6, by omega, by omega, ndR1, fun H8 D8 b8 => ?_⟩
      refine ⟨_, rfl, ?_⟩
      refine iteF ?_
      have A8 := mv D6 A6 b8
      have hR8 := b8 _ _ (n1 ndR1) hR6
      have hd8 := dpa_but (mutD D6) b8 _ (rws_noLst _) hd6
      have bb8 := bb6.trans (w3 b8)
      refine ⟨_, rfl, _, rfl, _, rfl, _, rfl, d, L, 6, rfl, by decide, by decide, D8, fun m2 H9 m20 m21 D9 s9 => ?_⟩
      obtain ⟨mn2, rfl⟩ : ∃ k : Nat, m2 = k := ⟨m2.toNat, by omega⟩
      have b9 := But.of_hide s9
      have A9 := mv D8 A8 b9
      refine ⟨d, L, p, G, D', R1, gs6, rs6, us6, mn2, rfl, D9, A9, b9 _ _ (n1 ndR1) hR8, dpa_but (mutD D8) b9 _ (rws_noLst _) hd8, ok6, (fun e => by rw [e] at lr6; have : (0 : Nat) = (isRows ++ qs).length + mn := lr6; omega), by omega, by omega, by omega, fun H10 R2 gs10 rs10 us10 D10 A10 b10 fR2 pg10 lg10 pr10 lr10 hR10 hd10 ok10 => ?_⟩
      have bb10 := (bb8.trans (w3 b9)).trans b10
      have nR2 : ∀ b o, H9 b = some o → b ≠ R2 := fun b o e => ne_of_none e fR2
      have ndR2 : R2 ≠ d := by obtain ⟨u, hu⟩ := D9.at; exact (nR2 _ _ hu).symm
      have nGR2 : R2 ≠ G := fun e => by have := A9.mut G (.head _); rw [← e, fR2] at this; exact this
      have nDR2 : R2 ≠ D' := fun e => by have := A9.mut D' (.tail _ (.head _)); rw [← e, fR2] at this; exact this
      -- the names' literals
      refine ⟨_, rfl, by decide, by decide, for_range (lo := 0) (n := 4) (fun k σ' H' => ∃ (gs' : List Gt) (o7 : Option V), σ' = [some (.ref a), some (.ref d), some (.ref p), some (.ref R0), some (.ref R2), o5, o6, o7, none] ∧ DrawAt H' d L ∧ PoolAt P w K H' C p G D' gs' ∧ gs10 <+: gs' ∧ gs'.length ≤ gs10.length + k ∧ But [d, G, D'] H10 H') ⟨gs10, _, rfl, D10, A10, List.prefix_refl _, Nat.le_refl _, .refl _ _⟩ ?_ ?_⟩
      · rintro k σ' H11 hk ⟨gs11, o7, rfl, D11, A11, pg11, lg11, b11⟩
        rw [show (0 : Int) + (k : Int) = (k : Int) from Int.zero_add _]
        have m3 := mut3 D10 A10
        have bbk := bb10.trans b11
        have hRk : H11 R0 = some (.lst ([V.ref t2, .ref t4] ++ vs)) := bbk _ _ (nin ndR0 nGR0 nDR0) hRb
        have hdk := dpa_but (mut3 Db Ab) bbk _ (rws_noLst _) hdb
        obtain ⟨dx11, ts11, hp11, _⟩ := A11.at_
        refine ⟨_, rfl, p, _, _, rfl, hp11, noB, rfl, fun rn2 ns2 Hm2 sm2 fm2 hrn2 hns2 => ?_⟩
        have lns2 : ns2.length = 4 := by rw [dpa_len hns2]; rfl
        have hk2 : ns2[k]? = some (ns2[k]'(by omega)) := List.getElem?_eq_getElem (by omega)
        obtain ⟨dd, hdd, hy⟩ := dpa_get hns2 hk2
        rw [List.getElem?_map] at hdd
        obtain ⟨n, hn, rfl⟩ := Option.map_eq_some_iff.mp hdd
        obtain ⟨⟨ks, hks⟩, h7⟩ := nmL_ok n (List.mem_of_getElem? hn)
        obtain ⟨nb, hnb⟩ : ∃ nb, ns2[k]'(by omega) = V.ref nb := by
          rw [hks] at hy
          generalize ns2[k]'(by omega) = yy at hy
          cases hy
          exact ⟨_, rfl⟩
        rw [hnb] at hy hk2
        refine ⟨_, rfl, rn2, ns2, _, _, rfl, rfl, SqL.of hrn2, atI_nat hk2, p, G, D', nb, gs11, n, rfl, A11.same sm2, hy, h7, by omega, fun H12 gs12 j A12 b12 pg12 lg12 hj => ?_⟩
        have bk12 : But [d, G, D'] H11 H12 := (But.of_same sm2).trans (w3' b12)
        have hR12 := bk12 _ _ (nin ndR0 nGR0 nDR0) hRk
        have hd12 := dpa_but (mut3 D11 A11) bk12 _ (rws_noLst _) hdk
        have hkq : k < qs.length := by omega
        have hkv : k < vs.length := by rw [dpa_len hdv, List.length_map]; exact hkq
        have hvk : ([V.ref t2, .ref t4] ++ vs)[2 + k]? = some (vs[k]'hkv) := by
          rw [List.getElem?_append_right (by show 2 ≤ 2 + k; omega), show 2 + k - [V.ref t2, V.ref t4].length = k from by show 2 + k - 2 = k; omega]
          exact List.getElem?_eq_getElem hkv
        obtain ⟨dd2, hdd2, hy2⟩ := dpa_get hd12 hvk
        rw [List.getElem?_map, List.getElem?_append_right (show isRows.length ≤ 2 + k by show 2 ≤ 2 + k; omega), show 2 + k - isRows.length = k from by show 2 + k - 2 = k; omega, List.getElem?_eq_getElem hkq] at hdd2
        cases hdd2
        obtain ⟨j0, n2, h1, h2, h3⟩ := hq5 k _ (List.getElem?_eq_getElem hkq)
        rw [hn] at h1
        cases h1
        rw [h2] at hy2
        obtain ⟨tq, va, vm, etq, htq, hva, hvm⟩ := dp_two (show Dp K H12 (vs[k]'hkv) (.tuple [.int (2 * (j0 : Int)), Md.d (.bit n)]) from hy2)
        cases hva
        rw [etq] at hvk
        have hpre : gs5 <+: gs12 := ((pg6.trans pg10).trans pg11).trans pg12
        have hj2 : gs12[j0]? = some (.bit n) := by
          obtain ⟨more, rfl⟩ := hpre
          rw [List.getElem?_append_left (List.getElem?_eq_some_iff.mp h3).1]
          exact h3
        have ej : j = j0 := by
          have e1 : (gs12.map Gt.nk)[j]? = some (Gt.bit n).nk := by rw [List.getElem?_map, hj]; rfl
          have e2 : (gs12.map Gt.nk)[j0]? = some (Gt.bit n).nk := by rw [List.getElem?_map, hj2]; rfl
          exact (List.getElem?_inj (by rw [List.length_map]; exact (List.getElem?_eq_some_iff.mp hj).1) A12.nd).mp (e1.trans e2.symm)
        subst ej
        have hat : atI ([V.ref t2, .ref t4] ++ vs) (2 + (k : Int)) = some (.ref tq) := by
          have e := atI_nat (j := 2 + k) hvk
          rw [show ((2 + k : Nat) : Int) = 2 + (k : Int) by omega] at e
          exact e
        refine ⟨_, rfl, _, rfl, _, _, rfl, rfl, R0, _, _, _, rfl, rfl, SqL.of hR12, hat, tq, _, _, _, rfl, rfl, htq, rfl, rfl, _, rfl, ?_⟩
        refine iteNS rfl ?_
        have ap11 := A11.apart D11
        have dGD : d ∉ [G, D'] := fun m => by
          rcases List.mem_cons.mp m with e | m
          · exact ap11.dG e
          · exact ap11.dD (List.mem_singleton.mp m)
        have LGD : L ∉ [G, D'] := fun m => by
          rcases List.mem_cons.mp m with e | m
          · exact ap11.LG e
          · exact ap11.LD (List.mem_singleton.mp m)
        exact ⟨gs12, _, rfl, (D11.mono sm2).but b12 dGD LGD, A12, pg11.trans pg12, by omega, b11.trans bk12⟩
      · rintro σ' H11 ⟨gs11, o7, rfl, D11, A11, pg11, lg11, b11⟩
        have m3 := mut3 D10 A10
        refine ⟨_, rfl, _, rfl, _, rfl, d, L, p, G, D', R2, gs11, rs10, us10, rfl, D11, A11, b11 _ _ (nin ndR2 nGR2 nDR2) hR10, dpa_but m3 b11 _ (rws_noLst _) hd10, ok10.pre pg11, by omega, by omega, ndR2, fun H12 D12 b12 => q H12⟩
end
end My

set_option Elab.async false
set_option maxRecDepth 100000
set_option maxHeartbeats 8000000
set_option linter.all false
namespace My
open PySem L2
theorem all_mk {l : PySem.W.OpenLaw} {w : World} {K : PySem.W.Frag} {h : Heap} {mg : Str → Option Value} {fa : Addr} (X : K.In h) (G : h.Ns mainGlobals mg) (hfa : mg "law" = some (.ref fa))
    {f0 : Addr} {od0 an0 : Option Addr} {sl0 : Array (Option Value)} {oc0 kV0 dc0 pm0 cd0 ct0 : Value}
    (a0 : PySem.W.nsIn K mainGlobals "both_gate" = some (some (.ref f0))) (l0 : K.lookup f0 = some ⟨oc0, od0, .func (PySem.W.fnOf "both_gate" "both_gate" (defArgs s_both_gate) (defBody s_both_gate) (defScope s_both_gate) .none kV0 dc0 pm0 an0 cd0 ct0), sl0⟩) (c0 : PySem.W.codeIn K cd0 "both_gate" = true) (k0 : PySem.W.keepIn K (.ref f0) = true)
    {f1 : Addr} {od1 an1 : Option Addr} {sl1 : Array (Option Value)} {oc1 kV1 dc1 pm1 cd1 ct1 : Value}
    (a1 : PySem.W.nsIn K mainGlobals "gate_value" = some (some (.ref f1))) (l1 : K.lookup f1 = some ⟨oc1, od1, .func (PySem.W.fnOf "gate_value" "gate_value" (defArgs s_gate_value) (defBody s_gate_value) (defScope s_gate_value) .none kV1 dc1 pm1 an1 cd1 ct1), sl1⟩) (c1 : PySem.W.codeIn K cd1 "gate_value" = true) (k1 : PySem.W.keepIn K (.ref f1) = true)
    {f2 : Addr} {od2 an2 : Option Addr} {sl2 : Array (Option Value)} {oc2 kV2 dc2 pm2 cd2 ct2 : Value}
    (a2 : PySem.W.nsIn K mainGlobals "_law_draw" = some (some (.ref f2))) (l2 : K.lookup f2 = some ⟨oc2, od2, .func (PySem.W.fnOf "_law_draw" "_law_draw" (defArgs s__law_draw) (defBody s__law_draw) (defScope s__law_draw) .none kV2 dc2 pm2 an2 cd2 ct2), sl2⟩) (c2 : PySem.W.codeIn K cd2 "_law_draw" = true) (k2 : PySem.W.keepIn K (.ref f2) = true)
    {f3 : Addr} {od3 an3 : Option Addr} {sl3 : Array (Option Value)} {oc3 kV3 dc3 pm3 cd3 ct3 : Value}
    (a3 : PySem.W.nsIn K mainGlobals "_law_take" = some (some (.ref f3))) (l3 : K.lookup f3 = some ⟨oc3, od3, .func (PySem.W.fnOf "_law_take" "_law_take" (defArgs s__law_take) (defBody s__law_take) (defScope s__law_take) .none kV3 dc3 pm3 an3 cd3 ct3), sl3⟩) (c3 : PySem.W.codeIn K cd3 "_law_take" = true) (k3 : PySem.W.keepIn K (.ref f3) = true)
    {f4 : Addr} {od4 an4 : Option Addr} {sl4 : Array (Option Value)} {oc4 kV4 dc4 pm4 cd4 ct4 : Value}
    (a4 : PySem.W.nsIn K mainGlobals "_law_names" = some (some (.ref f4))) (l4 : K.lookup f4 = some ⟨oc4, od4, .func (PySem.W.fnOf "_law_names" "_law_names" (defArgs s__law_names) (defBody s__law_names) (defScope s__law_names) .none kV4 dc4 pm4 an4 cd4 ct4), sl4⟩) (c4 : PySem.W.codeIn K cd4 "_law_names" = true) (k4 : PySem.W.keepIn K (.ref f4) = true)
    {f5 : Addr} {od5 an5 : Option Addr} {sl5 : Array (Option Value)} {oc5 kV5 dc5 pm5 cd5 ct5 : Value}
    (a5 : PySem.W.nsIn K mainGlobals "_law_some" = some (some (.ref f5))) (l5 : K.lookup f5 = some ⟨oc5, od5, .func (PySem.W.fnOf "_law_some" "_law_some" (defArgs s__law_some) (defBody s__law_some) (defScope s__law_some) .none kV5 dc5 pm5 an5 cd5 ct5), sl5⟩) (c5 : PySem.W.codeIn K cd5 "_law_some" = true) (k5 : PySem.W.keepIn K (.ref f5) = true)
    {f6 : Addr} {od6 an6 : Option Addr} {sl6 : Array (Option Value)} {oc6 kV6 dc6 pm6 cd6 ct6 : Value}
    (a6 : PySem.W.nsIn K mainGlobals "_law_more" = some (some (.ref f6))) (l6 : K.lookup f6 = some ⟨oc6, od6, .func (PySem.W.fnOf "_law_more" "_law_more" (defArgs s__law_more) (defBody s__law_more) (defScope s__law_more) .none kV6 dc6 pm6 an6 cd6 ct6), sl6⟩) (c6 : PySem.W.codeIn K cd6 "_law_more" = true) (k6 : PySem.W.keepIn K (.ref f6) = true)
    {f7 : Addr} {od7 an7 : Option Addr} {sl7 : Array (Option Value)} {oc7 kV7 dc7 pm7 cd7 ct7 : Value}
    (a7 : PySem.W.nsIn K mainGlobals "_law_values" = some (some (.ref f7))) (l7 : K.lookup f7 = some ⟨oc7, od7, .func (PySem.W.fnOf "_law_values" "_law_values" (defArgs s__law_values) (defBody s__law_values) (defScope s__law_values) .none kV7 dc7 pm7 an7 cd7 ct7), sl7⟩) (c7 : PySem.W.codeIn K cd7 "_law_values" = true) (k7 : PySem.W.keepIn K (.ref f7) = true)
    {f8 : Addr} {od8 an8 : Option Addr} {sl8 : Array (Option Value)} {oc8 kV8 dc8 pm8 cd8 ct8 : Value}
    (a8 : PySem.W.nsIn K mainGlobals "_law_right" = some (some (.ref f8))) (l8 : K.lookup f8 = some ⟨oc8, od8, .func (PySem.W.fnOf "_law_right" "_law_right" (defArgs s__law_right) (defBody s__law_right) (defScope s__law_right) .none kV8 dc8 pm8 an8 cd8 ct8), sl8⟩) (c8 : PySem.W.codeIn K cd8 "_law_right" = true) (k8 : PySem.W.keepIn K (.ref f8) = true)
    {f9 : Addr} {od9 an9 : Option Addr} {sl9 : Array (Option Value)} {oc9 kV9 dc9 pm9 cd9 ct9 : Value}
    (a9 : PySem.W.nsIn K mainGlobals "law" = some (some (.ref f9))) (l9 : K.lookup f9 = some ⟨oc9, od9, .func (PySem.W.fnOf "law" "law" (defArgs s_law) (defBody s_law) (defScope s_law) .none kV9 dc9 pm9 an9 cd9 ct9), sl9⟩) (c9 : PySem.W.codeIn K cd9 "law" = true) (k9 : PySem.W.keepIn K (.ref f9) = true)
    {t_NO : Tok} (i_NO : PySem.W.nsIn K mainGlobals "NO" = some (some (.int 0 t_NO)))
    {t_YES : Tok} (i_YES : PySem.W.nsIn K mainGlobals "YES" = some (some (.int 1 t_YES)))
    {C : Addr} (aC : PySem.W.nsIn K mainGlobals "Pool" = some (some (.ref C)))
    {mf0 : Addr} {mod0 man0 : Option Addr} {msl0 : Array (Option Value)} {moc0 mkV0 mdc0 mpm0 mcd0 mct0 : Value}
    (ma0 : PySem.W.findIn K (.ref C) "__init__" = some (some (.ref mf0))) (mi0 : PySem.W.isFn K (.ref mf0) = true) (ml0 : K.lookup mf0 = some ⟨moc0, mod0, .func (PySem.W.fnOf "__init__" "Pool.__init__" (defArgs s_Pool___init__) (defBody s_Pool___init__) (defScope s_Pool___init__) .none mkV0 mdc0 mpm0 man0 mcd0 mct0), msl0⟩) (mc0 : PySem.W.codeIn K mcd0 "Pool.__init__" = true) (mk0 : PySem.W.keepIn K (.ref mf0) = true)
    {mf1 : Addr} {mod1 man1 : Option Addr} {msl1 : Array (Option Value)} {moc1 mkV1 mdc1 mpm1 mcd1 mct1 : Value}
    (ma1 : PySem.W.findIn K (.ref C) "bit" = some (some (.ref mf1))) (mi1 : PySem.W.isFn K (.ref mf1) = true) (ml1 : K.lookup mf1 = some ⟨moc1, mod1, .func (PySem.W.fnOf "bit" "Pool.bit" (defArgs s_Pool_bit) (defBody s_Pool_bit) (defScope s_Pool_bit) .none mkV1 mdc1 mpm1 man1 mcd1 mct1), msl1⟩) (mc1 : PySem.W.codeIn K mcd1 "Pool.bit" = true) (mk1 : PySem.W.keepIn K (.ref mf1) = true)
    {mf2 : Addr} {mod2 man2 : Option Addr} {msl2 : Array (Option Value)} {moc2 mkV2 mdc2 mpm2 mcd2 mct2 : Value}
    (ma2 : PySem.W.findIn K (.ref C) "both" = some (some (.ref mf2))) (mi2 : PySem.W.isFn K (.ref mf2) = true) (ml2 : K.lookup mf2 = some ⟨moc2, mod2, .func (PySem.W.fnOf "both" "Pool.both" (defArgs s_Pool_both) (defBody s_Pool_both) (defScope s_Pool_both) .none mkV2 mdc2 mpm2 man2 mcd2 mct2), msl2⟩) (mc2 : PySem.W.codeIn K mcd2 "Pool.both" = true) (mk2 : PySem.W.keepIn K (.ref mf2) = true)
    {mf3 : Addr} {mod3 man3 : Option Addr} {msl3 : Array (Option Value)} {moc3 mkV3 mdc3 mpm3 mcd3 mct3 : Value}
    (ma3 : PySem.W.findIn K (.ref C) "either" = some (some (.ref mf3))) (mi3 : PySem.W.isFn K (.ref mf3) = true) (ml3 : K.lookup mf3 = some ⟨moc3, mod3, .func (PySem.W.fnOf "either" "Pool.either" (defArgs s_Pool_either) (defBody s_Pool_either) (defScope s_Pool_either) .none mkV3 mdc3 mpm3 man3 mcd3 mct3), msl3⟩) (mc3 : PySem.W.codeIn K mcd3 "Pool.either" = true) (mk3 : PySem.W.keepIn K (.ref mf3) = true)
    {mf4 : Addr} {mod4 man4 : Option Addr} {msl4 : Array (Option Value)} {moc4 mkV4 mdc4 mpm4 mcd4 mct4 : Value}
    (ma4 : PySem.W.findIn K (.ref C) "unlike" = some (some (.ref mf4))) (mi4 : PySem.W.isFn K (.ref mf4) = true) (ml4 : K.lookup mf4 = some ⟨moc4, mod4, .func (PySem.W.fnOf "unlike" "Pool.unlike" (defArgs s_Pool_unlike) (defBody s_Pool_unlike) (defScope s_Pool_unlike) .none mkV4 mdc4 mpm4 man4 mcd4 mct4), msl4⟩) (mc4 : PySem.W.codeIn K mcd4 "Pool.unlike" = true) (mk4 : PySem.W.keepIn K (.ref mf4) = true)
    {mf5 : Addr} {mod5 man5 : Option Addr} {msl5 : Array (Option Value)} {moc5 mkV5 mdc5 mpm5 mcd5 mct5 : Value}
    (ma5 : PySem.W.findIn K (.ref C) "chosen" = some (some (.ref mf5))) (mi5 : PySem.W.isFn K (.ref mf5) = true) (ml5 : K.lookup mf5 = some ⟨moc5, mod5, .func (PySem.W.fnOf "chosen" "Pool.chosen" (defArgs s_Pool_chosen) (defBody s_Pool_chosen) (defScope s_Pool_chosen) .none mkV5 mdc5 mpm5 man5 mcd5 mct5), msl5⟩) (mc5 : PySem.W.codeIn K mcd5 "Pool.chosen" = true) (mk5 : PySem.W.keepIn K (.ref mf5) = true)
    {mf6 : Addr} {mod6 man6 : Option Addr} {msl6 : Array (Option Value)} {moc6 mkV6 mdc6 mpm6 mcd6 mct6 : Value}
    (ma6 : PySem.W.findIn K (.ref C) "literal_of" = some (some (.ref mf6))) (mi6 : PySem.W.isFn K (.ref mf6) = true) (ml6 : K.lookup mf6 = some ⟨moc6, mod6, .func (PySem.W.fnOf "literal_of" "Pool.literal_of" (defArgs s_Pool_literal_of) (defBody s_Pool_literal_of) (defScope s_Pool_literal_of) .none mkV6 mdc6 mpm6 man6 mcd6 mct6), msl6⟩) (mc6 : PySem.W.codeIn K mcd6 "Pool.literal_of" = true) (mk6 : PySem.W.keepIn K (.ref mf6) = true)
    {mf7 : Addr} {mod7 man7 : Option Addr} {msl7 : Array (Option Value)} {moc7 mkV7 mdc7 mpm7 mcd7 mct7 : Value}
    (ma7 : PySem.W.findIn K (.ref C) "value" = some (some (.ref mf7))) (mi7 : PySem.W.isFn K (.ref mf7) = true) (ml7 : K.lookup mf7 = some ⟨moc7, mod7, .func (PySem.W.fnOf "value" "Pool.value" (defArgs s_Pool_value) (defBody s_Pool_value) (defScope s_Pool_value) .none mkV7 mdc7 mpm7 man7 mcd7 mct7), msl7⟩) (mc7 : PySem.W.codeIn K mcd7 "Pool.value" = true) (mk7 : PySem.W.keepIn K (.ref mf7) = true)
    {mf8 : Addr} {mod8 man8 : Option Addr} {msl8 : Array (Option Value)} {moc8 mkV8 mdc8 mpm8 mcd8 mct8 : Value}
    (ma8 : PySem.W.findIn K (.ref C) "values" = some (some (.ref mf8))) (mi8 : PySem.W.isFn K (.ref mf8) = true) (ml8 : K.lookup mf8 = some ⟨moc8, mod8, .func (PySem.W.fnOf "values" "Pool.values" (defArgs s_Pool_values) (defBody s_Pool_values) (defScope s_Pool_values) .none mkV8 mdc8 mpm8 man8 mcd8 mct8), msl8⟩) (mc8 : PySem.W.codeIn K mcd8 "Pool.values" = true) (mk8 : PySem.W.keepIn K (.ref mf8) = true)
    {mf9 : Addr} {mod9 man9 : Option Addr} {msl9 : Array (Option Value)} {moc9 mkV9 mdc9 mpm9 mcd9 mct9 : Value}
    (ma9 : PySem.W.findIn K (.ref C) "computed" = some (some (.ref mf9))) (mi9 : PySem.W.isFn K (.ref mf9) = true) (ml9 : K.lookup mf9 = some ⟨moc9, mod9, .func (PySem.W.fnOf "computed" "Pool.computed" (defArgs s_Pool_computed) (defBody s_Pool_computed) (defScope s_Pool_computed) .none mkV9 mdc9 mpm9 man9 mcd9 mct9), msl9⟩) (mc9 : PySem.W.codeIn K mcd9 "Pool.computed" = true) (mk9 : PySem.W.keepIn K (.ref mf9) = true)
    {mf10 : Addr} {mod10 man10 : Option Addr} {msl10 : Array (Option Value)} {moc10 mkV10 mdc10 mpm10 mcd10 mct10 : Value}
    (ma10 : PySem.W.findIn K (.ref C) "cone" = some (some (.ref mf10))) (mi10 : PySem.W.isFn K (.ref mf10) = true) (ml10 : K.lookup mf10 = some ⟨moc10, mod10, .func (PySem.W.fnOf "cone" "Pool.cone" (defArgs s_Pool_cone) (defBody s_Pool_cone) (defScope s_Pool_cone) .none mkV10 mdc10 mpm10 man10 mcd10 mct10), msl10⟩) (mc10 : PySem.W.codeIn K mcd10 "Pool.cone" = true) (mk10 : PySem.W.keepIn K (.ref mf10) = true)
    (pg : PySem.W.plainGet K C Str.empty = true) (hd : PySem.W.hasDictIn K C = true) (po : PySem.W.plainOver K C = true) (sa : PySem.W.findIn K (.ref C) "__setattr__" = some (some (.builtin "object.__setattr__"))) (mk : PySem.W.makesIn K C = true) (kc : PySem.W.keepIn K (.ref C) = true)
    (nG : PySem.W.findIn K (.ref C) "gates" = some none) (nL : PySem.W.findIn K (.ref C) "literals" = some none)
    (z_abs : PySem.W.nsIn K mainGlobals "abs" = some none)
    (z_bool : PySem.W.nsIn K mainGlobals "bool" = some none)
    (z_int : PySem.W.nsIn K mainGlobals "int" = some none)
    (z_isinstance : PySem.W.nsIn K mainGlobals "isinstance" = some none)
    (z_len : PySem.W.nsIn K mainGlobals "len" = some none)
    (z_list : PySem.W.nsIn K mainGlobals "list" = some none)
    (z_max : PySem.W.nsIn K mainGlobals "max" = some none)
    (z_min : PySem.W.nsIn K mainGlobals "min" = some none)
    (z_range : PySem.W.nsIn K mainGlobals "range" = some none)
    (z_sorted : PySem.W.nsIn K mainGlobals "sorted" = some none)
    (z_sum : PySem.W.nsIn K mainGlobals "sum" = some none)
    : ∃ fd : FuncData, (∀ (s : Shared) (v : Value), BindsTo s fd ⟨[v], []⟩ [("script", v)]) ∧ ∀ base : Heap, K.In base → base.Ns mainGlobals mg → FnOk l.prog w K mg base CX0 6 fa fd ["script"] (spLaw K) := by
  have e := hfa.symm.trans (PySem.W.mg_of X G a9)
  have T : Txt K mg := ⟨PySem.W.mg_none_of X G z_abs, PySem.W.mg_none_of X G z_bool, PySem.W.mg_none_of X G z_int, PySem.W.mg_none_of X G z_isinstance, PySem.W.mg_none_of X G z_len, PySem.W.mg_none_of X G z_list, PySem.W.mg_none_of X G z_max, PySem.W.mg_none_of X G z_min, PySem.W.mg_none_of X G z_range, PySem.W.mg_none_of X G z_sorted, PySem.W.mg_none_of X G z_sum⟩
  have C_NO : ConI mg "NO" 0 := ⟨t_NO, PySem.W.mg_of X G i_NO⟩
  have C_YES : ConI mg "YES" 1 := ⟨t_YES, PySem.W.mg_of X G i_YES⟩
  let fd_both_gate : FuncData := PySem.W.fnOf "both_gate" "both_gate" (defArgs s_both_gate) (defBody s_both_gate) (defScope s_both_gate) .none kV0 dc0 pm0 an0 cd0 ct0
  have D_both_gate : Def K mg "both_gate" ["x", "y"] s_both_gate f0 fd_both_gate := ⟨fun_mk (st := s_both_gate) l0 c0 k0, PySem.W.mg_of X G a0, (fun_mk (st := s_both_gate) l0 c0 k0).binds (ps := ["x", "y"]) fun _ _ _ _ _ _ us hl => match us, hl with | [_, _], _ => rfl⟩
  let fd_gate_value : FuncData := PySem.W.fnOf "gate_value" "gate_value" (defArgs s_gate_value) (defBody s_gate_value) (defScope s_gate_value) .none kV1 dc1 pm1 an1 cd1 ct1
  have D_gate_value : Def K mg "gate_value" ["gate", "found", "bits"] s_gate_value f1 fd_gate_value := ⟨fun_mk (st := s_gate_value) l1 c1 k1, PySem.W.mg_of X G a1, (fun_mk (st := s_gate_value) l1 c1 k1).binds (ps := ["gate", "found", "bits"]) fun _ _ _ _ _ _ us hl => match us, hl with | [_, _, _], _ => rfl⟩
  let fd__law_draw : FuncData := PySem.W.fnOf "_law_draw" "_law_draw" (defArgs s__law_draw) (defBody s__law_draw) (defScope s__law_draw) .none kV2 dc2 pm2 an2 cd2 ct2
  have D__law_draw : Def K mg "_law_draw" ["script"] s__law_draw f2 fd__law_draw := ⟨fun_mk (st := s__law_draw) l2 c2 k2, PySem.W.mg_of X G a2, (fun_mk (st := s__law_draw) l2 c2 k2).binds (ps := ["script"]) fun _ _ _ _ _ _ us hl => match us, hl with | [_], _ => rfl⟩
  let fd__law_take : FuncData := PySem.W.fnOf "_law_take" "_law_take" (defArgs s__law_take) (defBody s__law_take) (defScope s__law_take) .none kV3 dc3 pm3 an3 cd3 ct3
  have D__law_take : Def K mg "_law_take" ["draw", "many"] s__law_take f3 fd__law_take := ⟨fun_mk (st := s__law_take) l3 c3 k3, PySem.W.mg_of X G a3, (fun_mk (st := s__law_take) l3 c3 k3).binds (ps := ["draw", "many"]) fun _ _ _ _ _ _ us hl => match us, hl with | [_, _], _ => rfl⟩
  let fd__law_names : FuncData := PySem.W.fnOf "_law_names" "_law_names" (defArgs s__law_names) (defBody s__law_names) (defScope s__law_names) .none kV4 dc4 pm4 an4 cd4 ct4
  have D__law_names : Def K mg "_law_names" [] s__law_names f4 fd__law_names := ⟨fun_mk (st := s__law_names) l4 c4 k4, PySem.W.mg_of X G a4, (fun_mk (st := s__law_names) l4 c4 k4).binds (ps := []) fun _ _ _ _ _ _ us hl => match us, hl with | [], _ => rfl⟩
  let fd__law_some : FuncData := PySem.W.fnOf "_law_some" "_law_some" (defArgs s__law_some) (defBody s__law_some) (defScope s__law_some) .none kV5 dc5 pm5 an5 cd5 ct5
  have D__law_some : Def K mg "_law_some" ["draw", "rows"] s__law_some f5 fd__law_some := ⟨fun_mk (st := s__law_some) l5 c5 k5, PySem.W.mg_of X G a5, (fun_mk (st := s__law_some) l5 c5 k5).binds (ps := ["draw", "rows"]) fun _ _ _ _ _ _ us hl => match us, hl with | [_, _], _ => rfl⟩
  let fd__law_more : FuncData := PySem.W.fnOf "_law_more" "_law_more" (defArgs s__law_more) (defBody s__law_more) (defScope s__law_more) .none kV6 dc6 pm6 an6 cd6 ct6
  have D__law_more : Def K mg "_law_more" ["draw", "pool", "rows", "many"] s__law_more f6 fd__law_more := ⟨fun_mk (st := s__law_more) l6 c6 k6, PySem.W.mg_of X G a6, (fun_mk (st := s__law_more) l6 c6 k6).binds (ps := ["draw", "pool", "rows", "many"]) fun _ _ _ _ _ _ us hl => match us, hl with | [_, _, _, _], _ => rfl⟩
  let fd__law_values : FuncData := PySem.W.fnOf "_law_values" "_law_values" (defArgs s__law_values) (defBody s__law_values) (defScope s__law_values) .none kV7 dc7 pm7 an7 cd7 ct7
  have D__law_values : Def K mg "_law_values" ["rows", "bits"] s__law_values f7 fd__law_values := ⟨fun_mk (st := s__law_values) l7 c7 k7, PySem.W.mg_of X G a7, (fun_mk (st := s__law_values) l7 c7 k7).binds (ps := ["rows", "bits"]) fun _ _ _ _ _ _ us hl => match us, hl with | [_, _], _ => rfl⟩
  let fd__law_right : FuncData := PySem.W.fnOf "_law_right" "_law_right" (defArgs s__law_right) (defBody s__law_right) (defScope s__law_right) .none kV8 dc8 pm8 an8 cd8 ct8
  have D__law_right : Def K mg "_law_right" ["draw", "pool", "rows"] s__law_right f8 fd__law_right := ⟨fun_mk (st := s__law_right) l8 c8 k8, PySem.W.mg_of X G a8, (fun_mk (st := s__law_right) l8 c8 k8).binds (ps := ["draw", "pool", "rows"]) fun _ _ _ _ _ _ us hl => match us, hl with | [_, _, _], _ => rfl⟩
  let fd_law : FuncData := PySem.W.fnOf "law" "law" (defArgs s_law) (defBody s_law) (defScope s_law) .none kV9 dc9 pm9 an9 cd9 ct9
  have D_law : Def K mg "law" ["script"] s_law f9 fd_law := ⟨fun_mk (st := s_law) l9 c9 k9, PySem.W.mg_of X G a9, (fun_mk (st := s_law) l9 c9 k9).binds (ps := ["script"]) fun _ _ _ _ _ _ us hl => match us, hl with | [_], _ => rfl⟩
  let fd_Pool___init__ : FuncData := PySem.W.fnOf "__init__" "Pool.__init__" (defArgs s_Pool___init__) (defBody s_Pool___init__) (defScope s_Pool___init__) .none mkV0 mdc0 mpm0 man0 mcd0 mct0
  have D_Pool___init__ : DefM0 K "__init__" "Pool.__init__" ["self"] s_Pool___init__ mf0 fd_Pool___init__ := ⟨fun_mk (st := s_Pool___init__) ml0 mc0 mk0, (fun_mk (st := s_Pool___init__) ml0 mc0 mk0).binds (ps := ["self"]) fun _ _ _ _ _ _ us hl => match us, hl with | [_], _ => rfl⟩
  have MC : Mk K C mf0 := ⟨mk, ma0, mi0, kc⟩
  let fd_Pool_bit : FuncData := PySem.W.fnOf "bit" "Pool.bit" (defArgs s_Pool_bit) (defBody s_Pool_bit) (defScope s_Pool_bit) .none mkV1 mdc1 mpm1 man1 mcd1 mct1
  have D_Pool_bit : DefM K C "bit" "Pool.bit" ["self", "name"] s_Pool_bit mf1 fd_Pool_bit := ⟨fun_mk (st := s_Pool_bit) ml1 mc1 mk1, (fun_mk (st := s_Pool_bit) ml1 mc1 mk1).binds (ps := ["self", "name"]) fun _ _ _ _ _ _ us hl => match us, hl with | [_, _], _ => rfl, ⟨ma1, mi1, mk1⟩⟩
  let fd_Pool_both : FuncData := PySem.W.fnOf "both" "Pool.both" (defArgs s_Pool_both) (defBody s_Pool_both) (defScope s_Pool_both) .none mkV2 mdc2 mpm2 man2 mcd2 mct2
  have D_Pool_both : DefM K C "both" "Pool.both" ["self", "x", "y"] s_Pool_both mf2 fd_Pool_both := ⟨fun_mk (st := s_Pool_both) ml2 mc2 mk2, (fun_mk (st := s_Pool_both) ml2 mc2 mk2).binds (ps := ["self", "x", "y"]) fun _ _ _ _ _ _ us hl => match us, hl with | [_, _, _], _ => rfl, ⟨ma2, mi2, mk2⟩⟩
  let fd_Pool_either : FuncData := PySem.W.fnOf "either" "Pool.either" (defArgs s_Pool_either) (defBody s_Pool_either) (defScope s_Pool_either) .none mkV3 mdc3 mpm3 man3 mcd3 mct3
  have D_Pool_either : DefM K C "either" "Pool.either" ["self", "x", "y"] s_Pool_either mf3 fd_Pool_either := ⟨fun_mk (st := s_Pool_either) ml3 mc3 mk3, (fun_mk (st := s_Pool_either) ml3 mc3 mk3).binds (ps := ["self", "x", "y"]) fun _ _ _ _ _ _ us hl => match us, hl with | [_, _, _], _ => rfl, ⟨ma3, mi3, mk3⟩⟩
  let fd_Pool_unlike : FuncData := PySem.W.fnOf "unlike" "Pool.unlike" (defArgs s_Pool_unlike) (defBody s_Pool_unlike) (defScope s_Pool_unlike) .none mkV4 mdc4 mpm4 man4 mcd4 mct4
  have D_Pool_unlike : DefM K C "unlike" "Pool.unlike" ["self", "x", "y"] s_Pool_unlike mf4 fd_Pool_unlike := ⟨fun_mk (st := s_Pool_unlike) ml4 mc4 mk4, (fun_mk (st := s_Pool_unlike) ml4 mc4 mk4).binds (ps := ["self", "x", "y"]) fun _ _ _ _ _ _ us hl => match us, hl with | [_, _, _], _ => rfl, ⟨ma4, mi4, mk4⟩⟩
  let fd_Pool_chosen : FuncData := PySem.W.fnOf "chosen" "Pool.chosen" (defArgs s_Pool_chosen) (defBody s_Pool_chosen) (defScope s_Pool_chosen) .none mkV5 mdc5 mpm5 man5 mcd5 mct5
  have D_Pool_chosen : DefM K C "chosen" "Pool.chosen" ["self", "c", "x", "y"] s_Pool_chosen mf5 fd_Pool_chosen := ⟨fun_mk (st := s_Pool_chosen) ml5 mc5 mk5, (fun_mk (st := s_Pool_chosen) ml5 mc5 mk5).binds (ps := ["self", "c", "x", "y"]) fun _ _ _ _ _ _ us hl => match us, hl with | [_, _, _, _], _ => rfl, ⟨ma5, mi5, mk5⟩⟩
  let fd_Pool_literal_of : FuncData := PySem.W.fnOf "literal_of" "Pool.literal_of" (defArgs s_Pool_literal_of) (defBody s_Pool_literal_of) (defScope s_Pool_literal_of) .none mkV6 mdc6 mpm6 man6 mcd6 mct6
  have D_Pool_literal_of : DefM K C "literal_of" "Pool.literal_of" ["self", "gate"] s_Pool_literal_of mf6 fd_Pool_literal_of := ⟨fun_mk (st := s_Pool_literal_of) ml6 mc6 mk6, (fun_mk (st := s_Pool_literal_of) ml6 mc6 mk6).binds (ps := ["self", "gate"]) fun _ _ _ _ _ _ us hl => match us, hl with | [_, _], _ => rfl, ⟨ma6, mi6, mk6⟩⟩
  let fd_Pool_value : FuncData := PySem.W.fnOf "value" "Pool.value" (defArgs s_Pool_value) (defBody s_Pool_value) (defScope s_Pool_value) .none mkV7 mdc7 mpm7 man7 mcd7 mct7
  have D_Pool_value : DefM K C "value" "Pool.value" ["self", "literal", "bits"] s_Pool_value mf7 fd_Pool_value := ⟨fun_mk (st := s_Pool_value) ml7 mc7 mk7, (fun_mk (st := s_Pool_value) ml7 mc7 mk7).binds (ps := ["self", "literal", "bits"]) fun _ _ _ _ _ _ us hl => match us, hl with | [_, _, _], _ => rfl, ⟨ma7, mi7, mk7⟩⟩
  let fd_Pool_values : FuncData := PySem.W.fnOf "values" "Pool.values" (defArgs s_Pool_values) (defBody s_Pool_values) (defScope s_Pool_values) .none mkV8 mdc8 mpm8 man8 mcd8 mct8
  have D_Pool_values : DefM K C "values" "Pool.values" ["self", "literals", "bits"] s_Pool_values mf8 fd_Pool_values := ⟨fun_mk (st := s_Pool_values) ml8 mc8 mk8, (fun_mk (st := s_Pool_values) ml8 mc8 mk8).binds (ps := ["self", "literals", "bits"]) fun _ _ _ _ _ _ us hl => match us, hl with | [_, _, _], _ => rfl, ⟨ma8, mi8, mk8⟩⟩
  let fd_Pool_computed : FuncData := PySem.W.fnOf "computed" "Pool.computed" (defArgs s_Pool_computed) (defBody s_Pool_computed) (defScope s_Pool_computed) .none mkV9 mdc9 mpm9 man9 mcd9 mct9
  have D_Pool_computed : DefM K C "computed" "Pool.computed" ["self", "literals", "bits"] s_Pool_computed mf9 fd_Pool_computed := ⟨fun_mk (st := s_Pool_computed) ml9 mc9 mk9, (fun_mk (st := s_Pool_computed) ml9 mc9 mk9).binds (ps := ["self", "literals", "bits"]) fun _ _ _ _ _ _ us hl => match us, hl with | [_, _, _], _ => rfl, ⟨ma9, mi9, mk9⟩⟩
  let fd_Pool_cone : FuncData := PySem.W.fnOf "cone" "Pool.cone" (defArgs s_Pool_cone) (defBody s_Pool_cone) (defScope s_Pool_cone) .none mkV10 mdc10 mpm10 man10 mcd10 mct10
  have D_Pool_cone : DefM K C "cone" "Pool.cone" ["self", "literals", "seen"] s_Pool_cone mf10 fd_Pool_cone := ⟨fun_mk (st := s_Pool_cone) ml10 mc10 mk10, (fun_mk (st := s_Pool_cone) ml10 mc10 mk10).binds (ps := ["self", "literals", "seen"]) fun _ _ _ _ _ _ us hl => match us, hl with | [_, _, _], _ => rfl, ⟨ma10, mi10, mk10⟩⟩
  have PK : PlK K C := ⟨⟨pg, hd, po, sa⟩, nG, nL⟩
  have mC := PySem.W.mg_of X G aC
  cases e
  exact ⟨fd_law, fun s v => .of_eq rfl, fun base _ _ => by
    have o_literal_of := ok_literal_of (P := l.prog) (w := w) (base := base) T PK D_Pool_literal_of
    have o_bg := ok_both_gate (P := l.prog) (w := w) (base := base) T D_both_gate
    have o_bit := ok_bit (P := l.prog) (w := w) (base := base) T PK D_Pool_bit o_literal_of
    have o_both := ok_both (P := l.prog) (w := w) (base := base) T PK C_NO C_YES D_Pool_both o_literal_of o_bg
    have o_either := ok_either (P := l.prog) (w := w) (base := base) T PK D_Pool_either o_both
    have o_unlike := ok_unlike (P := l.prog) (w := w) (base := base) T PK C_NO D_Pool_unlike o_literal_of
    have o_chosen := ok_chosen (P := l.prog) (w := w) (base := base) T PK C_NO C_YES D_Pool_chosen o_literal_of o_both o_either o_unlike
    have o_gv := ok_gate_value (P := l.prog) (w := w) (base := base) T D_gate_value
    have o_cone := ok_cone (P := l.prog) (w := w) (base := base) T PK D_Pool_cone
    have o_comp := ok_computed (P := l.prog) (w := w) (base := base) T PK D_Pool_computed o_cone o_gv
    have o_values := ok_values (P := l.prog) (w := w) (base := base) T PK D_Pool_values o_comp
    have o_value := ok_value (P := l.prog) (w := w) (base := base) T PK D_Pool_value o_comp
    have o_pool := ok_Pool (P := l.prog) (w := w) (base := base) PK D_Pool___init__ MC mC
    have l_draw := ok__law_draw (P := l.prog) (w := w) (base := base) T D__law_draw
    have l_take := ok__law_take (P := l.prog) (w := w) (base := base) T D__law_take
    have l_names := ok__law_names (P := l.prog) (w := w) (base := base) T D__law_names
    have l_some := ok__law_some (P := l.prog) (w := w) (base := base) T D__law_some l_take
    have l_more := ok__law_more (P := l.prog) (w := w) (base := base) T PK D__law_more l_take l_some l_names o_both o_either o_unlike o_chosen o_bit
    have l_values := ok__law_values (P := l.prog) (w := w) (base := base) T D__law_values
    have l_right := ok__law_right (P := l.prog) (w := w) (base := base) T PK D__law_right l_take l_values l_names o_values o_value
    exact ok_law T PK C_NO C_YES D_law l_draw l_take o_pool l_names o_bit l_more l_right⟩
theorem walk {l : PySem.W.OpenLaw} {q : Program} {loose : List Str} {XP : (Str → Option Value) → Heap → Prop} {YP : World → Heap → Prop} {d : DefRec} {K : Params → PySem.W.Frag} (hn : l.most = some 63) (hdf : d.params.defaults = [])
    (hY : ∀ (w : World) (h : Heap), YP w h → (K w.params).In h)
    (F : ∀ (w : World) (mg : Str → Option Value) (fa : Addr) (h : Heap), (K w.params).In h → h.Ns mainGlobals mg → mg d.name = some (.ref fa) →
      ∃ fd : FuncData, (∀ (s : Shared) (u : Value), BindsTo s fd ⟨[u], []⟩ [("script", u)]) ∧ ∀ base : Heap, (K w.params).In base → base.Ns mainGlobals mg → FnOk l.prog w (K w.params) mg base CX0 6 fa fd ["script"] (spLaw (K w.params))) :
    PySem.W.WalkO q loose XP YP l.row.toRowW d [] (fun f vs => PySem.call f vs) :=
  L2.walk_of (n := 63) (k := 6) (x := "script") (CX := fun _ => CX0) (sp := fun w => spLaw (K w.params)) hn (by decide) hdf ⟨rfl, by decide, by decide⟩ hY F (fun _ _ a ns hl _ hS => ⟨a, ns, rfl, hS, hl, fun _ => rfl⟩) fun _ _ _ _ _ z => z
end My

open PySem PySem.W PyProof.Rows in
set_option maxRecDepth 100000 in
set_option maxHeartbeats 0 in
theorem PySem.Challenge.cw_inputways_k30_circuits_and_their_bits_holds : PySem.Challenge.rw_inputways_k30_circuits_and_their_bits.Holds := by
  w_on; o_law; k_head; (case hw => w_witness2)
  k_fill
  refine My.walk (l := PySem.Challenge.rw_inputways_k30_circuits_and_their_bits) rfl rfl (fun w h Y => PySem.W.kIn_of Y) ?F
  case F =>
    intro w mg fa h KX G hmg
    refine' My.all_mk KX G hmg ?a0 ?l0 ?c0 ?k0 ?a1 ?l1 ?c1 ?k1 ?a2 ?l2 ?c2 ?k2 ?a3 ?l3 ?c3 ?k3 ?a4 ?l4 ?c4 ?k4 ?a5 ?l5 ?c5 ?k5 ?a6 ?l6 ?c6 ?k6 ?a7 ?l7 ?c7 ?k7 ?a8 ?l8 ?c8 ?k8 ?a9 ?l9 ?c9 ?k9 ?i_NO ?i_YES ?aC ?ma0 ?mi0 ?ml0 ?mc0 ?mk0 ?ma1 ?mi1 ?ml1 ?mc1 ?mk1 ?ma2 ?mi2 ?ml2 ?mc2 ?mk2 ?ma3 ?mi3 ?ml3 ?mc3 ?mk3 ?ma4 ?mi4 ?ml4 ?mc4 ?mk4 ?ma5 ?mi5 ?ml5 ?mc5 ?mk5 ?ma6 ?mi6 ?ml6 ?mc6 ?mk6 ?ma7 ?mi7 ?ml7 ?mc7 ?mk7 ?ma8 ?mi8 ?ml8 ?mc8 ?mk8 ?ma9 ?mi9 ?ml9 ?mc9 ?mk9 ?ma10 ?mi10 ?ml10 ?mc10 ?mk10 ?pg ?hd ?po ?sa ?mk ?kc ?nG ?nL ?z_abs ?z_bool ?z_int ?z_isinstance ?z_len ?z_list ?z_max ?z_min ?z_range ?z_sorted ?z_sum
    (case a0 => k_is)
    (case l0 => k_is)
    (case c0 => k_is)
    (case k0 => k_is)
    (case a1 => k_is)
    (case l1 => k_is)
    (case c1 => k_is)
    (case k1 => k_is)
    (case a2 => k_is)
    (case l2 => k_is)
    (case c2 => k_is)
    (case k2 => k_is)
    (case a3 => k_is)
    (case l3 => k_is)
    (case c3 => k_is)
    (case k3 => k_is)
    (case a4 => k_is)
    (case l4 => k_is)
    (case c4 => k_is)
    (case k4 => k_is)
    (case a5 => k_is)
    (case l5 => k_is)
    (case c5 => k_is)
    (case k5 => k_is)
    (case a6 => k_is)
    (case l6 => k_is)
    (case c6 => k_is)
    (case k6 => k_is)
    (case a7 => k_is)
    (case l7 => k_is)
    (case c7 => k_is)
    (case k7 => k_is)
    (case a8 => k_is)
    (case l8 => k_is)
    (case c8 => k_is)
    (case k8 => k_is)
    (case a9 => k_is)
    (case l9 => k_is)
    (case c9 => k_is)
    (case k9 => k_is)
    (case i_NO => k_is)
    (case i_YES => k_is)
    (case aC => k_is)
    (case ma0 => k_is)
    (case mi0 => k_is)
    (case ml0 => k_is)
    (case mc0 => k_is)
    (case mk0 => k_is)
    (case ma1 => k_is)
    (case mi1 => k_is)
    (case ml1 => k_is)
    (case mc1 => k_is)
    (case mk1 => k_is)
    (case ma2 => k_is)
    (case mi2 => k_is)
    (case ml2 => k_is)
    (case mc2 => k_is)
    (case mk2 => k_is)
    (case ma3 => k_is)
    (case mi3 => k_is)
    (case ml3 => k_is)
    (case mc3 => k_is)
    (case mk3 => k_is)
    (case ma4 => k_is)
    (case mi4 => k_is)
    (case ml4 => k_is)
    (case mc4 => k_is)
    (case mk4 => k_is)
    (case ma5 => k_is)
    (case mi5 => k_is)
    (case ml5 => k_is)
    (case mc5 => k_is)
    (case mk5 => k_is)
    (case ma6 => k_is)
    (case mi6 => k_is)
    (case ml6 => k_is)
    (case mc6 => k_is)
    (case mk6 => k_is)
    (case ma7 => k_is)
    (case mi7 => k_is)
    (case ml7 => k_is)
    (case mc7 => k_is)
    (case mk7 => k_is)
    (case ma8 => k_is)
    (case mi8 => k_is)
    (case ml8 => k_is)
    (case mc8 => k_is)
    (case mk8 => k_is)
    (case ma9 => k_is)
    (case mi9 => k_is)
    (case ml9 => k_is)
    (case mc9 => k_is)
    (case mk9 => k_is)
    (case ma10 => k_is)
    (case mi10 => k_is)
    (case ml10 => k_is)
    (case mc10 => k_is)
    (case mk10 => k_is)
    (case pg => k_is)
    (case hd => k_is)
    (case po => k_is)
    (case sa => k_is)
    (case mk => k_is)
    (case kc => k_is)
    (case nG => k_is)
    (case nL => k_is)
    (case z_abs => k_is)
    (case z_bool => k_is)
    (case z_int => k_is)
    (case z_isinstance => k_is)
    (case z_len => k_is)
    (case z_list => k_is)
    (case z_max => k_is)
    (case z_min => k_is)
    (case z_range => k_is)
    (case z_sorted => k_is)
    (case z_sum => k_is)
