import PyProof.Rows.All
import Wide.All
import OpenK.AllK
import Wide.FinOn
import HandS.Base
import HandS.Call
import HandS.List
import HandS.Comp
import HandS.Ends
import HandS.Dict
import HandS.Words
import HandS.IsInst
import HandS.Codes
import HandS.Text
import PyProof.Rows.BitMore
import PySem.Challenge.RW_inputways_k00_words
set_option Elab.async false
set_option maxRecDepth 100000
namespace M00
open PySem PyProof.Rows

theorem nat_and_mask (a n : Nat) : a &&& (2 ^ n - 1) = a % 2 ^ n := Nat.and_two_pow_sub_one_eq_mod a n

/-- & with a mask is the rest, for ints of either sign -/
theorem and_mask (x : Int) (n : Nat) : Builtin.bitAnd x (2 ^ n - 1) = x % 2 ^ n := by
  have hp : (0 : Int) < 2 ^ n := by exact_mod_cast Nat.two_pow_pos n
  have hm : (0 : Int) ≤ 2 ^ n - 1 := by omega
  have hmt : ((2 : Int) ^ n - 1).toNat = 2 ^ n - 1 := by
    have h1 : ((2 : Int) ^ n) = ((2 ^ n : Nat) : Int) := by norm_cast
    rw [h1]
    have := Nat.two_pow_pos n
    omega
  by_cases hx : 0 ≤ x
  · rw [bitAnd_pp hx hm, hmt, nat_and_mask]
    have e : x = ((x.toNat : Nat) : Int) := by omega
    have h1 : ((2 : Int) ^ n) = ((2 ^ n : Nat) : Int) := by norm_cast
    rw [h1]
    conv => rhs; rw [e]
    norm_cast
  · rw [bitAnd_np hx hm, hmt, Nat.and_comm, nat_and_mask]
    have h1 : ((2 : Int) ^ n) = ((2 ^ n : Nat) : Int) := by norm_cast
    have hk : Builtin.bitNot x = -x - 1 := rfl
    rw [hk]
    generalize hN : 2 ^ n = N at *
    have hNp : 0 < N := by omega
    rw [h1]
    -- x = -(y) - 1, y natural
    obtain ⟨y, hy⟩ : ∃ y : Nat, -x - 1 = (y : Int) := ⟨(-x - 1).toNat, by omega⟩
    rw [hy, Int.toNat_natCast]
    have ex : x = -(y : Int) - 1 := by omega
    rw [ex]
    have hyd := Nat.div_add_mod y N
    have hyl := Nat.mod_lt y hNp
    have e2 : -(y : Int) - 1 = ((N : Int) - 1 - ((y % N : Nat) : Int)) + (N : Int) * (-((y / N : Nat) : Int) - 1) := by
      have : (y : Int) = (N : Int) * ((y / N : Nat) : Int) + ((y % N : Nat) : Int) := by exact_mod_cast hyd.symm
      rw [Int.mul_sub, Int.mul_neg]
      omega
    rw [e2, Int.add_mul_emod_self_left]
    rw [Int.emod_eq_of_lt (by omega) (by omega)]

theorem pow_pos' (n : Nat) : (0 : Int) < 2 ^ n := by exact_mod_cast Nat.two_pow_pos n
theorem pow_cast (n : Nat) : ((2 ^ n : Nat) : Int) = 2 ^ n := by norm_cast
theorem pow_lt (n : Nat) (h : n ≤ 16) : (2 : Int) ^ n ≤ 65536 := by
  have h2 : (2 : Nat) ^ n ≤ 2 ^ 16 := Nat.pow_le_pow_right (by decide) h
  have h3 := pow_cast n
  rw [← h3]
  exact Int.ofNat_le.mpr h2

/-- x ^ top = top - x -/
theorem xor_top (x : Int) (n : Nat) (h0 : 0 ≤ x) (h1 : x < 2 ^ n) : Builtin.bitXor x (2 ^ n - 1) = 2 ^ n - 1 - x := by
  unfold Builtin.bitXor
  rw [bitOr_and, and_mask, Int.emod_eq_of_lt h0 h1]
  omega

/-! ### the word that an op gives -/
def val (op : Str) (n : Nat) (x y : Int) : Int :=
  if op = "add" then (x + y) % 2 ^ n
  else if op = "sub" then (x - y) % 2 ^ n
  else if op = "mul" then (x * y) % 2 ^ n
  else if op = "and" then ((x.toNat &&& y.toNat : Nat) : Int)
  else if op = "or" then ((x.toNat ||| y.toNat : Nat) : Int)
  else if op = "xor" then ((x.toNat ^^^ y.toNat : Nat) : Int)
  else if op = "shl" then (if y < n then (x * 2 ^ y.toNat) % 2 ^ n else 0)
  else if op = "shr" then (if y < n then x / 2 ^ y.toNat else 0)
  else if op = "less" then (if x < y then 1 else 0)
  else if op = "equal" then (if x = y then 1 else 0)
  else if op = "not" then 2 ^ n - 1 - x
  else (0 - x) % 2 ^ n

/-! ### bits -/
theorem bit_nat (z k : Nat) : z % 2 ^ (k + 1) = z % 2 ^ k + (z / 2 ^ k % 2) * 2 ^ k := by
  rw [Nat.pow_succ, Nat.mod_mul]
  rw [Nat.mul_comm (2 ^ k)]
theorem land_bit (x y k : Nat) : (x &&& y) / 2 ^ k % 2 = (x / 2 ^ k % 2) * (y / 2 ^ k % 2) := by
  have h := Nat.testBit_and x y k
  simp only [Nat.testBit_eq_decide_div_mod_eq] at h
  have a1 := Nat.mod_two_eq_zero_or_one (x / 2 ^ k)
  have a2 := Nat.mod_two_eq_zero_or_one (y / 2 ^ k)
  have a3 := Nat.mod_two_eq_zero_or_one ((x &&& y) / 2 ^ k)
  rcases a1 with a1 | a1 <;> rcases a2 with a2 | a2 <;> rcases a3 with a3 | a3 <;> simp_all
theorem lor_bit (x y k : Nat) : (x ||| y) / 2 ^ k % 2 = max (x / 2 ^ k % 2) (y / 2 ^ k % 2) := by
  have h := Nat.testBit_or x y k
  simp only [Nat.testBit_eq_decide_div_mod_eq] at h
  have a1 := Nat.mod_two_eq_zero_or_one (x / 2 ^ k)
  have a2 := Nat.mod_two_eq_zero_or_one (y / 2 ^ k)
  have a3 := Nat.mod_two_eq_zero_or_one ((x ||| y) / 2 ^ k)
  rcases a1 with a1 | a1 <;> rcases a2 with a2 | a2 <;> rcases a3 with a3 | a3 <;> simp_all
theorem lxor_bit (x y k : Nat) : (x ^^^ y) / 2 ^ k % 2 = if x / 2 ^ k % 2 = y / 2 ^ k % 2 then 0 else 1 := by
  have h := Nat.testBit_xor x y k
  simp only [Nat.testBit_eq_decide_div_mod_eq] at h
  have a1 := Nat.mod_two_eq_zero_or_one (x / 2 ^ k)
  have a2 := Nat.mod_two_eq_zero_or_one (y / 2 ^ k)
  have a3 := Nat.mod_two_eq_zero_or_one ((x ^^^ y) / 2 ^ k)
  rcases a1 with a1 | a1 <;> rcases a2 with a2 | a2 <;> rcases a3 with a3 | a3 <;> simp_all

/-- one more bit of z below place k -/
theorem bit_step (z k : Nat) : ((z % 2 ^ k : Nat) : Int) + ((z / 2 ^ k % 2 : Nat) : Int) * (1 * 2 ^ k) = ((z % 2 ^ (k + 1) : Nat) : Int) := by
  rw [bit_nat, Int.one_mul]
  push_cast
  rfl
theorem fdiv_bit (x : Int) (h : 0 ≤ x) (k : Nat) : (x / (1 * 2 ^ k)) % 2 = ((x.toNat / 2 ^ k % 2 : Nat) : Int) := by
  have e : x = ((x.toNat : Nat) : Int) := by omega
  rw [Int.one_mul]
  conv => lhs; rw [e]
  norm_cast
theorem and_lt (x y n : Nat) (h : x < 2 ^ n) : x &&& y < 2 ^ n := Nat.lt_of_le_of_lt Nat.and_le_left h
theorem or_lt (x y n : Nat) (h : x < 2 ^ n) (h2 : y < 2 ^ n) : x ||| y < 2 ^ n := Nat.or_lt_two_pow h h2
theorem xor_lt (x y n : Nat) (h : x < 2 ^ n) (h2 : y < 2 ^ n) : x ^^^ y < 2 ^ n := Nat.xor_lt_two_pow h h2
/-- shifted as often as the smaller of y and n -/
theorem shl_plain (x y : Int) (n : Nat) (hy : 0 ≤ y) : (x * 2 ^ (min y (n : Int)).toNat) % 2 ^ n = if y < n then (x * 2 ^ y.toNat) % 2 ^ n else 0 := by
  by_cases h : y < n
  · rw [if_pos h]
    have : min y (n : Int) = y := by omega
    rw [this]
  · rw [if_neg h]
    have : min y (n : Int) = n := by omega
    rw [this, Int.toNat_natCast]
    exact Int.mul_emod_left _ _
theorem shr_plain (x y : Int) (n : Nat) (h0 : 0 ≤ x) (h1 : x < 2 ^ n) (hy : 0 ≤ y) : (x / 2 ^ (min y (n : Int)).toNat) % 2 ^ n = if y < n then x / 2 ^ y.toNat else 0 := by
  by_cases h : y < n
  · rw [if_pos h]
    have : min y (n : Int) = y := by omega
    rw [this]
    have hp := pow_pos' y.toNat
    refine Int.emod_eq_of_lt (Int.ediv_nonneg h0 (by omega)) ?_
    exact Int.lt_of_le_of_lt (Int.ediv_le_self _ h0) h1
  · rw [if_neg h]
    have : min y (n : Int) = n := by omega
    rw [this, Int.toNat_natCast, Int.ediv_eq_zero_of_lt h0 h1]
    rfl
theorem mul_step (x : Int) (k : Nat) : x * 2 ^ k * 2 = x * 2 ^ (k + 1) := by
  rw [Int.pow_succ, Int.mul_assoc]
theorem div_step (x : Int) (k : Nat) : x / 2 ^ k / 2 = x / 2 ^ (k + 1) := by
  rw [Int.pow_succ, Int.ediv_ediv_of_nonneg (Int.le_of_lt (pow_pos' k))]

section
variable (n : Nat) (x y : Int)
theorem val_add : val "add" n x y = (x + y) % 2 ^ n := by unfold val; rw [if_pos rfl]
theorem val_sub : val "sub" n x y = (x - y) % 2 ^ n := by unfold val; rw [if_neg (by decide +kernel), if_pos rfl]
theorem val_mul : val "mul" n x y = (x * y) % 2 ^ n := by unfold val; rw [if_neg (by decide +kernel), if_neg (by decide +kernel), if_pos rfl]
theorem val_and : val "and" n x y = ((x.toNat &&& y.toNat : Nat) : Int) := by unfold val; rw [if_neg (by decide +kernel), if_neg (by decide +kernel), if_neg (by decide +kernel), if_pos rfl]
theorem val_or : val "or" n x y = ((x.toNat ||| y.toNat : Nat) : Int) := by unfold val; rw [if_neg (by decide +kernel), if_neg (by decide +kernel), if_neg (by decide +kernel), if_neg (by decide +kernel), if_pos rfl]
theorem val_xor : val "xor" n x y = ((x.toNat ^^^ y.toNat : Nat) : Int) := by unfold val; rw [if_neg (by decide +kernel), if_neg (by decide +kernel), if_neg (by decide +kernel), if_neg (by decide +kernel), if_neg (by decide +kernel), if_pos rfl]
theorem val_shl : val "shl" n x y = if y < n then (x * 2 ^ y.toNat) % 2 ^ n else 0 := by unfold val; rw [if_neg (by decide +kernel), if_neg (by decide +kernel), if_neg (by decide +kernel), if_neg (by decide +kernel), if_neg (by decide +kernel), if_neg (by decide +kernel), if_pos rfl]
theorem val_shr : val "shr" n x y = if y < n then x / 2 ^ y.toNat else 0 := by unfold val; rw [if_neg (by decide +kernel), if_neg (by decide +kernel), if_neg (by decide +kernel), if_neg (by decide +kernel), if_neg (by decide +kernel), if_neg (by decide +kernel), if_neg (by decide +kernel), if_pos rfl]
theorem val_less : val "less" n x y = if x < y then 1 else 0 := by unfold val; rw [if_neg (by decide +kernel), if_neg (by decide +kernel), if_neg (by decide +kernel), if_neg (by decide +kernel), if_neg (by decide +kernel), if_neg (by decide +kernel), if_neg (by decide +kernel), if_neg (by decide +kernel), if_pos rfl]
theorem val_equal : val "equal" n x y = if x = y then 1 else 0 := by unfold val; rw [if_neg (by decide +kernel), if_neg (by decide +kernel), if_neg (by decide +kernel), if_neg (by decide +kernel), if_neg (by decide +kernel), if_neg (by decide +kernel), if_neg (by decide +kernel), if_neg (by decide +kernel), if_neg (by decide +kernel), if_pos rfl]
theorem val_not : val "not" n x y = 2 ^ n - 1 - x := by unfold val; rw [if_neg (by decide +kernel), if_neg (by decide +kernel), if_neg (by decide +kernel), if_neg (by decide +kernel), if_neg (by decide +kernel), if_neg (by decide +kernel), if_neg (by decide +kernel), if_neg (by decide +kernel), if_neg (by decide +kernel), if_neg (by decide +kernel), if_pos rfl]
theorem val_neg : val "neg" n x y = (0 - x) % 2 ^ n := by unfold val; rw [if_neg (by decide +kernel), if_neg (by decide +kernel), if_neg (by decide +kernel), if_neg (by decide +kernel), if_neg (by decide +kernel), if_neg (by decide +kernel), if_neg (by decide +kernel), if_neg (by decide +kernel), if_neg (by decide +kernel), if_neg (by decide +kernel), if_neg (by decide +kernel)]
end
def zz (op : Str) (x y : Int) : Nat := if op = "and" then x.toNat &&& y.toNat else if op = "or" then x.toNat ||| y.toNat else x.toNat ^^^ y.toNat
theorem zz_and (x y : Int) : zz "and" x y = x.toNat &&& y.toNat := if_pos rfl
theorem zz_or (x y : Int) : zz "or" x y = x.toNat ||| y.toNat := by unfold zz; rw [if_neg (by decide +kernel), if_pos rfl]
theorem zz_xor (x y : Int) : zz "xor" x y = x.toNat ^^^ y.toNat := by unfold zz; rw [if_neg (by decide +kernel), if_neg (by decide +kernel)]
theorem zz_val {op : Str} {n : Nat} {x y : Int} (h : op = "and" ∨ op = "or" ∨ op = "xor") (x0 : 0 ≤ x) (x1 : x < 2 ^ n) (y0 : 0 ≤ y) (y1 : y < 2 ^ n) : (((zz op x y % 2 ^ n : Nat) : Int)) % 2 ^ n = val op n x y := by
  have hx : x.toNat < 2 ^ n := by
    have := pow_cast n
    omega
  have hy : y.toNat < 2 ^ n := by
    have := pow_cast n
    omega
  have hz : zz op x y < 2 ^ n ∧ ((zz op x y : Nat) : Int) = val op n x y := by
    rcases h with h | h | h <;> subst h
    · rw [zz_and, val_and]; exact ⟨and_lt _ _ _ hx, rfl⟩
    · rw [zz_or, val_or]; exact ⟨or_lt _ _ _ hx hy, rfl⟩
    · rw [zz_xor, val_xor]; exact ⟨xor_lt _ _ _ hx hy, rfl⟩
  rw [Nat.mod_eq_of_lt hz.1, ← hz.2, ← pow_cast]
  exact Int.emod_eq_of_lt (by omega) (by exact_mod_cast hz.1)
theorem zz_bit_and (x y : Int) (i : Nat) : ((x.toNat / 2 ^ i % 2 : Nat) : Int) * ((y.toNat / 2 ^ i % 2 : Nat) : Int) = ((zz "and" x y / 2 ^ i % 2 : Nat) : Int) := by
  rw [zz_and, land_bit]
  norm_cast
theorem zz_bit_or (x y : Int) (i : Nat) : (if ((y.toNat / 2 ^ i % 2 : Nat) : Int) > ((x.toNat / 2 ^ i % 2 : Nat) : Int) then ((y.toNat / 2 ^ i % 2 : Nat) : Int) else ((x.toNat / 2 ^ i % 2 : Nat) : Int)) = ((zz "or" x y / 2 ^ i % 2 : Nat) : Int) := by
  rw [zz_or, lor_bit]
  generalize x.toNat / 2 ^ i % 2 = a
  generalize y.toNat / 2 ^ i % 2 = b
  by_cases h : (b : Int) > (a : Int)
  · rw [if_pos h, Nat.max_def, if_pos (by omega)]
  · rw [if_neg h, Nat.max_def]
    by_cases h2 : a ≤ b
    · rw [if_pos h2]
      omega
    · rw [if_neg h2]
theorem zz_bit_xor (x y : Int) (i : Nat) : (if ((x.toNat / 2 ^ i % 2 : Nat) : Int) = ((y.toNat / 2 ^ i % 2 : Nat) : Int) then 0 else 1 : Int) = ((zz "xor" x y / 2 ^ i % 2 : Nat) : Int) := by
  rw [zz_xor, lxor_bit]
  generalize x.toNat / 2 ^ i % 2 = a
  generalize y.toNat / 2 ^ i % 2 = b
  by_cases h : a = b
  · rw [if_pos (by omega), if_pos h]; rfl
  · rw [if_neg (by omega), if_neg h]; rfl
def ops : List Str := ["add", "sub", "mul", "and", "or", "xor", "shl", "shr", "less", "equal", "not", "neg"]
/-- what no other test has found is equal, is neg -/
theorem last_equal {op : Str} (h : op ∈ ops) (a : op ≠ "not") (b : op ≠ "neg") (c : op ≠ "add") (d : op ≠ "sub") (e : op ≠ "mul") (f : op ≠ "and") (g : op ≠ "or") (i : op ≠ "xor") (j : op ≠ "shl") (k : op ≠ "shr") (l : op ≠ "less") : op = "equal" := by
  simp only [ops, List.mem_cons, List.mem_nil_iff, or_false] at h
  rcases h with h | h | h | h | h | h | h | h | h | h | h | h <;> first | exact h | exact absurd h (by assumption)
theorem last_neg {op : Str} (h : op ∈ ops) (a : op ≠ "not") (b : op ≠ "equal") (c : op ≠ "add") (d : op ≠ "sub") (e : op ≠ "mul") (f : op ≠ "and") (g : op ≠ "or") (i : op ≠ "xor") (j : op ≠ "shl") (k : op ≠ "shr") (l : op ≠ "less") : op = "neg" := by
  simp only [ops, List.mem_cons, List.mem_nil_iff, or_false] at h
  rcases h with h | h | h | h | h | h | h | h | h | h | h | h <;> first | exact h | exact absurd h (by assumption)

/-- what min of two ints prints, as min -/
theorem min_if (a b : Int) : (if b < a then b else a) = min a b := by
  rw [Int.min_def]
  by_cases h : b < a
  · rw [if_pos h, if_neg (by omega)]
  · rw [if_neg h, if_pos (by omega)]
theorem small_mod {n : Nat} (h : 1 ≤ n) (c : Bool) : (if c = true then 1 else 0 : Int) % 2 ^ n = if c = true then 1 else 0 := by
  have h1 : (2 : Int) ^ 1 ≤ 2 ^ n := by
    have := Nat.pow_le_pow_right (n := 2) (by decide) h
    exact_mod_cast this
  have h2 : (2 : Int) ≤ 2 ^ n := h1
  cases c <;> simp
  exact Int.emod_eq_of_lt (by omega) (by omega)
end M00

set_option Elab.async false
set_option maxRecDepth 100000
set_option maxHeartbeats 4000000
set_option linter.all false
namespace My
open PySem L2
open C8 (pss_cut)
def top (i : Nat) : Stmt := PySem.Challenge.pw_inputways_k00_words.main.body.getD i (.Pass ⟨0, 0, 0, 0⟩)
abbrev s_top : Stmt := top 3
abbrev N_top : List Str := ["w"]
theorem sc_top : FnScope N_top ["w"] (defScope s_top) := ⟨rfl, rfl, rfl, by decide +kernel, rfl, by decide +kernel, by decide +kernel⟩
abbrev s_shifted : Stmt := top 5
abbrev N_shifted : List Str := ["op", "w", "x", "y"]
theorem sc_shifted : FnScope N_shifted ["op", "w", "x", "y"] (defScope s_shifted) := ⟨rfl, rfl, rfl, by decide +kernel, rfl, by decide +kernel, by decide +kernel⟩
abbrev s_compute : Stmt := top 4
abbrev N_compute : List Str := ["op", "w", "x", "y"]
theorem sc_compute : FnScope N_compute ["op", "w", "x", "y"] (defScope s_compute) := ⟨rfl, rfl, rfl, by decide +kernel, rfl, by decide +kernel, by decide +kernel⟩
abbrev s__law_draw : Stmt := top 7
abbrev N__law_draw : List Str := ["script", "seed", "cell"]
theorem sc__law_draw : FnScope N__law_draw ["script"] (defScope s__law_draw) := ⟨rfl, rfl, rfl, by decide +kernel, rfl, by decide +kernel, by decide +kernel⟩
abbrev s__law_take : Stmt := top 8
abbrev N__law_take : List Str := ["draw", "many", "found"]
theorem sc__law_take : FnScope N__law_take ["draw", "many"] (defScope s__law_take) := ⟨rfl, rfl, rfl, by decide +kernel, rfl, by decide +kernel, by decide +kernel⟩
abbrev s__law_top : Stmt := top 9
abbrev N__law_top : List Str := ["w"]
theorem sc__law_top : FnScope N__law_top ["w"] (defScope s__law_top) := ⟨rfl, rfl, rfl, by decide +kernel, rfl, by decide +kernel, by decide +kernel⟩
abbrev s__law_compute : Stmt := top 10
abbrev N__law_compute : List Str := ["op", "w", "x", "y"]
theorem sc__law_compute : FnScope N__law_compute ["op", "w", "x", "y"] (defScope s__law_compute) := ⟨rfl, rfl, rfl, by decide +kernel, rfl, by decide +kernel, by decide +kernel⟩
abbrev s__law_word : Stmt := top 11
abbrev N__law_word : List Str := ["draw", "w"]
theorem sc__law_word : FnScope N__law_word ["draw", "w"] (defScope s__law_word) := ⟨rfl, rfl, rfl, by decide +kernel, rfl, by decide +kernel, by decide +kernel⟩
abbrev s__law_ops : Stmt := top 12
abbrev N__law_ops : List Str := []
theorem sc__law_ops : FnScope N__law_ops [] (defScope s__law_ops) := ⟨rfl, rfl, rfl, by decide +kernel, rfl, by decide +kernel, by decide +kernel⟩
abbrev s__law_plain : Stmt := top 21
abbrev N__law_plain : List Str := ["op", "w", "x", "y", "whole", "found", "k", "a", "b", "bit"]
theorem sc__law_plain : FnScope N__law_plain ["op", "w", "x", "y"] (defScope s__law_plain) := ⟨rfl, rfl, rfl, by decide +kernel, rfl, by decide +kernel, by decide +kernel⟩
abbrev s_law : Stmt := top 22
abbrev N_law : List Str := ["script", "draw", "w", "turn", "x", "y", "op"]
theorem sc_law : FnScope N_law ["script"] (defScope s_law) := ⟨rfl, rfl, rfl, by decide +kernel, rfl, by decide +kernel, by decide +kernel⟩
/-- what the top binds: built-ins that are not shadowed -/
structure Txt (K : PySem.W.Frag) (mg : Str → Option Value) : Prop where
  m_int : mg "int" = none
  m_abs : mg "abs" = none
  m_len : mg "len" = none
  m_min : mg "min" = none
  m_range : mg "range" = none
  m_max : mg "max" = none
  m_isinstance : mg "isinstance" = none
  m_tuple : mg "tuple" = none
  m_list : mg "list" = none
structure Def (K : PySem.W.Frag) (mg : Str → Option Value) (x : Str) (ps : List Str) (st : Stmt) (f : Addr) (fd : FuncData) : Prop where
  fn : Fun K x x st f fd
  mg : mg x = some (.ref f)
  bd : Binds K fd ps []
def Own (P : Program) (w : World) (K : PySem.W.Frag) (mg : Str → Option Value) (base : Heap) (x : Str) (ps : List Str) (k : Nat) (sp : Sp) : Prop :=
  ∃ (f : Addr) (fd : FuncData), mg x = some (.ref f) ∧ PySem.W.keepIn K (.ref f) = true ∧ Binds K fd ps [] ∧ FnOk P w K mg base CX0 k f fd ps sp
/-- a constant of the top: a tuple of these -/
def Con (K : PySem.W.Frag) (mg : Str → Option Value) (x : Str) (xs : List V) : Prop :=
  ∃ (a : Addr) (od : Option Addr) (its : Array Value) (n : Nat) (sl : Array (Option Value)), mg x = some (.ref a) ∧ K.lookup a = some ⟨.type "tuple", od, .seq its n, sl⟩ ∧ its.size ≤ sizeLine ∧ Vals xs its.toList
theorem con_seq {K : PySem.W.Frag} {H : Hp} {a : Addr} {od : Option Addr} {its : Array Value} {n : Nat} {sl : Array (Option Value)} {xs : List V} (l : K.lookup a = some ⟨.type "tuple", od, .seq its n, sl⟩) (s : its.size ≤ sizeLine) (v : Vals xs its.toList) : SqT K H a xs :=
  .inr ⟨_, its, n, l, rfl, rfl, s, v⟩
theorem same_new {H : Hp} {p : Addr} (h : H p = none) (o : HO) : Same H (upd H p o) := fun b u q => by rw [upd_ne (ne_of_none q h)]; exact q
theorem streq {a b : Str} (c : decide (V.str a = V.str b) = true) : a = b := V.str.inj (of_decide_eq_true c)
theorem strne {a b : Str} (c : ¬ decide (V.str a = V.str b) = true) : a ≠ b := fun e => c (by rw [e]; exact decide_eq_true rfl)
/-- the answer is this int -/
theorem toI {Q : V → Hp → Prop} {H : Hp} {a b : Int} (e : a = b) (q : Q (.int b) H) : Q (.int a) H := by rw [e]; exact q

theorem inS {x : Str} : ∀ {xs : List Str}, inV (.str x) (xs.map V.str) = decide (x ∈ xs)
  | [] => by simp [inV]
  | y :: ys => by
    have ih := inS (x := x) (xs := ys)
    unfold inV at ih ⊢
    rw [List.map_cons, List.any_cons, ih]
    show (y == x || decide (x ∈ ys)) = decide (x ∈ y :: ys)
    by_cases h : y = x
    · subst h
      simp
    · have h' : ¬ x = y := fun e => h e.symm
      simp [h, h']
theorem in2 {x a b : Str} (h : inV (.str x) [.str a, .str b] = true) : x = a ∨ x = b := by
  have e := inS (x := x) (xs := [a, b])
  have h2 : decide (x ∈ [a, b]) = true := e.symm.trans h
  simpa using of_decide_eq_true h2
theorem not2 {x a b : Str} (h : ¬ inV (.str x) [.str a, .str b] = true) : x ≠ a ∧ x ≠ b := by
  have e := inS (x := x) (xs := [a, b])
  have h2 : ¬ decide (x ∈ [a, b]) = true := fun z => h (e.trans z)
  simpa using h2
theorem in3 {x a b c : Str} (h : inV (.str x) [.str a, .str b, .str c] = true) : x = a ∨ x = b ∨ x = c := by
  have e := inS (x := x) (xs := [a, b, c])
  have h2 : decide (x ∈ [a, b, c]) = true := e.symm.trans h
  simpa using of_decide_eq_true h2
theorem not3 {x a b c : Str} (h : ¬ inV (.str x) [.str a, .str b, .str c] = true) : x ≠ a ∧ x ≠ b ∧ x ≠ c := by
  have e := inS (x := x) (xs := [a, b, c])
  have h2 : ¬ decide (x ∈ [a, b, c]) = true := fun z => h (e.trans z)
  simpa using h2

theorem atI_get {ns : List Int} {k : Int} (h0 : 0 ≤ k) (h : k < (ns.length : Int)) : ∃ z : Int, z ∈ ns ∧ atI (ns.map V.int) k = some (.int z) := by
  have hk : k.toNat < ns.length := by omega
  have ek : k = ((k.toNat : Nat) : Int) := by omega
  have q : atI (ns.map V.int) ((k.toNat : Nat) : Int) = some (.int ns[k.toNat]) := atI_nat (by rw [List.getElem?_map, List.getElem?_eq_getElem hk] <;> rfl)
  rw [← ek] at q
  exact ⟨_, List.getElem_mem hk, q⟩
theorem map_at {ns : List Int} {i : Nat} {y : V} (hi : (ns.map V.int)[i]? = some y) : ∃ z, y = V.int z ∧ ns[i]? = some z := by
  rw [List.getElem?_map] at hi
  cases e : ns[i]? with
  | none =>
    rw [e] at hi
    cases hi
  | some z =>
    rw [e] at hi
    exact ⟨z, (Option.some.inj hi).symm, rfl⟩

theorem yes2 {σ : L2.St} {H : Hp} {A B : Hp → Prop} (h : A H) : tYes σ H (fun b H3 => if b = true then A H3 else B H3) := iteT (A := A H) (B := B H) h

/-! ### promises -/
def spTop : Sp := fun vs H Q _ => ∃ n : Nat, vs = [.int n] ∧ n ≤ 1000 ∧ Q (.int (2 ^ n - 1)) H
def spComp : Sp := fun vs H Q _ => ∃ (op : Str) (n : Nat) (x y : Int), vs = [.str op, .int n, .int x, .int y] ∧ op ∈ M00.ops ∧ 1 ≤ n ∧ n ≤ 16 ∧ 0 ≤ x ∧ x < 2 ^ n ∧ 0 ≤ y ∧ y < 2 ^ n ∧
  ∀ H', Same H H' → Q (.int (M00.val op n x y)) H'
def spShift : Sp := fun vs H Q _ => ∃ (op : Str) (n : Nat) (x y : Int), vs = [.str op, .int n, .int x, .int y] ∧ (op = "shl" ∨ op = "shr") ∧ 1 ≤ n ∧ n ≤ 16 ∧ 0 ≤ x ∧ x < 2 ^ n ∧ 0 ≤ y ∧ y < 2 ^ n ∧ Q (.int (M00.val op n x y)) H
/-- a draw at d -/
def DrawAt (H : Hp) (d : Addr) : Prop := ∃ (L : Addr) (ns : List Int) (at_ left seed : Int), H d = some (.lst [.ref L, .int at_, .int left, .int seed]) ∧ H L = some (.lst (ns.map V.int)) ∧ d ≠ L ∧ (∀ z, z ∈ ns → 0 ≤ z) ∧ -1 ≤ at_ ∧ 0 ≤ left ∧ 0 ≤ seed ∧ seed < 2147483647
/-- all but the object at d is as it was -/
def But (d : Addr) (H H' : Hp) : Prop := ∀ b o, H b = some o → b ≠ d → H' b = some o
theorem DrawAt.mono {H H' : Hp} {d : Addr} (h : DrawAt H d) (e : Same H H') : DrawAt H' d := by
  obtain ⟨L, ns, a, l, s, h1, h2, r⟩ := h
  exact ⟨L, ns, a, l, s, e _ _ h1, e _ _ h2, r⟩
def spDraw (K : PySem.W.Frag) : Sp := fun vs H Q _ => ∃ (a : Addr) (ns : List Int), vs = [.ref a] ∧ SqL K H a (ns.map V.int) ∧ ns.length ≤ 63 ∧ ∀ d H', H d = none → Same H H' → DrawAt H' d → Q (.ref d) H'
def spTake : Sp := fun vs H Q _ => ∃ (d : Addr) (m : Int), vs = [.ref d, .int m] ∧ 0 < m ∧ m < 1073741824 ∧ DrawAt H d ∧ ∀ v H', 0 ≤ v → v < m → DrawAt H' d → But d H H' → Q (.int v) H'
def spWord : Sp := fun vs H Q _ => ∃ (d : Addr) (n : Nat), vs = [.ref d, .int n] ∧ n ≤ 16 ∧ DrawAt H d ∧ ∀ v H', 0 ≤ v → v < 2 ^ n → DrawAt H' d → But d H H' → Q (.int v) H'
def opsL : List V := [.str "add", .str "sub", .str "mul", .str "and", .str "or", .str "xor", .str "shl", .str "shr", .str "less", .str "equal"]
def spOps : Sp := fun vs H Q _ => vs = [] ∧ ∀ p H', H p = none → Same H H' → H' p = some (.lst opsL) → Q (.ref p) H'
def spLaw (K : PySem.W.Frag) : Sp := fun vs H Q _ => ∃ (a : Addr) (ns : List Int), vs = [.ref a] ∧ SqL K H a (ns.map V.int) ∧ ns.length ≤ 63 ∧ ∀ H', Q (.bl true) H'

section
variable {P : Program} {w : World} {K : PySem.W.Frag} {mg : Str → Option Value} {base : Heap} {f : Addr} {fd : FuncData}
abbrev OwnTop (P w K mg base) (x : Str) := Own P w K mg base x ["w"] 1 spTop

theorem ok_top (D : Def K mg "top" ["w"] s_top f fd) : Own P w K mg base "top" ["w"] 1 spTop := by
  refine ⟨f, fd, D.mg, D.fn.kp, D.bd, D.fn.ok sc_top (fun vs H Q E h => ?_) (fun cdv A outer s H vs Q E hr h => ?_)⟩
  · obtain ⟨n, rfl, _⟩ := h
    rfl
  · obtain ⟨n, rfl, hn, q⟩ := h
    refine ⟨_, (pss_one (ps_ret (pe_op op_sub (pe_op op_shl pe_int (pv 0)) pe_int))), ?_⟩
    refine ⟨_, rfl, _, _, rfl, rfl, ⟨by omega, by omega, by decide⟩, _, _, rfl, rfl, ?_⟩
    exact toI (by rw [Int.one_mul]; rfl) q
theorem ok__law_top (D : Def K mg "_law_top" ["w"] s__law_top f fd) : Own P w K mg base "_law_top" ["w"] 1 spTop := by
  refine ⟨f, fd, D.mg, D.fn.kp, D.bd, D.fn.ok sc__law_top (fun vs H Q E h => ?_) (fun cdv A outer s H vs Q E hr h => ?_)⟩
  · obtain ⟨n, rfl, _⟩ := h
    rfl
  · obtain ⟨n, rfl, hn, q⟩ := h
    refine ⟨_, (pss_one (ps_ret (pe_op op_sub (pe_op op_shl pe_int (pv 0)) pe_int))), ?_⟩
    refine ⟨_, rfl, _, _, rfl, rfl, ⟨by omega, by omega, by decide⟩, _, _, rfl, rfl, ?_⟩
    exact toI (by rw [Int.one_mul]; rfl) q
theorem ok_shifted (D : Def K mg "shifted" ["op", "w", "x", "y"] s_shifted f fd) (O1 : Own P w K mg base "top" ["w"] 1 spTop) : Own P w K mg base "shifted" ["op", "w", "x", "y"] 2 spShift := by
  obtain ⟨ftop, fdtop, mtop, ktop, btop, Gtop⟩ := O1
  refine ⟨f, fd, D.mg, D.fn.kp, D.bd, D.fn.ok sc_shifted (fun vs H Q E h => ?_) (fun cdv A outer s H vs Q E hr h => ?_)⟩
  · obtain ⟨op, n, x, y, rfl, _⟩ := h
    rfl
  · obtain ⟨op, n, x, y, rfl, hop, n1, n2, x0, x1, y0, y1, q⟩ := h
    refine ⟨_, (pss_cons (ps_if (pt_cmpR op_ge (pv 3) (pv 1) (nomark _)) (pss_one (ps_ret pe_int)) pss_nil)
      (pss_cons (ps_if (pt_cmpR op_eq (pv 0) pe_str (nomark _)) (pss_one (ps_ret (pe_op op_and (pe_op op_shl (pv 2) (pv 3)) (pe_call Gtop (hr.mono (by decide)) rfl mtop ktop btop .nil pass0 (pa_cons (pv 1) pa_nil))))) pss_nil)
      (pss_one (ps_ret (pe_op op_shr (pv 2) (pv 3)))))), ?_⟩
    refine ⟨_, rfl, _, rfl, _, _, rfl, rfl, _, rfl, ite2 (fun c => ?_) (fun c => ?_)⟩
    · have c' : (n : Int) ≤ y := of_decide_eq_true c
      refine toI ?_ q
      rcases hop with e | e
      · rw [e, M00.val_shl, if_neg (by omega)]
      · rw [e, M00.val_shr, if_neg (by omega)]
    · have c' : ¬ (n : Int) ≤ y := fun h => c (decide_eq_true h)
      refine ⟨_, rfl, rfl, _, rfl, ite2 (fun d => ?_) (fun d => ?_)⟩
      · have e := streq d
        have hp := M00.pow_lt n n2
        refine ⟨_, rfl, _, rfl, _, _, rfl, rfl, ⟨y0, by omega, by omega⟩, _, rfl, n, rfl, by omega, _, _, rfl, rfl, ?_⟩
        refine toI ?_ q
        rw [e, M00.val_shl, if_pos (by omega), M00.and_mask]
      · have e := strne d
        refine ⟨_, rfl, _, rfl, _, _, rfl, rfl, y0, ?_⟩
        refine toI ?_ q
        rw [hop.resolve_left e, M00.val_shr, if_pos (by omega)]

theorem ok_compute (T : Txt K mg) (D : Def K mg "compute" ["op", "w", "x", "y"] s_compute f fd) (O1 : Own P w K mg base "top" ["w"] 1 spTop) (O2 : Own P w K mg base "shifted" ["op", "w", "x", "y"] 2 spShift) : Own P w K mg base "compute" ["op", "w", "x", "y"] 3 spComp := by
  obtain ⟨ftop, fdtop, mtop, ktop, btop, Gtop⟩ := O1
  obtain ⟨fshifted, fdshifted, mshifted, kshifted, bshifted, Gshifted⟩ := O2
  refine ⟨f, fd, D.mg, D.fn.kp, D.bd, D.fn.ok sc_compute (fun vs H Q E h => ?_) (fun cdv A outer s H vs Q E hr h => ?_)⟩
  · obtain ⟨op, n, x, y, rfl, _⟩ := h
    rfl
  · obtain ⟨op, n, x, y, rfl, hop, n1, n2, x0, x1, y0, y1, q⟩ := h
    have hp := M00.pow_lt n n2
    have q0 := q H (Same.refl H)
    refine ⟨_, (pss_cons (ps_if (pt_cmpR op_eq (pv 0) pe_str (nomark _)) (pss_one (ps_ret (pe_op op_xor (pv 2) (pe_call Gtop (hr.mono (by decide)) rfl mtop ktop btop .nil pass0 (pa_cons (pv 1) pa_nil))))) pss_nil)
      (pss_cons (ps_if (pt_cmpR op_eq (pv 0) pe_str (nomark _)) (pss_one (ps_ret (pe_op op_and (pe_op op_sub pe_int (pv 2)) (pe_call Gtop (hr.mono (by decide)) rfl mtop ktop btop .nil pass0 (pa_cons (pv 1) pa_nil))))) pss_nil)
      (pss_cons (ps_if (pt_cmpR op_eq (pv 0) pe_str (nomark _)) (pss_one (ps_ret (pe_op op_and (pe_op op_add (pv 2) (pv 3)) (pe_call Gtop (hr.mono (by decide)) rfl mtop ktop btop .nil pass0 (pa_cons (pv 1) pa_nil))))) pss_nil)
      (pss_cons (ps_if (pt_cmpR op_eq (pv 0) pe_str (nomark _)) (pss_one (ps_ret (pe_op op_and (pe_op op_sub (pv 2) (pv 3)) (pe_call Gtop (hr.mono (by decide)) rfl mtop ktop btop .nil pass0 (pa_cons (pv 1) pa_nil))))) pss_nil)
      (pss_cons (ps_if (pt_cmpR op_eq (pv 0) pe_str (nomark _)) (pss_one (ps_ret (pe_op op_and (pe_op op_mul (pv 2) (pv 3)) (pe_call Gtop (hr.mono (by decide)) rfl mtop ktop btop .nil pass0 (pa_cons (pv 1) pa_nil))))) pss_nil)
      (pss_cons (ps_if (pt_cmpR op_eq (pv 0) pe_str (nomark _)) (pss_one (ps_ret (pe_op op_and (pv 2) (pv 3)))) pss_nil)
      (pss_cons (ps_if (pt_cmpR op_eq (pv 0) pe_str (nomark _)) (pss_one (ps_ret (pe_op op_or (pv 2) (pv 3)))) pss_nil)
      (pss_cons (ps_if (pt_cmpR op_eq (pv 0) pe_str (nomark _)) (pss_one (ps_ret (pe_op op_xor (pv 2) (pv 3)))) pss_nil)
      (pss_cons (ps_if (pt_cmpR op_in_seq (pv 0) (pe_tup (pa_cons pe_str (pa_cons pe_str pa_nil))) (by rfl)) (pss_one (ps_ret (pe_call Gshifted (hr.mono (by decide)) rfl mshifted kshifted bshifted .nil pass0 (pa_cons (pv 0) (pa_cons (pv 1) (pa_cons (pv 2) (pa_cons (pv 3) pa_nil))))))) pss_nil)
      (pss_cons (ps_if (pt_cmpR op_eq (pv 0) pe_str (nomark _)) (pss_one (ps_ret (pe_ifExp (pt_cmpR op_lt (pv 2) (pv 3) (nomark _)) pe_int pe_int))) pss_nil)
      (pss_one (ps_ret (pe_ifExp (pt_cmpR op_eq (pv 2) (pv 3) (nomark _)) pe_int pe_int))))))))))))), ?_⟩
    refine ⟨_, rfl, rfl, _, rfl, ite2 (fun c => ?_) (fun d1 => ?_)⟩
    · refine ⟨_, rfl, _, rfl, n, rfl, by omega, _, _, rfl, rfl, toI ?_ q0⟩
      rw [streq c, M00.val_not, M00.xor_top x n x0 x1]
    refine ⟨_, rfl, rfl, _, rfl, ite2 (fun c => ?_) (fun d2 => ?_)⟩
    · refine ⟨_, rfl, _, _, rfl, rfl, _, rfl, n, rfl, by omega, _, _, rfl, rfl, toI ?_ q0⟩
      rw [streq c, M00.val_neg, M00.and_mask]
    refine ⟨_, rfl, rfl, _, rfl, ite2 (fun c => ?_) (fun d3 => ?_)⟩
    · refine ⟨_, rfl, _, rfl, _, _, rfl, rfl, _, rfl, n, rfl, by omega, _, _, rfl, rfl, toI ?_ q0⟩
      rw [streq c, M00.val_add, M00.and_mask]
    refine ⟨_, rfl, rfl, _, rfl, ite2 (fun c => ?_) (fun d4 => ?_)⟩
    · refine ⟨_, rfl, _, rfl, _, _, rfl, rfl, _, rfl, n, rfl, by omega, _, _, rfl, rfl, toI ?_ q0⟩
      rw [streq c, M00.val_sub, M00.and_mask]
    refine ⟨_, rfl, rfl, _, rfl, ite2 (fun c => ?_) (fun d5 => ?_)⟩
    · refine ⟨_, rfl, _, rfl, _, _, rfl, rfl, .inl ⟨by omega, by omega⟩, _, rfl, n, rfl, by omega, _, _, rfl, rfl, toI ?_ q0⟩
      rw [streq c, M00.val_mul, M00.and_mask]
    refine ⟨_, rfl, rfl, _, rfl, ite2 (fun c => ?_) (fun d6 => ?_)⟩
    · refine ⟨_, rfl, _, rfl, _, _, rfl, rfl, toI ?_ q0⟩
      rw [streq c, M00.val_and, PyProof.Rows.bitAnd_pp x0 y0]
    refine ⟨_, rfl, rfl, _, rfl, ite2 (fun c => ?_) (fun d7 => ?_)⟩
    · refine ⟨_, rfl, _, rfl, _, _, rfl, rfl, toI ?_ q0⟩
      rw [streq c, M00.val_or, Bits.bitOr_pp x0 y0]
    refine ⟨_, rfl, rfl, _, rfl, ite2 (fun c => ?_) (fun d8 => ?_)⟩
    · refine ⟨_, rfl, _, rfl, _, _, rfl, rfl, toI ?_ q0⟩
      rw [streq c, M00.val_xor, Bits.bitXor_pp x0 y0]
    -- op in ('shl', 'shr')
    refine ⟨_, rfl, by show 2 ≤ sizeLine; decide, fun p hp0 => ?_⟩
    have sp := same_new hp0 (.tup [.str "shl", .str "shr"])
    refine ⟨p, _, rfl, .inr (SqT.of upd_same), rfl, rfl, _, rfl, ite2 (fun c => ?_) (fun d9 => ?_)⟩
    · have hs : op = "shl" ∨ op = "shr" := in2 c
      exact ⟨_, rfl, _, rfl, _, rfl, _, rfl, op, n, x, y, rfl, hs, n1, n2, x0, x1, y0, y1, q _ sp⟩
    refine ⟨_, rfl, rfl, _, rfl, ite2 (fun c => ?_) (fun d10 => ?_)⟩
    · refine ⟨_, rfl, _, rfl, _, _, rfl, rfl, _, rfl, ite2 (fun e => ?_) (fun e => ?_)⟩
      · refine toI ?_ (q _ sp)
        rw [streq c, M00.val_less, if_pos (of_decide_eq_true e)]
      · refine toI ?_ (q _ sp)
        rw [streq c, M00.val_less, if_neg (fun h => e (decide_eq_true h))]
    · have hs : op ≠ "shl" ∧ op ≠ "shr" := not2 d9
      have he := M00.last_equal hop (strne d1) (strne d2) (strne d3) (strne d4) (strne d5) (strne d6) (strne d7) (strne d8) hs.1 hs.2 (strne d10)
      refine ⟨_, rfl, _, rfl, rfl, _, rfl, ite2 (fun e => ?_) (fun e => ?_)⟩
      · refine toI ?_ (q _ sp)
        rw [he, M00.val_equal, if_pos (V.int.inj (of_decide_eq_true e))]
      · refine toI ?_ (q _ sp)
        rw [he, M00.val_equal, if_neg (fun h => e (decide_eq_true (congrArg V.int h)))]

theorem ok__law_compute (T : Txt K mg) (D : Def K mg "_law_compute" ["op", "w", "x", "y"] s__law_compute f fd) (O1 : Own P w K mg base "_law_top" ["w"] 1 spTop) : Own P w K mg base "_law_compute" ["op", "w", "x", "y"] 2 spComp := by
  obtain ⟨f_law_top, fd_law_top, m_law_top, k_law_top, b_law_top, G_law_top⟩ := O1
  refine ⟨f, fd, D.mg, D.fn.kp, D.bd, D.fn.ok sc__law_compute (fun vs H Q E h => ?_) (fun cdv A outer s H vs Q E hr h => ?_)⟩
  · obtain ⟨op, n, x, y, rfl, _⟩ := h
    rfl
  · obtain ⟨op, n, x, y, rfl, hop, n1, n2, x0, x1, y0, y1, q⟩ := h
    have hp := M00.pow_lt n n2
    have q0 := q H (Same.refl H)
    refine ⟨_, (pss_cons (ps_if (pt_cmpR op_eq (pv 0) pe_str (nomark _)) (pss_one (ps_ret (pe_op op_and (pe_op op_add (pv 2) (pv 3)) (pe_call G_law_top (hr.mono (by decide)) rfl m_law_top k_law_top b_law_top .nil pass0 (pa_cons (pv 1) pa_nil))))) pss_nil)
      (pss_cons (ps_if (pt_cmpR op_eq (pv 0) pe_str (nomark _)) (pss_one (ps_ret (pe_op op_and (pe_op op_sub (pv 2) (pv 3)) (pe_call G_law_top (hr.mono (by decide)) rfl m_law_top k_law_top b_law_top .nil pass0 (pa_cons (pv 1) pa_nil))))) pss_nil)
      (pss_cons (ps_if (pt_cmpR op_eq (pv 0) pe_str (nomark _)) (pss_one (ps_ret (pe_op op_and (pe_op op_mul (pv 2) (pv 3)) (pe_call G_law_top (hr.mono (by decide)) rfl m_law_top k_law_top b_law_top .nil pass0 (pa_cons (pv 1) pa_nil))))) pss_nil)
      (pss_cons (ps_if (pt_cmpR op_eq (pv 0) pe_str (nomark _)) (pss_one (ps_ret (pe_op op_and (pv 2) (pv 3)))) pss_nil)
      (pss_cons (ps_if (pt_cmpR op_eq (pv 0) pe_str (nomark _)) (pss_one (ps_ret (pe_op op_or (pv 2) (pv 3)))) pss_nil)
      (pss_cons (ps_if (pt_cmpR op_eq (pv 0) pe_str (nomark _)) (pss_one (ps_ret (pe_op op_xor (pv 2) (pv 3)))) pss_nil)
      (pss_cons (ps_if (pt_cmpR op_eq (pv 0) pe_str (nomark _)) (pss_one (ps_ret (pe_ifExp (pt_cmpR op_lt (pv 3) (pv 1) (nomark _)) (pe_op op_and (pe_op op_shl (pv 2) (pe_callB (call_min2 rfl) (by rfl) T.m_min (by decide +kernel) (pa_cons (pv 3) (pa_cons pe_int pa_nil)))) (pe_call G_law_top (hr.mono (by decide)) rfl m_law_top k_law_top b_law_top .nil pass0 (pa_cons (pv 1) pa_nil))) pe_int))) pss_nil)
      (pss_cons (ps_if (pt_cmpR op_eq (pv 0) pe_str (nomark _)) (pss_one (ps_ret (pe_ifExp (pt_cmpR op_lt (pv 3) (pv 1) (nomark _)) (pe_op op_shr (pv 2) (pv 3)) pe_int))) pss_nil)
      (pss_cons (ps_if (pt_cmpR op_eq (pv 0) pe_str (nomark _)) (pss_one (ps_ret (pe_callTy call_int1 (by rfl) T.m_int (by decide +kernel) (pa_cons (pe_cmpR op_lt (pv 2) (pv 3) (nomark _)) pa_nil)))) pss_nil)
      (pss_cons (ps_if (pt_cmpR op_eq (pv 0) pe_str (nomark _)) (pss_one (ps_ret (pe_callTy call_int1 (by rfl) T.m_int (by decide +kernel) (pa_cons (pe_cmpR op_eq (pv 2) (pv 3) (nomark _)) pa_nil)))) pss_nil)
      (pss_cons (ps_if (pt_cmpR op_eq (pv 0) pe_str (nomark _)) (pss_one (ps_ret (pe_op op_sub (pe_call G_law_top (hr.mono (by decide)) rfl m_law_top k_law_top b_law_top .nil pass0 (pa_cons (pv 1) pa_nil)) (pv 2)))) pss_nil)
      (pss_one (ps_ret (pe_op op_and (pe_op op_sub pe_int (pv 2)) (pe_call G_law_top (hr.mono (by decide)) rfl m_law_top k_law_top b_law_top .nil pass0 (pa_cons (pv 1) pa_nil)))))))))))))))), ?_⟩
    refine ⟨_, rfl, rfl, _, rfl, ite2 (fun c => ?_) (fun d3 => ?_)⟩
    · refine ⟨_, rfl, _, rfl, _, _, rfl, rfl, _, rfl, n, rfl, by omega, _, _, rfl, rfl, toI ?_ q0⟩
      rw [streq c, M00.val_add, M00.and_mask]
    refine ⟨_, rfl, rfl, _, rfl, ite2 (fun c => ?_) (fun d4 => ?_)⟩
    · refine ⟨_, rfl, _, rfl, _, _, rfl, rfl, _, rfl, n, rfl, by omega, _, _, rfl, rfl, toI ?_ q0⟩
      rw [streq c, M00.val_sub, M00.and_mask]
    refine ⟨_, rfl, rfl, _, rfl, ite2 (fun c => ?_) (fun d5 => ?_)⟩
    · refine ⟨_, rfl, _, rfl, _, _, rfl, rfl, .inl ⟨by omega, by omega⟩, _, rfl, n, rfl, by omega, _, _, rfl, rfl, toI ?_ q0⟩
      rw [streq c, M00.val_mul, M00.and_mask]
    refine ⟨_, rfl, rfl, _, rfl, ite2 (fun c => ?_) (fun d6 => ?_)⟩
    · refine ⟨_, rfl, _, rfl, _, _, rfl, rfl, toI ?_ q0⟩
      rw [streq c, M00.val_and, PyProof.Rows.bitAnd_pp x0 y0]
    refine ⟨_, rfl, rfl, _, rfl, ite2 (fun c => ?_) (fun d7 => ?_)⟩
    · refine ⟨_, rfl, _, rfl, _, _, rfl, rfl, toI ?_ q0⟩
      rw [streq c, M00.val_or, Bits.bitOr_pp x0 y0]
    refine ⟨_, rfl, rfl, _, rfl, ite2 (fun c => ?_) (fun d8 => ?_)⟩
    · refine ⟨_, rfl, _, rfl, _, _, rfl, rfl, toI ?_ q0⟩
      rw [streq c, M00.val_xor, Bits.bitXor_pp x0 y0]
    refine ⟨_, rfl, rfl, _, rfl, ite2 (fun c => ?_) (fun d9 => ?_)⟩
    · refine ⟨_, rfl, _, rfl, _, _, rfl, rfl, _, rfl, ite2 (fun e => ?_) (fun e => ?_)⟩
      · have e' : y < (n : Int) := of_decide_eq_true e
        refine ⟨_, rfl, _, rfl, _, _, rfl, ?_⟩
        rw [if_neg (by omega)]
        refine ⟨_, _, rfl, rfl, ⟨y0, by omega, by omega⟩, _, rfl, n, rfl, by omega, _, _, rfl, rfl, toI ?_ q0⟩
        rw [streq c, M00.val_shl, if_pos e', M00.and_mask]
      · refine toI ?_ q0
        rw [streq c, M00.val_shl, if_neg (fun h => e (decide_eq_true h))]
    refine ⟨_, rfl, rfl, _, rfl, ite2 (fun c => ?_) (fun d10 => ?_)⟩
    · refine ⟨_, rfl, _, rfl, _, _, rfl, rfl, _, rfl, ite2 (fun e => ?_) (fun e => ?_)⟩
      · have e' : y < (n : Int) := of_decide_eq_true e
        refine ⟨_, rfl, _, rfl, _, _, rfl, rfl, y0, toI ?_ q0⟩
        rw [streq c, M00.val_shr, if_pos e']
      · refine toI ?_ q0
        rw [streq c, M00.val_shr, if_neg (fun h => e (decide_eq_true h))]
    refine ⟨_, rfl, rfl, _, rfl, ite2 (fun c => ?_) (fun d11 => ?_)⟩
    · refine ⟨_, rfl, _, rfl, _, _, rfl, rfl, .inr ⟨_, rfl, toI ?_ q0⟩⟩
      rw [streq c, M00.val_less]
      by_cases h : x < y <;> simp [h]
    refine ⟨_, rfl, rfl, _, rfl, ite2 (fun c => ?_) (fun d12 => ?_)⟩
    · refine ⟨_, rfl, _, rfl, rfl, .inr ⟨_, rfl, toI ?_ q0⟩⟩
      rw [streq c, M00.val_equal]
      by_cases h : x = y <;> simp [h]
    refine ⟨_, rfl, rfl, _, rfl, ite2 (fun c => ?_) (fun d1 => ?_)⟩
    · refine ⟨_, rfl, n, rfl, by omega, _, rfl, _, _, rfl, rfl, toI ?_ q0⟩
      rw [streq c, M00.val_not]
    · have he := M00.last_neg hop (strne d1) (strne d12) (strne d3) (strne d4) (strne d5) (strne d6) (strne d7) (strne d8) (strne d9) (strne d10) (strne d11)
      refine ⟨_, rfl, _, _, rfl, rfl, _, rfl, n, rfl, by omega, _, _, rfl, rfl, toI ?_ q0⟩
      rw [he, M00.val_neg, M00.and_mask]
theorem ok__law_ops (T : Txt K mg) (D : Def K mg "_law_ops" [] s__law_ops f fd) : Own P w K mg base "_law_ops" [] 1 spOps := by
  refine ⟨f, fd, D.mg, D.fn.kp, D.bd, D.fn.ok sc__law_ops (fun vs H Q E h => ?_) (fun cdv A outer s H vs Q E hr h => ?_)⟩
  · obtain ⟨rfl, _⟩ := h
    rfl
  · obtain ⟨rfl, q⟩ := h
    refine ⟨_, (pss_one (ps_ret (pe_lst (pa_cons pe_str (pa_cons pe_str (pa_cons pe_str (pa_cons pe_str (pa_cons pe_str (pa_cons pe_str (pa_cons pe_str (pa_cons pe_str (pa_cons pe_str (pa_cons pe_str pa_nil))))))))))))), ?_⟩
    exact ⟨by show 10 ≤ sizeLine; decide, fun p hp => q p _ hp (same_new hp _) upd_same⟩

theorem But.refl (d : Addr) (H : Hp) : But d H H := fun _ _ h _ => h
theorem But.put {d : Addr} {H H' : Hp} (b : But d H H') (o : HO) : But d H (upd H' d o) := fun c u h hc => by
  rw [upd_ne hc]
  exact b c u h hc
theorem But.trans {d : Addr} {H H' H'' : Hp} (a : But d H H') (b : But d H' H'') : But d H H'' := fun c u h hc => b c u (a c u h hc) hc
theorem But.same {d : Addr} {H H' H'' : Hp} (a : But d H H') (b : Same H' H'') : But d H H'' := fun c u h hc => b c u (a c u h hc)
theorem ok__law_take (T : Txt K mg) (D : Def K mg "_law_take" ["draw", "many"] s__law_take f fd) : Own P w K mg base "_law_take" ["draw", "many"] 1 spTake := by
  refine ⟨f, fd, D.mg, D.fn.kp, D.bd, D.fn.ok sc__law_take (fun vs H Q E h => ?_) (fun cdv A outer s H vs Q E hr h => ?_)⟩
  · obtain ⟨d, m, rfl, _⟩ := h
    rfl
  · obtain ⟨d, m, rfl, hm0, hm1, hD, q⟩ := h
    obtain ⟨L, ns, at_, left, seed, h1, h2, hdL, hpos, ha, hl, hs, hs2⟩ := hD
    refine ⟨_, (pss_cut (ps_if (pt_cmpR op_eq (pe_ix ix_list (pv 0) pe_int (fun _ _ => rfl)) pe_int (nomark _)) (pss_cons (ps_asg (pe_op op_add (pe_ix ix_list (pv 0) pe_int (fun _ _ => rfl)) pe_int) (pg_sub (pv 0) pe_int set_list))
      (pss_cut (ps_if (pt_cmpR op_lt (pe_ix ix_list (pv 0) pe_int (fun _ _ => rfl)) (pe_callB call_len_seq (by rfl) T.m_len (by decide +kernel) (pa_cons (pe_ix ix_list (pv 0) pe_int (fun _ _ => rfl)) pa_nil)) (nomark _)) (pss_one (ps_asg (pe_ix ix_list (pe_ix ix_list (pv 0) pe_int (fun _ _ => rfl)) (pe_ix ix_list (pv 0) pe_int (fun _ _ => rfl)) (fun _ _ => rfl)) (pg_sub (pv 0) pe_int set_list))) pss_nil)
      (pss_one (ps_if (pt_cmpR op_eq (pe_ix ix_list (pv 0) pe_int (fun _ _ => rfl)) pe_int (nomark _)) (pss_cons (ps_asg (pe_op op_mod (pe_callTy call_int1 (by rfl) T.m_int (by decide +kernel) (pa_cons (pe_op op_add (pe_op op_mul (pe_ix ix_list (pv 0) pe_int (fun _ _ => rfl)) pe_int) pe_int) pa_nil)) pe_int) (pg_sub (pv 0) pe_int set_list))
      (pss_one (ps_asg (pe_ix ix_list (pv 0) pe_int (fun _ _ => rfl)) (pg_sub (pv 0) pe_int set_list)))) pss_nil)))) pss_nil)
      (pss_cons (ps_set (i := 2) sc__law_take.nd rfl (Or.inl rfl) (pe_op op_mod (pe_callTy call_int1 (by rfl) T.m_int (by decide +kernel) (pa_cons (pe_ix ix_list (pv 0) pe_int (fun _ _ => rfl)) pa_nil)) (pv 1)))
      (pss_cons (ps_asg (pe_op op_fdiv (pe_ix ix_list (pv 0) pe_int (fun _ _ => rfl)) (pv 1)) (pg_sub (pv 0) pe_int set_list))
      (pss_one (ps_ret (pv 2)))))), ?_⟩
    refine ⟨fun σ' H' => σ' = [some (.ref d), some (.int m), none] ∧ DrawAt H' d ∧ But d H H', ?_, ?_⟩
    · refine ⟨_, rfl, d, _, _, _, rfl, rfl, SqL.of h1, rfl, rfl, _, rfl, ite2 (fun c => ?_) (fun c => ?_)⟩
      · refine ⟨_, rfl, d, _, _, _, rfl, rfl, SqL.of h1, rfl, _, _, rfl, rfl, _, rfl, d, _, _, _, rfl, rfl, h1, rfl, ?_⟩
        refine ⟨fun σ' H' => σ' = [some (.ref d), some (.int m), none] ∧ (∃ l2, 0 ≤ l2 ∧ H' d = some (.lst [.ref L, .int (at_ + 1), .int l2, .int seed])) ∧ H' L = some (.lst (ns.map V.int)) ∧ But d H H', ?_, ?_⟩
        · have g1 : (upd H d (.lst ([.ref L, .int at_, .int left, .int seed].set 1 (.int (at_ + 1))))) L = some (.lst (ns.map V.int)) := by rw [upd_ne hdL.symm]; exact h2
          refine ⟨_, rfl, d, _, _, _, rfl, rfl, SqL.of upd_same, rfl, _, rfl, d, _, _, _, rfl, rfl, SqL.of upd_same, rfl, L, _, rfl, .inl (SqL.of g1), _, _, rfl, rfl, _, rfl, ite2 (fun e => ?_) (fun e => ?_)⟩
          · have e' : at_ + 1 < ((ns.map V.int).length : Int) := of_decide_eq_true e
            rw [List.length_map] at e'
            obtain ⟨z, hz, ez⟩ := atI_get (ns := ns) (k := at_ + 1) (by omega) e'
            refine ⟨_, rfl, d, _, _, _, rfl, rfl, SqL.of upd_same, rfl, _, rfl, d, _, _, _, rfl, rfl, SqL.of upd_same, rfl, L, _, _, _, rfl, rfl, SqL.of g1, ez, _, rfl, d, _, _, _, rfl, rfl, upd_same, rfl, ?_⟩
            exact ⟨rfl, ⟨z, hpos z hz, upd_same⟩, by rw [upd_ne hdL.symm]; exact g1, ((But.refl d H).put _).put _⟩
          · exact ⟨rfl, ⟨left, hl, upd_same⟩, g1, (But.refl d H).put _⟩
        · rintro σ' H' ⟨rfl, ⟨l2, hl2, k1⟩, k2, kb⟩
          refine ⟨_, rfl, d, _, _, _, rfl, rfl, SqL.of k1, rfl, rfl, _, rfl, ite2 (fun e => ?_) (fun e => ?_)⟩
          · refine ⟨_, rfl, d, _, _, _, rfl, rfl, SqL.of k1, rfl, _, _, rfl, rfl, .inl ⟨by omega, by omega⟩, _, _, rfl, rfl, .inl ⟨_, rfl, _, _, rfl, rfl, (by show (0 : Int) < 2147483647; decide), _, rfl, d, _, _, _, rfl, rfl, k1, rfl, ?_⟩⟩
            refine ⟨_, rfl, d, _, _, _, rfl, rfl, SqL.of upd_same, rfl, _, rfl, d, _, _, _, rfl, rfl, upd_same, rfl, ?_⟩
            have p0 : 0 ≤ (seed * 48271 + 11) % 2147483647 := Int.emod_nonneg _ (by decide)
            have p1 : (seed * 48271 + 11) % 2147483647 < 2147483647 := Int.emod_lt_of_pos _ (by decide)
            exact ⟨rfl, ⟨L, ns, at_ + 1, _, _, upd_same, by rw [upd_ne hdL.symm, upd_ne hdL.symm]; exact k2, hdL, hpos, by omega, p0, p0, p1⟩, (kb.put _).put _⟩
          · exact ⟨rfl, ⟨L, ns, at_ + 1, l2, seed, k1, k2, hdL, hpos, by omega, hl2, hs, hs2⟩, kb⟩
      · exact ⟨rfl, ⟨L, ns, at_, left, seed, h1, h2, hdL, hpos, ha, hl, hs, hs2⟩, But.refl d H⟩
    · rintro σ' H' ⟨rfl, ⟨L, ns, at_, left, seed, h1, h2, hdL, hpos, ha, hl, hs, hs2⟩, kb⟩
      refine ⟨_, rfl, d, _, _, _, rfl, rfl, SqL.of h1, rfl, .inl ⟨_, rfl, _, rfl, _, _, rfl, rfl, hm0, ?_⟩⟩
      refine ⟨_, rfl, d, _, _, _, rfl, rfl, SqL.of h1, rfl, _, rfl, _, _, rfl, rfl, ⟨hm0, hm1⟩, _, rfl, d, _, _, _, rfl, rfl, h1, rfl, ?_⟩
      refine ⟨_, rfl, ?_⟩
      exact q _ _ (Int.emod_nonneg _ (by omega)) (Int.emod_lt_of_pos _ hm0) ⟨L, ns, at_, _, seed, upd_same, by rw [upd_ne hdL.symm]; exact h2, hdL, hpos, ha, Int.ediv_nonneg hl (by omega), hs, hs2⟩ (kb.put _)
theorem ok__law_draw (T : Txt K mg) (D : Def K mg "_law_draw" ["script"] s__law_draw f fd) : Own P w K mg base "_law_draw" ["script"] 1 (spDraw K) := by
  refine ⟨f, fd, D.mg, D.fn.kp, D.bd, D.fn.ok sc__law_draw (fun vs H Q E h => ?_) (fun cdv A outer s H vs Q E hr h => ?_)⟩
  · obtain ⟨a, ns, rfl, _⟩ := h
    rfl
  · obtain ⟨a, ns, rfl, hS, h63, q⟩ := h
    refine ⟨_, (pss_cons (ps_set (i := 1) sc__law_draw.nd rfl (Or.inl rfl) pe_int)
      (pss_cons (ps_for PassesOwn.never rfl (pi_list (pv 0)) (pg_name (i := 2) sc__law_draw.nd rfl (Or.inl rfl)) (pss_one (ps_set (i := 1) sc__law_draw.nd rfl (Or.inl rfl) (pe_op op_mod (pe_callTy call_int1 (by rfl) T.m_int (by decide +kernel) (pa_cons (pe_op op_add (pe_op op_add (pe_op op_mul (pv 1) pe_int) (pe_op op_mod (pe_callB call_abs (by rfl) T.m_abs (by decide +kernel) (pa_cons (pe_callTy call_int1 (by rfl) T.m_int (by decide +kernel) (pa_cons (pv 2) pa_nil)) pa_nil)) pe_int)) pe_int) pa_nil)) pe_int))))
      (pss_one (ps_ret (pe_lst (pa_cons (pe_lc (own := [("cell", 2)]) (g := gName 2) (tt := tYes) rfl sc__law_draw.nd (pi_list (pv 0)) (blkOk_by (N := N__law_draw) (sc := defScope s__law_draw) (own := [("cell", 2)]) (by decide +kernel)) (fun _ _ _ _ _ => (pg_name (i := 2) sc__law_draw.nd rfl (Or.inl rfl))) (fun _ _ _ _ _ => pts_nil) (fun _ _ _ _ _ => (pe_callB call_abs (by rfl) T.m_abs (by decide +kernel) (pa_cons (pe_callTy call_int1 (by rfl) T.m_int (by decide +kernel) (pa_cons (pv 2) pa_nil)) pa_nil)))) (pa_cons (pe_un un_neg pe_int) (pa_cons pe_int (pa_cons (pv 1) pa_nil))))))))), ?_⟩
    refine ⟨_, rfl, a, rfl, ⟨_, hS⟩, for_list (K := K) (a := a) (xs := ns.map V.int) (fun i σ H' => ∃ (sd : Int) (v : Option V), σ = [some (.ref a), some (.int sd), v] ∧ Same H H' ∧ 0 ≤ sd ∧ sd < 2147483647)
      ⟨7, none, rfl, Same.refl H, by decide, by decide⟩ (fun i σ H' _ ⟨_, _, _, e, _⟩ => e.seq hS) ?_ ?_⟩
    · rintro i y σ H' hi ⟨sd, v, rfl, e, s0, s1⟩
      obtain ⟨z, rfl, _⟩ := map_at hi
      refine ⟨_, rfl, _, _, rfl, rfl, .inl ⟨by omega, by omega⟩, _, rfl, .inl ⟨_, rfl, _, rfl, _, _, rfl, rfl, (by show (0 : Int) < 65521; decide), _, _, rfl, rfl, _, _, rfl, rfl, .inl ⟨_, rfl, _, _, rfl, rfl, (by show (0 : Int) < 2147483647; decide), ?_⟩⟩⟩
      exact ⟨_, _, rfl, e, Int.emod_nonneg _ (by decide), Int.emod_lt_of_pos _ (by decide)⟩
    · rintro σ H' ⟨sd, v, rfl, e, s0, s1⟩
      refine ⟨_, rfl, a, rfl, ⟨_, e.seq hS⟩, fun D hD => lc_list (K := K) (a := a) (xs := ns.map V.int) (fun i H2 => ∃ ms : List Int, H2 D = some (.lst (ms.map V.int)) ∧ ms.length = i ∧ (∀ z, z ∈ ms → 0 ≤ z) ∧ (∀ b o, H' b = some o → H2 b = some o) ∧ i ≤ ns.length)
        ⟨[], upd_same, rfl, (fun z hz => by cases hz), same_new hD _, Nat.zero_le _⟩ (fun i H2 _ ⟨_, _, _, _, s, _⟩ => Same.seq s (e.seq hS)) ?_ ?_⟩
      · rintro i y H2 hi ⟨ms, hm, hml, hm0, s, _⟩
        obtain ⟨z, rfl, hz⟩ := map_at hi
        have hi' : i < ns.length := (List.getElem?_eq_some_iff.mp hz).1
        refine ⟨rfl, yes2 ?_⟩
        refine ⟨_, rfl, .inl ⟨_, rfl, _, rfl, _, hm, by rw [List.length_map]; exact small1000 (by omega), ms ++ [if z < 0 then -z else z], ?_, by rw [List.length_append, hml]; rfl, ?_, ?_, hi'⟩⟩
        · rw [upd_same, List.map_append]
          all_goals rfl
        · intro u hu
          rcases List.mem_append.mp hu with hu | hu
          · exact hm0 u hu
          · rw [List.mem_singleton] at hu
            rw [hu]
            split <;> omega
        · intro b o hb
          rw [upd_ne (ne_of_none hb hD)]
          exact s b o hb
      · rintro H2 ⟨ms, hm, hml, hm0, s, _⟩
        refine ⟨_, rfl, _, rfl, by show 4 ≤ sizeLine; decide, fun l hl => ?_⟩
        have nDl : D ≠ l := ne_of_none hm hl
        refine q l _ (Same.free (e.trans s) hl) ((e.trans s).trans (same_new hl _)) ⟨D, ms, -1, 0, sd, upd_same, by rw [upd_ne nDl]; exact hm, nDl.symm, hm0, by omega, by omega, s0, s1⟩
theorem ok__law_word (T : Txt K mg) (D : Def K mg "_law_word" ["draw", "w"] s__law_word f fd) (O1 : Own P w K mg base "_law_top" ["w"] 1 spTop) (O2 : Own P w K mg base "_law_take" ["draw", "many"] 1 spTake) : Own P w K mg base "_law_word" ["draw", "w"] 2 spWord := by
  obtain ⟨f_law_top, fd_law_top, m_law_top, k_law_top, b_law_top, G_law_top⟩ := O1
  obtain ⟨f_law_take, fd_law_take, m_law_take, k_law_take, b_law_take, G_law_take⟩ := O2
  refine ⟨f, fd, D.mg, D.fn.kp, D.bd, D.fn.ok sc__law_word (fun vs H Q E h => ?_) (fun cdv A outer s H vs Q E hr h => ?_)⟩
  · obtain ⟨d, n, rfl, _⟩ := h
    rfl
  · obtain ⟨d, n, rfl, hn, hD, q⟩ := h
    have hp := M00.pow_lt n hn
    have hp0 := M00.pow_pos' n
    have hp1 : 1 * (2 : Int) ^ n = 2 ^ n := Int.one_mul _
    refine ⟨_, (pss_one (ps_ret (pe_op op_and (pe_ix ix_list (pe_lst (pa_cons pe_int (pa_cons pe_int (pa_cons pe_int (pa_cons (pe_call G_law_top (hr.mono (by decide)) rfl m_law_top k_law_top b_law_top .nil pass0 (pa_cons (pv 1) pa_nil)) (pa_cons (pe_call G_law_take (hr.mono (by decide)) rfl m_law_take k_law_take b_law_take .nil pass0 (pa_cons (pv 0) (pa_cons (pe_op op_shl pe_int (pv 1)) pa_nil))) pa_nil)))))) (pe_call G_law_take (hr.mono (by decide)) rfl m_law_take k_law_take b_law_take .nil pass0 (pa_cons (pv 0) (pa_cons pe_int pa_nil))) (fun _ _ => rfl)) (pe_call G_law_top (hr.mono (by decide)) rfl m_law_top k_law_top b_law_top .nil pass0 (pa_cons (pv 1) pa_nil))))), ?_⟩
    refine ⟨_, rfl, n, rfl, by omega, _, rfl, _, rfl, _, _, rfl, rfl, ⟨by omega, by omega, by decide⟩, d, _, rfl, (by show 0 < 1 * (2 : Int) ^ n; omega), (by show 1 * (2 : Int) ^ n < 1073741824; omega), hD, fun v H1 v0 v1 hD1 b1 => ?_⟩
    refine ⟨by show 5 ≤ sizeLine; decide, fun p hp' => ?_⟩
    have ndp : d ≠ p := by
      obtain ⟨L, ns, _, _, _, h1, _⟩ := hD1
      exact ne_of_none h1 hp'
    have e1 := same_new hp' (.lst [.int 0, .int 1, .int 2, .int (2 ^ n - 1), .int v])
    refine ⟨_, rfl, d, 5, rfl, by decide, by decide, hD1.mono e1, fun k H2 k0 k1 hD2 b2 => ?_⟩
    have e2 : H2 p = some (.lst [.int 0, .int 1, .int 2, .int (2 ^ n - 1), .int v]) := b2 p _ upd_same ndp.symm
    obtain ⟨u, hu⟩ : ∃ u : Int, atI [V.int 0, .int 1, .int 2, .int (2 ^ n - 1), .int v] k = some (.int u) := by
      have h5 : k = 0 ∨ k = 1 ∨ k = 2 ∨ k = 3 ∨ k = 4 := by omega
      rcases h5 with h | h | h | h | h <;> subst h <;> exact ⟨_, rfl⟩
    refine ⟨p, _, _, _, rfl, rfl, SqL.of e2, hu, _, rfl, n, rfl, by omega, _, _, rfl, rfl, ?_⟩
    refine toI (M00.and_mask _ _) (q _ _ (Int.emod_nonneg _ (by omega)) (Int.emod_lt_of_pos _ hp0) hD2 ?_)
    exact fun c o h hc => b2 c o (e1 c o (b1 c o h hc)) hc

theorem dget3 {op : Str} (h : op = "and" ∨ op = "or" ∨ op = "xor") {H2 : Hp} {p : Addr} {x y : Int} (i : Nat) {A B : Int} (eA : A = ((x.toNat / 2 ^ i % 2 : Nat) : Int)) (eB : B = ((y.toNat / 2 ^ i % 2 : Nat) : Int)) :
    DGet (upd H2 p (.dK (mergeK [] [((Sum.inr "and" : Key), V.int (A * B)), ((Sum.inr "or" : Key), V.int (if B > A then B else A)), ((Sum.inr "xor" : Key), V.int (if (!decide (V.int A = V.int B)) = true then 1 else 0))]))) p (.str op) (some (.int ((M00.zz op x y / 2 ^ i % 2 : Nat) : Int))) := by
  have g := DGet.k (H := upd H2 p (.dK (mergeK [] [((Sum.inr "and" : Key), V.int (A * B)), ((Sum.inr "or" : Key), V.int (if B > A then B else A)), ((Sum.inr "xor" : Key), V.int (if (!decide (V.int A = V.int B)) = true then 1 else 0))]))) (a := p) (k := (Sum.inr op : Key)) upd_same
  have v : valV (mergeK [] [((Sum.inr "and" : Key), V.int (A * B)), ((Sum.inr "or" : Key), V.int (if B > A then B else A)), ((Sum.inr "xor" : Key), V.int (if (!decide (V.int A = V.int B)) = true then 1 else 0))]) (Sum.inr op : Key) = some (.int ((M00.zz op x y / 2 ^ i % 2 : Nat) : Int)) := by
    show valV (putK (putK (putK ([] : List (Key × V)) (Sum.inr "and") _) (Sum.inr "or") _) (Sum.inr "xor") _) (Sum.inr op : Key) = _
    rw [valV_put, valV_put, valV_put]
    rcases h with h | h | h <;> subst h
    · rw [if_neg (by decide +kernel), if_neg (by decide +kernel), if_pos rfl, eA, eB, M00.zz_bit_and]
    · rw [if_neg (by decide +kernel), if_pos rfl, eA, eB, M00.zz_bit_or]
    · rw [if_pos rfl, ← M00.zz_bit_xor, ← eA, ← eB]
      by_cases q : A = B <;> simp [q]
  rw [v] at g
  exact g
theorem ok__law_plain (T : Txt K mg) (D : Def K mg "_law_plain" ["op", "w", "x", "y"] s__law_plain f fd) : Own P w K mg base "_law_plain" ["op", "w", "x", "y"] 1 spComp := by
  refine ⟨f, fd, D.mg, D.fn.kp, D.bd, D.fn.ok sc__law_plain (fun vs H Q E h => ?_) (fun cdv A outer s H vs Q E hr h => ?_)⟩
  · obtain ⟨op, n, x, y, rfl, _⟩ := h
    rfl
  · obtain ⟨op, n, x, y, rfl, hop, n1, n2, x0, x1, y0, y1, q⟩ := h
    have hu := hu_of hr
    have hp := M00.pow_lt n n2
    have hp0 := M00.pow_pos' n
    have one : 1 * (2 : Int) ^ n = 2 ^ n := Int.one_mul _
    refine ⟨_, (pss_cons (ps_set (i := 4) sc__law_plain.nd rfl (Or.inl rfl) (pe_op op_shl pe_int (pv 1)))
      (pss_cut (ps_if (pt_cmpR op_eq (pv 0) pe_str (nomark _)) (pss_one (ps_set (i := 5) sc__law_plain.nd rfl (Or.inl rfl) (pe_op op_add (pv 2) (pv 3)))) (pss_one (ps_if (pt_cmpR op_eq (pv 0) pe_str (nomark _)) (pss_one (ps_set (i := 5) sc__law_plain.nd rfl (Or.inl rfl) (pe_op op_add (pe_op op_sub (pv 2) (pv 3)) (pv 4)))) (pss_one (ps_if (pt_cmpR op_eq (pv 0) pe_str (nomark _)) (pss_one (ps_set (i := 5) sc__law_plain.nd rfl (Or.inl rfl) (pe_op op_mul (pv 2) (pv 3)))) (pss_one (ps_if (pt_cmpR op_in_seq (pv 0) (pe_tup (pa_cons pe_str (pa_cons pe_str (pa_cons pe_str pa_nil)))) (by rfl)) (pss_cons (ps_set (i := 5) sc__law_plain.nd rfl (Or.inl rfl) pe_int)
      (pss_one (ps_for PassesOwn.never rfl (pi_range1 (by rfl) T.m_range (pa_cons (pv 1) pa_nil)) (pg_name (i := 6) sc__law_plain.nd rfl (Or.inl rfl)) (pss_cons (ps_set (i := 7) sc__law_plain.nd rfl (Or.inl rfl) (pe_op op_mod (pe_callTy call_int1 (by rfl) T.m_int (by decide +kernel) (pa_cons (pe_op op_fdiv (pv 2) (pe_op op_shl pe_int (pv 6))) pa_nil)) pe_int))
      (pss_cons (ps_set (i := 8) sc__law_plain.nd rfl (Or.inl rfl) (pe_op op_mod (pe_callTy call_int1 (by rfl) T.m_int (by decide +kernel) (pa_cons (pe_op op_fdiv (pv 3) (pe_op op_shl pe_int (pv 6))) pa_nil)) pe_int))
      (pss_cons (ps_set (i := 9) sc__law_plain.nd rfl (Or.inl rfl) (pe_dget hu (pe_disp (pps_cons pe_str (pe_op op_mul (pv 7) (pv 8)) (pps_cons pe_str (pe_callB (call_max2 rfl) (by rfl) T.m_max (by decide +kernel) (pa_cons (pv 7) (pa_cons (pv 8) pa_nil))) (pps_cons pe_str (pe_callTy call_int1 (by rfl) T.m_int (by decide +kernel) (pa_cons (pe_cmpR op_ne (pv 7) (pv 8) (nomark _)) pa_nil)) pps_nil))) (by rfl) (by rfl) (fun z => by cases z) (by decide)) (pv 0) (fun _ _ => rfl)))
      (pss_one (ps_set (i := 5) sc__law_plain.nd rfl (Or.inl rfl) (pe_op op_add (pv 5) (pe_op op_mul (pv 9) (pe_op op_shl pe_int (pv 6)))))))))))) (pss_one (ps_if (pt_cmpR op_eq (pv 0) pe_str (nomark _)) (pss_cons (ps_set (i := 5) sc__law_plain.nd rfl (Or.inl rfl) (pv 2))
      (pss_one (ps_for PassesOwn.never rfl (pi_range1 (by rfl) T.m_range (pa_cons (pe_callB (call_min2 rfl) (by rfl) T.m_min (by decide +kernel) (pa_cons (pv 3) (pa_cons (pv 1) pa_nil))) pa_nil)) (pg_name (i := 6) sc__law_plain.nd rfl (Or.inl rfl)) (pss_one (ps_set (i := 5) sc__law_plain.nd rfl (Or.inl rfl) (pe_op op_mul (pv 5) pe_int)))))) (pss_one (ps_if (pt_cmpR op_eq (pv 0) pe_str (nomark _)) (pss_cons (ps_set (i := 5) sc__law_plain.nd rfl (Or.inl rfl) (pv 2))
      (pss_one (ps_for PassesOwn.never rfl (pi_range1 (by rfl) T.m_range (pa_cons (pe_callB (call_min2 rfl) (by rfl) T.m_min (by decide +kernel) (pa_cons (pv 3) (pa_cons (pv 1) pa_nil))) pa_nil)) (pg_name (i := 6) sc__law_plain.nd rfl (Or.inl rfl)) (pss_one (ps_set (i := 5) sc__law_plain.nd rfl (Or.inl rfl) (pe_op op_fdiv (pv 5) pe_int)))))) (pss_one (ps_if (pt_cmpR op_eq (pv 0) pe_str (nomark _)) (pss_one (ps_set (i := 5) sc__law_plain.nd rfl (Or.inl rfl) (pe_callTy call_int1 (by rfl) T.m_int (by decide +kernel) (pa_cons (pe_cmpR op_lt (pv 2) (pv 3) (nomark _)) pa_nil)))) (pss_one (ps_if (pt_cmpR op_eq (pv 0) pe_str (nomark _)) (pss_one (ps_set (i := 5) sc__law_plain.nd rfl (Or.inl rfl) (pe_callTy call_int1 (by rfl) T.m_int (by decide +kernel) (pa_cons (pe_cmpR op_eq (pv 2) (pv 3) (nomark _)) pa_nil)))) (pss_one (ps_if (pt_cmpR op_eq (pv 0) pe_str (nomark _)) (pss_one (ps_set (i := 5) sc__law_plain.nd rfl (Or.inl rfl) (pe_op op_sub (pe_op op_sub (pv 4) pe_int) (pv 2)))) (pss_one (ps_set (i := 5) sc__law_plain.nd rfl (Or.inl rfl) (pe_op op_sub (pv 4) (pv 2)))))))))))))))))))))
      (pss_one (ps_ret (pe_op op_mod (pe_callTy call_int1 (by rfl) T.m_int (by decide +kernel) (pa_cons (pv 5) pa_nil)) (pv 4)))))), ?_⟩
    -- whole = 1 << w
    refine ⟨_, rfl, _, _, rfl, rfl, ⟨by omega, by omega, by decide⟩, ?_⟩
    refine ⟨fun σ' H' => ∃ (z : Int) (v6 v7 v8 v9 : Option V), σ' = [some (.str op), some (.int n), some (.int x), some (.int y), some (.int (1 * 2 ^ n)), some (.int z), v6, v7, v8, v9] ∧ Same H H' ∧ z % 2 ^ n = M00.val op n x y, ?_, ?_⟩
    · refine ⟨_, rfl, rfl, _, rfl, ite2 (fun c => ?_) (fun d1 => ?_)⟩
      · refine ⟨_, rfl, _, rfl, _, _, rfl, rfl, _, none, none, none, none, rfl, Same.refl H, ?_⟩
        rw [streq c, M00.val_add]
      refine ⟨_, rfl, rfl, _, rfl, ite2 (fun c => ?_) (fun d2 => ?_)⟩
      · refine ⟨_, rfl, _, rfl, _, _, rfl, rfl, _, rfl, _, _, rfl, rfl, _, none, none, none, none, rfl, Same.refl H, ?_⟩
        rw [streq c, M00.val_sub]
        show (x - y + 1 * 2 ^ n) % 2 ^ n = _
        rw [one]
        simp
      refine ⟨_, rfl, rfl, _, rfl, ite2 (fun c => ?_) (fun d3 => ?_)⟩
      · refine ⟨_, rfl, _, rfl, _, _, rfl, rfl, .inl ⟨by omega, by omega⟩, _, none, none, none, none, rfl, Same.refl H, ?_⟩
        rw [streq c, M00.val_mul]
      -- op in ('and', 'or', 'xor')
      refine ⟨_, rfl, by show 3 ≤ sizeLine; decide, fun p hp' => ?_⟩
      have sp := same_new hp' (.tup [.str "and", .str "or", .str "xor"])
      refine ⟨p, _, rfl, .inr (SqT.of upd_same), rfl, rfl, _, rfl, ite2 (fun c => ?_) (fun d4 => ?_)⟩
      · have h3 := in3 c
        refine ⟨_, rfl, (n : Int), rfl, by omega, by omega, for_range (lo := 0) (n := n) (fun i σ' H' => i ≤ n ∧ ∃ (v6 v7 v8 v9 : Option V), σ' = [some (.str op), some (.int n), some (.int x), some (.int y), some (.int (1 * 2 ^ n)), some (.int ((M00.zz op x y % 2 ^ i : Nat) : Int)), v6, v7, v8, v9] ∧ Same H H')
          ⟨Nat.zero_le _, none, none, none, none, by rw [Nat.pow_zero, Nat.mod_one]; rfl, sp⟩ ?_ ?_⟩
        · rintro i σ' H' hi ⟨_, v6, v7, v8, v9, rfl, e⟩
          rw [Int.zero_add]
          have hi0 := M00.pow_pos' i
          have hi1 := M00.pow_lt i (by omega)
          have onei : 1 * (2 : Int) ^ i = 2 ^ i := Int.one_mul _
          have cp : CPow 1 (i : Int) := ⟨by omega, by omega, by decide⟩
          have cd : ∀ z : Int, CDiv z (1 * 2 ^ i) := fun z => ⟨by omega, by omega⟩
          have ea := M00.fdiv_bit x x0 i
          have eb := M00.fdiv_bit y y0 i
          -- a, b
          refine ⟨_, rfl, _, rfl, _, _, rfl, rfl, cp, _, _, rfl, rfl, cd _, .inl ⟨_, rfl, _, _, rfl, rfl, (by show (0 : Int) < 2; decide), ?_⟩⟩
          refine ⟨_, rfl, _, rfl, _, _, rfl, rfl, cp, _, _, rfl, rfl, cd _, .inl ⟨_, rfl, _, _, rfl, rfl, (by show (0 : Int) < 2; decide), ?_⟩⟩
          -- bit
          refine fun t ht => ⟨_, rfl, _, rfl, _, _, rfl, rfl, .inl ⟨by show -(2 ^ 64) < x / (1 * 2 ^ i) % 2; omega, by show x / (1 * 2 ^ i) % 2 < 2 ^ 64; omega⟩, _, rfl, _, rfl, _, _, rfl, _, rfl, _, rfl, rfl, .inr ⟨_, rfl, upd_same, [((Sum.inr "and" : Key), _), ((Sum.inr "or" : Key), _), ((Sum.inr "xor" : Key), _)], rfl, by show 3 ≤ 15; decide, ?_⟩⟩
          refine ⟨_, rfl, t, _, rfl, dget3 h3 i ea eb, ?_⟩
          refine ⟨_, rfl, _, rfl, _, rfl, _, _, rfl, rfl, cp, _, _, rfl, rfl, .inl ⟨by omega, by omega⟩, _, _, rfl, rfl, ?_⟩
          refine ⟨by omega, some (.int i), some (.int (x / (1 * 2 ^ i) % 2)), some (.int (y / (1 * 2 ^ i) % 2)), some (.int ((M00.zz op x y / 2 ^ i % 2 : Nat) : Int)), ?_, fun b o hb => ?_⟩
          · rw [← M00.bit_step]
            rfl
          · rw [upd_ne (ne_of_none (e _ _ hb) ht), upd_ne (ne_of_none (e _ _ hb) ht)]
            exact e _ _ hb
        · rintro σ' H' ⟨_, v6, v7, v8, v9, rfl, e⟩
          exact ⟨_, v6, v7, v8, v9, rfl, e, M00.zz_val h3 x0 x1 y0 y1⟩
      have h3 := not3 d4
      refine ⟨_, rfl, rfl, _, rfl, ite2 (fun c => ?_) (fun d5 => ?_)⟩
      · -- shl
        refine ⟨_, rfl, _, rfl, _, rfl, _, _, rfl, ?_⟩
        rw [M00.min_if]
        refine ⟨_, rfl, by omega, by omega, for_range (lo := 0) (n := (min y (n : Int)).toNat) (fun i σ' H' => ∃ (v6 : Option V), σ' = [some (.str op), some (.int n), some (.int x), some (.int y), some (.int (1 * 2 ^ n)), some (.int (x * 2 ^ i)), v6, none, none, none] ∧ Same H H')
          ⟨none, by rw [Int.pow_zero, Int.mul_one]; rfl, sp⟩ ?_ ?_⟩
        · rintro i σ' H' hi ⟨v6, rfl, e⟩
          refine ⟨_, rfl, _, _, rfl, rfl, .inr ⟨by decide, by decide⟩, some (.int (0 + (i : Int))), ?_, e⟩
          rw [← M00.mul_step]
          rfl
        · rintro σ' H' ⟨v6, rfl, e⟩
          exact ⟨_, v6, none, none, none, rfl, e, by rw [streq c, M00.val_shl, M00.shl_plain x y n y0]⟩
      refine ⟨_, rfl, rfl, _, rfl, ite2 (fun c => ?_) (fun d6 => ?_)⟩
      · -- shr
        refine ⟨_, rfl, _, rfl, _, rfl, _, _, rfl, ?_⟩
        rw [M00.min_if]
        refine ⟨_, rfl, by omega, by omega, for_range (lo := 0) (n := (min y (n : Int)).toNat) (fun i σ' H' => ∃ (v6 : Option V), σ' = [some (.str op), some (.int n), some (.int x), some (.int y), some (.int (1 * 2 ^ n)), some (.int (x / 2 ^ i)), v6, none, none, none] ∧ Same H H')
          ⟨none, by rw [Int.pow_zero, Int.ediv_one]; rfl, sp⟩ ?_ ?_⟩
        · rintro i σ' H' hi ⟨v6, rfl, e⟩
          refine ⟨_, rfl, _, _, rfl, rfl, ⟨by decide, by decide⟩, some (.int (0 + (i : Int))), ?_, e⟩
          rw [← M00.div_step]
          rfl
        · rintro σ' H' ⟨v6, rfl, e⟩
          exact ⟨_, v6, none, none, none, rfl, e, by rw [streq c, M00.val_shr, M00.shr_plain x y n x0 x1 y0]⟩
      refine ⟨_, rfl, rfl, _, rfl, ite2 (fun c => ?_) (fun d7 => ?_)⟩
      · -- less
        refine ⟨_, rfl, _, rfl, _, _, rfl, rfl, .inr ⟨_, rfl, _, none, none, none, none, rfl, sp, ?_⟩⟩
        rw [streq c, M00.val_less, M00.small_mod n1]
        by_cases h : x < y <;> simp [h]
      refine ⟨_, rfl, rfl, _, rfl, ite2 (fun c => ?_) (fun d8 => ?_)⟩
      · -- equal
        refine ⟨_, rfl, _, rfl, rfl, .inr ⟨_, rfl, _, none, none, none, none, rfl, sp, ?_⟩⟩
        rw [streq c, M00.val_equal, M00.small_mod n1]
        by_cases h : x = y <;> simp [h]
      refine ⟨_, rfl, rfl, _, rfl, ite2 (fun c => ?_) (fun d9 => ?_)⟩
      · -- not
        refine ⟨_, rfl, _, _, rfl, rfl, _, rfl, _, _, rfl, rfl, _, none, none, none, none, rfl, sp, ?_⟩
        rw [streq c, M00.val_not]
        show (1 * 2 ^ n - 1 - x) % 2 ^ n = _
        rw [one]
        exact Int.emod_eq_of_lt (by omega) (by omega)
      · have he := M00.last_neg hop (strne d9) (strne d8) (strne d1) (strne d2) (strne d3) h3.1 h3.2.1 h3.2.2 (strne d5) (strne d6) (strne d7)
        refine ⟨_, rfl, _, rfl, _, _, rfl, rfl, _, none, none, none, none, rfl, sp, ?_⟩
        rw [he, M00.val_neg]
        show (1 * 2 ^ n - x) % 2 ^ n = _
        rw [one]
        have : (2 : Int) ^ n - x = 0 - x + 2 ^ n := by omega
        rw [this]
        simp
    · rintro σ' H' ⟨z, v6, v7, v8, v9, rfl, e, hz⟩
      refine ⟨_, rfl, .inl ⟨_, rfl, _, rfl, _, _, rfl, rfl, by show 0 < 1 * (2 : Int) ^ n; omega, toI ?_ (q _ e)⟩⟩
      show z % (1 * 2 ^ n) = _
      rw [one]
      exact hz

def con_PAIRS : List V := opsL
def con_SINGLES : List V := [.str "not", .str "neg"]
def pyOps : List PyData := [.str "add", .str "sub", .str "mul", .str "and", .str "or", .str "xor", .str "shl", .str "shr", .str "less", .str "equal"]
theorem dp_ops {H : Hp} : DpAll K H opsL pyOps := .cons (.str _) (.cons (.str _) (.cons (.str _) (.cons (.str _) (.cons (.str _) (.cons (.str _) (.cons (.str _) (.cons (.str _) (.cons (.str _) (.cons (.str _) .nil)))))))))
theorem ops12 : opsL ++ [V.str "not", .str "neg"] = M00.ops.map V.str := rfl
theorem ok_law (T : Txt K mg) (C1 : Con K mg "PAIRS" con_PAIRS) (C2 : Con K mg "SINGLES" con_SINGLES) (D : Def K mg "law" ["script"] s_law f fd)
    (O0 : Own P w K mg base "_law_draw" ["script"] 1 (spDraw K)) (O1 : Own P w K mg base "_law_top" ["w"] 1 spTop) (O2 : Own P w K mg base "_law_take" ["draw", "many"] 1 spTake) (O3 : Own P w K mg base "_law_word" ["draw", "w"] 2 spWord)
    (O4 : Own P w K mg base "_law_ops" [] 1 spOps) (O5 : Own P w K mg base "compute" ["op", "w", "x", "y"] 3 spComp) (O6 : Own P w K mg base "_law_plain" ["op", "w", "x", "y"] 1 spComp) (O7 : Own P w K mg base "_law_compute" ["op", "w", "x", "y"] 2 spComp) (O8 : Own P w K mg base "top" ["w"] 1 spTop) :
    FnOk P w K mg base CX0 4 f fd ["script"] (spLaw K) := by
  obtain ⟨a_PAIRS, odP, itsP, nP, slP, c_PAIRS, lP, zP, vP⟩ := C1
  obtain ⟨a_SINGLES, odS, itsS, nS, slS, c_SINGLES, lS, zS, vS⟩ := C2
  obtain ⟨f_law_draw, fd_law_draw, m_law_draw, k_law_draw, b_law_draw, G_law_draw⟩ := O0
  obtain ⟨f_law_top, fd_law_top, m_law_top, k_law_top, b_law_top, G_law_top⟩ := O1
  obtain ⟨f_law_take, fd_law_take, m_law_take, k_law_take, b_law_take, G_law_take⟩ := O2
  obtain ⟨f_law_word, fd_law_word, m_law_word, k_law_word, b_law_word, G_law_word⟩ := O3
  obtain ⟨f_law_ops, fd_law_ops, m_law_ops, k_law_ops, b_law_ops, G_law_ops⟩ := O4
  obtain ⟨fcompute, fdcompute, mcompute, kcompute, bcompute, Gcompute⟩ := O5
  obtain ⟨f_law_plain, fd_law_plain, m_law_plain, k_law_plain, b_law_plain, G_law_plain⟩ := O6
  obtain ⟨f_law_compute, fd_law_compute, m_law_compute, k_law_compute, b_law_compute, G_law_compute⟩ := O7
  obtain ⟨ftop, fdtop, mtop, ktop, btop, Gtop⟩ := O8
  refine D.fn.ok sc_law (fun vs H Q E h => ?_) (fun cdv A outer s H vs Q E hr h => ?_)
  · obtain ⟨a, ns, rfl, _⟩ := h
    rfl
  · obtain ⟨a, ns, rfl, hS, h63, q⟩ := h
    refine ⟨_, (pss_cons (ps_set (i := 1) sc_law.nd rfl (Or.inl rfl) (pe_call G_law_draw (hr.mono (by decide)) rfl m_law_draw k_law_draw b_law_draw .nil pass0 (pa_cons (pv 0) pa_nil)))
      (pss_cons (ps_if (PW.pt (pw_or (pt_cmpR (op_neD hr.units) (pe_callTy call_list_of (by rfl) T.m_list (by decide +kernel) (pa_cons (pe_glob (v := .ref a_PAIRS) (by rfl) c_PAIRS rfl) pa_nil)) (pe_call0 G_law_ops (hr.mono (by decide)) (by rfl) m_law_ops k_law_ops b_law_ops .nil pass0) (nomark _)) (pw_or (pt_not (pt_val (pe_callB call_isi (by rfl) T.m_isinstance (by decide +kernel) (pa_cons (pe_glob (v := .ref a_PAIRS) (by rfl) c_PAIRS rfl) (pa_cons (pe_bltn (v := .ty "tuple") (u := .type "tuple") (by rfl) T.m_tuple (by decide +kernel) (by rfl)) pa_nil))))) (pw_or1 (pt_cmpR (op_neD hr.units) (pe_glob (v := .ref a_SINGLES) (by rfl) c_SINGLES rfl) (pe_tup (pa_cons pe_str (pa_cons pe_str pa_nil))) (nomark _)))))) (pss_one (ps_ret pe_bl)) pss_nil)
      (pss_cons (ps_set (i := 2) sc_law.nd rfl (Or.inl rfl) (pe_op op_add pe_int (pe_call G_law_take (hr.mono (by decide)) rfl m_law_take k_law_take b_law_take .nil pass0 (pa_cons (pv 1) (pa_cons pe_int pa_nil)))))
      (pss_cons (ps_if (pt_cmpR op_ne (pe_call Gtop (hr.mono (by decide)) rfl mtop ktop btop .nil pass0 (pa_cons (pv 2) pa_nil)) (pe_call G_law_top (hr.mono (by decide)) rfl m_law_top k_law_top b_law_top .nil pass0 (pa_cons (pv 2) pa_nil)) (nomark _)) (pss_one (ps_ret pe_bl)) pss_nil)
      (pss_cons (ps_for PassesOwn.never rfl (pi_range1 (by rfl) T.m_range (pa_cons pe_int pa_nil)) (pg_name (i := 3) sc_law.nd rfl (Or.inl rfl)) (pss_cons (ps_set (i := 4) sc_law.nd rfl (Or.inl rfl) (pe_call G_law_word (hr.mono (by decide)) rfl m_law_word k_law_word b_law_word .nil pass0 (pa_cons (pv 1) (pa_cons (pv 2) pa_nil))))
      (pss_cons (ps_set (i := 5) sc_law.nd rfl (Or.inl rfl) (pe_ix ix_list (pe_lst (pa_cons (pe_call G_law_word (hr.mono (by decide)) rfl m_law_word k_law_word b_law_word .nil pass0 (pa_cons (pv 1) (pa_cons (pv 2) pa_nil))) (pa_cons (pe_op op_and (pv 2) (pe_call G_law_top (hr.mono (by decide)) rfl m_law_top k_law_top b_law_top .nil pass0 (pa_cons (pv 2) pa_nil))) (pa_cons (pe_op op_and (pe_op op_sub (pv 2) pe_int) (pe_call G_law_top (hr.mono (by decide)) rfl m_law_top k_law_top b_law_top .nil pass0 (pa_cons (pv 2) pa_nil))) (pa_cons (pv 4) pa_nil))))) (pe_call G_law_take (hr.mono (by decide)) rfl m_law_take k_law_take b_law_take .nil pass0 (pa_cons (pv 1) (pa_cons pe_int pa_nil))) (fun _ _ => rfl)))
      (pss_one (ps_for PassesOwn.never rfl (pi_list (pe_op op_cat (pe_call0 G_law_ops (hr.mono (by decide)) (by rfl) m_law_ops k_law_ops b_law_ops .nil pass0) (pe_lst (pa_cons pe_str (pa_cons pe_str pa_nil))))) (pg_name (i := 6) sc_law.nd rfl (Or.inl rfl)) (pss_one (ps_if (PW.pt (pw_or (pt_cmpR op_ne (pe_call Gcompute (hr.mono (by decide)) rfl mcompute kcompute bcompute .nil pass0 (pa_cons (pv 6) (pa_cons (pv 2) (pa_cons (pv 4) (pa_cons (pv 5) pa_nil))))) (pe_call G_law_plain (hr.mono (by decide)) rfl m_law_plain k_law_plain b_law_plain .nil pass0 (pa_cons (pv 6) (pa_cons (pv 2) (pa_cons (pv 4) (pa_cons (pv 5) pa_nil))))) (nomark _)) (pw_or1 (pt_cmpR op_ne (pe_call G_law_compute (hr.mono (by decide)) rfl m_law_compute k_law_compute b_law_compute .nil pass0 (pa_cons (pv 6) (pa_cons (pv 2) (pa_cons (pv 4) (pa_cons (pv 5) pa_nil))))) (pe_call G_law_plain (hr.mono (by decide)) rfl m_law_plain k_law_plain b_law_plain .nil pass0 (pa_cons (pv 6) (pa_cons (pv 2) (pa_cons (pv 4) (pa_cons (pv 5) pa_nil))))) (nomark _))))) (pss_one (ps_ret pe_bl)) pss_nil)))))))
      (pss_one (ps_ret pe_bl))))))), ?_⟩
    refine ⟨_, rfl, a, ns, rfl, hS, h63, fun d H1 hd0 e1 hD1 => ?_⟩
    -- list(PAIRS) != _law_ops() ..
    refine ⟨a_PAIRS, _, rfl, .inr (con_seq lP zP vP), fun l hl => ?_⟩
    have e2 := same_new hl (.lst con_PAIRS)
    refine ⟨rfl, fun p2 H3 hp2 e3 hL3 => ?_⟩
    refine ⟨.list pyOps, .list pyOps, .lst (SqL.of (e3 _ _ upd_same)) dp_ops, .lst (SqL.of hL3) dp_ops, by decide +kernel, by decide +kernel, _, rfl, ?_⟩
    rw [show PyData.eqv (.list pyOps) (.list pyOps) = true by decide +kernel]
    refine iteF ?_
    refine ⟨_, _, .type "tuple", .type "tuple", true, rfl, .ty _, .kTuple lP rfl, kit_ty (by decide +kernel), _, rfl, ?_⟩
    refine iteF ?_
    refine ⟨by show 2 ≤ sizeLine; decide, fun p4 hp4 => ?_⟩
    refine ⟨.tuple [.str "not", .str "neg"], .tuple [.str "not", .str "neg"], .tup (con_seq lS zS vS) (.cons (.str _) (.cons (.str _) .nil)), .tup (SqT.of upd_same) (.cons (.str _) (.cons (.str _) .nil)), by decide +kernel, by decide +kernel, _, rfl, ?_⟩
    rw [show PyData.eqv (.tuple [.str "not", .str "neg"]) (.tuple [.str "not", .str "neg"]) = true by decide +kernel]
    refine iteF ?_
    have e4 := same_new hp4 (.tup [.str "not", .str "neg"])
    -- w = 1 + take
    refine ⟨_, rfl, d, 16, rfl, by decide, by decide, (((hD1.mono e2).mono e3).mono e4), fun v H5 v0 v1 hD5 b5 => ?_⟩
    obtain ⟨n, hn⟩ : ∃ n : Nat, 1 + v = (n : Int) := ⟨(1 + v).toNat, by omega⟩
    have n1 : 1 ≤ n := by omega
    have n2 : n ≤ 16 := by omega
    refine ⟨_, _, rfl, rfl, ?_⟩
    show gName 2 (V.int (1 + v)) _ _ _
    rw [hn]
    refine ⟨_, rfl, n, rfl, by omega, _, rfl, n, rfl, by omega, rfl, _, rfl, ?_⟩
    refine iteNS rfl ?_
    have hp := M00.pow_lt n n2
    have hp0 := M00.pow_pos' n
    -- for turn in range(6)
    refine ⟨_, rfl, by decide, by decide, for_range (lo := 0) (n := 6) (fun i σ' H' => ∃ (v3 v4 v5 v6 : Option V), σ' = [some (.ref a), some (.ref d), some (.int n), v3, v4, v5, v6] ∧ DrawAt H' d) ⟨_, _, _, _, rfl, hD5⟩ ?_ ?_⟩
    · rintro i σ' H' hi ⟨v3, v4, v5, v6, rfl, hD⟩
      refine ⟨_, rfl, _, rfl, d, n, rfl, n2, hD, fun x H6 x0 x1 hD6 b6 => ?_⟩
      refine ⟨_, rfl, _, rfl, d, n, rfl, n2, hD6, fun y H7 y0 y1 hD7 b7 => ?_⟩
      refine ⟨_, rfl, _, rfl, n, rfl, by omega, _, _, rfl, rfl, _, rfl, _, _, rfl, rfl, _, rfl, n, rfl, by omega, _, _, rfl, rfl, _, rfl, by show 4 ≤ sizeLine; decide, fun p8 hp8 => ?_⟩
      have ndp : d ≠ p8 := by
        obtain ⟨L, ns, _, _, _, h1, _⟩ := hD7
        exact ne_of_none h1 hp8
      refine ⟨_, rfl, d, 4, rfl, by decide, by decide, hD7.mono (same_new hp8 _), fun k H9 k0 k1 hD9 b9 => ?_⟩
      have e9 := b9 p8 _ upd_same ndp.symm
      obtain ⟨z, hz, z0, z1⟩ : ∃ z : Int, atI [V.int y, .int (Builtin.bitAnd n (2 ^ n - 1)), .int (Builtin.bitAnd ((n : Int) - 1) (2 ^ n - 1)), .int x] k = some (.int z) ∧ 0 ≤ z ∧ z < 2 ^ n := by
        have h4 : k = 0 ∨ k = 1 ∨ k = 2 ∨ k = 3 := by omega
        rcases h4 with h | h | h | h <;> subst h
        · exact ⟨_, rfl, y0, y1⟩
        · exact ⟨_, rfl, by rw [M00.and_mask]; exact Int.emod_nonneg _ (by omega), by rw [M00.and_mask]; exact Int.emod_lt_of_pos _ hp0⟩
        · exact ⟨_, rfl, by rw [M00.and_mask]; exact Int.emod_nonneg _ (by omega), by rw [M00.and_mask]; exact Int.emod_lt_of_pos _ hp0⟩
        · exact ⟨_, rfl, x0, x1⟩
      refine ⟨p8, _, _, _, rfl, rfl, SqL.of e9, hz, ?_⟩
      -- for op in _law_ops() + ['not', 'neg']
      refine ⟨rfl, fun p10 H10 hp10 e10 hL10 => ?_⟩
      refine ⟨by show 2 ≤ sizeLine; decide, fun p11 hp11 => ?_⟩
      have n11 : p10 ≠ p11 := ne_of_none hL10 hp11
      refine ⟨p10, p11, _, _, rfl, rfl, by rw [upd_ne n11]; exact hL10, upd_same, by show 12 ≤ sizeLine; decide, fun p12 hp12 => ?_⟩
      rw [ops12]
      have hD12 : DrawAt (upd (upd H10 p11 (.lst [.str "not", .str "neg"])) p12 (.lst (M00.ops.map V.str))) d := ((hD9.mono e10).mono (same_new hp11 _)).mono (same_new hp12 _)
      refine ⟨p12, rfl, ⟨_, SqL.of upd_same⟩, for_list (K := K) (a := p12) (xs := M00.ops.map V.str) (fun i σ' H' => ∃ v6 : Option V, σ' = [some (.ref a), some (.ref d), some (.int n), _, some (.int x), some (.int z), v6] ∧ DrawAt H' d ∧ H' p12 = some (.lst (M00.ops.map V.str)))
        ⟨v6, rfl, hD12, upd_same⟩ (fun i σ' H' _ ⟨_, _, _, h⟩ => SqL.of h) ?_ ?_⟩
      · rintro j u σ' H' hj ⟨v6, rfl, hD, hp12'⟩
        obtain ⟨op, rfl, hop⟩ : ∃ op, u = V.str op ∧ op ∈ M00.ops := by
          rw [List.getElem?_map] at hj
          cases e : M00.ops[j]? with
          | none =>
            rw [e] at hj
            cases hj
          | some op =>
            rw [e] at hj
            exact ⟨op, (Option.some.inj hj).symm, List.mem_of_getElem? e⟩
        refine ⟨_, rfl, _, rfl, _, rfl, _, rfl, op, n, x, z, rfl, hop, n1, n2, x0, x1, z0, z1, fun Ha ea => ?_⟩
        refine ⟨_, rfl, _, rfl, _, rfl, _, rfl, op, n, x, z, rfl, hop, n1, n2, x0, x1, z0, z1, fun Hb eb => ?_⟩
        refine ⟨rfl, _, rfl, ?_⟩
        refine iteNS rfl ?_
        refine ⟨_, rfl, _, rfl, _, rfl, _, rfl, op, n, x, z, rfl, hop, n1, n2, x0, x1, z0, z1, fun Hc ec => ?_⟩
        refine ⟨_, rfl, _, rfl, _, rfl, _, rfl, op, n, x, z, rfl, hop, n1, n2, x0, x1, z0, z1, fun Hd ed => ?_⟩
        refine ⟨rfl, _, rfl, ?_⟩
        refine iteNS rfl ?_
        have all := ((ea.trans eb).trans ec).trans ed
        exact ⟨_, rfl, hD.mono all, all _ _ hp12'⟩
      · rintro σ' H' ⟨v6, rfl, hD, _⟩
        exact ⟨_, _, _, _, rfl, hD⟩
    · rintro σ' H' ⟨v3, v4, v5, v6, rfl, hD⟩
      exact q H'
end
theorem all_mk {K : PySem.W.Frag} {h : Heap} {mg : Str → Option Value} {fa : Addr} (X : K.In h) (G : h.Ns mainGlobals mg) (hfa : mg "law" = some (.ref fa))
    {f0 : Addr} {od0 an0 : Option Addr} {sl0 : Array (Option Value)} {oc0 kV0 dc0 pm0 cd0 ct0 : Value}
    {f1 : Addr} {od1 an1 : Option Addr} {sl1 : Array (Option Value)} {oc1 kV1 dc1 pm1 cd1 ct1 : Value}
    {f2 : Addr} {od2 an2 : Option Addr} {sl2 : Array (Option Value)} {oc2 kV2 dc2 pm2 cd2 ct2 : Value}
    {f3 : Addr} {od3 an3 : Option Addr} {sl3 : Array (Option Value)} {oc3 kV3 dc3 pm3 cd3 ct3 : Value}
    {f4 : Addr} {od4 an4 : Option Addr} {sl4 : Array (Option Value)} {oc4 kV4 dc4 pm4 cd4 ct4 : Value}
    {f5 : Addr} {od5 an5 : Option Addr} {sl5 : Array (Option Value)} {oc5 kV5 dc5 pm5 cd5 ct5 : Value}
    {f6 : Addr} {od6 an6 : Option Addr} {sl6 : Array (Option Value)} {oc6 kV6 dc6 pm6 cd6 ct6 : Value}
    {f7 : Addr} {od7 an7 : Option Addr} {sl7 : Array (Option Value)} {oc7 kV7 dc7 pm7 cd7 ct7 : Value}
    {f8 : Addr} {od8 an8 : Option Addr} {sl8 : Array (Option Value)} {oc8 kV8 dc8 pm8 cd8 ct8 : Value}
    {f9 : Addr} {od9 an9 : Option Addr} {sl9 : Array (Option Value)} {oc9 kV9 dc9 pm9 cd9 ct9 : Value}
    {f10 : Addr} {od10 an10 : Option Addr} {sl10 : Array (Option Value)} {oc10 kV10 dc10 pm10 cd10 ct10 : Value}
    (a0 : PySem.W.nsIn K mainGlobals "top" = some (some (.ref f0))) (l0 : K.lookup f0 = some ⟨oc0, od0, .func (PySem.W.fnOf "top" "top" (defArgs s_top) (defBody s_top) (defScope s_top) .none kV0 dc0 pm0 an0 cd0 ct0), sl0⟩) (c0 : PySem.W.codeIn K cd0 "top" = true) (k0 : PySem.W.keepIn K (.ref f0) = true)
    (a1 : PySem.W.nsIn K mainGlobals "shifted" = some (some (.ref f1))) (l1 : K.lookup f1 = some ⟨oc1, od1, .func (PySem.W.fnOf "shifted" "shifted" (defArgs s_shifted) (defBody s_shifted) (defScope s_shifted) .none kV1 dc1 pm1 an1 cd1 ct1), sl1⟩) (c1 : PySem.W.codeIn K cd1 "shifted" = true) (k1 : PySem.W.keepIn K (.ref f1) = true)
    (a2 : PySem.W.nsIn K mainGlobals "compute" = some (some (.ref f2))) (l2 : K.lookup f2 = some ⟨oc2, od2, .func (PySem.W.fnOf "compute" "compute" (defArgs s_compute) (defBody s_compute) (defScope s_compute) .none kV2 dc2 pm2 an2 cd2 ct2), sl2⟩) (c2 : PySem.W.codeIn K cd2 "compute" = true) (k2 : PySem.W.keepIn K (.ref f2) = true)
    (a3 : PySem.W.nsIn K mainGlobals "_law_draw" = some (some (.ref f3))) (l3 : K.lookup f3 = some ⟨oc3, od3, .func (PySem.W.fnOf "_law_draw" "_law_draw" (defArgs s__law_draw) (defBody s__law_draw) (defScope s__law_draw) .none kV3 dc3 pm3 an3 cd3 ct3), sl3⟩) (c3 : PySem.W.codeIn K cd3 "_law_draw" = true) (k3 : PySem.W.keepIn K (.ref f3) = true)
    (a4 : PySem.W.nsIn K mainGlobals "_law_take" = some (some (.ref f4))) (l4 : K.lookup f4 = some ⟨oc4, od4, .func (PySem.W.fnOf "_law_take" "_law_take" (defArgs s__law_take) (defBody s__law_take) (defScope s__law_take) .none kV4 dc4 pm4 an4 cd4 ct4), sl4⟩) (c4 : PySem.W.codeIn K cd4 "_law_take" = true) (k4 : PySem.W.keepIn K (.ref f4) = true)
    (a5 : PySem.W.nsIn K mainGlobals "_law_top" = some (some (.ref f5))) (l5 : K.lookup f5 = some ⟨oc5, od5, .func (PySem.W.fnOf "_law_top" "_law_top" (defArgs s__law_top) (defBody s__law_top) (defScope s__law_top) .none kV5 dc5 pm5 an5 cd5 ct5), sl5⟩) (c5 : PySem.W.codeIn K cd5 "_law_top" = true) (k5 : PySem.W.keepIn K (.ref f5) = true)
    (a6 : PySem.W.nsIn K mainGlobals "_law_compute" = some (some (.ref f6))) (l6 : K.lookup f6 = some ⟨oc6, od6, .func (PySem.W.fnOf "_law_compute" "_law_compute" (defArgs s__law_compute) (defBody s__law_compute) (defScope s__law_compute) .none kV6 dc6 pm6 an6 cd6 ct6), sl6⟩) (c6 : PySem.W.codeIn K cd6 "_law_compute" = true) (k6 : PySem.W.keepIn K (.ref f6) = true)
    (a7 : PySem.W.nsIn K mainGlobals "_law_word" = some (some (.ref f7))) (l7 : K.lookup f7 = some ⟨oc7, od7, .func (PySem.W.fnOf "_law_word" "_law_word" (defArgs s__law_word) (defBody s__law_word) (defScope s__law_word) .none kV7 dc7 pm7 an7 cd7 ct7), sl7⟩) (c7 : PySem.W.codeIn K cd7 "_law_word" = true) (k7 : PySem.W.keepIn K (.ref f7) = true)
    (a8 : PySem.W.nsIn K mainGlobals "_law_ops" = some (some (.ref f8))) (l8 : K.lookup f8 = some ⟨oc8, od8, .func (PySem.W.fnOf "_law_ops" "_law_ops" (defArgs s__law_ops) (defBody s__law_ops) (defScope s__law_ops) .none kV8 dc8 pm8 an8 cd8 ct8), sl8⟩) (c8 : PySem.W.codeIn K cd8 "_law_ops" = true) (k8 : PySem.W.keepIn K (.ref f8) = true)
    (a9 : PySem.W.nsIn K mainGlobals "_law_plain" = some (some (.ref f9))) (l9 : K.lookup f9 = some ⟨oc9, od9, .func (PySem.W.fnOf "_law_plain" "_law_plain" (defArgs s__law_plain) (defBody s__law_plain) (defScope s__law_plain) .none kV9 dc9 pm9 an9 cd9 ct9), sl9⟩) (c9 : PySem.W.codeIn K cd9 "_law_plain" = true) (k9 : PySem.W.keepIn K (.ref f9) = true)
    (a10 : PySem.W.nsIn K mainGlobals "law" = some (some (.ref f10))) (l10 : K.lookup f10 = some ⟨oc10, od10, .func (PySem.W.fnOf "law" "law" (defArgs s_law) (defBody s_law) (defScope s_law) .none kV10 dc10 pm10 an10 cd10 ct10), sl10⟩) (c10 : PySem.W.codeIn K cd10 "law" = true) (k10 : PySem.W.keepIn K (.ref f10) = true)
    {a_PAIRS : Addr} {od_PAIRS : Option Addr} {its_PAIRS : Array Value} {n_PAIRS : Nat} {sl_PAIRS : Array (Option Value)}
    (ca_PAIRS : PySem.W.nsIn K mainGlobals "PAIRS" = some (some (.ref a_PAIRS))) (cl_PAIRS : K.lookup a_PAIRS = some ⟨.type "tuple", od_PAIRS, .seq its_PAIRS n_PAIRS, sl_PAIRS⟩) (cs_PAIRS : its_PAIRS.size ≤ sizeLine) (cv_PAIRS : Vals con_PAIRS its_PAIRS.toList)
    {a_SINGLES : Addr} {od_SINGLES : Option Addr} {its_SINGLES : Array Value} {n_SINGLES : Nat} {sl_SINGLES : Array (Option Value)}
    (ca_SINGLES : PySem.W.nsIn K mainGlobals "SINGLES" = some (some (.ref a_SINGLES))) (cl_SINGLES : K.lookup a_SINGLES = some ⟨.type "tuple", od_SINGLES, .seq its_SINGLES n_SINGLES, sl_SINGLES⟩) (cs_SINGLES : its_SINGLES.size ≤ sizeLine) (cv_SINGLES : Vals con_SINGLES its_SINGLES.toList)
    (z_int : PySem.W.nsIn K mainGlobals "int" = some none)
    (z_abs : PySem.W.nsIn K mainGlobals "abs" = some none)
    (z_len : PySem.W.nsIn K mainGlobals "len" = some none)
    (z_min : PySem.W.nsIn K mainGlobals "min" = some none)
    (z_range : PySem.W.nsIn K mainGlobals "range" = some none)
    (z_max : PySem.W.nsIn K mainGlobals "max" = some none)
    (z_isinstance : PySem.W.nsIn K mainGlobals "isinstance" = some none)
    (z_tuple : PySem.W.nsIn K mainGlobals "tuple" = some none)
    (z_list : PySem.W.nsIn K mainGlobals "list" = some none)
    {GOAL : Prop} (R : Txt K mg → Con K mg "PAIRS" con_PAIRS → Con K mg "SINGLES" con_SINGLES → Def K mg "top" ["w"] s_top f0 (PySem.W.fnOf "top" "top" (defArgs s_top) (defBody s_top) (defScope s_top) .none kV0 dc0 pm0 an0 cd0 ct0) → Def K mg "shifted" ["op", "w", "x", "y"] s_shifted f1 (PySem.W.fnOf "shifted" "shifted" (defArgs s_shifted) (defBody s_shifted) (defScope s_shifted) .none kV1 dc1 pm1 an1 cd1 ct1) → Def K mg "compute" ["op", "w", "x", "y"] s_compute f2 (PySem.W.fnOf "compute" "compute" (defArgs s_compute) (defBody s_compute) (defScope s_compute) .none kV2 dc2 pm2 an2 cd2 ct2) → Def K mg "_law_draw" ["script"] s__law_draw f3 (PySem.W.fnOf "_law_draw" "_law_draw" (defArgs s__law_draw) (defBody s__law_draw) (defScope s__law_draw) .none kV3 dc3 pm3 an3 cd3 ct3) → Def K mg "_law_take" ["draw", "many"] s__law_take f4 (PySem.W.fnOf "_law_take" "_law_take" (defArgs s__law_take) (defBody s__law_take) (defScope s__law_take) .none kV4 dc4 pm4 an4 cd4 ct4) → Def K mg "_law_top" ["w"] s__law_top f5 (PySem.W.fnOf "_law_top" "_law_top" (defArgs s__law_top) (defBody s__law_top) (defScope s__law_top) .none kV5 dc5 pm5 an5 cd5 ct5) → Def K mg "_law_compute" ["op", "w", "x", "y"] s__law_compute f6 (PySem.W.fnOf "_law_compute" "_law_compute" (defArgs s__law_compute) (defBody s__law_compute) (defScope s__law_compute) .none kV6 dc6 pm6 an6 cd6 ct6) → Def K mg "_law_word" ["draw", "w"] s__law_word f7 (PySem.W.fnOf "_law_word" "_law_word" (defArgs s__law_word) (defBody s__law_word) (defScope s__law_word) .none kV7 dc7 pm7 an7 cd7 ct7) → Def K mg "_law_ops" [] s__law_ops f8 (PySem.W.fnOf "_law_ops" "_law_ops" (defArgs s__law_ops) (defBody s__law_ops) (defScope s__law_ops) .none kV8 dc8 pm8 an8 cd8 ct8) → Def K mg "_law_plain" ["op", "w", "x", "y"] s__law_plain f9 (PySem.W.fnOf "_law_plain" "_law_plain" (defArgs s__law_plain) (defBody s__law_plain) (defScope s__law_plain) .none kV9 dc9 pm9 an9 cd9 ct9) → Def K mg "law" ["script"] s_law f10 (PySem.W.fnOf "law" "law" (defArgs s_law) (defBody s_law) (defScope s_law) .none kV10 dc10 pm10 an10 cd10 ct10) → GOAL) : GOAL := by
  refine R ⟨PySem.W.mg_none_of X G z_int, PySem.W.mg_none_of X G z_abs, PySem.W.mg_none_of X G z_len, PySem.W.mg_none_of X G z_min, PySem.W.mg_none_of X G z_range, PySem.W.mg_none_of X G z_max, PySem.W.mg_none_of X G z_isinstance, PySem.W.mg_none_of X G z_tuple, PySem.W.mg_none_of X G z_list⟩ ⟨a_PAIRS, od_PAIRS, its_PAIRS, n_PAIRS, sl_PAIRS, PySem.W.mg_of X G ca_PAIRS, cl_PAIRS, cs_PAIRS, cv_PAIRS⟩ ⟨a_SINGLES, od_SINGLES, its_SINGLES, n_SINGLES, sl_SINGLES, PySem.W.mg_of X G ca_SINGLES, cl_SINGLES, cs_SINGLES, cv_SINGLES⟩ ?_ ?_ ?_ ?_ ?_ ?_ ?_ ?_ ?_ ?_ ?_
  · exact ⟨fun_mk (st := s_top) l0 c0 k0, PySem.W.mg_of X G a0, (fun_mk (st := s_top) l0 c0 k0).binds (ps := ["w"]) fun _ _ _ _ _ _ us hl => match us, hl with | [_], _ => rfl⟩
  · exact ⟨fun_mk (st := s_shifted) l1 c1 k1, PySem.W.mg_of X G a1, (fun_mk (st := s_shifted) l1 c1 k1).binds (ps := ["op", "w", "x", "y"]) fun _ _ _ _ _ _ us hl => match us, hl with | [_, _, _, _], _ => rfl⟩
  · exact ⟨fun_mk (st := s_compute) l2 c2 k2, PySem.W.mg_of X G a2, (fun_mk (st := s_compute) l2 c2 k2).binds (ps := ["op", "w", "x", "y"]) fun _ _ _ _ _ _ us hl => match us, hl with | [_, _, _, _], _ => rfl⟩
  · exact ⟨fun_mk (st := s__law_draw) l3 c3 k3, PySem.W.mg_of X G a3, (fun_mk (st := s__law_draw) l3 c3 k3).binds (ps := ["script"]) fun _ _ _ _ _ _ us hl => match us, hl with | [_], _ => rfl⟩
  · exact ⟨fun_mk (st := s__law_take) l4 c4 k4, PySem.W.mg_of X G a4, (fun_mk (st := s__law_take) l4 c4 k4).binds (ps := ["draw", "many"]) fun _ _ _ _ _ _ us hl => match us, hl with | [_, _], _ => rfl⟩
  · exact ⟨fun_mk (st := s__law_top) l5 c5 k5, PySem.W.mg_of X G a5, (fun_mk (st := s__law_top) l5 c5 k5).binds (ps := ["w"]) fun _ _ _ _ _ _ us hl => match us, hl with | [_], _ => rfl⟩
  · exact ⟨fun_mk (st := s__law_compute) l6 c6 k6, PySem.W.mg_of X G a6, (fun_mk (st := s__law_compute) l6 c6 k6).binds (ps := ["op", "w", "x", "y"]) fun _ _ _ _ _ _ us hl => match us, hl with | [_, _, _, _], _ => rfl⟩
  · exact ⟨fun_mk (st := s__law_word) l7 c7 k7, PySem.W.mg_of X G a7, (fun_mk (st := s__law_word) l7 c7 k7).binds (ps := ["draw", "w"]) fun _ _ _ _ _ _ us hl => match us, hl with | [_, _], _ => rfl⟩
  · exact ⟨fun_mk (st := s__law_ops) l8 c8 k8, PySem.W.mg_of X G a8, (fun_mk (st := s__law_ops) l8 c8 k8).binds (ps := []) fun _ _ _ _ _ _ us hl => match us, hl with | [], _ => rfl⟩
  · exact ⟨fun_mk (st := s__law_plain) l9 c9 k9, PySem.W.mg_of X G a9, (fun_mk (st := s__law_plain) l9 c9 k9).binds (ps := ["op", "w", "x", "y"]) fun _ _ _ _ _ _ us hl => match us, hl with | [_, _, _, _], _ => rfl⟩
  · exact ⟨fun_mk (st := s_law) l10 c10 k10, PySem.W.mg_of X G a10, (fun_mk (st := s_law) l10 c10 k10).binds (ps := ["script"]) fun _ _ _ _ _ _ us hl => match us, hl with | [_], _ => rfl⟩
theorem fin {l : PySem.W.OpenLaw} {w : World} {K : PySem.W.Frag} {mg : Str → Option Value} {fa : Addr} (hfa : mg "law" = some (.ref fa)) {f0 f1 f2 f3 f4 f5 f6 f7 f8 f9 f10 : Addr} {d0 d1 d2 d3 d4 d5 d6 d7 d8 d9 d10 : FuncData} (T : Txt K mg) (C1 : Con K mg "PAIRS" con_PAIRS) (C2 : Con K mg "SINGLES" con_SINGLES)
    (D0 : Def K mg "top" ["w"] s_top f0 d0) (D1 : Def K mg "shifted" ["op", "w", "x", "y"] s_shifted f1 d1) (D2 : Def K mg "compute" ["op", "w", "x", "y"] s_compute f2 d2) (D3 : Def K mg "_law_draw" ["script"] s__law_draw f3 d3) (D4 : Def K mg "_law_take" ["draw", "many"] s__law_take f4 d4) (D5 : Def K mg "_law_top" ["w"] s__law_top f5 d5) (D6 : Def K mg "_law_compute" ["op", "w", "x", "y"] s__law_compute f6 d6) (D7 : Def K mg "_law_word" ["draw", "w"] s__law_word f7 d7) (D8 : Def K mg "_law_ops" [] s__law_ops f8 d8) (D9 : Def K mg "_law_plain" ["op", "w", "x", "y"] s__law_plain f9 d9) (D10 : Def K mg "law" ["script"] s_law f10 d10)
    (hb : ∀ (s : Shared) (v : Value), BindsTo s d10 ⟨[v], []⟩ [("script", v)]) :
    ∃ fd : FuncData, (∀ (s : Shared) (v : Value), BindsTo s fd ⟨[v], []⟩ [("script", v)]) ∧ ∀ base : Heap, K.In base → base.Ns mainGlobals mg → FnOk l.prog w K mg base CX0 4 fa fd ["script"] (spLaw K) := by
  have e := hfa.symm.trans D10.mg
  cases e
  refine ⟨d10, hb, fun base _ _ => ?_⟩
  have o0 := ok_top (P := l.prog) (w := w) (base := base) D0
  have o5 := ok__law_top (P := l.prog) (w := w) (base := base) D5
  have o4 := ok__law_take (P := l.prog) (w := w) (base := base) T D4
  exact ok_law T C1 C2 D10 (ok__law_draw T D3) o5 o4 (ok__law_word T D7 o5 o4) (ok__law_ops T D8) (ok_compute T D2 o0 (ok_shifted D1 o0)) (ok__law_plain T D9) (ok__law_compute T D6 o5) o0
theorem walk {l : PySem.W.OpenLaw} {q : Program} {loose : List Str} {XP : (Str → Option Value) → Heap → Prop} {YP : World → Heap → Prop} {d : DefRec} {K : Params → PySem.W.Frag} (hn : l.most = some 63) (hdf : d.params.defaults = [])
    (hY : ∀ (w : World) (h : Heap), YP w h → (K w.params).In h)
    (F : ∀ (w : World) (mg : Str → Option Value) (fa : Addr) (h : Heap), (K w.params).In h → h.Ns mainGlobals mg → mg d.name = some (.ref fa) →
      ∃ fd : FuncData, (∀ (s : Shared) (u : Value), BindsTo s fd ⟨[u], []⟩ [("script", u)]) ∧ ∀ base : Heap, (K w.params).In base → base.Ns mainGlobals mg → FnOk l.prog w (K w.params) mg base CX0 4 fa fd ["script"] (spLaw (K w.params))) :
    PySem.W.WalkO q loose XP YP l.row.toRowW d [] (fun f vs => PySem.call f vs) :=
  L2.walk_of (n := 63) (k := 4) (x := "script") (CX := fun _ => CX0) (sp := fun w => spLaw (K w.params)) hn (by decide) hdf ⟨rfl, by decide, by decide⟩ hY F (fun _ _ a ns hl _ hS => ⟨a, ns, rfl, hS, hl, fun _ => rfl⟩) fun _ _ _ _ _ z => z
end My

open PySem PySem.W PyProof.Rows in
set_option maxRecDepth 100000 in
set_option maxHeartbeats 0 in
theorem PySem.Challenge.cw_inputways_k00_words_holds : PySem.Challenge.rw_inputways_k00_words.Holds := by
  w_on; o_law; k_head; (case hw => w_witness2)
  k_fill
  refine My.walk (l := PySem.Challenge.rw_inputways_k00_words) rfl rfl (fun w h Y => PySem.W.kIn_of Y) ?F
  case F =>
    intro w mg fa h KX G hmg
    refine' My.all_mk KX G hmg ?a0 ?l0 ?c0 ?k0 ?a1 ?l1 ?c1 ?k1 ?a2 ?l2 ?c2 ?k2 ?a3 ?l3 ?c3 ?k3 ?a4 ?l4 ?c4 ?k4 ?a5 ?l5 ?c5 ?k5 ?a6 ?l6 ?c6 ?k6 ?a7 ?l7 ?c7 ?k7 ?a8 ?l8 ?c8 ?k8 ?a9 ?l9 ?c9 ?k9 ?a10 ?l10 ?c10 ?k10 ?ca_PAIRS ?cl_PAIRS ?cs_PAIRS ?cv_PAIRS ?ca_SINGLES ?cl_SINGLES ?cs_SINGLES ?cv_SINGLES ?z_int ?z_abs ?z_len ?z_min ?z_range ?z_max ?z_isinstance ?z_tuple ?z_list (fun T C1 C2 D0 D1 D2 D3 D4 D5 D6 D7 D8 D9 D10 => My.fin hmg T C1 C2 D0 D1 D2 D3 D4 D5 D6 D7 D8 D9 D10 (fun s v => .of_eq rfl))
    (case a0 => k_is)
    (case l0 => k_is)
    (case c0 => k_is)
    (case k0 => k_is)
    (case a1 => k_is)
    (case l1 => k_is)
    (case c1 => k_is)
    (case k1 => k_is)
    (case a2 => k_is)
    (case l2 => k_is)
    (case c2 => k_is)
    (case k2 => k_is)
    (case a3 => k_is)
    (case l3 => k_is)
    (case c3 => k_is)
    (case k3 => k_is)
    (case a4 => k_is)
    (case l4 => k_is)
    (case c4 => k_is)
    (case k4 => k_is)
    (case a5 => k_is)
    (case l5 => k_is)
    (case c5 => k_is)
    (case k5 => k_is)
    (case a6 => k_is)
    (case l6 => k_is)
    (case c6 => k_is)
    (case k6 => k_is)
    (case a7 => k_is)
    (case l7 => k_is)
    (case c7 => k_is)
    (case k7 => k_is)
    (case a8 => k_is)
    (case l8 => k_is)
    (case c8 => k_is)
    (case k8 => k_is)
    (case a9 => k_is)
    (case l9 => k_is)
    (case c9 => k_is)
    (case k9 => k_is)
    (case a10 => k_is)
    (case l10 => k_is)
    (case c10 => k_is)
    (case k10 => k_is)
    (case ca_PAIRS => k_is)
    (case cl_PAIRS => k_is)
    (case cs_PAIRS => decide +kernel)
    (case cv_PAIRS => (repeat (first | exact .nil | refine .cons ⟨_, rfl⟩ ?_)))
    (case ca_SINGLES => k_is)
    (case cl_SINGLES => k_is)
    (case cs_SINGLES => decide +kernel)
    (case cv_SINGLES => (repeat (first | exact .nil | refine .cons ⟨_, rfl⟩ ?_)))
    (case z_int => k_is)
    (case z_abs => k_is)
    (case z_len => k_is)
    (case z_min => k_is)
    (case z_range => k_is)
    (case z_max => k_is)
    (case z_isinstance => k_is)
    (case z_tuple => k_is)
    (case z_list => k_is)
#print axioms PySem.Challenge.cw_inputways_k00_words_holds
