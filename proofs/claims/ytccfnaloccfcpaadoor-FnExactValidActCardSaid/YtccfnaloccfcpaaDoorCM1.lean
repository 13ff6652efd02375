/- The mathematics of ranges, slices, shapes and indices that the contracts speak of. -/
import Derived.Test.YtccfnaloccfcpaaDoorCW3
set_option linter.unusedVariables false
set_option linter.unusedSimpArgs false
set_option linter.unnecessarySimpa false
set_option maxRecDepth 4000
namespace VwM
open Vw
open Go

abbrev rng (a b c : Int) : AV := .agg [.int .i64 a, .int .i64 b, .int .i64 c]
abbrev slc (f t b : Int) (hf ht : Bool) : AV := .agg [.int .i64 f, .int .i64 t, .int .i64 b, .bool hf, .bool ht]
abbrev IL (xs : List Int) : List AV := xs.map (AV.int .i64)
abbrev RI (xs : List Int) : AV := .rows false (IL xs) xs.length
abbrev OI (xs : List Int) : AV → List (List AV) → Prop := fun r H' => r = .own 0 xs.length 1 ∧ H' = [IL xs]
def vR (a b c : Int) : Bool := decide (-100 ≤ a) && decide (a ≤ 100) && (decide (-101 ≤ b) && decide (b ≤ 101)) && (decide (-200 ≤ c) && decide (c ≤ 200) && !decide (c = 0))
def vS (f t b : Int) (hf ht : Bool) : Bool := decide (-100 ≤ f) && decide (f ≤ 100) && (decide (-100 ≤ t) && decide (t ≤ 100)) && (decide (-200 ≤ b) && decide (b ≤ 200)) && !decide (b = 0) && (hf || decide (f = 0)) && (ht || decide (t = 0))
theorem mkAV_ints0 (k : IntKind) (xs : List Int) : mkAV false ((xs.map (AV.int k)).take 1) = if 0 < xs.length then some (.int k (xs.getD 0 0)) else none := by
  haveI : Inhabited GlobT := ⟨⟨[]⟩⟩
  have := mkAV_ints k xs 0
  rwa [List.drop_zero] at this
attribute [push_cast] mkAV_ints mkAV_ints0


theorem list_eq_of {xs ys : List Int} (hl : xs.length = ys.length) (h : ∀ j : Nat, j < xs.length → xs.getD j 0 = ys.getD j 0) : xs = ys := by
  refine List.ext_getElem hl fun i h1 h2 => ?_
  have := h i h1
  simpa [List.getD, h1, h2] using this


def upFrom (k : Int) (n : Nat) : List Int := (List.range n).map fun i : Nat => k + (i : Int)
theorem upFrom_length (k : Int) (n : Nat) : (upFrom k n).length = n := by simp [upFrom]
attribute [simp] upFrom_length
attribute [push_cast] upFrom_length
def marked (k : Int) (xs : List Int) (j : Nat) : List Int := upFrom k j ++ xs.drop j
def cntI (a b c : Int) : Int :=
  if c < 0 then (if 0 - (b - a) ≤ 0 then 0 else (0 - (b - a) + (0 - c) - 1).tdiv (0 - c)) else (if b - a ≤ 0 then 0 else (b - a + c - 1).tdiv c)
theorem tdiv_bound {x y : Int} (hy : 0 < y) (hx : 0 ≤ x) : 0 ≤ x.tdiv y ∧ x.tdiv y ≤ x := by
  rw [Int.tdiv_eq_ediv_of_nonneg hx]
  exact ⟨Int.ediv_nonneg hx (by omega), Int.ediv_le_self _ hx⟩
def nums (a c : Int) (k : Nat) : List Int := (List.range k).map fun i : Nat => a + (i : Int) * c
theorem nums_length (a c : Int) (k : Nat) : (nums a c k).length = k := by simp [nums]
attribute [simp] nums_length
attribute [push_cast] nums_length
def cntN (a b c : Int) : Nat := (cntI a b c).toNat
def filled (g : Nat → Int) (n j : Nat) : List Int := (List.range n).map fun i => if i < j then g i else 0
theorem filled_zero (g : Nat → Int) (n : Nat) : filled g n 0 = List.replicate n 0 := by
  refine List.ext_getElem? fun i => ?_
  by_cases h : i < n <;> simp [filled, h]
theorem filled_length (g : Nat → Int) (n j : Nat) : (filled g n j).length = n := by simp [filled]
attribute [simp] filled_length
attribute [push_cast] filled_length
theorem filled_set (g : Nat → Int) (n j : Nat) (h : j < n) : (filled g n j).set j (g j) = filled g n (j + 1) := by
  refine List.ext_getElem? fun i => ?_
  simp only [filled, List.getElem?_set, List.length_map, List.length_range, List.getElem?_map]
  by_cases h1 : j = i
  · subst h1; simp [h]
  · by_cases h2 : i < n
    · simp only [List.getElem?_range h2, Option.map_some, if_neg h1]
      congr 1
      by_cases h3 : i < j
      · rw [if_pos h3, if_pos (by omega)]
      · rw [if_neg h3, if_neg (by omega)]
    · simp [h1, h2]
theorem filled_all (g : Nat → Int) (n : Nat) : filled g n n = (List.range n).map g := by
  refine List.map_congr_left fun i hi => ?_
  rw [if_pos (List.mem_range.1 hi)]
theorem IL_set (xs : List Int) (j : Nat) (v : Int) : (IL xs).set j (.int .i64 v) = IL (xs.set j v) := by simp [IL, List.map_set]
def numsOf (a b c : Int) : List Int := if vR a b c = true then nums a c (cntN a b c) else []


theorem toNat_succ (k : Nat) : ((k : Int) + 1).toNat = k + 1 := by omega
theorem IL_tail (k : IntKind) (xs : List Int) (j : Nat) : (((xs.map (AV.int k)).drop j).take (xs.length - j)) = (xs.drop j).map (AV.int k) := by
  rw [← List.map_drop, ← List.map_take]
  congr 1
  exact List.take_of_length_le (by simp)
attribute [push_cast] toNat_succ IL_tail
def pr (xs : List Int) : Int := xs.foldl (· * ·) 1
theorem foldl_mul (xs : List Int) (a : Int) : xs.foldl (· * ·) a = a * pr xs := by
  induction xs generalizing a with
  | nil => simp [pr]
  | cons x r ih => simp only [List.foldl_cons, pr]; rw [ih, ih (1 * x)]; rw [Int.one_mul, Int.mul_assoc]
theorem pr_cons (x : Int) (xs : List Int) : pr (x :: xs) = x * pr xs := by
  show (x :: xs).foldl (· * ·) 1 = _
  rw [List.foldl_cons, foldl_mul, Int.one_mul]
theorem drop_getD (xs : List Int) (k : Nat) (h : k < xs.length) : xs.drop k = xs.getD k 0 :: xs.drop (k + 1) := by
  rw [List.drop_eq_getElem_cons h]; simp [List.getD, h]
theorem pr_drop (xs : List Int) (k : Nat) (h : k < xs.length) : pr (xs.drop k) = xs.getD k 0 * pr (xs.drop (k + 1)) := by rw [drop_getD xs k h, pr_cons]
def good4 (xs : List Int) : Prop := (∀ x ∈ xs, 0 ≤ x ∧ x ≤ 60) ∧ xs.length ≤ 4
theorem good4_at {xs : List Int} (h : good4 xs) {k : Nat} (hk : k < xs.length) : 0 ≤ xs.getD k 0 ∧ xs.getD k 0 ≤ 60 := by
  refine h.1 _ ?_
  simp [List.getD, hk]
def allI (xs : List Int) (l h : Int) : Bool := xs.all fun x => decide (l ≤ x) && decide (x ≤ h)
theorem allI_iff {xs : List Int} {l h : Int} : allI xs l h = true ↔ ∀ x ∈ xs, l ≤ x ∧ x ≤ h := by simp [allI]
theorem allI_getD {xs : List Int} {l h : Int} : (∀ j : Nat, j < xs.length → l ≤ xs.getD j 0 ∧ xs.getD j 0 ≤ h) → allI xs l h = true := by
  intro hj
  rw [allI_iff]
  intro x hx
  obtain ⟨i, hi, rfl⟩ := List.getElem_of_mem hx
  have := hj i hi
  simpa [List.getD, hi] using this
theorem allI_false {xs : List Int} {l h : Int} {j : Nat} (hj : j < xs.length) (hx : xs.getD j 0 < l ∨ h < xs.getD j 0) : allI xs l h = false := by
  rw [Bool.eq_false_iff]
  intro ht
  have := (allI_iff.1 ht) (xs.getD j 0) (by simp [List.getD, hj])
  omega
def vSh (sh : List Int) : Bool := decide (sh.length ≤ 4) && allI sh 0 60 && decide (pr sh ≤ 60)
theorem filled_getD (xs : List Int) : (List.range xs.length).map (fun i : Nat => xs.getD i 0) = xs := by
  refine List.ext_getElem (by simp) fun i h1 h2 => ?_
  simp [List.getD, h2]



def rowS (sh : List Int) : List Int := (List.range sh.length).map fun i : Nat => pr (sh.drop (i + 1))
def colS (sh : List Int) : List Int := (List.range sh.length).map fun i : Nat => pr (sh.take i)
theorem rowS_length (sh : List Int) : (rowS sh).length = sh.length := by simp [rowS]
theorem colS_length (sh : List Int) : (colS sh).length = sh.length := by simp [colS]
attribute [simp] rowS_length colS_length
attribute [push_cast] rowS_length colS_length
def filledD (g : Nat → Int) (n k : Nat) : List Int := (List.range n).map fun i => if n - k ≤ i then g i else 0
theorem filledD_length (g : Nat → Int) (n k : Nat) : (filledD g n k).length = n := by simp [filledD]
attribute [simp] filledD_length
attribute [push_cast] filledD_length
def kS (sh : List Int) (k : Int) : Nat → Int
  | 0 => k
  | j + 1 => (kS sh k j).tdiv (sh.getD (sh.length - 1 - j) 0)
def dig (sh : List Int) (k : Int) (i : Nat) : Int := (kS sh k (sh.length - 1 - i)).tmod (sh.getD i 0)
def unr (sh : List Int) (k : Int) : List Int := (List.range sh.length).map (dig sh k)
theorem unr_length (sh : List Int) (k : Int) : (unr sh k).length = sh.length := by simp [unr]
attribute [simp] unr_length
attribute [push_cast] unr_length
theorem pr_zero {xs : List Int} {i : Nat} (hi : i < xs.length) (h : xs.getD i 0 = 0) : pr xs = 0 := by
  have e : xs = xs.take i ++ xs.drop i := (List.take_append_drop i xs).symm
  rw [e, pr, List.foldl_append, foldl_mul, pr_drop xs i hi, h]
  simp
theorem kS_bound {sh : List Int} {k : Int} (hk : 0 ≤ k) (hp : ∀ i, i < sh.length → 1 ≤ sh.getD i 0) : ∀ j, j ≤ sh.length → 0 ≤ kS sh k j ∧ kS sh k j ≤ k
  | 0, _ => by simp [kS, hk]
  | j + 1, h => by
    have ih := kS_bound hk hp j (by omega)
    have h1 := hp (sh.length - 1 - j) (by omega)
    have := tdiv_bound (x := kS sh k j) (y := sh.getD (sh.length - 1 - j) 0) (by omega) ih.1
    simp only [kS]
    omega
theorem pos_of_pr {sh : List Int} (hg : good4 sh) (h : 1 ≤ pr sh) : ∀ i, i < sh.length → 1 ≤ sh.getD i 0 := by
  intro i hi
  have h1 := good4_at hg hi
  rcases Int.lt_or_le 0 (sh.getD i 0) with h2 | h2
  · omega
  · have := pr_zero hi (by omega)
    omega
theorem dig_bound {sh : List Int} {k : Int} (hk : 0 ≤ k) (hp : ∀ i, i < sh.length → 1 ≤ sh.getD i 0) (hle : ∀ i, i < sh.length → sh.getD i 0 ≤ 60) {i : Nat} (hi : i < sh.length) : 0 ≤ dig sh k i ∧ dig sh k i < sh.getD i 0 := by
  have h1 := kS_bound hk hp (sh.length - 1 - i) (by omega)
  have h2 := hp i hi
  unfold dig
  exact ⟨Int.tmod_nonneg _ h1.1, Int.tmod_lt_of_pos _ (by omega)⟩
def pad4 (f : Nat → Int) : List Int := [f 0, f 1, f 2, f 3]
theorem pad4_length (f : Nat → Int) : (pad4 f).length = 4 := rfl
theorem setRange_pad4 (a b c d : AV) (f : Nat → Int) : setRange [a, b, c, d] 0 ((pad4 f).map (AV.int .i64)) = (pad4 f).map (AV.int .i64) := by simp [pad4, setRange]
theorem setRange_pad4' (g f : Nat → Int) : setRange ((pad4 g).map (AV.int .i64)) 0 ((pad4 f).map (AV.int .i64)) = (pad4 f).map (AV.int .i64) := by simp [pad4, setRange]
theorem take_pad4 (f : Nat → Int) : ((pad4 f).map (AV.int .i64)).take 4 = (pad4 f).map (AV.int .i64) := by simp [pad4]
attribute [simp] pad4_length
attribute [push_cast] pad4_length setRange_pad4 setRange_pad4' take_pad4
def padD (xs : List Int) (k : Int) (j i : Nat) : Int := if i < xs.length ∧ xs.length - j ≤ i then dig xs k i else 0
abbrev AP (f : Nat → Int) : AV := .agg (IL (pad4 f))
def digP (sh : List Int) (k : Int) (i : Nat) : Int := if i < sh.length then dig sh k i else 0


def vIx (sh idx : List Int) : Bool := decide (idx.length = sh.length) && (List.range idx.length).all fun i => decide (0 ≤ idx.getD i 0) && decide (idx.getD i 0 ≤ sh.getD i 0 - 1)
def hor (sh idx : List Int) : Nat → Int
  | 0 => 0
  | k + 1 => hor sh idx k * sh.getD k 0 + idx.getD k 0
def dot (f : Nat → Int) (st : List Int) : Nat → Int
  | 0 => 0
  | k + 1 => dot f st k + f k * st.getD k 0
theorem dot_congr {f g : Nat → Int} {st : List Int} : ∀ {k : Nat}, (∀ i, i < k → f i = g i) → dot f st k = dot g st k
  | 0, _ => rfl
  | k + 1, h => by simp only [dot]; rw [dot_congr fun i hi => h i (by omega), h k (by omega)]
def idxP (sh idx : List Int) (i : Nat) : Int := if vIx sh idx = true ∧ i < sh.length then idx.getD i 0 else 0
def rankD (sh idx : List Int) : Int := if vSh sh = true ∧ vIx sh idx = true then dot (fun i => idx.getD i 0) (rowS sh) sh.length else -1


abbrev VW (b : Int) (s t : AV) : AV := .agg [.int .i64 b, s, t]
abbrev RV (b : Int) (sh st : List Int) : AV := .agg [.int .i64 b, RI sh, RI st]
abbrev OV (b : Int) (sh st : List Int) : AV → List (List AV) → Prop := fun r H' => r = .agg [.int .i64 b, .own 0 sh.length 1, .own 1 st.length 1] ∧ H' = [IL sh, IL st]


def newSt (sh : List Int) : List Int := if pr sh = 0 then List.replicate sh.length 0 else rowS sh
def endI (x n b : Int) : Int := min (max (if b < 0 then -1 else 0) (if x < 0 then x + n else x)) (if b < 0 then n - 1 else n)
def sFrom (f n b : Int) (hf : Bool) : Int := if hf = true then endI f n b else if b < 0 then n - 1 else 0
def sTo (t n b : Int) (ht : Bool) : Int := if ht = true then endI t n b else if b < 0 then -1 else n
def idxOf (n f t b : Int) (hf ht : Bool) : List Int := if vS f t b hf ht = true ∧ 0 ≤ n ∧ n ≤ 60 then nums (sFrom f n b hf) b (cntN (sFrom f n b hf) (sTo t n b ht) b) else []
def pS (a k : Int) : Int := if k < 1 then 0 else a
def pE (a c k : Int) : Int := if k < 1 then 0 else if k = 1 then a + 1 else if c < 0 then a + (k - 1) * c - 1 else a + (k - 1) * c + 1
def pC (c k : Int) : Int := if k ≤ 1 then 1 else c
abbrev PR (a c k : Int) : AV := rng (pS a k) (pE a c k) (pC c k)


def slRg (a b c f t w : Int) (hf ht : Bool) : AV :=
  if vR a b c = true ∧ vS f t w hf ht = true ∧ cntN a b c ≤ 60 then PR (a + sFrom f (cntN a b c) w hf * c) (c * w) (cntN (sFrom f (cntN a b c) w hf) (sTo t (cntN a b c) w ht) w) else rng 0 0 0
def mgSome (n f t w : Int) (hf ht : Bool) (f' t' w' : Int) (hf' ht' : Bool) : AV :=
  let u := sFrom f n w hf
  let k := cntN u (sTo t n w ht) w
  let u' := sFrom f' k w' hf'
  let k' := cntN u' (sTo t' k w' ht') w'
  slc (pS (u + u' * w) k') (if pE (u + u' * w) (w * w') k' < 0 then 0 else pE (u + u' * w) (w * w') k') (pC (w * w') k') true (!decide (pE (u + u' * w) (w * w') k' < 0))
def mgS (n f t w : Int) (hf ht : Bool) (f' t' w' : Int) (hf' ht' : Bool) : AV :=
  if (0 ≤ n ∧ n ≤ 60) ∧ vS f t w hf ht = true ∧ vS f' t' w' hf' ht' = true then mgSome n f t w hf ht f' t' w' hf' ht' else slc 0 0 0 false false
end VwM
set_option linter.unusedVariables false
set_option linter.unusedSimpArgs false
set_option linter.unnecessarySimpa false
set_option maxRecDepth 4000
namespace VwM
open Vw
open Go

def placeI (xs : List Int) (x : Int) : Int := if x ∈ xs then (xs.idxOf x : Int) else -1
def nrmA (xs : List Int) : AV :=
  if xs.length = 0 then rng 0 0 1 else if xs.length = 1 then rng (xs.getD 0 0) (xs.getD 0 0 + 1) 1 else
    rng (xs.getD 0 0) (if xs.getD 1 0 - xs.getD 0 0 < 0 then xs.getD (xs.length - 1) 0 - 1 else xs.getD (xs.length - 1) 0 + 1) (xs.getD 1 0 - xs.getD 0 0)
def ascL (xs : List Int) : List Int := if 1 < xs.length ∧ xs.getD 0 0 > xs.getD 1 0 then xs.reverse else xs
def aS (a c : Int) (n : Nat) : Int := if c < 0 then a + ((n : Int) - 1) * c else a
def aC (c : Int) : Int := if c < 0 then 0 - c else c
def commL (xs ys : List Int) : List Int := xs.filter fun x => decide (x ∈ ys)
def revT (xs : List Int) (k : Nat) : List Int := xs.reverse.take k
def meA (a b c a' b' c' : Int) : AV := if vR a b c = true ∧ vR a' b' c' = true then nrmA (commL (nums (aS a c (cntN a b c)) (aC c) (cntN a b c)) (nums (aS a' c' (cntN a' b' c')) (aC c') (cntN a' b' c'))) else rng 0 0 0
def cvB (a b c a' b' c' : Int) : Bool := vR a b c && vR a' b' c' && decide (∀ x ∈ nums a' c' (cntN a' b' c'), x ∈ nums a c (cntN a b c))
end VwM
set_option linter.unusedVariables false
set_option linter.unusedSimpArgs false
set_option linter.unnecessarySimpa false
set_option maxRecDepth 4000
namespace VwM
open Vw
open Go

def horF (sh : List Int) (f : Nat → Int) : Nat → Int
  | 0 => 0
  | k + 1 => horF sh f k * sh.getD k 0 + f k
def isIx (sh : List Int) (f : Nat → Int) : Prop := ∀ i, i < sh.length → 0 ≤ f i ∧ f i < sh.getD i 0
theorem dig_isIx {sh : List Int} (hg : good4 sh) {k : Int} (hk : 0 ≤ k) (h : k < pr sh) : isIx sh (dig sh k) := fun i hi =>
  dig_bound hk (pos_of_pr hg (by omega)) (fun i hi => (good4_at hg hi).2) hi

def cellK (b : Int) (sh st : List Int) (k : Int) : Int := b + dot (dig sh k) st sh.length
def offs (b : Int) (sh st : List Int) : List Int := (List.range (pr sh).toNat).map fun k : Nat => cellK b sh st k
def vSt (st : List Int) (n : Nat) : Bool := decide (st.length = n) && allI st (-60) 60
def vV (b : Int) (sh st : List Int) : Bool := vSh sh && vSt st sh.length && (decide (0 ≤ b) && decide (b ≤ 60)) && (decide (pr sh = 0) || allI (offs b sh st) 0 59)
def lowS (sh st : List Int) : Nat → Int
  | 0 => 0
  | k + 1 => lowS sh st k + min ((sh.getD k 0 - 1) * st.getD k 0) 0
def highS (sh st : List Int) : Nat → Int
  | 0 => 0
  | k + 1 => highS sh st k + max ((sh.getD k 0 - 1) * st.getD k 0) 0
def bdL (b : Int) (sh st : List Int) : Int := if pr sh = 0 then -1 else b + lowS sh st sh.length
def bdH (b : Int) (sh st : List Int) : Int := if pr sh = 0 then -1 else b + highS sh st sh.length
def mnL (xs : List Int) : Nat → Int
  | 0 => xs.getD 0 0
  | k + 1 => min (mnL xs k) (xs.getD k 0)
def mxL (xs : List Int) : Nat → Int
  | 0 => xs.getD 0 0
  | k + 1 => max (mxL xs k) (xs.getD k 0)
end VwM
set_option linter.unusedVariables false
set_option linter.unusedSimpArgs false
set_option linter.unnecessarySimpa false
set_option maxRecDepth 4000
namespace VwM
open Vw
open Go

abbrev UL (bs : List Int) : List AV := bs.map (AV.int .u8)
abbrev RD (bs : List Int) (p : Int) : List AV := [.rows false (UL bs) bs.length, .int .i64 p]
def okB (bs : List Int) : Prop := bs.length ≤ 2000 ∧ ∀ x ∈ bs, 0 ≤ x ∧ x ≤ 255
def unI : List AV → List Int
  | [] => []
  | .int _ n :: r => n :: unI r
  | _ :: r => 0 :: unI r
theorem unI_nil : unI [] = [] := rfl
theorem unI_cons (k : IntKind) (n : Int) (r : List AV) : unI (.int k n :: r) = n :: unI r := rfl
theorem unI_IL (xs : List Int) : unI (IL xs) = xs := by
  induction xs with
  | nil => rfl
  | cons x r ih => show x :: unI (IL r) = _; rw [ih]
attribute [simp] unI_nil unI_cons unI_IL
end VwM
set_option linter.unusedVariables false
set_option linter.unusedSimpArgs false
set_option linter.unnecessarySimpa false
set_option maxRecDepth 4000
namespace VwM
open Vw
open Go

def lenI (a b c : Int) : Int := if vR a b c = true then cntN a b c else -1
def nrR (a b c : Int) : AV := if vR a b c = true then PR a c (cntN a b c) else rng 0 0 0
def rvR (a b c : Int) : AV := if vR a b c = true then PR (a + ((cntN a b c : Int) - 1) * c) (0 - c) (cntN a b c) else rng 0 0 0
def plI (a b c x : Int) : Int := if vR a b c = true then placeI (nums a c (cntN a b c)) x else -1
def fromEnd (i n : Int) : Int := if i < 0 then i + n else i
def naB (a b c i : Int) : Bool := vR a b c && decide (0 ≤ fromEnd i (cntN a b c)) && decide (fromEnd i (cntN a b c) < cntN a b c)
def naI (a b c i : Int) : Int := if naB a b c i = true then a + fromEnd i (cntN a b c) * c else 0
end VwM
set_option linter.unusedVariables false
set_option linter.unusedSimpArgs false
set_option linter.unnecessarySimpa false
set_option maxRecDepth 4000
namespace VwM
open Vw
open Go

end VwM
set_option linter.unusedVariables false
set_option linter.unusedSimpArgs false
set_option linter.unnecessarySimpa false
set_option maxRecDepth 4000
namespace VwM
open Vw
open Go

def sumT (xs : List Int) : Nat → Int
  | 0 => 0
  | k + 1 => sumT xs k + xs.getD k 0
def sumI (a b c : Int) : Int := if vR a b c = true then sumT (nums a c (cntN a b c)) (cntN a b c) else 0
def takesL (xs at_ : List Int) : List Int := at_.map fun i => xs.getD i.toNat 0
end VwM
set_option linter.unusedVariables false
set_option linter.unusedSimpArgs false
namespace VwM
open Vw Go

def vMem (mem : List Int) : Bool := decide (mem.length ≤ 60) && allI mem 0 255
def seeB (mem : List Int) (b : Int) (sh st : List Int) : Bool := vMem mem && vV b sh st && allI (offs b sh st) 0 ((mem.length : Int) - 1)

def wdt (sh st : List Int) : Nat := if sh.length = 0 then 1 else if st.getD (sh.length - 1) 0 = 1 then (sh.getD (sh.length - 1) 0).toNat else 1


def putK (mem cells vals : List Int) : Nat → List Int
  | 0 => mem
  | k + 1 => (putK mem cells vals k).set (cells.getD k 0).toNat (vals.getD k 0)
def putL (mem cells vals : List Int) : List Int := putK mem cells vals cells.length
def carK (mem to fr : List Int) : Nat → List Int
  | 0 => mem
  | k + 1 => (carK mem to fr k).set (to.getD k 0).toNat ((carK mem to fr k).getD (fr.getD k 0).toNat 0)
def carL (mem to fr : List Int) : List Int := carK mem to fr fr.length
def addK (mem cells vals : List Int) : Nat → List Int
  | 0 => mem
  | k + 1 => (addK mem cells vals k).set (cells.getD k 0).toNat (((addK mem cells vals k).getD (cells.getD k 0).toNat 0 + vals.getD k 0).tmod 256)
def addL (mem cells vals : List Int) : List Int := addK mem cells vals cells.length
def rvK (xs : List Int) (k : Nat) : List Int := (List.range xs.length).map fun i => if i < k ∨ xs.length ≤ i + k then xs.getD (xs.length - 1 - i) 0 else xs.getD i 0

def mtL (xs ys : List Int) : Bool := (List.range xs.length).any fun i => decide (xs.getD i 0 ∈ ys.drop (i + 1))
def chK (a b : List Int) : Nat → List Int
  | 0 => []
  | k + 1 => if a.getD k 0 = b.getD k 0 then chK a b k else chK a b k ++ [(k : Int)]
def chL (a b : List Int) : List Int := chK a b a.length
end VwM
