/- The mathematics of ranges,slices,shapes and indices that the contracts speak of. -/
import Derived.Test.YtceopplkfomalaaCW3
set_option linter.unusedVariables false
set_option linter.unusedSimpArgs false
set_option linter.unnecessarySimpa false
set_option maxRecDepth 4000
namespace VwM
open Vw
open Go

abbrev rng (a b c:Int):AV:=.agg [.int .i64 a,.int .i64 b,.int .i64 c]
abbrev slc (f t b:Int) (hf ht:Bool):AV:=.agg [.int .i64 f,.int .i64 t,.int .i64 b,.bool hf,.bool ht]
abbrev IL (xs:List Int):List AV:=xs.map (AV.int .i64)
abbrev RI (xs:List Int):AV:=.rows false (IL xs) xs.length
abbrev OI (xs:List Int):AV → List (List AV) → Prop:=fun r H'=>r=.own 0 xs.length 1 ∧ H'=[IL xs]
def vR (a b c:Int):Bool:=decide (-100 ≤ a) && decide (a ≤ 100) && (decide (-101 ≤ b) && decide (b ≤ 101)) && (decide (-200 ≤ c) && decide (c ≤ 200) && !decide (c=0))
def vS (f t b:Int) (hf ht:Bool):Bool:=decide (-100 ≤ f) && decide (f ≤ 100) && (decide (-100 ≤ t) && decide (t ≤ 100)) && (decide (-200 ≤ b) && decide (b ≤ 200)) && !decide (b=0) && (hf || decide (f=0)) && (ht || decide (t=0))
theorem vR_spec {a b c:Int}:vR a b c=true ↔ (-100 ≤ a ∧ a ≤ 100) ∧ (-101 ≤ b ∧ b ≤ 101) ∧ (-200 ≤ c ∧ c ≤ 200) ∧ c ≠ 0:=by
  simp only [vR,Bool.and_eq_true,decide_eq_true_eq,Bool.not_eq_true',decide_eq_false_iff_not]
  constructor
  · rintro ⟨⟨h1,h2⟩,h3,h4⟩;exact ⟨h1,h2,h3,h4⟩
  · rintro ⟨h1,h2,h3,h4⟩;exact ⟨⟨h1,h2⟩,h3,h4⟩
theorem vS_spec {f t b:Int} {hf ht:Bool}:vS f t b hf ht=true ↔ (-100 ≤ f ∧ f ≤ 100) ∧ (-100 ≤ t ∧ t ≤ 100) ∧ (-200 ≤ b ∧ b ≤ 200) ∧ b ≠ 0 ∧ (hf=true ∨ f=0) ∧ (ht=true ∨ t=0):=by
  simp only [vS,Bool.and_eq_true,Bool.or_eq_true,decide_eq_true_eq,Bool.not_eq_true',decide_eq_false_iff_not]
  constructor
  · rintro ⟨⟨⟨⟨⟨h1,h2⟩,h3⟩,h4⟩,h5⟩,h6⟩;exact ⟨h1,h2,h3,h4,h5,h6⟩
  · rintro ⟨h1,h2,h3,h4,h5,h6⟩;exact ⟨⟨⟨⟨⟨h1,h2⟩,h3⟩,h4⟩,h5⟩,h6⟩
theorem mkAV_ints0 (k:IntKind) (xs:List Int):mkAV false ((xs.map (AV.int k)).take 1)=if 0 < xs.length then some (.int k (xs.getD 0 0)) else none:=by
  haveI:Inhabited GlobT:=⟨⟨[]⟩⟩
  have:=mkAV_ints k xs 0
  rwa [List.drop_zero] at this
attribute [push_cast] mkAV_ints mkAV_ints0


theorem list_eq_of {xs ys:List Int} (hl:xs.length=ys.length) (h:∀ j:Nat,j < xs.length → xs.getD j 0=ys.getD j 0):xs=ys:=by
  refine List.ext_getElem hl fun i h1 h2=>?_
  have:=h i h1
  simpa [List.getD,h1,h2] using this


def upFrom (k:Int) (n:Nat):List Int:=(List.range n).map fun i:Nat=>k + (i:Int)
theorem upFrom_length (k:Int) (n:Nat):(upFrom k n).length=n:=by simp [upFrom]
attribute [simp] upFrom_length
attribute [push_cast] upFrom_length
def marked (k:Int) (xs:List Int) (j:Nat):List Int:=upFrom k j ++ xs.drop j
def cntI (a b c:Int):Int :=
  if c < 0 then (if 0 - (b - a) ≤ 0 then 0 else (0 - (b - a) + (0 - c) - 1).tdiv (0 - c)) else (if b - a ≤ 0 then 0 else (b - a + c - 1).tdiv c)
theorem tdiv_bound {x y:Int} (hy:0 < y) (hx:0 ≤ x):0 ≤ x.tdiv y ∧ x.tdiv y ≤ x:=by
  rw [Int.tdiv_eq_ediv_of_nonneg hx]
  exact ⟨Int.ediv_nonneg hx (by omega),Int.ediv_le_self _ hx⟩
def nums (a c:Int) (k:Nat):List Int:=(List.range k).map fun i:Nat=>a + (i:Int) * c
theorem nums_zero (a c:Int):nums a c 0=[]:=rfl
theorem nums_succ (a c:Int) (k:Nat):nums a c (k + 1)=nums a c k ++ [a + (k:Int) * c]:=by simp [nums,List.range_succ]
theorem nums_length (a c:Int) (k:Nat):(nums a c k).length=k:=by simp [nums]
theorem nums_getD (a c:Int) (k i:Nat) (h:i < k):(nums a c k).getD i 0=a + (i:Int) * c:=by simp [nums,h,List.getD]
attribute [simp] nums_length
attribute [push_cast] nums_length
theorem cnt_lt {a b c i:Int} (h0:c ≠ 0) (hi:0 ≤ i):i < cntI a b c ↔ (0 < c ∧ a + i * c < b) ∨ (c < 0 ∧ b < a + i * c):=by
  unfold cntI
  by_cases hc:c < 0
  · rw [if_pos hc]
    have hp:0 ≤ i * (0 - c):=Int.mul_nonneg hi (by omega)
    have e:i * (0 - c)=- (i * c):=by rw [Int.zero_sub,Int.mul_neg]
    by_cases hw:0 - (b - a) ≤ 0
    · rw [if_pos hw]
      constructor
      · intro h;omega
      · rintro (h|h)<;>omega
    · rw [if_neg hw,Int.tdiv_eq_ediv_of_nonneg (by omega),Int.lt_iff_add_one_le,Int.le_ediv_iff_mul_le (by omega),Int.add_mul]
      constructor
      · intro h;right;omega
      · rintro (h|h)<;>omega
  · rw [if_neg hc]
    have hp:0 ≤ i * c:=Int.mul_nonneg hi (by omega)
    by_cases hw:b - a ≤ 0
    · rw [if_pos hw]
      constructor
      · intro h;omega
      · rintro (h|h)<;>omega
    · rw [if_neg hw,Int.tdiv_eq_ediv_of_nonneg (by omega),Int.lt_iff_add_one_le,Int.le_ediv_iff_mul_le (by omega),Int.add_mul]
      constructor
      · intro h;left;omega
      · rintro (h|h)<;>omega
theorem cnt_bound {a b c:Int} (hv:vR a b c=true):0 ≤ cntI a b c ∧ cntI a b c ≤ 500:=by
  obtain ⟨ha,hb,hc,h0⟩:=vR_spec.1 hv
  unfold cntI
  by_cases hc:c < 0
  · rw [if_pos hc]
    by_cases hw:0 - (b - a) ≤ 0
    · rw [if_pos hw];omega
    · rw [if_neg hw]
      have:=tdiv_bound (x:=0 - (b - a) + (0 - c) - 1) (y:=0 - c) (by omega) (by omega)
      omega
  · rw [if_neg hc]
    by_cases hw:b - a ≤ 0
    · rw [if_pos hw];omega
    · rw [if_neg hw]
      have:=tdiv_bound (x:=b - a + c - 1) (y:=c) (by omega) (by omega)
      omega
def cntN (a b c:Int):Nat:=(cntI a b c).toNat
theorem cntN_cast {a b c:Int} (hv:vR a b c=true):(cntN a b c:Int)=cntI a b c:=by
  unfold cntN;have:=cnt_bound hv;omega
theorem cntN_lt {a b c:Int} (hv:vR a b c=true) (i:Nat):i < cntN a b c ↔ (0 < c ∧ a + i * c < b) ∨ (c < 0 ∧ b < a + i * c):=by
  rw [← cnt_lt (vR_spec.1 hv).2.2.2 (by omega:(0:Int) ≤ i),← cntN_cast hv]
  omega
theorem num_bound {a b c:Int} (hv:vR a b c=true) {i:Nat} (h:i < cntN a b c):-201 ≤ (i:Int) * c ∧ (i:Int) * c ≤ 201 ∧ -100 ≤ a + i * c ∧ a + i * c ≤ 100:=by
  obtain ⟨ha,hb,hc,h0⟩:=vR_spec.1 hv
  rcases (cntN_lt hv i).1 h with ⟨h1,h2⟩|⟨h1,h2⟩
  · have:0 ≤ (i:Int) * c:=Int.mul_nonneg (by omega) (by omega)
    omega
  · have:0 ≤ (i:Int) * (0 - c):=Int.mul_nonneg (by omega) (by omega)
    rw [Int.zero_sub,Int.mul_neg] at this
    omega
theorem next_bound {a b c:Int} (hv:vR a b c=true) {i:Nat} (h:i ≤ cntN a b c):-1000 ≤ (i:Int) * c ∧ (i:Int) * c ≤ 1000:=by
  obtain ⟨ha,hb,hc,h0⟩:=vR_spec.1 hv
  cases i with
  | zero=>simp
  | succ i =>
    have:=num_bound hv (i:=i) (by omega)
    rw [show ((i + 1:Nat):Int) * c=(i:Int) * c + c by rw [Int.natCast_add,Int.add_mul];simp]
    omega
def filled (g:Nat → Int) (n j:Nat):List Int:=(List.range n).map fun i=>if i < j then g i else 0
theorem filled_zero (g:Nat → Int) (n:Nat):filled g n 0=List.replicate n 0:=by
  refine List.ext_getElem? fun i=>?_
  by_cases h:i < n<;>simp [filled,h]
theorem filled_length (g:Nat → Int) (n j:Nat):(filled g n j).length=n:=by simp [filled]
attribute [simp] filled_length
attribute [push_cast] filled_length
theorem filled_set (g:Nat → Int) (n j:Nat) (h:j < n):(filled g n j).set j (g j)=filled g n (j + 1):=by
  refine List.ext_getElem? fun i=>?_
  simp only [filled,List.getElem?_set,List.length_map,List.length_range,List.getElem?_map]
  by_cases h1:j=i
  · subst h1;simp [h]
  · by_cases h2:i < n
    · simp only [List.getElem?_range h2,Option.map_some,if_neg h1]
      congr 1
      by_cases h3:i < j
      · rw [if_pos h3,if_pos (by omega)]
      · rw [if_neg h3,if_neg (by omega)]
    · simp [h1,h2]
theorem filled_all (g:Nat → Int) (n:Nat):filled g n n=(List.range n).map g:=by
  refine List.map_congr_left fun i hi=>?_
  rw [if_pos (List.mem_range.1 hi)]
theorem IL_set (xs:List Int) (j:Nat) (v:Int):(IL xs).set j (.int .i64 v)=IL (xs.set j v):=by simp [IL,List.map_set]
theorem IL_snoc (xs:List Int) (v:Int):IL xs ++ [.int .i64 v]=IL (xs ++ [v]):=by simp [IL]
def numsOf (a b c:Int):List Int:=if vR a b c=true then nums a c (cntN a b c) else []


theorem toNat_succ (k:Nat):((k:Int) + 1).toNat=k + 1:=by omega
theorem IL_tail (k:IntKind) (xs:List Int) (j:Nat):(((xs.map (AV.int k)).drop j).take (xs.length - j))=(xs.drop j).map (AV.int k):=by
  rw [← List.map_drop,← List.map_take]
  congr 1
  exact List.take_of_length_le (by simp)
theorem IL_head (k:IntKind) (xs:List Int) (j:Nat):(xs.map (AV.int k)).take j=(xs.take j).map (AV.int k):=by rw [List.map_take]
attribute [push_cast] toNat_succ IL_tail
def pr (xs:List Int):Int:=xs.foldl (· * ·) 1
theorem pr_nil:pr []=1:=rfl
theorem pr_snoc (xs:List Int) (x:Int):pr (xs ++ [x])=pr xs * x:=by simp [pr]
theorem foldl_mul (xs:List Int) (a:Int):xs.foldl (· * ·) a=a * pr xs:=by
  induction xs generalizing a with
  | nil=>simp [pr]
  | cons x r ih=>simp only [List.foldl_cons,pr];rw [ih,ih (1 * x)];rw [Int.one_mul,Int.mul_assoc]
theorem pr_cons (x:Int) (xs:List Int):pr (x :: xs)=x * pr xs:=by
  show (x :: xs).foldl (· * ·) 1=_
  rw [List.foldl_cons,foldl_mul,Int.one_mul]
theorem take_succ_getD (xs:List Int) (k:Nat) (h:k < xs.length):xs.take (k + 1)=xs.take k ++ [xs.getD k 0]:=by
  rw [List.take_succ_eq_append_getElem h];simp [List.getD,h]
theorem drop_getD (xs:List Int) (k:Nat) (h:k < xs.length):xs.drop k=xs.getD k 0 :: xs.drop (k + 1):=by
  rw [List.drop_eq_getElem_cons h];simp [List.getD,h]
theorem pr_take_succ (xs:List Int) (k:Nat) (h:k < xs.length):pr (xs.take (k + 1))=pr (xs.take k) * xs.getD k 0:=by rw [take_succ_getD xs k h,pr_snoc]
theorem pr_drop (xs:List Int) (k:Nat) (h:k < xs.length):pr (xs.drop k)=xs.getD k 0 * pr (xs.drop (k + 1)):=by rw [drop_getD xs k h,pr_cons]
def good4 (xs:List Int):Prop:=(∀ x ∈ xs,0 ≤ x ∧ x ≤ 60) ∧ xs.length ≤ 4
theorem good4_take {xs:List Int} (h:good4 xs) (j:Nat):good4 (xs.take j):=⟨fun x hx=>h.1 x (List.mem_of_mem_take hx),by have:=h.2;simp;omega⟩
theorem good4_drop {xs:List Int} (h:good4 xs) (j:Nat):good4 (xs.drop j):=⟨fun x hx=>h.1 x (List.mem_of_mem_drop hx),by have:=h.2;simp;omega⟩
theorem good4_at {xs:List Int} (h:good4 xs) {k:Nat} (hk:k < xs.length):0 ≤ xs.getD k 0 ∧ xs.getD k 0 ≤ 60:=by
  refine h.1 _ ?_
  simp [List.getD,hk]
theorem pr_bound':∀ (xs:List Int),(∀ x ∈ xs,0 ≤ x ∧ x ≤ 60) → 0 ≤ pr xs ∧ pr xs ≤ 60 ^ xs.length
  | [],_=>by simp [pr]
  | x :: r,h=>by
    have ih:=pr_bound' r fun y hy=>h y (by simp [hy])
    have hx:=h x (by simp)
    rw [pr_cons,List.length_cons,Int.pow_succ,Int.mul_comm (60 ^ r.length) 60]
    exact ⟨Int.mul_nonneg hx.1 ih.1,Int.mul_le_mul hx.2 ih.2 ih.1 (by omega)⟩
theorem pr_bound {xs:List Int} (h:good4 xs):0 ≤ pr xs ∧ pr xs ≤ 12960000:=by
  have h1:=pr_bound' xs h.1
  refine ⟨h1.1,Int.le_trans h1.2 ?_⟩
  have:(60:Int) ^ xs.length ≤ 60 ^ 4:=by
    obtain ⟨_,hl⟩:=h
    generalize xs.length=n at hl
    match n,hl with
    | 0,_=>decide
    | 1,_=>decide
    | 2,_=>decide
    | 3,_=>decide
    | 4,_=>decide
  simpa using this
def allI (xs:List Int) (l h:Int):Bool:=xs.all fun x=>decide (l ≤ x) && decide (x ≤ h)
theorem allI_iff {xs:List Int} {l h:Int}:allI xs l h=true ↔ ∀ x ∈ xs,l ≤ x ∧ x ≤ h:=by simp [allI]
theorem allI_getD {xs:List Int} {l h:Int}:(∀ j:Nat,j < xs.length → l ≤ xs.getD j 0 ∧ xs.getD j 0 ≤ h) → allI xs l h=true:=by
  intro hj
  rw [allI_iff]
  intro x hx
  obtain ⟨i,hi,rfl⟩:=List.getElem_of_mem hx
  have:=hj i hi
  simpa [List.getD,hi] using this
theorem allI_false {xs:List Int} {l h:Int} {j:Nat} (hj:j < xs.length) (hx:xs.getD j 0 < l ∨ h < xs.getD j 0):allI xs l h=false:=by
  rw [Bool.eq_false_iff]
  intro ht
  have:=(allI_iff.1 ht) (xs.getD j 0) (by simp [List.getD,hj])
  omega
def vSh (sh:List Int):Bool:=decide (sh.length ≤ 4) && allI sh 0 60 && decide (pr sh ≤ 60)
theorem vSh_good {sh:List Int} (h:vSh sh=true):good4 sh ∧ 0 ≤ pr sh ∧ pr sh ≤ 60:=by
  simp only [vSh,Bool.and_eq_true,decide_eq_true_eq] at h
  have hg:good4 sh:=⟨allI_iff.1 h.1.2,h.1.1⟩
  exact ⟨hg,(pr_bound hg).1,h.2⟩
theorem nil_split {n:Nat} {K:Bool → Prop} (h1:n=0 → K true) (h2:K false):∀ b:Bool,(b=true → n=0) → K b:=by
  intro b hb
  cases b with
  | true=>exact h1 (hb rfl)
  | false=>exact h2
def rowS (sh:List Int):List Int:=(List.range sh.length).map fun i:Nat=>pr (sh.drop (i + 1))
def colS (sh:List Int):List Int:=(List.range sh.length).map fun i:Nat=>pr (sh.take i)
theorem rowS_length (sh:List Int):(rowS sh).length=sh.length:=by simp [rowS]
theorem colS_length (sh:List Int):(colS sh).length=sh.length:=by simp [colS]
attribute [simp] rowS_length colS_length
attribute [push_cast] rowS_length colS_length
def filledD (g:Nat → Int) (n k:Nat):List Int:=(List.range n).map fun i=>if n - k ≤ i then g i else 0
theorem filledD_zero (g:Nat → Int) (n:Nat):filledD g n 0=List.replicate n 0:=by
  refine List.ext_getElem? fun i=>?_
  by_cases h:i < n
  · have:¬ n ≤ i:=by omega
    simp [filledD,h,this]
  · simp [filledD,h]
theorem filledD_length (g:Nat → Int) (n k:Nat):(filledD g n k).length=n:=by simp [filledD]
attribute [simp] filledD_length
attribute [push_cast] filledD_length
theorem filledD_set (g:Nat → Int) (n k:Nat) (h:k < n):(filledD g n k).set (n - 1 - k) (g (n - 1 - k))=filledD g n (k + 1):=by
  refine List.ext_getElem? fun i=>?_
  simp only [filledD,List.getElem?_set,List.length_map,List.length_range,List.getElem?_map]
  by_cases h1:n - 1 - k=i
  · subst h1
    have h2:n - 1 - k < n:=by omega
    have h3:n - (k + 1) ≤ n - 1 - k:=by omega
    simp [h2,h3]
    omega
  · by_cases h2:i < n
    · simp only [List.getElem?_range h2,Option.map_some,if_neg h1]
      congr 1
      by_cases h3:n - k ≤ i
      · rw [if_pos h3,if_pos (by omega)]
      · rw [if_neg h3,if_neg (by omega)]
    · simp [h1,h2]
theorem filledD_all (g:Nat → Int) (n:Nat):filledD g n n=(List.range n).map g:=by
  refine List.map_congr_left fun i hi=>?_
  rw [if_pos (by omega)]
theorem down_nat (n k:Nat) (h:k < n):((n:Int) - 1 - (k:Int)).toNat=n - 1 - k:=by omega



def kS (sh:List Int) (k:Int):Nat → Int
  | 0=>k
  | j + 1=>(kS sh k j).tdiv (sh.getD (sh.length - 1 - j) 0)
def dig (sh:List Int) (k:Int) (i:Nat):Int:=(kS sh k (sh.length - 1 - i)).tmod (sh.getD i 0)
def unr (sh:List Int) (k:Int):List Int:=(List.range sh.length).map (dig sh k)
theorem unr_length (sh:List Int) (k:Int):(unr sh k).length=sh.length:=by simp [unr]
attribute [simp] unr_length
attribute [push_cast] unr_length
theorem pr_zero {xs:List Int} {i:Nat} (hi:i < xs.length) (h:xs.getD i 0=0):pr xs=0:=by
  have e:xs=xs.take i ++ xs.drop i:=(List.take_append_drop i xs).symm
  rw [e,pr,List.foldl_append,foldl_mul,pr_drop xs i hi,h]
  simp
theorem kS_bound {sh:List Int} {k:Int} (hk:0 ≤ k) (hp:∀ i,i < sh.length → 1 ≤ sh.getD i 0):∀ j,j ≤ sh.length → 0 ≤ kS sh k j ∧ kS sh k j ≤ k
  | 0,_=>by simp [kS,hk]
  | j + 1,h=>by
    have ih:=kS_bound hk hp j (by omega)
    have h1:=hp (sh.length - 1 - j) (by omega)
    have:=tdiv_bound (x:=kS sh k j) (y:=sh.getD (sh.length - 1 - j) 0) (by omega) ih.1
    simp only [kS]
    omega
theorem pos_of_pr {sh:List Int} (hg:good4 sh) (h:1 ≤ pr sh):∀ i,i < sh.length → 1 ≤ sh.getD i 0:=by
  intro i hi
  have h1:=good4_at hg hi
  rcases Int.lt_or_le 0 (sh.getD i 0) with h2|h2
  · omega
  · have:=pr_zero hi (by omega)
    omega
theorem dig_bound {sh:List Int} {k:Int} (hk:0 ≤ k) (hp:∀ i,i < sh.length → 1 ≤ sh.getD i 0) (hle:∀ i,i < sh.length → sh.getD i 0 ≤ 60) {i:Nat} (hi:i < sh.length):0 ≤ dig sh k i ∧ dig sh k i < sh.getD i 0:=by
  have h1:=kS_bound hk hp (sh.length - 1 - i) (by omega)
  have h2:=hp i hi
  unfold dig
  exact ⟨Int.tmod_nonneg _ h1.1,Int.tmod_lt_of_pos _ (by omega)⟩
def pad4 (f:Nat → Int):List Int:=[f 0,f 1,f 2,f 3]
theorem pad4_length (f:Nat → Int):(pad4 f).length=4:=rfl
theorem pad4_getD (f:Nat → Int) (i:Nat) (h:i < 4):(pad4 f).getD i 0=f i:=by
  match i,h with
  | 0,_=>rfl
  | 1,_=>rfl
  | 2,_=>rfl
  | 3,_=>rfl
theorem pad4_set (f:Nat → Int) (i:Nat) (v:Int) (h:i < 4):(pad4 f).set i v=pad4 (fun j=>if j=i then v else f j):=by
  match i,h with
  | 0,_=>rfl
  | 1,_=>rfl
  | 2,_=>rfl
  | 3,_=>rfl
theorem pad4_congr {f g:Nat → Int} (h:∀ i,i < 4 → f i=g i):pad4 f=pad4 g:=by simp [pad4,h]
theorem setRange_pad4 (a b c d:AV) (f:Nat → Int):setRange [a,b,c,d] 0 ((pad4 f).map (AV.int .i64))=(pad4 f).map (AV.int .i64):=by simp [pad4,setRange]
theorem setRange_pad4' (g f:Nat → Int):setRange ((pad4 g).map (AV.int .i64)) 0 ((pad4 f).map (AV.int .i64))=(pad4 f).map (AV.int .i64):=by simp [pad4,setRange]
theorem take_pad4 (f:Nat → Int):((pad4 f).map (AV.int .i64)).take 4=(pad4 f).map (AV.int .i64):=by simp [pad4]
attribute [simp] pad4_length
attribute [push_cast] pad4_length setRange_pad4 setRange_pad4' take_pad4
theorem pad4_take (f:Nat → Int) (n:Nat) (h:n ≤ 4):(pad4 f).take n=(List.range n).map f:=by
  match n,h with
  | 0,_=>rfl
  | 1,_=>rfl
  | 2,_=>rfl
  | 3,_=>rfl
  | 4,_=>rfl
def padD (xs:List Int) (k:Int) (j i:Nat):Int:=if i < xs.length ∧ xs.length - j ≤ i then dig xs k i else 0
abbrev AP (f:Nat → Int):AV:=.agg (IL (pad4 f))
def digP (sh:List Int) (k:Int) (i:Nat):Int:=if i < sh.length then dig sh k i else 0


def vIx (sh idx:List Int):Bool:=decide (idx.length=sh.length) && (List.range idx.length).all fun i=>decide (0 ≤ idx.getD i 0) && decide (idx.getD i 0 ≤ sh.getD i 0 - 1)
theorem vIx_spec {sh idx:List Int}:vIx sh idx=true ↔ idx.length=sh.length ∧ ∀ i,i < idx.length → 0 ≤ idx.getD i 0 ∧ idx.getD i 0 ≤ sh.getD i 0 - 1:=by
  simp only [vIx,Bool.and_eq_true,decide_eq_true_eq,List.all_eq_true,List.mem_range]
theorem vIx_false {sh idx:List Int} {j:Nat} (hj:j < idx.length) (h:idx.getD j 0 < 0 ∨ sh.getD j 0 - 1 < idx.getD j 0):vIx sh idx=false:=by
  rw [Bool.eq_false_iff]
  intro ht
  have:=(vIx_spec.1 ht).2 j hj
  omega
theorem vIx_len {sh idx:List Int} (h:¬ idx.length=sh.length):vIx sh idx=false:=by simp [vIx,h]
def hor (sh idx:List Int):Nat → Int
  | 0=>0
  | k + 1=>hor sh idx k * sh.getD k 0 + idx.getD k 0
def dot (f:Nat → Int) (st:List Int):Nat → Int
  | 0=>0
  | k + 1=>dot f st k + f k * st.getD k 0
theorem dot_congr {f g:Nat → Int} {st:List Int}:∀ {k:Nat},(∀ i,i < k → f i=g i) → dot f st k=dot g st k
  | 0,_=>rfl
  | k + 1,h=>by simp only [dot];rw [dot_congr fun i hi=>h i (by omega),h k (by omega)]
theorem rowS_getD (sh:List Int) (i:Nat) (h:i < sh.length):(rowS sh).getD i 0=pr (sh.drop (i + 1)):=by simp [rowS,List.getD,h]
theorem colS_getD (sh:List Int) (i:Nat) (h:i < sh.length):(colS sh).getD i 0=pr (sh.take i):=by simp [colS,List.getD,h]
theorem mul_abs_bound {a b B C:Int} (ha:-B ≤ a ∧ a ≤ B) (hb:-C ≤ b ∧ b ≤ C):-(B * C) ≤ a * b ∧ a * b ≤ B * C:=by
  have h1:a.natAbs ≤ B.natAbs:=by omega
  have h2:b.natAbs ≤ C.natAbs:=by omega
  have h3:(a * b).natAbs ≤ (B * C).natAbs:=by rw [Int.natAbs_mul,Int.natAbs_mul];exact Nat.mul_le_mul h1 h2
  have h4:0 ≤ B * C:=Int.mul_nonneg (by omega) (by omega)
  omega
theorem dot_bound {f:Nat → Int} {st:List Int} {B C:Int}:∀ k,(∀ i,i < k → (-B ≤ f i ∧ f i ≤ B) ∧ -C ≤ st.getD i 0 ∧ st.getD i 0 ≤ C) → -((k:Int) * (B * C)) ≤ dot f st k ∧ dot f st k ≤ (k:Int) * (B * C)
  | 0,_=>by simp [dot]
  | k + 1,h=>by
    have ih:=dot_bound (f:=f) (st:=st) (B:=B) (C:=C) k fun i hi=>h i (by omega)
    have h1:=h k (by omega)
    have h2:=mul_abs_bound h1.1 h1.2
    simp only [dot,Int.natCast_add,Int.add_mul]
    simp only [Int.cast_ofNat_Int,Int.one_mul]
    omega


def idxP (sh idx:List Int) (i:Nat):Int:=if vIx sh idx=true ∧ i < sh.length then idx.getD i 0 else 0
theorem idxP_false {sh idx:List Int} (h:vIx sh idx=false):pad4 (idxP sh idx)=pad4 fun _=>0:=pad4_congr fun i _=>by unfold idxP;rw [if_neg (by simp [h])]


theorem rowS_bound {sh:List Int} (hg:good4 sh) (i:Nat) (h:i < sh.length):0 ≤ (rowS sh).getD i 0 ∧ (rowS sh).getD i 0 ≤ 12960000:=by
  rw [rowS_getD sh i h];exact pr_bound (good4_drop hg (i + 1))
def rankD (sh idx:List Int):Int:=if vSh sh=true ∧ vIx sh idx=true then dot (fun i=>idx.getD i 0) (rowS sh) sh.length else -1


abbrev VW (b:Int) (s t:AV):AV:=.agg [.int .i64 b,s,t]
abbrev RV (b:Int) (sh st:List Int):AV:=.agg [.int .i64 b,RI sh,RI st]
abbrev OV (b:Int) (sh st:List Int):AV → List (List AV) → Prop:=fun r H'=>r=.agg [.int .i64 b,.own 0 sh.length 1,.own 1 st.length 1] ∧ H'=[IL sh,IL st]


def newSt (sh:List Int):List Int:=if pr sh=0 then List.replicate sh.length 0 else rowS sh
theorem newSt_length (sh:List Int):(newSt sh).length=sh.length:=by unfold newSt;split<;>simp


def endI (x n b:Int):Int:=min (max (if b < 0 then -1 else 0) (if x < 0 then x + n else x)) (if b < 0 then n - 1 else n)
def sFrom (f n b:Int) (hf:Bool):Int:=if hf=true then endI f n b else if b < 0 then n - 1 else 0
def sTo (t n b:Int) (ht:Bool):Int:=if ht=true then endI t n b else if b < 0 then -1 else n
theorem endI_bound {x n b:Int} (hn:0 ≤ n ∧ n ≤ 60):-1 ≤ endI x n b ∧ endI x n b ≤ 60:=by
  unfold endI;split<;>split<;>omega
theorem sFrom_bound {f n b:Int} {hf:Bool} (hn:0 ≤ n ∧ n ≤ 60):-1 ≤ sFrom f n b hf ∧ sFrom f n b hf ≤ 60:=by
  have:=endI_bound (x:=f) (b:=b) hn
  unfold sFrom;split
  · exact this
  · split<;>omega
theorem sTo_bound {t n b:Int} {ht:Bool} (hn:0 ≤ n ∧ n ≤ 60):-1 ≤ sTo t n b ht ∧ sTo t n b ht ≤ 60:=by
  have:=endI_bound (x:=t) (b:=b) hn
  unfold sTo;split
  · exact this
  · split<;>omega
theorem over_valid {f t b n:Int} {hf ht:Bool} (hn:0 ≤ n ∧ n ≤ 60) (hs:vS f t b hf ht=true):vR (sFrom f n b hf) (sTo t n b ht) b=true:=by
  obtain ⟨h1,h2,h3,h4,-,-⟩:=vS_spec.1 hs
  have:=sFrom_bound (f:=f) (b:=b) (hf:=hf) hn
  have:=sTo_bound (t:=t) (b:=b) (ht:=ht) hn
  exact vR_spec.2 ⟨by omega,by omega,h3,h4⟩


def idxOf (n f t b:Int) (hf ht:Bool):List Int:=if vS f t b hf ht=true ∧ 0 ≤ n ∧ n ≤ 60 then nums (sFrom f n b hf) b (cntN (sFrom f n b hf) (sTo t n b ht) b) else []
def pS (a k:Int):Int:=if k < 1 then 0 else a
def pE (a c k:Int):Int:=if k < 1 then 0 else if k=1 then a + 1 else if c < 0 then a + (k - 1) * c - 1 else a + (k - 1) * c + 1
def pC (c k:Int):Int:=if k ≤ 1 then 1 else c
abbrev PR (a c k:Int):AV:=rng (pS a k) (pE a c k) (pC c k)


theorem idx_in {f t b n:Int} {hf ht:Bool} (hn:0 ≤ n ∧ n ≤ 60) (hs:vS f t b hf ht=true) {i:Nat} (h:i < cntN (sFrom f n b hf) (sTo t n b ht) b):0 ≤ sFrom f n b hf + (i:Int) * b ∧ sFrom f n b hf + (i:Int) * b < n:=by
  have h1:=(cntN_lt (over_valid hn hs) i).1 h
  rcases h1 with ⟨hb,h2⟩|⟨hb,h2⟩
  · have p:0 ≤ (i:Int) * b:=Int.mul_nonneg (by omega) (by omega)
    have q1:0 ≤ sFrom f n b hf:=by unfold sFrom endI;split<;>(try split)<;>omega
    have q2:sTo t n b ht ≤ n:=by unfold sTo endI;split<;>(try split)<;>omega
    omega
  · have p:0 ≤ (i:Int) * (0 - b):=Int.mul_nonneg (by omega) (by omega)
    rw [Int.zero_sub,Int.mul_neg] at p
    have q1:sFrom f n b hf ≤ n - 1:=by unfold sFrom endI;split<;>(try split)<;>omega
    have q2:-1 ≤ sTo t n b ht:=by unfold sTo endI;split<;>(try split)<;>omega
    omega
theorem mul_bd {x y:Int} {p q:Nat} (h1:-(p:Int) ≤ x ∧ x ≤ p) (h2:-(q:Int) ≤ y ∧ y ≤ q):-((p * q:Nat):Int) ≤ x * y ∧ x * y ≤ (p * q:Nat):=by
  have e:(x * y).natAbs ≤ p * q:=by rw [Int.natAbs_mul];exact Nat.mul_le_mul (by omega) (by omega)
  omega


def slRg (a b c f t w:Int) (hf ht:Bool):AV :=
  if vR a b c=true ∧ vS f t w hf ht=true ∧ cntN a b c ≤ 60 then PR (a + sFrom f (cntN a b c) w hf * c) (c * w) (cntN (sFrom f (cntN a b c) w hf) (sTo t (cntN a b c) w ht) w) else rng 0 0 0
def mgSome (n f t w:Int) (hf ht:Bool) (f' t' w':Int) (hf' ht':Bool):AV :=
  let u:=sFrom f n w hf
  let k:=cntN u (sTo t n w ht) w
  let u':=sFrom f' k w' hf'
  let k':=cntN u' (sTo t' k w' ht') w'
  slc (pS (u + u' * w) k') (if pE (u + u' * w) (w * w') k' < 0 then 0 else pE (u + u' * w) (w * w') k') (pC (w * w') k') true (!decide (pE (u + u' * w) (w * w') k' < 0))
def mgS (n f t w:Int) (hf ht:Bool) (f' t' w':Int) (hf' ht':Bool):AV :=
  if (0 ≤ n ∧ n ≤ 60) ∧ vS f t w hf ht=true ∧ vS f' t' w' hf' ht'=true then mgSome n f t w hf ht f' t' w' hf' ht' else slc 0 0 0 false false
end VwM
set_option linter.unusedVariables false
set_option linter.unusedSimpArgs false
set_option linter.unnecessarySimpa false
set_option maxRecDepth 4000
namespace VwM
open Vw
open Go

def placeI (xs:List Int) (x:Int):Int:=if x ∈ xs then (xs.idxOf x:Int) else -1
theorem mem_getD {xs:List Int} {x:Int}:x ∈ xs ↔ ∃ j,j < xs.length ∧ xs.getD j 0=x:=by
  constructor
  · intro h
    obtain ⟨i,hi,e⟩:=List.getElem_of_mem h
    exact ⟨i,hi,by simp [List.getD,hi,e]⟩
  · rintro ⟨j,hj,rfl⟩
    simp [List.getD,hj]
theorem getD_mem {xs:List Int} {j:Nat} (h:j < xs.length):xs.getD j 0 ∈ xs:=mem_getD.2 ⟨j,h,rfl⟩
theorem placeI_none {xs:List Int} {x:Int} (h:∀ j,j < xs.length → xs.getD j 0 ≠ x):placeI xs x=-1:=by
  unfold placeI
  rw [if_neg]
  intro hm
  obtain ⟨j,hj,e⟩:=mem_getD.1 hm
  exact h j hj e
theorem placeI_some {xs:List Int} {x:Int} {j:Nat} (hj:j < xs.length) (h:xs.getD j 0=x) (hno:∀ i,i < j → xs.getD i 0 ≠ x):placeI xs x=j:=by
  unfold placeI
  rw [if_pos (mem_getD.2 ⟨j,hj,h⟩)]
  congr 1
  induction xs generalizing j with
  | nil=>simp at hj
  | cons y r ih =>
    rw [List.idxOf_cons]
    cases j with
    | zero=>simp at h;simp [h]
    | succ j =>
      have h0:=hno 0 (by omega)
      have hy:¬ y=x:=by simpa using h0
      simp only [beq_iff_eq,hy,cond_false,Bool.cond_eq_ite,if_false]
      have:=ih (j:=j) (by simpa using hj) (by simpa using h) (fun i hi=>by simpa using hno (i + 1) (by omega))
      omega
theorem placeI_neg {xs:List Int} {x:Int}:placeI xs x < 0 ↔ x ∉ xs:=by
  unfold placeI
  by_cases h:x ∈ xs
  · simp [h]
  · simp [h]
def nrmA (xs:List Int):AV :=
  if xs.length=0 then rng 0 0 1 else if xs.length=1 then rng (xs.getD 0 0) (xs.getD 0 0 + 1) 1 else
    rng (xs.getD 0 0) (if xs.getD 1 0 - xs.getD 0 0 < 0 then xs.getD (xs.length - 1) 0 - 1 else xs.getD (xs.length - 1) 0 + 1) (xs.getD 1 0 - xs.getD 0 0)
def ascL (xs:List Int):List Int:=if 1 < xs.length ∧ xs.getD 0 0 > xs.getD 1 0 then xs.reverse else xs
def aS (a c:Int) (n:Nat):Int:=if c < 0 then a + ((n:Int) - 1) * c else a
def aC (c:Int):Int:=if c < 0 then 0 - c else c
theorem mem_nums {a c x:Int} {n:Nat}:x ∈ nums a c n ↔ ∃ i:Nat,i < n ∧ a + (i:Int) * c=x:=by
  simp [nums]
theorem mem_nums_iff {a c x:Int} {n:Nat} (hc:1 ≤ c):x ∈ nums a c n ↔ a ≤ x ∧ x < a + ((n:Int) - 1) * c + 1 ∧ c ∣ x - a:=by
  rw [mem_nums]
  constructor
  · rintro ⟨i,hi,rfl⟩
    have h1:0 ≤ (i:Int) * c:=Int.mul_nonneg (by omega) (by omega)
    have h2:(i:Int) * c ≤ ((n:Int) - 1) * c:=Int.mul_le_mul_of_nonneg_right (by omega) (by omega)
    exact ⟨by omega,by omega,⟨i,by rw [Int.mul_comm c];omega⟩⟩
  · rintro ⟨h1,h2,k,hk⟩
    have h3:0 ≤ k:=by
      rcases Int.lt_or_le k 0 with h|h
      · have:c * k < 0:=Int.mul_neg_of_pos_of_neg (by omega) h
        omega
      · exact h
    have h4:k < n:=by
      rcases Int.lt_or_le k n with h|h
      · exact h
      · have:(n:Int) * c ≤ k * c:=Int.mul_le_mul_of_nonneg_right h (by omega)
        rw [Int.mul_comm c] at hk
        rw [Int.sub_mul] at h2
        omega
    refine ⟨k.toNat,by omega,?_⟩
    rw [show ((k.toNat:Nat):Int)=k by omega,Int.mul_comm]
    omega
theorem sorted_ext:∀ {l1 l2:List Int},l1.Pairwise (· < ·) → l2.Pairwise (· < ·) → (∀ x,x ∈ l1 ↔ x ∈ l2) → l1=l2
  | [],[],_,_,_=>rfl
  | [],y :: r,_,_,h=>by have:=(h y).2 (by simp);simp at this
  | x :: l,[],_,_,h=>by have:=(h x).1 (by simp);simp at this
  | x :: l,y :: r,h1,h2,h=>by
    rw [List.pairwise_cons] at h1 h2
    have hxy:x=y:=by
      have a:=(h x).1 (by simp)
      have b:=(h y).2 (by simp)
      rcases List.mem_cons.1 a with a|a
      · exact a
      · rcases List.mem_cons.1 b with b|b
        · exact b.symm
        · have:=h2.1 x a;have:=h1.1 y b;omega
    subst hxy
    congr 1
    refine sorted_ext h1.2 h2.2 fun z=>?_
    constructor
    · intro hz
      have:=(h z).1 (by simp [hz])
      rcases List.mem_cons.1 this with e|e
      · have:=h1.1 z hz;omega
      · exact e
    · intro hz
      have:=(h z).2 (by simp [hz])
      rcases List.mem_cons.1 this with e|e
      · have:=h2.1 z hz;omega
      · exact e
theorem nums_sorted {a c:Int} (hc:1 ≤ c) (n:Nat):(nums a c n).Pairwise (· < ·):=by
  unfold nums
  rw [List.pairwise_map]
  refine List.Pairwise.imp ?_ List.pairwise_lt_range
  intro i j hij
  have:(i:Int) * c < (j:Int) * c:=Int.mul_lt_mul_of_pos_right (by omega) (by omega)
  omega
def commL (xs ys:List Int):List Int:=xs.filter fun x=>decide (x ∈ ys)
theorem PR_valid {s c:Int} {n:Nat} (h0:c ≠ 0) (hc:-200 ≤ c ∧ c ≤ 200) (hb:∀ i:Nat,i < n → -100 ≤ s + (i:Int) * c ∧ s + (i:Int) * c ≤ 100) :
    vR (pS s n) (pE s c n) (pC c n)=true:=by
  match n with
  | 0=>simp [pS,pE,pC,vR]
  | 1 =>
    have:=hb 0 (by omega)
    simp at this
    simp [pS,pE,pC,vR];omega
  | n + 2 =>
    have b0:=hb 0 (by omega)
    have bl:=hb (n + 1) (by omega)
    simp only [Int.natCast_zero,Int.zero_mul,Int.add_zero] at b0
    have p1:¬ ((n + 2:Nat):Int) < 1:=by omega
    have p2:¬ ((n + 2:Nat):Int) ≤ 1:=by omega
    have p3:¬ ((n + 2:Nat):Int)=1:=by omega
    simp only [pS,pE,pC,if_neg p1,if_neg p2,if_neg p3]
    rw [show ((n + 2:Nat):Int) - 1=((n + 1:Nat):Int) by omega]
    refine vR_spec.2 ⟨by omega,?_,hc,h0⟩
    split<;>omega
theorem cntN_PR {s c:Int} {n:Nat} (h0:c ≠ 0) (hc:-200 ≤ c ∧ c ≤ 200) (hb:∀ i:Nat,i < n → -100 ≤ s + (i:Int) * c ∧ s + (i:Int) * c ≤ 100) :
    cntN (pS s n) (pE s c n) (pC c n)=n:=by
  have hv:=PR_valid h0 hc hb
  have key:∀ i:Nat,i < cntN (pS s n) (pE s c n) (pC c n) ↔ i < n:=by
    intro i
    rw [cntN_lt hv]
    match n with
    | 0=>simp [pS,pE,pC];try omega
    | 1=>simp [pS,pE,pC];try omega
    | n + 2 =>
      have p1:¬ ((n + 2:Nat):Int) < 1:=by omega
      have p2:¬ ((n + 2:Nat):Int) ≤ 1:=by omega
      have p3:¬ ((n + 2:Nat):Int)=1:=by omega
      simp only [pS,pE,pC,if_neg p1,if_neg p2,if_neg p3]
      rw [show ((n + 2:Nat):Int) - 1=((n + 1:Nat):Int) by omega]
      by_cases hn:c < 0
      · rw [if_pos hn]
        constructor
        · rintro (h|h)
          · omega
          · rcases Nat.lt_or_ge i (n + 2) with g|g
            · exact g
            · have:=Int.mul_le_mul_of_nonneg_right (a:=((n + 2:Nat):Int)) (b:=(i:Int)) (c:=0 - c) (by omega) (by omega)
              rw [Int.mul_sub,Int.mul_sub,Int.mul_zero,Int.mul_zero,show ((n + 2:Nat):Int)=((n + 1:Nat):Int) + 1 by omega,Int.add_mul] at this
              omega
        · intro g
          right
          have:=Int.mul_le_mul_of_nonneg_right (a:=(i:Int)) (b:=((n + 1:Nat):Int)) (c:=0 - c) (by omega) (by omega)
          rw [Int.mul_sub,Int.mul_sub,Int.mul_zero,Int.mul_zero] at this
          omega
      · rw [if_neg hn]
        constructor
        · rintro (h|h)
          · rcases Nat.lt_or_ge i (n + 2) with g|g
            · exact g
            · have:=Int.mul_le_mul_of_nonneg_right (a:=((n + 2:Nat):Int)) (b:=(i:Int)) (c:=c) (by omega) (by omega)
              rw [show ((n + 2:Nat):Int)=((n + 1:Nat):Int) + 1 by omega,Int.add_mul] at this
              omega
          · omega
        · intro g
          left
          have:=Int.mul_le_mul_of_nonneg_right (a:=(i:Int)) (b:=((n + 1:Nat):Int)) (c:=c) (by omega) (by omega)
          omega
  rcases Nat.lt_trichotomy (cntN (pS s n) (pE s c n) (pC c n)) n with h|h|h
  · have:=(key _).2 h;omega
  · exact h
  · have:=(key _).1 h;omega
def revT (xs:List Int) (k:Nat):List Int:=xs.reverse.take k
theorem revT_zero (xs:List Int):revT xs 0=[]:=rfl
theorem revT_length (xs:List Int) (k:Nat) (h:k ≤ xs.length):(revT xs k).length=k:=by simp [revT];omega
theorem revT_succ (xs:List Int) (k:Nat) (h:k < xs.length):revT xs (k + 1)=revT xs k ++ [xs.getD (xs.length - 1 - k) 0]:=by
  unfold revT
  rw [take_succ_getD _ _ (by simpa using h)]
  congr 2
  rw [List.getD,List.getD,List.getElem?_reverse h]
theorem revT_all (xs:List Int):revT xs xs.length=xs.reverse:=by simp [revT,List.take_of_length_le]
def meA (a b c a' b' c':Int):AV:=if vR a b c=true ∧ vR a' b' c'=true then nrmA (commL (nums (aS a c (cntN a b c)) (aC c) (cntN a b c)) (nums (aS a' c' (cntN a' b' c')) (aC c') (cntN a' b' c'))) else rng 0 0 0
def cvB (a b c a' b' c':Int):Bool:=vR a b c && vR a' b' c' && decide (∀ x ∈ nums a' c' (cntN a' b' c'),x ∈ nums a c (cntN a b c))
theorem plainI [Inhabited GlobT] {P:Program} {f:Nat} {args:List AV} {xs:List Int} (h:BCall P f args [] (OI xs)):PCall P f args (fun r=>r=.rows true (IL xs) xs.length):=by
  refine (BCall.plain h).mono ?_
  rintro r ⟨r0,H',⟨rfl,rfl⟩,rfl⟩
  simp [AV.ren,nthH,List.map_map,Function.comp_def]
theorem plainV [Inhabited GlobT] {P:Program} {f:Nat} {args:List AV} {b:Int} {sh st:List Int} (h:BCall P f args [] (OV b sh st)):PCall P f args (fun r=>r=.agg [.int .i64 b,.rows true (IL sh) sh.length,.rows true (IL st) st.length]):=by
  refine (BCall.plain h).mono ?_
  rintro r ⟨r0,H',⟨rfl,rfl⟩,rfl⟩
  simp [AV.ren,nthH,List.map_map,Function.comp_def]
end VwM
set_option linter.unusedVariables false
set_option linter.unusedSimpArgs false
set_option linter.unnecessarySimpa false
set_option maxRecDepth 4000
namespace VwM
open Vw
open Go

def horF (sh:List Int) (f:Nat → Int):Nat → Int
  | 0=>0
  | k + 1=>horF sh f k * sh.getD k 0 + f k
theorem horF_congr {sh:List Int} {f g:Nat → Int}:∀ {k:Nat},(∀ i,i < k → f i=g i) → horF sh f k=horF sh g k
  | 0,_=>rfl
  | k + 1,h=>by simp only [horF];rw [horF_congr fun i hi=>h i (by omega),h k (by omega)]
def isIx (sh:List Int) (f:Nat → Int):Prop:=∀ i,i < sh.length → 0 ≤ f i ∧ f i < sh.getD i 0
theorem horF_bound {sh:List Int} {f:Nat → Int} (hf:isIx sh f):∀ k,k ≤ sh.length → 0 ≤ horF sh f k ∧ horF sh f k + 1 ≤ pr (sh.take k)
  | 0,_=>by simp [horF,pr_nil]
  | k + 1,h=>by
    have ih:=horF_bound hf k (by omega)
    have h3:=hf k (by omega)
    rw [pr_take_succ sh k (by omega)]
    have h5:(horF sh f k + 1) * sh.getD k 0 ≤ pr (sh.take k) * sh.getD k 0:=Int.mul_le_mul_of_nonneg_right ih.2 (by omega)
    have h6:0 ≤ horF sh f k * sh.getD k 0:=Int.mul_nonneg ih.1 (by omega)
    rw [Int.add_mul,Int.one_mul] at h5
    simp only [horF]
    omega
theorem kS_horF {sh:List Int} {f:Nat → Int} (hf:isIx sh f):∀ j,j ≤ sh.length → kS sh (horF sh f sh.length) j=horF sh f (sh.length - j)
  | 0,_=>by simp [kS]
  | j + 1,h=>by
    have ih:=kS_horF hf j (by omega)
    have h1:=hf (sh.length - 1 - j) (by omega)
    have h2:=horF_bound hf (sh.length - 1 - j) (by omega)
    simp only [kS]
    rw [ih,show sh.length - j=sh.length - 1 - j + 1 by omega,show sh.length - (j + 1)=sh.length - 1 - j by omega]
    simp only [horF]
    have h3:0 ≤ horF sh f (sh.length - 1 - j) * sh.getD (sh.length - 1 - j) 0:=Int.mul_nonneg h2.1 (by omega)
    rw [Int.tdiv_eq_ediv_of_nonneg (by omega),Int.add_comm,Int.add_mul_ediv_right _ _ (by omega),Int.ediv_eq_zero_of_lt h1.1 h1.2]
    omega
theorem dig_horF {sh:List Int} {f:Nat → Int} (hf:isIx sh f) {i:Nat} (hi:i < sh.length):dig sh (horF sh f sh.length) i=f i:=by
  unfold dig
  have h1:=hf i hi
  have h2:=horF_bound hf i (by omega)
  rw [kS_horF hf _ (by omega),show sh.length - (sh.length - 1 - i)=i + 1 by omega]
  simp only [horF]
  have h3:0 ≤ horF sh f i * sh.getD i 0:=Int.mul_nonneg h2.1 (by omega)
  rw [Int.tmod_eq_emod_of_nonneg (by omega),Int.add_comm,Int.add_mul_emod_self_right,Int.emod_eq_of_lt h1.1 h1.2]
theorem kS_lt {sh:List Int} {k:Int} (hk:0 ≤ k) (hp:∀ i,i < sh.length → 1 ≤ sh.getD i 0) (h:k < pr sh):∀ j,j ≤ sh.length → kS sh k j < pr (sh.take (sh.length - j))
  | 0,_=>by simpa [kS] using h
  | j + 1,hj=>by
    have ih:=kS_lt hk hp h j (by omega)
    have h1:=hp (sh.length - 1 - j) (by omega)
    have h2:=kS_bound hk hp j (by omega)
    rw [show sh.length - j=sh.length - 1 - j + 1 by omega,pr_take_succ _ _ (by omega)] at ih
    simp only [kS]
    rw [show sh.length - (j + 1)=sh.length - 1 - j by omega,Int.tdiv_eq_ediv_of_nonneg h2.1]
    exact Int.ediv_lt_of_lt_mul (by omega) ih
theorem horF_dig {sh:List Int} {k:Int} (hk:0 ≤ k) (hp:∀ i,i < sh.length → 1 ≤ sh.getD i 0) (h:k < pr sh):∀ m,m ≤ sh.length → horF sh (dig sh k) m=kS sh k (sh.length - m)
  | 0,_=>by
    have h1:=kS_lt hk hp h sh.length (Nat.le_refl _)
    have h2:=kS_bound hk hp sh.length (Nat.le_refl _)
    simp only [Nat.sub_self,List.take_zero,pr_nil] at h1
    simp only [horF,Nat.sub_zero]
    omega
  | m + 1,hm=>by
    have ih:=horF_dig hk hp h m (by omega)
    simp only [horF]
    rw [ih,show sh.length - m=(sh.length - (m + 1)) + 1 by omega]
    have h2:=kS_bound hk hp (sh.length - (m + 1)) (by omega)
    simp only [kS,dig]
    rw [show sh.length - 1 - (sh.length - (m + 1))=m by omega,show sh.length - 1 - m=sh.length - (m + 1) by omega]
    have:=Int.tdiv_mul_add_tmod (kS sh k (sh.length - (m + 1))) (sh.getD m 0)
    omega
theorem horF_dig_all {sh:List Int} {k:Int} (hk:0 ≤ k) (hp:∀ i,i < sh.length → 1 ≤ sh.getD i 0) (h:k < pr sh):horF sh (dig sh k) sh.length=k:=by
  rw [horF_dig hk hp h _ (Nat.le_refl _)];simp [kS]
theorem dig_isIx {sh:List Int} (hg:good4 sh) {k:Int} (hk:0 ≤ k) (h:k < pr sh):isIx sh (dig sh k):=fun i hi =>
  dig_bound hk (pos_of_pr hg (by omega)) (fun i hi=>(good4_at hg hi).2) hi

def cellK (b:Int) (sh st:List Int) (k:Int):Int:=b + dot (dig sh k) st sh.length
def offs (b:Int) (sh st:List Int):List Int:=(List.range (pr sh).toNat).map fun k:Nat=>cellK b sh st k
theorem offs_length (b:Int) (sh st:List Int):(offs b sh st).length=(pr sh).toNat:=by simp [offs]
theorem mem_offs {b:Int} {sh st:List Int} {x:Int}:x ∈ offs b sh st ↔ ∃ k:Nat,k < (pr sh).toNat ∧ cellK b sh st k=x:=by simp [offs]
theorem mem_offs_ix {b:Int} {sh st:List Int} (hg:good4 sh) {x:Int}:x ∈ offs b sh st ↔ ∃ f,isIx sh f ∧ b + dot f st sh.length=x:=by
  rw [mem_offs]
  constructor
  · rintro ⟨k,hk,rfl⟩
    exact ⟨dig sh k,dig_isIx hg (by omega) (by omega),rfl⟩
  · rintro ⟨f,hf,rfl⟩
    have h:=horF_bound hf sh.length (Nat.le_refl _)
    rw [List.take_length] at h
    refine ⟨(horF sh f sh.length).toNat,by omega,?_⟩
    unfold cellK
    rw [show (((horF sh f sh.length).toNat:Nat):Int)=horF sh f sh.length by omega,dot_congr fun i hi=>dig_horF hf hi]
def vSt (st:List Int) (n:Nat):Bool:=decide (st.length=n) && allI st (-60) 60
theorem vSt_spec {st:List Int} {n:Nat}:vSt st n=true ↔ st.length=n ∧ ∀ x ∈ st,-60 ≤ x ∧ x ≤ 60:=by
  simp only [vSt,Bool.and_eq_true,decide_eq_true_eq,allI_iff]
theorem vSt_at {st:List Int} {n i:Nat} (h:vSt st n=true) (hi:i < n):-60 ≤ st.getD i 0 ∧ st.getD i 0 ≤ 60:=by
  obtain ⟨h1,h2⟩:=vSt_spec.1 h
  exact h2 _ (getD_mem (by omega))
def vV (b:Int) (sh st:List Int):Bool:=vSh sh && vSt st sh.length && (decide (0 ≤ b) && decide (b ≤ 60)) && (decide (pr sh=0) || allI (offs b sh st) 0 59)
theorem vV_spec {b:Int} {sh st:List Int}:vV b sh st=true ↔ vSh sh=true ∧ vSt st sh.length=true ∧ (0 ≤ b ∧ b ≤ 60) ∧ (pr sh=0 ∨ ∀ x ∈ offs b sh st,0 ≤ x ∧ x ≤ 59):=by
  simp only [vV,Bool.and_eq_true,Bool.or_eq_true,decide_eq_true_eq,allI_iff,and_assoc]
theorem vV_cells {b:Int} {sh st:List Int} (h:vV b sh st=true):∀ x ∈ offs b sh st,0 ≤ x ∧ x ≤ 59:=by
  obtain ⟨h1,h2,h3,h4⟩:=vV_spec.1 h
  rcases h4 with h4|h4
  · intro x hx
    obtain ⟨k,hk,_⟩:=mem_offs.1 hx
    omega
  · exact h4
def lowS (sh st:List Int):Nat → Int
  | 0=>0
  | k + 1=>lowS sh st k + min ((sh.getD k 0 - 1) * st.getD k 0) 0
def highS (sh st:List Int):Nat → Int
  | 0=>0
  | k + 1=>highS sh st k + max ((sh.getD k 0 - 1) * st.getD k 0) 0
theorem dot_lowhigh {sh st:List Int} {f:Nat → Int} (hf:isIx sh f):∀ k,k ≤ sh.length → lowS sh st k ≤ dot f st k ∧ dot f st k ≤ highS sh st k
  | 0,_=>by simp [lowS,highS,dot]
  | k + 1,h=>by
    have ih:=dot_lowhigh (st:=st) hf k (by omega)
    have h1:=hf k (by omega)
    simp only [lowS,highS,dot]
    have:min ((sh.getD k 0 - 1) * st.getD k 0) 0 ≤ f k * st.getD k 0 ∧ f k * st.getD k 0 ≤ max ((sh.getD k 0 - 1) * st.getD k 0) 0:=by
      rcases Int.lt_or_le (st.getD k 0) 0 with hs|hs
      · have a1:=Int.mul_nonneg h1.1 (b:=0 - st.getD k 0) (by omega)
        have a2:=Int.mul_nonneg (a:=sh.getD k 0 - 1 - f k) (b:=0 - st.getD k 0) (by omega) (by omega)
        rw [Int.mul_sub,Int.mul_zero] at a1 a2
        rw [Int.sub_mul] at a2
        omega
      · have a1:=Int.mul_nonneg h1.1 hs
        have a2:=Int.mul_nonneg (a:=sh.getD k 0 - 1 - f k) (by omega) hs
        rw [Int.sub_mul] at a2
        omega
    omega
theorem dot_low {sh st:List Int}:∀ k,k ≤ sh.length → (∀ i,i < sh.length → 1 ≤ sh.getD i 0) → dot (fun i=>if st.getD i 0 < 0 then sh.getD i 0 - 1 else 0) st k=lowS sh st k
  | 0,_,_=>rfl
  | k + 1,h,hp=>by
    simp only [lowS,dot]
    rw [dot_low k (by omega) hp]
    have:=hp k (by omega)
    split
    · rename_i hs
      have a2:=Int.mul_nonneg (a:=sh.getD k 0 - 1) (b:=0 - st.getD k 0) (by omega) (by omega)
      rw [Int.mul_sub,Int.mul_zero] at a2
      omega
    · have a2:=Int.mul_nonneg (a:=sh.getD k 0 - 1) (b:=st.getD k 0) (by omega) (by omega)
      omega
theorem dot_high {sh st:List Int}:∀ k,k ≤ sh.length → (∀ i,i < sh.length → 1 ≤ sh.getD i 0) → dot (fun i=>if st.getD i 0 < 0 then 0 else sh.getD i 0 - 1) st k=highS sh st k
  | 0,_,_=>rfl
  | k + 1,h,hp=>by
    simp only [highS,dot]
    rw [dot_high k (by omega) hp]
    have:=hp k (by omega)
    split
    · rename_i hs
      have a2:=Int.mul_nonneg (a:=sh.getD k 0 - 1) (b:=0 - st.getD k 0) (by omega) (by omega)
      rw [Int.mul_sub,Int.mul_zero] at a2
      omega
    · have a2:=Int.mul_nonneg (a:=sh.getD k 0 - 1) (b:=st.getD k 0) (by omega) (by omega)
      omega
theorem low_offs {b:Int} {sh st:List Int} (hg:good4 sh) (h1:1 ≤ pr sh):b + lowS sh st sh.length ∈ offs b sh st ∧ ∀ x ∈ offs b sh st,b + lowS sh st sh.length ≤ x:=by
  have hp:=pos_of_pr hg h1
  constructor
  · refine (mem_offs_ix hg).2 ⟨fun i=>if st.getD i 0 < 0 then sh.getD i 0 - 1 else 0,fun i hi=>?_,by rw [dot_low _ (Nat.le_refl _) hp]⟩
    have:=hp i hi
    simp only
    split<;>omega
  · intro x hx
    obtain ⟨f,hf,rfl⟩:=(mem_offs_ix hg).1 hx
    have:=dot_lowhigh (st:=st) hf sh.length (Nat.le_refl _)
    omega
theorem high_offs {b:Int} {sh st:List Int} (hg:good4 sh) (h1:1 ≤ pr sh):b + highS sh st sh.length ∈ offs b sh st ∧ ∀ x ∈ offs b sh st,x ≤ b + highS sh st sh.length:=by
  have hp:=pos_of_pr hg h1
  constructor
  · refine (mem_offs_ix hg).2 ⟨fun i=>if st.getD i 0 < 0 then 0 else sh.getD i 0 - 1,fun i hi=>?_,by rw [dot_high _ (Nat.le_refl _) hp]⟩
    have:=hp i hi
    simp only
    split<;>omega
  · intro x hx
    obtain ⟨f,hf,rfl⟩:=(mem_offs_ix hg).1 hx
    have:=dot_lowhigh (st:=st) hf sh.length (Nat.le_refl _)
    omega
def bdL (b:Int) (sh st:List Int):Int:=if pr sh=0 then -1 else b + lowS sh st sh.length
def bdH (b:Int) (sh st:List Int):Int:=if pr sh=0 then -1 else b + highS sh st sh.length
theorem bd_all {b:Int} {sh st:List Int} (hg:good4 sh) (h1:1 ≤ pr sh) {l h:Int}:allI (offs b sh st) l h=(decide (l ≤ b + lowS sh st sh.length) && decide (b + highS sh st sh.length ≤ h)):=by
  rw [Bool.eq_iff_iff,allI_iff,Bool.and_eq_true,decide_eq_true_eq,decide_eq_true_eq]
  obtain ⟨a1,a2⟩:=low_offs (b:=b) (st:=st) hg h1
  obtain ⟨a3,a4⟩:=high_offs (b:=b) (st:=st) hg h1
  constructor
  · intro h
    exact ⟨(h _ a1).1,(h _ a3).2⟩
  · rintro ⟨h5,h6⟩ x hx
    have:=a2 x hx
    have:=a4 x hx
    omega
def mnL (xs:List Int):Nat → Int
  | 0=>xs.getD 0 0
  | k + 1=>min (mnL xs k) (xs.getD k 0)
def mxL (xs:List Int):Nat → Int
  | 0=>xs.getD 0 0
  | k + 1=>max (mxL xs k) (xs.getD k 0)
theorem lowhigh_bound {sh st:List Int} (hg:good4 sh) (hs:vSt st sh.length=true):∀ k,k ≤ sh.length → -(3600 * (k:Int)) ≤ lowS sh st k ∧ lowS sh st k ≤ 0 ∧ 0 ≤ highS sh st k ∧ highS sh st k ≤ 3600 * (k:Int)
  | 0,_=>by simp [lowS,highS]
  | k + 1,h=>by
    have ih:=lowhigh_bound hg hs k (by omega)
    have h1:=good4_at hg (k:=k) (by omega)
    have h2:=vSt_at hs (i:=k) (by omega)
    have h3:=mul_bd (x:=sh.getD k 0 - 1) (y:=st.getD k 0) (p:=60) (q:=60) (by omega) (by omega)
    simp only [lowS,highS]
    omega
end VwM
set_option linter.unusedVariables false
set_option linter.unusedSimpArgs false
set_option linter.unnecessarySimpa false
set_option maxRecDepth 4000
namespace VwM
open Vw
open Go

theorem mkAV_bools (bs:List Bool) (off:Nat):mkAV false (((bs.map AV.bool).drop off).take 1)=if off < bs.length then some (.bool (bs.getD off false)) else none:=by
  by_cases h:off < bs.length
  · rw [if_pos h,List.drop_eq_getElem_cons (by simpa using h)]
    simp [mkAV,h,List.getD]
  · rw [if_neg h,List.drop_eq_nil_of_le (by simp;omega)]
    rfl
attribute [push_cast] mkAV_bools
def met (xs:List Int) (k:Nat):List Bool:=(List.range 60).map fun c:Nat=>decide ((c:Int) ∈ xs.take k)
theorem nodup_iff {xs:List Int}:xs.Nodup ↔ ∀ j,j < xs.length → xs.getD j 0 ∉ xs.take j:=by
  have key:∀ k,k ≤ xs.length → ((xs.take k).Nodup ↔ ∀ j,j < k → xs.getD j 0 ∉ xs.take j):=by
    intro k
    induction k with
    | zero=>intro _;simp
    | succ k ih =>
      intro hk
      rw [take_succ_getD _ _ (by omega),List.nodup_append]
      rw [ih (by omega)]
      constructor
      · rintro ⟨h1,_,h3⟩ j hj
        by_cases e:j=k
        · subst e
          intro hm
          exact h3 _ hm _ (by simp) rfl
        · exact h1 j (by omega)
      · intro h
        refine ⟨fun j hj=>h j (by omega),by simp,?_⟩
        intro a ha b hb e
        simp only [List.mem_singleton] at hb
        subst hb e
        exact h k (by omega) ha
  have:=key xs.length (Nat.le_refl _)
  rwa [List.take_length] at this
theorem not_nodup {xs:List Int} {j:Nat} (h:j < xs.length) (hm:xs.getD j 0 ∈ xs.take j):¬ xs.Nodup:=fun hn=>nodup_iff.1 hn j h hm
def oneB (b:Int) (sh st:List Int):Bool:=vV b sh st && decide (offs b sh st).Nodup
end VwM
set_option linter.unusedVariables false
set_option linter.unusedSimpArgs false
set_option linter.unnecessarySimpa false
set_option maxRecDepth 4000
namespace VwM
open Vw
open Go

theorem wrap_id {n:Int} (h0:0 ≤ n) (h1:n < 1099511627776):IntKind.wrap .i64 n=n:=IntWalk.i64_in n (by omega)
theorem xor_bound {a b:Int} (ha:0 ≤ a ∧ a < 1099511627776) (hb:0 ≤ b ∧ b < 1099511627776):0 ≤ bits .xor .i64 a b ∧ bits .xor .i64 a b < 1099511627776:=by
  have h:(BitVec.ofInt 64 a ^^^ BitVec.ofInt 64 b).toNat < 1099511627776:=by
    rw [BitVec.toNat_xor,BitVec.toNat_ofInt,BitVec.toNat_ofInt]
    have e1:(a % ((2 ^ 64:Nat):Int)).toNat < 2 ^ 40:=by
      rw [Int.emod_eq_of_lt ha.1 (by omega)];omega
    have e2:(b % ((2 ^ 64:Nat):Int)).toNat < 2 ^ 40:=by
      rw [Int.emod_eq_of_lt hb.1 (by omega)];omega
    exact Nat.xor_lt_two_pow e1 e2
  have e:bits .xor .i64 a b=IntKind.wrap .i64 ((BitVec.ofInt 64 a ^^^ BitVec.ofInt 64 b).toNat:Int):=rfl
  rw [e,wrap_id (by omega) (by omega)]
  omega
abbrev UL (bs:List Int):List AV:=bs.map (AV.int .u8)
abbrev RD (bs:List Int) (p:Int):List AV:=[.rows false (UL bs) bs.length,.int .i64 p]
def okB (bs:List Int):Prop:=bs.length ≤ 2000 ∧ ∀ x ∈ bs,0 ≤ x ∧ x ≤ 255
theorem okB_at {bs:List Int} (h:okB bs) {i:Nat} (hi:i < bs.length):0 ≤ bs.getD i 0 ∧ bs.getD i 0 ≤ 255:=h.2 _ (getD_mem hi)
theorem tmod_bound {x n:Int} (hx:0 ≤ x) (hn:0 < n):0 ≤ x.tmod n ∧ x.tmod n < n:=⟨Int.tmod_nonneg n hx,Int.tmod_lt_of_pos x hn⟩
def unI:List AV → List Int
  | []=>[]
  | .int _ n :: r=>n :: unI r
  | _ :: r=>0 :: unI r
theorem unI_nil:unI []=[]:=rfl
theorem unI_cons (k:IntKind) (n:Int) (r:List AV):unI (.int k n :: r)=n :: unI r:=rfl
theorem unI_IL (xs:List Int):unI (IL xs)=xs:=by
  induction xs with
  | nil=>rfl
  | cons x r ih=>show x :: unI (IL r)=_;rw [ih]
attribute [simp] unI_nil unI_cons unI_IL
end VwM
set_option linter.unusedVariables false
set_option linter.unusedSimpArgs false
set_option linter.unnecessarySimpa false
set_option maxRecDepth 4000
namespace VwM
open Vw
open Go

def lenI (a b c:Int):Int:=if vR a b c=true then cntN a b c else -1
def nrR (a b c:Int):AV:=if vR a b c=true then PR a c (cntN a b c) else rng 0 0 0
def rvR (a b c:Int):AV:=if vR a b c=true then PR (a + ((cntN a b c:Int) - 1) * c) (0 - c) (cntN a b c) else rng 0 0 0
def plI (a b c x:Int):Int:=if vR a b c=true then placeI (nums a c (cntN a b c)) x else -1
def fromEnd (i n:Int):Int:=if i < 0 then i + n else i
def naB (a b c i:Int):Bool:=vR a b c && decide (0 ≤ fromEnd i (cntN a b c)) && decide (fromEnd i (cntN a b c) < cntN a b c)
def naI (a b c i:Int):Int:=if naB a b c i=true then a + fromEnd i (cntN a b c) * c else 0
end VwM
set_option linter.unusedVariables false
set_option linter.unusedSimpArgs false
set_option linter.unnecessarySimpa false
set_option maxRecDepth 4000
namespace VwM
open Vw
open Go

end VwM
set_option linter.unusedVariables false
set_option linter.unusedSimpArgs false
set_option linter.unnecessarySimpa false
set_option maxRecDepth 4000
namespace VwM
open Vw
open Go

theorem unr_isIx {sh:List Int} (hg:good4 sh) {k:Int} (hk:0 ≤ k) (h:k < pr sh):vIx sh (unr sh k)=true:=by
  refine vIx_spec.2 ⟨by simp,fun i hi=>?_⟩
  have hi':i < sh.length:=by simpa using hi
  have:=dig_isIx hg hk h i hi'
  have e:(unr sh k).getD i 0=dig sh k i:=by simp [unr,List.getD,hi']
  rw [e]
  omega
theorem pr_append (xs ys:List Int):pr (xs ++ ys)=pr xs * pr ys:=by
  induction xs with
  | nil=>rw [List.nil_append,pr_nil,Int.one_mul]
  | cons x r ih=>rw [List.cons_append,pr_cons,pr_cons,ih,Int.mul_assoc]
end VwM
set_option linter.unusedVariables false
set_option linter.unusedSimpArgs false
set_option linter.unnecessarySimpa false
set_option maxRecDepth 4000
namespace VwM
open Vw
open Go

def sumT (xs:List Int):Nat → Int
  | 0=>0
  | k + 1=>sumT xs k + xs.getD k 0
def sumI (a b c:Int):Int:=if vR a b c=true then sumT (nums a c (cntN a b c)) (cntN a b c) else 0
def takesL (xs at_:List Int):List Int:=at_.map fun i=>xs.getD i.toNat 0
end VwM
set_option linter.unusedVariables false
set_option linter.unusedSimpArgs false
set_option maxRecDepth 4000
namespace VwM
open Vw
open Go

def wo (xs:List Int) (k:Nat):List Int:=xs.take k ++ xs.drop (k + 1)
theorem wo_length {xs:List Int} {k:Nat} (h:k < xs.length):(wo xs k).length=xs.length - 1:=by simp [wo];omega
theorem wo_mem {xs:List Int} {k:Nat} {x:Int} (h:x ∈ wo xs k):x ∈ xs:=by
  rcases List.mem_append.1 h with h|h
  · exact List.mem_of_mem_take h
  · exact List.mem_of_mem_drop h
theorem pr_wo {xs:List Int} {k:Nat} (h:k < xs.length):pr xs=pr (wo xs k) * xs.getD k 0:=by
  unfold wo
  rw [pr_append,show pr xs=pr (xs.take k ++ xs.drop k) by rw [List.take_append_drop],pr_append,pr_drop xs k h]
  rw [Int.mul_assoc,Int.mul_comm (xs.getD k 0)]
theorem good4_wo {xs:List Int} (h:good4 xs) (k:Nat) (hk:k < xs.length):good4 (wo xs k):=⟨fun x hx=>h.1 x (wo_mem hx),by rw [wo_length hk];have:=h.2;omega⟩
end VwM
set_option linter.unusedVariables false
set_option linter.unusedSimpArgs false
set_option maxRecDepth 4000
namespace VwM
open Vw
open Go

def spS (b:Int) (sh st:List Int):Int:=if pr sh=0 then 0 else bdL b sh st
def spN (b:Int) (sh st:List Int):Nat:=if pr sh=0 then 0 else (bdH b sh st - bdL b sh st + 1).toNat
theorem bd_cells {b:Int} {sh st:List Int} (hv:vV b sh st=true) (hz:¬ pr sh=0):0 ≤ bdL b sh st ∧ bdL b sh st ≤ bdH b sh st ∧ bdH b sh st ≤ 59:=by
  obtain ⟨h1,-,-,-⟩:=vV_spec.1 hv
  have hg:=vSh_good h1
  have p:1 ≤ pr sh:=by omega
  obtain ⟨a1,a2⟩:=low_offs (b:=b) (st:=st) hg.1 p
  obtain ⟨a3,a4⟩:=high_offs (b:=b) (st:=st) hg.1 p
  have q1:=vV_cells hv _ a1
  have q2:=vV_cells hv _ a3
  have q3:=a2 _ a3
  rw [bdL,bdH,if_neg hz,if_neg hz]
  omega
theorem sp_bound {b:Int} {sh st:List Int} (hv:vV b sh st=true):0 ≤ spS b sh st ∧ spS b sh st + spN b sh st ≤ 60:=by
  unfold spS spN
  by_cases hz:pr sh=0
  · simp [hz]
  · have:=bd_cells hv hz
    simp only [if_neg hz]
    omega
def mayB (b:Int) (sh st:List Int) (b':Int) (sh' st':List Int):Bool :=
  vV b sh st && vV b' sh' st' && decide (0 < (commL (nums (spS b sh st) 1 (spN b sh st)) (nums (spS b' sh' st') 1 (spN b' sh' st'))).length)
def bothL (xs ys:List Int):List Int:=(nums 0 1 60).filter fun x=>decide (x ∈ xs ∧ x ∈ ys)
def bothT (xs ys:List Int) (k:Nat):List Int:=(nums 0 1 k).filter fun x=>decide (x ∈ xs ∧ x ∈ ys)
theorem bothT_le (xs ys:List Int) (k:Nat):(bothT xs ys k).length ≤ k:=by
  have:=List.length_filter_le (fun x=>decide (x ∈ xs ∧ x ∈ ys)) (nums 0 1 k)
  rw [nums_length] at this
  exact this
theorem mem_bothL {xs ys:List Int} {x:Int}:x ∈ bothL xs ys ↔ (0 ≤ x ∧ x ≤ 59) ∧ x ∈ xs ∧ x ∈ ys:=by
  unfold bothL
  rw [List.mem_filter,mem_nums_iff (by omega)]
  simp only [decide_eq_true_eq]
  constructor
  · rintro ⟨⟨a,b,_⟩,h⟩;exact ⟨by omega,h⟩
  · rintro ⟨a,h⟩;exact ⟨⟨by omega,by omega,⟨_,(Int.one_mul _).symm⟩⟩,h⟩
theorem bothL_sorted (xs ys:List Int):(bothL xs ys).Pairwise (· < ·):=List.Pairwise.filter _ (nums_sorted (by omega) _)
theorem bothL_le (xs ys:List Int):(bothL xs ys).length ≤ 60:=bothT_le xs ys 60
def lineA (b:Int) (sh st:List Int):AV:=if vV b sh st=true ∧ sh.length=1 then nrmA (bothL (offs b sh st) (offs b sh st)) else rng 0 0 0
end VwM
set_option linter.unusedVariables false
set_option linter.unusedSimpArgs false
set_option linter.unnecessarySimpa false
set_option maxRecDepth 4000
namespace VwM
open Vw
open Go

end VwM
set_option linter.unusedVariables false
set_option linter.unusedSimpArgs false
set_option maxRecDepth 4000
namespace VwM
open Vw
open Go

def MVB (v:Bool) (b:Int):Int:=if v=true then b else 0
def MVL (v:Bool) (l:List Int):List Int:=if v=true then l else []
theorem MVB_true (b:Int):MVB true b=b:=rfl
theorem MVL_true (l:List Int):MVL true l=l:=rfl
theorem MVL_false (l:List Int):MVL false l=[]:=rfl
theorem MVL_le (v:Bool) (l:List Int):(MVL v l).length ≤ l.length:=by cases v<;>simp [MVL]
abbrev MV (v:Bool) (b:Int) (sh st:List Int):AV → List (List AV) → Prop:=fun r H' =>
  r=.tup [.agg [.int .i64 (MVB v b),.own 0 (MVL v sh).length 1,.own 1 (MVL v st).length 1],.bool v] ∧ H'=[IL (MVL v sh),IL (MVL v st)]

def ins (xs:List Int) (k:Nat) (x:Int):List Int:=xs.take k ++ x :: xs.drop k
theorem ins_length {xs:List Int} {k:Nat} (x:Int) (h:k ≤ xs.length):(ins xs k x).length=xs.length + 1:=by simp [ins];omega

def cutK (n f t w:Int) (hf ht:Bool):Nat:=cntN (sFrom f n w hf) (sTo t n w ht) w
def cutSh (sh:List Int) (j:Nat) (f t w:Int) (hf ht:Bool):List Int:=sh.set j (cutK (sh.getD j 0) f t w hf ht)
def cutX (sh st:List Int) (j:Nat) (f t w:Int) (hf ht:Bool):Int:=if (cutK (sh.getD j 0) f t w hf ht:Int) ≤ 1 then 0 else pC w (cutK (sh.getD j 0) f t w hf ht) * st.getD j 0
def cutSt (sh st:List Int) (j:Nat) (f t w:Int) (hf ht:Bool):List Int :=
  if pr (cutSh sh j f t w hf ht)=0 then List.replicate sh.length 0 else st.set j (cutX sh st j f t w hf ht)
def cutB (b:Int) (sh st:List Int) (j:Nat) (f t w:Int) (hf ht:Bool):Int :=
  if pr (cutSh sh j f t w hf ht)=0 then 0 else b + pS (sFrom f (sh.getD j 0) w hf) (cutK (sh.getD j 0) f t w hf ht) * st.getD j 0
theorem cutSh_length (sh:List Int) (j:Nat) (f t w:Int) (hf ht:Bool):(cutSh sh j f t w hf ht).length=sh.length:=by simp [cutSh]
theorem cutSt_length {sh st:List Int} (hl:st.length=sh.length) (j:Nat) (f t w:Int) (hf ht:Bool):(cutSt sh st j f t w hf ht).length=sh.length:=by
  unfold cutSt;split<;>simp [hl]
theorem cutK_le {n f t w:Int} {hf ht:Bool} (hn:0 ≤ n ∧ n ≤ 60) (hs:vS f t w hf ht=true):(cutK n f t w hf ht:Int) ≤ n:=by
  have hw:=(vS_spec.1 hs).2.2.2.1
  match hk:cutK n f t w hf ht with
  | 0=>omega
  | k + 1 =>
    have a:=idx_in hn hs (i:=k) (show k < cutK n f t w hf ht by omega)
    have b:=idx_in hn hs (i:=0) (show 0 < cutK n f t w hf ht by omega)
    simp only [Int.natCast_zero,Int.zero_mul,Int.add_zero] at b
    rcases Int.lt_or_le w 0 with h|h
    · have:(k:Int) * w ≤ (k:Int) * (-1):=Int.mul_le_mul_of_nonneg_left (by omega) (by omega)
      omega
    · have:(k:Int) * 1 ≤ (k:Int) * w:=Int.mul_le_mul_of_nonneg_left (by omega) (by omega)
      omega
theorem good4_set {sh:List Int} (hg:good4 sh) (j:Nat) {x:Int} (hx:0 ≤ x ∧ x ≤ 60):good4 (sh.set j x) :=
  ⟨fun y hy=>by
    rcases List.mem_or_eq_of_mem_set hy with h|h
    · exact hg.1 y h
    · omega,by simp;exact hg.2⟩
theorem good4_cut {sh:List Int} (hg:good4 sh) {j:Nat} (hj:j < sh.length) {f t w:Int} {hf ht:Bool} (hs:vS f t w hf ht=true):good4 (cutSh sh j f t w hf ht):=by
  have hn:=good4_at hg hj
  have:=cutK_le hn hs
  exact good4_set hg j (by omega)
end VwM
set_option linter.unusedVariables false
set_option linter.unusedSimpArgs false
set_option maxRecDepth 4000
namespace VwM
open Vw
open Go

theorem unr_at {sh:List Int} {k:Int} {i:Nat} (h:i < sh.length):(unr sh k).getD i 0=dig sh k i:=by simp [unr,List.getD,h]
theorem dot_zero {f:Nat → Int} {st:List Int}:∀ n,(∀ i,i < n → f i=0) → dot f st n=0
  | 0,_=>rfl
  | n + 1,h=>by simp only [dot];rw [dot_zero n fun i hi=>h i (by omega),h n (by omega)];simp
def isLine (b:Int) (L:List Int) (k:Nat):Bool:=(List.range k).all fun j=>decide (L.getD j 0=b + (j:Int))
end VwM
set_option linter.unusedVariables false
set_option linter.unusedSimpArgs false
set_option linter.unnecessarySimpa false
set_option maxRecDepth 4000
namespace VwM
open Vw
open Go

theorem take3 (xs:List Int) (off:Nat) (h:off + 3 ≤ xs.length):((xs.map (AV.int .i64)).drop off).take 3=[.int .i64 (xs.getD off 0),.int .i64 (xs.getD (off + 1) 0),.int .i64 (xs.getD (off + 2) 0)]:=by
  rw [List.drop_eq_getElem_cons (by simp;omega),List.drop_eq_getElem_cons (by simp;omega),List.drop_eq_getElem_cons (by simp;omega)]
  have h1:off < xs.length:=by omega
  have h2:off + 1 < xs.length:=by omega
  have h3:off + 2 < xs.length:=by omega
  have e3:off + 1 + 1=off + 2:=rfl
  simp only [e3]
  simp [h1,h2,h3,List.getD]
attribute [push_cast] take3
def fl3 (f:Nat → Int × Int × Int):Nat → List Int
  | 0=>[]
  | k + 1=>fl3 f k ++ [(f k).1,(f k).2.1,(f k).2.2]
def fz3 (f:Nat → Int × Int × Int) (n k:Nat):List Int:=fl3 f k ++ List.replicate ((n - k) * 3) 0
def dealF (a b c w:Int) (k:Nat):Int × Int × Int :=
  let m:Nat:=cntN k (cntN a b c) w
  (pS (a + (k:Int) * c) m,pE (a + (k:Int) * c) (c * w) m,pC (c * w) m)
def dealL (a b c w:Int):List Int:=if vR a b c=true ∧ 1 ≤ w ∧ w ≤ 6 then fl3 (dealF a b c w) w.toNat else []
def dealN (a b c w:Int):Nat:=if vR a b c=true ∧ 1 ≤ w ∧ w ≤ 6 then w.toNat else 0
theorem zcells3_1:zcells [AV.int .i64 0,.int .i64 0,.int .i64 0] 1=[AV.int .i64 0,.int .i64 0,.int .i64 0]:=rfl
attribute [push_cast] zcells3_1
end VwM
set_option linter.unusedVariables false
set_option linter.unusedSimpArgs false
set_option maxRecDepth 4000
namespace VwM
open Vw
open Go

theorem take2 (xs:List Int) (off:Nat) (h:off + 2 ≤ xs.length):((xs.map (AV.int .i64)).drop off).take 2=[.int .i64 (xs.getD off 0),.int .i64 (xs.getD (off + 1) 0)]:=by
  rw [List.drop_eq_getElem_cons (by simp;omega),List.drop_eq_getElem_cons (by simp;omega)]
  have h1:off < xs.length:=by omega
  have h2:off + 1 < xs.length:=by omega
  simp [h1,h2,List.getD]
theorem take2_0 (xs:List Int) (h:2 ≤ xs.length):(xs.map (AV.int .i64)).take 2=[.int .i64 (xs.getD 0 0),.int .i64 (xs.getD 1 0)]:=by
  have:=take2 xs 0 (by omega)
  rwa [List.drop_zero] at this
attribute [push_cast] take2 take2_0
theorem setRange2 (xs:List Int) (o:Nat) (a b:Int):setRange (xs.map (AV.int .i64)) o [.int .i64 a,.int .i64 b]=IL ((xs.set o a).set (o + 1) b):=by
  simp [setRange,List.map_set]
theorem snoc2 (xs:List Int) (a b:Int):xs.map (AV.int .i64) ++ [.int .i64 a,.int .i64 b]=IL (xs ++ [a,b]):=by simp
def dm:List Int → List Int → List Int
  | e :: sh,s :: st=>e :: s :: dm sh st
  | _,_=>[]
theorem dm_length:∀ {sh st:List Int},st.length=sh.length → (dm sh st).length=sh.length * 2
  | [],[],_=>rfl
  | e :: sh,s :: st,h=>by
    have:=dm_length (sh:=sh) (st:=st) (by simpa using h)
    simp only [dm,List.length_cons,this]
    omega
  | [],_ :: _,h=>by simp at h
  | _ :: _,[],h=>by simp at h
theorem dm_even:∀ {sh st:List Int} {k:Nat},k < sh.length → st.length=sh.length → (dm sh st).getD (k * 2) 0=sh.getD k 0
  | e :: sh,s :: st,0,_,_=>rfl
  | e :: sh,s :: st,k + 1,h,hl=>by
    have:=dm_even (sh:=sh) (st:=st) (k:=k) (by simpa using h) (by simpa using hl)
    rw [show (k + 1) * 2=k * 2 + 1 + 1 by omega]
    simpa [dm,List.getD] using this
  | [],_,_,h,_=>by simp at h
  | _ :: _,[],_,_,h=>by simp at h
theorem dm_odd:∀ {sh st:List Int} {k:Nat},k < sh.length → st.length=sh.length → (dm sh st).getD (k * 2 + 1) 0=st.getD k 0
  | e :: sh,s :: st,0,_,_=>rfl
  | e :: sh,s :: st,k + 1,h,hl=>by
    have:=dm_odd (sh:=sh) (st:=st) (k:=k) (by simpa using h) (by simpa using hl)
    rw [show (k + 1) * 2 + 1=k * 2 + 1 + 1 + 1 by omega]
    simpa [dm,List.getD] using this
  | [],_,_,h,_=>by simp at h
  | _ :: _,[],_,_,h=>by simp at h
theorem dm_snoc:∀ {sh st:List Int} (e s:Int),st.length=sh.length → dm sh st ++ [e,s]=dm (sh ++ [e]) (st ++ [s])
  | [],[],_,_,_=>rfl
  | a :: sh,b :: st,e,s,h=>by
    have:=dm_snoc (sh:=sh) (st:=st) e s (by simpa using h)
    simp [dm,this]
  | [],_ :: _,_,_,h=>by simp at h
  | _ :: _,[],_,_,h=>by simp at h
theorem dm_set:∀ {sh st:List Int} {k:Nat} (e s:Int),k < sh.length → st.length=sh.length → ((dm sh st).set (k * 2) e).set (k * 2 + 1) s=dm (sh.set k e) (st.set k s)
  | a :: sh,b :: st,0,_,_,_,_=>rfl
  | a :: sh,b :: st,k + 1,e,s,h,hl=>by
    have:=dm_set (sh:=sh) (st:=st) (k:=k) e s (by simpa using h) (by simpa using hl)
    rw [show (k + 1) * 2=k * 2 + 1 + 1 by omega]
    simpa [dm] using this
  | [],_,_,_,_,h,_=>by simp at h
  | _ :: _,[],_,_,_,_,h=>by simp at h
theorem dm_take {sh st:List Int} {k:Nat} (h:k < sh.length) (hl:st.length=sh.length):dm (sh.take k) (st.take k) ++ [sh.getD k 0,st.getD k 0]=dm (sh.take (k + 1)) (st.take (k + 1)):=by
  rw [dm_snoc _ _ (by simp;omega),take_succ_getD _ _ h,take_succ_getD _ _ (by omega)]
theorem zcells2 (n:Nat):zcells [AV.int .i64 0,.int .i64 0] n=IL (List.replicate (n * 2) 0):=by
  rw [IL,List.map_replicate]
  refine List.ext_getElem (by simp [zcells]) fun i h1 h2=>?_
  have:i % 2=0 ∨ i % 2=1:=by omega
  rcases this with h|h<;>simp [zcells,h]
theorem zcells2_1:zcells [AV.int .i64 0,.int .i64 0] 1=[AV.int .i64 0,.int .i64 0]:=rfl
attribute [push_cast] zcells2_1
def dmS (e s:Int):Int:=if e < 2 then 0 else s
end VwM
set_option linter.unusedVariables false
set_option linter.unusedSimpArgs false
set_option maxRecDepth 4000
namespace VwM
open Vw
open Go

theorem pigeon:∀ {ys xs:List Int},ys.Nodup → (∀ y ∈ ys,y ∈ xs) → xs.length ≤ ys.length → (∀ x ∈ xs,x ∈ ys) ∧ xs.Nodup
  | [],xs,_,_,h=>by
    have:xs=[]:=List.eq_nil_of_length_eq_zero (by simpa using h)
    subst this
    simp
  | y :: ys,xs,hn,hs,h=>by
    have hy:=hs y (by simp)
    have hp:=List.perm_cons_erase hy
    rw [List.nodup_cons] at hn
    have hl:(xs.erase y).length ≤ ys.length:=by
      rw [List.length_erase_of_mem hy]
      simp only [List.length_cons] at h
      omega
    obtain ⟨h1,h2⟩:=pigeon (ys:=ys) (xs:=xs.erase y) hn.2 (fun z hz=>(List.mem_erase_of_ne (fun e=>hn.1 (by rw [← e];exact hz))).2 (hs z (by simp [hz]))) hl
    refine ⟨fun x hx=>?_,?_⟩
    · rcases List.mem_cons.1 ((hp.mem_iff).1 hx) with rfl|hx'
      · simp
      · simp [h1 x hx']
    · rw [hp.nodup_iff,List.nodup_cons]
      exact ⟨fun hm=>hn.1 (h1 y hm),h2⟩
def hasAll (xs:List Int) (k:Nat):Bool:=(List.range k).all fun d:Nat=>decide ((d:Int) ∈ xs)
theorem dot_front (f:Nat → Int) (s:Int) (st:List Int):∀ n,dot f (s :: st) (n + 1)=f 0 * s + dot (fun i=>f (i + 1)) st n
  | 0=>by simp [dot]
  | n + 1=>by
    have ih:=dot_front f s st n
    rw [dot,ih,dot]
    simp only [List.getD,List.getElem?_cons_succ]
    omega
end VwM
set_option linter.unusedVariables false
set_option linter.unusedSimpArgs false
set_option maxRecDepth 4000
namespace VwM
open Vw
open Go

def permL (xs order:List Int):List Int:=order.map fun i=>xs.getD i.toNat 0
theorem permL_length (xs order:List Int):(permL xs order).length=order.length:=by simp [permL]
theorem permL_succ (xs order:List Int) {k:Nat} (h:k < order.length):permL xs (order.take (k + 1))=permL xs (order.take k) ++ [xs.getD (order.getD k 0).toNat 0]:=by
  rw [take_succ_getD order k h];simp [permL]
def isOrd (order:List Int) (n:Nat):Prop:=order.length=n ∧ (∀ x ∈ order,0 ≤ x ∧ x ≤ (n:Int) - 1) ∧ order.Nodup
theorem nums_nodup (n:Nat):(nums 0 1 n).Nodup:=(nums_sorted (by omega) n).imp fun h=>by omega
theorem mem_nums01 {n:Nat} {x:Int}:x ∈ nums 0 1 n ↔ 0 ≤ x ∧ x ≤ (n:Int) - 1:=by
  rw [mem_nums]
  constructor
  · rintro ⟨i,hi,rfl⟩;omega
  · rintro ⟨a,b⟩;exact ⟨x.toNat,by omega,by omega⟩
def sumL:List Int → Int
  | []=>0
  | x :: r=>x + sumL r
def invO (order:List Int) (d:Nat):Nat:=order.idxOf (d:Int)
def mixP (xs order:List Int) (k:Nat):List Int:=permL xs (order.take k) ++ xs.drop k
def at4 (a b c d:Int):Nat → Int
  | 0=>a
  | 1=>b
  | 2=>c
  | 3=>d
  | _=>0
theorem at4_zero:∀ i,at4 0 0 0 0 i=0
  | 0=>rfl
  | 1=>rfl
  | 2=>rfl
  | 3=>rfl
  | _ + 4=>rfl
end VwM
set_option linter.unusedVariables false
set_option linter.unusedSimpArgs false
set_option maxRecDepth 4000
namespace VwM
open Vw
open Go

theorem dot_setst {f:Nat → Int} {st:List Int} {j:Nat} {X:Int} (hj:j < st.length):∀ n,dot f (st.set j X) n=dot f st n + (if j < n then f j * (X - st.getD j 0) else 0)
  | 0=>by simp [dot]
  | n + 1=>by
    simp only [dot]
    rw [dot_setst hj n]
    by_cases e:j=n
    · subst e
      rw [if_neg (by omega),if_pos (by omega)]
      have:(st.set j X).getD j 0=X:=by simp [List.getD,hj]
      rw [this,Int.mul_sub]
      omega
    · have:(st.set j X).getD n 0=st.getD n 0:=by simp [List.getD,List.getElem?_set,e]
      rw [this]
      by_cases hd:j < n
      · rw [if_pos hd,if_pos (by omega)];omega
      · rw [if_neg hd,if_neg (by omega)];omega
def updF (f:Nat → Int) (j:Nat) (y:Int):Nat → Int:=fun i=>if i=j then y else f i
theorem dot_updF {f:Nat → Int} {st:List Int} {j:Nat} {y:Int}:∀ n,dot (updF f j y) st n=dot f st n + (if j < n then (y - f j) * st.getD j 0 else 0)
  | 0=>by simp [dot]
  | n + 1=>by
    simp only [dot]
    rw [dot_updF n]
    by_cases e:j=n
    · subst e
      rw [if_neg (by omega),if_pos (by omega),updF,if_pos rfl,Int.sub_mul]
      omega
    · have e':updF f j y n=f n:=by unfold updF;rw [if_neg fun h=>e h.symm]
      rw [e']
      by_cases hd:j < n
      · rw [if_pos hd,if_pos (by omega)];omega
      · rw [if_neg hd,if_neg (by omega)];omega
theorem pr_set_le {sh:List Int} (hg:good4 sh) {j:Nat} (hj:j < sh.length) {x:Int} (h0:0 ≤ x) (hx:x ≤ sh.getD j 0):pr (sh.set j x) ≤ pr sh:=by
  have h1:=pr_wo hj
  have h2:=pr_wo (xs:=sh.set j x) (k:=j) (by simpa using hj)
  have e1:wo (sh.set j x) j=wo sh j:=by
    unfold wo
    rw [List.take_set,List.drop_set,if_pos (by omega),List.set_eq_of_length_le (by simp;omega)]
  have e2:(sh.set j x).getD j 0=x:=by simp [List.getD,hj]
  rw [e1,e2] at h2
  rw [h1,h2]
  exact Int.mul_le_mul_of_nonneg_left hx (pr_bound (good4_wo hg j hj)).1
section
variable {b:Int} {sh st:List Int} {j:Nat} {f t w:Int} {hf ht:Bool}
def cutIx (sh:List Int) (j:Nat) (f w:Int) (hf:Bool) (g:Nat → Int):Nat → Int:=updF g j (sFrom f (sh.getD j 0) w hf + g j * w)
theorem cutSh_at (hj:j < sh.length):(cutSh sh j f t w hf ht).getD j 0=(cutK (sh.getD j 0) f t w hf ht:Int):=by simp [cutSh,List.getD,hj]
theorem cutSh_ne {i:Nat} (h:i ≠ j):(cutSh sh j f t w hf ht).getD i 0=sh.getD i 0:=by
  have h':¬ j=i:=fun e=>h e.symm
  simp [cutSh,List.getD,List.getElem?_set,h']
theorem cutIx_ix (hv:vV b sh st=true) (hj:j < sh.length) (hs:vS f t w hf ht=true) {g:Nat → Int} (hg:isIx (cutSh sh j f t w hf ht) g):isIx sh (cutIx sh j f w hf g):=fun i hi=>by
  have hgd:=(vSh_good (vV_spec.1 hv).1).1
  have hn:=good4_at hgd hj
  have:=hg i (by rw [cutSh_length];exact hi)
  by_cases e:i=j
  · subst e
    rw [cutSh_at hj] at this
    have h2:=idx_in hn hs (i:=(g i).toNat) (by show _ < cutK _ _ _ _ _ _;omega)
    rw [show (((g i).toNat:Nat):Int)=g i by omega] at h2
    simp only [cutIx,updF,if_true]
    omega
  · rw [cutSh_ne e] at this
    simp only [cutIx,updF,if_neg e]
    exact this
theorem cut_one (hv:vV b sh st=true) (hj:j < sh.length) (hs:vS f t w hf ht=true) (hz:¬ pr (cutSh sh j f t w hf ht)=0):1 ≤ cutK (sh.getD j 0) f t w hf ht:=by
  rcases Nat.eq_zero_or_pos (cutK (sh.getD j 0) f t w hf ht) with h|h
  · exact absurd (pr_zero (xs:=cutSh sh j f t w hf ht) (by rw [cutSh_length];exact hj) (by rw [cutSh_at hj,h];rfl)) hz
  · exact h
theorem cut_dot (hv:vV b sh st=true) (hj:j < sh.length) (hs:vS f t w hf ht=true) (hz:¬ pr (cutSh sh j f t w hf ht)=0) {g:Nat → Int} (hg:isIx (cutSh sh j f t w hf ht) g) :
    cutB b sh st j f t w hf ht + dot g (cutSt sh st j f t w hf ht) sh.length=b + dot (cutIx sh j f w hf g) st sh.length:=by
  have hl:=(vSt_spec.1 (vV_spec.1 hv).2.1).1
  have h1:=cut_one hv hj hs hz
  have hgj:=hg j (by rw [cutSh_length];exact hj)
  rw [cutSh_at hj] at hgj
  rw [cutB,if_neg hz,cutSt,if_neg hz,dot_setst (by omega),if_pos hj,cutIx,dot_updF,if_pos hj]
  have e1:pS (sFrom f (sh.getD j 0) w hf) (cutK (sh.getD j 0) f t w hf ht)=sFrom f (sh.getD j 0) w hf:=by unfold pS;rw [if_neg (by omega)]
  rw [e1]
  unfold cutX
  by_cases h2:(cutK (sh.getD j 0) f t w hf ht:Int) ≤ 1
  · have e0:g j=0:=by omega
    rw [if_pos h2,e0,Int.zero_mul,Int.zero_mul,Int.add_zero,Int.sub_zero]
    have q0:(sFrom f (sh.getD j 0) w hf + 0) * st.getD j 0=sFrom f (sh.getD j 0) w hf * st.getD j 0:=by rw [Int.add_zero]
    try rw [q0]
    omega
  · have e2:pC w (cutK (sh.getD j 0) f t w hf ht)=w:=by unfold pC;rw [if_neg (by omega)]
    rw [if_neg h2,e2]
    have q1:(sFrom f (sh.getD j 0) w hf + g j * w - g j) * st.getD j 0=sFrom f (sh.getD j 0) w hf * st.getD j 0 + g j * (w * st.getD j 0) - g j * st.getD j 0:=by rw [Int.sub_mul,Int.add_mul,Int.mul_assoc]
    have q2:g j * (w * st.getD j 0 - st.getD j 0)=g j * (w * st.getD j 0) - g j * st.getD j 0:=Int.mul_sub _ _ _
    rw [q1,q2]
    omega
theorem vV_cut (hv:vV b sh st=true) (hj:j < sh.length) (hs:vS f t w hf ht=true):vV (cutB b sh st j f t w hf ht) (cutSh sh j f t w hf ht) (cutSt sh st j f t w hf ht)=true:=by
  obtain ⟨h1,h2,h3,h4⟩:=vV_spec.1 hv
  have hgd:=(vSh_good h1)
  have hn:=good4_at hgd.1 hj
  have hk:=cutK_le hn hs
  have hg:=good4_cut hgd.1 hj hs
  have hl:=(vSt_spec.1 h2).1
  have hp:pr (cutSh sh j f t w hf ht) ≤ 60:=by
    have:=pr_set_le (x:=(cutK (sh.getD j 0) f t w hf ht:Int)) hgd.1 hj (by omega) hk
    unfold cutSh
    omega
  have hsh:vSh (cutSh sh j f t w hf ht)=true:=by
    unfold vSh
    simp [hg.2,hp,allI_iff.2 hg.1]
  by_cases hz:pr (cutSh sh j f t w hf ht)=0
  · have e1:cutB b sh st j f t w hf ht=0:=if_pos hz
    have e2:cutSt sh st j f t w hf ht=List.replicate sh.length 0:=if_pos hz
    rw [e1,e2]
    refine vV_spec.2 ⟨hsh,vSt_spec.2 ⟨by simp [cutSh_length],fun x hx=>?_⟩,by omega,.inl hz⟩
    rw [List.eq_of_mem_replicate hx];omega
  · have hcells:∀ g,isIx (cutSh sh j f t w hf ht) g → 0 ≤ cutB b sh st j f t w hf ht + dot g (cutSt sh st j f t w hf ht) sh.length ∧ cutB b sh st j f t w hf ht + dot g (cutSt sh st j f t w hf ht) sh.length ≤ 59:=fun g hgx=>by
      rw [cut_dot hv hj hs hz hgx]
      exact vV_cells hv _ ((mem_offs_ix hgd.1).2 ⟨_,cutIx_ix hv hj hs hgx,rfl⟩)
    have hpos:=pos_of_pr hg (by have:=(pr_bound hg).1;omega)
    have hz0:isIx (cutSh sh j f t w hf ht) fun _=>0:=fun i hi=>by
      have:=hpos i hi
      show (0:Int) ≤ 0 ∧ (0:Int) < _
      omega
    have c0:=hcells _ hz0
    rw [dot_zero _ fun _ _=>rfl] at c0
    refine vV_spec.2 ⟨hsh,vSt_spec.2 ⟨by rw [cutSt_length hl,cutSh_length],fun x hx=>?_⟩,by omega,.inr fun x hx=>?_⟩
    · rw [cutSt,if_neg hz] at hx
      rcases List.mem_or_eq_of_mem_set hx with hx|rfl
      · exact (vSt_spec.1 h2).2 x hx
      · by_cases h2':(cutK (sh.getD j 0) f t w hf ht:Int) ≤ 1
        · unfold cutX;rw [if_pos h2'];omega
        · have hu:isIx (cutSh sh j f t w hf ht) (updF (fun _=>0) j 1):=fun i hi=>by
            have:=hpos i hi
            by_cases e:i=j
            · subst e
              rw [cutSh_at hj]
              simp only [updF,if_true]
              omega
            · simp only [updF,if_neg e]
              omega
          have c1:=hcells _ hu
          rw [dot_updF,if_pos hj,dot_zero _ fun _ _=>rfl] at c1
          have e3:(cutSt sh st j f t w hf ht).getD j 0=cutX sh st j f t w hf ht:=by
            rw [cutSt,if_neg hz]
            simp [List.getD,hl,hj]
          rw [e3] at c1
          omega
    · obtain ⟨g,hgx,rfl⟩:=(mem_offs_ix hg).1 hx
      rw [cutSh_length]
      exact hcells g hgx
end
def stB (D:List Int) (X:Int):Int:=if pr D=0 then 0 else X
def stE (D E:List Int):List Int:=if pr D=0 then List.replicate D.length 0 else E
end VwM
set_option linter.unusedVariables false
set_option linter.unusedSimpArgs false
set_option maxRecDepth 4000
namespace VwM
open Vw
open Go

def Tal (L:List ME) (c:Nat) (f:Int → Nat):Prop :=
  (∀ k,mget L k=(f k:Int)) ∧ (∀ k,mhas L k=true ↔ 0 < f k) ∧ (L.map (·.1)).Nodup ∧ (L.map (·.2.2)).Nodup ∧ ∀ p ∈ L,p.2.2 < c
def cnt (xs:List Int) (k:Int):Nat:=xs.count k
def addF (f g:Int → Nat) (k:Int):Nat:=f k + g k

def Seen (L V:List ME):Prop:=(V.map (·.2.2)).Nodup ∧ ∀ p ∈ V,p ∈ L
def pickT (t:Int) (V:List ME):List Int:=(V.filter fun p=>decide (t ≤ p.2.1)).map (·.1)
def atL (f:Int → Nat) (t:Nat):List Int:=(nums 0 1 60).filter fun x=>decide (t ≤ f x)
theorem mem_atL {f:Int → Nat} {t:Nat} {x:Int}:x ∈ atL f t ↔ (0 ≤ x ∧ x ≤ 59) ∧ t ≤ f x:=by
  unfold atL
  rw [List.mem_filter,mem_nums_iff (by omega)]
  simp only [decide_eq_true_eq]
  constructor
  · rintro ⟨⟨a,b,_⟩,h⟩;exact ⟨by omega,h⟩
  · rintro ⟨a,h⟩;exact ⟨⟨by omega,by omega,⟨_,(Int.one_mul _).symm⟩⟩,h⟩
theorem atL_sorted (f:Int → Nat) (t:Nat):(atL f t).Pairwise (· < ·):=List.Pairwise.filter _ (nums_sorted (by omega) _)
theorem atL_len (f:Int → Nat) (t:Nat):(atL f t).length ≤ 60:=by
  have:=List.length_filter_le (fun x=>decide (t ≤ f x)) (nums 0 1 60)
  rw [nums_length] at this
  exact this
abbrev Vw3:=Int × List Int × List Int
def VLs:List Vw3 → List AV
  | []=>[]
  | v :: r=>.int .i64 v.1 :: RI v.2.1 :: RI v.2.2 :: VLs r
def allO (vs:List Vw3):List Int:=vs.flatMap fun v=>offs v.1 v.2.1 v.2.2
theorem ren_VLs {ρ:Nat → Option Nat} {Zh:Nat → Option (List AV)} {n:Nat}:∀ vs:List Vw3,(VLs vs).map (AV.ren ρ Zh false phiD (n + 2))=VLs vs
  | []=>rfl
  | v :: r=>by
    simp only [VLs,List.map_cons,ren_VLs r,List.cons.injEq,and_true]
    refine ⟨rfl,?_,?_⟩<;>simp [AV.ren,phiD]
attribute [push_cast] ren_VLs
abbrev repL (xs:List Int):List Int:=atL (cnt xs) 2
def ovB (b:Int) (sh st:List Int) (b':Int) (sh' st':List Int):Bool:=vV b sh st && vV b' sh' st'
def doB (b:Int) (sh st:List Int) (b':Int) (sh' st':List Int):Bool:=decide (0 < (MVL (ovB b sh st b' sh' st') (bothL (offs b sh st) (offs b' sh' st'))).length)
def atT (f:Int → Nat) (t:Nat) (k:Nat):List Int:=(nums 0 1 k).filter fun x=>decide (t ≤ f x)
def inclB (ys xs:List Int):Bool:=decide (∀ x ∈ ys,x ∈ xs)
def coB (b:Int) (sh st:List Int) (b':Int) (sh' st':List Int):Bool:=ovB b sh st b' sh' st' && inclB (offs b' sh' st') (offs b sh st)
def wiP (d:Bool) (O O':List Int):AV:=if d=true then .tup [.int .i64 (placeI O ((bothL O O').getD 0 0)),.int .i64 (placeI O' ((bothL O O').getD 0 0)),.bool true] else .tup [.int .i64 (-1),.int .i64 (-1),.bool false]
end VwM
set_option linter.unusedVariables false
set_option linter.unusedSimpArgs false
namespace VwM
open Vw Go

def vMem (mem:List Int):Bool:=decide (mem.length ≤ 60) && allI mem 0 255
theorem vMem_spec {mem:List Int}:vMem mem=true ↔ mem.length ≤ 60 ∧ ∀ x ∈ mem,0 ≤ x ∧ x ≤ 255:=by
  simp only [vMem,Bool.and_eq_true,decide_eq_true_eq,allI_iff]
def seeB (mem:List Int) (b:Int) (sh st:List Int):Bool:=vMem mem && vV b sh st && allI (offs b sh st) 0 ((mem.length:Int) - 1)
theorem seeB_spec {mem:List Int} {b:Int} {sh st:List Int}:seeB mem b sh st=true ↔ vMem mem=true ∧ vV b sh st=true ∧ ∀ x ∈ offs b sh st,0 ≤ x ∧ x ≤ (mem.length:Int) - 1:=by
  simp only [seeB,Bool.and_eq_true,allI_iff,and_assoc]

def wdt (sh st:List Int):Nat:=if sh.length=0 then 1 else if st.getD (sh.length - 1) 0=1 then (sh.getD (sh.length - 1) 0).toNat else 1


theorem takesL_length (xs at_:List Int):(takesL xs at_).length=at_.length:=by simp [takesL]
def putK (mem cells vals:List Int):Nat → List Int
  | 0=>mem
  | k + 1=>(putK mem cells vals k).set (cells.getD k 0).toNat (vals.getD k 0)
def putL (mem cells vals:List Int):List Int:=putK mem cells vals cells.length
theorem putK_length (mem cells vals:List Int):∀ k,(putK mem cells vals k).length=mem.length
  | 0=>rfl
  | k + 1=>by simp [putK,putK_length mem cells vals k]
theorem putL_length (mem cells vals:List Int):(putL mem cells vals).length=mem.length:=putK_length _ _ _ _
def carK (mem to fr:List Int):Nat → List Int
  | 0=>mem
  | k + 1=>(carK mem to fr k).set (to.getD k 0).toNat ((carK mem to fr k).getD (fr.getD k 0).toNat 0)
def carL (mem to fr:List Int):List Int:=carK mem to fr fr.length
def addK (mem cells vals:List Int):Nat → List Int
  | 0=>mem
  | k + 1=>(addK mem cells vals k).set (cells.getD k 0).toNat (((addK mem cells vals k).getD (cells.getD k 0).toNat 0 + vals.getD k 0).tmod 256)
def addL (mem cells vals:List Int):List Int:=addK mem cells vals cells.length
def rvK (xs:List Int) (k:Nat):List Int:=(List.range xs.length).map fun i=>if i < k ∨ xs.length ≤ i + k then xs.getD (xs.length - 1 - i) 0 else xs.getD i 0

def mtL (xs ys:List Int):Bool:=(List.range xs.length).any fun i=>decide (xs.getD i 0 ∈ ys.drop (i + 1))
def chK (a b:List Int):Nat → List Int
  | 0=>[]
  | k + 1=>if a.getD k 0=b.getD k 0 then chK a b k else chK a b k ++ [(k:Int)]
def chL (a b:List Int):List Int:=chK a b a.length
end VwM
set_option linter.unusedVariables false
set_option linter.unusedSimpArgs false
namespace VwM
open Vw Go

def rpt (c:List Int):Nat → List Int
  | 0=>[]
  | n + 1=>c ++ rpt c n
def rpK (c z:List Int) (k n:Nat):List Int:=rpt c n ++ rpt z (k - n)
end VwM
set_option linter.unusedVariables false
set_option linter.unusedSimpArgs false
namespace VwM
open Vw Go

def padO (xs:List Int) (n:Nat):List Int:=rpt [1] (n - xs.length) ++ xs
def extE (xs:List Int) (i:Nat):Int:=if xs.length ≤ i then 1 else xs.getD (xs.length - 1 - i) 0
def comX (x y:Int):Int:=if x=1 then y else x
def comP (x y:Int):Bool:=decide (x=y) || decide (x=1) || decide (y=1)
def comG (a b:List Int) (n:Nat) (d:Nat):Int:=comX (extE a (n - 1 - d)) (extE b (n - 1 - d))
def comN (a b:List Int):Nat:=max a.length b.length
def comS (a b:List Int):List Int:=(List.range (comN a b)).map (comG a b (comN a b))
def comA (a b:List Int):Bool:=(List.range (comN a b)).all fun i=>comP (extE a i) (extE b i)
def comOk (a b:List Int):Bool:=vSh a && vSh b && comA a b && vSh (comS a b)
end VwM
set_option linter.unusedVariables false
set_option linter.unusedSimpArgs false
namespace VwM
open Vw Go

def keepK (D E:List Int):Nat → List Int
  | 0=>[]
  | k + 1=>if D.getD k 0=1 then keepK D E k else keepK D E k ++ [E.getD k 0]
def keepL (D E:List Int):List Int:=keepK D E D.length
def siv (D E:List Int) (j:Nat):List Int:=dm (keepK D D j ++ D.drop (keepK D D j).length) (keepK D E j ++ E.drop (keepK D D j).length)
def oneI (D:List Int):Int:=if (1:Int) ∈ D then (D.idxOf 1:Int) else -1
end VwM
set_option linter.unusedVariables false
set_option linter.unusedSimpArgs false
set_option maxRecDepth 4000
namespace VwM
open Vw
open Go

def kpF (p:Int → Bool) (X:List Int) (j:Nat):List Int:=(X.take j).filter fun x=>!p x
def sF (p:Int → Bool) (X:List Int) (j:Nat):List Int:=kpF p X j ++ X.drop (kpF p X j).length
def fiP (p:Int → Bool) (X:List Int):Int:=if X.any p=true then (X.findIdx p:Int) else -1
def gapL (O:List Int) (lo:Int) (n:Nat):List Int:=(nums lo 1 n).filter fun x=>decide (¬ x ∈ O)
theorem asc_get {U:List Int} (h:U.Pairwise (· < ·)) {i j:Nat} (hij:i < j) (hj:j < U.length):U.getD i 0 < U.getD j 0:=by
  have:=List.pairwise_iff_getElem.1 h i j (by omega) hj hij
  simpa [List.getD,show i < U.length by omega,hj] using this
def gpT (U:List Int) (x:Nat):List Int:=(nums 0 1 x).filter fun y=>decide (U.getD 0 0 < y ∧ ¬ y ∈ U)
def gaL (b:Int) (sh st:List Int):List Int:=gapL (offs b sh st) (spS b sh st) (spN b sh st)
theorem gaL_le {b:Int} {sh st:List Int} (hv:vV b sh st=true):(gaL b sh st).length ≤ 60:=by
  have h1:=sp_bound hv
  unfold gaL gapL
  have:=List.length_filter_le (fun x=>decide (¬ x ∈ offs b sh st)) (nums (spS b sh st) 1 (spN b sh st))
  rw [nums_length] at this
  omega
theorem ga_facts {b:Int} {sh st:List Int} (hv:vV b sh st=true) (hz:¬ pr sh=0):(bdL b sh st ∈ offs b sh st ∧ bdH b sh st ∈ offs b sh st ∧ ∀ x ∈ offs b sh st,bdL b sh st ≤ x ∧ x ≤ bdH b sh st) ∧ spS b sh st=bdL b sh st ∧ spN b sh st=(bdH b sh st - bdL b sh st + 1).toNat:=by
  obtain ⟨h1,-,-,-⟩:=vV_spec.1 hv
  have hg:=vSh_good h1
  have p:1 ≤ pr sh:=by omega
  obtain ⟨a1,a2⟩:=low_offs (b:=b) (st:=st) hg.1 p
  obtain ⟨a3,a4⟩:=high_offs (b:=b) (st:=st) hg.1 p
  refine ⟨?_,if_neg hz,if_neg hz⟩
  rw [bdL,bdH,if_neg hz,if_neg hz]
  exact ⟨a1,a3,fun x hx=>⟨a2 x hx,a4 x hx⟩⟩
end VwM
set_option linter.unusedVariables false
set_option linter.unusedSimpArgs false
namespace VwM
open Go Vw

def inM (xs:List Int) (n:Nat):Prop:=∀ i,i < xs.length → 0 ≤ xs.getD i 0 ∧ xs.getD i 0 < n
def adS (mem cells vals:List Int) (x:Nat):Nat → Int
  | 0=>mem.getD x 0
  | i + 1=>if cells.getD i 0=x then adS mem cells vals x i + vals.getD i 0 else adS mem cells vals x i
end VwM
namespace VwM
open Go Vw
theorem idxF_three (a b c d:Nat) (r:List Nat):idxF (a :: b :: c :: d :: r) 3=some d:=rfl
theorem idxF_four (a b c d e:Nat) (r:List Nat):idxF (a :: b :: c :: d :: e :: r) 4=some e:=rfl
theorem idxF_five (a b c d e f:Nat) (r:List Nat):idxF (a :: b :: c :: d :: e :: f :: r) 5=some f:=rfl
attribute [push_cast] idxF_three idxF_four idxF_five
end VwM
namespace VwM
open Go Vw
theorem news_4 (d:Nat):news (some d) 4=[16 * d,16 * d + 1,16 * d + 2,16 * d + 3]:=rfl
theorem news_5 (d:Nat):news (some d) 5=[16 * d,16 * d + 1,16 * d + 2,16 * d + 3,16 * d + 4]:=rfl
theorem freshC_4 {pin:Nat} (H:List (Nat × List AV)) (d:Nat):freshC pin H (some d) 4=(freshD H d ∧ pin ≤ 16 * d):=by simp [freshC]
theorem freshC_5 {pin:Nat} (H:List (Nat × List AV)) (d:Nat):freshC pin H (some d) 5=(freshD H d ∧ pin ≤ 16 * d):=by simp [freshC]
attribute [push_cast] news_4 news_5 freshC_4 freshC_5
end VwM
set_option linter.unusedVariables false
set_option linter.unusedSimpArgs false
set_option maxRecDepth 4000
namespace VwM
open Vw
open Go

def insF (f:Nat → Int) (j:Nat) (q:Int):Nat → Int:=fun i=>if i < j then f i else if i=j then q else f (i - 1)
theorem dot_ins (q:Int):∀ (st:List Int) (f:Nat → Int) (j:Nat),j < st.length → dot (insF f j q) st st.length=dot f (wo st j) (st.length - 1) + q * st.getD j 0
  | [],_,_,h=>by simp at h
  | s :: t,f,0,_=>by
    have e:(fun i=>insF f 0 q (i + 1))=f:=by funext i;simp [insF]
    have e2:insF f 0 q 0=q:=by simp [insF]
    rw [List.length_cons,dot_front,e,e2]
    simp [wo];omega
  | s :: t,f,j + 1,h=>by
    have hj:j < t.length:=by simpa using h
    have e:(fun i=>insF f (j + 1) q (i + 1))=insF (fun i=>f (i + 1)) j q:=by
      funext i
      unfold insF
      by_cases h1:i < j
      · rw [if_pos h1,if_pos (by omega)]
      · rw [if_neg h1,if_neg (by omega)]
        by_cases h2:i=j
        · rw [if_pos h2,if_pos (by omega)]
        · rw [if_neg h2,if_neg (by omega)]
          show f (i + 1 - 1)=f (i - 1 + 1)
          congr 1;omega
    have e2:insF f (j + 1) q 0=f 0:=by simp [insF]
    have e3:wo (s :: t) (j + 1)=s :: wo t j:=by simp [wo]
    rw [List.length_cons,dot_front,e,e2,dot_ins q t _ j hj,e3,show t.length + 1 - 1=(t.length - 1) + 1 by omega,dot_front]
    simp;omega
theorem wo_getD {xs:List Int} {j i:Nat} (hj:j < xs.length):(wo xs j).getD i 0=if i < j then xs.getD i 0 else xs.getD (i + 1) 0:=by
  unfold wo
  have hl:(xs.take j).length=j:=by simp;omega
  by_cases h:i < j
  · rw [if_pos h,List.getD_eq_getElem?_getD,List.getElem?_append_left (by omega),List.getElem?_take,if_pos h,List.getD_eq_getElem?_getD]
  · rw [if_neg h,List.getD_eq_getElem?_getD,List.getElem?_append_right (by omega),hl,List.getElem?_drop,List.getD_eq_getElem?_getD,show j + 1 + (i - j)=i + 1 by omega]
theorem ins_ix {sh:List Int} {j:Nat} (hj:j < sh.length) {f:Nat → Int} {q:Int} (hq:0 ≤ q ∧ q < sh.getD j 0) (hf:isIx (wo sh j) f):isIx sh (insF f j q):=fun i hi=>by
  have hl:=wo_length hj
  unfold insF
  by_cases h1:i < j
  · rw [if_pos h1]
    have:=hf i (by omega)
    rwa [wo_getD hj,if_pos h1] at this
  · rw [if_neg h1]
    by_cases h2:i=j
    · rw [if_pos h2,h2];exact hq
    · rw [if_neg h2]
      have:=hf (i - 1) (by omega)
      rwa [wo_getD hj,if_neg (by omega),show i - 1 + 1=i by omega] at this

def pkQ (n i:Int):Int:=if i < 0 then i + n else i
def pkOk (b:Int) (sh st:List Int) (d i:Int):Bool :=
  vV b sh st && (decide (0 ≤ d) && decide (d ≤ (sh.length:Int) - 1)) && (decide (-(sh.getD d.toNat 0) ≤ i) && decide (i ≤ sh.getD d.toNat 0 - 1))
def pkB (b:Int) (sh st:List Int) (j:Nat) (i:Int):Int:=stB (wo sh j) (b + pkQ (sh.getD j 0) i * st.getD j 0)
def pkSt (sh st:List Int) (j:Nat):List Int:=stE (wo sh j) (wo st j)
theorem stE_length {D E:List Int} (h:E.length=D.length):(stE D E).length=D.length:=by unfold stE;split<;>simp [h]

section
variable {b:Int} {sh st:List Int} {j:Nat} {i:Int}
end
theorem dm_wo:∀ {sh st:List Int} {k:Nat},k < sh.length → st.length=sh.length → dm (wo sh k) (wo st k)=(dm sh st).take (k * 2) ++ (dm sh st).drop ((k + 1) * 2)
  | [],_,_,h,_=>by simp at h
  | _ :: _,[],_,_,h=>by simp at h
  | a :: s,b :: t,0,_,_=>by simp [wo,dm]
  | a :: s,b :: t,k + 1,h,hl=>by
    have ih:=dm_wo (sh:=s) (st:=t) (k:=k) (by simpa using h) (by simpa using hl)
    have e1:wo (a :: s) (k + 1)=a :: wo s k:=by simp [wo]
    have e2:wo (b :: t) (k + 1)=b :: wo t k:=by simp [wo]
    rw [e1,e2,dm,ih,dm,show (k + 1) * 2=k * 2 + 1 + 1 by omega,show (k + 1 + 1) * 2=(k + 1) * 2 + 1 + 1 by omega]
    simp
    try omega
end VwM
set_option linter.unusedVariables false
set_option linter.unusedSimpArgs false
set_option maxRecDepth 4000
namespace VwM
open Vw
open Go

theorem fls_an {p q:Prop} [Decidable p] [Decidable q] (h:¬ (p ∧ q)):(decide p && decide q)=false:=by
  rw [← Bool.decide_and];simp only [decide_eq_false_iff_not];exact h
theorem tru_an {p q:Prop} [Decidable p] [Decidable q] (h:p ∧ q):(decide p && decide q)=true:=by simp [h.1,h.2]
def dPos (d e:Nat):Nat:=if d < e then d else d - 1
theorem wo_set {xs:List Int} {d e:Nat} (x:Int) (hd:d < xs.length) (he:e < xs.length) (hne:d ≠ e):wo (xs.set d x) e=(wo xs e).set (dPos d e) x:=by
  unfold wo dPos
  by_cases h:d < e
  · rw [if_pos h,List.take_set,List.drop_set,if_pos (by omega),List.set_append,if_pos (by simp;omega)]
  · rw [if_neg h,List.take_set,List.drop_set,if_neg (by omega),List.set_append,if_neg (by simp;omega),List.set_eq_of_length_le (by simp;omega)]
    congr 2
    simp;omega
theorem dPos_lt {xs:List Int} {d e:Nat} (hd:d < xs.length) (he:e < xs.length) (hne:d ≠ e):dPos d e < (wo xs e).length:=by
  rw [wo_length he];unfold dPos;split<;>omega
theorem wo_dPos {xs:List Int} {d e:Nat} (hd:d < xs.length) (he:e < xs.length) (hne:d ≠ e):(wo xs e).getD (dPos d e) 0=xs.getD d 0:=by
  rw [wo_getD he]
  unfold dPos
  by_cases h:d < e
  · rw [if_pos h,if_pos h]
  · rw [if_neg h,if_neg (by omega),show d - 1 + 1=d by omega]

def dgOk (b:Int) (sh st:List Int) (d e:Int):Bool :=
  vV b sh st && (decide (0 ≤ d) && decide (d ≤ (sh.length:Int) - 1)) && (decide (0 ≤ e) && decide (e ≤ (sh.length:Int) - 1)) && !decide (d=e) && decide (sh.getD d.toNat 0=sh.getD e.toNat 0)
def dgX (sh st:List Int) (d e:Nat):Int:=dmS (sh.getD d 0) (st.getD d 0 + st.getD e 0)
def dgE (sh st:List Int) (d e:Nat):List Int:=wo (st.set d (dgX sh st d e)) e
def dgB (b:Int) (sh:List Int) (e:Nat):Int:=stB (wo sh e) b
def dgSt (sh st:List Int) (d e:Nat):List Int:=stE (wo sh e) (dgE sh st d e)

section
variable {b:Int} {sh st:List Int} {d e:Nat}
theorem dgE_length (he:e < st.length):(dgE sh st d e).length=st.length - 1:=by unfold dgE;rw [wo_length (by simpa using he)];simp
theorem vV_diag (hv:vV b sh st=true) (hd:d < sh.length) (he:e < sh.length) (hne:d ≠ e) (hx:sh.getD d 0=sh.getD e 0):vV (dgB b sh e) (wo sh e) (dgSt sh st d e)=true:=by
  obtain ⟨h1,h2,h3,h4⟩:=vV_spec.1 hv
  have hgd:=(vSh_good h1)
  have hn:=good4_at hgd.1 he
  have hl:=(vSt_spec.1 h2).1
  have hg:=good4_wo hgd.1 e he
  have hp0:=(pr_bound hg).1
  have hpw:=pr_wo he
  have hws:=wo_length he
  have hwt:=dgE_length (sh:=sh) (st:=st) (d:=d) (e:=e) (by omega)
  by_cases hz:pr (wo sh e)=0
  · have hsh:vSh (wo sh e)=true:=by
      unfold vSh
      simp [hg.2,hz,allI_iff.2 hg.1]
    have e1:dgB b sh e=0:=if_pos hz
    have e2:dgSt sh st d e=List.replicate (wo sh e).length 0:=if_pos hz
    rw [e1,e2]
    refine vV_spec.2 ⟨hsh,vSt_spec.2 ⟨by simp,fun x hx=>?_⟩,by omega,.inl hz⟩
    rw [List.eq_of_mem_replicate hx];omega
  · have e1:dgB b sh e=b:=if_neg hz
    have e2:dgSt sh st d e=dgE sh st d e:=if_neg hz
    have hpos:=pos_of_pr hg (by omega)
    have hdl:=dPos_lt hd he hne
    have hde:=wo_dPos hd he hne
    have hd1:=hpos _ hdl
    rw [hde] at hd1
    have hp:pr (wo sh e) ≤ 60:=by
      have:pr (wo sh e) * 1 ≤ pr (wo sh e) * sh.getD e 0:=Int.mul_le_mul_of_nonneg_left (by omega) hp0
      omega
    have hsh:vSh (wo sh e)=true:=by
      unfold vSh
      simp [hg.2,hp,allI_iff.2 hg.1]
    rw [e1,e2]
    have hws2:(wo st e).length=st.length - 1:=wo_length (by omega)
    have hEs:dgE sh st d e=(wo st e).set (dPos d e) (dgX sh st d e):=wo_set _ (by omega) (by omega) hne
    have hst2:=wo_dPos (xs:=st) (d:=d) (e:=e) (by omega) (by omega) hne
    have hcells:∀ g,isIx (wo sh e) g → 0 ≤ b + dot g (dgE sh st d e) (wo sh e).length ∧ b + dot g (dgE sh st d e) (wo sh e).length ≤ 59:=fun g hgx=>by
      have hgd1:=hgx _ hdl
      rw [hde] at hgd1
      have:=vV_cells hv _ ((mem_offs_ix hgd.1).2 ⟨_,ins_ix he (by omega:0 ≤ g (dPos d e) ∧ g (dPos d e) < sh.getD e 0) hgx,rfl⟩)
      rw [← hl,dot_ins _ st g e (by omega)] at this
      rw [hEs,dot_setst (by omega),if_pos (by omega),hst2,hws,← hl]
      by_cases h2':sh.getD d 0 < 2
      · have q0:g (dPos d e)=0:=by omega
        rw [q0] at this ⊢
        omega
      · have eX:dgX sh st d e=st.getD d 0 + st.getD e 0:=if_neg h2'
        rw [eX,show st.getD d 0 + st.getD e 0 - st.getD d 0=st.getD e 0 by omega]
        omega
    have hz0:isIx (wo sh e) fun _=>0:=fun i hi=>by
      have:=hpos i hi
      show (0:Int) ≤ 0 ∧ (0:Int) < _
      omega
    have c0:=hcells _ hz0
    rw [dot_zero _ fun _ _=>rfl] at c0
    refine vV_spec.2 ⟨hsh,vSt_spec.2 ⟨by omega,fun x hx=>?_⟩,by omega,.inr fun x hx=>?_⟩
    · rw [hEs] at hx
      rcases List.mem_or_eq_of_mem_set hx with hx|rfl
      · exact (vSt_spec.1 h2).2 x (wo_mem hx)
      · by_cases h2':sh.getD d 0 < 2
        · have eX:dgX sh st d e=0:=if_pos h2'
          omega
        · have hu:isIx (wo sh e) (updF (fun _=>0) (dPos d e) 1):=fun i hi=>by
            have:=hpos i hi
            by_cases ei:i=dPos d e
            · subst ei
              rw [hde]
              simp only [updF,if_true]
              omega
            · simp only [updF,if_neg ei]
              omega
          have c1:=hcells _ hu
          rw [dot_updF,if_pos hdl,dot_zero _ fun _ _=>rfl] at c1
          have e3:(dgE sh st d e).getD (dPos d e) 0=dgX sh st d e:=by
            rw [hEs]
            have:dPos d e < (wo st e).length:=by omega
            simp [List.getD,this]
          rw [e3] at c1
          omega
    · obtain ⟨g,hgx,rfl⟩:=(mem_offs_ix hg).1 hx
      exact hcells g hgx
theorem diag_settled (hv:vV b sh st=true) (hd:d < sh.length) (he:e < sh.length) :
    (st.length ≤ 4 ∧ (-1000000 ≤ b ∧ b ≤ 1000000) ∧ ∀ i,i < st.length → (-60 ≤ at4 0 0 0 0 i ∧ at4 0 0 0 0 i ≤ 60) ∧ -12960000 ≤ st.getD i 0 ∧ st.getD i 0 ≤ 12960000) ∧
    good4 (wo sh e) ∧ stB (wo sh e) (b + dot (at4 0 0 0 0) st st.length)=dgB b sh e:=by
  obtain ⟨h1,h2,h3,h4⟩:=vV_spec.1 hv
  have hl:=(vSt_spec.1 h2).1
  have hgd:=(vSh_good h1).1
  have hg4:=hgd.2
  refine ⟨⟨by omega,by omega,fun k hk=>⟨?_,?_⟩⟩,good4_wo hgd e he,?_⟩
  · rw [at4_zero];omega
  · have:=vSt_at h2 (i:=k) (by omega);omega
  · rw [dot_zero _ fun i _=>at4_zero i,Int.add_zero];rfl
end
end VwM
set_option linter.unusedVariables false
set_option linter.unusedSimpArgs false
set_option maxRecDepth 4000
namespace VwM
open Vw
open Go

def unitL (n d:Nat):List Int:=(List.replicate n 0).set d 1
def rsX (L sh:List Int) (d:Nat):Int:=if 1 < sh.getD d 0 then L.getD ((rowS sh).getD d 0).toNat 0 - L.getD 0 0 else 0
def rsB (b:Int) (sh:List Int):Int:=if pr sh=0 then 0 else b
def rsT (L sh:List Int):List Int:=filled (rsX L sh) sh.length sh.length
def rsS (L sh:List Int):List Int:=if pr sh=0 then List.replicate sh.length 0 else rsT L sh
def rsOk (b:Int) (sh st S:List Int):Bool :=
  vV b sh st && vSh S && decide (pr S=pr sh) && decide (offs (rsB b S) S (rsS (offs b sh st) S)=offs b sh st)
end VwM
set_option linter.unusedVariables false
set_option linter.unusedSimpArgs false
set_option linter.unnecessarySimpa false
set_option maxRecDepth 4000
namespace VwM
open Vw
open Go

end VwM
set_option linter.unusedVariables false
set_option linter.unusedSimpArgs false
set_option linter.unnecessarySimpa false
set_option maxRecDepth 4000
namespace VwM
open Vw
open Go

end VwM
set_option linter.unusedVariables false
set_option linter.unusedSimpArgs false
set_option maxRecDepth 4000
namespace VwM
open Vw
open Go

theorem offs_same {b b':Int} {sh st us:List Int} (hg:good4 sh) (h:∀ f,isIx sh f → b + dot f st sh.length=b' + dot f us sh.length):offs b sh st=offs b' sh us:=by
  refine List.map_congr_left fun k hk=>?_
  rw [List.mem_range] at hk
  unfold cellK
  exact h _ (dig_isIx hg (by omega) (by omega))
end VwM
set_option linter.unusedVariables false
set_option linter.unusedSimpArgs false
set_option maxRecDepth 4000
namespace VwM
open Vw
open Go

def agK (order:List Int) (n k:Nat):List Int:=(List.range n).map fun d=>if invO order d < k then (invO order d:Int) else 0
end VwM
set_option linter.unusedVariables false
set_option linter.unusedSimpArgs false
set_option maxRecDepth 4000
namespace VwM
open Vw
open Go

def turnK (sh order:List Int) (k:Nat):Int:=horF (permL sh order) (fun i=>dig sh (k:Int) (order.getD i 0).toNat) sh.length
end VwM
set_option linter.unusedVariables false
set_option linter.unusedSimpArgs false
set_option maxRecDepth 4000
namespace VwM
open Vw
open Go

theorem lexF {sh:List Int} {f g:Nat → Int} (hf:isIx sh f) (hg:isIx sh g):∀ k,k ≤ sh.length →
    (horF sh f k=horF sh g k ∧ ∀ m,m < k → f m=g m) ∨ (horF sh f k < horF sh g k ∧ ∃ i,i < k ∧ (∀ m,m < i → f m=g m) ∧ f i < g i) ∨
    (horF sh g k < horF sh f k ∧ ∃ i,i < k ∧ (∀ m,m < i → f m=g m) ∧ g i < f i)
  | 0,_=>.inl ⟨rfl,fun m hm=>by omega⟩
  | k + 1,hk=>by
    have a:=hf k (by omega)
    have b:=hg k (by omega)
    simp only [horF]
    rcases lexF hf hg k (by omega) with ⟨h1,h2⟩|⟨h1,i,h2,h3,h4⟩|⟨h1,i,h2,h3,h4⟩
    · rw [h1]
      rcases Int.lt_trichotomy (f k) (g k) with h|h|h
      · exact .inr (.inl ⟨by omega,k,by omega,h2,h⟩)
      · refine .inl ⟨by omega,fun m hm=>?_⟩
        by_cases e:m=k
        · subst e;exact h
        · exact h2 m (by omega)
      · exact .inr (.inr ⟨by omega,k,by omega,h2,h⟩)
    · have:(horF sh f k + 1) * sh.getD k 0 ≤ horF sh g k * sh.getD k 0:=Int.mul_le_mul_of_nonneg_right (by omega) (by omega)
      rw [Int.add_mul,Int.one_mul] at this
      exact .inr (.inl ⟨by omega,i,by omega,h3,h4⟩)
    · have:(horF sh g k + 1) * sh.getD k 0 ≤ horF sh f k * sh.getD k 0:=Int.mul_le_mul_of_nonneg_right (by omega) (by omega)
      rw [Int.add_mul,Int.one_mul] at this
      exact .inr (.inr ⟨by omega,i,by omega,h3,h4⟩)
theorem lexF_lt {sh:List Int} {f g:Nat → Int} (hf:isIx sh f) (hg:isIx sh g) {i:Nat} (hi:i < sh.length) (h:∀ m,m < i → f m=g m) (hl:f i < g i):horF sh f sh.length < horF sh g sh.length:=by
  rcases lexF hf hg sh.length (Nat.le_refl _) with ⟨_,h2⟩|⟨h1,_⟩|⟨_,j,h2,h3,h4⟩
  · have:=h2 i hi;omega
  · exact h1
  · rcases Nat.lt_trichotomy j i with e|e|e
    · have:=h j e;omega
    · subst e;omega
    · have:=h3 i e;omega
def dgF (sh:List Int) (d e:Nat) (k:Int):Nat → Int:=insF (dig (wo sh e) k) e (dig (wo sh e) k (dPos d e))
def dgK (sh:List Int) (d e:Nat) (k:Int):Int:=horF sh (dgF sh d e k) sh.length
section
variable {b:Int} {sh st:List Int} {d e:Nat}
theorem dgF_ix (hg:good4 sh) (hd:d < sh.length) (he:e < sh.length) (hne:d ≠ e) (hx:sh.getD d 0=sh.getD e 0) {k:Int} (h0:0 ≤ k) (hk:k < pr (wo sh e)):isIx sh (dgF sh d e k):=by
  have hgw:=good4_wo hg e he
  have hi:=dig_isIx hgw h0 hk
  have:=hi _ (dPos_lt hd he hne)
  rw [wo_dPos hd he hne,hx] at this
  exact ins_ix he this hi
theorem dgF_eq (hd:d < sh.length) (he:e < sh.length) (hne:d ≠ e) (k:Int):dgF sh d e k d=dgF sh d e k e:=by
  unfold dgF insF dPos
  by_cases h:d < e
  · simp only [if_pos h,Nat.lt_irrefl,if_false,if_true]
  · rw [if_neg h,if_neg hne,if_neg h,if_neg (Nat.lt_irrefl _),if_pos rfl]
theorem dgK_lt (hg:good4 sh) (hd:d < sh.length) (he:e < sh.length) (hne:d ≠ e) (hx:sh.getD d 0=sh.getD e 0) {k:Int} (h0:0 ≤ k) (hk:k < pr (wo sh e)):0 ≤ dgK sh d e k ∧ dgK sh d e k < pr sh:=by
  have:=horF_bound (dgF_ix hg hd he hne hx h0 hk) sh.length (Nat.le_refl _)
  rw [List.take_length] at this
  unfold dgK
  omega
theorem dgK_dig (hg:good4 sh) (hd:d < sh.length) (he:e < sh.length) (hne:d ≠ e) (hx:sh.getD d 0=sh.getD e 0) {k:Int} (h0:0 ≤ k) (hk:k < pr (wo sh e)) {i:Nat} (hi:i < sh.length):dig sh (dgK sh d e k) i=dgF sh d e k i :=
  dig_horF (dgF_ix hg hd he hne hx h0 hk) hi
theorem dgK_mono (hg:good4 sh) (he:e < sh.length) (hde:d < e) (hx:sh.getD d 0=sh.getD e 0) {j k:Int} (h0:0 ≤ j) (hjk:j < k) (hk:k < pr (wo sh e)):dgK sh d e j < dgK sh d e k:=by
  have hgw:=good4_wo hg e he
  have hwl:=wo_length he
  have hp:=pos_of_pr hgw (by omega)
  have i1:=dig_isIx hgw h0 (by omega:j < pr (wo sh e))
  have i2:=dig_isIx hgw (by omega:0 ≤ k) hk
  have a1:=horF_dig_all h0 hp (by omega:j < pr (wo sh e))
  have a2:=horF_dig_all (by omega:0 ≤ k) hp hk
  have f1:=dgF_ix hg (by omega) he (by omega) hx h0 (by omega:j < pr (wo sh e))
  have f2:=dgF_ix hg (by omega) he (by omega) hx (by omega:0 ≤ k) hk
  rcases lexF i1 i2 _ (Nat.le_refl _) with ⟨h1,_⟩|⟨_,i,h2,h3,h4⟩|⟨h1,_⟩
  · omega
  · have hP:dPos d e=d:=if_pos hde
    by_cases hie:i < e
    · refine lexF_lt f1 f2 (i:=i) (by omega) (fun m hm=>?_) ?_
      · unfold dgF insF;rw [if_pos (by omega),if_pos (by omega)];exact h3 m hm
      · unfold dgF insF;rw [if_pos hie,if_pos hie];exact h4
    · refine lexF_lt f1 f2 (i:=i + 1) (by omega) (fun m hm=>?_) ?_
      · unfold dgF insF
        by_cases c1:m < e
        · rw [if_pos c1,if_pos c1];exact h3 m (by omega)
        · rw [if_neg c1,if_neg c1]
          by_cases c2:m=e
          · rw [if_pos c2,if_pos c2,hP];exact h3 d (by omega)
          · rw [if_neg c2,if_neg c2];exact h3 (m - 1) (by omega)
      · unfold dgF insF
        rw [if_neg (by omega),if_neg (by omega),if_neg (by omega),if_neg (by omega),Nat.add_sub_cancel]
        exact h4
  · omega
theorem dgF_wo (m:Nat) (k:Int):dig (wo sh e) k m=dgF sh d e k (if m < e then m else m + 1):=by
  unfold dgF insF
  by_cases h:m < e
  · rw [if_pos h,if_pos h]
  · rw [if_neg h,if_neg (by omega),if_neg (by omega),Nat.add_sub_cancel]
theorem dgK_inj (hg:good4 sh) (hd:d < sh.length) (he:e < sh.length) (hne:d ≠ e) (hx:sh.getD d 0=sh.getD e 0) {j k:Int} (h0:0 ≤ j) (hj:j < pr (wo sh e)) (h1:0 ≤ k) (hk:k < pr (wo sh e)) (h:dgK sh d e j=dgK sh d e k):j=k:=by
  have hgw:=good4_wo hg e he
  have hwl:=wo_length he
  have hp:=pos_of_pr hgw (by omega)
  have a1:=horF_dig_all h0 hp hj
  have a2:=horF_dig_all h1 hp hk
  have key:∀ m,m < (wo sh e).length → dig (wo sh e) j m=dig (wo sh e) k m:=fun m hm=>by
    rw [dgF_wo (d:=d),dgF_wo (d:=d)]
    have hi:(if m < e then m else m + 1) < sh.length:=by split<;>omega
    rw [← dgK_dig hg hd he hne hx h0 hj hi,← dgK_dig hg hd he hne hx h1 hk hi,h]
  rw [horF_congr key] at a1
  omega
theorem dgK_onto (hg:good4 sh) (hd:d < sh.length) (he:e < sh.length) (hne:d ≠ e) {K:Int} (h0:0 ≤ K) (hK:K < pr sh) (h:dig sh K d=dig sh K e):∃ k,0 ≤ k ∧ k < pr (wo sh e) ∧ dgK sh d e k=K:=by
  have hp:=pos_of_pr hg (by omega)
  have hi:=dig_isIx hg h0 hK
  have a:=horF_dig_all h0 hp hK
  have hwl:=wo_length he
  let g:Nat → Int:=fun m=>if m < e then dig sh K m else dig sh K (m + 1)
  have hgx:isIx (wo sh e) g:=fun m hm=>by
    rw [wo_getD he]
    show 0 ≤ (if m < e then dig sh K m else dig sh K (m + 1)) ∧ (if m < e then dig sh K m else dig sh K (m + 1)) < _
    by_cases c:m < e
    · rw [if_pos c,if_pos c];exact hi m (by omega)
    · rw [if_neg c,if_neg c];exact hi (m + 1) (by omega)
  have hb:=horF_bound hgx (wo sh e).length (Nat.le_refl _)
  rw [List.take_length] at hb
  refine ⟨horF (wo sh e) g (wo sh e).length,hb.1,by omega,?_⟩
  unfold dgK
  rw [← a]
  refine horF_congr fun i hi2=>?_
  have hdg:=fun m (hm:m < (wo sh e).length)=>dig_horF hgx hm
  have hdp:=hdg _ (dPos_lt hd he hne)
  unfold dgF
  rw [hdp]
  have hgd:g (dPos d e)=dig sh K d:=by
    show (if dPos d e < e then dig sh K (dPos d e) else dig sh K (dPos d e + 1))=_
    unfold dPos
    by_cases c:d < e
    · rw [if_pos c,if_pos c]
    · rw [if_neg c,if_neg (by omega),show d - 1 + 1=d by omega]
  rw [hgd]
  unfold insF
  by_cases c1:i < e
  · rw [if_pos c1,hdg i (by omega)]
    show (if i < e then _ else _)=_
    rw [if_pos c1]
  · rw [if_neg c1]
    by_cases c2:i=e
    · rw [if_pos c2,c2,h]
    · rw [if_neg c2,hdg (i - 1) (by omega)]
      show (if i - 1 < e then _ else _)=_
      rw [if_neg (by omega),show i - 1 + 1=i by omega]
theorem dgK_cell (hg:good4 sh) (hl:st.length=sh.length) (hd:d < sh.length) (he:e < sh.length) (hne:d ≠ e) (hx:sh.getD d 0=sh.getD e 0) {k:Int} (h0:0 ≤ k) (hk:k < pr (wo sh e)):cellK (dgB b sh e) (wo sh e) (dgSt sh st d e) k=cellK b sh st (dgK sh d e k):=by
  have hz:¬ pr (wo sh e)=0:=by omega
  have e1:dgB b sh e=b:=if_neg hz
  have e2:dgSt sh st d e=dgE sh st d e:=if_neg hz
  have hws:=wo_length he
  have hws2:(wo st e).length=st.length - 1:=wo_length (by omega)
  have hdl:=dPos_lt hd he hne
  have hEs:dgE sh st d e=(wo st e).set (dPos d e) (dgX sh st d e):=wo_set _ (by omega) (by omega) hne
  have hst2:=wo_dPos (xs:=st) (d:=d) (e:=e) (by omega) (by omega) hne
  have hq:=dig_isIx (good4_wo hg e he) h0 hk _ hdl
  rw [wo_dPos hd he hne] at hq
  unfold cellK
  rw [dot_congr (g:=dgF sh d e k) fun i hi=>dgK_dig hg hd he hne hx h0 hk hi,← hl]
  unfold dgF
  rw [dot_ins _ st _ e (by omega),e1,e2,hEs,dot_setst (by omega),if_pos hdl,hst2,hws,← hl]
  by_cases h2:sh.getD d 0 < 2
  · have q0:dig (wo sh e) k (dPos d e)=0:=by omega
    rw [q0]
    omega
  · have eX:dgX sh st d e=st.getD d 0 + st.getD e 0:=if_neg h2
    rw [eX,show st.getD d 0 + st.getD e 0 - st.getD d 0=st.getD e 0 by omega]
def dgL (b:Int) (sh st:List Int) (d e:Nat):List Int:=((nums 0 1 (pr sh).toNat).filter fun K=>decide (dig sh K d=dig sh K e)).map fun K=>cellK b sh st K
theorem dg_ranks (hg:good4 sh) (hd:d < sh.length) (he:e < sh.length) (hne:d ≠ e) (hx:sh.getD d 0=sh.getD e 0) :
    ((nums 0 1 (pr (wo sh e)).toNat).map (dgK sh d e)).Perm ((nums 0 1 (pr sh).toNat).filter fun K=>decide (dig sh K d=dig sh K e)):=by
  have hp0:=(pr_bound (good4_wo hg e he)).1
  have hps:=(pr_bound hg).1
  have hM:((nums 0 1 (pr (wo sh e)).toNat).map (dgK sh d e)).Nodup:=by
    rw [List.nodup_iff_pairwise_ne,List.pairwise_map]
    refine (nums_nodup (pr (wo sh e)).toNat).imp_of_mem fun {a c} ha hc hne2 h=>hne2 ?_
    have ha':=mem_nums01.1 ha
    have hc':=mem_nums01.1 hc
    exact dgK_inj hg hd he hne hx (by omega) (by omega) (by omega) (by omega) h
  have hR:((nums 0 1 (pr sh).toNat).filter fun K=>decide (dig sh K d=dig sh K e)).Nodup:=(nums_nodup _).filter _
  rw [List.perm_ext_iff_of_nodup hM hR]
  intro x
  simp only [List.mem_map,List.mem_filter,mem_nums01,decide_eq_true_eq]
  constructor
  · rintro ⟨k,hk,rfl⟩
    have a:=dgK_lt hg hd he hne hx (k:=k) (by omega) (by omega)
    refine ⟨by omega,?_⟩
    rw [dgK_dig hg hd he hne hx (by omega) (by omega) hd,dgK_dig hg hd he hne hx (by omega) (by omega) he,dgF_eq hd he hne]
  · rintro ⟨hk,h⟩
    obtain ⟨k,h1,h2,h3⟩:=dgK_onto hg hd he hne (by omega) (by omega) h
    exact ⟨k,by omega,h3⟩
theorem offs_nums (b:Int) (sh st:List Int) (hp:0 ≤ pr sh):offs b sh st=(nums 0 1 (pr sh).toNat).map fun K=>cellK b sh st K:=by
  unfold offs
  refine list_eq_of (by simp) fun j hj=>?_
  have hj':j < (pr sh).toNat:=by simpa using hj
  have hj2:j < (nums 0 1 (pr sh).toNat).length:=by simpa using hj'
  have e:=nums_getD 0 1 (pr sh).toNat j hj'
  rw [List.getD,List.getElem?_eq_getElem hj2,Option.getD_some] at e
  simp only [List.getD,List.getElem?_map,List.getElem?_eq_getElem hj2,Option.map_some,Option.getD_some,List.getElem?_range hj',e]
  congr 1
  omega
theorem dg_map (hg:good4 sh) (hl:st.length=sh.length) (hd:d < sh.length) (he:e < sh.length) (hne:d ≠ e) (hx:sh.getD d 0=sh.getD e 0) :
    offs (dgB b sh e) (wo sh e) (dgSt sh st d e)=((nums 0 1 (pr (wo sh e)).toNat).map (dgK sh d e)).map fun K=>cellK b sh st K:=by
  have hp0:=(pr_bound (good4_wo hg e he)).1
  rw [offs_nums _ _ _ hp0,List.map_map]
  refine List.map_congr_left fun k hk=>?_
  have:=mem_nums01.1 hk
  exact dgK_cell hg hl hd he hne hx (by omega) (by omega)
theorem dg_perm (hg:good4 sh) (hl:st.length=sh.length) (hd:d < sh.length) (he:e < sh.length) (hne:d ≠ e) (hx:sh.getD d 0=sh.getD e 0) :
    (offs (dgB b sh e) (wo sh e) (dgSt sh st d e)).Perm (dgL b sh st d e):=by
  rw [dg_map hg hl hd he hne hx]
  exact (dg_ranks hg hd he hne hx).map _
theorem sorted_eq:∀ {xs ys:List Int},xs.Pairwise (· < ·) → ys.Pairwise (· < ·) → xs.Perm ys → xs=ys
  | [],ys,_,_,h=>(List.nil_perm.1 h).symm
  | x :: xs,[],_,_,h=>absurd h.length_eq (by simp)
  | x :: xs,y :: ys,h1,h2,h=>by
    have a1:=List.pairwise_cons.1 h1
    have a2:=List.pairwise_cons.1 h2
    have e:x=y:=by
      have m1:x ∈ y :: ys:=(h.mem_iff).1 (by simp)
      have m2:y ∈ x :: xs:=(h.mem_iff).2 (by simp)
      rcases List.mem_cons.1 m1 with r|r
      · exact r
      · rcases List.mem_cons.1 m2 with t|t
        · exact t.symm
        · have:=a1.1 y t;have:=a2.1 x r;omega
    subst e
    rw [sorted_eq a1.2 a2.2 ((List.perm_cons x).1 h)]
theorem dg_eq (hg:good4 sh) (hl:st.length=sh.length) (he:e < sh.length) (hde:d < e) (hx:sh.getD d 0=sh.getD e 0) :
    offs (dgB b sh e) (wo sh e) (dgSt sh st d e)=dgL b sh st d e:=by
  have hp0:=(pr_bound (good4_wo hg e he)).1
  rw [dg_map hg hl (by omega) he (by omega) hx,dgL]
  congr 1
  refine sorted_eq ?_ ((nums_sorted (by omega) _).filter _) (dg_ranks hg (by omega) he (by omega) hx)
  rw [List.pairwise_map]
  refine (nums_sorted (by omega) (pr (wo sh e)).toNat).imp_of_mem fun {a c} ha hc h=>?_
  have ha':=mem_nums01.1 ha
  have hc':=mem_nums01.1 hc
  exact dgK_mono hg he hde hx (by omega) h (by omega)
end
end VwM
