/- The mathematics of ranges,slices,shapes and indices that the contracts speak of. -/
import Derived.Test.YtejbfjmiidofcaaGreatCW3
set_option linter.unusedVariables false
set_option linter.unusedSimpArgs false
set_option linter.unnecessarySimpa false
set_option maxRecDepth 4000
namespace VwM
open Vw
open Go

abbrev rng (a b c:Int):AV:=.agg [.int .i64 a,.int .i64 b,.int .i64 c]
abbrev slc (f t b:Int) (hf ht:Bool):AV:=.agg [.int .i64 f,.int .i64 t,.int .i64 b,.bool hf,.bool ht]
abbrev IL (xs:List Int):List AV:=xs.map (AV.int .i64)
abbrev RI (xs:List Int):AV:=.rows false (IL xs) xs.length
abbrev OI (xs:List Int):AV → List (List AV) → Prop:=fun r H'=>r=.own 0 xs.length 1 ∧ H'=[IL xs]
def vR (a b c:Int):Bool:=decide (-100 ≤ a) && decide (a ≤ 100) && (decide (-101 ≤ b) && decide (b ≤ 101)) && (decide (-200 ≤ c) && decide (c ≤ 200) && !decide (c=0))
def vS (f t b:Int) (hf ht:Bool):Bool:=decide (-100 ≤ f) && decide (f ≤ 100) && (decide (-100 ≤ t) && decide (t ≤ 100)) && (decide (-200 ≤ b) && decide (b ≤ 200)) && !decide (b=0) && (hf || decide (f=0)) && (ht || decide (t=0))
theorem vR_spec {a b c:Int}:vR a b c=true ↔ (-100 ≤ a ∧ a ≤ 100) ∧ (-101 ≤ b ∧ b ≤ 101) ∧ (-200 ≤ c ∧ c ≤ 200) ∧ c ≠ 0:=by
  simp only [vR,Bool.and_eq_true,decide_eq_true_eq,Bool.not_eq_true',decide_eq_false_iff_not]
  constructor
  · rintro ⟨⟨h1,h2⟩,h3,h4⟩;exact ⟨h1,h2,h3,h4⟩
  · rintro ⟨h1,h2,h3,h4⟩;exact ⟨⟨h1,h2⟩,h3,h4⟩
theorem vS_spec {f t b:Int} {hf ht:Bool}:vS f t b hf ht=true ↔ (-100 ≤ f ∧ f ≤ 100) ∧ (-100 ≤ t ∧ t ≤ 100) ∧ (-200 ≤ b ∧ b ≤ 200) ∧ b ≠ 0 ∧ (hf=true ∨ f=0) ∧ (ht=true ∨ t=0):=by
  simp only [vS,Bool.and_eq_true,Bool.or_eq_true,decide_eq_true_eq,Bool.not_eq_true',decide_eq_false_iff_not]
  constructor
  · rintro ⟨⟨⟨⟨⟨h1,h2⟩,h3⟩,h4⟩,h5⟩,h6⟩;exact ⟨h1,h2,h3,h4,h5,h6⟩
  · rintro ⟨h1,h2,h3,h4,h5,h6⟩;exact ⟨⟨⟨⟨⟨h1,h2⟩,h3⟩,h4⟩,h5⟩,h6⟩
theorem mkAV_ints0 (k:IntKind) (xs:List Int):mkAV false ((xs.map (AV.int k)).take 1)=if 0 < xs.length then some (.int k (xs.getD 0 0)) else none:=by
  haveI:Inhabited GlobT:=⟨⟨[]⟩⟩
  have:=mkAV_ints k xs 0
  rwa [List.drop_zero] at this
attribute [push_cast] mkAV_ints mkAV_ints0


theorem list_eq_of {xs ys:List Int} (hl:xs.length=ys.length) (h:∀ j:Nat,j < xs.length → xs.getD j 0=ys.getD j 0):xs=ys:=by
  refine List.ext_getElem hl fun i h1 h2=>?_
  have:=h i h1
  simpa [List.getD,h1,h2] using this


def upFrom (k:Int) (n:Nat):List Int:=(List.range n).map fun i:Nat=>k + (i:Int)
theorem upFrom_length (k:Int) (n:Nat):(upFrom k n).length=n:=by simp [upFrom]
attribute [simp] upFrom_length
attribute [push_cast] upFrom_length
def marked (k:Int) (xs:List Int) (j:Nat):List Int:=upFrom k j ++ xs.drop j
def cntI (a b c:Int):Int :=
  if c < 0 then (if 0 - (b - a) ≤ 0 then 0 else (0 - (b - a) + (0 - c) - 1).tdiv (0 - c)) else (if b - a ≤ 0 then 0 else (b - a + c - 1).tdiv c)
theorem tdiv_bound {x y:Int} (hy:0 < y) (hx:0 ≤ x):0 ≤ x.tdiv y ∧ x.tdiv y ≤ x:=by
  rw [Int.tdiv_eq_ediv_of_nonneg hx]
  exact ⟨Int.ediv_nonneg hx (by omega),Int.ediv_le_self _ hx⟩
def nums (a c:Int) (k:Nat):List Int:=(List.range k).map fun i:Nat=>a + (i:Int) * c
theorem nums_zero (a c:Int):nums a c 0=[]:=rfl
theorem nums_succ (a c:Int) (k:Nat):nums a c (k + 1)=nums a c k ++ [a + (k:Int) * c]:=by simp [nums,List.range_succ]
theorem nums_length (a c:Int) (k:Nat):(nums a c k).length=k:=by simp [nums]
theorem nums_getD (a c:Int) (k i:Nat) (h:i < k):(nums a c k).getD i 0=a + (i:Int) * c:=by simp [nums,h,List.getD]
attribute [simp] nums_length
attribute [push_cast] nums_length
theorem cnt_lt {a b c i:Int} (h0:c ≠ 0) (hi:0 ≤ i):i < cntI a b c ↔ (0 < c ∧ a + i * c < b) ∨ (c < 0 ∧ b < a + i * c):=by
  unfold cntI
  by_cases hc:c < 0
  · rw [if_pos hc]
    have hp:0 ≤ i * (0 - c):=Int.mul_nonneg hi (by omega)
    have e:i * (0 - c)=- (i * c):=by rw [Int.zero_sub,Int.mul_neg]
    by_cases hw:0 - (b - a) ≤ 0
    · rw [if_pos hw]
      constructor
      · intro h;omega
      · rintro (h|h)<;>omega
    · rw [if_neg hw,Int.tdiv_eq_ediv_of_nonneg (by omega),Int.lt_iff_add_one_le,Int.le_ediv_iff_mul_le (by omega),Int.add_mul]
      constructor
      · intro h;right;omega
      · rintro (h|h)<;>omega
  · rw [if_neg hc]
    have hp:0 ≤ i * c:=Int.mul_nonneg hi (by omega)
    by_cases hw:b - a ≤ 0
    · rw [if_pos hw]
      constructor
      · intro h;omega
      · rintro (h|h)<;>omega
    · rw [if_neg hw,Int.tdiv_eq_ediv_of_nonneg (by omega),Int.lt_iff_add_one_le,Int.le_ediv_iff_mul_le (by omega),Int.add_mul]
      constructor
      · intro h;left;omega
      · rintro (h|h)<;>omega
theorem cnt_bound {a b c:Int} (hv:vR a b c=true):0 ≤ cntI a b c ∧ cntI a b c ≤ 500:=by
  obtain ⟨ha,hb,hc,h0⟩:=vR_spec.1 hv
  unfold cntI
  by_cases hc:c < 0
  · rw [if_pos hc]
    by_cases hw:0 - (b - a) ≤ 0
    · rw [if_pos hw];omega
    · rw [if_neg hw]
      have:=tdiv_bound (x:=0 - (b - a) + (0 - c) - 1) (y:=0 - c) (by omega) (by omega)
      omega
  · rw [if_neg hc]
    by_cases hw:b - a ≤ 0
    · rw [if_pos hw];omega
    · rw [if_neg hw]
      have:=tdiv_bound (x:=b - a + c - 1) (y:=c) (by omega) (by omega)
      omega
def cntN (a b c:Int):Nat:=(cntI a b c).toNat
theorem cntN_cast {a b c:Int} (hv:vR a b c=true):(cntN a b c:Int)=cntI a b c:=by
  unfold cntN;have:=cnt_bound hv;omega
theorem cntN_lt {a b c:Int} (hv:vR a b c=true) (i:Nat):i < cntN a b c ↔ (0 < c ∧ a + i * c < b) ∨ (c < 0 ∧ b < a + i * c):=by
  rw [← cnt_lt (vR_spec.1 hv).2.2.2 (by omega:(0:Int) ≤ i),← cntN_cast hv]
  omega
theorem num_bound {a b c:Int} (hv:vR a b c=true) {i:Nat} (h:i < cntN a b c):-201 ≤ (i:Int) * c ∧ (i:Int) * c ≤ 201 ∧ -100 ≤ a + i * c ∧ a + i * c ≤ 100:=by
  obtain ⟨ha,hb,hc,h0⟩:=vR_spec.1 hv
  rcases (cntN_lt hv i).1 h with ⟨h1,h2⟩|⟨h1,h2⟩
  · have:0 ≤ (i:Int) * c:=Int.mul_nonneg (by omega) (by omega)
    omega
  · have:0 ≤ (i:Int) * (0 - c):=Int.mul_nonneg (by omega) (by omega)
    rw [Int.zero_sub,Int.mul_neg] at this
    omega
theorem next_bound {a b c:Int} (hv:vR a b c=true) {i:Nat} (h:i ≤ cntN a b c):-1000 ≤ (i:Int) * c ∧ (i:Int) * c ≤ 1000:=by
  obtain ⟨ha,hb,hc,h0⟩:=vR_spec.1 hv
  cases i with
  | zero=>simp
  | succ i =>
    have:=num_bound hv (i:=i) (by omega)
    rw [show ((i + 1:Nat):Int) * c=(i:Int) * c + c by rw [Int.natCast_add,Int.add_mul];simp]
    omega
def filled (g:Nat → Int) (n j:Nat):List Int:=(List.range n).map fun i=>if i < j then g i else 0
theorem filled_zero (g:Nat → Int) (n:Nat):filled g n 0=List.replicate n 0:=by
  refine List.ext_getElem? fun i=>?_
  by_cases h:i < n<;>simp [filled,h]
theorem filled_length (g:Nat → Int) (n j:Nat):(filled g n j).length=n:=by simp [filled]
attribute [simp] filled_length
attribute [push_cast] filled_length
theorem filled_set (g:Nat → Int) (n j:Nat) (h:j < n):(filled g n j).set j (g j)=filled g n (j + 1):=by
  refine List.ext_getElem? fun i=>?_
  simp only [filled,List.getElem?_set,List.length_map,List.length_range,List.getElem?_map]
  by_cases h1:j=i
  · subst h1;simp [h]
  · by_cases h2:i < n
    · simp only [List.getElem?_range h2,Option.map_some,if_neg h1]
      congr 1
      by_cases h3:i < j
      · rw [if_pos h3,if_pos (by omega)]
      · rw [if_neg h3,if_neg (by omega)]
    · simp [h1,h2]
theorem filled_all (g:Nat → Int) (n:Nat):filled g n n=(List.range n).map g:=by
  refine List.map_congr_left fun i hi=>?_
  rw [if_pos (List.mem_range.1 hi)]
theorem IL_set (xs:List Int) (j:Nat) (v:Int):(IL xs).set j (.int .i64 v)=IL (xs.set j v):=by simp [IL,List.map_set]
theorem IL_snoc (xs:List Int) (v:Int):IL xs ++ [.int .i64 v]=IL (xs ++ [v]):=by simp [IL]
def numsOf (a b c:Int):List Int:=if vR a b c=true then nums a c (cntN a b c) else []


theorem toNat_succ (k:Nat):((k:Int) + 1).toNat=k + 1:=by omega
theorem IL_tail (k:IntKind) (xs:List Int) (j:Nat):(((xs.map (AV.int k)).drop j).take (xs.length - j))=(xs.drop j).map (AV.int k):=by
  rw [← List.map_drop,← List.map_take]
  congr 1
  exact List.take_of_length_le (by simp)
theorem IL_head (k:IntKind) (xs:List Int) (j:Nat):(xs.map (AV.int k)).take j=(xs.take j).map (AV.int k):=by rw [List.map_take]
attribute [push_cast] toNat_succ IL_tail
def pr (xs:List Int):Int:=xs.foldl (· * ·) 1
theorem pr_nil:pr []=1:=rfl
theorem pr_snoc (xs:List Int) (x:Int):pr (xs ++ [x])=pr xs * x:=by simp [pr]
theorem foldl_mul (xs:List Int) (a:Int):xs.foldl (· * ·) a=a * pr xs:=by
  induction xs generalizing a with
  | nil=>simp [pr]
  | cons x r ih=>simp only [List.foldl_cons,pr];rw [ih,ih (1 * x)];rw [Int.one_mul,Int.mul_assoc]
theorem pr_cons (x:Int) (xs:List Int):pr (x :: xs)=x * pr xs:=by
  show (x :: xs).foldl (· * ·) 1=_
  rw [List.foldl_cons,foldl_mul,Int.one_mul]
theorem take_succ_getD (xs:List Int) (k:Nat) (h:k < xs.length):xs.take (k + 1)=xs.take k ++ [xs.getD k 0]:=by
  rw [List.take_succ_eq_append_getElem h];simp [List.getD,h]
theorem drop_getD (xs:List Int) (k:Nat) (h:k < xs.length):xs.drop k=xs.getD k 0 :: xs.drop (k + 1):=by
  rw [List.drop_eq_getElem_cons h];simp [List.getD,h]
theorem pr_take_succ (xs:List Int) (k:Nat) (h:k < xs.length):pr (xs.take (k + 1))=pr (xs.take k) * xs.getD k 0:=by rw [take_succ_getD xs k h,pr_snoc]
theorem pr_drop (xs:List Int) (k:Nat) (h:k < xs.length):pr (xs.drop k)=xs.getD k 0 * pr (xs.drop (k + 1)):=by rw [drop_getD xs k h,pr_cons]
def good4 (xs:List Int):Prop:=(∀ x ∈ xs,0 ≤ x ∧ x ≤ 60) ∧ xs.length ≤ 4
theorem good4_take {xs:List Int} (h:good4 xs) (j:Nat):good4 (xs.take j):=⟨fun x hx=>h.1 x (List.mem_of_mem_take hx),by have:=h.2;simp;omega⟩
theorem good4_drop {xs:List Int} (h:good4 xs) (j:Nat):good4 (xs.drop j):=⟨fun x hx=>h.1 x (List.mem_of_mem_drop hx),by have:=h.2;simp;omega⟩
theorem good4_at {xs:List Int} (h:good4 xs) {k:Nat} (hk:k < xs.length):0 ≤ xs.getD k 0 ∧ xs.getD k 0 ≤ 60:=by
  refine h.1 _ ?_
  simp [List.getD,hk]
theorem pr_bound':∀ (xs:List Int),(∀ x ∈ xs,0 ≤ x ∧ x ≤ 60) → 0 ≤ pr xs ∧ pr xs ≤ 60 ^ xs.length
  | [],_=>by simp [pr]
  | x :: r,h=>by
    have ih:=pr_bound' r fun y hy=>h y (by simp [hy])
    have hx:=h x (by simp)
    rw [pr_cons,List.length_cons,Int.pow_succ,Int.mul_comm (60 ^ r.length) 60]
    exact ⟨Int.mul_nonneg hx.1 ih.1,Int.mul_le_mul hx.2 ih.2 ih.1 (by omega)⟩
theorem pr_bound {xs:List Int} (h:good4 xs):0 ≤ pr xs ∧ pr xs ≤ 12960000:=by
  have h1:=pr_bound' xs h.1
  refine ⟨h1.1,Int.le_trans h1.2 ?_⟩
  have:(60:Int) ^ xs.length ≤ 60 ^ 4:=by
    obtain ⟨_,hl⟩:=h
    generalize xs.length=n at hl
    match n,hl with
    | 0,_=>decide
    | 1,_=>decide
    | 2,_=>decide
    | 3,_=>decide
    | 4,_=>decide
  simpa using this
def allI (xs:List Int) (l h:Int):Bool:=xs.all fun x=>decide (l ≤ x) && decide (x ≤ h)
theorem allI_iff {xs:List Int} {l h:Int}:allI xs l h=true ↔ ∀ x ∈ xs,l ≤ x ∧ x ≤ h:=by simp [allI]
theorem allI_getD {xs:List Int} {l h:Int}:(∀ j:Nat,j < xs.length → l ≤ xs.getD j 0 ∧ xs.getD j 0 ≤ h) → allI xs l h=true:=by
  intro hj
  rw [allI_iff]
  intro x hx
  obtain ⟨i,hi,rfl⟩:=List.getElem_of_mem hx
  have:=hj i hi
  simpa [List.getD,hi] using this
theorem allI_false {xs:List Int} {l h:Int} {j:Nat} (hj:j < xs.length) (hx:xs.getD j 0 < l ∨ h < xs.getD j 0):allI xs l h=false:=by
  rw [Bool.eq_false_iff]
  intro ht
  have:=(allI_iff.1 ht) (xs.getD j 0) (by simp [List.getD,hj])
  omega
def vSh (sh:List Int):Bool:=decide (sh.length ≤ 4) && allI sh 0 60 && decide (pr sh ≤ 60)
theorem vSh_good {sh:List Int} (h:vSh sh=true):good4 sh ∧ 0 ≤ pr sh ∧ pr sh ≤ 60:=by
  simp only [vSh,Bool.and_eq_true,decide_eq_true_eq] at h
  have hg:good4 sh:=⟨allI_iff.1 h.1.2,h.1.1⟩
  exact ⟨hg,(pr_bound hg).1,h.2⟩
theorem nil_split {n:Nat} {K:Bool → Prop} (h1:n=0 → K true) (h2:K false):∀ b:Bool,(b=true → n=0) → K b:=by
  intro b hb
  cases b with
  | true=>exact h1 (hb rfl)
  | false=>exact h2
def rowS (sh:List Int):List Int:=(List.range sh.length).map fun i:Nat=>pr (sh.drop (i + 1))
def colS (sh:List Int):List Int:=(List.range sh.length).map fun i:Nat=>pr (sh.take i)
theorem rowS_length (sh:List Int):(rowS sh).length=sh.length:=by simp [rowS]
theorem colS_length (sh:List Int):(colS sh).length=sh.length:=by simp [colS]
attribute [simp] rowS_length colS_length
attribute [push_cast] rowS_length colS_length
def filledD (g:Nat → Int) (n k:Nat):List Int:=(List.range n).map fun i=>if n - k ≤ i then g i else 0
theorem filledD_zero (g:Nat → Int) (n:Nat):filledD g n 0=List.replicate n 0:=by
  refine List.ext_getElem? fun i=>?_
  by_cases h:i < n
  · have:¬ n ≤ i:=by omega
    simp [filledD,h,this]
  · simp [filledD,h]
theorem filledD_length (g:Nat → Int) (n k:Nat):(filledD g n k).length=n:=by simp [filledD]
attribute [simp] filledD_length
attribute [push_cast] filledD_length
theorem filledD_set (g:Nat → Int) (n k:Nat) (h:k < n):(filledD g n k).set (n - 1 - k) (g (n - 1 - k))=filledD g n (k + 1):=by
  refine List.ext_getElem? fun i=>?_
  simp only [filledD,List.getElem?_set,List.length_map,List.length_range,List.getElem?_map]
  by_cases h1:n - 1 - k=i
  · subst h1
    have h2:n - 1 - k < n:=by omega
    have h3:n - (k + 1) ≤ n - 1 - k:=by omega
    simp [h2,h3]
    omega
  · by_cases h2:i < n
    · simp only [List.getElem?_range h2,Option.map_some,if_neg h1]
      congr 1
      by_cases h3:n - k ≤ i
      · rw [if_pos h3,if_pos (by omega)]
      · rw [if_neg h3,if_neg (by omega)]
    · simp [h1,h2]
theorem filledD_all (g:Nat → Int) (n:Nat):filledD g n n=(List.range n).map g:=by
  refine List.map_congr_left fun i hi=>?_
  rw [if_pos (by omega)]
theorem down_nat (n k:Nat) (h:k < n):((n:Int) - 1 - (k:Int)).toNat=n - 1 - k:=by omega



def kS (sh:List Int) (k:Int):Nat → Int
  | 0=>k
  | j + 1=>(kS sh k j).tdiv (sh.getD (sh.length - 1 - j) 0)
def dig (sh:List Int) (k:Int) (i:Nat):Int:=(kS sh k (sh.length - 1 - i)).tmod (sh.getD i 0)
def unr (sh:List Int) (k:Int):List Int:=(List.range sh.length).map (dig sh k)
theorem unr_length (sh:List Int) (k:Int):(unr sh k).length=sh.length:=by simp [unr]
attribute [simp] unr_length
attribute [push_cast] unr_length
theorem pr_zero {xs:List Int} {i:Nat} (hi:i < xs.length) (h:xs.getD i 0=0):pr xs=0:=by
  have e:xs=xs.take i ++ xs.drop i:=(List.take_append_drop i xs).symm
  rw [e,pr,List.foldl_append,foldl_mul,pr_drop xs i hi,h]
  simp
theorem kS_bound {sh:List Int} {k:Int} (hk:0 ≤ k) (hp:∀ i,i < sh.length → 1 ≤ sh.getD i 0):∀ j,j ≤ sh.length → 0 ≤ kS sh k j ∧ kS sh k j ≤ k
  | 0,_=>by simp [kS,hk]
  | j + 1,h=>by
    have ih:=kS_bound hk hp j (by omega)
    have h1:=hp (sh.length - 1 - j) (by omega)
    have:=tdiv_bound (x:=kS sh k j) (y:=sh.getD (sh.length - 1 - j) 0) (by omega) ih.1
    simp only [kS]
    omega
theorem pos_of_pr {sh:List Int} (hg:good4 sh) (h:1 ≤ pr sh):∀ i,i < sh.length → 1 ≤ sh.getD i 0:=by
  intro i hi
  have h1:=good4_at hg hi
  rcases Int.lt_or_le 0 (sh.getD i 0) with h2|h2
  · omega
  · have:=pr_zero hi (by omega)
    omega
theorem dig_bound {sh:List Int} {k:Int} (hk:0 ≤ k) (hp:∀ i,i < sh.length → 1 ≤ sh.getD i 0) (hle:∀ i,i < sh.length → sh.getD i 0 ≤ 60) {i:Nat} (hi:i < sh.length):0 ≤ dig sh k i ∧ dig sh k i < sh.getD i 0:=by
  have h1:=kS_bound hk hp (sh.length - 1 - i) (by omega)
  have h2:=hp i hi
  unfold dig
  exact ⟨Int.tmod_nonneg _ h1.1,Int.tmod_lt_of_pos _ (by omega)⟩
def pad4 (f:Nat → Int):List Int:=[f 0,f 1,f 2,f 3]
theorem pad4_length (f:Nat → Int):(pad4 f).length=4:=rfl
theorem pad4_getD (f:Nat → Int) (i:Nat) (h:i < 4):(pad4 f).getD i 0=f i:=by
  match i,h with
  | 0,_=>rfl
  | 1,_=>rfl
  | 2,_=>rfl
  | 3,_=>rfl
theorem pad4_set (f:Nat → Int) (i:Nat) (v:Int) (h:i < 4):(pad4 f).set i v=pad4 (fun j=>if j=i then v else f j):=by
  match i,h with
  | 0,_=>rfl
  | 1,_=>rfl
  | 2,_=>rfl
  | 3,_=>rfl
theorem pad4_congr {f g:Nat → Int} (h:∀ i,i < 4 → f i=g i):pad4 f=pad4 g:=by simp [pad4,h]
theorem setRange_pad4 (a b c d:AV) (f:Nat → Int):setRange [a,b,c,d] 0 ((pad4 f).map (AV.int .i64))=(pad4 f).map (AV.int .i64):=by simp [pad4,setRange]
theorem setRange_pad4' (g f:Nat → Int):setRange ((pad4 g).map (AV.int .i64)) 0 ((pad4 f).map (AV.int .i64))=(pad4 f).map (AV.int .i64):=by simp [pad4,setRange]
theorem take_pad4 (f:Nat → Int):((pad4 f).map (AV.int .i64)).take 4=(pad4 f).map (AV.int .i64):=by simp [pad4]
attribute [simp] pad4_length
attribute [push_cast] pad4_length setRange_pad4 setRange_pad4' take_pad4
theorem pad4_take (f:Nat → Int) (n:Nat) (h:n ≤ 4):(pad4 f).take n=(List.range n).map f:=by
  match n,h with
  | 0,_=>rfl
  | 1,_=>rfl
  | 2,_=>rfl
  | 3,_=>rfl
  | 4,_=>rfl
def padD (xs:List Int) (k:Int) (j i:Nat):Int:=if i < xs.length ∧ xs.length - j ≤ i then dig xs k i else 0
abbrev AP (f:Nat → Int):AV:=.agg (IL (pad4 f))
def digP (sh:List Int) (k:Int) (i:Nat):Int:=if i < sh.length then dig sh k i else 0


def vIx (sh idx:List Int):Bool:=decide (idx.length=sh.length) && (List.range idx.length).all fun i=>decide (0 ≤ idx.getD i 0) && decide (idx.getD i 0 ≤ sh.getD i 0 - 1)
theorem vIx_spec {sh idx:List Int}:vIx sh idx=true ↔ idx.length=sh.length ∧ ∀ i,i < idx.length → 0 ≤ idx.getD i 0 ∧ idx.getD i 0 ≤ sh.getD i 0 - 1:=by
  simp only [vIx,Bool.and_eq_true,decide_eq_true_eq,List.all_eq_true,List.mem_range]
theorem vIx_false {sh idx:List Int} {j:Nat} (hj:j < idx.length) (h:idx.getD j 0 < 0 ∨ sh.getD j 0 - 1 < idx.getD j 0):vIx sh idx=false:=by
  rw [Bool.eq_false_iff]
  intro ht
  have:=(vIx_spec.1 ht).2 j hj
  omega
theorem vIx_len {sh idx:List Int} (h:¬ idx.length=sh.length):vIx sh idx=false:=by simp [vIx,h]
def hor (sh idx:List Int):Nat → Int
  | 0=>0
  | k + 1=>hor sh idx k * sh.getD k 0 + idx.getD k 0
def dot (f:Nat → Int) (st:List Int):Nat → Int
  | 0=>0
  | k + 1=>dot f st k + f k * st.getD k 0
theorem dot_congr {f g:Nat → Int} {st:List Int}:∀ {k:Nat},(∀ i,i < k → f i=g i) → dot f st k=dot g st k
  | 0,_=>rfl
  | k + 1,h=>by simp only [dot];rw [dot_congr fun i hi=>h i (by omega),h k (by omega)]
theorem rowS_getD (sh:List Int) (i:Nat) (h:i < sh.length):(rowS sh).getD i 0=pr (sh.drop (i + 1)):=by simp [rowS,List.getD,h]
theorem colS_getD (sh:List Int) (i:Nat) (h:i < sh.length):(colS sh).getD i 0=pr (sh.take i):=by simp [colS,List.getD,h]
theorem mul_abs_bound {a b B C:Int} (ha:-B ≤ a ∧ a ≤ B) (hb:-C ≤ b ∧ b ≤ C):-(B * C) ≤ a * b ∧ a * b ≤ B * C:=by
  have h1:a.natAbs ≤ B.natAbs:=by omega
  have h2:b.natAbs ≤ C.natAbs:=by omega
  have h3:(a * b).natAbs ≤ (B * C).natAbs:=by rw [Int.natAbs_mul,Int.natAbs_mul];exact Nat.mul_le_mul h1 h2
  have h4:0 ≤ B * C:=Int.mul_nonneg (by omega) (by omega)
  omega
theorem dot_bound {f:Nat → Int} {st:List Int} {B C:Int}:∀ k,(∀ i,i < k → (-B ≤ f i ∧ f i ≤ B) ∧ -C ≤ st.getD i 0 ∧ st.getD i 0 ≤ C) → -((k:Int) * (B * C)) ≤ dot f st k ∧ dot f st k ≤ (k:Int) * (B * C)
  | 0,_=>by simp [dot]
  | k + 1,h=>by
    have ih:=dot_bound (f:=f) (st:=st) (B:=B) (C:=C) k fun i hi=>h i (by omega)
    have h1:=h k (by omega)
    have h2:=mul_abs_bound h1.1 h1.2
    simp only [dot,Int.natCast_add,Int.add_mul]
    simp only [Int.cast_ofNat_Int,Int.one_mul]
    omega


def idxP (sh idx:List Int) (i:Nat):Int:=if vIx sh idx=true ∧ i < sh.length then idx.getD i 0 else 0
theorem idxP_false {sh idx:List Int} (h:vIx sh idx=false):pad4 (idxP sh idx)=pad4 fun _=>0:=pad4_congr fun i _=>by unfold idxP;rw [if_neg (by simp [h])]


theorem rowS_bound {sh:List Int} (hg:good4 sh) (i:Nat) (h:i < sh.length):0 ≤ (rowS sh).getD i 0 ∧ (rowS sh).getD i 0 ≤ 12960000:=by
  rw [rowS_getD sh i h];exact pr_bound (good4_drop hg (i + 1))
def rankD (sh idx:List Int):Int:=if vSh sh=true ∧ vIx sh idx=true then dot (fun i=>idx.getD i 0) (rowS sh) sh.length else -1


abbrev VW (b:Int) (s t:AV):AV:=.agg [.int .i64 b,s,t]
abbrev RV (b:Int) (sh st:List Int):AV:=.agg [.int .i64 b,RI sh,RI st]
abbrev OV (b:Int) (sh st:List Int):AV → List (List AV) → Prop:=fun r H'=>r=.agg [.int .i64 b,.own 0 sh.length 1,.own 1 st.length 1] ∧ H'=[IL sh,IL st]


def newSt (sh:List Int):List Int:=if pr sh=0 then List.replicate sh.length 0 else rowS sh
theorem newSt_length (sh:List Int):(newSt sh).length=sh.length:=by unfold newSt;split<;>simp


def endI (x n b:Int):Int:=min (max (if b < 0 then -1 else 0) (if x < 0 then x + n else x)) (if b < 0 then n - 1 else n)
def sFrom (f n b:Int) (hf:Bool):Int:=if hf=true then endI f n b else if b < 0 then n - 1 else 0
def sTo (t n b:Int) (ht:Bool):Int:=if ht=true then endI t n b else if b < 0 then -1 else n
theorem endI_bound {x n b:Int} (hn:0 ≤ n ∧ n ≤ 60):-1 ≤ endI x n b ∧ endI x n b ≤ 60:=by
  unfold endI;split<;>split<;>omega
theorem sFrom_bound {f n b:Int} {hf:Bool} (hn:0 ≤ n ∧ n ≤ 60):-1 ≤ sFrom f n b hf ∧ sFrom f n b hf ≤ 60:=by
  have:=endI_bound (x:=f) (b:=b) hn
  unfold sFrom;split
  · exact this
  · split<;>omega
theorem sTo_bound {t n b:Int} {ht:Bool} (hn:0 ≤ n ∧ n ≤ 60):-1 ≤ sTo t n b ht ∧ sTo t n b ht ≤ 60:=by
  have:=endI_bound (x:=t) (b:=b) hn
  unfold sTo;split
  · exact this
  · split<;>omega
theorem over_valid {f t b n:Int} {hf ht:Bool} (hn:0 ≤ n ∧ n ≤ 60) (hs:vS f t b hf ht=true):vR (sFrom f n b hf) (sTo t n b ht) b=true:=by
  obtain ⟨h1,h2,h3,h4,-,-⟩:=vS_spec.1 hs
  have:=sFrom_bound (f:=f) (b:=b) (hf:=hf) hn
  have:=sTo_bound (t:=t) (b:=b) (ht:=ht) hn
  exact vR_spec.2 ⟨by omega,by omega,h3,h4⟩


def idxOf (n f t b:Int) (hf ht:Bool):List Int:=if vS f t b hf ht=true ∧ 0 ≤ n ∧ n ≤ 60 then nums (sFrom f n b hf) b (cntN (sFrom f n b hf) (sTo t n b ht) b) else []
def pS (a k:Int):Int:=if k < 1 then 0 else a
def pE (a c k:Int):Int:=if k < 1 then 0 else if k=1 then a + 1 else if c < 0 then a + (k - 1) * c - 1 else a + (k - 1) * c + 1
def pC (c k:Int):Int:=if k ≤ 1 then 1 else c
abbrev PR (a c k:Int):AV:=rng (pS a k) (pE a c k) (pC c k)


theorem idx_in {f t b n:Int} {hf ht:Bool} (hn:0 ≤ n ∧ n ≤ 60) (hs:vS f t b hf ht=true) {i:Nat} (h:i < cntN (sFrom f n b hf) (sTo t n b ht) b):0 ≤ sFrom f n b hf + (i:Int) * b ∧ sFrom f n b hf + (i:Int) * b < n:=by
  have h1:=(cntN_lt (over_valid hn hs) i).1 h
  rcases h1 with ⟨hb,h2⟩|⟨hb,h2⟩
  · have p:0 ≤ (i:Int) * b:=Int.mul_nonneg (by omega) (by omega)
    have q1:0 ≤ sFrom f n b hf:=by unfold sFrom endI;split<;>(try split)<;>omega
    have q2:sTo t n b ht ≤ n:=by unfold sTo endI;split<;>(try split)<;>omega
    omega
  · have p:0 ≤ (i:Int) * (0 - b):=Int.mul_nonneg (by omega) (by omega)
    rw [Int.zero_sub,Int.mul_neg] at p
    have q1:sFrom f n b hf ≤ n - 1:=by unfold sFrom endI;split<;>(try split)<;>omega
    have q2:-1 ≤ sTo t n b ht:=by unfold sTo endI;split<;>(try split)<;>omega
    omega
theorem mul_bd {x y:Int} {p q:Nat} (h1:-(p:Int) ≤ x ∧ x ≤ p) (h2:-(q:Int) ≤ y ∧ y ≤ q):-((p * q:Nat):Int) ≤ x * y ∧ x * y ≤ (p * q:Nat):=by
  have e:(x * y).natAbs ≤ p * q:=by rw [Int.natAbs_mul];exact Nat.mul_le_mul (by omega) (by omega)
  omega


def slRg (a b c f t w:Int) (hf ht:Bool):AV :=
  if vR a b c=true ∧ vS f t w hf ht=true ∧ cntN a b c ≤ 60 then PR (a + sFrom f (cntN a b c) w hf * c) (c * w) (cntN (sFrom f (cntN a b c) w hf) (sTo t (cntN a b c) w ht) w) else rng 0 0 0
def mgSome (n f t w:Int) (hf ht:Bool) (f' t' w':Int) (hf' ht':Bool):AV :=
  let u:=sFrom f n w hf
  let k:=cntN u (sTo t n w ht) w
  let u':=sFrom f' k w' hf'
  let k':=cntN u' (sTo t' k w' ht') w'
  slc (pS (u + u' * w) k') (if pE (u + u' * w) (w * w') k' < 0 then 0 else pE (u + u' * w) (w * w') k') (pC (w * w') k') true (!decide (pE (u + u' * w) (w * w') k' < 0))
def mgS (n f t w:Int) (hf ht:Bool) (f' t' w':Int) (hf' ht':Bool):AV :=
  if (0 ≤ n ∧ n ≤ 60) ∧ vS f t w hf ht=true ∧ vS f' t' w' hf' ht'=true then mgSome n f t w hf ht f' t' w' hf' ht' else slc 0 0 0 false false
end VwM
set_option linter.unusedVariables false
set_option linter.unusedSimpArgs false
set_option linter.unnecessarySimpa false
set_option maxRecDepth 4000
namespace VwM
open Vw
open Go

def placeI (xs:List Int) (x:Int):Int:=if x ∈ xs then (xs.idxOf x:Int) else -1
theorem mem_getD {xs:List Int} {x:Int}:x ∈ xs ↔ ∃ j,j < xs.length ∧ xs.getD j 0=x:=by
  constructor
  · intro h
    obtain ⟨i,hi,e⟩:=List.getElem_of_mem h
    exact ⟨i,hi,by simp [List.getD,hi,e]⟩
  · rintro ⟨j,hj,rfl⟩
    simp [List.getD,hj]
theorem getD_mem {xs:List Int} {j:Nat} (h:j < xs.length):xs.getD j 0 ∈ xs:=mem_getD.2 ⟨j,h,rfl⟩
theorem placeI_none {xs:List Int} {x:Int} (h:∀ j,j < xs.length → xs.getD j 0 ≠ x):placeI xs x=-1:=by
  unfold placeI
  rw [if_neg]
  intro hm
  obtain ⟨j,hj,e⟩:=mem_getD.1 hm
  exact h j hj e
theorem placeI_some {xs:List Int} {x:Int} {j:Nat} (hj:j < xs.length) (h:xs.getD j 0=x) (hno:∀ i,i < j → xs.getD i 0 ≠ x):placeI xs x=j:=by
  unfold placeI
  rw [if_pos (mem_getD.2 ⟨j,hj,h⟩)]
  congr 1
  induction xs generalizing j with
  | nil=>simp at hj
  | cons y r ih =>
    rw [List.idxOf_cons]
    cases j with
    | zero=>simp at h;simp [h]
    | succ j =>
      have h0:=hno 0 (by omega)
      have hy:¬ y=x:=by simpa using h0
      simp only [beq_iff_eq,hy,cond_false,Bool.cond_eq_ite,if_false]
      have:=ih (j:=j) (by simpa using hj) (by simpa using h) (fun i hi=>by simpa using hno (i + 1) (by omega))
      omega
theorem placeI_neg {xs:List Int} {x:Int}:placeI xs x < 0 ↔ x ∉ xs:=by
  unfold placeI
  by_cases h:x ∈ xs
  · simp [h]
  · simp [h]
def nrmA (xs:List Int):AV :=
  if xs.length=0 then rng 0 0 1 else if xs.length=1 then rng (xs.getD 0 0) (xs.getD 0 0 + 1) 1 else
    rng (xs.getD 0 0) (if xs.getD 1 0 - xs.getD 0 0 < 0 then xs.getD (xs.length - 1) 0 - 1 else xs.getD (xs.length - 1) 0 + 1) (xs.getD 1 0 - xs.getD 0 0)
def ascL (xs:List Int):List Int:=if 1 < xs.length ∧ xs.getD 0 0 > xs.getD 1 0 then xs.reverse else xs
def aS (a c:Int) (n:Nat):Int:=if c < 0 then a + ((n:Int) - 1) * c else a
def aC (c:Int):Int:=if c < 0 then 0 - c else c
theorem mem_nums {a c x:Int} {n:Nat}:x ∈ nums a c n ↔ ∃ i:Nat,i < n ∧ a + (i:Int) * c=x:=by
  simp [nums]
theorem mem_nums_iff {a c x:Int} {n:Nat} (hc:1 ≤ c):x ∈ nums a c n ↔ a ≤ x ∧ x < a + ((n:Int) - 1) * c + 1 ∧ c ∣ x - a:=by
  rw [mem_nums]
  constructor
  · rintro ⟨i,hi,rfl⟩
    have h1:0 ≤ (i:Int) * c:=Int.mul_nonneg (by omega) (by omega)
    have h2:(i:Int) * c ≤ ((n:Int) - 1) * c:=Int.mul_le_mul_of_nonneg_right (by omega) (by omega)
    exact ⟨by omega,by omega,⟨i,by rw [Int.mul_comm c];omega⟩⟩
  · rintro ⟨h1,h2,k,hk⟩
    have h3:0 ≤ k:=by
      rcases Int.lt_or_le k 0 with h|h
      · have:c * k < 0:=Int.mul_neg_of_pos_of_neg (by omega) h
        omega
      · exact h
    have h4:k < n:=by
      rcases Int.lt_or_le k n with h|h
      · exact h
      · have:(n:Int) * c ≤ k * c:=Int.mul_le_mul_of_nonneg_right h (by omega)
        rw [Int.mul_comm c] at hk
        rw [Int.sub_mul] at h2
        omega
    refine ⟨k.toNat,by omega,?_⟩
    rw [show ((k.toNat:Nat):Int)=k by omega,Int.mul_comm]
    omega
theorem sorted_ext:∀ {l1 l2:List Int},l1.Pairwise (· < ·) → l2.Pairwise (· < ·) → (∀ x,x ∈ l1 ↔ x ∈ l2) → l1=l2
  | [],[],_,_,_=>rfl
  | [],y :: r,_,_,h=>by have:=(h y).2 (by simp);simp at this
  | x :: l,[],_,_,h=>by have:=(h x).1 (by simp);simp at this
  | x :: l,y :: r,h1,h2,h=>by
    rw [List.pairwise_cons] at h1 h2
    have hxy:x=y:=by
      have a:=(h x).1 (by simp)
      have b:=(h y).2 (by simp)
      rcases List.mem_cons.1 a with a|a
      · exact a
      · rcases List.mem_cons.1 b with b|b
        · exact b.symm
        · have:=h2.1 x a;have:=h1.1 y b;omega
    subst hxy
    congr 1
    refine sorted_ext h1.2 h2.2 fun z=>?_
    constructor
    · intro hz
      have:=(h z).1 (by simp [hz])
      rcases List.mem_cons.1 this with e|e
      · have:=h1.1 z hz;omega
      · exact e
    · intro hz
      have:=(h z).2 (by simp [hz])
      rcases List.mem_cons.1 this with e|e
      · have:=h2.1 z hz;omega
      · exact e
theorem nums_sorted {a c:Int} (hc:1 ≤ c) (n:Nat):(nums a c n).Pairwise (· < ·):=by
  unfold nums
  rw [List.pairwise_map]
  refine List.Pairwise.imp ?_ List.pairwise_lt_range
  intro i j hij
  have:(i:Int) * c < (j:Int) * c:=Int.mul_lt_mul_of_pos_right (by omega) (by omega)
  omega
def commL (xs ys:List Int):List Int:=xs.filter fun x=>decide (x ∈ ys)
theorem PR_valid {s c:Int} {n:Nat} (h0:c ≠ 0) (hc:-200 ≤ c ∧ c ≤ 200) (hb:∀ i:Nat,i < n → -100 ≤ s + (i:Int) * c ∧ s + (i:Int) * c ≤ 100) :
    vR (pS s n) (pE s c n) (pC c n)=true:=by
  match n with
  | 0=>simp [pS,pE,pC,vR]
  | 1 =>
    have:=hb 0 (by omega)
    simp at this
    simp [pS,pE,pC,vR];omega
  | n + 2 =>
    have b0:=hb 0 (by omega)
    have bl:=hb (n + 1) (by omega)
    simp only [Int.natCast_zero,Int.zero_mul,Int.add_zero] at b0
    have p1:¬ ((n + 2:Nat):Int) < 1:=by omega
    have p2:¬ ((n + 2:Nat):Int) ≤ 1:=by omega
    have p3:¬ ((n + 2:Nat):Int)=1:=by omega
    simp only [pS,pE,pC,if_neg p1,if_neg p2,if_neg p3]
    rw [show ((n + 2:Nat):Int) - 1=((n + 1:Nat):Int) by omega]
    refine vR_spec.2 ⟨by omega,?_,hc,h0⟩
    split<;>omega
theorem cntN_PR {s c:Int} {n:Nat} (h0:c ≠ 0) (hc:-200 ≤ c ∧ c ≤ 200) (hb:∀ i:Nat,i < n → -100 ≤ s + (i:Int) * c ∧ s + (i:Int) * c ≤ 100) :
    cntN (pS s n) (pE s c n) (pC c n)=n:=by
  have hv:=PR_valid h0 hc hb
  have key:∀ i:Nat,i < cntN (pS s n) (pE s c n) (pC c n) ↔ i < n:=by
    intro i
    rw [cntN_lt hv]
    match n with
    | 0=>simp [pS,pE,pC];try omega
    | 1=>simp [pS,pE,pC];try omega
    | n + 2 =>
      have p1:¬ ((n + 2:Nat):Int) < 1:=by omega
      have p2:¬ ((n + 2:Nat):Int) ≤ 1:=by omega
      have p3:¬ ((n + 2:Nat):Int)=1:=by omega
      simp only [pS,pE,pC,if_neg p1,if_neg p2,if_neg p3]
      rw [show ((n + 2:Nat):Int) - 1=((n + 1:Nat):Int) by omega]
      by_cases hn:c < 0
      · rw [if_pos hn]
        constructor
        · rintro (h|h)
          · omega
          · rcases Nat.lt_or_ge i (n + 2) with g|g
            · exact g
            · have:=Int.mul_le_mul_of_nonneg_right (a:=((n + 2:Nat):Int)) (b:=(i:Int)) (c:=0 - c) (by omega) (by omega)
              rw [Int.mul_sub,Int.mul_sub,Int.mul_zero,Int.mul_zero,show ((n + 2:Nat):Int)=((n + 1:Nat):Int) + 1 by omega,Int.add_mul] at this
              omega
        · intro g
          right
          have:=Int.mul_le_mul_of_nonneg_right (a:=(i:Int)) (b:=((n + 1:Nat):Int)) (c:=0 - c) (by omega) (by omega)
          rw [Int.mul_sub,Int.mul_sub,Int.mul_zero,Int.mul_zero] at this
          omega
      · rw [if_neg hn]
        constructor
        · rintro (h|h)
          · rcases Nat.lt_or_ge i (n + 2) with g|g
            · exact g
            · have:=Int.mul_le_mul_of_nonneg_right (a:=((n + 2:Nat):Int)) (b:=(i:Int)) (c:=c) (by omega) (by omega)
              rw [show ((n + 2:Nat):Int)=((n + 1:Nat):Int) + 1 by omega,Int.add_mul] at this
              omega
          · omega
        · intro g
          left
          have:=Int.mul_le_mul_of_nonneg_right (a:=(i:Int)) (b:=((n + 1:Nat):Int)) (c:=c) (by omega) (by omega)
          omega
  rcases Nat.lt_trichotomy (cntN (pS s n) (pE s c n) (pC c n)) n with h|h|h
  · have:=(key _).2 h;omega
  · exact h
  · have:=(key _).1 h;omega
def revT (xs:List Int) (k:Nat):List Int:=xs.reverse.take k
theorem revT_zero (xs:List Int):revT xs 0=[]:=rfl
theorem revT_length (xs:List Int) (k:Nat) (h:k ≤ xs.length):(revT xs k).length=k:=by simp [revT];omega
theorem revT_succ (xs:List Int) (k:Nat) (h:k < xs.length):revT xs (k + 1)=revT xs k ++ [xs.getD (xs.length - 1 - k) 0]:=by
  unfold revT
  rw [take_succ_getD _ _ (by simpa using h)]
  congr 2
  rw [List.getD,List.getD,List.getElem?_reverse h]
theorem revT_all (xs:List Int):revT xs xs.length=xs.reverse:=by simp [revT,List.take_of_length_le]
def meA (a b c a' b' c':Int):AV:=if vR a b c=true ∧ vR a' b' c'=true then nrmA (commL (nums (aS a c (cntN a b c)) (aC c) (cntN a b c)) (nums (aS a' c' (cntN a' b' c')) (aC c') (cntN a' b' c'))) else rng 0 0 0
def cvB (a b c a' b' c':Int):Bool:=vR a b c && vR a' b' c' && decide (∀ x ∈ nums a' c' (cntN a' b' c'),x ∈ nums a c (cntN a b c))
theorem plainI [Inhabited GlobT] {P:Program} {f:Nat} {args:List AV} {xs:List Int} (h:BCall P f args [] (OI xs)):PCall P f args (fun r=>r=.rows true (IL xs) xs.length):=by
  refine (BCall.plain h).mono ?_
  rintro r ⟨r0,H',⟨rfl,rfl⟩,rfl⟩
  simp [AV.ren,nthH,List.map_map,Function.comp_def]
theorem plainV [Inhabited GlobT] {P:Program} {f:Nat} {args:List AV} {b:Int} {sh st:List Int} (h:BCall P f args [] (OV b sh st)):PCall P f args (fun r=>r=.agg [.int .i64 b,.rows true (IL sh) sh.length,.rows true (IL st) st.length]):=by
  refine (BCall.plain h).mono ?_
  rintro r ⟨r0,H',⟨rfl,rfl⟩,rfl⟩
  simp [AV.ren,nthH,List.map_map,Function.comp_def]
end VwM
set_option linter.unusedVariables false
set_option linter.unusedSimpArgs false
set_option linter.unnecessarySimpa false
set_option maxRecDepth 4000
namespace VwM
open Vw
open Go

def horF (sh:List Int) (f:Nat → Int):Nat → Int
  | 0=>0
  | k + 1=>horF sh f k * sh.getD k 0 + f k
def isIx (sh:List Int) (f:Nat → Int):Prop:=∀ i,i < sh.length → 0 ≤ f i ∧ f i < sh.getD i 0
theorem horF_bound {sh:List Int} {f:Nat → Int} (hf:isIx sh f):∀ k,k ≤ sh.length → 0 ≤ horF sh f k ∧ horF sh f k + 1 ≤ pr (sh.take k)
  | 0,_=>by simp [horF,pr_nil]
  | k + 1,h=>by
    have ih:=horF_bound hf k (by omega)
    have h3:=hf k (by omega)
    rw [pr_take_succ sh k (by omega)]
    have h5:(horF sh f k + 1) * sh.getD k 0 ≤ pr (sh.take k) * sh.getD k 0:=Int.mul_le_mul_of_nonneg_right ih.2 (by omega)
    have h6:0 ≤ horF sh f k * sh.getD k 0:=Int.mul_nonneg ih.1 (by omega)
    rw [Int.add_mul,Int.one_mul] at h5
    simp only [horF]
    omega
theorem kS_horF {sh:List Int} {f:Nat → Int} (hf:isIx sh f):∀ j,j ≤ sh.length → kS sh (horF sh f sh.length) j=horF sh f (sh.length - j)
  | 0,_=>by simp [kS]
  | j + 1,h=>by
    have ih:=kS_horF hf j (by omega)
    have h1:=hf (sh.length - 1 - j) (by omega)
    have h2:=horF_bound hf (sh.length - 1 - j) (by omega)
    simp only [kS]
    rw [ih,show sh.length - j=sh.length - 1 - j + 1 by omega,show sh.length - (j + 1)=sh.length - 1 - j by omega]
    simp only [horF]
    have h3:0 ≤ horF sh f (sh.length - 1 - j) * sh.getD (sh.length - 1 - j) 0:=Int.mul_nonneg h2.1 (by omega)
    rw [Int.tdiv_eq_ediv_of_nonneg (by omega),Int.add_comm,Int.add_mul_ediv_right _ _ (by omega),Int.ediv_eq_zero_of_lt h1.1 h1.2]
    omega
theorem dig_horF {sh:List Int} {f:Nat → Int} (hf:isIx sh f) {i:Nat} (hi:i < sh.length):dig sh (horF sh f sh.length) i=f i:=by
  unfold dig
  have h1:=hf i hi
  have h2:=horF_bound hf i (by omega)
  rw [kS_horF hf _ (by omega),show sh.length - (sh.length - 1 - i)=i + 1 by omega]
  simp only [horF]
  have h3:0 ≤ horF sh f i * sh.getD i 0:=Int.mul_nonneg h2.1 (by omega)
  rw [Int.tmod_eq_emod_of_nonneg (by omega),Int.add_comm,Int.add_mul_emod_self_right,Int.emod_eq_of_lt h1.1 h1.2]
theorem dig_isIx {sh:List Int} (hg:good4 sh) {k:Int} (hk:0 ≤ k) (h:k < pr sh):isIx sh (dig sh k):=fun i hi =>
  dig_bound hk (pos_of_pr hg (by omega)) (fun i hi=>(good4_at hg hi).2) hi

def cellK (b:Int) (sh st:List Int) (k:Int):Int:=b + dot (dig sh k) st sh.length
def offs (b:Int) (sh st:List Int):List Int:=(List.range (pr sh).toNat).map fun k:Nat=>cellK b sh st k
theorem offs_length (b:Int) (sh st:List Int):(offs b sh st).length=(pr sh).toNat:=by simp [offs]
theorem mem_offs {b:Int} {sh st:List Int} {x:Int}:x ∈ offs b sh st ↔ ∃ k:Nat,k < (pr sh).toNat ∧ cellK b sh st k=x:=by simp [offs]
theorem mem_offs_ix {b:Int} {sh st:List Int} (hg:good4 sh) {x:Int}:x ∈ offs b sh st ↔ ∃ f,isIx sh f ∧ b + dot f st sh.length=x:=by
  rw [mem_offs]
  constructor
  · rintro ⟨k,hk,rfl⟩
    exact ⟨dig sh k,dig_isIx hg (by omega) (by omega),rfl⟩
  · rintro ⟨f,hf,rfl⟩
    have h:=horF_bound hf sh.length (Nat.le_refl _)
    rw [List.take_length] at h
    refine ⟨(horF sh f sh.length).toNat,by omega,?_⟩
    unfold cellK
    rw [show (((horF sh f sh.length).toNat:Nat):Int)=horF sh f sh.length by omega,dot_congr fun i hi=>dig_horF hf hi]
def vSt (st:List Int) (n:Nat):Bool:=decide (st.length=n) && allI st (-60) 60
theorem vSt_spec {st:List Int} {n:Nat}:vSt st n=true ↔ st.length=n ∧ ∀ x ∈ st,-60 ≤ x ∧ x ≤ 60:=by
  simp only [vSt,Bool.and_eq_true,decide_eq_true_eq,allI_iff]
theorem vSt_at {st:List Int} {n i:Nat} (h:vSt st n=true) (hi:i < n):-60 ≤ st.getD i 0 ∧ st.getD i 0 ≤ 60:=by
  obtain ⟨h1,h2⟩:=vSt_spec.1 h
  exact h2 _ (getD_mem (by omega))
def vV (b:Int) (sh st:List Int):Bool:=vSh sh && vSt st sh.length && (decide (0 ≤ b) && decide (b ≤ 60)) && (decide (pr sh=0) || allI (offs b sh st) 0 59)
theorem vV_spec {b:Int} {sh st:List Int}:vV b sh st=true ↔ vSh sh=true ∧ vSt st sh.length=true ∧ (0 ≤ b ∧ b ≤ 60) ∧ (pr sh=0 ∨ ∀ x ∈ offs b sh st,0 ≤ x ∧ x ≤ 59):=by
  simp only [vV,Bool.and_eq_true,Bool.or_eq_true,decide_eq_true_eq,allI_iff,and_assoc]
theorem vV_cells {b:Int} {sh st:List Int} (h:vV b sh st=true):∀ x ∈ offs b sh st,0 ≤ x ∧ x ≤ 59:=by
  obtain ⟨h1,h2,h3,h4⟩:=vV_spec.1 h
  rcases h4 with h4|h4
  · intro x hx
    obtain ⟨k,hk,_⟩:=mem_offs.1 hx
    omega
  · exact h4
def lowS (sh st:List Int):Nat → Int
  | 0=>0
  | k + 1=>lowS sh st k + min ((sh.getD k 0 - 1) * st.getD k 0) 0
def highS (sh st:List Int):Nat → Int
  | 0=>0
  | k + 1=>highS sh st k + max ((sh.getD k 0 - 1) * st.getD k 0) 0
theorem dot_lowhigh {sh st:List Int} {f:Nat → Int} (hf:isIx sh f):∀ k,k ≤ sh.length → lowS sh st k ≤ dot f st k ∧ dot f st k ≤ highS sh st k
  | 0,_=>by simp [lowS,highS,dot]
  | k + 1,h=>by
    have ih:=dot_lowhigh (st:=st) hf k (by omega)
    have h1:=hf k (by omega)
    simp only [lowS,highS,dot]
    have:min ((sh.getD k 0 - 1) * st.getD k 0) 0 ≤ f k * st.getD k 0 ∧ f k * st.getD k 0 ≤ max ((sh.getD k 0 - 1) * st.getD k 0) 0:=by
      rcases Int.lt_or_le (st.getD k 0) 0 with hs|hs
      · have a1:=Int.mul_nonneg h1.1 (b:=0 - st.getD k 0) (by omega)
        have a2:=Int.mul_nonneg (a:=sh.getD k 0 - 1 - f k) (b:=0 - st.getD k 0) (by omega) (by omega)
        rw [Int.mul_sub,Int.mul_zero] at a1 a2
        rw [Int.sub_mul] at a2
        omega
      · have a1:=Int.mul_nonneg h1.1 hs
        have a2:=Int.mul_nonneg (a:=sh.getD k 0 - 1 - f k) (by omega) hs
        rw [Int.sub_mul] at a2
        omega
    omega
theorem dot_low {sh st:List Int}:∀ k,k ≤ sh.length → (∀ i,i < sh.length → 1 ≤ sh.getD i 0) → dot (fun i=>if st.getD i 0 < 0 then sh.getD i 0 - 1 else 0) st k=lowS sh st k
  | 0,_,_=>rfl
  | k + 1,h,hp=>by
    simp only [lowS,dot]
    rw [dot_low k (by omega) hp]
    have:=hp k (by omega)
    split
    · rename_i hs
      have a2:=Int.mul_nonneg (a:=sh.getD k 0 - 1) (b:=0 - st.getD k 0) (by omega) (by omega)
      rw [Int.mul_sub,Int.mul_zero] at a2
      omega
    · have a2:=Int.mul_nonneg (a:=sh.getD k 0 - 1) (b:=st.getD k 0) (by omega) (by omega)
      omega
theorem dot_high {sh st:List Int}:∀ k,k ≤ sh.length → (∀ i,i < sh.length → 1 ≤ sh.getD i 0) → dot (fun i=>if st.getD i 0 < 0 then 0 else sh.getD i 0 - 1) st k=highS sh st k
  | 0,_,_=>rfl
  | k + 1,h,hp=>by
    simp only [highS,dot]
    rw [dot_high k (by omega) hp]
    have:=hp k (by omega)
    split
    · rename_i hs
      have a2:=Int.mul_nonneg (a:=sh.getD k 0 - 1) (b:=0 - st.getD k 0) (by omega) (by omega)
      rw [Int.mul_sub,Int.mul_zero] at a2
      omega
    · have a2:=Int.mul_nonneg (a:=sh.getD k 0 - 1) (b:=st.getD k 0) (by omega) (by omega)
      omega
theorem low_offs {b:Int} {sh st:List Int} (hg:good4 sh) (h1:1 ≤ pr sh):b + lowS sh st sh.length ∈ offs b sh st ∧ ∀ x ∈ offs b sh st,b + lowS sh st sh.length ≤ x:=by
  have hp:=pos_of_pr hg h1
  constructor
  · refine (mem_offs_ix hg).2 ⟨fun i=>if st.getD i 0 < 0 then sh.getD i 0 - 1 else 0,fun i hi=>?_,by rw [dot_low _ (Nat.le_refl _) hp]⟩
    have:=hp i hi
    simp only
    split<;>omega
  · intro x hx
    obtain ⟨f,hf,rfl⟩:=(mem_offs_ix hg).1 hx
    have:=dot_lowhigh (st:=st) hf sh.length (Nat.le_refl _)
    omega
theorem high_offs {b:Int} {sh st:List Int} (hg:good4 sh) (h1:1 ≤ pr sh):b + highS sh st sh.length ∈ offs b sh st ∧ ∀ x ∈ offs b sh st,x ≤ b + highS sh st sh.length:=by
  have hp:=pos_of_pr hg h1
  constructor
  · refine (mem_offs_ix hg).2 ⟨fun i=>if st.getD i 0 < 0 then 0 else sh.getD i 0 - 1,fun i hi=>?_,by rw [dot_high _ (Nat.le_refl _) hp]⟩
    have:=hp i hi
    simp only
    split<;>omega
  · intro x hx
    obtain ⟨f,hf,rfl⟩:=(mem_offs_ix hg).1 hx
    have:=dot_lowhigh (st:=st) hf sh.length (Nat.le_refl _)
    omega
def bdL (b:Int) (sh st:List Int):Int:=if pr sh=0 then -1 else b + lowS sh st sh.length
def bdH (b:Int) (sh st:List Int):Int:=if pr sh=0 then -1 else b + highS sh st sh.length
theorem bd_all {b:Int} {sh st:List Int} (hg:good4 sh) (h1:1 ≤ pr sh) {l h:Int}:allI (offs b sh st) l h=(decide (l ≤ b + lowS sh st sh.length) && decide (b + highS sh st sh.length ≤ h)):=by
  rw [Bool.eq_iff_iff,allI_iff,Bool.and_eq_true,decide_eq_true_eq,decide_eq_true_eq]
  obtain ⟨a1,a2⟩:=low_offs (b:=b) (st:=st) hg h1
  obtain ⟨a3,a4⟩:=high_offs (b:=b) (st:=st) hg h1
  constructor
  · intro h
    exact ⟨(h _ a1).1,(h _ a3).2⟩
  · rintro ⟨h5,h6⟩ x hx
    have:=a2 x hx
    have:=a4 x hx
    omega
def mnL (xs:List Int):Nat → Int
  | 0=>xs.getD 0 0
  | k + 1=>min (mnL xs k) (xs.getD k 0)
def mxL (xs:List Int):Nat → Int
  | 0=>xs.getD 0 0
  | k + 1=>max (mxL xs k) (xs.getD k 0)
theorem lowhigh_bound {sh st:List Int} (hg:good4 sh) (hs:vSt st sh.length=true):∀ k,k ≤ sh.length → -(3600 * (k:Int)) ≤ lowS sh st k ∧ lowS sh st k ≤ 0 ∧ 0 ≤ highS sh st k ∧ highS sh st k ≤ 3600 * (k:Int)
  | 0,_=>by simp [lowS,highS]
  | k + 1,h=>by
    have ih:=lowhigh_bound hg hs k (by omega)
    have h1:=good4_at hg (k:=k) (by omega)
    have h2:=vSt_at hs (i:=k) (by omega)
    have h3:=mul_bd (x:=sh.getD k 0 - 1) (y:=st.getD k 0) (p:=60) (q:=60) (by omega) (by omega)
    simp only [lowS,highS]
    omega
end VwM
set_option linter.unusedVariables false
set_option linter.unusedSimpArgs false
set_option linter.unnecessarySimpa false
set_option maxRecDepth 4000
namespace VwM
open Vw
open Go

theorem mkAV_bools (bs:List Bool) (off:Nat):mkAV false (((bs.map AV.bool).drop off).take 1)=if off < bs.length then some (.bool (bs.getD off false)) else none:=by
  by_cases h:off < bs.length
  · rw [if_pos h,List.drop_eq_getElem_cons (by simpa using h)]
    simp [mkAV,h,List.getD]
  · rw [if_neg h,List.drop_eq_nil_of_le (by simp;omega)]
    rfl
attribute [push_cast] mkAV_bools
def met (xs:List Int) (k:Nat):List Bool:=(List.range 60).map fun c:Nat=>decide ((c:Int) ∈ xs.take k)
theorem nodup_iff {xs:List Int}:xs.Nodup ↔ ∀ j,j < xs.length → xs.getD j 0 ∉ xs.take j:=by
  have key:∀ k,k ≤ xs.length → ((xs.take k).Nodup ↔ ∀ j,j < k → xs.getD j 0 ∉ xs.take j):=by
    intro k
    induction k with
    | zero=>intro _;simp
    | succ k ih =>
      intro hk
      rw [take_succ_getD _ _ (by omega),List.nodup_append]
      rw [ih (by omega)]
      constructor
      · rintro ⟨h1,_,h3⟩ j hj
        by_cases e:j=k
        · subst e
          intro hm
          exact h3 _ hm _ (by simp) rfl
        · exact h1 j (by omega)
      · intro h
        refine ⟨fun j hj=>h j (by omega),by simp,?_⟩
        intro a ha b hb e
        simp only [List.mem_singleton] at hb
        subst hb e
        exact h k (by omega) ha
  have:=key xs.length (Nat.le_refl _)
  rwa [List.take_length] at this
theorem not_nodup {xs:List Int} {j:Nat} (h:j < xs.length) (hm:xs.getD j 0 ∈ xs.take j):¬ xs.Nodup:=fun hn=>nodup_iff.1 hn j h hm
def oneB (b:Int) (sh st:List Int):Bool:=vV b sh st && decide (offs b sh st).Nodup
end VwM
set_option linter.unusedVariables false
set_option linter.unusedSimpArgs false
set_option linter.unnecessarySimpa false
set_option maxRecDepth 4000
namespace VwM
open Vw
open Go

theorem wrap_id {n:Int} (h0:0 ≤ n) (h1:n < 1099511627776):IntKind.wrap .i64 n=n:=IntWalk.i64_in n (by omega)
theorem xor_bound {a b:Int} (ha:0 ≤ a ∧ a < 1099511627776) (hb:0 ≤ b ∧ b < 1099511627776):0 ≤ bits .xor .i64 a b ∧ bits .xor .i64 a b < 1099511627776:=by
  have h:(BitVec.ofInt 64 a ^^^ BitVec.ofInt 64 b).toNat < 1099511627776:=by
    rw [BitVec.toNat_xor,BitVec.toNat_ofInt,BitVec.toNat_ofInt]
    have e1:(a % ((2 ^ 64:Nat):Int)).toNat < 2 ^ 40:=by
      rw [Int.emod_eq_of_lt ha.1 (by omega)];omega
    have e2:(b % ((2 ^ 64:Nat):Int)).toNat < 2 ^ 40:=by
      rw [Int.emod_eq_of_lt hb.1 (by omega)];omega
    exact Nat.xor_lt_two_pow e1 e2
  have e:bits .xor .i64 a b=IntKind.wrap .i64 ((BitVec.ofInt 64 a ^^^ BitVec.ofInt 64 b).toNat:Int):=rfl
  rw [e,wrap_id (by omega) (by omega)]
  omega
abbrev UL (bs:List Int):List AV:=bs.map (AV.int .u8)
abbrev RD (bs:List Int) (p:Int):List AV:=[.rows false (UL bs) bs.length,.int .i64 p]
def okB (bs:List Int):Prop:=bs.length ≤ 2000 ∧ ∀ x ∈ bs,0 ≤ x ∧ x ≤ 255
theorem okB_at {bs:List Int} (h:okB bs) {i:Nat} (hi:i < bs.length):0 ≤ bs.getD i 0 ∧ bs.getD i 0 ≤ 255:=h.2 _ (getD_mem hi)
theorem tmod_bound {x n:Int} (hx:0 ≤ x) (hn:0 < n):0 ≤ x.tmod n ∧ x.tmod n < n:=⟨Int.tmod_nonneg n hx,Int.tmod_lt_of_pos x hn⟩
def unI:List AV → List Int
  | []=>[]
  | .int _ n :: r=>n :: unI r
  | _ :: r=>0 :: unI r
theorem unI_nil:unI []=[]:=rfl
theorem unI_cons (k:IntKind) (n:Int) (r:List AV):unI (.int k n :: r)=n :: unI r:=rfl
theorem unI_IL (xs:List Int):unI (IL xs)=xs:=by
  induction xs with
  | nil=>rfl
  | cons x r ih=>show x :: unI (IL r)=_;rw [ih]
attribute [simp] unI_nil unI_cons unI_IL
end VwM
set_option linter.unusedVariables false
set_option linter.unusedSimpArgs false
set_option linter.unnecessarySimpa false
set_option maxRecDepth 4000
namespace VwM
open Vw
open Go

def lenI (a b c:Int):Int:=if vR a b c=true then cntN a b c else -1
def nrR (a b c:Int):AV:=if vR a b c=true then PR a c (cntN a b c) else rng 0 0 0
def rvR (a b c:Int):AV:=if vR a b c=true then PR (a + ((cntN a b c:Int) - 1) * c) (0 - c) (cntN a b c) else rng 0 0 0
def plI (a b c x:Int):Int:=if vR a b c=true then placeI (nums a c (cntN a b c)) x else -1
def fromEnd (i n:Int):Int:=if i < 0 then i + n else i
def naB (a b c i:Int):Bool:=vR a b c && decide (0 ≤ fromEnd i (cntN a b c)) && decide (fromEnd i (cntN a b c) < cntN a b c)
def naI (a b c i:Int):Int:=if naB a b c i=true then a + fromEnd i (cntN a b c) * c else 0
end VwM
set_option linter.unusedVariables false
set_option linter.unusedSimpArgs false
set_option linter.unnecessarySimpa false
set_option maxRecDepth 4000
namespace VwM
open Vw
open Go

end VwM
set_option linter.unusedVariables false
set_option linter.unusedSimpArgs false
set_option linter.unnecessarySimpa false
set_option maxRecDepth 4000
namespace VwM
open Vw
open Go

theorem unr_isIx {sh:List Int} (hg:good4 sh) {k:Int} (hk:0 ≤ k) (h:k < pr sh):vIx sh (unr sh k)=true:=by
  refine vIx_spec.2 ⟨by simp,fun i hi=>?_⟩
  have hi':i < sh.length:=by simpa using hi
  have:=dig_isIx hg hk h i hi'
  have e:(unr sh k).getD i 0=dig sh k i:=by simp [unr,List.getD,hi']
  rw [e]
  omega
theorem vIx_isIx' {sh idx:List Int} (h:vIx sh idx=true):isIx sh (fun i=>idx.getD i 0):=fun i hi=>by
  obtain ⟨h1,h2⟩:=vIx_spec.1 h
  have:=h2 i (by omega)
  simp only
  omega
end VwM
set_option linter.unusedVariables false
set_option linter.unusedSimpArgs false
set_option linter.unnecessarySimpa false
set_option maxRecDepth 4000
namespace VwM
open Vw
open Go

def sumT (xs:List Int):Nat → Int
  | 0=>0
  | k + 1=>sumT xs k + xs.getD k 0
def sumI (a b c:Int):Int:=if vR a b c=true then sumT (nums a c (cntN a b c)) (cntN a b c) else 0
def takesL (xs at_:List Int):List Int:=at_.map fun i=>xs.getD i.toNat 0
end VwM
set_option linter.unusedVariables false
set_option linter.unusedSimpArgs false
set_option maxRecDepth 4000
namespace VwM
open Vw
open Go

def wo (xs:List Int) (k:Nat):List Int:=xs.take k ++ xs.drop (k + 1)
end VwM
set_option linter.unusedVariables false
set_option linter.unusedSimpArgs false
set_option maxRecDepth 4000
namespace VwM
open Vw
open Go

def spS (b:Int) (sh st:List Int):Int:=if pr sh=0 then 0 else bdL b sh st
def spN (b:Int) (sh st:List Int):Nat:=if pr sh=0 then 0 else (bdH b sh st - bdL b sh st + 1).toNat
def mayB (b:Int) (sh st:List Int) (b':Int) (sh' st':List Int):Bool :=
  vV b sh st && vV b' sh' st' && decide (0 < (commL (nums (spS b sh st) 1 (spN b sh st)) (nums (spS b' sh' st') 1 (spN b' sh' st'))).length)
def bothL (xs ys:List Int):List Int:=(nums 0 1 60).filter fun x=>decide (x ∈ xs ∧ x ∈ ys)
def bothT (xs ys:List Int) (k:Nat):List Int:=(nums 0 1 k).filter fun x=>decide (x ∈ xs ∧ x ∈ ys)
theorem bothT_le (xs ys:List Int) (k:Nat):(bothT xs ys k).length ≤ k:=by
  have:=List.length_filter_le (fun x=>decide (x ∈ xs ∧ x ∈ ys)) (nums 0 1 k)
  rw [nums_length] at this
  exact this
theorem mem_bothL {xs ys:List Int} {x:Int}:x ∈ bothL xs ys ↔ (0 ≤ x ∧ x ≤ 59) ∧ x ∈ xs ∧ x ∈ ys:=by
  unfold bothL
  rw [List.mem_filter,mem_nums_iff (by omega)]
  simp only [decide_eq_true_eq]
  constructor
  · rintro ⟨⟨a,b,_⟩,h⟩;exact ⟨by omega,h⟩
  · rintro ⟨a,h⟩;exact ⟨⟨by omega,by omega,⟨_,(Int.one_mul _).symm⟩⟩,h⟩
theorem bothL_sorted (xs ys:List Int):(bothL xs ys).Pairwise (· < ·):=List.Pairwise.filter _ (nums_sorted (by omega) _)
theorem bothL_le (xs ys:List Int):(bothL xs ys).length ≤ 60:=bothT_le xs ys 60
def lineA (b:Int) (sh st:List Int):AV:=if vV b sh st=true ∧ sh.length=1 then nrmA (bothL (offs b sh st) (offs b sh st)) else rng 0 0 0
end VwM
set_option linter.unusedVariables false
set_option linter.unusedSimpArgs false
set_option linter.unnecessarySimpa false
set_option maxRecDepth 4000
namespace VwM
open Vw
open Go

end VwM
set_option linter.unusedVariables false
set_option linter.unusedSimpArgs false
set_option maxRecDepth 4000
namespace VwM
open Vw
open Go

def MVB (v:Bool) (b:Int):Int:=if v=true then b else 0
def MVL (v:Bool) (l:List Int):List Int:=if v=true then l else []
theorem MVB_true (b:Int):MVB true b=b:=rfl
theorem MVB_false (b:Int):MVB false b=0:=rfl
theorem MVL_true (l:List Int):MVL true l=l:=rfl
theorem MVL_false (l:List Int):MVL false l=[]:=rfl
theorem MVL_le (v:Bool) (l:List Int):(MVL v l).length ≤ l.length:=by cases v<;>simp [MVL]
abbrev MV (v:Bool) (b:Int) (sh st:List Int):AV → List (List AV) → Prop:=fun r H' =>
  r=.tup [.agg [.int .i64 (MVB v b),.own 0 (MVL v sh).length 1,.own 1 (MVL v st).length 1],.bool v] ∧ H'=[IL (MVL v sh),IL (MVL v st)]

def ins (xs:List Int) (k:Nat) (x:Int):List Int:=xs.take k ++ x :: xs.drop k
theorem ins_length {xs:List Int} {k:Nat} (x:Int) (h:k ≤ xs.length):(ins xs k x).length=xs.length + 1:=by simp [ins];omega

def cutK (n f t w:Int) (hf ht:Bool):Nat:=cntN (sFrom f n w hf) (sTo t n w ht) w
def cutSh (sh:List Int) (j:Nat) (f t w:Int) (hf ht:Bool):List Int:=sh.set j (cutK (sh.getD j 0) f t w hf ht)
def cutX (sh st:List Int) (j:Nat) (f t w:Int) (hf ht:Bool):Int:=if (cutK (sh.getD j 0) f t w hf ht:Int) ≤ 1 then 0 else pC w (cutK (sh.getD j 0) f t w hf ht) * st.getD j 0
def cutSt (sh st:List Int) (j:Nat) (f t w:Int) (hf ht:Bool):List Int :=
  if pr (cutSh sh j f t w hf ht)=0 then List.replicate sh.length 0 else st.set j (cutX sh st j f t w hf ht)
def cutB (b:Int) (sh st:List Int) (j:Nat) (f t w:Int) (hf ht:Bool):Int :=
  if pr (cutSh sh j f t w hf ht)=0 then 0 else b + pS (sFrom f (sh.getD j 0) w hf) (cutK (sh.getD j 0) f t w hf ht) * st.getD j 0
theorem cutSh_length (sh:List Int) (j:Nat) (f t w:Int) (hf ht:Bool):(cutSh sh j f t w hf ht).length=sh.length:=by simp [cutSh]
theorem cutSt_length {sh st:List Int} (hl:st.length=sh.length) (j:Nat) (f t w:Int) (hf ht:Bool):(cutSt sh st j f t w hf ht).length=sh.length:=by
  unfold cutSt;split<;>simp [hl]
theorem cutK_le {n f t w:Int} {hf ht:Bool} (hn:0 ≤ n ∧ n ≤ 60) (hs:vS f t w hf ht=true):(cutK n f t w hf ht:Int) ≤ n:=by
  have hw:=(vS_spec.1 hs).2.2.2.1
  match hk:cutK n f t w hf ht with
  | 0=>omega
  | k + 1 =>
    have a:=idx_in hn hs (i:=k) (show k < cutK n f t w hf ht by omega)
    have b:=idx_in hn hs (i:=0) (show 0 < cutK n f t w hf ht by omega)
    simp only [Int.natCast_zero,Int.zero_mul,Int.add_zero] at b
    rcases Int.lt_or_le w 0 with h|h
    · have:(k:Int) * w ≤ (k:Int) * (-1):=Int.mul_le_mul_of_nonneg_left (by omega) (by omega)
      omega
    · have:(k:Int) * 1 ≤ (k:Int) * w:=Int.mul_le_mul_of_nonneg_left (by omega) (by omega)
      omega
theorem good4_set {sh:List Int} (hg:good4 sh) (j:Nat) {x:Int} (hx:0 ≤ x ∧ x ≤ 60):good4 (sh.set j x) :=
  ⟨fun y hy=>by
    rcases List.mem_or_eq_of_mem_set hy with h|h
    · exact hg.1 y h
    · omega,by simp;exact hg.2⟩
theorem good4_cut {sh:List Int} (hg:good4 sh) {j:Nat} (hj:j < sh.length) {f t w:Int} {hf ht:Bool} (hs:vS f t w hf ht=true):good4 (cutSh sh j f t w hf ht):=by
  have hn:=good4_at hg hj
  have:=cutK_le hn hs
  exact good4_set hg j (by omega)
end VwM
set_option linter.unusedVariables false
set_option linter.unusedSimpArgs false
set_option maxRecDepth 4000
namespace VwM
open Vw
open Go

theorem dot_zero {f:Nat → Int} {st:List Int}:∀ n,(∀ i,i < n → f i=0) → dot f st n=0
  | 0,_=>rfl
  | n + 1,h=>by simp only [dot];rw [dot_zero n fun i hi=>h i (by omega),h n (by omega)];simp
def isLine (b:Int) (L:List Int) (k:Nat):Bool:=(List.range k).all fun j=>decide (L.getD j 0=b + (j:Int))
end VwM
set_option linter.unusedVariables false
set_option linter.unusedSimpArgs false
set_option linter.unnecessarySimpa false
set_option maxRecDepth 4000
namespace VwM
open Vw
open Go

theorem take3 (xs:List Int) (off:Nat) (h:off + 3 ≤ xs.length):((xs.map (AV.int .i64)).drop off).take 3=[.int .i64 (xs.getD off 0),.int .i64 (xs.getD (off + 1) 0),.int .i64 (xs.getD (off + 2) 0)]:=by
  rw [List.drop_eq_getElem_cons (by simp;omega),List.drop_eq_getElem_cons (by simp;omega),List.drop_eq_getElem_cons (by simp;omega)]
  have h1:off < xs.length:=by omega
  have h2:off + 1 < xs.length:=by omega
  have h3:off + 2 < xs.length:=by omega
  have e3:off + 1 + 1=off + 2:=rfl
  simp only [e3]
  simp [h1,h2,h3,List.getD]
attribute [push_cast] take3
def fl3 (f:Nat → Int × Int × Int):Nat → List Int
  | 0=>[]
  | k + 1=>fl3 f k ++ [(f k).1,(f k).2.1,(f k).2.2]
def fz3 (f:Nat → Int × Int × Int) (n k:Nat):List Int:=fl3 f k ++ List.replicate ((n - k) * 3) 0
def dealF (a b c w:Int) (k:Nat):Int × Int × Int :=
  let m:Nat:=cntN k (cntN a b c) w
  (pS (a + (k:Int) * c) m,pE (a + (k:Int) * c) (c * w) m,pC (c * w) m)
def dealL (a b c w:Int):List Int:=if vR a b c=true ∧ 1 ≤ w ∧ w ≤ 6 then fl3 (dealF a b c w) w.toNat else []
def dealN (a b c w:Int):Nat:=if vR a b c=true ∧ 1 ≤ w ∧ w ≤ 6 then w.toNat else 0
theorem zcells3_1:zcells [AV.int .i64 0,.int .i64 0,.int .i64 0] 1=[AV.int .i64 0,.int .i64 0,.int .i64 0]:=rfl
attribute [push_cast] zcells3_1
end VwM
set_option linter.unusedVariables false
set_option linter.unusedSimpArgs false
set_option maxRecDepth 4000
namespace VwM
open Vw
open Go

theorem take2 (xs:List Int) (off:Nat) (h:off + 2 ≤ xs.length):((xs.map (AV.int .i64)).drop off).take 2=[.int .i64 (xs.getD off 0),.int .i64 (xs.getD (off + 1) 0)]:=by
  rw [List.drop_eq_getElem_cons (by simp;omega),List.drop_eq_getElem_cons (by simp;omega)]
  have h1:off < xs.length:=by omega
  have h2:off + 1 < xs.length:=by omega
  simp [h1,h2,List.getD]
theorem take2_0 (xs:List Int) (h:2 ≤ xs.length):(xs.map (AV.int .i64)).take 2=[.int .i64 (xs.getD 0 0),.int .i64 (xs.getD 1 0)]:=by
  have:=take2 xs 0 (by omega)
  rwa [List.drop_zero] at this
attribute [push_cast] take2 take2_0
theorem setRange2 (xs:List Int) (o:Nat) (a b:Int):setRange (xs.map (AV.int .i64)) o [.int .i64 a,.int .i64 b]=IL ((xs.set o a).set (o + 1) b):=by
  simp [setRange,List.map_set]
theorem snoc2 (xs:List Int) (a b:Int):xs.map (AV.int .i64) ++ [.int .i64 a,.int .i64 b]=IL (xs ++ [a,b]):=by simp
def dm:List Int → List Int → List Int
  | e :: sh,s :: st=>e :: s :: dm sh st
  | _,_=>[]
theorem dm_length:∀ {sh st:List Int},st.length=sh.length → (dm sh st).length=sh.length * 2
  | [],[],_=>rfl
  | e :: sh,s :: st,h=>by
    have:=dm_length (sh:=sh) (st:=st) (by simpa using h)
    simp only [dm,List.length_cons,this]
    omega
  | [],_ :: _,h=>by simp at h
  | _ :: _,[],h=>by simp at h
theorem dm_even:∀ {sh st:List Int} {k:Nat},k < sh.length → st.length=sh.length → (dm sh st).getD (k * 2) 0=sh.getD k 0
  | e :: sh,s :: st,0,_,_=>rfl
  | e :: sh,s :: st,k + 1,h,hl=>by
    have:=dm_even (sh:=sh) (st:=st) (k:=k) (by simpa using h) (by simpa using hl)
    rw [show (k + 1) * 2=k * 2 + 1 + 1 by omega]
    simpa [dm,List.getD] using this
  | [],_,_,h,_=>by simp at h
  | _ :: _,[],_,_,h=>by simp at h
theorem dm_odd:∀ {sh st:List Int} {k:Nat},k < sh.length → st.length=sh.length → (dm sh st).getD (k * 2 + 1) 0=st.getD k 0
  | e :: sh,s :: st,0,_,_=>rfl
  | e :: sh,s :: st,k + 1,h,hl=>by
    have:=dm_odd (sh:=sh) (st:=st) (k:=k) (by simpa using h) (by simpa using hl)
    rw [show (k + 1) * 2 + 1=k * 2 + 1 + 1 + 1 by omega]
    simpa [dm,List.getD] using this
  | [],_,_,h,_=>by simp at h
  | _ :: _,[],_,_,h=>by simp at h
theorem dm_snoc:∀ {sh st:List Int} (e s:Int),st.length=sh.length → dm sh st ++ [e,s]=dm (sh ++ [e]) (st ++ [s])
  | [],[],_,_,_=>rfl
  | a :: sh,b :: st,e,s,h=>by
    have:=dm_snoc (sh:=sh) (st:=st) e s (by simpa using h)
    simp [dm,this]
  | [],_ :: _,_,_,h=>by simp at h
  | _ :: _,[],_,_,h=>by simp at h
theorem dm_set:∀ {sh st:List Int} {k:Nat} (e s:Int),k < sh.length → st.length=sh.length → ((dm sh st).set (k * 2) e).set (k * 2 + 1) s=dm (sh.set k e) (st.set k s)
  | a :: sh,b :: st,0,_,_,_,_=>rfl
  | a :: sh,b :: st,k + 1,e,s,h,hl=>by
    have:=dm_set (sh:=sh) (st:=st) (k:=k) e s (by simpa using h) (by simpa using hl)
    rw [show (k + 1) * 2=k * 2 + 1 + 1 by omega]
    simpa [dm] using this
  | [],_,_,_,_,h,_=>by simp at h
  | _ :: _,[],_,_,_,_,h=>by simp at h
theorem dm_take {sh st:List Int} {k:Nat} (h:k < sh.length) (hl:st.length=sh.length):dm (sh.take k) (st.take k) ++ [sh.getD k 0,st.getD k 0]=dm (sh.take (k + 1)) (st.take (k + 1)):=by
  rw [dm_snoc _ _ (by simp;omega),take_succ_getD _ _ h,take_succ_getD _ _ (by omega)]
theorem zcells2 (n:Nat):zcells [AV.int .i64 0,.int .i64 0] n=IL (List.replicate (n * 2) 0):=by
  rw [IL,List.map_replicate]
  refine List.ext_getElem (by simp [zcells]) fun i h1 h2=>?_
  have:i % 2=0 ∨ i % 2=1:=by omega
  rcases this with h|h<;>simp [zcells,h]
theorem zcells2_1:zcells [AV.int .i64 0,.int .i64 0] 1=[AV.int .i64 0,.int .i64 0]:=rfl
attribute [push_cast] zcells2_1
def dmS (e s:Int):Int:=if e < 2 then 0 else s
end VwM
set_option linter.unusedVariables false
set_option linter.unusedSimpArgs false
set_option maxRecDepth 4000
namespace VwM
open Vw
open Go

def hasAll (xs:List Int) (k:Nat):Bool:=(List.range k).all fun d:Nat=>decide ((d:Int) ∈ xs)
end VwM
set_option linter.unusedVariables false
set_option linter.unusedSimpArgs false
set_option maxRecDepth 4000
namespace VwM
open Vw
open Go

def permL (xs order:List Int):List Int:=order.map fun i=>xs.getD i.toNat 0
theorem permL_length (xs order:List Int):(permL xs order).length=order.length:=by simp [permL]
theorem permL_succ (xs order:List Int) {k:Nat} (h:k < order.length):permL xs (order.take (k + 1))=permL xs (order.take k) ++ [xs.getD (order.getD k 0).toNat 0]:=by
  rw [take_succ_getD order k h];simp [permL]
def isOrd (order:List Int) (n:Nat):Prop:=order.length=n ∧ (∀ x ∈ order,0 ≤ x ∧ x ≤ (n:Int) - 1) ∧ order.Nodup
def sumL:List Int → Int
  | []=>0
  | x :: r=>x + sumL r
def invO (order:List Int) (d:Nat):Nat:=order.idxOf (d:Int)
def mixP (xs order:List Int) (k:Nat):List Int:=permL xs (order.take k) ++ xs.drop k
def at4 (a b c d:Int):Nat → Int
  | 0=>a
  | 1=>b
  | 2=>c
  | 3=>d
  | _=>0
theorem at4_zero:∀ i,at4 0 0 0 0 i=0
  | 0=>rfl
  | 1=>rfl
  | 2=>rfl
  | 3=>rfl
  | _ + 4=>rfl
end VwM
set_option linter.unusedVariables false
set_option linter.unusedSimpArgs false
set_option maxRecDepth 4000
namespace VwM
open Vw
open Go

def updF (f:Nat → Int) (j:Nat) (y:Int):Nat → Int:=fun i=>if i=j then y else f i
section
variable {b:Int} {sh st:List Int} {j:Nat} {f t w:Int} {hf ht:Bool}
def cutIx (sh:List Int) (j:Nat) (f w:Int) (hf:Bool) (g:Nat → Int):Nat → Int:=updF g j (sFrom f (sh.getD j 0) w hf + g j * w)
end
def stB (D:List Int) (X:Int):Int:=if pr D=0 then 0 else X
def stE (D E:List Int):List Int:=if pr D=0 then List.replicate D.length 0 else E
end VwM
set_option linter.unusedVariables false
set_option linter.unusedSimpArgs false
namespace VwM
open Vw Go

def vMem (mem:List Int):Bool:=decide (mem.length ≤ 60) && allI mem 0 255
def seeB (mem:List Int) (b:Int) (sh st:List Int):Bool:=vMem mem && vV b sh st && allI (offs b sh st) 0 ((mem.length:Int) - 1)

def wdt (sh st:List Int):Nat:=if sh.length=0 then 1 else if st.getD (sh.length - 1) 0=1 then (sh.getD (sh.length - 1) 0).toNat else 1


theorem takesL_length (xs at_:List Int):(takesL xs at_).length=at_.length:=by simp [takesL]
def putK (mem cells vals:List Int):Nat → List Int
  | 0=>mem
  | k + 1=>(putK mem cells vals k).set (cells.getD k 0).toNat (vals.getD k 0)
def putL (mem cells vals:List Int):List Int:=putK mem cells vals cells.length
def carK (mem to fr:List Int):Nat → List Int
  | 0=>mem
  | k + 1=>(carK mem to fr k).set (to.getD k 0).toNat ((carK mem to fr k).getD (fr.getD k 0).toNat 0)
def carL (mem to fr:List Int):List Int:=carK mem to fr fr.length
def addK (mem cells vals:List Int):Nat → List Int
  | 0=>mem
  | k + 1=>(addK mem cells vals k).set (cells.getD k 0).toNat (((addK mem cells vals k).getD (cells.getD k 0).toNat 0 + vals.getD k 0).tmod 256)
def addL (mem cells vals:List Int):List Int:=addK mem cells vals cells.length
def rvK (xs:List Int) (k:Nat):List Int:=(List.range xs.length).map fun i=>if i < k ∨ xs.length ≤ i + k then xs.getD (xs.length - 1 - i) 0 else xs.getD i 0

def mtL (xs ys:List Int):Bool:=(List.range xs.length).any fun i=>decide (xs.getD i 0 ∈ ys.drop (i + 1))
def chK (a b:List Int):Nat → List Int
  | 0=>[]
  | k + 1=>if a.getD k 0=b.getD k 0 then chK a b k else chK a b k ++ [(k:Int)]
def chL (a b:List Int):List Int:=chK a b a.length
end VwM
set_option linter.unusedVariables false
set_option linter.unusedSimpArgs false
namespace VwM
open Vw Go

theorem and_mask {k:Int} (h:0 ≤ k ∧ k < 4294967296):bits .and .u64 k 4294967295=k:=by
  obtain ⟨n,rfl⟩:∃ n:Nat,k=n:=⟨k.toNat,by omega⟩
  have hn:n < 4294967296:=by omega
  have e1:(BitVec.ofInt 64 (n:Int) &&& BitVec.ofInt 64 4294967295).toNat=n:=by
    rw [BitVec.toNat_and,BitVec.toNat_ofInt,BitVec.toNat_ofInt]
    have h1:((n:Int) % ((2 ^ 64:Nat):Int)).toNat=n:=by omega
    have h2:((4294967295:Int) % ((2 ^ 64:Nat):Int)).toNat=2 ^ 32 - 1:=by decide
    rw [h1,h2,Nat.and_two_pow_sub_one_eq_mod]
    exact Nat.mod_eq_of_lt hn
  show IntKind.u64.wrap _=_
  have e2:(BitVec.ofInt IntKind.u64.bits (n:Int) &&& BitVec.ofInt IntKind.u64.bits 4294967295).toNat=n:=e1
  rw [e2,IntKind.wrap_u64]
  omega
theorem shr_small {k:Int} (h:0 ≤ k ∧ k < 4294967296):k.fdiv 4294967296=0:=by
  rw [Int.fdiv_eq_ediv_of_nonneg _ (by decide)]
  omega

def rpt (c:List Int):Nat → List Int
  | 0=>[]
  | n + 1=>c ++ rpt c n
theorem rpt_length (c:List Int):∀ n,(rpt c n).length=n * c.length
  | 0=>by simp [rpt]
  | n + 1=>by simp [rpt,rpt_length c n,Nat.add_mul];omega
theorem rpt_one (x:Int):∀ n,rpt [x] n=List.replicate n x
  | 0=>rfl
  | n + 1=>by simp [rpt,rpt_one x n,List.replicate_succ]
theorem rpt_add (c:List Int):∀ n m,rpt c (n + m)=rpt c n ++ rpt c m
  | 0,m=>by simp [rpt]
  | n + 1,m=>by rw [Nat.succ_add];simp [rpt,rpt_add c n m]
theorem rpt_take (c:List Int):∀ n m,m ≤ n → (rpt c n).take (m * c.length)=rpt c m
  | n,m,h=>by
    obtain ⟨d,rfl⟩:∃ d,n=m + d:=⟨n - m,by omega⟩
    rw [rpt_add,← rpt_length c m,List.take_left']
    rfl
theorem rpt_zero2:∀ k,rpt [0,0] k=List.replicate (k * 2) 0
  | 0=>rfl
  | k + 1=>by rw [rpt,rpt_zero2 k,Nat.add_mul,Nat.one_mul,Nat.add_comm,← List.replicate_append_replicate];rfl
def rpK (c z:List Int) (k n:Nat):List Int:=rpt c n ++ rpt z (k - n)
theorem rpK_length {c z:List Int} {k n:Nat} (hz:z.length=c.length) (h:n ≤ k):(rpK c z k n).length=k * c.length:=by
  rw [rpK,List.length_append,rpt_length,rpt_length,hz,← Nat.add_mul]
  congr 1;omega
theorem setRange_app:∀ (l a b d:List AV),l.length=b.length → setRange (a ++ (b ++ d)) a.length l=a ++ (l ++ d)
  | [],a,[],d,_=>rfl
  | x :: l,a,y :: b,d,h=>by
    simp only [setRange]
    have e:(a ++ (y :: b ++ d)).set a.length x=(a ++ [x]) ++ (b ++ d):=by
      rw [List.set_append_right _ _ (Nat.le_refl _)]
      simp
    rw [e]
    have:=setRange_app l (a ++ [x]) b d (by simpa using h)
    rw [List.length_append,List.length_singleton] at this
    rw [this]
    simp
  | [],_,_ :: _,_,h=>by simp at h
  | _ :: _,_,[],_,h=>by simp at h
theorem rpK_step {c z:List Int} {k n m:Nat} (hz:z.length=c.length) (h1:m ≤ n) (h2:n + m ≤ k) :
    setRange ((rpK c z k n).map (AV.int .i64)) (n * c.length) ((rpt c m).map (AV.int .i64))=(rpK c z k (n + m)).map (AV.int .i64):=by
  have e:rpK c z k n=rpt c n ++ (rpt z m ++ rpt z (k - (n + m))):=by
    rw [rpK,← rpt_add]
    congr 2;omega
  rw [e,List.map_append,List.map_append,← rpt_length c n,← (show ((rpt c n).map (AV.int .i64)).length=(rpt c n).length from List.length_map _),setRange_app _ _ _ _ (by simp [rpt_length,hz])]
  rw [rpK,rpt_add]
  simp
theorem rpK_take {c z:List Int} {k n m:Nat} (h1:m ≤ n):(rpK c z k n).take (m * c.length)=rpt c m:=by
  rw [rpK,List.take_append_of_le_length (by rw [rpt_length];exact Nat.mul_le_mul_right _ h1),rpt_take c n m h1]
theorem rpK_all (c z:List Int) (k:Nat):rpK c z k k=rpt c k:=by simp [rpK,rpt]
end VwM
set_option linter.unusedVariables false
set_option linter.unusedSimpArgs false
namespace VwM
open Vw Go

def padO (xs:List Int) (n:Nat):List Int:=rpt [1] (n - xs.length) ++ xs
def extE (xs:List Int) (i:Nat):Int:=if xs.length ≤ i then 1 else xs.getD (xs.length - 1 - i) 0
def comX (x y:Int):Int:=if x=1 then y else x
def comP (x y:Int):Bool:=decide (x=y) || decide (x=1) || decide (y=1)
def comG (a b:List Int) (n:Nat) (d:Nat):Int:=comX (extE a (n - 1 - d)) (extE b (n - 1 - d))
def comN (a b:List Int):Nat:=max a.length b.length
def comS (a b:List Int):List Int:=(List.range (comN a b)).map (comG a b (comN a b))
def comA (a b:List Int):Bool:=(List.range (comN a b)).all fun i=>comP (extE a i) (extE b i)
def comOk (a b:List Int):Bool:=vSh a && vSh b && comA a b && vSh (comS a b)
end VwM
set_option linter.unusedVariables false
set_option linter.unusedSimpArgs false
namespace VwM
open Vw Go

def keepK (D E:List Int):Nat → List Int
  | 0=>[]
  | k + 1=>if D.getD k 0=1 then keepK D E k else keepK D E k ++ [E.getD k 0]
def keepL (D E:List Int):List Int:=keepK D E D.length
def siv (D E:List Int) (j:Nat):List Int:=dm (keepK D D j ++ D.drop (keepK D D j).length) (keepK D E j ++ E.drop (keepK D D j).length)
theorem set_app {a d:List Int} {x y:Int} {n:Nat} (h:a.length=n) (hd:n < d.length) (hy:True):(a ++ d.drop n).set n x=(a ++ [x]) ++ d.drop (n + 1):=by
  subst h
  rw [List.set_append_right _ _ (Nat.le_refl _),Nat.sub_self,drop_getD d _ hd]
  simp
def oneI (D:List Int):Int:=if (1:Int) ∈ D then (D.idxOf 1:Int) else -1
end VwM
set_option linter.unusedVariables false
set_option linter.unusedSimpArgs false
set_option maxRecDepth 4000
namespace VwM
open Vw
open Go

def insF (f:Nat → Int) (j:Nat) (q:Int):Nat → Int:=fun i=>if i < j then f i else if i=j then q else f (i - 1)
def pkQ (n i:Int):Int:=if i < 0 then i + n else i
def pkOk (b:Int) (sh st:List Int) (d i:Int):Bool :=
  vV b sh st && (decide (0 ≤ d) && decide (d ≤ (sh.length:Int) - 1)) && (decide (-(sh.getD d.toNat 0) ≤ i) && decide (i ≤ sh.getD d.toNat 0 - 1))
def pkB (b:Int) (sh st:List Int) (j:Nat) (i:Int):Int:=stB (wo sh j) (b + pkQ (sh.getD j 0) i * st.getD j 0)
def pkSt (sh st:List Int) (j:Nat):List Int:=stE (wo sh j) (wo st j)
section
variable {b:Int} {sh st:List Int} {j:Nat} {i:Int}
end
end VwM
set_option linter.unusedVariables false
set_option linter.unusedSimpArgs false
set_option maxRecDepth 4000
namespace VwM
open Vw
open Go

def dPos (d e:Nat):Nat:=if d < e then d else d - 1
def dgOk (b:Int) (sh st:List Int) (d e:Int):Bool :=
  vV b sh st && (decide (0 ≤ d) && decide (d ≤ (sh.length:Int) - 1)) && (decide (0 ≤ e) && decide (e ≤ (sh.length:Int) - 1)) && !decide (d=e) && decide (sh.getD d.toNat 0=sh.getD e.toNat 0)
def dgX (sh st:List Int) (d e:Nat):Int:=dmS (sh.getD d 0) (st.getD d 0 + st.getD e 0)
def dgE (sh st:List Int) (d e:Nat):List Int:=wo (st.set d (dgX sh st d e)) e
def dgB (b:Int) (sh:List Int) (e:Nat):Int:=stB (wo sh e) b
def dgSt (sh st:List Int) (d e:Nat):List Int:=stE (wo sh e) (dgE sh st d e)

section
variable {b:Int} {sh st:List Int} {d e:Nat}
end
end VwM
set_option linter.unusedVariables false
set_option linter.unusedSimpArgs false
namespace VwM
open Vw Go

def mixL (A B:List Int) (k:Nat):List Int:=A.take k ++ B.drop k
theorem mixL_zero (A B:List Int):mixL A B 0=B:=by simp [mixL]
theorem mixL_all {A B:List Int} {n:Nat} (hA:A.length=n) (hB:B.length=n):mixL A B n=A:=by
  unfold mixL
  rw [List.take_of_length_le (by omega),List.drop_eq_nil_of_le (by omega),List.append_nil]
theorem mixL_length {A B:List Int} {n k:Nat} (hA:A.length=n) (hB:B.length=n) (hk:k ≤ n):(mixL A B k).length=n:=by simp [mixL];omega
theorem mixL_getD {A B:List Int} {n k:Nat} (hA:A.length=n) (hB:B.length=n) (hk:k < n):(mixL A B k).getD k 0=B.getD k 0:=by
  unfold mixL
  rw [List.getD,List.getElem?_append_right (by simp;omega),List.getD]
  congr 1
  rw [List.getElem?_drop]
  congr 1
  simp;omega
theorem mixL_succ {A B:List Int} {n k:Nat} (hA:A.length=n) (hB:B.length=n) (hk:k < n):mixL A B (k + 1)=(mixL A B k).set k (A.getD k 0):=by
  unfold mixL
  rw [set_app (y:=0) (by simp;omega) (by omega) trivial,take_succ_getD A k (by omega)]
theorem set_same {xs:List Int} {k:Nat} (h:k < xs.length):xs.set k (xs.getD k 0)=xs:=by
  refine List.ext_getElem? fun i=>?_
  by_cases hi:i=k
  · subst hi;simp [List.getD,h]
  · rw [List.getElem?_set_ne (by omega)]
theorem mixL_same {A B:List Int} {n k:Nat} (hA:A.length=n) (hB:B.length=n) (hk:k < n) (h:A.getD k 0=B.getD k 0):mixL A B (k + 1)=mixL A B k:=by
  rw [mixL_succ hA hB hk,h,← mixL_getD hA hB hk,set_same (by rw [mixL_length hA hB (by omega)];exact hk)]
def padX (x:Int) (xs:List Int) (a:Nat):List Int:=rpt [x] a ++ xs
theorem padX_length (x:Int) (xs:List Int) (a:Nat):(padX x xs a).length=a + xs.length:=by simp [padX,rpt_length]
theorem padX_lo (x:Int) (xs:List Int) {a k:Nat} (h:k < a):(padX x xs a).getD k 0=x:=by
  unfold padX
  rw [rpt_one,List.getD,List.getElem?_append_left (by simp;omega),List.getElem?_replicate,if_pos h]
  rfl
theorem padX_hi (x:Int) (xs:List Int) (a i:Nat):(padX x xs a).getD (a + i) 0=xs.getD i 0:=by
  unfold padX
  rw [rpt_one,List.getD,List.getElem?_append_right (by simp),List.getD]
  congr 2
  simp
theorem dm_pad {sh st:List Int}:∀ a,rpt [1,0] a ++ dm sh st=dm (padX 1 sh a) (padX 0 st a)
  | 0=>by simp [rpt,padX]
  | a + 1=>by
    have:=dm_pad (sh:=sh) (st:=st) a
    simp only [padX] at this
    simp [rpt,padX,dm,this]
def sprS (sh st T:List Int):List Int:=(List.range T.length).map fun j=>if j < T.length - sh.length then 0 else if sh.getD (j - (T.length - sh.length)) 0=T.getD j 0 then st.getD (j - (T.length - sh.length)) 0 else 0
theorem sprS_length (sh st T:List Int):(sprS sh st T).length=T.length:=by simp [sprS]
theorem sprS_getD {sh st T:List Int} {j:Nat} (h:j < T.length):(sprS sh st T).getD j 0=if j < T.length - sh.length then 0 else if sh.getD (j - (T.length - sh.length)) 0=T.getD j 0 then st.getD (j - (T.length - sh.length)) 0 else 0:=by
  simp [sprS,List.getD,h]
theorem sprS_lo {sh st T:List Int} {j:Nat} (h:j < T.length - sh.length):(sprS sh st T).getD j 0=0:=by
  rw [sprS_getD (by omega),if_pos h]
theorem sprS_hi {sh st T:List Int} {a i:Nat} (ha:T.length - sh.length=a) (hi:a + i < T.length):(sprS sh st T).getD (a + i) 0=if sh.getD i 0=T.getD (a + i) 0 then st.getD i 0 else 0:=by
  rw [sprS_getD hi,ha,if_neg (by omega),show a + i - a=i by omega]
def spA (sh T:List Int):Bool:=decide (sh.length ≤ T.length) && (List.range sh.length).all fun i=>decide (sh.getD i 0=T.getD (T.length - sh.length + i) 0) || decide (sh.getD i 0=1)
theorem spA_true {sh T:List Int} {a:Nat} (h:sh.length ≤ T.length) (ha:T.length - sh.length=a) (hi:∀ i,i < sh.length → sh.getD i 0=T.getD (a + i) 0 ∨ sh.getD i 0=1):spA sh T=true:=by
  subst ha
  simp only [spA,h,decide_true,Bool.true_and]
  exact List.all_eq_true.2 fun i h=>by simpa using hi i (List.mem_range.1 h)
theorem spA_at {sh T:List Int} {a:Nat} (h:spA sh T=true) (ha:T.length - sh.length=a):sh.length ≤ T.length ∧ ∀ i,i < sh.length → sh.getD i 0=T.getD (a + i) 0 ∨ sh.getD i 0=1:=by
  subst ha
  simp only [spA,Bool.and_eq_true,decide_eq_true_eq] at h
  exact ⟨h.1,fun i hi=>by simpa using List.all_eq_true.1 h.2 i (List.mem_range.2 hi)⟩
theorem spA_short {sh T:List Int} (h:T.length < sh.length):spA sh T=false:=by
  have:¬ sh.length ≤ T.length:=by omega
  simp [spA,this]
theorem spA_false {sh T:List Int} {a i:Nat} (ha:T.length - sh.length=a) (hi:i < sh.length) (h1:¬ sh.getD i 0=T.getD (a + i) 0) (h2:¬ sh.getD i 0=1):spA sh T=false:=by
  rw [Bool.eq_false_iff]
  intro h
  rcases (spA_at h ha).2 i hi with h|h
  · exact h1 h
  · exact h2 h
theorem sp_new {sh st T:List Int} {a k:Nat} (h:sh.length ≤ T.length) (ha:T.length - sh.length=a) (hk:k < T.length) :
    (if (padX 1 sh a).getD k 0=T.getD k 0 then (padX 0 st a).getD k 0 else 0)=(sprS sh st T).getD k 0:=by
  by_cases hl:k < a
  · rw [sprS_lo (by omega),padX_lo 0 _ hl];split<;>rfl
  · obtain ⟨i,rfl⟩:∃ i,k=a + i:=⟨k - a,by omega⟩
    rw [sprS_hi ha hk,padX_hi,padX_hi]
theorem sp_all {sh T:List Int} {a:Nat} (h:sh.length ≤ T.length) (ha:T.length - sh.length=a) (hk:∀ k,k < T.length → (padX 1 sh a).getD k 0=T.getD k 0 ∨ (padX 1 sh a).getD k 0=1):spA sh T=true :=
  spA_true h ha fun i hi=>by have:=hk (a + i) (by omega);rwa [padX_hi] at this
theorem sp_not {sh T:List Int} {a k:Nat} (h:sh.length ≤ T.length) (ha:T.length - sh.length=a) (hk:k < T.length) (h1:¬ (padX 1 sh a).getD k 0=T.getD k 0) (h2:¬ (padX 1 sh a).getD k 0=1):spA sh T=false:=by
  by_cases hl:k < a
  · exact absurd (padX_lo 1 _ hl) h2
  · obtain ⟨i,rfl⟩:∃ i,k=a + i:=⟨k - a,by omega⟩
    rw [padX_hi] at h1 h2
    exact spA_false ha (by omega) h1 h2
def spF (sh T:List Int) (f:Nat → Int) (a i:Nat):Int:=if sh.getD i 0=T.getD (a + i) 0 then f (a + i) else 0
theorem sp_dot0 {sh st T:List Int} {f:Nat → Int}:∀ k,k ≤ T.length - sh.length → dot f (sprS sh st T) k=0
  | 0,_=>rfl
  | k + 1,h=>by rw [dot,sp_dot0 k (by omega),sprS_lo (by omega)];simp
theorem sp_dot {sh st T:List Int} {f:Nat → Int} {a:Nat} (ha:T.length - sh.length=a):∀ k,a + k ≤ T.length → dot f (sprS sh st T) (a + k)=dot (spF sh T f a) st k
  | 0,_=>sp_dot0 a (by omega)
  | k + 1,h=>by
    rw [← Nat.add_assoc,dot,dot,sp_dot ha k (by omega),sprS_hi ha (by omega),spF]
    split<;>simp
theorem sp_ix {sh T:List Int} {f:Nat → Int} {a:Nat} (h:spA sh T=true) (ha:T.length - sh.length=a) (hf:isIx T f):isIx sh (spF sh T f a):=fun i hi=>by
  obtain ⟨h1,h2⟩:=spA_at h ha
  have:=hf (a + i) (by omega)
  unfold spF
  by_cases he:sh.getD i 0=T.getD (a + i) 0
  · rw [if_pos he,he];exact this
  · rw [if_neg he]
    have:=(h2 i hi).resolve_left he
    omega
theorem vV_spread {b:Int} {sh st T:List Int} (hv:vV b sh st=true) (hT:vSh T=true) (hA:spA sh T=true):vV (stB T b) T (stE T (sprS sh st T))=true:=by
  obtain ⟨h1,h2,h3,h4⟩:=vV_spec.1 hv
  have hg:=(vSh_good h1).1
  have hgT:=(vSh_good hT).1
  have hl:=(vSt_spec.1 h2).1
  obtain ⟨hle,hc⟩:=spA_at hA rfl
  unfold stB stE
  by_cases hz:pr T=0
  · rw [if_pos hz,if_pos hz]
    refine vV_spec.2 ⟨hT,vSt_spec.2 ⟨by simp,fun x hx=>?_⟩,by omega,.inl hz⟩
    rw [List.eq_of_mem_replicate hx];omega
  · rw [if_neg hz,if_neg hz]
    refine vV_spec.2 ⟨hT,vSt_spec.2 ⟨sprS_length _ _ _,fun x hx=>?_⟩,h3,.inr fun x hx=>?_⟩
    · simp only [sprS,List.mem_map] at hx
      obtain ⟨j,-,rfl⟩:=hx
      have e:∀ y,st.getD y 0=0 ∨ st.getD y 0 ∈ st:=fun y=>by
        by_cases hy:y < st.length
        · exact .inr (getD_mem hy)
        · left;simp [List.getD,show ¬ y < st.length from hy]
      split
      · omega
      · split
        · rcases e (j - (T.length - sh.length)) with e|e
          · omega
          · exact (vSt_spec.1 h2).2 _ e
        · omega
    · obtain ⟨f,hf,rfl⟩:=(mem_offs_ix hgT).1 hx
      have:=sp_dot (sh:=sh) (st:=st) (f:=f) (a:=T.length - sh.length) rfl sh.length (by omega)
      rw [show T.length - sh.length + sh.length=T.length by omega] at this
      rw [this]
      exact vV_cells hv _ ((mem_offs_ix hg).2 ⟨_,sp_ix hA rfl hf,rfl⟩)
end VwM
set_option linter.unusedVariables false
set_option linter.unusedSimpArgs false
set_option maxRecDepth 4000
namespace VwM
open Vw
open Go

def Tal (L:List ME) (c:Nat) (f:Int → Nat):Prop :=
  (∀ k,mget L k=(f k:Int)) ∧ (∀ k,mhas L k=true ↔ 0 < f k) ∧ (L.map (·.1)).Nodup ∧ (L.map (·.2.2)).Nodup ∧ ∀ p ∈ L,p.2.2 < c
def cnt (xs:List Int) (k:Int):Nat:=xs.count k
def addF (f g:Int → Nat) (k:Int):Nat:=f k + g k

theorem tal_nil (c:Nat):Tal [] c (fun _=>0):=⟨fun _=>rfl,fun _=>by simp [mhas],by simp,by simp,by simp⟩

theorem mhas_iff:∀ {L:List ME} {k:Int},mhas L k=true ↔ k ∈ L.map (·.1)
  | [],k=>by simp [mhas]
  | p :: r,k=>by
    simp only [mhas,List.map_cons,List.mem_cons]
    by_cases h:p.1=k
    · simp [h]
    · rw [if_neg h,mhas_iff]
      constructor
      · exact .inr
      · rintro (e|e)
        · exact absurd e.symm h
        · exact e
theorem mmod_keys:∀ (L:List ME) (k v:Int),(mmod L k v).map (·.1)=L.map (·.1)
  | [],_,_=>rfl
  | p :: r,k,v=>by
    simp only [mmod]
    by_cases h:p.1=k
    · simp [h]
    · simp [h,mmod_keys r k v]
theorem mmod_born:∀ (L:List ME) (k v:Int),(mmod L k v).map (·.2.2)=L.map (·.2.2)
  | [],_,_=>rfl
  | p :: r,k,v=>by
    simp only [mmod]
    by_cases h:p.1=k
    · simp [h]
    · simp [h,mmod_born r k v]
theorem mget_mmod:∀ (L:List ME) (k v j:Int),mhas L k=true → mget (mmod L k v) j=if j=k then v else mget L j
  | [],_,_,_,h=>by simp [mhas] at h
  | p :: r,k,v,j,h=>by
    simp only [mmod]
    by_cases hp:p.1=k
    · rw [if_pos hp]
      simp only [mget]
      by_cases hj:j=k
      · simp [hj]
      · rw [if_neg (fun e=>hj e.symm),if_neg hj,if_neg (fun e=>hj (e.symm.trans hp))]
    · rw [if_neg hp]
      simp only [mget]
      have h':mhas r k=true:=by simpa [mhas,hp] using h
      by_cases hj:p.1=j
      · rw [if_pos hj,if_neg (fun e=>hp (hj.trans e)),if_pos hj]
      · rw [if_neg hj,mget_mmod r k v j h',if_neg hj]
theorem mget_append:∀ (L:List ME) (q:ME) (j:Int),mget (L ++ [q]) j=if mhas L j=true then mget L j else if q.1=j then q.2.1 else 0
  | [],q,j=>by simp [mget,mhas]
  | p :: r,q,j=>by
    simp only [List.cons_append,mget,mhas]
    by_cases h:p.1=j
    · simp [h]
    · simp [h,mget_append r q j]
theorem tal_put {L:List ME} {c:Nat} {f:Int → Nat} (h:Tal L c f) (k:Int) {v:Int} (hv:v=(f k:Int) + 1):Tal (mput L c k v) (mclk L c k) (addF f (cnt [k])):=by
  obtain ⟨h1,h2,h3,h4,h5⟩:=h
  have hc:∀ j,cnt [k] j=if j=k then 1 else 0:=fun j=>by
    unfold cnt
    by_cases hj:j=k
    · subst hj;simp
    · rw [if_neg hj,List.count_cons,if_neg (by simpa using fun e=>hj e.symm)];simp
  unfold mput mclk
  cases hh:mhas L k with
  | true =>
    simp only [if_true]
    refine ⟨fun j=>?_,fun j=>?_,by rw [mmod_keys];exact h3,by rw [mmod_born];exact h4,fun p hp=>?_⟩
    · rw [mget_mmod L k v j hh,addF,hc]
      by_cases hj:j=k
      · subst hj;simp [hv]
      · simp [hj,h1]
    · rw [mhas_iff,mmod_keys,← mhas_iff,h2,addF,hc]
      by_cases hj:j=k
      · subst hj
        have:=(h2 j).1 hh
        simp;omega
      · simp [hj]
    · have:p.2.2 ∈ (mmod L k v).map (·.2.2):=List.mem_map.2 ⟨p,hp,rfl⟩
      rw [mmod_born] at this
      obtain ⟨q,hq,e⟩:=List.mem_map.1 this
      rw [← e];exact h5 q hq
  | false =>
    simp only [Bool.false_eq_true,if_false]
    have hk:¬ k ∈ L.map (·.1):=fun e=>by rw [← mhas_iff,hh] at e;cases e
    have hf:f k=0:=by
      have:¬ 0 < f k:=fun e=>by rw [← h2,hh] at e;cases e
      omega
    refine ⟨fun j=>?_,fun j=>?_,?_,?_,fun p hp=>?_⟩
    · rw [mget_append,addF,hc]
      by_cases hj:j=k
      · subst hj;simp [hh,hv]
      · simp only [hj,if_false,Nat.add_zero]
        split
        · exact h1 j
        · rename_i hn
          rw [if_neg (fun e:k=j=>hj e.symm)]
          have:¬ 0 < f j:=fun e=>hn ((h2 j).2 e)
          omega
    · rw [mhas_iff,List.map_append,List.mem_append,← mhas_iff,h2,addF,hc]
      by_cases hj:j=k
      · subst hj;simp
      · simp [hj]
    · rw [List.map_append,List.nodup_append]
      refine ⟨h3,by simp,fun a ha b hb=>?_⟩
      simp only [List.map_cons,List.map_nil,List.mem_singleton] at hb
      subst hb
      exact fun e=>hk (e ▸ ha)
    · rw [List.map_append,List.nodup_append]
      refine ⟨h4,by simp,fun a ha b hb=>?_⟩
      simp only [List.map_cons,List.map_nil,List.mem_singleton] at hb
      subst hb
      obtain ⟨q,hq,rfl⟩:=List.mem_map.1 ha
      have:=h5 q hq
      omega
    · rcases List.mem_append.1 hp with hp|hp
      · have:=h5 p hp;omega
      · simp only [List.mem_singleton] at hp
        subst hp;simp
theorem tal_congr {L:List ME} {c:Nat} {f g:Int → Nat} (h:Tal L c f) (e:∀ k,f k=g k):Tal L c g:=by
  have:f=g:=funext e
  rw [← this];exact h
theorem addF_snoc (f:Int → Nat) (xs:List Int) (i:Nat) (h:i < xs.length):addF (addF f (cnt (xs.take i))) (cnt [xs.getD i 0])=addF f (cnt (xs.take (i + 1))):=by
  funext k
  have e:xs.take (i + 1)=xs.take i ++ [xs.getD i 0]:=by
    rw [List.take_add_one,List.getElem?_eq_getElem h]
    simp [List.getD,h]
  simp only [addF,cnt,e,List.count_append]
  omega
theorem addF_nil (f:Int → Nat):addF f (cnt [])=f:=by funext k;simp [addF,cnt]
theorem cnt_le (xs:List Int) (k:Int):cnt xs k ≤ xs.length:=List.count_le_length
theorem cnt_take_le (xs:List Int) (i:Nat) (k:Int):cnt (xs.take i) k ≤ xs.length:=Nat.le_trans (cnt_le _ _) (by rw [List.length_take];omega)

theorem tal_val:∀ {L:List ME},(L.map (·.1)).Nodup → ∀ p ∈ L,mget L p.1=p.2.1
  | [],_,p,hp=>by simp at hp
  | q :: r,h,p,hp=>by
    simp only [List.map_cons,List.nodup_cons] at h
    simp only [mget]
    rcases List.mem_cons.1 hp with rfl|hp
    · simp
    · have hne:¬ q.1=p.1:=fun e=>h.1 (List.mem_map.2 ⟨p,hp,e.symm⟩)
      rw [if_neg hne]
      exact tal_val h.2 p hp

theorem len_le_of_nodup:∀ {l:List Nat} {m:List Nat},l.Nodup → (∀ x ∈ l,x ∈ m) → l.length ≤ m.length
  | [],_,_,_=>Nat.zero_le _
  | x :: r,m,hn,hs=>by
    rw [List.nodup_cons] at hn
    have hx:x ∈ m:=hs x (by simp)
    have:=len_le_of_nodup (l:=r) (m:=m.erase x) hn.2 fun y hy=>by
      have hne:y ≠ x:=fun e=>hn.1 (e ▸ hy)
      rw [List.mem_erase_of_ne hne]
      exact hs y (by simp [hy])
    rw [List.length_erase_of_mem hx] at this
    have:0 < m.length:=List.length_pos_of_mem hx
    simp only [List.length_cons]
    omega

def Seen (L V:List ME):Prop:=(V.map (·.2.2)).Nodup ∧ ∀ p ∈ V,p ∈ L
theorem seen_nil (L:List ME):Seen L []:=⟨by simp,by simp⟩
theorem seen_snoc {L V:List ME} (h:Seen L V) {p:ME} (hp:p ∈ L) (hn:p.2.2 ∉ V.map (·.2.2)):Seen L (V ++ [p]):=by
  refine ⟨?_,fun q hq=>?_⟩
  · rw [List.map_append,List.nodup_append]
    refine ⟨h.1,by simp,fun a ha b hb=>?_⟩
    simp only [List.map_cons,List.map_nil,List.mem_singleton] at hb
    subst hb
    exact fun e=>hn (e ▸ ha)
  · rcases List.mem_append.1 hq with hq|hq
    · exact h.2 q hq
    · simp only [List.mem_singleton] at hq
      subst hq;exact hp
theorem seen_len {L V:List ME} (h:Seen L V):V.length ≤ L.length:=by
  have:=len_le_of_nodup (l:=V.map (·.2.2)) (m:=L.map (·.2.2)) h.1 fun x hx=>by
    obtain ⟨p,hp,e⟩:=List.mem_map.1 hx
    exact List.mem_map.2 ⟨p,h.2 p hp,e⟩
  simpa using this
theorem inj_born:∀ {L:List ME},(L.map (·.2.2)).Nodup → ∀ p ∈ L,∀ q ∈ L,p.2.2=q.2.2 → p=q
  | [],_,p,hp,_,_,_=>by simp at hp
  | x :: r,h,p,hp,q,hq,e=>by
    simp only [List.map_cons,List.nodup_cons] at h
    rcases List.mem_cons.1 hp with e1|hp1
    · rcases List.mem_cons.1 hq with e2|hq1
      · rw [e1,e2]
      · exact absurd (List.mem_map.2 ⟨q,hq1,by rw [← e,e1]⟩) h.1
    · rcases List.mem_cons.1 hq with e2|hq1
      · exact absurd (List.mem_map.2 ⟨p,hp1,by rw [e,e2]⟩) h.1
      · exact inj_born h.2 p hp1 q hq1 e
def pickT (t:Int) (V:List ME):List Int:=(V.filter fun p=>decide (t ≤ p.2.1)).map (·.1)
theorem pickT_nil (t:Int):pickT t []=[]:=rfl
theorem pickT_yes {t:Int} {V:List ME} {p:ME} (h:t ≤ p.2.1):pickT t (V ++ [p])=pickT t V ++ [p.1]:=by simp [pickT,h]
theorem pickT_no {t:Int} {V:List ME} {p:ME} (h:¬ t ≤ p.2.1):pickT t (V ++ [p])=pickT t V:=by simp [pickT,h]
theorem pickT_le (t:Int) (V:List ME):(pickT t V).length ≤ V.length:=by simp [pickT];exact List.length_filter_le _ _
def atL (f:Int → Nat) (t:Nat):List Int:=(nums 0 1 60).filter fun x=>decide (t ≤ f x)
theorem mem_atL {f:Int → Nat} {t:Nat} {x:Int}:x ∈ atL f t ↔ (0 ≤ x ∧ x ≤ 59) ∧ t ≤ f x:=by
  unfold atL
  rw [List.mem_filter,mem_nums_iff (by omega)]
  simp only [decide_eq_true_eq]
  constructor
  · rintro ⟨⟨a,b,_⟩,h⟩;exact ⟨by omega,h⟩
  · rintro ⟨a,h⟩;exact ⟨⟨by omega,by omega,⟨_,(Int.one_mul _).symm⟩⟩,h⟩
theorem atL_sorted (f:Int → Nat) (t:Nat):(atL f t).Pairwise (· < ·):=List.Pairwise.filter _ (nums_sorted (by omega) _)
theorem sorted_of {zs:List Int} (hn:zs.Nodup):(sorted zs).Pairwise (· < ·):=by
  have h1:(sorted zs).Pairwise (fun a b=>decide (a ≤ b)=true):=List.pairwise_mergeSort (fun a b c h h'=>by simp at *;omega) (fun a b=>by simp;omega) zs
  have h2:(sorted zs).Nodup:=(List.mergeSort_perm zs _).nodup_iff.2 hn
  have h3:(sorted zs).Pairwise (· ≠ ·):=h2
  refine (List.pairwise_and_iff.2 ⟨h1,h3⟩).imp fun {a b} h=>?_
  have:=h.1
  simp at this
  have:=h.2
  omega
theorem mem_sorted {zs:List Int} {x:Int}:x ∈ sorted zs ↔ x ∈ zs:=List.mem_mergeSort
theorem seen_all {L V:List ME} {c:Nat} {f:Int → Nat} (h:Tal L c f) (hs:Seen L V) (hall:∀ p ∈ L,p.2.2 ∈ V.map (·.2.2)) {t:Nat} (ht:1 ≤ t) (hb:∀ k,0 < f k → 0 ≤ k ∧ k ≤ 59):sorted (pickT t V)=atL f t:=by
  obtain ⟨h1,h2,h3,h4,h5⟩:=h
  have hV:∀ p ∈ L,p ∈ V:=fun p hp=>by
    obtain ⟨q,hq,e⟩:=List.mem_map.1 (hall p hp)
    have:q=p:=inj_born h4 q (hs.2 q hq) p hp e
    exact this ▸ hq
  have hnd:V.Nodup:=(List.pairwise_map.1 hs.1).imp fun {a b} h e=>h (by rw [e])
  have hk:(V.map (·.1)).Nodup:=by
    refine List.pairwise_map.2 (hnd.imp_of_mem fun {a b} ha hb hne he=>hne ?_)
    have hkey:∀ p ∈ L,∀ q ∈ L,p.1=q.1 → p=q:=fun p hp q hq e=>by
      have e1:=tal_val h3 p hp
      have:∀ {M:List ME},(M.map (·.1)).Nodup → ∀ p ∈ M,∀ q ∈ M,p.1=q.1 → p=q:=by
        intro M
        induction M with
        | nil=>intro _ p hp;simp at hp
        | cons x r ih =>
          intro h p hp q hq e
          simp only [List.map_cons,List.nodup_cons] at h
          rcases List.mem_cons.1 hp with e1|hp1
          · rcases List.mem_cons.1 hq with e2|hq1
            · rw [e1,e2]
            · exact absurd (List.mem_map.2 ⟨q,hq1,by rw [← e,e1]⟩) h.1
          · rcases List.mem_cons.1 hq with e2|hq1
            · exact absurd (List.mem_map.2 ⟨p,hp1,by rw [e,e2]⟩) h.1
            · exact ih h.2 p hp1 q hq1 e
      exact this h3 p hp q hq e
    exact hkey a (hs.2 a ha) b (hs.2 b hb) he
  refine sorted_ext (sorted_of ?_) (atL_sorted _ _) fun x=>?_
  · exact List.Sublist.nodup ((List.filter_sublist (l:=V)).map _) hk
  · rw [mem_sorted,mem_atL]
    unfold pickT
    constructor
    · intro hx
      obtain ⟨p,hp,rfl⟩:=List.mem_map.1 hx
      rw [List.mem_filter] at hp
      have hv:=tal_val h3 p (hs.2 p hp.1)
      rw [h1] at hv
      have hle:(t:Int) ≤ p.2.1:=by simpa using hp.2
      have hf:t ≤ f p.1:=by omega
      exact ⟨hb _ (by omega),hf⟩
    · rintro ⟨_,hf⟩
      have hm:mhas L x=true:=(h2 x).2 (by omega)
      rw [mhas_iff] at hm
      obtain ⟨p,hp,rfl⟩:=List.mem_map.1 hm
      have hv:=tal_val h3 p hp
      rw [h1] at hv
      exact List.mem_map.2 ⟨p,List.mem_filter.2 ⟨hV p hp,by simp;omega⟩,rfl⟩
theorem tal_len {L:List ME} {c:Nat} {f:Int → Nat} (h:Tal L c f) (hb:∀ k,0 < f k → 0 ≤ k ∧ k ≤ 59):L.length ≤ 60:=by
  have hk:∀ k ∈ L.map (·.1),0 ≤ k ∧ k ≤ 59:=fun k hk=>hb k ((h.2.1 k).1 (mhas_iff.2 hk))
  have h2:((L.map (·.1)).map Int.toNat).Nodup:=by
    refine List.pairwise_map.2 (List.Pairwise.imp_of_mem (fun {a b} ha hb' hne he=>hne ?_) h.2.2.1)
    have:=hk a ha
    have:=hk b hb'
    omega
  have:=len_le_of_nodup (m:=List.range 60) h2 fun x hx=>by
    obtain ⟨k,hk',rfl⟩:=List.mem_map.1 hx
    have:=hk k hk'
    exact List.mem_range.2 (by omega)
  simpa using this
abbrev Vw3:=Int × List Int × List Int
def VLs:List Vw3 → List AV
  | []=>[]
  | v :: r=>.int .i64 v.1 :: RI v.2.1 :: RI v.2.2 :: VLs r
def allO (vs:List Vw3):List Int:=vs.flatMap fun v=>offs v.1 v.2.1 v.2.2
theorem VLs_length:∀ vs:List Vw3,(VLs vs).length=vs.length * 3
  | []=>rfl
  | v :: r=>by simp only [VLs,List.length_cons,VLs_length r];omega
theorem VLs_drop:∀ (vs:List Vw3) (i:Nat) {v:Vw3},vs[i]?=some v → ((VLs vs).drop (i * 3)).take 3=[.int .i64 v.1,RI v.2.1,RI v.2.2]
  | [],_,_,h=>by simp at h
  | w :: r,0,v,h=>by
    simp at h;subst h;simp [VLs]
  | w :: r,i + 1,v,h=>by
    rw [show (i + 1) * 3=i * 3 + 1 + 1 + 1 by omega]
    simp only [VLs,List.drop_succ_cons]
    exact VLs_drop r i (by simpa using h)
theorem innL_IL (p:Nat → Bool):∀ xs:List Int,innL p (IL xs)=true
  | []=>rfl
  | x :: r=>by
    have:=innL_IL p r
    simp only [IL,List.map_cons,innL,AV.inn,Bool.true_and]
    exact this
theorem innL_VLs (p:Nat → Bool):∀ vs:List Vw3,innL p (VLs vs)=true
  | []=>rfl
  | v :: r=>by
    simp only [VLs,innL,AV.inn,innL_VLs p r,Bool.and_true,Bool.true_and,Bool.and_eq_true]
    exact ⟨innL_IL _ _,innL_IL _ _⟩
theorem ren_VLs {ρ:Nat → Option Nat} {Zh:Nat → Option (List AV)} {n:Nat}:∀ vs:List Vw3,(VLs vs).map (AV.ren ρ Zh false phiD (n + 2))=VLs vs
  | []=>rfl
  | v :: r=>by
    simp only [VLs,List.map_cons,ren_VLs r,List.cons.injEq,and_true]
    refine ⟨rfl,?_,?_⟩<;>simp [AV.ren,phiD]
attribute [push_cast] ren_VLs
theorem allO_take_succ (vs:List Vw3) (i:Nat) {v:Vw3} (h:vs[i]?=some v):allO (vs.take (i + 1))=allO (vs.take i) ++ offs v.1 v.2.1 v.2.2:=by
  rw [List.take_add_one,h]
  simp [allO]
theorem allO_len:∀ (vs:List Vw3),(∀ v ∈ vs,(offs v.1 v.2.1 v.2.2).length ≤ 1000) → (allO vs).length ≤ vs.length * 1000
  | [],_=>by simp [allO]
  | v :: r,h=>by
    have h1:=h v (by simp)
    have h2:=allO_len r fun w hw=>h w (by simp [hw])
    simp only [allO,List.flatMap_cons,List.length_append,List.length_cons] at h2 ⊢
    omega
theorem cnt_pos {xs:List Int} {k:Int}:0 < cnt xs k ↔ k ∈ xs:=List.count_pos_iff
theorem cnt_support {xs:List Int} (h:∀ x ∈ xs,0 ≤ x ∧ x ≤ 59):∀ k,0 < cnt xs k → 0 ≤ k ∧ k ≤ 59:=fun k hk=>h k (cnt_pos.1 hk)
theorem atL_one (xs:List Int):atL (cnt xs) 1=bothL xs xs:=by
  unfold atL bothL
  refine List.filter_congr fun x _=>?_
  have:1 ≤ cnt xs x ↔ x ∈ xs ∧ x ∈ xs:=by
    have:=@cnt_pos xs x
    constructor
    · intro h;exact ⟨this.1 h,this.1 h⟩
    · intro h;exact this.2 h.1
  exact decide_eq_decide.2 this
theorem cnt_both (xs:List Int) (k:Int):cnt (bothL xs xs) k=if (0 ≤ k ∧ k ≤ 59) ∧ k ∈ xs then 1 else 0:=by
  have hnd:(bothL xs xs).Nodup:=(bothL_sorted xs xs).imp fun h e=>by omega
  split
  · rename_i h
    have hm:k ∈ bothL xs xs:=mem_bothL.2 ⟨h.1,h.2,h.2⟩
    have h1:0 < cnt (bothL xs xs) k:=cnt_pos.2 hm
    have h2:cnt (bothL xs xs) k ≤ 1:=List.nodup_iff_count.1 hnd k
    omega
  · rename_i h
    refine Nat.eq_zero_of_not_pos fun hp=>h ?_
    have:=mem_bothL.1 (cnt_pos.1 hp)
    exact ⟨this.1,this.2.1⟩
theorem atL_two (xs ys:List Int):atL (addF (cnt (bothL xs xs)) (cnt (bothL ys ys))) 2=bothL xs ys:=by
  unfold atL
  rw [show bothL xs ys=(nums 0 1 60).filter fun x=>decide (x ∈ xs ∧ x ∈ ys) from rfl]
  refine List.filter_congr fun x hx=>?_
  rw [mem_nums_iff (by omega)] at hx
  have hx2:0 ≤ x ∧ x ≤ 59:=by omega
  refine decide_eq_decide.2 ?_
  simp only [addF,cnt_both,hx2,true_and]
  by_cases h1:x ∈ xs<;>by_cases h2:x ∈ ys<;>simp [h1,h2]
theorem addF_support {f g:Int → Nat} (hf:∀ k,0 < f k → 0 ≤ k ∧ k ≤ 59) (hg:∀ k,0 < g k → 0 ≤ k ∧ k ≤ 59):∀ k,0 < addF f g k → 0 ≤ k ∧ k ≤ 59:=fun k hk=>by
  unfold addF at hk
  by_cases h:0 < f k
  · exact hf k h
  · exact hg k (by omega)
theorem bothL_cells (xs ys:List Int):∀ x ∈ bothL xs ys,0 ≤ x ∧ x ≤ 59:=fun x hx=>(mem_bothL.1 hx).1
abbrev repL (xs:List Int):List Int:=atL (cnt xs) 2
def ovB (b:Int) (sh st:List Int) (b':Int) (sh' st':List Int):Bool:=vV b sh st && vV b' sh' st'
def doB (b:Int) (sh st:List Int) (b':Int) (sh' st':List Int):Bool:=decide (0 < (MVL (ovB b sh st b' sh' st') (bothL (offs b sh st) (offs b' sh' st'))).length)
def atT (f:Int → Nat) (t:Nat) (k:Nat):List Int:=(nums 0 1 k).filter fun x=>decide (t ≤ f x)
def inclB (ys xs:List Int):Bool:=decide (∀ x ∈ ys,x ∈ xs)
def coB (b:Int) (sh st:List Int) (b':Int) (sh' st':List Int):Bool:=ovB b sh st b' sh' st' && inclB (offs b' sh' st') (offs b sh st)
theorem both_incl {xs ys:List Int} (h:∀ y ∈ ys,0 ≤ y ∧ y ≤ 59):decide (bothL xs ys=bothL ys ys)=inclB ys xs:=by
  unfold inclB
  refine decide_eq_decide.2 ?_
  constructor
  · intro e y hy
    have:y ∈ bothL ys ys:=mem_bothL.2 ⟨h y hy,hy,hy⟩
    rw [← e] at this
    exact (mem_bothL.1 this).2.1
  · intro hi
    refine sorted_ext (bothL_sorted _ _) (bothL_sorted _ _) fun x=>?_
    rw [mem_bothL,mem_bothL]
    constructor
    · rintro ⟨a,b,c⟩;exact ⟨a,c,c⟩
    · rintro ⟨a,b,c⟩;exact ⟨a,hi x b,c⟩
def wiP (d:Bool) (O O':List Int):AV:=if d=true then .tup [.int .i64 (placeI O ((bothL O O').getD 0 0)),.int .i64 (placeI O' ((bothL O O').getD 0 0)),.bool true] else .tup [.int .i64 (-1),.int .i64 (-1),.bool false]
end VwM
set_option linter.unusedVariables false
set_option linter.unusedSimpArgs false
set_option maxRecDepth 4000
namespace VwM
open Vw
open Go

def kpF (p:Int → Bool) (X:List Int) (j:Nat):List Int:=(X.take j).filter fun x=>!p x
def sF (p:Int → Bool) (X:List Int) (j:Nat):List Int:=kpF p X j ++ X.drop (kpF p X j).length
def fiP (p:Int → Bool) (X:List Int):Int:=if X.any p=true then (X.findIdx p:Int) else -1
def gapL (O:List Int) (lo:Int) (n:Nat):List Int:=(nums lo 1 n).filter fun x=>decide (¬ x ∈ O)
def gpT (U:List Int) (x:Nat):List Int:=(nums 0 1 x).filter fun y=>decide (U.getD 0 0 < y ∧ ¬ y ∈ U)
def gaL (b:Int) (sh st:List Int):List Int:=gapL (offs b sh st) (spS b sh st) (spN b sh st)
end VwM
set_option linter.unusedVariables false
set_option linter.unusedSimpArgs false
namespace VwM
open Go Vw

theorem set_getD_self {L:List Int} {i:Nat} {v:Int} (h:i < L.length):(L.set i v).getD i 0=v:=by simp [List.getD,h]
theorem set_getD_ne {L:List Int} {i j:Nat} {v:Int} (h:i ≠ j):(L.set i v).getD j 0=L.getD j 0:=by simp [List.getD,List.getElem?_set_ne h]
def inM (xs:List Int) (n:Nat):Prop:=∀ i,i < xs.length → 0 ≤ xs.getD i 0 ∧ xs.getD i 0 < n
def adS (mem cells vals:List Int) (x:Nat):Nat → Int
  | 0=>mem.getD x 0
  | i + 1=>if cells.getD i 0=x then adS mem cells vals x i + vals.getD i 0 else adS mem cells vals x i
end VwM
namespace VwM
open Go Vw
theorem idxF_three (a b c d:Nat) (r:List Nat):idxF (a :: b :: c :: d :: r) 3=some d:=rfl
theorem idxF_four (a b c d e:Nat) (r:List Nat):idxF (a :: b :: c :: d :: e :: r) 4=some e:=rfl
theorem idxF_five (a b c d e f:Nat) (r:List Nat):idxF (a :: b :: c :: d :: e :: f :: r) 5=some f:=rfl
attribute [push_cast] idxF_three idxF_four idxF_five
end VwM
namespace VwM
open Go Vw
theorem news_4 (d:Nat):news (some d) 4=[16 * d,16 * d + 1,16 * d + 2,16 * d + 3]:=rfl
theorem news_5 (d:Nat):news (some d) 5=[16 * d,16 * d + 1,16 * d + 2,16 * d + 3,16 * d + 4]:=rfl
theorem freshC_4 {pin:Nat} (H:List (Nat × List AV)) (d:Nat):freshC pin H (some d) 4=(freshD H d ∧ pin ≤ 16 * d):=by simp [freshC]
theorem freshC_5 {pin:Nat} (H:List (Nat × List AV)) (d:Nat):freshC pin H (some d) 5=(freshD H d ∧ pin ≤ 16 * d):=by simp [freshC]
attribute [push_cast] news_4 news_5 freshC_4 freshC_5
end VwM
set_option linter.unusedVariables false
set_option linter.unusedSimpArgs false
set_option maxRecDepth 4000
namespace VwM
open Vw
open Go

def unitL (n d:Nat):List Int:=(List.replicate n 0).set d 1
def rsX (L sh:List Int) (d:Nat):Int:=if 1 < sh.getD d 0 then L.getD ((rowS sh).getD d 0).toNat 0 - L.getD 0 0 else 0
def rsB (b:Int) (sh:List Int):Int:=if pr sh=0 then 0 else b
def rsT (L sh:List Int):List Int:=filled (rsX L sh) sh.length sh.length
def rsS (L sh:List Int):List Int:=if pr sh=0 then List.replicate sh.length 0 else rsT L sh
def rsOk (b:Int) (sh st S:List Int):Bool :=
  vV b sh st && vSh S && decide (pr S=pr sh) && decide (offs (rsB b S) S (rsS (offs b sh st) S)=offs b sh st)
end VwM
set_option linter.unusedVariables false
set_option linter.unusedSimpArgs false
set_option linter.unnecessarySimpa false
set_option maxRecDepth 4000
namespace VwM
open Vw
open Go

end VwM
set_option linter.unusedVariables false
set_option linter.unusedSimpArgs false
set_option linter.unnecessarySimpa false
set_option maxRecDepth 4000
namespace VwM
open Vw
open Go

end VwM
set_option linter.unusedVariables false
set_option linter.unusedSimpArgs false
set_option maxRecDepth 4000
namespace VwM
open Vw
open Go

end VwM
