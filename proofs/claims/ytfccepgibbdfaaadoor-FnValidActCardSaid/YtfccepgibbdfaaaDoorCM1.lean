/- The mathematics of ranges,slices,shapes and indices that the contracts speak of. -/
import Derived.Test.YtfccepgibbdfaaaDoorCW3
set_option linter.unusedSimpArgs false
set_option linter.unusedSectionVars false
set_option linter.unusedVariables false
set_option maxRecDepth 4000
set_option linter.unnecessarySimpa false
namespace VwM
open Vw
open Go

abbrev rng (a b c:Int):AV:=.agg [.int .i64 a,.int .i64 b,.int .i64 c]
abbrev slc (f t b:Int) (hf ht:Bool):AV:=.agg [.int .i64 f,.int .i64 t,.int .i64 b,.bool hf,.bool ht]
abbrev IL (xs:List Int):List AV:=xs.map (AV.int .i64)
abbrev RI (xs:List Int):AV:=.rows false (IL xs) xs.length
abbrev OI (xs:List Int):AV → List (List AV) → Prop:=fun r H'=>r=.own 0 xs.length 1 ∧ H'=[IL xs]
def vR (a b c:Int):Bool:=decide (-100 ≤ a) && decide (a ≤ 100) && (decide (-101 ≤ b) && decide (b ≤ 101)) && (decide (-200 ≤ c) && decide (c ≤ 200) && !decide (c=0))
def vS (f t b:Int) (hf ht:Bool):Bool:=decide (-100 ≤ f) && decide (f ≤ 100) && (decide (-100 ≤ t) && decide (t ≤ 100)) && (decide (-200 ≤ b) && decide (b ≤ 200)) && !decide (b=0) && (hf || decide (f=0)) && (ht || decide (t=0))
theorem Dmz {a b c:Int}:vR a b c=true ↔ (-100 ≤ a ∧ a ≤ 100) ∧ (-101 ≤ b ∧ b ≤ 101) ∧ (-200 ≤ c ∧ c ≤ 200) ∧ c ≠ 0:=by
  simp only [vR,Bool.and_eq_true,decide_eq_true_eq,Bool.not_eq_true',decide_eq_false_iff_not]
  constructor
  · rintro ⟨⟨h1,h2⟩,h3,h4⟩;exact ⟨h1,h2,h3,h4⟩
  · rintro ⟨h1,h2,h3,h4⟩;exact ⟨⟨h1,h2⟩,h3,h4⟩
theorem H5z {f t b:Int} {hf ht:Bool}:vS f t b hf ht=true ↔ (-100 ≤ f ∧ f ≤ 100) ∧ (-100 ≤ t ∧ t ≤ 100) ∧ (-200 ≤ b ∧ b ≤ 200) ∧ b ≠ 0 ∧ (hf=true ∨ f=0) ∧ (ht=true ∨ t=0):=by
  simp only [vS,Bool.and_eq_true,Bool.or_eq_true,decide_eq_true_eq,Bool.not_eq_true',decide_eq_false_iff_not]
  constructor
  · rintro ⟨⟨⟨⟨⟨h1,h2⟩,h3⟩,h4⟩,h5⟩,h6⟩;exact ⟨h1,h2,h3,h4,h5,h6⟩
  · rintro ⟨h1,h2,h3,h4,h5,h6⟩;exact ⟨⟨⟨⟨⟨h1,h2⟩,h3⟩,h4⟩,h5⟩,h6⟩
theorem mkAV_ints0 (k:IntKind) (xs:List Int):mkAV false ((xs.map (AV.int k)).take 1)=if 0 < xs.length then some (.int k (xs.getD 0 0)) else none:=by
  haveI:Inhabited GlobT:=⟨⟨[]⟩⟩
  have:=Glz k xs 0
  rwa [List.drop_zero] at this
attribute [push_cast] Glz mkAV_ints0


theorem list_eq_of {xs ys:List Int} (hl:xs.length=ys.length) (h:∀ j:Nat,j < xs.length → xs.getD j 0=ys.getD j 0):xs=ys:=by
  refine List.ext_getElem hl fun i h1 h2=>?_
  have:=h i h1
  simpa [List.getD,h1,h2] using this


def upFrom (k:Int) (n:Nat):List Int:=(List.range n).map fun i:Nat=>k + (i:Int)
theorem Euz (k:Int) (n:Nat):(upFrom k n).length=n:=by simp [upFrom]
attribute [simp] Euz
attribute [push_cast] Euz
def marked (k:Int) (xs:List Int) (j:Nat):List Int:=upFrom k j ++ xs.drop j
def cntI (a b c:Int):Int :=
  if c < 0 then (if 0 - (b - a) ≤ 0 then 0 else (0 - (b - a) + (0 - c) - 1).tdiv (0 - c)) else (if b - a ≤ 0 then 0 else (b - a + c - 1).tdiv c)
theorem C3z {x y:Int} (hy:0 < y) (hx:0 ≤ x):0 ≤ x.tdiv y ∧ x.tdiv y ≤ x:=by
  rw [Int.tdiv_eq_ediv_of_nonneg hx]
  exact ⟨Int.ediv_nonneg hx (by omega),Int.ediv_le_self _ hx⟩
def nums (a c:Int) (k:Nat):List Int:=(List.range k).map fun i:Nat=>a + (i:Int) * c
theorem nums_zero (a c:Int):nums a c 0=[]:=rfl
theorem nums_succ (a c:Int) (k:Nat):nums a c (k + 1)=nums a c k ++ [a + (k:Int) * c]:=by simp [nums,List.range_succ]
theorem Caz (a c:Int) (k:Nat):(nums a c k).length=k:=by simp [nums]
theorem Gjz (a c:Int) (k i:Nat) (h:i < k):(nums a c k).getD i 0=a + (i:Int) * c:=by simp [nums,h,List.getD]
attribute [simp] Caz
attribute [push_cast] Caz
theorem cnt_lt {a b c i:Int} (h0:c ≠ 0) (hi:0 ≤ i):i < cntI a b c ↔ (0 < c ∧ a + i * c < b) ∨ (c < 0 ∧ b < a + i * c):=by
  unfold cntI
  by_cases hc:c < 0
  · rw [if_pos hc]
    have hp:0 ≤ i * (0 - c):=Int.mul_nonneg hi (by omega)
    have e:i * (0 - c)=- (i * c):=by rw [Int.zero_sub,Int.mul_neg]
    by_cases hw:0 - (b - a) ≤ 0
    · rw [if_pos hw]
      constructor
      · intro h;omega
      · rintro (h|h)<;>omega
    · rw [if_neg hw,Int.tdiv_eq_ediv_of_nonneg (by omega),Int.lt_iff_add_one_le,Int.le_ediv_iff_mul_le (by omega),Int.add_mul]
      constructor
      · intro h;right;omega
      · rintro (h|h)<;>omega
  · rw [if_neg hc]
    have hp:0 ≤ i * c:=Int.mul_nonneg hi (by omega)
    by_cases hw:b - a ≤ 0
    · rw [if_pos hw]
      constructor
      · intro h;omega
      · rintro (h|h)<;>omega
    · rw [if_neg hw,Int.tdiv_eq_ediv_of_nonneg (by omega),Int.lt_iff_add_one_le,Int.le_ediv_iff_mul_le (by omega),Int.add_mul]
      constructor
      · intro h;left;omega
      · rintro (h|h)<;>omega
theorem cnt_bound {a b c:Int} (hv:vR a b c=true):0 ≤ cntI a b c ∧ cntI a b c ≤ 500:=by
  obtain ⟨ha,hb,hc,h0⟩:=Dmz.1 hv
  unfold cntI
  by_cases hc:c < 0
  · rw [if_pos hc]
    by_cases hw:0 - (b - a) ≤ 0
    · rw [if_pos hw];omega
    · rw [if_neg hw]
      have:=C3z (x:=0 - (b - a) + (0 - c) - 1) (y:=0 - c) (by omega) (by omega)
      omega
  · rw [if_neg hc]
    by_cases hw:b - a ≤ 0
    · rw [if_pos hw];omega
    · rw [if_neg hw]
      have:=C3z (x:=b - a + c - 1) (y:=c) (by omega) (by omega)
      omega
def cntN (a b c:Int):Nat:=(cntI a b c).toNat
theorem cntN_cast {a b c:Int} (hv:vR a b c=true):(cntN a b c:Int)=cntI a b c:=by
  unfold cntN;have:=cnt_bound hv;omega
theorem cntN_lt {a b c:Int} (hv:vR a b c=true) (i:Nat):i < cntN a b c ↔ (0 < c ∧ a + i * c < b) ∨ (c < 0 ∧ b < a + i * c):=by
  rw [← cnt_lt (Dmz.1 hv).2.2.2 (by omega:(0:Int) ≤ i),← cntN_cast hv]
  omega
theorem num_bound {a b c:Int} (hv:vR a b c=true) {i:Nat} (h:i < cntN a b c):-201 ≤ (i:Int) * c ∧ (i:Int) * c ≤ 201 ∧ -100 ≤ a + i * c ∧ a + i * c ≤ 100:=by
  obtain ⟨ha,hb,hc,h0⟩:=Dmz.1 hv
  rcases (cntN_lt hv i).1 h with ⟨h1,h2⟩|⟨h1,h2⟩
  · have:0 ≤ (i:Int) * c:=Int.mul_nonneg (by omega) (by omega)
    omega
  · have:0 ≤ (i:Int) * (0 - c):=Int.mul_nonneg (by omega) (by omega)
    rw [Int.zero_sub,Int.mul_neg] at this
    omega
theorem next_bound {a b c:Int} (hv:vR a b c=true) {i:Nat} (h:i ≤ cntN a b c):-1000 ≤ (i:Int) * c ∧ (i:Int) * c ≤ 1000:=by
  obtain ⟨ha,hb,hc,h0⟩:=Dmz.1 hv
  cases i with
  | zero=>simp
  | succ i =>
    have:=num_bound hv (i:=i) (by omega)
    rw [show ((i + 1:Nat):Int) * c=(i:Int) * c + c by rw [Int.natCast_add,Int.add_mul];simp]
    omega
def filled (g:Nat → Int) (n j:Nat):List Int:=(List.range n).map fun i=>if i < j then g i else 0
theorem E5z (g:Nat → Int) (n j:Nat):(filled g n j).length=n:=by simp [filled]
attribute [simp] E5z
attribute [push_cast] E5z
theorem Bgz (xs:List Int) (j:Nat) (v:Int):(IL xs).set j (.int .i64 v)=IL (xs.set j v):=by simp [IL,List.map_set]
theorem IL_snoc (xs:List Int) (v:Int):IL xs ++ [.int .i64 v]=IL (xs ++ [v]):=by simp [IL]
theorem toNat_succ (k:Nat):((k:Int) + 1).toNat=k + 1:=by omega
theorem IL_tail (k:IntKind) (xs:List Int) (j:Nat):(((xs.map (AV.int k)).drop j).take (xs.length - j))=(xs.drop j).map (AV.int k):=by
  rw [← List.map_drop,← List.map_take]
  congr 1
  exact List.take_of_length_le (by simp)
attribute [push_cast] toNat_succ IL_tail
def pr (xs:List Int):Int:=xs.foldl (· * ·) 1
theorem pr_nil:pr []=1:=rfl
theorem pr_snoc (xs:List Int) (x:Int):pr (xs ++ [x])=pr xs * x:=by simp [pr]
theorem foldl_mul (xs:List Int) (a:Int):xs.foldl (· * ·) a=a * pr xs:=by
  induction xs generalizing a with
  | nil=>simp [pr]
  | cons x r ih=>simp only [List.foldl_cons,pr];rw [ih,ih (1 * x)];rw [Int.one_mul,Int.mul_assoc]
theorem Ijz (x:Int) (xs:List Int):pr (x :: xs)=x * pr xs:=by
  show (x :: xs).foldl (· * ·) 1=_
  rw [List.foldl_cons,foldl_mul,Int.one_mul]
theorem Edz (xs:List Int) (k:Nat) (h:k < xs.length):xs.take (k + 1)=xs.take k ++ [xs.getD k 0]:=by
  rw [List.take_succ_eq_append_getElem h];simp [List.getD,h]
theorem drop_getD (xs:List Int) (k:Nat) (h:k < xs.length):xs.drop k=xs.getD k 0 :: xs.drop (k + 1):=by
  rw [List.drop_eq_getElem_cons h];simp [List.getD,h]
theorem Fmz (xs:List Int) (k:Nat) (h:k < xs.length):pr (xs.take (k + 1))=pr (xs.take k) * xs.getD k 0:=by rw [Edz xs k h,pr_snoc]
theorem pr_drop (xs:List Int) (k:Nat) (h:k < xs.length):pr (xs.drop k)=xs.getD k 0 * pr (xs.drop (k + 1)):=by rw [drop_getD xs k h,Ijz]
def good4 (xs:List Int):Prop:=(∀ x ∈ xs,0 ≤ x ∧ x ≤ 60) ∧ xs.length ≤ 4
theorem good4_take {xs:List Int} (h:good4 xs) (j:Nat):good4 (xs.take j):=⟨fun x hx=>h.1 x (List.mem_of_mem_take hx),by have:=h.2;simp;omega⟩
theorem Dgz {xs:List Int} (h:good4 xs) {k:Nat} (hk:k < xs.length):0 ≤ xs.getD k 0 ∧ xs.getD k 0 ≤ 60:=by
  refine h.1 _ ?_
  simp [List.getD,hk]
theorem pr_bound':∀ (xs:List Int),(∀ x ∈ xs,0 ≤ x ∧ x ≤ 60) → 0 ≤ pr xs ∧ pr xs ≤ 60 ^ xs.length
  | [],_=>by simp [pr]
  | x :: r,h=>by
    have ih:=pr_bound' r fun y hy=>h y (by simp [hy])
    have hx:=h x (by simp)
    rw [Ijz,List.length_cons,Int.pow_succ,Int.mul_comm (60 ^ r.length) 60]
    exact ⟨Int.mul_nonneg hx.1 ih.1,Int.mul_le_mul hx.2 ih.2 ih.1 (by omega)⟩
theorem Dzz {xs:List Int} (h:good4 xs):0 ≤ pr xs ∧ pr xs ≤ 12960000:=by
  have h1:=pr_bound' xs h.1
  refine ⟨h1.1,Int.le_trans h1.2 ?_⟩
  have:(60:Int) ^ xs.length ≤ 60 ^ 4:=by
    obtain ⟨_,hl⟩:=h
    generalize xs.length=n at hl
    match n,hl with
    | 0,_=>decide
    | 1,_=>decide
    | 2,_=>decide
    | 3,_=>decide
    | 4,_=>decide
  simpa using this
def allI (xs:List Int) (l h:Int):Bool:=xs.all fun x=>decide (l ≤ x) && decide (x ≤ h)
theorem B8z {xs:List Int} {l h:Int}:allI xs l h=true ↔ ∀ x ∈ xs,l ≤ x ∧ x ≤ h:=by simp [allI]
theorem B9z {xs:List Int} {l h:Int}:(∀ j:Nat,j < xs.length → l ≤ xs.getD j 0 ∧ xs.getD j 0 ≤ h) → allI xs l h=true:=by
  intro hj
  rw [B8z]
  intro x hx
  obtain ⟨i,hi,rfl⟩:=List.getElem_of_mem hx
  have:=hj i hi
  simpa [List.getD,hi] using this
theorem B2z {xs:List Int} {l h:Int} {j:Nat} (hj:j < xs.length) (hx:xs.getD j 0 < l ∨ h < xs.getD j 0):allI xs l h=false:=by
  rw [Bool.eq_false_iff]
  intro ht
  have:=(B8z.1 ht) (xs.getD j 0) (by simp [List.getD,hj])
  omega
def vSh (sh:List Int):Bool:=decide (sh.length ≤ 4) && allI sh 0 60 && decide (pr sh ≤ 60)
theorem Cez {sh:List Int} (h:vSh sh=true):good4 sh ∧ 0 ≤ pr sh ∧ pr sh ≤ 60:=by
  simp only [vSh,Bool.and_eq_true,decide_eq_true_eq] at h
  have hg:good4 sh:=⟨B8z.1 h.1.2,h.1.1⟩
  exact ⟨hg,(Dzz hg).1,h.2⟩
def rowS (sh:List Int):List Int:=(List.range sh.length).map fun i:Nat=>pr (sh.drop (i + 1))
def colS (sh:List Int):List Int:=(List.range sh.length).map fun i:Nat=>pr (sh.take i)
theorem F9z (sh:List Int):(rowS sh).length=sh.length:=by simp [rowS]
theorem G1z (sh:List Int):(colS sh).length=sh.length:=by simp [colS]
attribute [simp] F9z G1z
attribute [push_cast] F9z G1z
def filledD (g:Nat → Int) (n k:Nat):List Int:=(List.range n).map fun i=>if n - k ≤ i then g i else 0
theorem filledD_zero (g:Nat → Int) (n:Nat):filledD g n 0=List.replicate n 0:=by
  refine List.ext_getElem? fun i=>?_
  by_cases h:i < n
  · have:¬ n ≤ i:=by omega
    simp [filledD,h,this]
  · simp [filledD,h]
theorem Ehz (g:Nat → Int) (n k:Nat):(filledD g n k).length=n:=by simp [filledD]
attribute [simp] Ehz
attribute [push_cast] Ehz
theorem filledD_set (g:Nat → Int) (n k:Nat) (h:k < n):(filledD g n k).set (n - 1 - k) (g (n - 1 - k))=filledD g n (k + 1):=by
  refine List.ext_getElem? fun i=>?_
  simp only [filledD,List.getElem?_set,List.length_map,List.length_range,List.getElem?_map]
  by_cases h1:n - 1 - k=i
  · subst h1
    have h2:n - 1 - k < n:=by omega
    have h3:n - (k + 1) ≤ n - 1 - k:=by omega
    simp [h2,h3]
    omega
  · by_cases h2:i < n
    · simp only [List.getElem?_range h2,Option.map_some,if_neg h1]
      congr 1
      by_cases h3:n - k ≤ i
      · rw [if_pos h3,if_pos (by omega)]
      · rw [if_neg h3,if_neg (by omega)]
    · simp [h1,h2]
theorem filledD_all (g:Nat → Int) (n:Nat):filledD g n n=(List.range n).map g:=by
  refine List.map_congr_left fun i hi=>?_
  rw [if_pos (by omega)]
theorem down_nat (n k:Nat) (h:k < n):((n:Int) - 1 - (k:Int)).toNat=n - 1 - k:=by omega



def kS (sh:List Int) (k:Int):Nat → Int
  | 0=>k
  | j + 1=>(kS sh k j).tdiv (sh.getD (sh.length - 1 - j) 0)
def dig (sh:List Int) (k:Int) (i:Nat):Int:=(kS sh k (sh.length - 1 - i)).tmod (sh.getD i 0)
def unr (sh:List Int) (k:Int):List Int:=(List.range sh.length).map (dig sh k)
theorem Faz (sh:List Int) (k:Int):(unr sh k).length=sh.length:=by simp [unr]
attribute [simp] Faz
attribute [push_cast] Faz
theorem pr_zero {xs:List Int} {i:Nat} (hi:i < xs.length) (h:xs.getD i 0=0):pr xs=0:=by
  have e:xs=xs.take i ++ xs.drop i:=(List.take_append_drop i xs).symm
  rw [e,pr,List.foldl_append,foldl_mul,pr_drop xs i hi,h]
  simp
theorem F2z {sh:List Int} {k:Int} (hk:0 ≤ k) (hp:∀ i,i < sh.length → 1 ≤ sh.getD i 0):∀ j,j ≤ sh.length → 0 ≤ kS sh k j ∧ kS sh k j ≤ k
  | 0,_=>by simp [kS,hk]
  | j + 1,h=>by
    have ih:=F2z hk hp j (by omega)
    have h1:=hp (sh.length - 1 - j) (by omega)
    have:=C3z (x:=kS sh k j) (y:=sh.getD (sh.length - 1 - j) 0) (by omega) ih.1
    simp only [kS]
    omega
theorem Gdz {sh:List Int} (hg:good4 sh) (h:1 ≤ pr sh):∀ i,i < sh.length → 1 ≤ sh.getD i 0:=by
  intro i hi
  have h1:=Dgz hg hi
  rcases Int.lt_or_le 0 (sh.getD i 0) with h2|h2
  · omega
  · have:=pr_zero hi (by omega)
    omega
theorem dig_bound {sh:List Int} {k:Int} (hk:0 ≤ k) (hp:∀ i,i < sh.length → 1 ≤ sh.getD i 0) (hle:∀ i,i < sh.length → sh.getD i 0 ≤ 60) {i:Nat} (hi:i < sh.length):0 ≤ dig sh k i ∧ dig sh k i < sh.getD i 0:=by
  have h1:=F2z hk hp (sh.length - 1 - i) (by omega)
  have h2:=hp i hi
  unfold dig
  exact ⟨Int.tmod_nonneg _ h1.1,Int.tmod_lt_of_pos _ (by omega)⟩
def pad4 (f:Nat → Int):List Int:=[f 0,f 1,f 2,f 3]
theorem Ggz (f:Nat → Int):(pad4 f).length=4:=rfl
theorem Iez (a b c d:AV) (f:Nat → Int):setRange [a,b,c,d] 0 ((pad4 f).map (AV.int .i64))=(pad4 f).map (AV.int .i64):=by simp [pad4,setRange]
theorem Haz (g f:Nat → Int):setRange ((pad4 g).map (AV.int .i64)) 0 ((pad4 f).map (AV.int .i64))=(pad4 f).map (AV.int .i64):=by simp [pad4,setRange]
theorem take_pad4 (f:Nat → Int):((pad4 f).map (AV.int .i64)).take 4=(pad4 f).map (AV.int .i64):=by simp [pad4]
attribute [simp] Ggz
attribute [push_cast] Ggz Iez Haz take_pad4
def vIx (sh idx:List Int):Bool:=decide (idx.length=sh.length) && (List.range idx.length).all fun i=>decide (0 ≤ idx.getD i 0) && decide (idx.getD i 0 ≤ sh.getD i 0 - 1)
def dot (f:Nat → Int) (st:List Int):Nat → Int
  | 0=>0
  | k + 1=>dot f st k + f k * st.getD k 0
theorem Gzz {f g:Nat → Int} {st:List Int}:∀ {k:Nat},(∀ i,i < k → f i=g i) → dot f st k=dot g st k
  | 0,_=>rfl
  | k + 1,h=>by simp only [dot];rw [Gzz fun i hi=>h i (by omega),h k (by omega)]
theorem E1z {a b B C:Int} (ha:-B ≤ a ∧ a ≤ B) (hb:-C ≤ b ∧ b ≤ C):-(B * C) ≤ a * b ∧ a * b ≤ B * C:=by
  have h1:a.natAbs ≤ B.natAbs:=by omega
  have h2:b.natAbs ≤ C.natAbs:=by omega
  have h3:(a * b).natAbs ≤ (B * C).natAbs:=by rw [Int.natAbs_mul,Int.natAbs_mul];exact Nat.mul_le_mul h1 h2
  have h4:0 ≤ B * C:=Int.mul_nonneg (by omega) (by omega)
  omega
theorem dot_bound {f:Nat → Int} {st:List Int} {B C:Int}:∀ k,(∀ i,i < k → (-B ≤ f i ∧ f i ≤ B) ∧ -C ≤ st.getD i 0 ∧ st.getD i 0 ≤ C) → -((k:Int) * (B * C)) ≤ dot f st k ∧ dot f st k ≤ (k:Int) * (B * C)
  | 0,_=>by simp [dot]
  | k + 1,h=>by
    have ih:=dot_bound (f:=f) (st:=st) (B:=B) (C:=C) k fun i hi=>h i (by omega)
    have h1:=h k (by omega)
    have h2:=E1z h1.1 h1.2
    simp only [dot,Int.natCast_add,Int.add_mul]
    simp only [Int.cast_ofNat_Int,Int.one_mul]
    omega


def idxP (sh idx:List Int) (i:Nat):Int:=if vIx sh idx=true ∧ i < sh.length then idx.getD i 0 else 0
abbrev OV (b:Int) (sh st:List Int):AV → List (List AV) → Prop:=fun r H'=>r=.agg [.int .i64 b,.own 0 sh.length 1,.own 1 st.length 1] ∧ H'=[IL sh,IL st]


def endI (x n b:Int):Int:=min (max (if b < 0 then -1 else 0) (if x < 0 then x + n else x)) (if b < 0 then n - 1 else n)
def sFrom (f n b:Int) (hf:Bool):Int:=if hf=true then endI f n b else if b < 0 then n - 1 else 0
def sTo (t n b:Int) (ht:Bool):Int:=if ht=true then endI t n b else if b < 0 then -1 else n
theorem Hyz {x n b:Int} (hn:0 ≤ n ∧ n ≤ 60):-1 ≤ endI x n b ∧ endI x n b ≤ 60:=by
  unfold endI;split<;>split<;>omega
theorem sFrom_bound {f n b:Int} {hf:Bool} (hn:0 ≤ n ∧ n ≤ 60):-1 ≤ sFrom f n b hf ∧ sFrom f n b hf ≤ 60:=by
  have:=Hyz (x:=f) (b:=b) hn
  unfold sFrom;split
  · exact this
  · split<;>omega
theorem sTo_bound {t n b:Int} {ht:Bool} (hn:0 ≤ n ∧ n ≤ 60):-1 ≤ sTo t n b ht ∧ sTo t n b ht ≤ 60:=by
  have:=Hyz (x:=t) (b:=b) hn
  unfold sTo;split
  · exact this
  · split<;>omega
theorem Hmz {f t b n:Int} {hf ht:Bool} (hn:0 ≤ n ∧ n ≤ 60) (hs:vS f t b hf ht=true):vR (sFrom f n b hf) (sTo t n b ht) b=true:=by
  obtain ⟨h1,h2,h3,h4,-,-⟩:=H5z.1 hs
  have:=sFrom_bound (f:=f) (b:=b) (hf:=hf) hn
  have:=sTo_bound (t:=t) (b:=b) (ht:=ht) hn
  exact Dmz.2 ⟨by omega,by omega,h3,h4⟩


def pS (a k:Int):Int:=if k < 1 then 0 else a
def pE (a c k:Int):Int:=if k < 1 then 0 else if k=1 then a + 1 else if c < 0 then a + (k - 1) * c - 1 else a + (k - 1) * c + 1
def pC (c k:Int):Int:=if k ≤ 1 then 1 else c
abbrev PR (a c k:Int):AV:=rng (pS a k) (pE a c k) (pC c k)


theorem idx_in {f t b n:Int} {hf ht:Bool} (hn:0 ≤ n ∧ n ≤ 60) (hs:vS f t b hf ht=true) {i:Nat} (h:i < cntN (sFrom f n b hf) (sTo t n b ht) b):0 ≤ sFrom f n b hf + (i:Int) * b ∧ sFrom f n b hf + (i:Int) * b < n:=by
  have h1:=(cntN_lt (Hmz hn hs) i).1 h
  rcases h1 with ⟨hb,h2⟩|⟨hb,h2⟩
  · have p:0 ≤ (i:Int) * b:=Int.mul_nonneg (by omega) (by omega)
    have q1:0 ≤ sFrom f n b hf:=by unfold sFrom endI;split<;>(try split)<;>omega
    have q2:sTo t n b ht ≤ n:=by unfold sTo endI;split<;>(try split)<;>omega
    omega
  · have p:0 ≤ (i:Int) * (0 - b):=Int.mul_nonneg (by omega) (by omega)
    rw [Int.zero_sub,Int.mul_neg] at p
    have q1:sFrom f n b hf ≤ n - 1:=by unfold sFrom endI;split<;>(try split)<;>omega
    have q2:-1 ≤ sTo t n b ht:=by unfold sTo endI;split<;>(try split)<;>omega
    omega
theorem mul_bd {x y:Int} {p q:Nat} (h1:-(p:Int) ≤ x ∧ x ≤ p) (h2:-(q:Int) ≤ y ∧ y ≤ q):-((p * q:Nat):Int) ≤ x * y ∧ x * y ≤ (p * q:Nat):=by
  have e:(x * y).natAbs ≤ p * q:=by rw [Int.natAbs_mul];exact Nat.mul_le_mul (by omega) (by omega)
  omega


end VwM
namespace VwM
open Vw
open Go

theorem mem_getD {xs:List Int} {x:Int}:x ∈ xs ↔ ∃ j,j < xs.length ∧ xs.getD j 0=x:=by
  constructor
  · intro h
    obtain ⟨i,hi,e⟩:=List.getElem_of_mem h
    exact ⟨i,hi,by simp [List.getD,hi,e]⟩
  · rintro ⟨j,hj,rfl⟩
    simp [List.getD,hj]
theorem Cuz {xs:List Int} {j:Nat} (h:j < xs.length):xs.getD j 0 ∈ xs:=mem_getD.2 ⟨j,h,rfl⟩
theorem PR_valid {s c:Int} {n:Nat} (h0:c ≠ 0) (hc:-200 ≤ c ∧ c ≤ 200) (hb:∀ i:Nat,i < n → -100 ≤ s + (i:Int) * c ∧ s + (i:Int) * c ≤ 100) :
    vR (pS s n) (pE s c n) (pC c n)=true:=by
  match n with
  | 0=>simp [pS,pE,pC,vR]
  | 1 =>
    have:=hb 0 (by omega)
    simp at this
    simp [pS,pE,pC,vR];omega
  | n + 2 =>
    have b0:=hb 0 (by omega)
    have bl:=hb (n + 1) (by omega)
    simp only [Int.natCast_zero,Int.zero_mul,Int.add_zero] at b0
    have p1:¬ ((n + 2:Nat):Int) < 1:=by omega
    have p2:¬ ((n + 2:Nat):Int) ≤ 1:=by omega
    have p3:¬ ((n + 2:Nat):Int)=1:=by omega
    simp only [pS,pE,pC,if_neg p1,if_neg p2,if_neg p3]
    rw [show ((n + 2:Nat):Int) - 1=((n + 1:Nat):Int) by omega]
    refine Dmz.2 ⟨by omega,?_,hc,h0⟩
    split<;>omega
theorem cntN_PR {s c:Int} {n:Nat} (h0:c ≠ 0) (hc:-200 ≤ c ∧ c ≤ 200) (hb:∀ i:Nat,i < n → -100 ≤ s + (i:Int) * c ∧ s + (i:Int) * c ≤ 100) :
    cntN (pS s n) (pE s c n) (pC c n)=n:=by
  have hv:=PR_valid h0 hc hb
  have key:∀ i:Nat,i < cntN (pS s n) (pE s c n) (pC c n) ↔ i < n:=by
    intro i
    rw [cntN_lt hv]
    match n with
    | 0=>simp [pS,pE,pC];try omega
    | 1=>simp [pS,pE,pC];try omega
    | n + 2 =>
      have p1:¬ ((n + 2:Nat):Int) < 1:=by omega
      have p2:¬ ((n + 2:Nat):Int) ≤ 1:=by omega
      have p3:¬ ((n + 2:Nat):Int)=1:=by omega
      simp only [pS,pE,pC,if_neg p1,if_neg p2,if_neg p3]
      rw [show ((n + 2:Nat):Int) - 1=((n + 1:Nat):Int) by omega]
      by_cases hn:c < 0
      · rw [if_pos hn]
        constructor
        · rintro (h|h)
          · omega
          · rcases Nat.lt_or_ge i (n + 2) with g|g
            · exact g
            · have:=Int.mul_le_mul_of_nonneg_right (a:=((n + 2:Nat):Int)) (b:=(i:Int)) (c:=0 - c) (by omega) (by omega)
              rw [Int.mul_sub,Int.mul_sub,Int.mul_zero,Int.mul_zero,show ((n + 2:Nat):Int)=((n + 1:Nat):Int) + 1 by omega,Int.add_mul] at this
              omega
        · intro g
          right
          have:=Int.mul_le_mul_of_nonneg_right (a:=(i:Int)) (b:=((n + 1:Nat):Int)) (c:=0 - c) (by omega) (by omega)
          rw [Int.mul_sub,Int.mul_sub,Int.mul_zero,Int.mul_zero] at this
          omega
      · rw [if_neg hn]
        constructor
        · rintro (h|h)
          · rcases Nat.lt_or_ge i (n + 2) with g|g
            · exact g
            · have:=Int.mul_le_mul_of_nonneg_right (a:=((n + 2:Nat):Int)) (b:=(i:Int)) (c:=c) (by omega) (by omega)
              rw [show ((n + 2:Nat):Int)=((n + 1:Nat):Int) + 1 by omega,Int.add_mul] at this
              omega
          · omega
        · intro g
          left
          have:=Int.mul_le_mul_of_nonneg_right (a:=(i:Int)) (b:=((n + 1:Nat):Int)) (c:=c) (by omega) (by omega)
          omega
  rcases Nat.lt_trichotomy (cntN (pS s n) (pE s c n) (pC c n)) n with h|h|h
  · have:=(key _).2 h;omega
  · exact h
  · have:=(key _).1 h;omega
theorem Efz [Inhabited GlobT] {P:Program} {f:Nat} {args:List AV} {xs:List Int} (h:BCall P f args [] (OI xs)):PCall P f args (fun r=>r=.rows true (IL xs) xs.length):=by
  refine (BCall.plain h).mono ?_
  rintro r ⟨r0,H',⟨rfl,rfl⟩,rfl⟩
  simp [AV.ren,nthH,List.map_map,Function.comp_def]
theorem plainV [Inhabited GlobT] {P:Program} {f:Nat} {args:List AV} {b:Int} {sh st:List Int} (h:BCall P f args [] (OV b sh st)):PCall P f args (fun r=>r=.agg [.int .i64 b,.rows true (IL sh) sh.length,.rows true (IL st) st.length]):=by
  refine (BCall.plain h).mono ?_
  rintro r ⟨r0,H',⟨rfl,rfl⟩,rfl⟩
  simp [AV.ren,nthH,List.map_map,Function.comp_def]
end VwM
namespace VwM
open Vw
open Go

def horF (sh:List Int) (f:Nat → Int):Nat → Int
  | 0=>0
  | k + 1=>horF sh f k * sh.getD k 0 + f k
def isIx (sh:List Int) (f:Nat → Int):Prop:=∀ i,i < sh.length → 0 ≤ f i ∧ f i < sh.getD i 0
theorem D5z {sh:List Int} {f:Nat → Int} (hf:isIx sh f):∀ k,k ≤ sh.length → 0 ≤ horF sh f k ∧ horF sh f k + 1 ≤ pr (sh.take k)
  | 0,_=>by simp [horF,pr_nil]
  | k + 1,h=>by
    have ih:=D5z hf k (by omega)
    have h3:=hf k (by omega)
    rw [Fmz sh k (by omega)]
    have h5:(horF sh f k + 1) * sh.getD k 0 ≤ pr (sh.take k) * sh.getD k 0:=Int.mul_le_mul_of_nonneg_right ih.2 (by omega)
    have h6:0 ≤ horF sh f k * sh.getD k 0:=Int.mul_nonneg ih.1 (by omega)
    rw [Int.add_mul,Int.one_mul] at h5
    simp only [horF]
    omega
theorem kS_horF {sh:List Int} {f:Nat → Int} (hf:isIx sh f):∀ j,j ≤ sh.length → kS sh (horF sh f sh.length) j=horF sh f (sh.length - j)
  | 0,_=>by simp [kS]
  | j + 1,h=>by
    have ih:=kS_horF hf j (by omega)
    have h1:=hf (sh.length - 1 - j) (by omega)
    have h2:=D5z hf (sh.length - 1 - j) (by omega)
    simp only [kS]
    rw [ih,show sh.length - j=sh.length - 1 - j + 1 by omega,show sh.length - (j + 1)=sh.length - 1 - j by omega]
    simp only [horF]
    have h3:0 ≤ horF sh f (sh.length - 1 - j) * sh.getD (sh.length - 1 - j) 0:=Int.mul_nonneg h2.1 (by omega)
    rw [Int.tdiv_eq_ediv_of_nonneg (by omega),Int.add_comm,Int.add_mul_ediv_right _ _ (by omega),Int.ediv_eq_zero_of_lt h1.1 h1.2]
    omega
theorem dig_horF {sh:List Int} {f:Nat → Int} (hf:isIx sh f) {i:Nat} (hi:i < sh.length):dig sh (horF sh f sh.length) i=f i:=by
  unfold dig
  have h1:=hf i hi
  have h2:=D5z hf i (by omega)
  rw [kS_horF hf _ (by omega),show sh.length - (sh.length - 1 - i)=i + 1 by omega]
  simp only [horF]
  have h3:0 ≤ horF sh f i * sh.getD i 0:=Int.mul_nonneg h2.1 (by omega)
  rw [Int.tmod_eq_emod_of_nonneg (by omega),Int.add_comm,Int.add_mul_emod_self_right,Int.emod_eq_of_lt h1.1 h1.2]
theorem dig_isIx {sh:List Int} (hg:good4 sh) {k:Int} (hk:0 ≤ k) (h:k < pr sh):isIx sh (dig sh k):=fun i hi =>
  dig_bound hk (Gdz hg (by omega)) (fun i hi=>(Dgz hg hi).2) hi

def cellK (b:Int) (sh st:List Int) (k:Int):Int:=b + dot (dig sh k) st sh.length
def offs (b:Int) (sh st:List Int):List Int:=(List.range (pr sh).toNat).map fun k:Nat=>cellK b sh st k
theorem Bkz (b:Int) (sh st:List Int):(offs b sh st).length=(pr sh).toNat:=by simp [offs]
theorem mem_offs {b:Int} {sh st:List Int} {x:Int}:x ∈ offs b sh st ↔ ∃ k:Nat,k < (pr sh).toNat ∧ cellK b sh st k=x:=by simp [offs]
theorem Dez {b:Int} {sh st:List Int} (hg:good4 sh) {x:Int}:x ∈ offs b sh st ↔ ∃ f,isIx sh f ∧ b + dot f st sh.length=x:=by
  rw [mem_offs]
  constructor
  · rintro ⟨k,hk,rfl⟩
    exact ⟨dig sh k,dig_isIx hg (by omega) (by omega),rfl⟩
  · rintro ⟨f,hf,rfl⟩
    have h:=D5z hf sh.length (Nat.le_refl _)
    rw [List.take_length] at h
    refine ⟨(horF sh f sh.length).toNat,by omega,?_⟩
    unfold cellK
    rw [show (((horF sh f sh.length).toNat:Nat):Int)=horF sh f sh.length by omega,Gzz fun i hi=>dig_horF hf hi]
def vSt (st:List Int) (n:Nat):Bool:=decide (st.length=n) && allI st (-60) 60
theorem C8z {st:List Int} {n:Nat}:vSt st n=true ↔ st.length=n ∧ ∀ x ∈ st,-60 ≤ x ∧ x ≤ 60:=by
  simp only [vSt,Bool.and_eq_true,decide_eq_true_eq,B8z]
theorem vSt_at {st:List Int} {n i:Nat} (h:vSt st n=true) (hi:i < n):-60 ≤ st.getD i 0 ∧ st.getD i 0 ≤ 60:=by
  obtain ⟨h1,h2⟩:=C8z.1 h
  exact h2 _ (Cuz (by omega))
def vV (b:Int) (sh st:List Int):Bool:=vSh sh && vSt st sh.length && (decide (0 ≤ b) && decide (b ≤ 60)) && (decide (pr sh=0) || allI (offs b sh st) 0 59)
theorem B3z {b:Int} {sh st:List Int}:vV b sh st=true ↔ vSh sh=true ∧ vSt st sh.length=true ∧ (0 ≤ b ∧ b ≤ 60) ∧ (pr sh=0 ∨ ∀ x ∈ offs b sh st,0 ≤ x ∧ x ≤ 59):=by
  simp only [vV,Bool.and_eq_true,Bool.or_eq_true,decide_eq_true_eq,B8z,and_assoc]
theorem vV_cells {b:Int} {sh st:List Int} (h:vV b sh st=true):∀ x ∈ offs b sh st,0 ≤ x ∧ x ≤ 59:=by
  obtain ⟨h1,h2,h3,h4⟩:=B3z.1 h
  rcases h4 with h4|h4
  · intro x hx
    obtain ⟨k,hk,_⟩:=mem_offs.1 hx
    omega
  · exact h4
end VwM
namespace VwM
open Vw
open Go

theorem mkAV_bools (bs:List Bool) (off:Nat):mkAV false (((bs.map AV.bool).drop off).take 1)=if off < bs.length then some (.bool (bs.getD off false)) else none:=by
  by_cases h:off < bs.length
  · rw [if_pos h,List.drop_eq_getElem_cons (by simpa using h)]
    simp [mkAV,h,List.getD]
  · rw [if_neg h,List.drop_eq_nil_of_le (by simp;omega)]
    rfl
attribute [push_cast] mkAV_bools
def met (xs:List Int) (k:Nat):List Bool:=(List.range 60).map fun c:Nat=>decide ((c:Int) ∈ xs.take k)
end VwM
namespace VwM
open Vw
open Go

theorem take3 (xs:List Int) (off:Nat) (h:off + 3 ≤ xs.length):((xs.map (AV.int .i64)).drop off).take 3=[.int .i64 (xs.getD off 0),.int .i64 (xs.getD (off + 1) 0),.int .i64 (xs.getD (off + 2) 0)]:=by
  rw [List.drop_eq_getElem_cons (by simp;omega),List.drop_eq_getElem_cons (by simp;omega),List.drop_eq_getElem_cons (by simp;omega)]
  have h1:off < xs.length:=by omega
  have h2:off + 1 < xs.length:=by omega
  have h3:off + 2 < xs.length:=by omega
  have e3:off + 1 + 1=off + 2:=rfl
  simp only [e3]
  simp [h1,h2,h3,List.getD]
attribute [push_cast] take3
theorem zcells3_1:zcells [AV.int .i64 0,.int .i64 0,.int .i64 0] 1=[AV.int .i64 0,.int .i64 0,.int .i64 0]:=rfl
attribute [push_cast] zcells3_1
end VwM
namespace VwM
open Vw
open Go

theorem H3z {n:Int} (h0:0 ≤ n) (h1:n < 1099511627776):IntKind.wrap .i64 n=n:=IntWalk.i64_in n (by omega)
theorem xor_bound {a b:Int} (ha:0 ≤ a ∧ a < 1099511627776) (hb:0 ≤ b ∧ b < 1099511627776):0 ≤ bits .xor .i64 a b ∧ bits .xor .i64 a b < 1099511627776:=by
  have h:(BitVec.ofInt 64 a ^^^ BitVec.ofInt 64 b).toNat < 1099511627776:=by
    rw [BitVec.toNat_xor,BitVec.toNat_ofInt,BitVec.toNat_ofInt]
    have e1:(a % ((2 ^ 64:Nat):Int)).toNat < 2 ^ 40:=by
      rw [Int.emod_eq_of_lt ha.1 (by omega)];omega
    have e2:(b % ((2 ^ 64:Nat):Int)).toNat < 2 ^ 40:=by
      rw [Int.emod_eq_of_lt hb.1 (by omega)];omega
    exact Nat.xor_lt_two_pow e1 e2
  have e:bits .xor .i64 a b=IntKind.wrap .i64 ((BitVec.ofInt 64 a ^^^ BitVec.ofInt 64 b).toNat:Int):=rfl
  rw [e,H3z (by omega) (by omega)]
  omega
abbrev UL (bs:List Int):List AV:=bs.map (AV.int .u8)
abbrev RD (bs:List Int) (p:Int):List AV:=[.rows false (UL bs) bs.length,.int .i64 p]
def okB (bs:List Int):Prop:=bs.length ≤ 2000 ∧ ∀ x ∈ bs,0 ≤ x ∧ x ≤ 255
theorem okB_at {bs:List Int} (h:okB bs) {i:Nat} (hi:i < bs.length):0 ≤ bs.getD i 0 ∧ bs.getD i 0 ≤ 255:=h.2 _ (Cuz hi)
theorem Clz {x n:Int} (hx:0 ≤ x) (hn:0 < n):0 ≤ x.tmod n ∧ x.tmod n < n:=⟨Int.tmod_nonneg n hx,Int.tmod_lt_of_pos x hn⟩
def unI:List AV → List Int
  | []=>[]
  | .int _ n :: r=>n :: unI r
  | _ :: r=>0 :: unI r
theorem H7z:unI []=[]:=rfl
theorem Fuz (k:IntKind) (n:Int) (r:List AV):unI (.int k n :: r)=n :: unI r:=rfl
theorem unI_IL (xs:List Int):unI (IL xs)=xs:=by
  induction xs with
  | nil=>rfl
  | cons x r ih=>show x :: unI (IL r)=_;rw [ih]
attribute [simp] H7z Fuz unI_IL
end VwM
namespace VwM
open Vw
open Go

end VwM
namespace VwM
open Vw
open Go

end VwM
namespace VwM
open Vw
open Go

theorem pr_append (xs ys:List Int):pr (xs ++ ys)=pr xs * pr ys:=by
  induction xs with
  | nil=>rw [List.nil_append,pr_nil,Int.one_mul]
  | cons x r ih=>rw [List.cons_append,Ijz,Ijz,ih,Int.mul_assoc]
end VwM
namespace VwM
open Vw
open Go

def wo (xs:List Int) (k:Nat):List Int:=xs.take k ++ xs.drop (k + 1)
theorem wo_length {xs:List Int} {k:Nat} (h:k < xs.length):(wo xs k).length=xs.length - 1:=by simp [wo];omega
theorem wo_mem {xs:List Int} {k:Nat} {x:Int} (h:x ∈ wo xs k):x ∈ xs:=by
  rcases List.mem_append.1 h with h|h
  · exact List.mem_of_mem_take h
  · exact List.mem_of_mem_drop h
theorem pr_wo {xs:List Int} {k:Nat} (h:k < xs.length):pr xs=pr (wo xs k) * xs.getD k 0:=by
  unfold wo
  rw [pr_append,show pr xs=pr (xs.take k ++ xs.drop k) by rw [List.take_append_drop],pr_append,pr_drop xs k h]
  rw [Int.mul_assoc,Int.mul_comm (xs.getD k 0)]
theorem good4_wo {xs:List Int} (h:good4 xs) (k:Nat) (hk:k < xs.length):good4 (wo xs k):=⟨fun x hx=>h.1 x (wo_mem hx),by rw [wo_length hk];have:=h.2;omega⟩
end VwM
namespace VwM
open Vw
open Go

end VwM
namespace VwM
open Vw
open Go

end VwM
namespace VwM
open Vw
open Go

def MVB (v:Bool) (b:Int):Int:=if v=true then b else 0
def MVL (v:Bool) (l:List Int):List Int:=if v=true then l else []
theorem F4z (b:Int):MVB true b=b:=rfl
theorem E9z (b:Int):MVB false b=0:=rfl
theorem MVL_true (l:List Int):MVL true l=l:=rfl
theorem MVL_false (l:List Int):MVL false l=[]:=rfl
abbrev MV (v:Bool) (b:Int) (sh st:List Int):AV → List (List AV) → Prop:=fun r H' =>
  r=.tup [.agg [.int .i64 (MVB v b),.own 0 (MVL v sh).length 1,.own 1 (MVL v st).length 1],.bool v] ∧ H'=[IL (MVL v sh),IL (MVL v st)]

def cutK (n f t w:Int) (hf ht:Bool):Nat:=cntN (sFrom f n w hf) (sTo t n w ht) w
def cutSh (sh:List Int) (j:Nat) (f t w:Int) (hf ht:Bool):List Int:=sh.set j (cutK (sh.getD j 0) f t w hf ht)
def cutX (sh st:List Int) (j:Nat) (f t w:Int) (hf ht:Bool):Int:=if (cutK (sh.getD j 0) f t w hf ht:Int) ≤ 1 then 0 else pC w (cutK (sh.getD j 0) f t w hf ht) * st.getD j 0
def cutSt (sh st:List Int) (j:Nat) (f t w:Int) (hf ht:Bool):List Int :=
  if pr (cutSh sh j f t w hf ht)=0 then List.replicate sh.length 0 else st.set j (cutX sh st j f t w hf ht)
def cutB (b:Int) (sh st:List Int) (j:Nat) (f t w:Int) (hf ht:Bool):Int :=
  if pr (cutSh sh j f t w hf ht)=0 then 0 else b + pS (sFrom f (sh.getD j 0) w hf) (cutK (sh.getD j 0) f t w hf ht) * st.getD j 0
theorem Bqz (sh:List Int) (j:Nat) (f t w:Int) (hf ht:Bool):(cutSh sh j f t w hf ht).length=sh.length:=by simp [cutSh]
theorem Fsz {sh st:List Int} (hl:st.length=sh.length) (j:Nat) (f t w:Int) (hf ht:Bool):(cutSt sh st j f t w hf ht).length=sh.length:=by
  unfold cutSt;split<;>simp [hl]
theorem cutK_le {n f t w:Int} {hf ht:Bool} (hn:0 ≤ n ∧ n ≤ 60) (hs:vS f t w hf ht=true):(cutK n f t w hf ht:Int) ≤ n:=by
  have hw:=(H5z.1 hs).2.2.2.1
  match hk:cutK n f t w hf ht with
  | 0=>omega
  | k + 1 =>
    have a:=idx_in hn hs (i:=k) (show k < cutK n f t w hf ht by omega)
    have b:=idx_in hn hs (i:=0) (show 0 < cutK n f t w hf ht by omega)
    simp only [Int.natCast_zero,Int.zero_mul,Int.add_zero] at b
    rcases Int.lt_or_le w 0 with h|h
    · have:(k:Int) * w ≤ (k:Int) * (-1):=Int.mul_le_mul_of_nonneg_left (by omega) (by omega)
      omega
    · have:(k:Int) * 1 ≤ (k:Int) * w:=Int.mul_le_mul_of_nonneg_left (by omega) (by omega)
      omega
theorem good4_set {sh:List Int} (hg:good4 sh) (j:Nat) {x:Int} (hx:0 ≤ x ∧ x ≤ 60):good4 (sh.set j x) :=
  ⟨fun y hy=>by
    rcases List.mem_or_eq_of_mem_set hy with h|h
    · exact hg.1 y h
    · omega,by simp;exact hg.2⟩
theorem good4_cut {sh:List Int} (hg:good4 sh) {j:Nat} (hj:j < sh.length) {f t w:Int} {hf ht:Bool} (hs:vS f t w hf ht=true):good4 (cutSh sh j f t w hf ht):=by
  have hn:=Dgz hg hj
  have:=cutK_le hn hs
  exact good4_set hg j (by omega)
end VwM
namespace VwM
open Vw
open Go

theorem Itz {f:Nat → Int} {st:List Int}:∀ n,(∀ i,i < n → f i=0) → dot f st n=0
  | 0,_=>rfl
  | n + 1,h=>by simp only [dot];rw [Itz n fun i hi=>h i (by omega),h n (by omega)];simp
end VwM
namespace VwM
open Vw
open Go

theorem take2 (xs:List Int) (off:Nat) (h:off + 2 ≤ xs.length):((xs.map (AV.int .i64)).drop off).take 2=[.int .i64 (xs.getD off 0),.int .i64 (xs.getD (off + 1) 0)]:=by
  rw [List.drop_eq_getElem_cons (by simp;omega),List.drop_eq_getElem_cons (by simp;omega)]
  have h1:off < xs.length:=by omega
  have h2:off + 1 < xs.length:=by omega
  simp [h1,h2,List.getD]
theorem take2_0 (xs:List Int) (h:2 ≤ xs.length):(xs.map (AV.int .i64)).take 2=[.int .i64 (xs.getD 0 0),.int .i64 (xs.getD 1 0)]:=by
  have:=take2 xs 0 (by omega)
  rwa [List.drop_zero] at this
attribute [push_cast] take2 take2_0
theorem zcells2_1:zcells [AV.int .i64 0,.int .i64 0] 1=[AV.int .i64 0,.int .i64 0]:=rfl
attribute [push_cast] zcells2_1
end VwM
namespace VwM
open Vw
open Go

end VwM
namespace VwM
open Vw
open Go

end VwM
namespace VwM
open Vw
open Go

def takesL (xs at_:List Int):List Int:=at_.map fun i=>xs.getD i.toNat 0
end VwM
namespace VwM
open Vw Go

def vMem (mem:List Int):Bool:=decide (mem.length ≤ 60) && allI mem 0 255
theorem Chz {mem:List Int}:vMem mem=true ↔ mem.length ≤ 60 ∧ ∀ x ∈ mem,0 ≤ x ∧ x ≤ 255:=by
  simp only [vMem,Bool.and_eq_true,decide_eq_true_eq,B8z]
def seeB (mem:List Int) (b:Int) (sh st:List Int):Bool:=vMem mem && vV b sh st && allI (offs b sh st) 0 ((mem.length:Int) - 1)
theorem Evz {mem:List Int} {b:Int} {sh st:List Int}:seeB mem b sh st=true ↔ vMem mem=true ∧ vV b sh st=true ∧ ∀ x ∈ offs b sh st,0 ≤ x ∧ x ≤ (mem.length:Int) - 1:=by
  simp only [seeB,Bool.and_eq_true,B8z,and_assoc]
theorem seeB_at {mem:List Int} {b:Int} {sh st:List Int} (h:seeB mem b sh st=true) {k:Nat} (hk:k < (offs b sh st).length):0 ≤ (offs b sh st).getD k 0 ∧ (offs b sh st).getD k 0 ≤ (mem.length:Int) - 1 :=
  (Evz.1 h).2.2 _ (Cuz hk)



theorem Daz (xs at_:List Int):(takesL xs at_).length=at_.length:=by simp [takesL]
def putK (mem cells vals:List Int):Nat → List Int
  | 0=>mem
  | k + 1=>(putK mem cells vals k).set (cells.getD k 0).toNat (vals.getD k 0)
def putL (mem cells vals:List Int):List Int:=putK mem cells vals cells.length
theorem Ddz (mem cells vals:List Int):∀ k,(putK mem cells vals k).length=mem.length
  | 0=>rfl
  | k + 1=>by simp [putK,Ddz mem cells vals k]
theorem Cnz (mem cells vals:List Int):(putL mem cells vals).length=mem.length:=Ddz _ _ _ _

end VwM
namespace VwM
open Vw Go

def rpt (c:List Int):Nat → List Int
  | 0=>[]
  | n + 1=>c ++ rpt c n
theorem Hjz (c:List Int):∀ n,(rpt c n).length=n * c.length
  | 0=>by simp [rpt]
  | n + 1=>by simp [rpt,Hjz c n,Nat.add_mul];omega
theorem rpt_one (x:Int):∀ n,rpt [x] n=List.replicate n x
  | 0=>rfl
  | n + 1=>by simp [rpt,rpt_one x n,List.replicate_succ]
end VwM
namespace Vw
open Go
variable [Inhabited GlobT]

def fid (i:Nat):Nat:=1099511627776 + i
theorem Isz (i j:Nat):(fid i=fid j)=(i=j):=by unfold fid;exact propext ⟨fun h=>by omega,fun h=>by omega⟩
theorem fid_ne (i n:Nat) (h:n < 1099511627776):(fid i=n)=False:=by unfold fid;exact propext ⟨fun h=>by omega,False.elim⟩
theorem ne_fid (i n:Nat) (h:n < 1099511627776):(n=fid i)=False:=by unfold fid;exact propext ⟨fun h=>by omega,False.elim⟩
theorem fid_div (i d:Nat) (h:d < 68719476736):(fid i / 16=d)=False:=by unfold fid;exact propext ⟨fun h=>by omega,False.elim⟩
theorem fid_ge (i n:Nat) (h:n < 1099511627776):(n ≤ fid i)=True:=by unfold fid;exact propext ⟨fun _=>trivial,fun _=>by omega⟩

def famL (f:Nat → List AV):Nat → List (Nat × List AV)
  | 0=>[]
  | n + 1=>(fid n,f n) :: famL f n
theorem Grz (f:Nat → List AV) (i:Nat):∀ n,hk (famL f n) (fid i)=if i < n then some (f i) else none
  | 0=>by simp [famL,hk]
  | n + 1=>by
    simp only [famL,hk,Isz,Grz f i n]
    by_cases h:i=n
    · subst h;simp
    · rw [if_neg h]
      by_cases h':i < n
      · rw [if_pos h',if_pos (by omega)]
      · rw [if_neg h',if_neg (by omega)]
theorem Gqz (f:Nat → List AV) (id:Nat) (h:id < 1099511627776):∀ n,hk (famL f n) id=none
  | 0=>rfl
  | n + 1=>by simp only [famL,hk,ne_fid n id h,if_false,Gqz f id h n]
theorem Guz (f:Nat → List AV) (d:Nat) (h:d < 68719476736):∀ n,freshD (famL f n) d=True
  | 0=>rfl
  | n + 1=>by simp only [famL,freshD,fid_div n d h,not_false_eq_true,Guz f d h n,and_self]
attribute [push_cast] Isz fid_ne ne_fid fid_div fid_ge Grz Gqz Guz
end Vw
namespace Vw
open Go VwM
variable [Inhabited GlobT]

def row (C:Nat) (h:Nat → AV):List AV:=(List.range C).map h
theorem Hkz (C:Nat) (h:Nat → AV):(row C h).length=C:=by simp [row]
theorem row_map (C:Nat) (h:Nat → AV) (φ:AV → AV):(row C h).map φ=row C fun p=>φ (h p):=by simp [row,Function.comp_def]
theorem row_congr {C:Nat} {h g:Nat → AV} (e:∀ p,p < C → h p=g p):row C h=row C g:=by
  unfold row
  exact List.map_congr_left fun p hp=>e p (List.mem_range.1 hp)
theorem row_get (C:Nat) (h:Nat → AV) (p:Nat):(row C h)[p]?=if p < C then some (h p) else none:=by
  unfold row
  rw [List.getElem?_map]
  by_cases hp:p < C
  · rw [if_pos hp,List.getElem?_range hp];rfl
  · rw [if_neg hp,List.getElem?_eq_none (by simpa using hp)];rfl
theorem row_ext {C:Nat} {L:List AV} {h:Nat → AV} (hl:L.length=C) (e:∀ p,p < C → L[p]?=some (h p)):L=row C h:=by
  apply List.ext_getElem?
  intro q
  rw [row_get]
  by_cases hq:q < C
  · rw [if_pos hq,e q hq]
  · rw [if_neg hq,List.getElem?_eq_none (by omega)]
structure Fam where
  C:Nat
  R:Nat
  pat:Nat → AV ⊕ Nat
  rows:Nat → List Int
  ok:∀ p j,p < C → pat p=.inr j → j < R
  cell:∀ p a,pat p=.inl a → (∃ k x,a=.int k x) ∨ ∃ b,a=.bool b
def Fam.atG (F:Fam) (g:Nat → Nat) (p:Nat):AV:=match F.pat p with
  | .inl a=>a
  | .inr j=>.own (g j) (F.rows j).length 1
def Fam.atP (F:Fam) (b:Bool) (p:Nat):AV:=match F.pat p with
  | .inl a=>a
  | .inr j=>.rows b (IL (F.rows j)) (F.rows j).length
def Fam.cellsG (F:Fam) (g:Nat → Nat):List AV:=row F.C (F.atG g)
def Fam.plain (F:Fam) (b:Bool):List AV:=row F.C (F.atP b)
theorem Ixz (F:Fam) (g:Nat → Nat):(F.cellsG g).length=F.C:=Hkz ..
theorem plain_length (F:Fam) (b:Bool):(F.plain b).length=F.C:=Hkz ..
structure Fam.like (F G:Fam):Prop where
  C:G.C=F.C
  R:G.R=F.R
  len:∀ j,j < F.R → (G.rows j).length=(F.rows j).length

def fim (d j:Nat):Nat:=fid (65536 * j + d)
theorem fim_ne (d j n:Nat) (h:n < 1099511627776):(fim d j=n)=False:=fid_ne _ _ h
theorem ne_fim (d j n:Nat) (h:n < 1099511627776):(n=fim d j)=False:=ne_fid _ _ h
theorem fim_inj {d i j:Nat} (h:fim d i=fim d j):i=j:=by unfold fim at h;rw [Isz] at h;omega
theorem fim_oth {d d' i j:Nat} (h1:d < 65536) (h2:d' < 65536) (h:fim d i=fim d' j):d=d':=by unfold fim at h;rw [Isz] at h;omega
theorem Irz (d j n:Nat) (h:n < 68719476736):(fim d j / 16=n)=False:=fid_div _ _ h
theorem fim_low (d j:Nat):1099511627776 ≤ fim d j:=by unfold fim fid;omega

def famD (d:Nat) (F:Fam):List (Nat × List AV):=(List.range F.R).map fun j=>(fim d j,IL (F.rows j))
theorem Cbz (g:Nat → Nat) (f:Nat → List AV) (r:List (Nat × List AV)) (id:Nat):∀ l:List Nat,(∀ j ∈ l,g j ≠ id) → hk (l.map (fun j=>(g j,f j)) ++ r) id=hk r id
  | [],_=>rfl
  | a :: l,h=>by
    simp only [List.map_cons,List.cons_append,hk]
    rw [if_neg (fun e=>h a (by simp) e.symm)]
    exact Cbz g f r id l fun j hj=>h j (by simp [hj])
theorem Cyz (g:Nat → Nat) (hg:∀ i j,g i=g j → i=j) (f:Nat → List AV) (r:List (Nat × List AV)) (i:Nat):∀ l:List Nat,i ∈ l → hk (l.map (fun j=>(g j,f j)) ++ r) (g i)=some (f i)
  | [],h=>by cases h
  | a :: l,h=>by
    simp only [List.map_cons,List.cons_append,hk]
    by_cases e:g i=g a
    · rw [if_pos e,hg _ _ e]
    · rw [if_neg e]
      rcases List.mem_cons.1 h with h|h
      · exact absurd (by rw [h]) e
      · exact Cyz g hg f r i l h
theorem Dtz (d:Nat) (F:Fam) (r:List (Nat × List AV)) (j:Nat) (h:j < F.R):hk (famD d F ++ r) (fim d j)=some (IL (F.rows j)) :=
  Cyz (fim d) (fun _ _=>fim_inj) (fun j=>IL (F.rows j)) r j _ (List.mem_range.2 h)
theorem Gsz (d:Nat) (F:Fam) (r:List (Nat × List AV)) (id:Nat) (h:id < 1099511627776):hk (famD d F ++ r) id=hk r id :=
  Cbz (fim d) (fun j=>IL (F.rows j)) r id _ fun j _ e=>by have:=fim_low d j;omega
theorem Eqz (d:Nat) (F:Fam) (r:List (Nat × List AV)) (d' j:Nat) (h1:d < 65536) (h2:d' < 65536) (hn:d ≠ d'):hk (famD d F ++ r) (fim d' j)=hk r (fim d' j) :=
  Cbz (fim d) (fun j=>IL (F.rows j)) r _ _ fun j _ e=>hn (fim_oth h1 h2 e)
theorem Gvz (d:Nat) (F:Fam) (r:List (Nat × List AV)) (n:Nat) (h:n < 68719476736):freshD (famD d F ++ r) n=freshD r n:=by
  unfold famD
  have:∀ l:List Nat,freshD (l.map (fun j=>(fim d j,IL (F.rows j))) ++ r) n=freshD r n:=by
    intro l
    induction l with
    | nil=>rfl
    | cons a l ih=>simp only [List.map_cons,List.cons_append,freshD,Irz _ _ _ h,not_false_eq_true,true_and,ih]
  exact this _
def noFam (d:Nat) (H:List (Nat × List AV)):Prop:=∀ j,hk H (fim d j)=none
theorem noFam_nil (d:Nat):noFam d []=True:=propext ⟨fun _=>trivial,fun _ _=>rfl⟩
theorem noFam_cons (d t:Nat) (v:List AV) (r:List (Nat × List AV)) (h:t < 1099511627776):noFam d ((t,v) :: r)=noFam d r:=by
  unfold noFam
  simp only [hk,fim_ne _ _ t h,if_false]
theorem noFam_fam (d d':Nat) (F:Fam) (r:List (Nat × List AV)) (h:d < 65536 ∧ d' < 65536 ∧ d' ≠ d):noFam d (famD d' F ++ r)=noFam d r:=by
  unfold noFam
  simp only [Eqz d' F r d _ h.2.1 h.1 h.2.2]

theorem E6z (d:Nat) (F:Fam):famD d F=famD d F ++ []:=(List.append_nil _).symm
theorem Ipz (d:Nat) (F:Fam) (j:Nat) (h:j < F.R):hk (famD d F) (fim d j)=some (IL (F.rows j)):=by rw [E6z];exact Dtz d F [] j h
theorem hk_famD_low0 (d:Nat) (F:Fam) (id:Nat) (h:id < 1099511627776):hk (famD d F) id=none:=by rw [E6z];exact Gsz d F [] id h
theorem freshD_famD0 (d:Nat) (F:Fam) (n:Nat) (h:n < 68719476736):freshD (famD d F) n=True:=by rw [E6z];exact Gvz d F [] n h
theorem noFam_fam0 (d d':Nat) (F:Fam) (h:d < 65536 ∧ d' < 65536 ∧ d' ≠ d):noFam d (famD d' F)=True:=by rw [E6z,noFam_fam d d' F [] h,noFam_nil]
theorem ren_IL2 {ρ:Nat → Option Nat} {Z:Nat → Option (List AV)} {b:Bool} {φ:Bool → Option Bool} {n:Nat} (xs:List Int):(IL xs).map (AV.ren ρ Z b φ (n + 1))=IL xs:=by unfold IL;rw [List.map_map];rfl
theorem Fam.ren_plain (F:Fam) {g:Nat → Nat} {ρ:Nat → Option Nat} {Z:Nat → Option (List AV)} {b:Bool} {φ:Bool → Option Bool} {n p:Nat} (h:∀ j,F.pat p=.inr j → ρ (g j)=none ∧ Z (g j)=some (IL (F.rows j))):(F.atG g p).ren ρ Z b φ (n + 2)=F.atP b p:=by
  unfold Fam.atG Fam.atP
  cases e:F.pat p with
  | inl a =>
    rcases F.cell p a e with ⟨k,x,rfl⟩|⟨c,rfl⟩<;>rfl
  | inr j =>
    obtain ⟨h1,h2⟩:=h j e
    simp only [ren_own,h1,h2,renO_none]
    have:(IL (F.rows j)).length=(F.rows j).length * 1:=by unfold IL;simp
    rw [if_pos this,ren_IL2]

def hasFam (d:Nat) (F:Fam) (H:List (Nat × List AV)):Prop:=∀ j,j < F.R → hk H (fim d j)=some (IL (F.rows j))
theorem hasFam_cons (d:Nat) (F:Fam) (t:Nat) (v:List AV) (H:List (Nat × List AV)) (h:t < 1099511627776):hasFam d F ((t,v) :: H)=hasFam d F H:=by
  unfold hasFam
  simp only [hk,fim_ne _ _ t h,if_false]
theorem Gtz (d:Nat) (F:Fam) (r:List (Nat × List AV)):hasFam d F (famD d F ++ r)=True:=propext ⟨fun _=>trivial,fun _ j hj=>Dtz d F r j hj⟩
theorem hasFam_oth (d d':Nat) (F G:Fam) (r:List (Nat × List AV)) (h:d < 65536 ∧ d' < 65536 ∧ d' ≠ d):hasFam d F (famD d' G ++ r)=hasFam d F r:=by
  unfold hasFam
  simp only [Eqz d' G r d _ h.2.1 h.1 h.2.2]
theorem hasFam_same0 (d:Nat) (F:Fam):hasFam d F (famD d F)=True:=by rw [E6z];exact Gtz d F []
open Classical in
noncomputable def rdx (p:Prop) (a b:List AV):List AV:=if p then a else b
theorem rdx_true (a b:List AV):rdx True a b=a:=by unfold rdx;exact if_pos trivial
theorem readF_eq (F:Fam) (d:Nat) {b:Bool} {φ:Bool → Option Bool} {n:Nat} (H:List (Nat × List AV)) :
    (F.cellsG (fim d)).map (AV.ren (posF []) (zF false (hk H)) b φ (n + 2))=rdx (hasFam d F H) (F.plain b) (row F.C fun p=>(F.atG (fim d) p).ren (posF []) (zF false (hk H)) b φ (n + 2)):=by
  unfold rdx
  split
  · rename_i h
    unfold Fam.cellsG Fam.plain
    rw [row_map]
    exact row_congr fun p hp=>F.ren_plain fun j hj=>⟨rfl,h j (F.ok p j hp hj)⟩
  · unfold Fam.cellsG
    rw [row_map]

section
variable {P:Program} {pin:Nat} {σ:List (Nat × AV)} {H:List (Nat × List AV)} {K:S → Prop}
end
attribute [push_cast] Ipz hk_famD_low0 freshD_famD0 noFam_fam0 hasFam_same0 Ixz plain_length fim_ne ne_fim Irz Gsz Dtz Eqz Gvz noFam_nil noFam_cons noFam_fam hasFam_cons Gtz hasFam_oth rdx_true readF_eq
end Vw
namespace VwM
open Vw
open Go

abbrev Vw3:=Int × List Int × List Int
def VLs:List Vw3 → List AV
  | []=>[]
  | v :: r=>.int .i64 v.1 :: RI v.2.1 :: RI v.2.2 :: VLs r
theorem innL_IL (p:Nat → Bool):∀ xs:List Int,innL p (IL xs)=true
  | []=>rfl
  | x :: r=>by
    have:=innL_IL p r
    simp only [IL,List.map_cons,innL,AV.inn,Bool.true_and]
    exact this
theorem ren_VLs {ρ:Nat → Option Nat} {Zh:Nat → Option (List AV)} {n:Nat}:∀ vs:List Vw3,(VLs vs).map (AV.ren ρ Zh false phiD (n + 2))=VLs vs
  | []=>rfl
  | v :: r=>by
    simp only [VLs,List.map_cons,ren_VLs r,List.cons.injEq,and_true]
    refine ⟨rfl,?_,?_⟩<;>simp [AV.ren,phiD]
attribute [push_cast] ren_VLs
end VwM
namespace VwM
open Go Vw

abbrev Tn:=List Int × List Int
def TL (b:Bool):List Tn → List AV
  | []=>[]
  | t :: r=>.rows b (IL t.1) t.1.length :: .rows b (IL t.2) t.2.length :: TL b r
def LL (b:Bool):List (List Int) → List AV
  | []=>[]
  | l :: r=>.rows b (IL l) l.length :: LL b r
theorem G6z (b:Bool):∀ ts:List Tn,(TL b ts).length=ts.length * 2
  | []=>rfl
  | t :: r=>by simp only [TL,List.length_cons,G6z b r];omega
theorem G7z (b:Bool):∀ ls:List (List Int),(LL b ls).length=ls.length
  | []=>rfl
  | l :: r=>by simp only [LL,List.length_cons,G7z b r]
theorem TL_drop (b:Bool):∀ (ts:List Tn) (i:Nat) {t:Tn},ts[i]?=some t → ((TL b ts).drop (i * 2)).take 2=[.rows b (IL t.1) t.1.length,.rows b (IL t.2) t.2.length]
  | [],_,_,h=>by simp at h
  | w :: r,0,v,h=>by simp at h;subst h;simp [TL]
  | w :: r,i + 1,v,h=>by
    rw [show (i + 1) * 2=i * 2 + 1 + 1 by omega]
    simp only [TL,List.drop_succ_cons]
    exact TL_drop b r i (by simpa using h)
section
variable {ρ:Nat → Option Nat} {Zh:Nat → Option (List AV)} {n:Nat} {b0:Bool} {φ:Bool → Option Bool}
theorem ren_IL (xs:List Int):(IL xs).map (AV.ren ρ Zh b0 φ (n + 1))=IL xs:=by unfold IL;rw [List.map_map];rfl
theorem ren_TL {b c:Bool} (h:φ b=some c):∀ ts:List Tn,(TL b ts).map (AV.ren ρ Zh b0 φ (n + 2))=TL c ts
  | []=>rfl
  | v :: r=>by
    simp only [TL,List.map_cons,ren_TL h r,List.cons.injEq,and_true]
    constructor<;>simp only [AV.ren,h,ren_IL]
theorem ren_LL {b c:Bool} (h:φ b=some c):∀ ls:List (List Int),(LL b ls).map (AV.ren ρ Zh b0 φ (n + 2))=LL c ls
  | []=>rfl
  | v :: r=>by
    simp only [LL,List.map_cons,ren_LL h r,List.cons.injEq,and_true]
    simp only [AV.ren,h,ren_IL]
theorem ren_TLD (b:Bool) (ts:List Tn):(TL b ts).map (AV.ren ρ Zh b0 phiD (n + 2))=TL false ts:=ren_TL (by cases b<;>rfl) ts
theorem ren_LLD (b:Bool) (ts:List (List Int)):(LL b ts).map (AV.ren ρ Zh b0 phiD (n + 2))=LL false ts:=ren_LL (by cases b<;>rfl) ts
theorem ren_TLU (sh:Bool) (ts:List Tn):(TL true ts).map (AV.ren ρ Zh b0 (phiU sh) (n + 2))=TL true ts:=ren_TL (by rfl) ts
theorem ren_LLU (sh:Bool) (ts:List (List Int)):(LL true ts).map (AV.ren ρ Zh b0 (phiU sh) (n + 2))=LL true ts:=ren_LL (by rfl) ts
theorem ren_TLV (b:Bool) (ts:List Tn):(TL b ts).map (AV.ren ρ Zh b0 (phiU true) (n + 2))=TL b ts:=ren_TL (by cases b<;>rfl) ts
theorem ren_LLV (b:Bool) (ts:List (List Int)):(LL b ts).map (AV.ren ρ Zh b0 (phiU true) (n + 2))=LL b ts:=ren_LL (by cases b<;>rfl) ts
theorem ren_TLs (b:Bool) (ts:List Tn):(TL b ts).map (AV.ren ρ Zh b0 some (n + 2))=TL b ts:=ren_TL (by rfl) ts
theorem ren_LLs (b:Bool) (ts:List (List Int)):(LL b ts).map (AV.ren ρ Zh b0 some (n + 2))=LL b ts:=ren_LL (by rfl) ts
end
attribute [push_cast] ren_TLD ren_LLD ren_TLU ren_LLU ren_TLV ren_LLV ren_TLs ren_LLs G6z G7z

theorem fz_IL {H:Nat → Option (List AV)} {n:Nat} (xs:List Int):(IL xs).map (AV.fz H (n + 1))=IL xs:=by unfold IL;rw [List.map_map];rfl
theorem fz_TL {H:Nat → Option (List AV)} {n:Nat} (b:Bool):∀ ts:List Tn,(TL b ts).map (AV.fz H (n + 2))=TL b ts
  | []=>rfl
  | v :: r=>by
    simp only [TL,List.map_cons,fz_TL b r,List.cons.injEq,and_true]
    constructor<;>simp only [AV.fz,fz_IL]
theorem fz_LL {H:Nat → Option (List AV)} {n:Nat} (b:Bool):∀ ls:List (List Int),(LL b ls).map (AV.fz H (n + 2))=LL b ls
  | []=>rfl
  | v :: r=>by
    simp only [LL,List.map_cons,fz_LL b r,List.cons.injEq,and_true]
    simp only [AV.fz,fz_IL]
attribute [push_cast] fz_TL fz_LL

end VwM
namespace Vw
open Go VwM
variable [Inhabited GlobT]

def famR (d:Nat) (rows:Nat → List Int) (n:Nat):List (Nat × List AV):=(List.range n).map fun j=>(fim d j,IL (rows j))
theorem hk_famR_out (d:Nat) (rows:Nat → List Int) (n id:Nat) (h:∀ j,j < n → fim d j ≠ id):hk (famR d rows n) id=none:=by
  have:=Cbz (fim d) (fun j=>IL (rows j)) [] id (List.range n) fun j hj=>h j (List.mem_range.1 hj)
  rw [List.append_nil] at this
  exact this
theorem hk_famR_low (d:Nat) (rows:Nat → List Int) (n id:Nat) (h:id < 1099511627776):hk (famR d rows n) id=none :=
  hk_famR_out d rows n id fun j _ e=>by have:=fim_low d j;omega
theorem freshD_famR (d:Nat) (rows:Nat → List Int) (n k:Nat) (h:k < 68719476736):freshD (famR d rows n) k=True:=by
  have:∀ l:List Nat,freshD (l.map (fun j=>(fim d j,IL (rows j)))) k=True:=by
    intro l
    induction l with
    | nil=>rfl
    | cons a l ih=>simp only [List.map_cons,freshD,Irz _ _ _ h,not_false_eq_true,true_and,ih]
  exact this _
theorem swL_map (a b:Nat):∀ cs:List AV,swL a b cs=cs.map (AV.sw a b)
  | []=>rfl
  | c :: r=>by simp only [swL,List.map_cons,swL_map a b r]
theorem swL_IL (a b:Nat) (xs:List Int):swL a b (IL xs)=IL xs:=by rw [swL_map];unfold IL;rw [List.map_map];rfl

def lsF (ls:List (List Int)):Fam:=⟨ls.length,ls.length,fun p=>.inr p,fun j=>ls.getD j [],fun p j h e=>by injection e with e;omega,fun p a e=>by cases e⟩
theorem LL_map (b:Bool):∀ ls:List (List Int),LL b ls=ls.map fun l=>.rows b (IL l) l.length
  | []=>rfl
  | l :: r=>by simp only [LL,List.map_cons,LL_map b r]
theorem lsF_plain (ls:List (List Int)) (b:Bool):(lsF ls).plain b=LL b ls:=by
  symm
  refine row_ext (G7z b ls) fun p hp=>?_
  have hp':p < ls.length:=hp
  rw [LL_map,List.getElem?_map,List.getElem?_eq_getElem hp']
  simp [Fam.atP,lsF,List.getD,hp']
theorem lsF_C (ls:List (List Int)):(lsF ls).C=ls.length:=rfl
theorem lsF_R (ls:List (List Int)):(lsF ls).R=ls.length:=rfl
def tnRow (ts:List Tn) (j:Nat):List Int:=if j % 2=0 then (ts.getD (j / 2) ([],[])).1 else (ts.getD (j / 2) ([],[])).2
def tsF (ts:List Tn):Fam:=⟨ts.length * 2,ts.length * 2,fun p=>.inr p,tnRow ts,fun p j h e=>by injection e with e;omega,fun p a e=>by cases e⟩
theorem tsF_C (ts:List Tn):(tsF ts).C=ts.length * 2:=rfl
theorem tsF_R (ts:List Tn):(tsF ts).R=ts.length * 2:=rfl
theorem tnRow_0 {ts:List Tn} {i:Nat} {x y:List Int} (h:ts[i]?=some (x,y)):tnRow ts (i * 2)=x ∧ tnRow ts (i * 2 + 1)=y:=by
  unfold tnRow
  rw [if_pos (by omega),if_neg (by omega),show i * 2 / 2=i by omega,show (i * 2 + 1) / 2=i by omega]
  simp [List.getD,h]
theorem tsF_plain (ts:List Tn) (b:Bool):(tsF ts).plain b=TL b ts:=by
  symm
  refine row_ext (G6z b ts) fun p hp=>?_
  have hp':p < ts.length * 2:=hp
  obtain ⟨t,ht⟩:∃ t,ts[p / 2]?=some t:=⟨ts[p / 2]'(by omega),List.getElem?_eq_getElem _⟩
  have hd:=TL_drop b ts (p / 2) ht
  obtain ⟨h0,h1⟩:=tnRow_0 (x:=t.1) (y:=t.2) ht
  rcases Nat.mod_two_eq_zero_or_one p with e|e
  · have:=congrArg (fun l=>l[0]?) hd
    simp only [List.getElem?_take,List.getElem?_drop] at this
    have e2:p / 2 * 2=p:=by omega
    rw [e2] at this h0
    simp at this
    rw [this]
    simp [Fam.atP,tsF,h0]
  · have:=congrArg (fun l=>l[1]?) hd
    simp only [List.getElem?_take,List.getElem?_drop] at this
    have e2:p / 2 * 2 + 1=p:=by omega
    rw [e2] at this h1
    simp at this
    rw [this]
    simp [Fam.atP,tsF,h1]
attribute [push_cast] lsF_plain lsF_C lsF_R tsF_plain tsF_C tsF_R hk_famR_low freshD_famR
end Vw
namespace Vw
open Go VwM
variable [Inhabited GlobT]
end Vw
namespace VwM
open Go Vw
variable [Inhabited GlobT]

abbrev Ex:=Int × Vw3 × Bool
def EL (b:Bool):List Ex → List AV
  | []=>[]
  | e :: r=>.int .i64 e.1 :: .int .i64 e.2.1.1 :: .rows b (IL e.2.1.2.1) e.2.1.2.1.length :: .rows b (IL e.2.1.2.2) e.2.1.2.2.length :: .bool e.2.2 :: EL b r
theorem A0z (b:Bool):∀ es:List Ex,(EL b es).length=es.length * 5
  | []=>rfl
  | e :: r=>by simp only [EL,List.length_cons,A0z b r];omega
theorem G8z (b:Bool):∀ es fs:List Ex,EL b (es ++ fs)=EL b es ++ EL b fs
  | [],_=>rfl
  | e :: r,fs=>by simp only [List.cons_append,EL,G8z b r fs]
theorem Crz (b:Bool):∀ (es:List Ex) (i:Nat) {e:Ex},es[i]?=some e → ((EL b es).drop (i * 5)).take 5=[.int .i64 e.1,.int .i64 e.2.1.1,.rows b (IL e.2.1.2.1) e.2.1.2.1.length,.rows b (IL e.2.1.2.2) e.2.1.2.2.length,.bool e.2.2]
  | [],_,_,h=>by simp at h
  | w :: r,0,v,h=>by simp at h;subst h;simp [EL]
  | w :: r,i + 1,v,h=>by
    rw [show (i + 1) * 5=i * 5 + 1 + 1 + 1 + 1 + 1 by omega]
    simp only [EL,List.drop_succ_cons]
    exact Crz b r i (by simpa using h)
theorem Aaz (b:Bool) (p:Nat → Bool):∀ es:List Ex,innL p (EL b es)=true
  | []=>rfl
  | v :: r=>by
    simp only [EL,innL,AV.inn,Aaz b p r,innL_IL,Bool.and_true,Bool.true_and]
section
variable {ρ:Nat → Option Nat} {Zh:Nat → Option (List AV)} {n:Nat} {b0:Bool} {φ:Bool → Option Bool}
theorem ren_EL {b c:Bool} (h:φ b=some c):∀ es:List Ex,(EL b es).map (AV.ren ρ Zh b0 φ (n + 2))=EL c es
  | []=>rfl
  | v :: r=>by
    simp only [EL,List.map_cons,ren_EL h r,List.cons.injEq,and_true]
    refine ⟨rfl,rfl,?_,?_,rfl⟩<;>simp only [AV.ren,h,ren_IL]
theorem ren_ELD (b:Bool) (es:List Ex):(EL b es).map (AV.ren ρ Zh b0 phiD (n + 2))=EL false es:=ren_EL (by cases b<;>rfl) es
theorem ren_ELU (sh:Bool) (es:List Ex):(EL true es).map (AV.ren ρ Zh b0 (phiU sh) (n + 2))=EL true es:=ren_EL (by rfl) es
theorem ren_ELV (b:Bool) (es:List Ex):(EL b es).map (AV.ren ρ Zh b0 (phiU true) (n + 2))=EL b es:=ren_EL (by cases b<;>rfl) es
theorem ren_ELs (b:Bool) (es:List Ex):(EL b es).map (AV.ren ρ Zh b0 some (n + 2))=EL b es:=ren_EL (by rfl) es
end
attribute [push_cast] ren_ELD ren_ELU ren_ELV ren_ELs A0z

def kidsT (es:List Ex) (p:Int):Nat → List Int
  | 0=>[]
  | k + 1=>match es[k]? with
    | some e=>if e.2.2=true ∧ e.1=p then kidsT es p k ++ [(k:Int)] else kidsT es p k
    | none=>kidsT es p k
theorem kidsT_yes {es:List Ex} {p:Int} {k:Nat} {e:Ex} (h:es[k]?=some e) (h1:e.2.2=true ∧ e.1=p):kidsT es p (k + 1)=kidsT es p k ++ [(k:Int)]:=by
  simp only [kidsT,h,if_pos h1]
theorem F0z {es:List Ex} {p:Int} {k:Nat} {e:Ex} (h:es[k]?=some e) (h1:¬ (e.2.2=true ∧ e.1=p)):kidsT es p (k + 1)=kidsT es p k:=by
  simp only [kidsT,h,if_neg h1]
theorem kidsT_len (es:List Ex) (p:Int):∀ k,(kidsT es p k).length ≤ k
  | 0=>Nat.le_refl _
  | k + 1=>by
    have:=kidsT_len es p k
    simp only [kidsT]
    split
    · split
      · rw [List.length_append];simp;omega
      · omega
    · omega
def parOk (es:List Ex):Prop:=∀ (i:Nat) (e:Ex),es[i]?=some e → -1 ≤ e.1 ∧ e.1 < i
def gam (d:Nat) (f:Nat → List AV) (n:Nat):List (Nat × List AV):=(List.range n).map fun j=>(fim d j,f j)
theorem Gpz (d:Nat) (f:Nat → List AV) (n:Nat) (r:List (Nat × List AV)) (j:Nat) (h:j < n):hk (gam d f n ++ r) (fim d j)=some (f j) :=
  Cyz (fim d) (fun _ _=>fim_inj) f r j _ (List.mem_range.2 h)
theorem Hvz (d:Nat) (f:Nat → List AV) (n:Nat) (r:List (Nat × List AV)) (id:Nat) (h:id < 1099511627776):hk (gam d f n ++ r) id=hk r id :=
  Cbz (fim d) f r id _ fun j _ e=>by have:=fim_low d j;omega
theorem Huz (d:Nat) (f:Nat → List AV) (n:Nat) (r:List (Nat × List AV)) (d' j:Nat) (h:d < 65536 ∧ d' < 65536 ∧ d ≠ d'):hk (gam d f n ++ r) (fim d' j)=hk r (fim d' j) :=
  Cbz (fim d) f r _ _ fun j _ e=>h.2.2 (fim_oth h.1 h.2.1 e)
theorem Iqz (d:Nat) (f:Nat → List AV) (n:Nat):gam d f n=gam d f n ++ []:=(List.append_nil _).symm
theorem hk_gam_same0 (d:Nat) (f:Nat → List AV) (n j:Nat) (h:j < n):hk (gam d f n) (fim d j)=some (f j):=by rw [Iqz];exact Gpz d f n [] j h
theorem hk_gam_low0 (d:Nat) (f:Nat → List AV) (n id:Nat) (h:id < 1099511627776):hk (gam d f n) id=none:=by rw [Iqz,Hvz d f n [] id h];rfl
theorem hk_gam_oth0 (d:Nat) (f:Nat → List AV) (n d' j:Nat) (h:d < 65536 ∧ d' < 65536 ∧ d ≠ d'):hk (gam d f n) (fim d' j)=none:=by rw [Iqz,Huz d f n [] d' j h];rfl
theorem Hxz (d:Nat) (f:Nat → List AV) (n:Nat) (r:List (Nat × List AV)) (k:Nat) (h:k < 68719476736):freshD (gam d f n ++ r) k=freshD r k:=by
  unfold gam
  have:∀ l:List Nat,freshD (l.map (fun j=>(fim d j,f j)) ++ r) k=freshD r k:=by
    intro l
    induction l with
    | nil=>rfl
    | cons a l ih=>simp only [List.map_cons,List.cons_append,freshD,Irz _ _ _ h,not_false_eq_true,true_and,ih]
  exact this _
theorem freshD_gam0 (d:Nat) (f:Nat → List AV) (n k:Nat) (h:k < 68719476736):freshD (gam d f n) k=True:=by rw [Iqz,Hxz d f n [] k h];rfl
attribute [push_cast] Hvz hk_gam_low0 Huz hk_gam_oth0 Hxz freshD_gam0 Gpz hk_gam_same0
end VwM
namespace VwM
open Go Vw
variable [Inhabited GlobT]
def patE (ps bs:Nat → Int) (os:Nat → Bool) (p:Nat):AV ⊕ Nat :=
  if p % 5=0 then .inl (.int .i64 (ps (p / 5))) else if p % 5=1 then .inl (.int .i64 (bs (p / 5))) else if p % 5=4 then .inl (.bool (os (p / 5))) else .inr (p / 5 * 2 + (p % 5 - 2))
def eF (n:Nat) (ps bs:Nat → Int) (os:Nat → Bool) (rows:Nat → List Int):Fam:=⟨n * 5,n * 2,patE ps bs os,rows,
  fun p j h e=>by
    unfold patE at e
    split at e
    · cases e
    · split at e
      · cases e
      · split at e
        · cases e
        · injection e with e;omega,
  fun p a e=>by
    unfold patE at e
    split at e
    · injection e with e;exact .inl ⟨_,_,e.symm⟩
    · split at e
      · injection e with e;exact .inl ⟨_,_,e.symm⟩
      · split at e
        · injection e with e;exact .inr ⟨_,e.symm⟩
        · cases e⟩
theorem eF_C (n:Nat) (ps bs:Nat → Int) (os:Nat → Bool) (rows:Nat → List Int):(eF n ps bs os rows).C=n * 5:=rfl
theorem eF_R (n:Nat) (ps bs:Nat → Int) (os:Nat → Bool) (rows:Nat → List Int):(eF n ps bs os rows).R=n * 2:=rfl
def exPa (es:List Ex) (i:Nat):Int:=(es.getD i (0,(0,[],[]),false)).1
def exBs (es:List Ex) (i:Nat):Int:=(es.getD i (0,(0,[],[]),false)).2.1.1
def exOp (es:List Ex) (i:Nat):Bool:=(es.getD i (0,(0,[],[]),false)).2.2
def exR (es:List Ex) (j:Nat):List Int:=if j % 2=0 then (es.getD (j / 2) (0,(0,[],[]),false)).2.1.2.1 else (es.getD (j / 2) (0,(0,[],[]),false)).2.1.2.2
theorem ex_at {es:List Ex} {i:Nat} {p b:Int} {x y:List Int} {o:Bool} (h:es[i]?=some (p,(b,x,y),o)):exPa es i=p ∧ exBs es i=b ∧ exOp es i=o ∧ exR es (i * 2)=x ∧ exR es (i * 2 + 1)=y:=by
  unfold exPa exBs exOp exR
  rw [if_pos (by omega),if_neg (by omega),show i * 2 / 2=i by omega,show (i * 2 + 1) / 2=i by omega]
  simp [List.getD,h]
abbrev esF (es:List Ex):Fam:=eF es.length (exPa es) (exBs es) (exOp es) (exR es)
theorem esF_plain (es:List Ex) (c:Bool):(esF es).plain c=EL c es:=by
  symm
  refine row_ext (A0z c es) fun p hp=>?_
  have hp':p < es.length * 5:=hp
  obtain ⟨⟨q,⟨b,x,y⟩,o⟩,ht⟩:∃ t,es[p / 5]?=some t:=⟨es[p / 5]'(by omega),List.getElem?_eq_getElem _⟩
  have hd:=Crz c es (p / 5) ht
  obtain ⟨h0,h1,h2,h3,h4⟩:=ex_at ht
  have hm:p % 5=0 ∨ p % 5=1 ∨ p % 5=2 ∨ p % 5=3 ∨ p % 5=4:=by omega
  rcases hm with e|e|e|e|e
  · have:=congrArg (fun l=>l[0]?) hd
    simp only [List.getElem?_take,List.getElem?_drop] at this
    have e2:p / 5 * 5=p:=by omega
    rw [e2] at this
    simp at this
    rw [this]
    simp [Fam.atP,eF,patE,e,h0]
  · have:=congrArg (fun l=>l[1]?) hd
    simp only [List.getElem?_take,List.getElem?_drop] at this
    have e2:p / 5 * 5 + 1=p:=by omega
    rw [e2] at this
    simp at this
    rw [this]
    simp [Fam.atP,eF,patE,e,h1]
  · have:=congrArg (fun l=>l[2]?) hd
    simp only [List.getElem?_take,List.getElem?_drop] at this
    have e2:p / 5 * 5 + 2=p:=by omega
    rw [e2] at this
    simp at this
    rw [this]
    simp [Fam.atP,eF,patE,e,h3]
  · have:=congrArg (fun l=>l[3]?) hd
    simp only [List.getElem?_take,List.getElem?_drop] at this
    have e2:p / 5 * 5 + 3=p:=by omega
    rw [e2] at this
    simp at this
    rw [this]
    simp [Fam.atP,eF,patE,e,h4]
  · have:=congrArg (fun l=>l[4]?) hd
    simp only [List.getElem?_take,List.getElem?_drop] at this
    have e2:p / 5 * 5 + 4=p:=by omega
    rw [e2] at this
    simp at this
    rw [this]
    simp [Fam.atP,eF,patE,e,h2]
attribute [push_cast] eF_C eF_R esF_plain
end VwM
namespace Vw
open Go VwM
variable [Inhabited GlobT]
section
variable {P:Program} {pin:Nat} {σ:List (Nat × AV)} {H:List (Nat × List AV)} {K:S → Prop}
end
end Vw
namespace VwM
open Go Vw
variable [Inhabited GlobT]
section
variable (n:Nat) (ps bs:Nat → Int) (os:Nat → Bool) (rows:Nat → List Int) (g:Nat → Nat) (i:Nat)
end
end VwM
namespace Vw
open Go VwM
variable [Inhabited GlobT]
end Vw
namespace VwM
open Go Vw
variable [Inhabited GlobT]
def kA (R:Nat → List Int) (k:Int):Nat → Int
  | 0=>k
  | i + 1=>kA R k i + 1 + 1 + (R (i * 2)).length + (R (i * 2 + 1)).length + 1
end VwM
namespace Vw
open Go VwM
variable [Inhabited GlobT]
section
variable {P:Program} {pin:Nat} {σ:List (Nat × AV)} {H:List (Nat × List AV)} {K:S → Prop}
end
end Vw
namespace Vw
open Go VwM
variable [Inhabited GlobT]
theorem zcX (a b c d e:AV):zcells [a,b,c,d,e] 1=[a,b,c,d,e]:=by simp [zcells,List.range_succ]
end Vw
namespace VwM
open Go Vw
variable [Inhabited GlobT]
def relE (es:List Ex) (q:Nat):List Ex:=match es[q]? with
  | some e=>es.set q (e.1,e.2.1,false)
  | none=>es
theorem relE_at {es:List Ex} {q:Nat} {e:Ex} (h:es[q]?=some e):relE es q=es.set q (e.1,e.2.1,false):=by simp only [relE,h]
theorem relE_length (es:List Ex) (q:Nat):(relE es q).length=es.length:=by unfold relE;split<;>simp
theorem EL_set (b:Bool):∀ (es:List Ex) (q:Nat) {e:Ex} (c:Bool),es[q]?=some e → (EL b es).set (q * 5 + 4) (.bool c)=EL b (es.set q (e.1,e.2.1,c))
  | [],_,_,_,h=>by simp at h
  | w :: r,0,e,c,h=>by
    simp at h
    subst h
    simp [EL]
  | w :: r,q + 1,e,c,h=>by
    rw [show (q + 1) * 5 + 4=q * 5 + 4 + 1 + 1 + 1 + 1 + 1 by omega]
    simp only [EL,List.set_cons_succ]
    rw [EL_set b r q c (by simpa using h)]
theorem EL_rel {b:Bool} {es:List Ex} {q:Nat} {e:Ex} (h:es[q]?=some e):(EL b es).set (q * 5 + 4) (.bool false)=EL b (relE es q):=by rw [EL_set b es q false h,relE_at h]
theorem EL_take (b:Bool) {es:List Ex} {i:Nat} {e:Ex} (h:es[i]?=some e):EL b (es.take (i + 1))=EL b (es.take i) ++ [.int .i64 e.1,.int .i64 e.2.1.1,.rows b (IL e.2.1.2.1) e.2.1.2.1.length,.rows b (IL e.2.1.2.2) e.2.1.2.2.length,.bool e.2.2]:=by
  rw [List.take_succ_eq_append_getElem (List.getElem?_eq_some_iff.1 h).1,G8z,(List.getElem?_eq_some_iff.1 h).2]
  rfl
end VwM
namespace VwM
open Vw
open Go

theorem dot_setst {f:Nat → Int} {st:List Int} {j:Nat} {X:Int} (hj:j < st.length):∀ n,dot f (st.set j X) n=dot f st n + (if j < n then f j * (X - st.getD j 0) else 0)
  | 0=>by simp [dot]
  | n + 1=>by
    simp only [dot]
    rw [dot_setst hj n]
    by_cases e:j=n
    · subst e
      rw [if_neg (by omega),if_pos (by omega)]
      have:(st.set j X).getD j 0=X:=by simp [List.getD,hj]
      rw [this,Int.mul_sub]
      omega
    · have:(st.set j X).getD n 0=st.getD n 0:=by simp [List.getD,List.getElem?_set,e]
      rw [this]
      by_cases hd:j < n
      · rw [if_pos hd,if_pos (by omega)];omega
      · rw [if_neg hd,if_neg (by omega)];omega
def updF (f:Nat → Int) (j:Nat) (y:Int):Nat → Int:=fun i=>if i=j then y else f i
theorem Iuz {f:Nat → Int} {st:List Int} {j:Nat} {y:Int}:∀ n,dot (updF f j y) st n=dot f st n + (if j < n then (y - f j) * st.getD j 0 else 0)
  | 0=>by simp [dot]
  | n + 1=>by
    simp only [dot]
    rw [Iuz n]
    by_cases e:j=n
    · subst e
      rw [if_neg (by omega),if_pos (by omega),updF,if_pos rfl,Int.sub_mul]
      omega
    · have e':updF f j y n=f n:=by unfold updF;rw [if_neg fun h=>e h.symm]
      rw [e']
      by_cases hd:j < n
      · rw [if_pos hd,if_pos (by omega)];omega
      · rw [if_neg hd,if_neg (by omega)];omega
theorem pr_set_le {sh:List Int} (hg:good4 sh) {j:Nat} (hj:j < sh.length) {x:Int} (h0:0 ≤ x) (hx:x ≤ sh.getD j 0):pr (sh.set j x) ≤ pr sh:=by
  have h1:=pr_wo hj
  have h2:=pr_wo (xs:=sh.set j x) (k:=j) (by simpa using hj)
  have e1:wo (sh.set j x) j=wo sh j:=by
    unfold wo
    rw [List.take_set,List.drop_set,if_pos (by omega),List.set_eq_of_length_le (by simp;omega)]
  have e2:(sh.set j x).getD j 0=x:=by simp [List.getD,hj]
  rw [e1,e2] at h2
  rw [h1,h2]
  exact Int.mul_le_mul_of_nonneg_left hx (Dzz (good4_wo hg j hj)).1
section
variable {b:Int} {sh st:List Int} {j:Nat} {f t w:Int} {hf ht:Bool}
def cutIx (sh:List Int) (j:Nat) (f w:Int) (hf:Bool) (g:Nat → Int):Nat → Int:=updF g j (sFrom f (sh.getD j 0) w hf + g j * w)
theorem F3z (hj:j < sh.length):(cutSh sh j f t w hf ht).getD j 0=(cutK (sh.getD j 0) f t w hf ht:Int):=by simp [cutSh,List.getD,hj]
theorem cutSh_ne {i:Nat} (h:i ≠ j):(cutSh sh j f t w hf ht).getD i 0=sh.getD i 0:=by
  have h':¬ j=i:=fun e=>h e.symm
  simp [cutSh,List.getD,List.getElem?_set,h']
theorem cutIx_ix (hv:vV b sh st=true) (hj:j < sh.length) (hs:vS f t w hf ht=true) {g:Nat → Int} (hg:isIx (cutSh sh j f t w hf ht) g):isIx sh (cutIx sh j f w hf g):=fun i hi=>by
  have hgd:=(Cez (B3z.1 hv).1).1
  have hn:=Dgz hgd hj
  have:=hg i (by rw [Bqz];exact hi)
  by_cases e:i=j
  · subst e
    rw [F3z hj] at this
    have h2:=idx_in hn hs (i:=(g i).toNat) (by show _ < cutK _ _ _ _ _ _;omega)
    rw [show (((g i).toNat:Nat):Int)=g i by omega] at h2
    simp only [cutIx,updF,if_true]
    omega
  · rw [cutSh_ne e] at this
    simp only [cutIx,updF,if_neg e]
    exact this
theorem cut_one (hv:vV b sh st=true) (hj:j < sh.length) (hs:vS f t w hf ht=true) (hz:¬ pr (cutSh sh j f t w hf ht)=0):1 ≤ cutK (sh.getD j 0) f t w hf ht:=by
  rcases Nat.eq_zero_or_pos (cutK (sh.getD j 0) f t w hf ht) with h|h
  · exact absurd (pr_zero (xs:=cutSh sh j f t w hf ht) (by rw [Bqz];exact hj) (by rw [F3z hj,h];rfl)) hz
  · exact h
theorem cut_dot (hv:vV b sh st=true) (hj:j < sh.length) (hs:vS f t w hf ht=true) (hz:¬ pr (cutSh sh j f t w hf ht)=0) {g:Nat → Int} (hg:isIx (cutSh sh j f t w hf ht) g) :
    cutB b sh st j f t w hf ht + dot g (cutSt sh st j f t w hf ht) sh.length=b + dot (cutIx sh j f w hf g) st sh.length:=by
  have hl:=(C8z.1 (B3z.1 hv).2.1).1
  have h1:=cut_one hv hj hs hz
  have hgj:=hg j (by rw [Bqz];exact hj)
  rw [F3z hj] at hgj
  rw [cutB,if_neg hz,cutSt,if_neg hz,dot_setst (by omega),if_pos hj,cutIx,Iuz,if_pos hj]
  have e1:pS (sFrom f (sh.getD j 0) w hf) (cutK (sh.getD j 0) f t w hf ht)=sFrom f (sh.getD j 0) w hf:=by unfold pS;rw [if_neg (by omega)]
  rw [e1]
  unfold cutX
  by_cases h2:(cutK (sh.getD j 0) f t w hf ht:Int) ≤ 1
  · have e0:g j=0:=by omega
    rw [if_pos h2,e0,Int.zero_mul,Int.zero_mul,Int.add_zero,Int.sub_zero]
    have q0:(sFrom f (sh.getD j 0) w hf + 0) * st.getD j 0=sFrom f (sh.getD j 0) w hf * st.getD j 0:=by rw [Int.add_zero]
    try rw [q0]
    omega
  · have e2:pC w (cutK (sh.getD j 0) f t w hf ht)=w:=by unfold pC;rw [if_neg (by omega)]
    rw [if_neg h2,e2]
    have q1:(sFrom f (sh.getD j 0) w hf + g j * w - g j) * st.getD j 0=sFrom f (sh.getD j 0) w hf * st.getD j 0 + g j * (w * st.getD j 0) - g j * st.getD j 0:=by rw [Int.sub_mul,Int.add_mul,Int.mul_assoc]
    have q2:g j * (w * st.getD j 0 - st.getD j 0)=g j * (w * st.getD j 0) - g j * st.getD j 0:=Int.mul_sub _ _ _
    rw [q1,q2]
    omega
theorem vV_cut (hv:vV b sh st=true) (hj:j < sh.length) (hs:vS f t w hf ht=true):vV (cutB b sh st j f t w hf ht) (cutSh sh j f t w hf ht) (cutSt sh st j f t w hf ht)=true:=by
  obtain ⟨h1,h2,h3,h4⟩:=B3z.1 hv
  have hgd:=(Cez h1)
  have hn:=Dgz hgd.1 hj
  have hk:=cutK_le hn hs
  have hg:=good4_cut hgd.1 hj hs
  have hl:=(C8z.1 h2).1
  have hp:pr (cutSh sh j f t w hf ht) ≤ 60:=by
    have:=pr_set_le (x:=(cutK (sh.getD j 0) f t w hf ht:Int)) hgd.1 hj (by omega) hk
    unfold cutSh
    omega
  have hsh:vSh (cutSh sh j f t w hf ht)=true:=by
    unfold vSh
    simp [hg.2,hp,B8z.2 hg.1]
  by_cases hz:pr (cutSh sh j f t w hf ht)=0
  · have e1:cutB b sh st j f t w hf ht=0:=if_pos hz
    have e2:cutSt sh st j f t w hf ht=List.replicate sh.length 0:=if_pos hz
    rw [e1,e2]
    refine B3z.2 ⟨hsh,C8z.2 ⟨by simp [Bqz],fun x hx=>?_⟩,by omega,.inl hz⟩
    rw [List.eq_of_mem_replicate hx];omega
  · have hcells:∀ g,isIx (cutSh sh j f t w hf ht) g → 0 ≤ cutB b sh st j f t w hf ht + dot g (cutSt sh st j f t w hf ht) sh.length ∧ cutB b sh st j f t w hf ht + dot g (cutSt sh st j f t w hf ht) sh.length ≤ 59:=fun g hgx=>by
      rw [cut_dot hv hj hs hz hgx]
      exact vV_cells hv _ ((Dez hgd.1).2 ⟨_,cutIx_ix hv hj hs hgx,rfl⟩)
    have hpos:=Gdz hg (by have:=(Dzz hg).1;omega)
    have hz0:isIx (cutSh sh j f t w hf ht) fun _=>0:=fun i hi=>by
      have:=hpos i hi
      show (0:Int) ≤ 0 ∧ (0:Int) < _
      omega
    have c0:=hcells _ hz0
    rw [Itz _ fun _ _=>rfl] at c0
    refine B3z.2 ⟨hsh,C8z.2 ⟨by rw [Fsz hl,Bqz],fun x hx=>?_⟩,by omega,.inr fun x hx=>?_⟩
    · rw [cutSt,if_neg hz] at hx
      rcases List.mem_or_eq_of_mem_set hx with hx|rfl
      · exact (C8z.1 h2).2 x hx
      · by_cases h2':(cutK (sh.getD j 0) f t w hf ht:Int) ≤ 1
        · unfold cutX;rw [if_pos h2'];omega
        · have hu:isIx (cutSh sh j f t w hf ht) (updF (fun _=>0) j 1):=fun i hi=>by
            have:=hpos i hi
            by_cases e:i=j
            · subst e
              rw [F3z hj]
              simp only [updF,if_true]
              omega
            · simp only [updF,if_neg e]
              omega
          have c1:=hcells _ hu
          rw [Iuz,if_pos hj,Itz _ fun _ _=>rfl] at c1
          have e3:(cutSt sh st j f t w hf ht).getD j 0=cutX sh st j f t w hf ht:=by
            rw [cutSt,if_neg hz]
            simp [List.getD,hl,hj]
          rw [e3] at c1
          omega
    · obtain ⟨g,hgx,rfl⟩:=(Dez hg).1 hx
      rw [Bqz]
      exact hcells g hgx
end
end VwM
namespace Vw
open Go
variable [Inhabited GlobT]
theorem arun_sliceS2 {s:S} {pin d:Nat} {t:ByteArray} {k k':IntKind} {l h:Int} {x lo hi:Operand} (hx:s.ev x=.str t) (hl:s.ev lo=.int k l) (hh:s.ev hi=.int k' h) (hr:(0 ≤ l ∧ l ≤ h) ∧ h ≤ (t.size:Int)):arun s pin d (.sliceS x (some lo) (some hi))=some (.str (t.extract l.toNat h.toNat),none):=by
  simp only [arun,hx,hl,hh,Option.map_some,bnd]
  rw [if_pos ⟨by omega,hr.2⟩]
  simp only
  rw [if_pos ⟨hr.1.1,by omega⟩]
theorem bsz (l:List UInt8):ByteArray.size { data:={ toList:=l } }=l.length:=rfl
theorem abin_addS (a b:ByteArray) (h:a.size + b.size ≤ 1099511627776):abin .add (.str a) (.str b)=some (.str (a ++ b)):=by
  simp only [abin]
  rw [if_pos h]
attribute [push_cast] abin_addS bsz
end Vw
