/- The mathematics of ranges,slices,shapes and indices that the contracts speak of. -/
import Derived.Test.YtpicoecbbiiaoaaCW3
set_option linter.unusedVariables false
set_option linter.unusedSimpArgs false
set_option linter.unnecessarySimpa false
set_option maxRecDepth 4000
namespace VwM
open Vw
open Go

abbrev rng (a b c:Int):AV:=.agg [.int .i64 a,.int .i64 b,.int .i64 c]
abbrev slc (f t b:Int) (hf ht:Bool):AV:=.agg [.int .i64 f,.int .i64 t,.int .i64 b,.bool hf,.bool ht]
abbrev IL (xs:List Int):List AV:=xs.map (AV.int .i64)
abbrev RI (xs:List Int):AV:=.rows false (IL xs) xs.length
abbrev OI (xs:List Int):AV → List (List AV) → Prop:=fun r H'=>r=.own 0 xs.length 1 ∧ H'=[IL xs]
def vR (a b c:Int):Bool:=decide (-100 ≤ a) && decide (a ≤ 100) && (decide (-101 ≤ b) && decide (b ≤ 101)) && (decide (-200 ≤ c) && decide (c ≤ 200) && !decide (c=0))
def vS (f t b:Int) (hf ht:Bool):Bool:=decide (-100 ≤ f) && decide (f ≤ 100) && (decide (-100 ≤ t) && decide (t ≤ 100)) && (decide (-200 ≤ b) && decide (b ≤ 200)) && !decide (b=0) && (hf || decide (f=0)) && (ht || decide (t=0))
theorem mkAV_ints0 (k:IntKind) (xs:List Int):mkAV false ((xs.map (AV.int k)).take 1)=if 0 < xs.length then some (.int k (xs.getD 0 0)) else none:=by
  haveI:Inhabited GlobT:=⟨⟨[]⟩⟩
  have:=G5z k xs 0
  rwa [List.drop_zero] at this
attribute [push_cast] G5z mkAV_ints0


theorem Igz {xs ys:List Int} (hl:xs.length=ys.length) (h:∀ j:Nat,j < xs.length → xs.getD j 0=ys.getD j 0):xs=ys:=by
  refine List.ext_getElem hl fun i h1 h2=>?_
  have:=h i h1
  simpa [List.getD,h1,h2] using this


def upFrom (k:Int) (n:Nat):List Int:=(List.range n).map fun i:Nat=>k + (i:Int)
theorem E8z (k:Int) (n:Nat):(upFrom k n).length=n:=by simp [upFrom]
theorem upFrom_getD (k:Int) (n i:Nat) (h:i < n):(upFrom k n).getD i 0=k + i:=by simp [upFrom,h,List.getD]
attribute [simp] E8z
attribute [push_cast] E8z
def marked (k:Int) (xs:List Int) (j:Nat):List Int:=upFrom k j ++ xs.drop j
theorem marked_zero (k:Int) (xs:List Int):marked k xs 0=xs:=by simp [marked,upFrom]
theorem I9z (k:Int) (xs:List Int) (j:Nat) (h:j ≤ xs.length):(marked k xs j).length=xs.length:=by simp [marked];omega
theorem marked_set (k:Int) (xs:List Int) (j:Nat) (h:j < xs.length):(marked k xs j).set j (k + j)=marked k xs (j + 1):=by
  refine List.ext_getElem? fun i=>?_
  simp only [marked,upFrom,List.getElem?_set,List.getElem?_append,List.length_map,List.length_range,List.length_append,List.length_drop,List.getElem?_map,List.getElem?_drop]
  by_cases h1:j=i
  · subst h1;simp [h];omega
  · by_cases h2:i < j
    · simp [h1,h2,Nat.lt_succ_of_lt h2]
    · have h3:¬ i < j + 1:=by omega
      simp only [if_neg h1,if_neg h2,if_neg h3]
      congr 1;omega
theorem marked_all (k:Int) (xs:List Int):marked k xs xs.length=upFrom k xs.length:=by simp [marked]


def cntI (a b c:Int):Int :=
  if c < 0 then (if 0 - (b - a) ≤ 0 then 0 else (0 - (b - a) + (0 - c) - 1).tdiv (0 - c)) else (if b - a ≤ 0 then 0 else (b - a + c - 1).tdiv c)
theorem tdiv_bound {x y:Int} (hy:0 < y) (hx:0 ≤ x):0 ≤ x.tdiv y ∧ x.tdiv y ≤ x:=by
  rw [Int.tdiv_eq_ediv_of_nonneg hx]
  exact ⟨Int.ediv_nonneg hx (by omega),Int.ediv_le_self _ hx⟩
def nums (a c:Int) (k:Nat):List Int:=(List.range k).map fun i:Nat=>a + (i:Int) * c
theorem G2z (a c:Int) (k:Nat):(nums a c k).length=k:=by simp [nums]
attribute [simp] G2z
attribute [push_cast] G2z
def cntN (a b c:Int):Nat:=(cntI a b c).toNat
def filled (g:Nat → Int) (n j:Nat):List Int:=(List.range n).map fun i=>if i < j then g i else 0
theorem E1z (g:Nat → Int) (n:Nat):filled g n 0=List.replicate n 0:=by
  refine List.ext_getElem? fun i=>?_
  by_cases h:i < n<;>simp [filled,h]
theorem Fmz (g:Nat → Int) (n j:Nat):(filled g n j).length=n:=by simp [filled]
attribute [simp] Fmz
attribute [push_cast] Fmz
theorem Ejz (g:Nat → Int) (n j:Nat) (h:j < n):(filled g n j).set j (g j)=filled g n (j + 1):=by
  refine List.ext_getElem? fun i=>?_
  simp only [filled,List.getElem?_set,List.length_map,List.length_range,List.getElem?_map]
  by_cases h1:j=i
  · subst h1;simp [h]
  · by_cases h2:i < n
    · simp only [List.getElem?_range h2,Option.map_some,if_neg h1]
      congr 1
      by_cases h3:i < j
      · rw [if_pos h3,if_pos (by omega)]
      · rw [if_neg h3,if_neg (by omega)]
    · simp [h1,h2]
theorem F2z (g:Nat → Int) (n:Nat):filled g n n=(List.range n).map g:=by
  refine List.map_congr_left fun i hi=>?_
  rw [if_pos (List.mem_range.1 hi)]
theorem Boz (xs:List Int) (j:Nat) (v:Int):(IL xs).set j (.int .i64 v)=IL (xs.set j v):=by simp [IL,List.map_set]
def numsOf (a b c:Int):List Int:=if vR a b c=true then nums a c (cntN a b c) else []


theorem toNat_succ (k:Nat):((k:Int) + 1).toNat=k + 1:=by omega
theorem IL_tail (k:IntKind) (xs:List Int) (j:Nat):(((xs.map (AV.int k)).drop j).take (xs.length - j))=(xs.drop j).map (AV.int k):=by
  rw [← List.map_drop,← List.map_take]
  congr 1
  exact List.take_of_length_le (by simp)
theorem C5z (k:IntKind) (xs:List Int) (j:Nat):(xs.map (AV.int k)).take j=(xs.take j).map (AV.int k):=by rw [List.map_take]
attribute [push_cast] toNat_succ IL_tail
def pr (xs:List Int):Int:=xs.foldl (· * ·) 1
theorem Dwz:pr []=1:=rfl
theorem pr_snoc (xs:List Int) (x:Int):pr (xs ++ [x])=pr xs * x:=by simp [pr]
theorem Hpz (xs:List Int) (a:Int):xs.foldl (· * ·) a=a * pr xs:=by
  induction xs generalizing a with
  | nil=>simp [pr]
  | cons x r ih=>simp only [List.foldl_cons,pr];rw [ih,ih (1 * x)];rw [Int.one_mul,Int.mul_assoc]
theorem Ctz (x:Int) (xs:List Int):pr (x :: xs)=x * pr xs:=by
  show (x :: xs).foldl (· * ·) 1=_
  rw [List.foldl_cons,Hpz,Int.one_mul]
theorem Bkz (xs:List Int) (k:Nat) (h:k < xs.length):xs.take (k + 1)=xs.take k ++ [xs.getD k 0]:=by
  rw [List.take_succ_eq_append_getElem h];simp [List.getD,h]
theorem drop_getD (xs:List Int) (k:Nat) (h:k < xs.length):xs.drop k=xs.getD k 0 :: xs.drop (k + 1):=by
  rw [List.drop_eq_getElem_cons h];simp [List.getD,h]
theorem Buz (xs:List Int) (k:Nat) (h:k < xs.length):pr (xs.take (k + 1))=pr (xs.take k) * xs.getD k 0:=by rw [Bkz xs k h,pr_snoc]
theorem pr_drop (xs:List Int) (k:Nat) (h:k < xs.length):pr (xs.drop k)=xs.getD k 0 * pr (xs.drop (k + 1)):=by rw [drop_getD xs k h,Ctz]
def good4 (xs:List Int):Prop:=(∀ x ∈ xs,0 ≤ x ∧ x ≤ 60) ∧ xs.length ≤ 4
theorem F0z {xs:List Int} (h:good4 xs) (j:Nat):good4 (xs.take j):=⟨fun x hx=>h.1 x (List.mem_of_mem_take hx),by have:=h.2;simp;omega⟩
theorem Ilz {xs:List Int} (h:good4 xs) (j:Nat):good4 (xs.drop j):=⟨fun x hx=>h.1 x (List.mem_of_mem_drop hx),by have:=h.2;simp;omega⟩
theorem Giz {xs:List Int} (h:good4 xs) {k:Nat} (hk:k < xs.length):0 ≤ xs.getD k 0 ∧ xs.getD k 0 ≤ 60:=by
  refine h.1 _ ?_
  simp [List.getD,hk]
theorem Gwz:∀ (xs:List Int),(∀ x ∈ xs,0 ≤ x ∧ x ≤ 60) → 0 ≤ pr xs ∧ pr xs ≤ 60 ^ xs.length
  | [],_=>by simp [pr]
  | x :: r,h=>by
    have ih:=Gwz r fun y hy=>h y (by simp [hy])
    have hx:=h x (by simp)
    rw [Ctz,List.length_cons,Int.pow_succ,Int.mul_comm (60 ^ r.length) 60]
    exact ⟨Int.mul_nonneg hx.1 ih.1,Int.mul_le_mul hx.2 ih.2 ih.1 (by omega)⟩
theorem Fgz {xs:List Int} (h:good4 xs):0 ≤ pr xs ∧ pr xs ≤ 12960000:=by
  have h1:=Gwz xs h.1
  refine ⟨h1.1,Int.le_trans h1.2 ?_⟩
  have:(60:Int) ^ xs.length ≤ 60 ^ 4:=by
    obtain ⟨_,hl⟩:=h
    generalize xs.length=n at hl
    match n,hl with
    | 0,_=>decide
    | 1,_=>decide
    | 2,_=>decide
    | 3,_=>decide
    | 4,_=>decide
  simpa using this
def allI (xs:List Int) (l h:Int):Bool:=xs.all fun x=>decide (l ≤ x) && decide (x ≤ h)
theorem Btz {xs:List Int} {l h:Int}:allI xs l h=true ↔ ∀ x ∈ xs,l ≤ x ∧ x ≤ h:=by simp [allI]
theorem Fqz {xs:List Int} {l h:Int}:(∀ j:Nat,j < xs.length → l ≤ xs.getD j 0 ∧ xs.getD j 0 ≤ h) → allI xs l h=true:=by
  intro hj
  rw [Btz]
  intro x hx
  obtain ⟨i,hi,rfl⟩:=List.getElem_of_mem hx
  have:=hj i hi
  simpa [List.getD,hi] using this
theorem Emz {xs:List Int} {l h:Int} {j:Nat} (hj:j < xs.length) (hx:xs.getD j 0 < l ∨ h < xs.getD j 0):allI xs l h=false:=by
  rw [Bool.eq_false_iff]
  intro ht
  have:=(Btz.1 ht) (xs.getD j 0) (by simp [List.getD,hj])
  omega
def vSh (sh:List Int):Bool:=decide (sh.length ≤ 4) && allI sh 0 60 && decide (pr sh ≤ 60)
theorem Bdz {sh:List Int} (h:vSh sh=true):good4 sh ∧ 0 ≤ pr sh ∧ pr sh ≤ 60:=by
  simp only [vSh,Bool.and_eq_true,decide_eq_true_eq] at h
  have hg:good4 sh:=⟨Btz.1 h.1.2,h.1.1⟩
  exact ⟨hg,(Fgz hg).1,h.2⟩
theorem Hqz (xs:List Int):(List.range xs.length).map (fun i:Nat=>xs.getD i 0)=xs:=by
  refine List.ext_getElem (by simp) fun i h1 h2=>?_
  simp [List.getD,h2]



def rowS (sh:List Int):List Int:=(List.range sh.length).map fun i:Nat=>pr (sh.drop (i + 1))
def colS (sh:List Int):List Int:=(List.range sh.length).map fun i:Nat=>pr (sh.take i)
theorem Gtz (sh:List Int):(rowS sh).length=sh.length:=by simp [rowS]
theorem Hsz (sh:List Int):(colS sh).length=sh.length:=by simp [colS]
attribute [simp] Gtz Hsz
attribute [push_cast] Gtz Hsz
def filledD (g:Nat → Int) (n k:Nat):List Int:=(List.range n).map fun i=>if n - k ≤ i then g i else 0
theorem filledD_zero (g:Nat → Int) (n:Nat):filledD g n 0=List.replicate n 0:=by
  refine List.ext_getElem? fun i=>?_
  by_cases h:i < n
  · have:¬ n ≤ i:=by omega
    simp [filledD,h,this]
  · simp [filledD,h]
theorem Eqz (g:Nat → Int) (n k:Nat):(filledD g n k).length=n:=by simp [filledD]
attribute [simp] Eqz
attribute [push_cast] Eqz
theorem filledD_set (g:Nat → Int) (n k:Nat) (h:k < n):(filledD g n k).set (n - 1 - k) (g (n - 1 - k))=filledD g n (k + 1):=by
  refine List.ext_getElem? fun i=>?_
  simp only [filledD,List.getElem?_set,List.length_map,List.length_range,List.getElem?_map]
  by_cases h1:n - 1 - k=i
  · subst h1
    have h2:n - 1 - k < n:=by omega
    have h3:n - (k + 1) ≤ n - 1 - k:=by omega
    simp [h2,h3]
    omega
  · by_cases h2:i < n
    · simp only [List.getElem?_range h2,Option.map_some,if_neg h1]
      congr 1
      by_cases h3:n - k ≤ i
      · rw [if_pos h3,if_pos (by omega)]
      · rw [if_neg h3,if_neg (by omega)]
    · simp [h1,h2]
theorem filledD_all (g:Nat → Int) (n:Nat):filledD g n n=(List.range n).map g:=by
  refine List.map_congr_left fun i hi=>?_
  rw [if_pos (by omega)]
theorem down_nat (n k:Nat) (h:k < n):((n:Int) - 1 - (k:Int)).toNat=n - 1 - k:=by omega



def kS (sh:List Int) (k:Int):Nat → Int
  | 0=>k
  | j + 1=>(kS sh k j).tdiv (sh.getD (sh.length - 1 - j) 0)
def dig (sh:List Int) (k:Int) (i:Nat):Int:=(kS sh k (sh.length - 1 - i)).tmod (sh.getD i 0)
def unr (sh:List Int) (k:Int):List Int:=(List.range sh.length).map (dig sh k)
theorem D9z (sh:List Int) (k:Int):(unr sh k).length=sh.length:=by simp [unr]
attribute [simp] D9z
attribute [push_cast] D9z
theorem pr_zero {xs:List Int} {i:Nat} (hi:i < xs.length) (h:xs.getD i 0=0):pr xs=0:=by
  have e:xs=xs.take i ++ xs.drop i:=(List.take_append_drop i xs).symm
  rw [e,pr,List.foldl_append,Hpz,pr_drop xs i hi,h]
  simp
theorem Dmz {sh:List Int} {k:Int} (hk:0 ≤ k) (hp:∀ i,i < sh.length → 1 ≤ sh.getD i 0):∀ j,j ≤ sh.length → 0 ≤ kS sh k j ∧ kS sh k j ≤ k
  | 0,_=>by simp [kS,hk]
  | j + 1,h=>by
    have ih:=Dmz hk hp j (by omega)
    have h1:=hp (sh.length - 1 - j) (by omega)
    have:=tdiv_bound (x:=kS sh k j) (y:=sh.getD (sh.length - 1 - j) 0) (by omega) ih.1
    simp only [kS]
    omega
theorem pos_of_pr {sh:List Int} (hg:good4 sh) (h:1 ≤ pr sh):∀ i,i < sh.length → 1 ≤ sh.getD i 0:=by
  intro i hi
  have h1:=Giz hg hi
  rcases Int.lt_or_le 0 (sh.getD i 0) with h2|h2
  · omega
  · have:=pr_zero hi (by omega)
    omega
theorem dig_bound {sh:List Int} {k:Int} (hk:0 ≤ k) (hp:∀ i,i < sh.length → 1 ≤ sh.getD i 0) (hle:∀ i,i < sh.length → sh.getD i 0 ≤ 60) {i:Nat} (hi:i < sh.length):0 ≤ dig sh k i ∧ dig sh k i < sh.getD i 0:=by
  have h1:=Dmz hk hp (sh.length - 1 - i) (by omega)
  have h2:=hp i hi
  unfold dig
  exact ⟨Int.tmod_nonneg _ h1.1,Int.tmod_lt_of_pos _ (by omega)⟩
def pad4 (f:Nat → Int):List Int:=[f 0,f 1,f 2,f 3]
theorem G0z (f:Nat → Int):(pad4 f).length=4:=rfl
theorem Ixz (a b c d:AV) (f:Nat → Int):setRange [a,b,c,d] 0 ((pad4 f).map (AV.int .i64))=(pad4 f).map (AV.int .i64):=by simp [pad4,setRange]
theorem H2z (g f:Nat → Int):setRange ((pad4 g).map (AV.int .i64)) 0 ((pad4 f).map (AV.int .i64))=(pad4 f).map (AV.int .i64):=by simp [pad4,setRange]
theorem take_pad4 (f:Nat → Int):((pad4 f).map (AV.int .i64)).take 4=(pad4 f).map (AV.int .i64):=by simp [pad4]
attribute [simp] G0z
attribute [push_cast] G0z Ixz H2z take_pad4
def padD (xs:List Int) (k:Int) (j i:Nat):Int:=if i < xs.length ∧ xs.length - j ≤ i then dig xs k i else 0
abbrev AP (f:Nat → Int):AV:=.agg (IL (pad4 f))
def digP (sh:List Int) (k:Int) (i:Nat):Int:=if i < sh.length then dig sh k i else 0


def vIx (sh idx:List Int):Bool:=decide (idx.length=sh.length) && (List.range idx.length).all fun i=>decide (0 ≤ idx.getD i 0) && decide (idx.getD i 0 ≤ sh.getD i 0 - 1)
theorem Dfz {sh idx:List Int}:vIx sh idx=true ↔ idx.length=sh.length ∧ ∀ i,i < idx.length → 0 ≤ idx.getD i 0 ∧ idx.getD i 0 ≤ sh.getD i 0 - 1:=by
  simp only [vIx,Bool.and_eq_true,decide_eq_true_eq,List.all_eq_true,List.mem_range]
def hor (sh idx:List Int):Nat → Int
  | 0=>0
  | k + 1=>hor sh idx k * sh.getD k 0 + idx.getD k 0
def dot (f:Nat → Int) (st:List Int):Nat → Int
  | 0=>0
  | k + 1=>dot f st k + f k * st.getD k 0
theorem Foz {f g:Nat → Int} {st:List Int}:∀ {k:Nat},(∀ i,i < k → f i=g i) → dot f st k=dot g st k
  | 0,_=>rfl
  | k + 1,h=>by simp only [dot];rw [Foz fun i hi=>h i (by omega),h k (by omega)]
theorem Hcz {sh idx:List Int} (hg:good4 sh) (hi:vIx sh idx=true):∀ k,k ≤ sh.length → 0 ≤ hor sh idx k ∧ hor sh idx k + 1 ≤ pr (sh.take k)
  | 0,_=>by simp [hor,Dwz]
  | k + 1,h=>by
    obtain ⟨h1,h2⟩:=Dfz.1 hi
    have ih:=Hcz hg hi k (by omega)
    have h3:=h2 k (by omega)
    have h4:=Giz hg (k:=k) (by omega)
    rw [Buz sh k (by omega)]
    have h5:(hor sh idx k + 1) * sh.getD k 0 ≤ pr (sh.take k) * sh.getD k 0:=Int.mul_le_mul_of_nonneg_right ih.2 h4.1
    have h6:0 ≤ hor sh idx k * sh.getD k 0:=Int.mul_nonneg ih.1 h4.1
    rw [Int.add_mul,Int.one_mul] at h5
    simp only [hor]
    omega
theorem rowS_getD (sh:List Int) (i:Nat) (h:i < sh.length):(rowS sh).getD i 0=pr (sh.drop (i + 1)):=by simp [rowS,List.getD,h]
theorem hor_dot {sh idx:List Int}:∀ k,k ≤ sh.length → hor sh idx k * pr (sh.drop k)=dot (fun i=>idx.getD i 0) (rowS sh) k
  | 0,_=>by simp [hor,dot]
  | k + 1,h=>by
    have ih:=hor_dot (sh:=sh) (idx:=idx) k (by omega)
    simp only [hor,dot,rowS_getD sh k (by omega)]
    rw [← ih,pr_drop sh k (by omega),Int.add_mul,Int.mul_assoc]
theorem hor_all {sh idx:List Int}:hor sh idx sh.length=dot (fun i=>idx.getD i 0) (rowS sh) sh.length:=by
  rw [← hor_dot sh.length (Nat.le_refl _),List.drop_length,Dwz,Int.mul_one]
def idxP (sh idx:List Int) (i:Nat):Int:=if vIx sh idx=true ∧ i < sh.length then idx.getD i 0 else 0
def rankD (sh idx:List Int):Int:=if vSh sh=true ∧ vIx sh idx=true then dot (fun i=>idx.getD i 0) (rowS sh) sh.length else -1


abbrev VW (b:Int) (s t:AV):AV:=.agg [.int .i64 b,s,t]
abbrev RV (b:Int) (sh st:List Int):AV:=.agg [.int .i64 b,RI sh,RI st]
abbrev OV (b:Int) (sh st:List Int):AV → List (List AV) → Prop:=fun r H'=>r=.agg [.int .i64 b,.own 0 sh.length 1,.own 1 st.length 1] ∧ H'=[IL sh,IL st]


def newSt (sh:List Int):List Int:=if pr sh=0 then List.replicate sh.length 0 else rowS sh
def endI (x n b:Int):Int:=min (max (if b < 0 then -1 else 0) (if x < 0 then x + n else x)) (if b < 0 then n - 1 else n)
def sFrom (f n b:Int) (hf:Bool):Int:=if hf=true then endI f n b else if b < 0 then n - 1 else 0
def sTo (t n b:Int) (ht:Bool):Int:=if ht=true then endI t n b else if b < 0 then -1 else n
def idxOf (n f t b:Int) (hf ht:Bool):List Int:=if vS f t b hf ht=true ∧ 0 ≤ n ∧ n ≤ 60 then nums (sFrom f n b hf) b (cntN (sFrom f n b hf) (sTo t n b ht) b) else []
def pS (a k:Int):Int:=if k < 1 then 0 else a
def pE (a c k:Int):Int:=if k < 1 then 0 else if k=1 then a + 1 else if c < 0 then a + (k - 1) * c - 1 else a + (k - 1) * c + 1
def pC (c k:Int):Int:=if k ≤ 1 then 1 else c
abbrev PR (a c k:Int):AV:=rng (pS a k) (pE a c k) (pC c k)


def slRg (a b c f t w:Int) (hf ht:Bool):AV :=
  if vR a b c=true ∧ vS f t w hf ht=true ∧ cntN a b c ≤ 60 then PR (a + sFrom f (cntN a b c) w hf * c) (c * w) (cntN (sFrom f (cntN a b c) w hf) (sTo t (cntN a b c) w ht) w) else rng 0 0 0
def mgSome (n f t w:Int) (hf ht:Bool) (f' t' w':Int) (hf' ht':Bool):AV :=
  let u:=sFrom f n w hf
  let k:=cntN u (sTo t n w ht) w
  let u':=sFrom f' k w' hf'
  let k':=cntN u' (sTo t' k w' ht') w'
  slc (pS (u + u' * w) k') (if pE (u + u' * w) (w * w') k' < 0 then 0 else pE (u + u' * w) (w * w') k') (pC (w * w') k') true (!decide (pE (u + u' * w) (w * w') k' < 0))
def mgS (n f t w:Int) (hf ht:Bool) (f' t' w':Int) (hf' ht':Bool):AV :=
  if (0 ≤ n ∧ n ≤ 60) ∧ vS f t w hf ht=true ∧ vS f' t' w' hf' ht'=true then mgSome n f t w hf ht f' t' w' hf' ht' else slc 0 0 0 false false
end VwM
set_option linter.unusedVariables false
set_option linter.unusedSimpArgs false
set_option linter.unnecessarySimpa false
set_option maxRecDepth 4000
namespace VwM
open Vw
open Go

def placeI (xs:List Int) (x:Int):Int:=if x ∈ xs then (xs.idxOf x:Int) else -1
theorem Dkz {xs:List Int} {x:Int}:x ∈ xs ↔ ∃ j,j < xs.length ∧ xs.getD j 0=x:=by
  constructor
  · intro h
    obtain ⟨i,hi,e⟩:=List.getElem_of_mem h
    exact ⟨i,hi,by simp [List.getD,hi,e]⟩
  · rintro ⟨j,hj,rfl⟩
    simp [List.getD,hj]
theorem A9z {xs:List Int} {j:Nat} (h:j < xs.length):xs.getD j 0 ∈ xs:=Dkz.2 ⟨j,h,rfl⟩
theorem Gzz {xs:List Int} {x:Int} (h:∀ j,j < xs.length → xs.getD j 0 ≠ x):placeI xs x=-1:=by
  unfold placeI
  rw [if_neg]
  intro hm
  obtain ⟨j,hj,e⟩:=Dkz.1 hm
  exact h j hj e
theorem Gyz {xs:List Int} {x:Int} {j:Nat} (hj:j < xs.length) (h:xs.getD j 0=x) (hno:∀ i,i < j → xs.getD i 0 ≠ x):placeI xs x=j:=by
  unfold placeI
  rw [if_pos (Dkz.2 ⟨j,hj,h⟩)]
  congr 1
  induction xs generalizing j with
  | nil=>simp at hj
  | cons y r ih =>
    rw [List.idxOf_cons]
    cases j with
    | zero=>simp at h;simp [h]
    | succ j =>
      have h0:=hno 0 (by omega)
      have hy:¬ y=x:=by simpa using h0
      simp only [beq_iff_eq,hy,cond_false,Bool.cond_eq_ite,if_false]
      have:=ih (j:=j) (by simpa using hj) (by simpa using h) (fun i hi=>by simpa using hno (i + 1) (by omega))
      omega
theorem Edz {xs:List Int} {x:Int}:placeI xs x < 0 ↔ x ∉ xs:=by
  unfold placeI
  by_cases h:x ∈ xs
  · simp [h]
  · simp [h]
def nrmA (xs:List Int):AV :=
  if xs.length=0 then rng 0 0 1 else if xs.length=1 then rng (xs.getD 0 0) (xs.getD 0 0 + 1) 1 else
    rng (xs.getD 0 0) (if xs.getD 1 0 - xs.getD 0 0 < 0 then xs.getD (xs.length - 1) 0 - 1 else xs.getD (xs.length - 1) 0 + 1) (xs.getD 1 0 - xs.getD 0 0)
def ascL (xs:List Int):List Int:=if 1 < xs.length ∧ xs.getD 0 0 > xs.getD 1 0 then xs.reverse else xs
def aS (a c:Int) (n:Nat):Int:=if c < 0 then a + ((n:Int) - 1) * c else a
def aC (c:Int):Int:=if c < 0 then 0 - c else c
def commL (xs ys:List Int):List Int:=xs.filter fun x=>decide (x ∈ ys)
def revT (xs:List Int) (k:Nat):List Int:=xs.reverse.take k
def meA (a b c a' b' c':Int):AV:=if vR a b c=true ∧ vR a' b' c'=true then nrmA (commL (nums (aS a c (cntN a b c)) (aC c) (cntN a b c)) (nums (aS a' c' (cntN a' b' c')) (aC c') (cntN a' b' c'))) else rng 0 0 0
def cvB (a b c a' b' c':Int):Bool:=vR a b c && vR a' b' c' && decide (∀ x ∈ nums a' c' (cntN a' b' c'),x ∈ nums a c (cntN a b c))
theorem plainI [Inhabited GlobT] {P:Program} {f:Nat} {args:List AV} {xs:List Int} (h:BCall P f args [] (OI xs)):PCall P f args (fun r=>r=.rows true (IL xs) xs.length):=by
  refine (BCall.plain h).mono ?_
  rintro r ⟨r0,H',⟨rfl,rfl⟩,rfl⟩
  simp [AV.ren,nthH,List.map_map,Function.comp_def]
end VwM
set_option linter.unusedVariables false
set_option linter.unusedSimpArgs false
set_option linter.unnecessarySimpa false
set_option maxRecDepth 4000
namespace VwM
open Vw
open Go

def horF (sh:List Int) (f:Nat → Int):Nat → Int
  | 0=>0
  | k + 1=>horF sh f k * sh.getD k 0 + f k
theorem Iiz {sh:List Int} {f g:Nat → Int}:∀ {k:Nat},(∀ i,i < k → f i=g i) → horF sh f k=horF sh g k
  | 0,_=>rfl
  | k + 1,h=>by simp only [horF];rw [Iiz fun i hi=>h i (by omega),h k (by omega)]
def isIx (sh:List Int) (f:Nat → Int):Prop:=∀ i,i < sh.length → 0 ≤ f i ∧ f i < sh.getD i 0
theorem Eiz {sh:List Int} {f:Nat → Int} (hf:isIx sh f):∀ k,k ≤ sh.length → 0 ≤ horF sh f k ∧ horF sh f k + 1 ≤ pr (sh.take k)
  | 0,_=>by simp [horF,Dwz]
  | k + 1,h=>by
    have ih:=Eiz hf k (by omega)
    have h3:=hf k (by omega)
    rw [Buz sh k (by omega)]
    have h5:(horF sh f k + 1) * sh.getD k 0 ≤ pr (sh.take k) * sh.getD k 0:=Int.mul_le_mul_of_nonneg_right ih.2 (by omega)
    have h6:0 ≤ horF sh f k * sh.getD k 0:=Int.mul_nonneg ih.1 (by omega)
    rw [Int.add_mul,Int.one_mul] at h5
    simp only [horF]
    omega
theorem kS_horF {sh:List Int} {f:Nat → Int} (hf:isIx sh f):∀ j,j ≤ sh.length → kS sh (horF sh f sh.length) j=horF sh f (sh.length - j)
  | 0,_=>by simp [kS]
  | j + 1,h=>by
    have ih:=kS_horF hf j (by omega)
    have h1:=hf (sh.length - 1 - j) (by omega)
    have h2:=Eiz hf (sh.length - 1 - j) (by omega)
    simp only [kS]
    rw [ih,show sh.length - j=sh.length - 1 - j + 1 by omega,show sh.length - (j + 1)=sh.length - 1 - j by omega]
    simp only [horF]
    have h3:0 ≤ horF sh f (sh.length - 1 - j) * sh.getD (sh.length - 1 - j) 0:=Int.mul_nonneg h2.1 (by omega)
    rw [Int.tdiv_eq_ediv_of_nonneg (by omega),Int.add_comm,Int.add_mul_ediv_right _ _ (by omega),Int.ediv_eq_zero_of_lt h1.1 h1.2]
    omega
theorem dig_horF {sh:List Int} {f:Nat → Int} (hf:isIx sh f) {i:Nat} (hi:i < sh.length):dig sh (horF sh f sh.length) i=f i:=by
  unfold dig
  have h1:=hf i hi
  have h2:=Eiz hf i (by omega)
  rw [kS_horF hf _ (by omega),show sh.length - (sh.length - 1 - i)=i + 1 by omega]
  simp only [horF]
  have h3:0 ≤ horF sh f i * sh.getD i 0:=Int.mul_nonneg h2.1 (by omega)
  rw [Int.tmod_eq_emod_of_nonneg (by omega),Int.add_comm,Int.add_mul_emod_self_right,Int.emod_eq_of_lt h1.1 h1.2]
theorem kS_lt {sh:List Int} {k:Int} (hk:0 ≤ k) (hp:∀ i,i < sh.length → 1 ≤ sh.getD i 0) (h:k < pr sh):∀ j,j ≤ sh.length → kS sh k j < pr (sh.take (sh.length - j))
  | 0,_=>by simpa [kS] using h
  | j + 1,hj=>by
    have ih:=kS_lt hk hp h j (by omega)
    have h1:=hp (sh.length - 1 - j) (by omega)
    have h2:=Dmz hk hp j (by omega)
    rw [show sh.length - j=sh.length - 1 - j + 1 by omega,Buz _ _ (by omega)] at ih
    simp only [kS]
    rw [show sh.length - (j + 1)=sh.length - 1 - j by omega,Int.tdiv_eq_ediv_of_nonneg h2.1]
    exact Int.ediv_lt_of_lt_mul (by omega) ih
theorem horF_dig {sh:List Int} {k:Int} (hk:0 ≤ k) (hp:∀ i,i < sh.length → 1 ≤ sh.getD i 0) (h:k < pr sh):∀ m,m ≤ sh.length → horF sh (dig sh k) m=kS sh k (sh.length - m)
  | 0,_=>by
    have h1:=kS_lt hk hp h sh.length (Nat.le_refl _)
    have h2:=Dmz hk hp sh.length (Nat.le_refl _)
    simp only [Nat.sub_self,List.take_zero,Dwz] at h1
    simp only [horF,Nat.sub_zero]
    omega
  | m + 1,hm=>by
    have ih:=horF_dig hk hp h m (by omega)
    simp only [horF]
    rw [ih,show sh.length - m=(sh.length - (m + 1)) + 1 by omega]
    have h2:=Dmz hk hp (sh.length - (m + 1)) (by omega)
    simp only [kS,dig]
    rw [show sh.length - 1 - (sh.length - (m + 1))=m by omega,show sh.length - 1 - m=sh.length - (m + 1) by omega]
    have:=Int.tdiv_mul_add_tmod (kS sh k (sh.length - (m + 1))) (sh.getD m 0)
    omega
theorem horF_dig_all {sh:List Int} {k:Int} (hk:0 ≤ k) (hp:∀ i,i < sh.length → 1 ≤ sh.getD i 0) (h:k < pr sh):horF sh (dig sh k) sh.length=k:=by
  rw [horF_dig hk hp h _ (Nat.le_refl _)];simp [kS]
theorem dig_isIx {sh:List Int} (hg:good4 sh) {k:Int} (hk:0 ≤ k) (h:k < pr sh):isIx sh (dig sh k):=fun i hi =>
  dig_bound hk (pos_of_pr hg (by omega)) (fun i hi=>(Giz hg hi).2) hi

def cellK (b:Int) (sh st:List Int) (k:Int):Int:=b + dot (dig sh k) st sh.length
def offs (b:Int) (sh st:List Int):List Int:=(List.range (pr sh).toNat).map fun k:Nat=>cellK b sh st k
def vSt (st:List Int) (n:Nat):Bool:=decide (st.length=n) && allI st (-60) 60
def vV (b:Int) (sh st:List Int):Bool:=vSh sh && vSt st sh.length && (decide (0 ≤ b) && decide (b ≤ 60)) && (decide (pr sh=0) || allI (offs b sh st) 0 59)
def lowS (sh st:List Int):Nat → Int
  | 0=>0
  | k + 1=>lowS sh st k + min ((sh.getD k 0 - 1) * st.getD k 0) 0
def highS (sh st:List Int):Nat → Int
  | 0=>0
  | k + 1=>highS sh st k + max ((sh.getD k 0 - 1) * st.getD k 0) 0
def bdL (b:Int) (sh st:List Int):Int:=if pr sh=0 then -1 else b + lowS sh st sh.length
def bdH (b:Int) (sh st:List Int):Int:=if pr sh=0 then -1 else b + highS sh st sh.length
def mnL (xs:List Int):Nat → Int
  | 0=>xs.getD 0 0
  | k + 1=>min (mnL xs k) (xs.getD k 0)
def mxL (xs:List Int):Nat → Int
  | 0=>xs.getD 0 0
  | k + 1=>max (mxL xs k) (xs.getD k 0)
end VwM
set_option linter.unusedVariables false
set_option linter.unusedSimpArgs false
set_option linter.unnecessarySimpa false
set_option maxRecDepth 4000
namespace VwM
open Vw
open Go

theorem mkAV_bools (bs:List Bool) (off:Nat):mkAV false (((bs.map AV.bool).drop off).take 1)=if off < bs.length then some (.bool (bs.getD off false)) else none:=by
  by_cases h:off < bs.length
  · rw [if_pos h,List.drop_eq_getElem_cons (by simpa using h)]
    simp [mkAV,h,List.getD]
  · rw [if_neg h,List.drop_eq_nil_of_le (by simp;omega)]
    rfl
theorem Cez (p:Nat → Bool) (bs:List Bool):innL p (bs.map AV.bool)=true:=by
  induction bs with
  | nil=>rfl
  | cons x r ih=>simp [innL,AV.inn,ih]
attribute [push_cast] mkAV_bools
def met (xs:List Int) (k:Nat):List Bool:=(List.range 60).map fun c:Nat=>decide ((c:Int) ∈ xs.take k)
theorem nodup_iff {xs:List Int}:xs.Nodup ↔ ∀ j,j < xs.length → xs.getD j 0 ∉ xs.take j:=by
  have key:∀ k,k ≤ xs.length → ((xs.take k).Nodup ↔ ∀ j,j < k → xs.getD j 0 ∉ xs.take j):=by
    intro k
    induction k with
    | zero=>intro _;simp
    | succ k ih =>
      intro hk
      rw [Bkz _ _ (by omega),List.nodup_append]
      rw [ih (by omega)]
      constructor
      · rintro ⟨h1,_,h3⟩ j hj
        by_cases e:j=k
        · subst e
          intro hm
          exact h3 _ hm _ (by simp) rfl
        · exact h1 j (by omega)
      · intro h
        refine ⟨fun j hj=>h j (by omega),by simp,?_⟩
        intro a ha b hb e
        simp only [List.mem_singleton] at hb
        subst hb e
        exact h k (by omega) ha
  have:=key xs.length (Nat.le_refl _)
  rwa [List.take_length] at this
theorem not_nodup {xs:List Int} {j:Nat} (h:j < xs.length) (hm:xs.getD j 0 ∈ xs.take j):¬ xs.Nodup:=fun hn=>nodup_iff.1 hn j h hm
def oneB (b:Int) (sh st:List Int):Bool:=vV b sh st && decide (offs b sh st).Nodup
end VwM
set_option linter.unusedVariables false
set_option linter.unusedSimpArgs false
set_option linter.unnecessarySimpa false
set_option maxRecDepth 4000
namespace VwM
open Vw
open Go

abbrev UL (bs:List Int):List AV:=bs.map (AV.int .u8)
abbrev RD (bs:List Int) (p:Int):List AV:=[.rows false (UL bs) bs.length,.int .i64 p]
def okB (bs:List Int):Prop:=bs.length ≤ 2000 ∧ ∀ x ∈ bs,0 ≤ x ∧ x ≤ 255
def unI:List AV → List Int
  | []=>[]
  | .int _ n :: r=>n :: unI r
  | _ :: r=>0 :: unI r
theorem unI_nil:unI []=[]:=rfl
theorem unI_cons (k:IntKind) (n:Int) (r:List AV):unI (.int k n :: r)=n :: unI r:=rfl
theorem unI_IL (xs:List Int):unI (IL xs)=xs:=by
  induction xs with
  | nil=>rfl
  | cons x r ih=>show x :: unI (IL r)=_;rw [ih]
attribute [simp] unI_nil unI_cons unI_IL
end VwM
set_option linter.unusedVariables false
set_option linter.unusedSimpArgs false
set_option linter.unnecessarySimpa false
set_option maxRecDepth 4000
namespace VwM
open Vw
open Go

def lenI (a b c:Int):Int:=if vR a b c=true then cntN a b c else -1
def nrR (a b c:Int):AV:=if vR a b c=true then PR a c (cntN a b c) else rng 0 0 0
def rvR (a b c:Int):AV:=if vR a b c=true then PR (a + ((cntN a b c:Int) - 1) * c) (0 - c) (cntN a b c) else rng 0 0 0
def plI (a b c x:Int):Int:=if vR a b c=true then placeI (nums a c (cntN a b c)) x else -1
def fromEnd (i n:Int):Int:=if i < 0 then i + n else i
def naB (a b c i:Int):Bool:=vR a b c && decide (0 ≤ fromEnd i (cntN a b c)) && decide (fromEnd i (cntN a b c) < cntN a b c)
def naI (a b c i:Int):Int:=if naB a b c i=true then a + fromEnd i (cntN a b c) * c else 0
end VwM
set_option linter.unusedVariables false
set_option linter.unusedSimpArgs false
set_option linter.unnecessarySimpa false
set_option maxRecDepth 4000
namespace VwM
open Vw
open Go

end VwM
set_option linter.unusedVariables false
set_option linter.unusedSimpArgs false
set_option linter.unnecessarySimpa false
set_option maxRecDepth 4000
namespace VwM
open Vw
open Go

theorem Jez {sh idx:List Int}:∀ k,hor sh idx k=horF sh (fun i=>idx.getD i 0) k
  | 0=>rfl
  | k + 1=>by simp only [hor,horF,Jez k]
theorem unr_isIx {sh:List Int} (hg:good4 sh) {k:Int} (hk:0 ≤ k) (h:k < pr sh):vIx sh (unr sh k)=true:=by
  refine Dfz.2 ⟨by simp,fun i hi=>?_⟩
  have hi':i < sh.length:=by simpa using hi
  have:=dig_isIx hg hk h i hi'
  have e:(unr sh k).getD i 0=dig sh k i:=by simp [unr,List.getD,hi']
  rw [e]
  omega
theorem rank_unr {sh:List Int} (hs:vSh sh=true) {k:Int} (hk:0 ≤ k) (h:k < pr sh):rankD sh (unr sh k)=k:=by
  have hg:=(Bdz hs).1
  unfold rankD
  rw [if_pos ⟨hs,unr_isIx hg hk h⟩,← hor_all,Jez]
  rw [Iiz (g:=dig sh k) fun i hi=>by simp [unr,List.getD,hi]]
  exact horF_dig_all hk (pos_of_pr hg (by omega)) h
theorem vIx_isIx' {sh idx:List Int} (h:vIx sh idx=true):isIx sh (fun i=>idx.getD i 0):=fun i hi=>by
  obtain ⟨h1,h2⟩:=Dfz.1 h
  have:=h2 i (by omega)
  simp only
  omega
theorem unr_rank {sh idx:List Int} (hs:vSh sh=true) (hi:vIx sh idx=true):unr sh (rankD sh idx)=idx ∧ 0 ≤ rankD sh idx ∧ rankD sh idx < pr sh:=by
  have hg:=(Bdz hs).1
  have hx:=vIx_isIx' hi
  have e:rankD sh idx=horF sh (fun i=>idx.getD i 0) sh.length:=by
    unfold rankD
    rw [if_pos ⟨hs,hi⟩,← hor_all,Jez]
  have hb:=Eiz hx sh.length (Nat.le_refl _)
  rw [List.take_length] at hb
  rw [e]
  refine ⟨?_,by omega,by omega⟩
  refine Igz (by rw [D9z];exact (Dfz.1 hi).1.symm) fun j hj=>?_
  have hj':j < sh.length:=by simpa using hj
  have e2:(unr sh (horF sh (fun i=>idx.getD i 0) sh.length)).getD j 0=dig sh (horF sh (fun i=>idx.getD i 0) sh.length) j:=by simp [unr,List.getD,hj']
  rw [e2,dig_horF hx hj']
theorem pr_append (xs ys:List Int):pr (xs ++ ys)=pr xs * pr ys:=by
  induction xs with
  | nil=>rw [List.nil_append,Dwz,Int.one_mul]
  | cons x r ih=>rw [List.cons_append,Ctz,Ctz,ih,Int.mul_assoc]
theorem Icz (xs:List Int):pr xs.reverse=pr xs:=by
  induction xs with
  | nil=>rfl
  | cons x r ih=>rw [List.reverse_cons,pr_append,ih,Ctz,Ctz,Dwz,Int.mul_one,Int.mul_comm]
end VwM
set_option linter.unusedVariables false
set_option linter.unusedSimpArgs false
set_option linter.unnecessarySimpa false
set_option maxRecDepth 4000
namespace VwM
open Vw
open Go

def sumT (xs:List Int):Nat → Int
  | 0=>0
  | k + 1=>sumT xs k + xs.getD k 0
def sumI (a b c:Int):Int:=if vR a b c=true then sumT (nums a c (cntN a b c)) (cntN a b c) else 0
def takesL (xs at_:List Int):List Int:=at_.map fun i=>xs.getD i.toNat 0
end VwM
set_option linter.unusedVariables false
set_option linter.unusedSimpArgs false
set_option maxRecDepth 4000
namespace VwM
open Vw
open Go

def wo (xs:List Int) (k:Nat):List Int:=xs.take k ++ xs.drop (k + 1)
end VwM
set_option linter.unusedVariables false
set_option linter.unusedSimpArgs false
set_option maxRecDepth 4000
namespace VwM
open Vw
open Go

def spS (b:Int) (sh st:List Int):Int:=if pr sh=0 then 0 else bdL b sh st
def spN (b:Int) (sh st:List Int):Nat:=if pr sh=0 then 0 else (bdH b sh st - bdL b sh st + 1).toNat
def mayB (b:Int) (sh st:List Int) (b':Int) (sh' st':List Int):Bool :=
  vV b sh st && vV b' sh' st' && decide (0 < (commL (nums (spS b sh st) 1 (spN b sh st)) (nums (spS b' sh' st') 1 (spN b' sh' st'))).length)
def bothL (xs ys:List Int):List Int:=(nums 0 1 60).filter fun x=>decide (x ∈ xs ∧ x ∈ ys)
def bothT (xs ys:List Int) (k:Nat):List Int:=(nums 0 1 k).filter fun x=>decide (x ∈ xs ∧ x ∈ ys)
def lineA (b:Int) (sh st:List Int):AV:=if vV b sh st=true ∧ sh.length=1 then nrmA (bothL (offs b sh st) (offs b sh st)) else rng 0 0 0
end VwM
set_option linter.unusedVariables false
set_option linter.unusedSimpArgs false
set_option linter.unnecessarySimpa false
set_option maxRecDepth 4000
namespace VwM
open Vw
open Go

end VwM
set_option linter.unusedVariables false
set_option linter.unusedSimpArgs false
set_option maxRecDepth 4000
namespace VwM
open Vw
open Go

def MVB (v:Bool) (b:Int):Int:=if v=true then b else 0
def MVL (v:Bool) (l:List Int):List Int:=if v=true then l else []
abbrev MV (v:Bool) (b:Int) (sh st:List Int):AV → List (List AV) → Prop:=fun r H' =>
  r=.tup [.agg [.int .i64 (MVB v b),.own 0 (MVL v sh).length 1,.own 1 (MVL v st).length 1],.bool v] ∧ H'=[IL (MVL v sh),IL (MVL v st)]

def ins (xs:List Int) (k:Nat) (x:Int):List Int:=xs.take k ++ x :: xs.drop k
def cutK (n f t w:Int) (hf ht:Bool):Nat:=cntN (sFrom f n w hf) (sTo t n w ht) w
def cutSh (sh:List Int) (j:Nat) (f t w:Int) (hf ht:Bool):List Int:=sh.set j (cutK (sh.getD j 0) f t w hf ht)
def cutX (sh st:List Int) (j:Nat) (f t w:Int) (hf ht:Bool):Int:=if (cutK (sh.getD j 0) f t w hf ht:Int) ≤ 1 then 0 else pC w (cutK (sh.getD j 0) f t w hf ht) * st.getD j 0
def cutSt (sh st:List Int) (j:Nat) (f t w:Int) (hf ht:Bool):List Int :=
  if pr (cutSh sh j f t w hf ht)=0 then List.replicate sh.length 0 else st.set j (cutX sh st j f t w hf ht)
def cutB (b:Int) (sh st:List Int) (j:Nat) (f t w:Int) (hf ht:Bool):Int :=
  if pr (cutSh sh j f t w hf ht)=0 then 0 else b + pS (sFrom f (sh.getD j 0) w hf) (cutK (sh.getD j 0) f t w hf ht) * st.getD j 0
end VwM
set_option linter.unusedVariables false
set_option linter.unusedSimpArgs false
set_option maxRecDepth 4000
namespace VwM
open Vw
open Go

def isLine (b:Int) (L:List Int) (k:Nat):Bool:=(List.range k).all fun j=>decide (L.getD j 0=b + (j:Int))
end VwM
set_option linter.unusedVariables false
set_option linter.unusedSimpArgs false
set_option linter.unnecessarySimpa false
set_option maxRecDepth 4000
namespace VwM
open Vw
open Go

theorem take3 (xs:List Int) (off:Nat) (h:off + 3 ≤ xs.length):((xs.map (AV.int .i64)).drop off).take 3=[.int .i64 (xs.getD off 0),.int .i64 (xs.getD (off + 1) 0),.int .i64 (xs.getD (off + 2) 0)]:=by
  rw [List.drop_eq_getElem_cons (by simp;omega),List.drop_eq_getElem_cons (by simp;omega),List.drop_eq_getElem_cons (by simp;omega)]
  have h1:off < xs.length:=by omega
  have h2:off + 1 < xs.length:=by omega
  have h3:off + 2 < xs.length:=by omega
  have e3:off + 1 + 1=off + 2:=rfl
  simp only [e3]
  simp [h1,h2,h3,List.getD]
attribute [push_cast] take3
def fl3 (f:Nat → Int × Int × Int):Nat → List Int
  | 0=>[]
  | k + 1=>fl3 f k ++ [(f k).1,(f k).2.1,(f k).2.2]
def fz3 (f:Nat → Int × Int × Int) (n k:Nat):List Int:=fl3 f k ++ List.replicate ((n - k) * 3) 0
def dealF (a b c w:Int) (k:Nat):Int × Int × Int :=
  let m:Nat:=cntN k (cntN a b c) w
  (pS (a + (k:Int) * c) m,pE (a + (k:Int) * c) (c * w) m,pC (c * w) m)
def dealL (a b c w:Int):List Int:=if vR a b c=true ∧ 1 ≤ w ∧ w ≤ 6 then fl3 (dealF a b c w) w.toNat else []
def dealN (a b c w:Int):Nat:=if vR a b c=true ∧ 1 ≤ w ∧ w ≤ 6 then w.toNat else 0
theorem zcells3_1:zcells [AV.int .i64 0,.int .i64 0,.int .i64 0] 1=[AV.int .i64 0,.int .i64 0,.int .i64 0]:=rfl
attribute [push_cast] zcells3_1
end VwM
set_option linter.unusedVariables false
set_option linter.unusedSimpArgs false
set_option maxRecDepth 4000
namespace VwM
open Vw
open Go

theorem take2 (xs:List Int) (off:Nat) (h:off + 2 ≤ xs.length):((xs.map (AV.int .i64)).drop off).take 2=[.int .i64 (xs.getD off 0),.int .i64 (xs.getD (off + 1) 0)]:=by
  rw [List.drop_eq_getElem_cons (by simp;omega),List.drop_eq_getElem_cons (by simp;omega)]
  have h1:off < xs.length:=by omega
  have h2:off + 1 < xs.length:=by omega
  simp [h1,h2,List.getD]
theorem take2_0 (xs:List Int) (h:2 ≤ xs.length):(xs.map (AV.int .i64)).take 2=[.int .i64 (xs.getD 0 0),.int .i64 (xs.getD 1 0)]:=by
  have:=take2 xs 0 (by omega)
  rwa [List.drop_zero] at this
attribute [push_cast] take2 take2_0
def dm:List Int → List Int → List Int
  | e :: sh,s :: st=>e :: s :: dm sh st
  | _,_=>[]
theorem zcells2_1:zcells [AV.int .i64 0,.int .i64 0] 1=[AV.int .i64 0,.int .i64 0]:=rfl
attribute [push_cast] zcells2_1
def dmS (e s:Int):Int:=if e < 2 then 0 else s
end VwM
set_option linter.unusedVariables false
set_option linter.unusedSimpArgs false
set_option maxRecDepth 4000
namespace VwM
open Vw
open Go

def hasAll (xs:List Int) (k:Nat):Bool:=(List.range k).all fun d:Nat=>decide ((d:Int) ∈ xs)
end VwM
set_option linter.unusedVariables false
set_option linter.unusedSimpArgs false
set_option maxRecDepth 4000
namespace VwM
open Vw
open Go

def permL (xs order:List Int):List Int:=order.map fun i=>xs.getD i.toNat 0
def isOrd (order:List Int) (n:Nat):Prop:=order.length=n ∧ (∀ x ∈ order,0 ≤ x ∧ x ≤ (n:Int) - 1) ∧ order.Nodup
def sumL:List Int → Int
  | []=>0
  | x :: r=>x + sumL r
theorem Gqz (xs ys:List Int):sumL (xs ++ ys)=sumL xs + sumL ys:=by
  induction xs with
  | nil=>simp [sumL]
  | cons x r ih=>simp only [List.cons_append,sumL,ih];omega
def invO (order:List Int) (d:Nat):Nat:=order.idxOf (d:Int)
def mixP (xs order:List Int) (k:Nat):List Int:=permL xs (order.take k) ++ xs.drop k
def at4 (a b c d:Int):Nat → Int
  | 0=>a
  | 1=>b
  | 2=>c
  | 3=>d
  | _=>0
end VwM
set_option linter.unusedVariables false
set_option linter.unusedSimpArgs false
namespace VwM
open Vw Go

def vMem (mem:List Int):Bool:=decide (mem.length ≤ 60) && allI mem 0 255
def seeB (mem:List Int) (b:Int) (sh st:List Int):Bool:=vMem mem && vV b sh st && allI (offs b sh st) 0 ((mem.length:Int) - 1)

def wdt (sh st:List Int):Nat:=if sh.length=0 then 1 else if st.getD (sh.length - 1) 0=1 then (sh.getD (sh.length - 1) 0).toNat else 1


def putK (mem cells vals:List Int):Nat → List Int
  | 0=>mem
  | k + 1=>(putK mem cells vals k).set (cells.getD k 0).toNat (vals.getD k 0)
def putL (mem cells vals:List Int):List Int:=putK mem cells vals cells.length
def carK (mem to fr:List Int):Nat → List Int
  | 0=>mem
  | k + 1=>(carK mem to fr k).set (to.getD k 0).toNat ((carK mem to fr k).getD (fr.getD k 0).toNat 0)
def carL (mem to fr:List Int):List Int:=carK mem to fr fr.length
def addK (mem cells vals:List Int):Nat → List Int
  | 0=>mem
  | k + 1=>(addK mem cells vals k).set (cells.getD k 0).toNat (((addK mem cells vals k).getD (cells.getD k 0).toNat 0 + vals.getD k 0).tmod 256)
def addL (mem cells vals:List Int):List Int:=addK mem cells vals cells.length
def rvK (xs:List Int) (k:Nat):List Int:=(List.range xs.length).map fun i=>if i < k ∨ xs.length ≤ i + k then xs.getD (xs.length - 1 - i) 0 else xs.getD i 0

def mtL (xs ys:List Int):Bool:=(List.range xs.length).any fun i=>decide (xs.getD i 0 ∈ ys.drop (i + 1))
def chK (a b:List Int):Nat → List Int
  | 0=>[]
  | k + 1=>if a.getD k 0=b.getD k 0 then chK a b k else chK a b k ++ [(k:Int)]
def chL (a b:List Int):List Int:=chK a b a.length
end VwM
set_option linter.unusedVariables false
set_option linter.unusedSimpArgs false
set_option maxRecDepth 4000
namespace VwM
open Vw
open Go

def Tal (L:List ME) (c:Nat) (f:Int → Nat):Prop :=
  (∀ k,mget L k=(f k:Int)) ∧ (∀ k,mhas L k=true ↔ 0 < f k) ∧ (L.map (·.1)).Nodup ∧ (L.map (·.2.2)).Nodup ∧ ∀ p ∈ L,p.2.2 < c
def cnt (xs:List Int) (k:Int):Nat:=xs.count k
def addF (f g:Int → Nat) (k:Int):Nat:=f k + g k

def Seen (L V:List ME):Prop:=(V.map (·.2.2)).Nodup ∧ ∀ p ∈ V,p ∈ L
def pickT (t:Int) (V:List ME):List Int:=(V.filter fun p=>decide (t ≤ p.2.1)).map (·.1)
def atL (f:Int → Nat) (t:Nat):List Int:=(nums 0 1 60).filter fun x=>decide (t ≤ f x)
abbrev Vw3:=Int × List Int × List Int
def VLs:List Vw3 → List AV
  | []=>[]
  | v :: r=>.int .i64 v.1 :: RI v.2.1 :: RI v.2.2 :: VLs r
def allO (vs:List Vw3):List Int:=vs.flatMap fun v=>offs v.1 v.2.1 v.2.2
theorem Fzz (p:Nat → Bool):∀ xs:List Int,innL p (IL xs)=true
  | []=>rfl
  | x :: r=>by
    have:=Fzz p r
    simp only [IL,List.map_cons,innL,AV.inn,Bool.true_and]
    exact this
theorem ren_VLs {ρ:Nat → Option Nat} {Zh:Nat → Option (List AV)} {n:Nat}:∀ vs:List Vw3,(VLs vs).map (AV.ren ρ Zh false phiD (n + 2))=VLs vs
  | []=>rfl
  | v :: r=>by
    simp only [VLs,List.map_cons,ren_VLs r,List.cons.injEq,and_true]
    refine ⟨rfl,?_,?_⟩<;>simp [AV.ren,phiD]
attribute [push_cast] ren_VLs
abbrev repL (xs:List Int):List Int:=atL (cnt xs) 2
def ovB (b:Int) (sh st:List Int) (b':Int) (sh' st':List Int):Bool:=vV b sh st && vV b' sh' st'
def doB (b:Int) (sh st:List Int) (b':Int) (sh' st':List Int):Bool:=decide (0 < (MVL (ovB b sh st b' sh' st') (bothL (offs b sh st) (offs b' sh' st'))).length)
def atT (f:Int → Nat) (t:Nat) (k:Nat):List Int:=(nums 0 1 k).filter fun x=>decide (t ≤ f x)
def inclB (ys xs:List Int):Bool:=decide (∀ x ∈ ys,x ∈ xs)
def coB (b:Int) (sh st:List Int) (b':Int) (sh' st':List Int):Bool:=ovB b sh st b' sh' st' && inclB (offs b' sh' st') (offs b sh st)
def wiP (d:Bool) (O O':List Int):AV:=if d=true then .tup [.int .i64 (placeI O ((bothL O O').getD 0 0)),.int .i64 (placeI O' ((bothL O O').getD 0 0)),.bool true] else .tup [.int .i64 (-1),.int .i64 (-1),.bool false]
end VwM
set_option linter.unusedSectionVars false
set_option linter.unusedVariables false
set_option linter.unusedSimpArgs false
namespace VwM
open Go Vw

abbrev Tn:=List Int × List Int
def TL (b:Bool):List Tn → List AV
  | []=>[]
  | t :: r=>.rows b (IL t.1) t.1.length :: .rows b (IL t.2) t.2.length :: TL b r
def LL (b:Bool):List (List Int) → List AV
  | []=>[]
  | l :: r=>.rows b (IL l) l.length :: LL b r
theorem Bbz (b:Bool):∀ ts:List Tn,(TL b ts).length=ts.length * 2
  | []=>rfl
  | t :: r=>by simp only [TL,List.length_cons,Bbz b r];omega
theorem Bcz (b:Bool):∀ ls:List (List Int),(LL b ls).length=ls.length
  | []=>rfl
  | l :: r=>by simp only [LL,List.length_cons,Bcz b r]
theorem TL_append (b:Bool):∀ ts us:List Tn,TL b (ts ++ us)=TL b ts ++ TL b us
  | [],_=>rfl
  | t :: r,us=>by simp only [List.cons_append,TL,TL_append b r us]
theorem LL_append (b:Bool):∀ ts us:List (List Int),LL b (ts ++ us)=LL b ts ++ LL b us
  | [],_=>rfl
  | t :: r,us=>by simp only [List.cons_append,LL,LL_append b r us]
theorem Cnz (b:Bool):∀ (ts:List Tn) (i:Nat) {t:Tn},ts[i]?=some t → ((TL b ts).drop (i * 2)).take 2=[.rows b (IL t.1) t.1.length,.rows b (IL t.2) t.2.length]
  | [],_,_,h=>by simp at h
  | w :: r,0,v,h=>by simp at h;subst h;simp [TL]
  | w :: r,i + 1,v,h=>by
    rw [show (i + 1) * 2=i * 2 + 1 + 1 by omega]
    simp only [TL,List.drop_succ_cons]
    exact Cnz b r i (by simpa using h)
theorem C4z (b:Bool):∀ (ls:List (List Int)) (i:Nat) {l:List Int},ls[i]?=some l → ((LL b ls).drop i).take 1=[.rows b (IL l) l.length]
  | [],_,_,h=>by simp at h
  | w :: r,0,v,h=>by simp at h;subst h;simp [LL]
  | w :: r,i + 1,v,h=>by
    simp only [LL,List.drop_succ_cons]
    exact C4z b r i (by simpa using h)
theorem Acz (b:Bool) (p:Nat → Bool):∀ ts:List Tn,innL p (TL b ts)=true
  | []=>rfl
  | v :: r=>by
    simp only [TL,innL,AV.inn,Acz b p r,Bool.and_true,Bool.true_and,Bool.and_eq_true]
    exact ⟨Fzz _ _,Fzz _ _⟩
theorem Aaz (b:Bool) (p:Nat → Bool):∀ ls:List (List Int),innL p (LL b ls)=true
  | []=>rfl
  | v :: r=>by
    simp only [LL,innL,AV.inn,Aaz b p r,Bool.and_true,Bool.true_and,Bool.and_eq_true]
    exact Fzz _ _
section
variable {ρ:Nat → Option Nat} {Zh:Nat → Option (List AV)} {n:Nat} {b0:Bool} {φ:Bool → Option Bool}
theorem Brz (xs:List Int):(IL xs).map (AV.ren ρ Zh b0 φ (n + 1))=IL xs:=by unfold IL;rw [List.map_map];rfl
theorem ren_TL {b c:Bool} (h:φ b=some c):∀ ts:List Tn,(TL b ts).map (AV.ren ρ Zh b0 φ (n + 2))=TL c ts
  | []=>rfl
  | v :: r=>by
    simp only [TL,List.map_cons,ren_TL h r,List.cons.injEq,and_true]
    constructor<;>simp only [AV.ren,h,Brz]
theorem ren_LL {b c:Bool} (h:φ b=some c):∀ ls:List (List Int),(LL b ls).map (AV.ren ρ Zh b0 φ (n + 2))=LL c ls
  | []=>rfl
  | v :: r=>by
    simp only [LL,List.map_cons,ren_LL h r,List.cons.injEq,and_true]
    simp only [AV.ren,h,Brz]
theorem ren_TLD (b:Bool) (ts:List Tn):(TL b ts).map (AV.ren ρ Zh b0 phiD (n + 2))=TL false ts:=ren_TL (by cases b<;>rfl) ts
theorem ren_LLD (b:Bool) (ts:List (List Int)):(LL b ts).map (AV.ren ρ Zh b0 phiD (n + 2))=LL false ts:=ren_LL (by cases b<;>rfl) ts
theorem ren_TLU (sh:Bool) (ts:List Tn):(TL true ts).map (AV.ren ρ Zh b0 (phiU sh) (n + 2))=TL true ts:=ren_TL (by rfl) ts
theorem ren_LLU (sh:Bool) (ts:List (List Int)):(LL true ts).map (AV.ren ρ Zh b0 (phiU sh) (n + 2))=LL true ts:=ren_LL (by rfl) ts
theorem ren_TLV (b:Bool) (ts:List Tn):(TL b ts).map (AV.ren ρ Zh b0 (phiU true) (n + 2))=TL b ts:=ren_TL (by cases b<;>rfl) ts
theorem ren_LLV (b:Bool) (ts:List (List Int)):(LL b ts).map (AV.ren ρ Zh b0 (phiU true) (n + 2))=LL b ts:=ren_LL (by cases b<;>rfl) ts
theorem ren_TLs (b:Bool) (ts:List Tn):(TL b ts).map (AV.ren ρ Zh b0 some (n + 2))=TL b ts:=ren_TL (by rfl) ts
theorem ren_LLs (b:Bool) (ts:List (List Int)):(LL b ts).map (AV.ren ρ Zh b0 some (n + 2))=LL b ts:=ren_LL (by rfl) ts
end
attribute [push_cast] ren_TLD ren_LLD ren_TLU ren_LLU ren_TLV ren_LLV ren_TLs ren_LLs Bbz Bcz

theorem fz_IL {H:Nat → Option (List AV)} {n:Nat} (xs:List Int):(IL xs).map (AV.fz H (n + 1))=IL xs:=by unfold IL;rw [List.map_map];rfl
theorem fz_TL {H:Nat → Option (List AV)} {n:Nat} (b:Bool):∀ ts:List Tn,(TL b ts).map (AV.fz H (n + 2))=TL b ts
  | []=>rfl
  | v :: r=>by
    simp only [TL,List.map_cons,fz_TL b r,List.cons.injEq,and_true]
    constructor<;>simp only [AV.fz,fz_IL]
theorem fz_LL {H:Nat → Option (List AV)} {n:Nat} (b:Bool):∀ ls:List (List Int),(LL b ls).map (AV.fz H (n + 2))=LL b ls
  | []=>rfl
  | v :: r=>by
    simp only [LL,List.map_cons,fz_LL b r,List.cons.injEq,and_true]
    simp only [AV.fz,fz_IL]
attribute [push_cast] fz_TL fz_LL
theorem Biz {s:S} {t id:Nat} {e:List Int} {r:List ARes} {l:List AV} (h1:s.σ t=.ref id 5 0) (h2:s.H id=some (e.map (AV.int .i64))) (he:e.length=5) (hr:aresL s r=some l):aresL s (.cell t true 5 :: r)=some (.agg (e.map (AV.int .i64)) :: l):=by
  have h3:ares s (.cell t true 5)=some (.agg (e.map (AV.int .i64))):=by
    simp only [ares,h1,loadAV,h2,List.length_map,he]
    rw [if_pos (by simp),List.drop_zero,List.take_of_length_le (by simp [he])]
    rfl
  simp only [aresL,h3,hr]


def extG:List Int → List (Int × Int) → Option (List Int)
  | e,[]=>some e
  | e,p :: r=>if 0 ≤ e.getD p.1.toNat 0 ∧ e.getD p.1.toNat 0 ≠ p.2 then none else extG (e.set p.1.toNat p.2) r
def ext0:List Int:=[-1,-1,-1,-1,-1]
def prsOf (ts:List Tn) (ls:List (List Int)):List (Int × Int):=(ls.zip ts).flatMap fun p=>p.1.zip p.2.1
def labOk (ts:List Tn) (ls:List (List Int)):Bool:=(ls.zip ts).all fun p=>decide (p.1.length=p.2.1.length) && allI p.1 0 4
def exT (ts:List Tn) (ls:List (List Int)):Option (List Int):=if labOk ts ls=true then extG ext0 (prsOf ts ls) else none
def vT (t:Tn):Bool:=vSh t.1 && decide ((t.2.length:Int)=pr t.1) && allI t.2 (-1000000) 1000000
def exO (ts:List Tn) (ls:List (List Int)):Option (List Int):=if (ts.all vT && (decide (1 ≤ ts.length) && decide (ts.length ≤ 3)) && decide (ls.length=ts.length))=true then exT ts ls else none
theorem E2z:∀ (a b:List (Int × Int)) (e:List Int),extG e (a ++ b)=(extG e a).bind fun e'=>extG e' b
  | [],b,e=>rfl
  | p :: r,b,e=>by
    simp only [List.cons_append,extG]
    split
    · rfl
    · exact E2z r b _
theorem extG_len:∀ (a:List (Int × Int)) {e e':List Int},extG e a=some e' → e'.length=e.length
  | [],e,e',h=>by simp only [extG] at h;injection h with h;rw [h]
  | p :: r,e,e',h=>by
    simp only [extG] at h
    split at h
    · cases h
    · have:=extG_len r h;rw [List.length_set] at this;exact this
theorem extG_spec:∀ (a:List (Int × Int)) {e e':List Int} (k:Nat),k < e.length → (∀ p ∈ a,0 ≤ p.1 ∧ p.1 < e.length ∧ 0 ≤ p.2) → extG e a=some e' →
    (∀ p ∈ a,p.1=k → e'.getD k 0=p.2) ∧ ((∀ p ∈ a,p.1 ≠ k) → e'.getD k 0=e.getD k 0) ∧ (0 ≤ e.getD k 0 → e'.getD k 0=e.getD k 0)
  | [],e,e',k,hk,_,h=>by simp only [extG] at h;injection h with h;subst h;simp
  | p :: r,e,e',k,hk,hp,h=>by
    simp only [extG] at h
    split at h
    · cases h
    · rename_i hc
      have hpp:=hp p (by simp)
      obtain ⟨i1,i2,i3⟩:=extG_spec r (e:=e.set p.1.toNat p.2) k (by rw [List.length_set];exact hk) (fun q hq=>by rw [List.length_set];exact hp q (by simp [hq])) h
      have hg:(e.set p.1.toNat p.2).getD k 0=if p.1.toNat=k then p.2 else e.getD k 0:=by
        simp only [List.getD_eq_getElem?_getD,List.getElem?_set]
        by_cases hpk:p.1.toNat=k
        · subst hpk
          rw [if_pos rfl,if_pos rfl,if_pos hk];rfl
        · rw [if_neg hpk,if_neg hpk]
      rw [hg] at i2 i3
      have h3:p.1.toNat=k → e'.getD k 0=p.2:=fun he=>by
        rw [if_pos he] at i3
        exact i3 hpp.2.2
      refine ⟨fun q hq hqk=>?_,fun hn=>?_,fun h0=>?_⟩
      · rcases List.mem_cons.1 hq with rfl|hq
        · exact h3 (by omega)
        · exact i1 q hq hqk
      · have hpk:¬ p.1.toNat=k:=fun he=>hn p (by simp) (by omega)
        rw [if_neg hpk] at i2
        exact i2 fun q hq=>hn q (by simp [hq])
      · by_cases hpk:p.1.toNat=k
        · rw [h3 hpk]
          rw [hpk] at hc
          by_cases hx:e.getD k 0=p.2
          · exact hx.symm
          · exact absurd ⟨h0,hx⟩ hc
        · rw [if_neg hpk] at i3
          exact i3 h0
end VwM
set_option linter.unusedSectionVars false
set_option linter.unusedVariables false
set_option linter.unusedSimpArgs false
namespace VwM
open Go Vw

theorem set5 {e:List Int} (he:e.length=5) (a b c d f:AV):setRange [a,b,c,d,f] 0 (e.map (AV.int .i64))=e.map (AV.int .i64):=by
  match e,he with
  | [_,_,_,_,_],_=>rfl
theorem tak5 {e:List Int} (he:e.length=5):(e.map (AV.int .i64)).take 5=e.map (AV.int .i64):=List.take_of_length_le (by simp [he])

def mkL (L:List Int):List Bool:=(List.range 5).map fun c:Nat=>decide ((c:Int) ∈ L)
theorem Iez (L:List Int):(mkL L).length=5:=by simp [mkL]
theorem mkL_nil:(mkL []).map AV.bool=[AV.bool false,AV.bool false,AV.bool false,AV.bool false,AV.bool false]:=rfl
theorem mkL_set {L:List Int} {c:Int} (h:0 ≤ c ∧ c ≤ 4):(mkL L).set c.toNat true=mkL (L ++ [c]):=by
  refine List.ext_getElem? fun i=>?_
  simp only [mkL,List.getElem?_set,List.length_map,List.length_range,List.getElem?_map]
  by_cases hi:i < 5
  · rw [List.getElem?_range hi]
    by_cases hc:c.toNat=i
    · rw [if_pos hc,if_pos (by omega)]
      have:(i:Int)=c:=by omega
      simp [this]
    · rw [if_neg hc]
      have:¬ (i:Int)=c:=by omega
      simp [this]
  · rw [List.getElem?_eq_none (by simp;omega)]
    have hc:¬ c.toNat=i:=by omega
    rw [if_neg hc];rfl
theorem mkL_getD {L:List Int} {k:Nat} (h:k < 5):(mkL L).getD k false=decide ((k:Int) ∈ L):=by
  simp [mkL,List.getD,h]
def lbT (L:List Int) (k:Nat):List Int:=((List.range k).map Int.ofNat).filter fun x=>decide (x ∈ L)
abbrev lbS (L:List Int):List Int:=lbT L 5
theorem lbT_zero (L:List Int):lbT L 0=[]:=rfl
theorem lbT_yes {L:List Int} {k:Nat} (h:(k:Int) ∈ L):lbT L (k + 1)=lbT L k ++ [(k:Int)]:=by
  simp [lbT,List.range_succ,h]
theorem lbT_no {L:List Int} {k:Nat} (h:(k:Int) ∉ L):lbT L (k + 1)=lbT L k:=by
  simp [lbT,List.range_succ,h]
theorem Dlz (L:List Int) (k:Nat):(lbT L k).length ≤ k:=by
  unfold lbT
  exact Nat.le_trans (List.length_filter_le ..) (by simp)
theorem mem_lbT {L:List Int} {k:Nat} {x:Int}:x ∈ lbT L k ↔ (0 ≤ x ∧ x < k) ∧ x ∈ L:=by
  simp only [lbT,List.mem_filter,List.mem_map,List.mem_range,decide_eq_true_eq]
  constructor
  · rintro ⟨⟨i,hi,rfl⟩,h⟩
    exact ⟨⟨by simp,by simp;omega⟩,h⟩
  · rintro ⟨⟨h0,h1⟩,h⟩
    exact ⟨⟨x.toNat,by omega,by simp;omega⟩,h⟩
theorem Djz {L:List Int} {x:Int}:x ∈ lbS L ↔ (0 ≤ x ∧ x ≤ 4) ∧ x ∈ L:=by
  rw [mem_lbT];constructor<;>rintro ⟨⟨a,b⟩,c⟩<;>exact ⟨⟨a,by omega⟩,c⟩
theorem lbT_sorted (L:List Int) (k:Nat):(lbT L k).Pairwise (· < ·):=by
  unfold lbT
  refine List.Pairwise.filter _ (List.pairwise_map.2 ?_)
  refine List.Pairwise.imp ?_ (List.pairwise_lt_range (n:=k))
  intro a b h
  simp;omega

def good9 (xs:List Int):Prop:=(∀ x ∈ xs,0 ≤ x ∧ x ≤ 60) ∧ xs.length ≤ 6
theorem Ikz {xs:List Int} (h:good9 xs) (j:Nat):good9 (xs.take j):=⟨fun x hx=>h.1 x (List.mem_of_mem_take hx),by have:=h.2;simp;omega⟩
theorem Ciz {xs:List Int} (h:good9 xs):0 ≤ pr xs ∧ pr xs ≤ 46656000000:=by
  have h1:=Gwz xs h.1
  refine ⟨h1.1,Int.le_trans h1.2 ?_⟩
  have:(60:Int) ^ xs.length ≤ 60 ^ 6:=by
    have:=Nat.pow_le_pow_right (n:=60) (by omega) h.2
    exact_mod_cast this
  omega
def gE (e:List Int) (k:Int):Int:=e.getD k.toNat 0
def spE (e:List Int):List Int:=e.map fun x=>if x < 0 then 1 else x
theorem B6z (e:List Int):(spE e).length=e.length:=by simp [spE]
theorem spE_lbS {e U:List Int} (he:e.length=5) (h1:∀ k:Nat,k < 5 → (k:Int) ∉ U → e.getD k 0 < 0) (h2:∀ k:Nat,k < 5 → (k:Int) ∈ U → 0 ≤ e.getD k 0):pr (spE e)=pr ((lbS U).map (gE e)):=by
  match e,he with
  | [a,b,c,d,f],_ =>
    have a1:=h1 0 (by omega);have a2:=h2 0 (by omega)
    have b1:=h1 1 (by omega);have b2:=h2 1 (by omega)
    have c1:=h1 2 (by omega);have c2:=h2 2 (by omega)
    have d1:=h1 3 (by omega);have d2:=h2 3 (by omega)
    have f1:=h1 4 (by omega);have f2:=h2 4 (by omega)
    simp only [List.getD_eq_getElem?_getD,List.getElem?_cons_zero,List.getElem?_cons_succ,Option.getD_some] at a1 a2 b1 b2 c1 c2 d1 d2 f1 f2
    have e5:lbS U=(if (0:Int) ∈ U then [0] else []) ++ (if (1:Int) ∈ U then [1] else []) ++ (if (2:Int) ∈ U then [2] else []) ++ (if (3:Int) ∈ U then [3] else []) ++ (if (4:Int) ∈ U then [4] else []):=by
      have l0:lbT U 1=(if (0:Int) ∈ U then [0] else []):=by by_cases h:(0:Int) ∈ U<;>simp [lbT,h]
      have ls:∀ k:Nat,lbT U (k + 1)=lbT U k ++ (if (k:Int) ∈ U then [(k:Int)] else []):=fun k=>by
        by_cases h:(k:Int) ∈ U
        · rw [if_pos h,lbT_yes h]
        · rw [if_neg h,lbT_no h,List.append_nil]
      show lbT U (4 + 1)=_
      rw [ls 4,ls 3,ls 2,ls 1,l0]
      rfl
    rw [e5]
    have m:∀ (p:Prop) [Decidable p] (k x:Int),(p → gE [a,b,c,d,f] k=x) → pr ((if p then [k] else []).map (gE [a,b,c,d,f]))=if p then x else 1:=fun p _ k x hx=>by
      by_cases hp:p
      · rw [if_pos hp,if_pos hp];simp [pr,hx hp]
      · rw [if_neg hp,if_neg hp];rfl
    have ap:∀ xs ys:List Int,pr (xs ++ ys)=pr xs * pr ys:=fun xs ys=>by rw [pr,List.foldl_append,Hpz];rfl
    rw [List.map_append,List.map_append,List.map_append,List.map_append,ap,ap,ap,ap,m _ 0 a (fun _=>rfl),m _ 1 b (fun _=>rfl),m _ 2 c (fun _=>rfl),m _ 3 d (fun _=>rfl),m _ 4 f (fun _=>rfl)]
    have w:∀ (p:Prop) [Decidable p] (x:Int),(¬ p → x < 0) → (p → 0 ≤ x) → (if x < 0 then 1 else x)=if p then x else 1:=fun p _ x g1 g2=>by
      by_cases hp:p
      · have:=g2 hp;rw [if_pos hp,if_neg (by omega)]
      · have:=g1 hp;rw [if_neg hp,if_pos this]
    simp only [spE,List.map_cons,List.map_nil,Ctz,Dwz]
    rw [w _ a a1 a2,w _ b b1 b2,w _ c c1 c2,w _ d d1 d2,w _ f f1 f2]
    simp only [Int.mul_one,Int.mul_assoc]
    rfl

theorem I4z {ts:List Tn} {ls:List (List Int)} {i:Nat} {t:Tn} {l:List Int} (ht:ts[i]?=some t) (hl:ls[i]?=some l):prsOf (ts.take (i + 1)) (ls.take (i + 1))=prsOf (ts.take i) (ls.take i) ++ l.zip t.1:=by
  have hi:i < ts.length:=by rcases Nat.lt_or_ge i ts.length with h|h;exact h;rw [List.getElem?_eq_none h] at ht;cases ht
  have hi':i < ls.length:=by rcases Nat.lt_or_ge i ls.length with h|h;exact h;rw [List.getElem?_eq_none h] at hl;cases hl
  have e:(ls.take (i + 1)).zip (ts.take (i + 1))=(ls.take i).zip (ts.take i) ++ [(l,t)]:=by
    rw [List.take_add_one,List.take_add_one,ht,hl]
    simp only [Option.toList_some]
    rw [List.zip_append (by simp;omega)]
    rfl
  unfold prsOf
  rw [e,List.flatMap_append]
  simp
theorem E6z {l x:List Int} {j:Nat} (h1:j < l.length) (h2:j < x.length):(l.zip x).take (j + 1)=(l.zip x).take j ++ [(l.getD j 0,x.getD j 0)]:=by
  rw [List.take_add_one]
  congr 1
  have h3:(l.zip x)[j]?=some (l.getD j 0,x.getD j 0):=by
    rw [List.getElem?_zip_eq_some];simp [List.getD,h1,h2]
  rw [h3];rfl
theorem extG_fail {a b:List (Int × Int)} {e e':List Int} {p:Int × Int} (h:extG e a=some e') (hp:0 ≤ e'.getD p.1.toNat 0 ∧ e'.getD p.1.toNat 0 ≠ p.2):extG e (a ++ p :: b)=none:=by
  rw [E2z,h]
  simp only [Option.bind_some,extG]
  rw [if_pos hp]
theorem extG_step {a:List (Int × Int)} {e e':List Int} {p:Int × Int} (h:extG e a=some e') (hp:¬ (0 ≤ e'.getD p.1.toNat 0 ∧ e'.getD p.1.toNat 0 ≠ p.2)):extG e (a ++ [p])=some (e'.set p.1.toNat p.2):=by
  rw [E2z,h]
  simp only [Option.bind_some,extG]
  rw [if_neg hp]
theorem zip_split {l x:List Int} {j:Nat} (h1:j < l.length) (h2:j < x.length):l.zip x=(l.zip x).take j ++ (l.getD j 0,x.getD j 0) :: (l.zip x).drop (j + 1):=by
  have h3:j < (l.zip x).length:=by simp;omega
  have h4:(l.zip x)[j]=(l.getD j 0,x.getD j 0):=by simp [List.getD,h1,h2]
  rw [← h4,List.getElem_cons_drop,List.take_append_drop]
theorem prs_split {ts:List Tn} {ls:List (List Int)} {i:Nat} {t:Tn} {l:List Int} (ht:ts[i]?=some t) (hl:ls[i]?=some l):∃ r,prsOf ts ls=prsOf (ts.take i) (ls.take i) ++ (l.zip t.1 ++ r):=by
  have hi:i < ts.length:=by rcases Nat.lt_or_ge i ts.length with h|h;exact h;rw [List.getElem?_eq_none h] at ht;cases ht
  have hi':i < ls.length:=by rcases Nat.lt_or_ge i ls.length with h|h;exact h;rw [List.getElem?_eq_none h] at hl;cases hl
  refine ⟨prsOf (ts.drop (i + 1)) (ls.drop (i + 1)),?_⟩
  rw [← List.append_assoc,← I4z ht hl]
  unfold prsOf
  rw [← List.flatMap_append,← List.zip_append (by simp;omega),List.take_append_drop,List.take_append_drop]
theorem exT_fail {ts:List Tn} {ls:List (List Int)} {i j:Nat} {t:Tn} {l e:List Int} (ht:ts[i]?=some t) (hl:ls[i]?=some l) (h1:j < l.length) (h2:j < t.1.length)
    (he:extG ext0 (prsOf (ts.take i) (ls.take i) ++ (l.zip t.1).take j)=some e) (hp:0 ≤ e.getD (l.getD j 0).toNat 0 ∧ e.getD (l.getD j 0).toNat 0 ≠ t.1.getD j 0):exT ts ls=none:=by
  unfold exT
  split
  · obtain ⟨r,hr⟩:=prs_split ht hl
    rw [hr,zip_split h1 h2,List.append_assoc,List.cons_append,← List.append_assoc]
    exact extG_fail he hp
  · rfl
theorem exT_lab {ts:List Tn} {ls:List (List Int)} {i:Nat} {t:Tn} {l:List Int} (ht:ts[i]?=some t) (hl:ls[i]?=some l) (h:(decide (l.length=t.1.length) && allI l 0 4)=false):exT ts ls=none:=by
  unfold exT
  rw [if_neg]
  intro hc
  have hm:(l,t) ∈ ls.zip ts:=List.mem_of_getElem? (i:=i) (by rw [List.getElem?_zip_eq_some];exact ⟨hl,ht⟩)
  have:=List.all_eq_true.1 hc _ hm
  rw [h] at this;cases this
theorem exT_done {ts:List Tn} {ls:List (List Int)} {e:List Int} (hlen:ls.length=ts.length) (hall:∀ (i:Nat) (t:Tn) (l:List Int),ts[i]?=some t → ls[i]?=some l → l.length=t.1.length ∧ allI l 0 4=true)
    (he:extG ext0 (prsOf (ts.take ts.length) (ls.take ts.length))=some e):exT ts ls=some e:=by
  unfold exT
  rw [if_pos,← he,List.take_length,← hlen,List.take_length]
  refine List.all_eq_true.2 fun p hp=>?_
  obtain ⟨i,hi⟩:=List.mem_iff_getElem?.1 hp
  obtain ⟨a,b⟩:=List.getElem?_zip_eq_some.1 hi
  obtain ⟨c,d⟩:=hall i _ _ b a
  simp [c,d]
theorem Cfz:ext0.length=5:=rfl
theorem exT_facts {ts:List Tn} {ls:List (List Int)} {e:List Int} (hlen:ls.length=ts.length) (hsh:∀ t ∈ ts,vSh t.1=true) (h:exT ts ls=some e) :
    e.length=5 ∧ (∀ k:Nat,k < 5 → (k:Int) ∉ ls.flatten → e.getD k 0 < 0) ∧ (∀ k:Nat,k < 5 → (k:Int) ∈ ls.flatten → 0 ≤ e.getD k 0 ∧ e.getD k 0 ≤ 60) ∧ (∀ k:Nat,k < 5 → -1 ≤ e.getD k 0) ∧
    (∀ x ∈ ls.flatten,0 ≤ x ∧ x ≤ 4) ∧ ∀ (i:Nat) (t:Tn) (l:List Int),ts[i]?=some t → ls[i]?=some l → l.length=t.1.length ∧ ∀ j,j < l.length → gE e (l.getD j 0)=t.1.getD j 0:=by
  unfold exT at h
  split at h
  case isFalse=>cases h
  rename_i hok
  have h5:=extG_len _ h
  have hlab:∀ (i:Nat) (t:Tn) (l:List Int),ts[i]?=some t → ls[i]?=some l → l.length=t.1.length ∧ ∀ x ∈ l,0 ≤ x ∧ x ≤ 4:=fun i t l ht hl=>by
    have hm:(l,t) ∈ ls.zip ts:=List.mem_of_getElem? (i:=i) (by rw [List.getElem?_zip_eq_some];exact ⟨hl,ht⟩)
    have:=List.all_eq_true.1 hok _ hm
    rw [Bool.and_eq_true,decide_eq_true_eq,Btz] at this
    exact this
  have hpm:∀ p,p ∈ prsOf ts ls ↔ ∃ (i:Nat) (t:Tn) (l:List Int) (j:Nat),ts[i]?=some t ∧ ls[i]?=some l ∧ j < l.length ∧ p=(l.getD j 0,t.1.getD j 0):=fun p=>by
    unfold prsOf
    rw [List.mem_flatMap]
    constructor
    · rintro ⟨⟨l,t⟩,hm,hp⟩
      obtain ⟨i,hi⟩:=List.mem_iff_getElem?.1 hm
      obtain ⟨a,b⟩:=List.getElem?_zip_eq_some.1 hi
      obtain ⟨j,hj⟩:=List.mem_iff_getElem?.1 hp
      obtain ⟨c,d⟩:=List.getElem?_zip_eq_some.1 hj
      have hjl:j < l.length:=(List.getElem?_eq_some_iff.1 c).1
      refine ⟨i,t,l,j,b,a,hjl,?_⟩
      have c':l[j]?=some p.1:=c
      have d':t.1[j]?=some p.2:=d
      simp [List.getD_eq_getElem?_getD,c',d']
    · rintro ⟨i,t,l,j,ht,hl,hj,rfl⟩
      have hll:=(hlab i t l ht hl).1
      refine ⟨(l,t),List.mem_of_getElem? (i:=i) (by rw [List.getElem?_zip_eq_some];exact ⟨hl,ht⟩),?_⟩
      refine List.mem_of_getElem? (i:=j) ?_
      rw [List.getElem?_zip_eq_some]
      constructor
      · simp [List.getD,hj]
      · simp [List.getD,show j < t.1.length by omega]
  have hshp:∀ t ∈ ts,∀ j,j < t.1.length → 0 ≤ t.1.getD j 0 ∧ t.1.getD j 0 ≤ 60:=fun t ht j hj=>(Bdz (hsh t ht)).1.1 _ (A9z hj)
  have hb:∀ p ∈ prsOf ts ls,(0 ≤ p.1 ∧ p.1 < ext0.length ∧ 0 ≤ p.2):=fun p hp=>by
    obtain ⟨i,t,l,j,ht,hl,hj,rfl⟩:=(hpm p).1 hp
    obtain ⟨a,b⟩:=hlab i t l ht hl
    have:=b _ (A9z hj)
    have h2:=hshp t (List.mem_of_getElem? ht) j (by omega)
    exact ⟨this.1,by rw [Cfz];omega,h2.1⟩
  have hs:=fun k hk=>extG_spec (prsOf ts ls) (e:=ext0) (e':=e) k hk hb h
  have h0:∀ k:Nat,k < 5 → ext0.getD k 0=-1:=fun k hk=>by
    have:k=0 ∨ k=1 ∨ k=2 ∨ k=3 ∨ k=4:=by omega
    rcases this with rfl|rfl|rfl|rfl|rfl<;>rfl
  have hmf:∀ x,x ∈ ls.flatten ↔ ∃ p ∈ prsOf ts ls,p.1=x:=fun x=>by
    rw [List.mem_flatten]
    constructor
    · rintro ⟨l,hl,hx⟩
      obtain ⟨i,hi⟩:=List.mem_iff_getElem?.1 hl
      obtain ⟨j,hj,e⟩:=Dkz.1 hx
      have hil:i < ls.length:=(List.getElem?_eq_some_iff.1 hi).1
      have ht:ts[i]?=some (ts[i]'(by omega)):=List.getElem?_eq_getElem _
      exact ⟨_,(hpm _).2 ⟨i,_,l,j,ht,hi,hj,rfl⟩,e⟩
    · rintro ⟨p,hp,rfl⟩
      obtain ⟨i,t,l,j,ht,hl,hj,rfl⟩:=(hpm p).1 hp
      exact ⟨l,List.mem_of_getElem? hl,A9z hj⟩
  have hneg:∀ k:Nat,k < 5 → (k:Int) ∉ ls.flatten → e.getD k 0=-1:=fun k hk hn=>by
    rw [(hs k hk).2.1 fun p hp he=>hn ((hmf k).2 ⟨p,hp,he⟩),h0 k hk]
  have hpos:∀ k:Nat,k < 5 → (k:Int) ∈ ls.flatten → 0 ≤ e.getD k 0 ∧ e.getD k 0 ≤ 60:=fun k hk hm=>by
    obtain ⟨p,hp,he⟩:=(hmf k).1 hm
    rw [(hs k hk).1 p hp he]
    obtain ⟨i,t,l,j,ht,hl,hj,rfl⟩:=(hpm p).1 hp
    exact hshp t (List.mem_of_getElem? ht) j (by rw [← (hlab i t l ht hl).1];exact hj)
  refine ⟨h5,fun k hk hn=>by rw [hneg k hk hn];omega,hpos,fun k hk=>?_,fun x hx=>?_,fun i t l ht hl=>⟨(hlab i t l ht hl).1,fun j hj=>?_⟩⟩
  · by_cases hm:(k:Int) ∈ ls.flatten
    · have:=hpos k hk hm;omega
    · rw [hneg k hk hm];omega
  · obtain ⟨l,hl,hxl⟩:=List.mem_flatten.1 hx
    obtain ⟨i,hi⟩:=List.mem_iff_getElem?.1 hl
    have hil:i < ls.length:=(List.getElem?_eq_some_iff.1 hi).1
    exact (hlab i _ l (List.getElem?_eq_getElem (by omega)) hi).2 x hxl
  · have hr:=(hlab i t l ht hl).2 _ (A9z hj)
    have hp:=(hpm (l.getD j 0,t.1.getD j 0)).2 ⟨i,t,l,j,ht,hl,hj,rfl⟩
    exact (hs (l.getD j 0).toNat (by rw [Cfz];omega)).1 _ hp (by simp only;omega)
end VwM
set_option linter.unusedSectionVars false
set_option linter.unusedVariables false
set_option linter.unusedSimpArgs false
namespace VwM
open Go Vw

def besT {α:Type} (l:List α) (i j:Nat):Nat → List α
  | 0=>[]
  | k + 1=>besT l i j k ++ (if k ≠ i ∧ k ≠ j then (l[k]?).toList else [])
abbrev besL {α:Type} (l:List α) (i j:Nat):List α:=besT l i j l.length
def keT (ls:List (List Int)) (out:List Int) (a b:List Int) (i j:Nat) (k:Nat):List Int:=((List.range k).map Int.ofNat).filter fun x=>(decide (x ∈ a) || decide (x ∈ b)) && (decide (x ∈ out) || decide (x ∈ (besL ls i j).flatten))
abbrev keL (ls:List (List Int)) (out:List Int) (a b:List Int) (i j:Nat):List Int:=keT ls out a b i j 5
def wiL (xs ys:List Int):List Int:=xs.filter fun x=>!decide (x ∈ ys)
theorem wiL_in {xs ys:List Int} {k:Nat} (h:k < xs.length) (hm:xs.getD k 0 ∈ ys):wiL (xs.take (k + 1)) ys=wiL (xs.take k) ys:=by
  rw [Bkz xs k h];unfold wiL;rw [List.filter_append];simp [hm,-List.getD_eq_getElem?_getD]
theorem wiL_out {xs ys:List Int} {k:Nat} (h:k < xs.length) (hm:xs.getD k 0 ∉ ys):wiL (xs.take (k + 1)) ys=wiL (xs.take k) ys ++ [xs.getD k 0]:=by
  rw [Bkz xs k h];unfold wiL;rw [List.filter_append];simp [hm,-List.getD_eq_getElem?_getD]
theorem wiL_len (xs ys:List Int):(wiL xs ys).length ≤ xs.length:=List.length_filter_le ..
def selT (e U:List Int) (k:Nat):List Int:=(List.range k).map fun n:Nat=>if (n:Int) ∈ U then e.getD n 0 else -1
abbrev selE (e U:List Int):List Int:=selT e U 5
def cbE (e:List Int) (ls:List (List Int)) (out a b:List Int) (i j:Nat):Int:=pr (spE (selE e (a ++ b))) + pr (spE (selE e ((besL ls i j).flatten ++ keL ls out a b i j)))
def cbN (e:List Int) (ls:List (List Int)) (out:List Int) (i j:Nat):Int:=cbE e ls out (ls.getD i []) (ls.getD j []) i j
end VwM
set_option linter.unusedVariables false
set_option linter.unusedSimpArgs false
namespace VwM
open Vw Go

def rpt (c:List Int):Nat → List Int
  | 0=>[]
  | n + 1=>c ++ rpt c n
def rpK (c z:List Int) (k n:Nat):List Int:=rpt c n ++ rpt z (k - n)
end VwM
set_option linter.unusedSectionVars false
set_option linter.unusedVariables false
set_option linter.unusedSimpArgs false
namespace VwM
open Go Vw

theorem zcells_pair2 (a b:AV):zcells [a,b] 2=[a,b,a,b]:=by simp [zcells,List.range_succ,List.getD]
theorem zcells_pair3 (a b:AV):zcells [a,b] 3=[a,b,a,b,a,b]:=by simp [zcells,List.range_succ,List.getD]
attribute [push_cast] zcells_pair2 zcells_pair3
end VwM
set_option linter.unusedSectionVars false
set_option linter.unusedVariables false
set_option linter.unusedSimpArgs false
namespace VwM
open Go Vw

def wkF (e:List Int) (p:List Int × Int) (x:Int):List Int × Int:=(p.1.set x.toNat (p.2.tmod (gE e x)),p.2.tdiv (gE e x))
def wkS (e w:List Int) (k:Int) (L:List Int):List Int × Int:=L.foldl (wkF e) (w,k)
theorem wkS_nil (e w:List Int) (k:Int):wkS e w k []=(w,k):=rfl
theorem wkS_snoc (e w:List Int) (k:Int) (L:List Int) (x:Int):wkS e w k (L ++ [x])=wkF e (wkS e w k L) x:=by simp [wkS]
theorem Irz (e w:List Int) (k:Int) (L:List Int):(wkS e w k L).1.length=w.length:=by
  unfold wkS
  induction L generalizing w k with
  | nil=>rfl
  | cons x L ih=>simp only [List.foldl_cons];rw [show wkF e (w,k) x=((wkF e (w,k) x).1,(wkF e (w,k) x).2) from rfl,ih];simp [wkF]
theorem wkS_bound (e w:List Int) (k:Int) (L:List Int) (hk:0 ≤ k) (hL:∀ x ∈ L,0 < gE e x):0 ≤ (wkS e w k L).2 ∧ (wkS e w k L).2 ≤ k:=by
  unfold wkS
  induction L generalizing w k with
  | nil=>exact ⟨hk,Int.le_refl _⟩
  | cons x L ih =>
    simp only [List.foldl_cons]
    have hx:=hL x (by simp)
    have h1:0 ≤ k.tdiv (gE e x):=Int.tdiv_nonneg hk (by omega)
    have h2:k.tdiv (gE e x) ≤ k:=by
      rw [Int.tdiv_eq_ediv_of_nonneg hk]
      exact Int.ediv_le_self _ hk
    have:=ih (w.set x.toNat (k.tmod (gE e x))) (k.tdiv (gE e x)) h1 (fun y hy=>hL y (by simp [hy]))
    exact ⟨this.1,Int.le_trans this.2 h2⟩
def wayK (e L w:List Int) (k:Int):List Int:=(wkS e w k L.reverse).1
theorem Dez (e L w:List Int) (k:Int):(wayK e L w k).length=w.length:=Irz ..
def waysT (e L w:List Int) (n:Nat):List (List Int):=(List.range n).map fun k:Nat=>wayK e L w k
def waysF (e L w:List Int) (n:Nat):List Int:=(waysT e L w n).flatten
theorem waysT_len (e L w:List Int) (n:Nat):(waysT e L w n).length=n:=by simp [waysT]
theorem waysT_succ (e L w:List Int) (n:Nat):waysT e L w (n + 1)=waysT e L w n ++ [wayK e L w n]:=by simp [waysT,List.range_succ]
theorem H7z (e L w:List Int) (n:Nat):waysF e L w (n + 1)=waysF e L w n ++ wayK e L w n:=by simp [waysF,waysT_succ]
theorem Cqz (e L w:List Int) (hw:w.length=5):∀ n,(waysF e L w n).length=n * 5
  | 0=>rfl
  | n + 1=>by rw [H7z,List.length_append,Cqz e L w hw n,Dez,hw];omega
def wy3 (e L w:List Int) (k n:Nat) (y:List Int):List Int:=waysF e L w k ++ (y ++ List.replicate ((n - k - 1) * 5) 0)
theorem wy3_len {e L w y:List Int} {k n:Nat} (hw:w.length=5) (hy:y.length=5) (hk:k < n):(wy3 e L w k n y).length=n * 5:=by
  unfold wy3
  rw [List.length_append,Cqz e L w hw,List.length_append,hy,List.length_replicate]
  omega
theorem wy3_set {e L w y:List Int} {k n:Nat} (hw:w.length=5) (hy:y.length=5) (i:Nat) (hi:i < 5) (v:Int):(wy3 e L w k n y).set (k * 5 + i) v=wy3 e L w k n (y.set i v):=by
  unfold wy3
  have hl:=Cqz e L w hw k
  rw [List.set_append_right _ _ (by omega),hl,Nat.add_sub_cancel_left,List.set_append_left _ _ (by omega)]
def wyZ (e L w:List Int) (k n:Nat):List Int:=waysF e L w k ++ List.replicate ((n - k) * 5) 0
theorem wyZ_len {e L w:List Int} {k n:Nat} (hw:w.length=5) (hk:k ≤ n):(wyZ e L w k n).length=n * 5:=by
  unfold wyZ
  rw [List.length_append,Cqz e L w hw,List.length_replicate]
  omega
theorem wyZ_zero (e L w:List Int) (n:Nat):wyZ e L w 0 n=List.replicate (n * 5) 0:=by simp [wyZ,waysF,waysT]
theorem wyZ_all (e L w:List Int) (n:Nat):wyZ e L w n n=waysF e L w n:=by simp [wyZ]
theorem wyZ_next {e L w:List Int} {k n:Nat} (hk:k < n):wy3 e L w k n (wayK e L w k)=wyZ e L w (k + 1) n:=by
  unfold wy3 wyZ
  rw [H7z,List.append_assoc]
  congr 2
theorem Ioz (a b:List Int):IL (a ++ b)=IL a ++ IL b:=by simp [IL]
theorem Anz (a:List Int):(IL a).length=a.length:=by simp [IL]
section
variable [Inhabited GlobT]
theorem wyZ_store {e L w y:List Int} {k n:Nat} (hw:w.length=5) (hy:y.length=5) (hk:k < n):setRange (IL (wyZ e L w k n)) (k * 5) (IL y)=IL (wy3 e L w k n y):=by
  have hl:=Cqz e L w hw k
  apply List.ext_getElem?
  intro j
  have hlen:(IL y).length=5:=by rw [Anz,hy]
  have h1:=wyZ_len (e:=e) (L:=L) hw (Nat.le_of_lt hk)
  rw [Dtz _ _ _ _ (by rw [hlen,Anz,h1];omega),hlen]
  by_cases hj:k * 5 ≤ j ∧ j < k * 5 + 5
  · rw [if_pos hj]
    unfold wy3
    simp only [IL,List.getElem?_map]
    rw [List.getElem?_append_right (by omega),hl,List.getElem?_append_left (by omega)]
  · rw [if_neg hj]
    unfold wy3 wyZ
    simp only [IL,List.getElem?_map]
    congr 1
    by_cases h2:j < k * 5
    · rw [List.getElem?_append_left (by omega),List.getElem?_append_left (by omega)]
    · rw [List.getElem?_append_right (by omega),List.getElem?_append_right (by omega),hl,List.getElem?_append_right (by omega),hy]
      simp only [List.getElem?_replicate]
      by_cases h3:j < n * 5
      · rw [if_pos (by omega),if_pos (by omega)]
      · rw [if_neg (by omega),if_neg (by omega)]
end
theorem spL_IL (xs:List Int):spL (IL xs)=false:=by
  induction xs with
  | nil=>rfl
  | cons x xs ih=>simp [IL,spL,AV.isSp]
theorem Auz {e:List Int} (he:e.length=5):List.take 5 (IL e)=IL e:=List.take_of_length_le (by rw [Anz,he];exact Nat.le_refl _)
theorem Etz (n:Nat):zcells [.int .i64 0,.int .i64 0,.int .i64 0,.int .i64 0,.int .i64 0] n=IL (List.replicate (n * 5) 0):=by
  unfold zcells IL
  apply List.ext_getElem?
  intro i
  simp only [List.length_cons,List.length_nil,List.getElem?_map,List.getElem?_replicate]
  by_cases hi:i < n * 5
  · rw [List.getElem?_range (by omega),if_pos hi]
    have:i % 5=0 ∨ i % 5=1 ∨ i % 5=2 ∨ i % 5=3 ∨ i % 5=4:=by omega
    rcases this with h|h|h|h|h<;>simp [h]
  · rw [if_neg hi,List.getElem?_eq_none (by simp;omega)];rfl
def bwX (L:List Int):List (Int × Int):=(List.range L.length).map fun j:Nat=>((L.length:Int) - 1 - j,L.getD (L.length - 1 - j) 0)
theorem bwX_len (L:List Int):(bwX L).length=L.length:=by simp [bwX]
theorem bwX_mem {L:List Int} {p:Int × Int} (h:p ∈ bwX L):p.2 ∈ L:=by
  unfold bwX at h
  rw [List.mem_map] at h
  obtain ⟨j,hj,rfl⟩:=h
  rw [List.mem_range] at hj
  have:L.length - 1 - j < L.length:=by omega
  simp only [List.getD,List.getElem?_eq_getElem this,Option.getD_some]
  exact List.getElem_mem this
theorem bwX_snd (L:List Int):(bwX L).map (·.2)=L.reverse:=by
  unfold bwX
  rw [List.map_map]
  apply List.ext_getElem
  · simp
  · intro i h1 h2
    simp only [List.length_map,List.length_range] at h1
    have:L.length - 1 - i < L.length:=by omega
    simp [List.getElem_reverse,List.getD,List.getElem?_eq_getElem this]
abbrev bwA (e:List Int):={p:Int × Int // (0 ≤ p.2 ∧ p.2 ≤ 4) ∧ 0 < gE e p.2 ∧ gE e p.2 ≤ 60}
def bwL (e L:List Int) (h:∀ x ∈ L,(0 ≤ x ∧ x ≤ 4) ∧ 0 < gE e x ∧ gE e x ≤ 60):List (bwA e):=(bwX L).pmap (fun p hp=>⟨p,hp⟩) (fun p hp=>h p.2 (bwX_mem hp))
theorem bwL_len (e L:List Int) (h):(bwL e L h).length=L.length:=by simp [bwL,bwX_len]
theorem bwL_get (e L:List Int) (h) (j:Nat) (hj:j < (bwL e L h).length):(bwL e L h)[j].1.1=(L.length:Int) - 1 - j ∧ L[L.length - 1 - j]?=some (bwL e L h)[j].1.2:=by
  have hj':j < L.length:=by rw [bwL_len] at hj;exact hj
  have h3:L.length - 1 - j < L.length:=by omega
  simp only [bwL,List.getElem_pmap,bwX,List.getElem_map,List.getElem_range]
  refine ⟨trivial,?_⟩
  simp [List.getD,List.getElem?_eq_getElem h3]
theorem bwL_snd (e L:List Int) (h):(bwL e L h).map (·.1.2)=L.reverse:=by
  rw [← bwX_snd]
  unfold bwL
  rw [List.map_pmap]
  simp [List.pmap_eq_map]
theorem Dvz:∀ {xs:List Int},(∀ x ∈ xs,0 ≤ x) → 0 ≤ pr xs
  | [],_=>by decide
  | y :: ys,h=>by rw [Ctz];exact Int.mul_nonneg (h y (by simp)) (Dvz fun z hz=>h z (by simp [hz]))
theorem Cdz:∀ {xs:List Int},0 < pr xs → (∀ x ∈ xs,0 ≤ x) → ∀ x ∈ xs,0 < x
  | [],_,_,_,h=>by simp at h
  | y :: ys,hp,hn,x,hx=>by
    rw [Ctz] at hp
    have hy:=hn y (by simp)
    have hys:0 ≤ pr ys:=by
      have:=@Dvz ys (fun z hz=>hn z (by simp [hz]))
      exact this
    have hy0:0 < y:=by
      rcases Int.lt_or_eq_of_le hy with h|h
      · exact h
      · rw [← h] at hp;simp at hp
    have hp0:0 < pr ys:=by
      rcases Int.lt_or_eq_of_le hys with h|h
      · exact h
      · rw [← h] at hp;simp at hp
    rcases List.mem_cons.1 hx with rfl|hx
    · exact hy0
    · exact Cdz hp0 (fun z hz=>hn z (by simp [hz])) x hx
end VwM
set_option linter.unusedSectionVars false
set_option linter.unusedVariables false
set_option linter.unusedSimpArgs false
namespace VwM
open Go Vw

def sumN:Nat → (Nat → Int) → Int
  | 0,_=>0
  | n + 1,f=>sumN n f + f n
theorem Bfz {f g:Nat → Int}:∀ {n:Nat},(∀ a,a < n → f a=g a) → sumN n f=sumN n g
  | 0,_=>rfl
  | n + 1,h=>by simp only [sumN];rw [Bfz (fun a ha=>h a (by omega)),h n (by omega)]
theorem sumN_add (f g:Nat → Int):∀ n,sumN n (fun a=>f a + g a)=sumN n f + sumN n g
  | 0=>rfl
  | n + 1=>by simp only [sumN];rw [sumN_add f g n];omega
theorem Fbz:∀ n,sumN n (fun _=>0)=0
  | 0=>rfl
  | n + 1=>by simp only [sumN];rw [Fbz n];rfl
theorem sumN_comm (f:Nat → Nat → Int):∀ n m,sumN n (fun a=>sumN m (fun b=>f a b))=sumN m (fun b=>sumN n (fun a=>f a b))
  | 0,m=>by simp only [sumN];rw [Fbz]
  | n + 1,m=>by simp only [sumN];rw [sumN_comm f n m,← sumN_add]
theorem H9z (f:Nat → Int) (k:Nat):∀ m,sumN (k + m) f=sumN k f + sumN m (fun b=>f (k + b))
  | 0=>by simp [sumN]
  | m + 1=>by rw [← Nat.add_assoc];simp only [sumN];rw [H9z f k m];omega
theorem sumN_prod (m:Nat) (f:Nat → Int):∀ n,sumN (n * m) f=sumN n (fun a=>sumN m (fun b=>f (a * m + b)))
  | 0=>by simp [sumN]
  | n + 1=>by rw [Nat.succ_mul,H9z,sumN_prod m f n];simp only [sumN]
theorem sumN_one {f:Nat → Int} {p:Nat}:∀ {n:Nat},p < n → sumN n (fun a=>if a=p then f a else 0)=f p
  | 0,h=>by omega
  | n + 1,h=>by
    simp only [sumN]
    by_cases hp:p < n
    · rw [sumN_one hp,if_neg (by omega)];omega
    · have:n=p:=by omega
      subst this
      rw [if_pos rfl,Bfz (g:=fun _=>0) (fun a ha=>if_neg (by omega)),Fbz];omega

def SS (e:List Int):List Int → List Int → (List Int → Int) → Int
  | [],w,g=>g w
  | x :: L,w,g=>sumN (gE e x).toNat fun a=>SS e L (w.set x.toNat (a:Int)) g

theorem Hzz (e:List Int) (g:List Int → Int) (M:List Int):∀ (L w:List Int),SS e (L ++ M) w g=SS e L w (fun v=>SS e M v g)
  | [],w=>rfl
  | x :: L,w=>by simp only [List.cons_append,SS];exact Bfz fun a _=>Hzz e g M L _
theorem SS_zero (e:List Int):∀ (L w:List Int),SS e L w (fun _=>0)=0
  | [],w=>rfl
  | x :: L,w=>by simp only [SS];rw [Bfz (fun a _=>SS_zero e L _),Fbz]
def fitW (e w:List Int) (x:Int):Prop:=0 ≤ gE w x ∧ gE w x < gE e x

theorem Hjz {w:List Int} {x y:Int} {a:Int} (hx:0 ≤ x ∧ x.toNat < w.length) (hy:0 ≤ y):gE (w.set x.toNat a) y=if y=x then a else gE w y:=by
  unfold gE
  simp only [List.getD_eq_getElem?_getD,List.getElem?_set]
  by_cases h:y=x
  · subst h;simp [hx.2]
  · rw [if_neg (by omega),if_neg h]

theorem Glz {e:List Int} {f g:List Int → Int}:∀ {L w:List Int},(∀ x ∈ L,0 ≤ x ∧ x.toNat < w.length) → L.Nodup →
    (∀ v:List Int,v.length=w.length → (∀ y,0 ≤ y → y ∉ L → gE v y=gE w y) → (∀ x ∈ L,fitW e v x) → f v=g v) → SS e L w f=SS e L w g
  | [],w,_,_,h=>h w rfl (fun _ _ _=>rfl) (fun _ h=>by simp at h)
  | x :: L,w,hL,hn,h=>by
    simp only [SS]
    rw [List.nodup_cons] at hn
    refine Bfz fun a ha=>Glz (fun y hy=>by simpa using hL y (by simp [hy])) hn.2 fun v hv h1 h2=>?_
    have hx:=hL x (by simp)
    refine h v (by simpa using hv) (fun y hy0 hy=>?_) (fun y hy=>?_)
    · simp only [List.mem_cons,not_or] at hy
      rw [h1 y hy0 hy.2,Hjz hx hy0,if_neg hy.1]
    · rcases List.mem_cons.1 hy with rfl|hy
      · have:=h1 y hx.1 hn.1
        rw [Hjz hx hx.1,if_pos rfl] at this
        unfold fitW
        omega
      · exact h2 y hy
theorem SS_perm {e:List Int} {g:List Int → Int} {L M:List Int} (h:L.Perm M):(∀ x ∈ L,0 ≤ x) → L.Nodup → ∀ w,SS e L w g=SS e M w g:=by
  induction h with
  | nil=>intro _ _ w;rfl
  | cons x _ ih =>
    intro hL hn w
    rw [List.nodup_cons] at hn
    simp only [SS]
    exact Bfz fun a _=>ih (fun y hy=>hL y (by simp [hy])) hn.2 _
  | swap x y L =>
    intro hL hn w
    simp only [List.nodup_cons,List.mem_cons,not_or] at hn
    have hx:=hL x (by simp)
    have hy:=hL y (by simp)
    simp only [SS]
    rw [sumN_comm]
    refine Bfz fun b _=>Bfz fun a _=>?_
    rw [List.set_comm _ _ (by omega)]
  | trans h1 _ ih1 ih2 =>
    intro hL hn w
    rw [ih1 hL hn w,ih2 (fun x hx=>hL x (h1.mem_iff.2 hx)) (h1.nodup_iff.1 hn) w]

theorem F7z (e:List Int):∀ (L w:List Int) (k:Int) (x a:Int),0 ≤ x → (∀ y ∈ L,0 ≤ y) → x ∉ L → (wkS e (w.set x.toNat a) k L)=((wkS e w k L).1.set x.toNat a,(wkS e w k L).2)
  | [],w,k,x,a,_,_,_=>rfl
  | y :: L,w,k,x,a,hx,hL,hn=>by
    simp only [List.mem_cons,not_or] at hn
    have hy:=hL y (by simp)
    have ih:=F7z e L (w.set y.toNat (k.tmod (gE e y))) (k.tdiv (gE e y)) x a hx (fun z hz=>hL z (by simp [hz])) hn.2
    show wkS e ((w.set x.toNat a).set y.toNat (k.tmod (gE e y))) (k.tdiv (gE e y)) L=((wkS e (w.set y.toNat (k.tmod (gE e y))) (k.tdiv (gE e y)) L).1.set x.toNat a,(wkS e (w.set y.toNat (k.tmod (gE e y))) (k.tdiv (gE e y)) L).2)
    rw [List.set_comm _ _ (by omega),ih]
theorem H6z (e w:List Int) (k:Int) (L M:List Int):wkS e w k (L ++ M)=wkS e (wkS e w k L).1 (wkS e w k L).2 M:=by simp [wkS]
theorem wkS_rank (e:List Int):∀ (L w:List Int) (b c:Nat),(∀ x ∈ L,0 < gE e x) → (b:Int) < pr (L.map (gE e)) →
    wkS e w ((c:Int) * pr (L.map (gE e)) + b) L=((wkS e w b L).1,(c:Int)) ∧ (wkS e w b L).2=0
  | [],w,b,c,_,hb=>by
    have:b=0:=by have h1:pr ([]:List Int)=1:=rfl;simp only [List.map_nil,h1] at hb;omega
    subst this
    simp [wkS,show pr ([]:List Int)=1 from rfl]
  | x :: L,w,b,c,hL,hb=>by
    have hx:=hL x (by simp)
    obtain ⟨m,hm⟩:∃ m:Nat,gE e x=m:=⟨(gE e x).toNat,by omega⟩
    have hp:0 ≤ pr (L.map (gE e)):=Dvz fun z hz=>by obtain ⟨y,hy,rfl⟩:=List.mem_map.1 hz;exact Int.le_of_lt (hL y (by simp [hy]))
    obtain ⟨q,hq⟩:∃ q:Nat,pr (L.map (gE e))=q:=⟨(pr (L.map (gE e))).toNat,by omega⟩
    rw [List.map_cons,Ctz,hm,hq] at hb ⊢
    have hm0:0 < m:=by omega
    have hbq:b < m * q:=by exact_mod_cast hb
    have hbd:b / m < q:=Nat.div_lt_of_lt_mul hbq
    have e1:((c:Int) * ((m:Int) * q) + b)=((c * (m * q) + b:Nat):Int):=by push_cast
    have e2:(c * (m * q) + b) % m=b % m:=by rw [show c * (m * q) + b=b + m * (c * q) by rw [Nat.mul_left_comm,Nat.add_comm]];exact Nat.add_mul_mod_self_left _ _ _
    have e3:(c * (m * q) + b) / m=c * q + b / m:=by rw [show c * (m * q) + b=b + m * (c * q) by rw [Nat.mul_left_comm,Nat.add_comm],Nat.add_mul_div_left _ _ hm0,Nat.add_comm]
    have ih:=wkS_rank e L (w.set x.toNat ((b % m:Nat):Int)) (b / m) c (fun y hy=>hL y (by simp [hy])) (by rw [hq];exact_mod_cast hbd)
    rw [hq] at ih
    have s1:∀ (z:Nat),wkS e w z (x :: L)=wkS e (w.set x.toNat ((z % m:Nat):Int)) ((z / m:Nat):Int) L:=fun z=>by
      show L.foldl (wkF e) (wkF e (w,(z:Int)) x)=L.foldl (wkF e) _
      simp only [wkF,hm,Int.ofNat_tmod,Int.ofNat_tdiv]
    rw [e1,s1,s1,e2,e3]
    have e4:((c * q + b / m:Nat):Int)=(c:Int) * q + ((b / m:Nat):Int):=by push_cast
    rw [e4]
    exact ih
theorem Fcz (e:List Int) (g:List Int → Int):∀ (L w:List Int),(∀ x ∈ L,0 ≤ x ∧ 0 ≤ gE e x) → L.Nodup → sumN (pr (L.map (gE e))).toNat (fun k=>g (wayK e L w k))=SS e L w g
  | [],w,_,_=>by simp [sumN,SS,wayK,wkS,show pr ([]:List Int)=1 from rfl]
  | x :: L,w,hL,hn=>by
    rw [List.nodup_cons] at hn
    have hx:=hL x (by simp)
    have hp:0 ≤ pr (L.map (gE e)):=Dvz fun z hz=>by obtain ⟨y,hy,rfl⟩:=List.mem_map.1 hz;exact (hL y (by simp [hy])).2
    rw [List.map_cons,Ctz,Int.toNat_mul hx.2 hp,sumN_prod]
    simp only [SS]
    refine Bfz fun a ha=>?_
    rw [← Fcz e g L _ (fun y hy=>hL y (by simp [hy])) hn.2]
    refine Bfz fun b hb=>?_
    congr 1
    have hpos:∀ y ∈ L,0 < gE e y:=fun y hy=>by
      have:=Cdz (xs:=L.map (gE e)) (by omega) (fun z hz=>by obtain ⟨y,hy,rfl⟩:=List.mem_map.1 hz;exact (hL y (by simp [hy])).2)
      exact this _ (List.mem_map.2 ⟨y,hy,rfl⟩)
    have hb':(b:Int) < pr (L.reverse.map (gE e)):=by rw [List.map_reverse,Icz];omega
    have hk:=wkS_rank e L.reverse w b a (fun y hy=>hpos y (by simpa using hy)) hb'
    rw [List.map_reverse,Icz] at hk
    have e1:(((a * (pr (L.map (gE e))).toNat + b:Nat)):Int)=(a:Int) * pr (L.map (gE e)) + b:=by push_cast;rw [Int.toNat_of_nonneg hp]
    unfold wayK
    rw [List.reverse_cons,H6z,e1,hk.1,F7z e L.reverse w b x a hx.1 (fun y hy=>(hL y (by simp at hy;simp [hy])).1) (by simpa using hn.1)]
    show ((wkS e w b L.reverse).1.set x.toNat ((a:Int).tmod (gE e x)))=_
    have:(a:Int).tmod (gE e x)=a:=Int.tmod_eq_of_lt (by omega) (by omega)
    rw [this]
end VwM
set_option linter.unusedSectionVars false
set_option linter.unusedVariables false
set_option linter.unusedSimpArgs false
namespace VwM
open Go Vw

theorem cells_clo (fn:Fn) (az cs:List AV):(AV.clo fn az cs).cells=some [.clo fn az cs]:=rfl
theorem isCell_clo (fn:Fn) (az cs:List AV):(AV.clo fn az cs).isCell=true:=rfl
attribute [push_cast] cells_clo isCell_clo

abbrev w64 (n:Int):Int:=IntKind.wrap .i64 n
theorem w64_eq (n:Int):w64 n=(n + 9223372036854775808) % 18446744073709551616 - 9223372036854775808:=by show IntKind.wrap .i64 n=_;rw [IntKind.wrap_i64]
theorem H8z (n q:Int):w64 (n + 18446744073709551616 * q)=w64 n:=by
  rw [w64_eq,w64_eq,show n + 18446744073709551616 * q + 9223372036854775808=n + 9223372036854775808 + 18446744073709551616 * q by omega,Int.add_mul_emod_self_left]
theorem w64_form (n:Int):∃ q,w64 n=n + 18446744073709551616 * q:=⟨-((n + 9223372036854775808) / 18446744073709551616),by rw [w64_eq];omega⟩
theorem w64_id {n:Int} (h:-9223372036854775808 ≤ n ∧ n ≤ 9223372036854775807):w64 n=n:=by rw [w64_eq];omega
theorem Iuz (a b:Int):w64 (w64 a + b)=w64 (a + b):=by
  obtain ⟨q,hq⟩:=w64_form a
  rw [hq,show a + 18446744073709551616 * q + b=a + b + 18446744073709551616 * q by omega,H8z]
theorem Itz (a b:Int):w64 (a + w64 b)=w64 (a + b):=by rw [Int.add_comm,Iuz,Int.add_comm]
theorem w64_mull (a b:Int):w64 (w64 a * b)=w64 (a * b):=by
  obtain ⟨q,hq⟩:=w64_form a
  rw [hq,Int.add_mul,Int.mul_assoc,H8z]
theorem w64_zero:w64 0=0:=by decide
def prodL:List Int → Int
  | []=>1
  | x :: r=>x * prodL r
theorem prodL_append (a b:List Int):prodL (a ++ b)=prodL a * prodL b:=by
  induction a with
  | nil=>simp [prodL]
  | cons x r ih=>simp only [List.cons_append,prodL,ih,Int.mul_assoc]
theorem Faz {α:Type} (f:α → Int) (xs:List α) {k:Nat} {x:α} (h:xs[k]?=some x):(xs.take (k + 1)).map f=(xs.take k).map f ++ [f x]:=by
  have hk:=(List.getElem?_eq_some_iff.1 h).1
  rw [List.take_add_one,h];simp
theorem sum_step {α:Type} (f:α → Int) (xs:List α) {k:Nat} {x:α} (h:xs[k]?=some x):w64 (w64 (sumL ((xs.take k).map f)) + w64 (f x))=w64 (sumL ((xs.take (k + 1)).map f)):=by
  rw [Iuz,Itz,Faz f xs h,Gqz];simp [sumL]
theorem prod_step {α:Type} (f:α → Int) (xs:List α) {k:Nat} {x:α} (h:xs[k]?=some x):w64 (w64 (prodL ((xs.take k).map f)) * f x)=w64 (prodL ((xs.take (k + 1)).map f)):=by
  rw [w64_mull,Faz f xs h,prodL_append];simp [prodL]
theorem sumN_list (f:Nat → Int):∀ n,sumN n f=sumL ((List.range n).map f)
  | 0=>rfl
  | n + 1=>by simp only [sumN];rw [sumN_list f n,List.range_succ,List.map_append,Gqz];simp [sumL]

def fsT (l rs:List Int):Nat → List Int
  | 0=>[0,0,0,0,0]
  | k + 1=>(fsT l rs k).set (l.getD k 0).toNat (gE (fsT l rs k) (l.getD k 0) + rs.getD k 0)
theorem Hkz (l rs:List Int):∀ k,(fsT l rs k).length=5
  | 0=>rfl
  | k + 1=>by rw [fsT,List.length_set,Hkz l rs k]
theorem sumL_one {U:List Int} {f:Int → Int} {x c:Int} (hn:U.Nodup) (hx:x ∈ U):sumL (U.map fun y=>if y=x then f y + c else f y)=sumL (U.map f) + c:=by
  induction U with
  | nil=>simp at hx
  | cons y U ih =>
    rw [List.nodup_cons] at hn
    simp only [List.map_cons,sumL]
    rcases List.mem_cons.1 hx with rfl|hx
    · rw [if_pos rfl]
      have:U.map (fun y=>if y=x then f y + c else f y)=U.map f:=List.map_congr_left fun z hz=>if_neg (fun e:z=x=>hn.1 (by rw [← e];exact hz))
      rw [this];omega
    · have hyx:y ≠ x:=fun e=>hn.1 (by rw [e];exact hx)
      rw [if_neg hyx,ih hn.2 hx];omega
theorem gE_nil5 (x:Int):gE [0,0,0,0,0] x=0:=by
  unfold gE
  by_cases h5:5 ≤ x.toNat
  · have e:([0,0,0,0,0]:List Int)[x.toNat]?=none:=List.getElem?_eq_none h5
    simp only [List.getD,e,Option.getD_none]
  · have:x.toNat=0 ∨ x.toNat=1 ∨ x.toNat=2 ∨ x.toNat=3 ∨ x.toNat=4:=by omega
    rcases this with h|h|h|h|h<;>(rw [h];rfl)
theorem zero_sum (U:List Int):sumL (U.map fun _=>(0:Int))=0:=by
  induction U with
  | nil=>rfl
  | cons x U ih=>simp only [List.map_cons,sumL];rw [ih];rfl
theorem fsT_sum (w l rs U:List Int) (hU:U.Nodup) (hU0:∀ x ∈ U,0 ≤ x ∧ x ≤ 4):∀ k,k ≤ l.length → (∀ d,d < k → l.getD d 0 ∈ U) → sumL (U.map fun x=>gE w x * gE (fsT l rs k) x)=dot (fun d=>gE w (l.getD d 0)) rs k
  | 0,_,_=>by
    simp only [dot,fsT]
    have:U.map (fun x=>gE w x * gE [0,0,0,0,0] x)=U.map fun _=>0:=List.map_congr_left fun x _=>by rw [gE_nil5];simp
    rw [this]
    exact zero_sum U
  | k + 1,hk,hl=>by
    have ih:=fsT_sum w l rs U hU hU0 k (by omega) (fun d hd=>hl d (by omega))
    simp only [dot]
    rw [← ih]
    have hx:=hl k (by omega)
    have hx0:=hU0 _ hx
    have h5:=Hkz l rs k
    rw [← sumL_one (f:=fun x=>gE w x * gE (fsT l rs k) x) (c:=gE w (l.getD k 0) * rs.getD k 0) hU hx]
    congr 1
    refine List.map_congr_left fun y hy=>?_
    rw [fsT,Hjz ⟨hx0.1,by omega⟩ (hU0 y hy).1]
    by_cases h:y=l.getD k 0
    · rw [if_pos h,if_pos h,Int.mul_add,h]
    · rw [if_neg h,if_neg h]
def tv (t:Tn) (l w:List Int):Int:=t.2.getD (dot (fun d=>gE w (l.getD d 0)) (rowS t.1) t.1.length).toNat 0

abbrev Fc:=List Int × List Int × List Int
def fcV (f:Fc) (w:List Int):Int:=f.1.getD (sumL (f.2.1.map fun x=>gE w x * gE f.2.2 x)).toNat 0
def fcOk (f:Fc) (w:List Int):Prop:=(f.1.length ≤ 1099511627776 ∧ f.2.1.length ≤ 1099511627776) ∧ f.2.2.length=5 ∧ (∀ x ∈ f.2.1,0 ≤ x ∧ x ≤ 4) ∧ 0 ≤ sumL (f.2.1.map fun x=>gE w x * gE f.2.2 x) ∧ sumL (f.2.1.map fun x=>gE w x * gE f.2.2 x) < f.1.length
def FC (g:Nat) (b1 b2:Bool):List Fc → List AV
  | []=>[]
  | f :: r=>.clo (.func g) [.agg (.rows b1 (IL f.1) f.1.length :: .rows b2 (IL f.2.1) f.2.1.length :: IL f.2.2)] [] :: FC g b1 b2 r
theorem H0z (g:Nat) (b1 b2:Bool):∀ fs:List Fc,(FC g b1 b2 fs).length=fs.length
  | []=>rfl
  | f :: r=>by simp [FC,H0z g b1 b2 r]
theorem FC_append (g:Nat) (b1 b2:Bool):∀ fs gs:List Fc,FC g b1 b2 (fs ++ gs)=FC g b1 b2 fs ++ FC g b1 b2 gs
  | [],gs=>rfl
  | f :: r,gs=>by simp [FC,FC_append g b1 b2 r gs]
theorem FC_drop (g:Nat) (b1 b2:Bool):∀ (fs:List Fc) (i:Nat) {f:Fc},fs[i]?=some f → ((FC g b1 b2 fs).drop i).take 1=[.clo (.func g) [.agg (.rows b1 (IL f.1) f.1.length :: .rows b2 (IL f.2.1) f.2.1.length :: IL f.2.2)] []]
  | [],i,f,h=>by simp at h
  | f' :: r,0,f,h=>by simp at h;subst h;rfl
  | f' :: r,i + 1,f,h=>by simp only [FC,List.drop_succ_cons];exact FC_drop g b1 b2 r i (by simpa using h)
theorem Eyz (g:Nat) (b1 b2:Bool) (p:Nat → Bool):∀ fs:List Fc,innL p (FC g b1 b2 fs)=true
  | []=>rfl
  | f :: r=>by
    have hi:∀ xs:List Int,innL p (IL xs)=true:=fun xs=>by
      induction xs with
      | nil=>rfl
      | cons x xs ih=>simpa [IL,innL,AV.inn] using ih
    simp [FC,innL,AV.inn,hi,Eyz g b1 b2 p r]
section
variable {ρ:Nat → Option Nat} {Zh:Nat → Option (List AV)} {b0:Bool} {φ:Bool → Option Bool} {n:Nat}
theorem ren_FC {g:Nat} {b1 b2 c1 c2:Bool} (h1:φ b1=some c1) (h2:φ b2=some c2):∀ fs:List Fc,(FC g b1 b2 fs).map (AV.ren ρ Zh b0 φ (n + 4))=FC g c1 c2 fs
  | []=>rfl
  | f :: r=>by simp only [FC,List.map_cons,List.map_nil,AV.ren,h1,h2,Brz,ren_FC h1 h2 r]
theorem ren_FCD (g:Nat) (b1 b2:Bool) (fs:List Fc):(FC g b1 b2 fs).map (AV.ren ρ Zh b0 phiD (n + 4))=FC g false false fs:=ren_FC (by cases b1<;>rfl) (by cases b2<;>rfl) fs
theorem ren_FCs (g:Nat) (b1 b2:Bool) (fs:List Fc):(FC g b1 b2 fs).map (AV.ren ρ Zh b0 some (n + 4))=FC g b1 b2 fs:=ren_FC rfl rfl fs
end
attribute [push_cast] ren_FCD ren_FCs H0z
theorem set5I {e:List Int} (he:e.length=5) (a b c d f:AV):setRange [a,b,c,d,f] 0 (IL e)=IL e:=set5 he a b c d f
theorem F1z:∀ {ws:List (List Int)} {i:Nat} {w:List Int},(∀ v ∈ ws,v.length=5) → ws[i]?=some w → ((IL ws.flatten).drop (i * 5)).take 5=IL w
  | [],i,w,_,h=>by simp at h
  | v :: r,0,w,hl,h=>by
    simp at h;subst h
    have:=hl v (by simp)
    simp only [List.flatten_cons,Ioz,Nat.zero_mul,List.drop_zero]
    rw [List.take_append_of_le_length (by rw [Anz];omega),Auz this]
  | v :: r,i + 1,w,hl,h=>by
    have hv:=hl v (by simp)
    simp only [List.flatten_cons,Ioz]
    rw [show (i + 1) * 5=(IL v).length + i * 5 by rw [Anz,hv];omega,List.drop_append,List.drop_of_length_le (by omega),List.nil_append,Nat.add_sub_cancel_left]
    exact F1z (ws:=r) (fun u hu=>hl u (List.mem_cons_of_mem _ hu)) (by simpa using h)
theorem flat5_len:∀ {ws:List (List Int)},(∀ v ∈ ws,v.length=5) → ws.flatten.length=ws.length * 5
  | [],_=>rfl
  | v :: r,h=>by rw [List.flatten_cons,List.length_append,h v (by simp),flat5_len (fun u hu=>h u (by simp [hu])),List.length_cons];omega
theorem drop2 (x y:AV) (L:List AV) (c:Nat):List.drop (2 + c) (x :: y :: L)=List.drop c L:=by rw [Nat.add_comm];rfl
theorem set2 (x y v:AV) (L:List AV) (c:Nat):(x :: y :: L).set (2 + c) v=x :: y :: L.set c v:=by rw [Nat.add_comm];rfl
theorem take7 {L:List Int} (h:L.length=5) (x y:AV):List.take 7 (x :: y :: IL L)=x :: y :: IL L:=List.take_of_length_le (by simp only [List.length_cons,Anz,h];omega)
theorem fsT_bound {l rs:List Int} (hl:∀ x ∈ l,0 ≤ x ∧ x ≤ 4) (hr:∀ x ∈ rs,0 ≤ x ∧ x ≤ 12960000) (hlen:rs.length=l.length):∀ k,k ≤ l.length → ∀ x,0 ≤ x → 0 ≤ gE (fsT l rs k) x ∧ gE (fsT l rs k) x ≤ k * 12960000
  | 0,_,x,_=>by rw [fsT,gE_nil5];omega
  | k + 1,hk,x,hx=>by
    have ih:=fsT_bound hl hr hlen k (by omega)
    have h5:=Hkz l rs k
    have hlk:=hl _ (A9z (xs:=l) (j:=k) (by omega))
    have hrk:=hr _ (A9z (xs:=rs) (j:=k) (by omega))
    rw [fsT,Hjz ⟨hlk.1,by omega⟩ hx]
    split
    · have:=ih _ hlk.1;push_cast;omega
    · have:=ih x hx;push_cast;omega
theorem set72 {L:List Int} (h:L.length=5) (x y a b c d e:AV):setRange [x,y,a,b,c,d,e] 2 (IL L)=x :: y :: IL L:=by
  match L,h with
  | [p,q,r,s,t],_=>rfl
section
variable [Inhabited GlobT]
theorem aresL_c7 {s:S} {t id:Nat} {x y:AV} {e:List Int} {r:List ARes} {l:List AV} (h1:s.σ t=.ref id 7 0) (h2:s.H id=some (x :: y :: IL e)) (he:e.length=5) (hr:aresL s r=some l):aresL s (.cell t true 7 :: r)=some (.agg (x :: y :: IL e) :: l):=by
  have h3:ares s (.cell t true 7)=some (.agg (x :: y :: IL e)):=by
    simp only [ares,h1,loadAV,h2]
    rw [if_pos (by simp [Anz,he]),List.drop_zero,take7 he]
    rfl
  simp only [aresL,h3,hr]
end
end VwM
set_option linter.unusedSectionVars false
set_option linter.unusedVariables false
set_option linter.unusedSimpArgs false
namespace VwM
open Go Vw

theorem Dbz (L:List Int):(lbS L).Nodup:=(lbT_sorted L 5).imp fun h=>by omega
theorem Hbz (L:List Int):∀ x ∈ lbS L,0 ≤ x ∧ x ≤ 4:=fun x hx=>(Djz.1 hx).1
theorem wiL_nodup {xs ys:List Int} (h:xs.Nodup):(wiL xs ys).Nodup:=List.Pairwise.filter _ h
theorem mem_wiL {xs ys:List Int} {x:Int}:x ∈ wiL xs ys ↔ x ∈ xs ∧ x ∉ ys:=by unfold wiL;simp

theorem Iqz (e:List Int):∀ (L w:List Int) (k x:Int),0 ≤ x → (∀ y ∈ L,0 ≤ y ∧ y.toNat < w.length) → x ∉ L → gE (wkS e w k L).1 x=gE w x
  | [],w,k,x,_,_,_=>rfl
  | y :: L,w,k,x,hx,hL,hn=>by
    simp only [List.mem_cons,not_or] at hn
    show gE (wkS e (w.set y.toNat (k.tmod (gE e y))) (k.tdiv (gE e y)) L).1 x=_
    rw [Iqz e L _ _ x hx (fun z hz=>by simpa using hL z (by simp [hz])) hn.2,Hjz (hL y (by simp)) hx,if_neg hn.1]
theorem wkS_in (e:List Int):∀ (L w:List Int) (k x:Int),0 ≤ k → (∀ y ∈ L,0 ≤ y ∧ y.toNat < w.length) → (∀ y ∈ L,0 < gE e y) → x ∈ L → fitW e (wkS e w k L).1 x
  | [],w,k,x,_,_,_,h=>by simp at h
  | y :: L,w,k,x,hk,hL,hp,hx=>by
    have hy:=hL y (by simp)
    have hpy:=hp y (by simp)
    show fitW e (wkS e (w.set y.toNat (k.tmod (gE e y))) (k.tdiv (gE e y)) L).1 x
    by_cases hxl:x ∈ L
    · exact wkS_in e L _ _ x (Int.tdiv_nonneg hk (by omega)) (fun z hz=>by simpa using hL z (by simp [hz])) (fun z hz=>hp z (by simp [hz])) hxl
    · have hxy:x=y:=by
        rcases List.mem_cons.1 hx with h|h
        · exact h
        · exact absurd h hxl
      subst hxy
      unfold fitW
      rw [Iqz e L _ _ x hy.1 (fun z hz=>by simpa using hL z (by simp [hz])) hxl,Hjz hy hy.1,if_pos rfl]
      exact ⟨Int.tmod_nonneg _ hk,Int.tmod_lt_of_pos _ hpy⟩
theorem wayK_out {e L w:List Int} {k x:Int} (hx:0 ≤ x) (hL:∀ y ∈ L,0 ≤ y ∧ y.toNat < w.length) (hn:x ∉ L):gE (wayK e L w k) x=gE w x :=
  Iqz e L.reverse w k x hx (fun y hy=>hL y (by simpa using hy)) (by simpa using hn)
theorem Isz {e L w:List Int} {k x:Int} (hk:0 ≤ k) (hL:∀ y ∈ L,0 ≤ y ∧ y.toNat < w.length) (hp:∀ y ∈ L,0 < gE e y) (hx:x ∈ L):fitW e (wayK e L w k) x :=
  wkS_in e L.reverse w k x hk (fun y hy=>hL y (by simpa using hy)) (fun y hy=>hp y (by simpa using hy)) (by simpa using hx)
theorem wkS_rem (e w L:List Int) (k:Int):∀ j,j ≤ L.length → (wkS e w k (L.reverse.take j)).2=kS (L.map (gE e)) k j
  | 0,_=>rfl
  | j + 1,hj=>by
    have hjl:j < L.reverse.length:=by rw [List.length_reverse];omega
    rw [List.take_succ_eq_append_getElem hjl,wkS_snoc]
    show (wkS e w k (L.reverse.take j)).2.tdiv _=(kS (L.map (gE e)) k j).tdiv _
    rw [wkS_rem e w L k j (by omega)]
    congr 1
    have h2:L.length - 1 - j < L.length:=by omega
    rw [List.getElem_reverse,List.length_map]
    simp [List.getD,h2]
theorem wayK_at {e L w:List Int} {k x:Int} {i:Nat} (hn:L.Nodup) (hL:∀ y ∈ L,0 ≤ y ∧ y.toNat < w.length) (hi:L[i]?=some x):gE (wayK e L w k) x=dig (L.map (gE e)) k i:=by
  have h1:i < L.length:=(List.getElem?_eq_some_iff.1 hi).1
  have hix:L[i]=x:=(List.getElem?_eq_some_iff.1 hi).2
  have hj:L.length - 1 - i < L.reverse.length:=by rw [List.length_reverse];omega
  have hsplit:L.reverse=L.reverse.take (L.length - 1 - i) ++ (L.reverse[L.length - 1 - i] :: L.reverse.drop (L.length - 1 - i + 1)):=by
    rw [← List.drop_eq_getElem_cons hj,List.take_append_drop]
  have hx:L.reverse[L.length - 1 - i]=x:=by
    rw [List.getElem_reverse,← hix]
    congr 1;omega
  rw [hx] at hsplit
  have hnr:L.reverse.Nodup:=by unfold List.Nodup at hn ⊢;rw [List.pairwise_reverse];exact hn.imp fun h=>Ne.symm h
  have hni:x ∉ L.reverse.drop (L.length - 1 - i + 1):=by
    rw [hsplit] at hnr
    have:=(List.nodup_append.1 hnr).2.1
    exact (List.nodup_cons.1 this).1
  have hLi:=hL x (List.mem_of_getElem? hi)
  have hmem:∀ y,y ∈ L.reverse.drop (L.length - 1 - i + 1) → 0 ≤ y ∧ y.toNat < w.length:=fun y hy=>hL y (by have:=List.mem_of_mem_drop hy;simpa using this)
  have hrem:=wkS_rem e w L k (L.length - 1 - i) (by omega)
  have hw1:wayK e L w k=(wkS e w k (L.reverse.take (L.length - 1 - i) ++ (x :: L.reverse.drop (L.length - 1 - i + 1)))).1:=by unfold wayK;rw [← hsplit]
  rw [hw1,H6z]
  show gE (wkS e ((wkS e w k (L.reverse.take (L.length - 1 - i))).1.set x.toNat ((wkS e w k (L.reverse.take (L.length - 1 - i))).2.tmod (gE e x))) _ _).1 x=_
  rw [Iqz _ _ _ _ _ hLi.1 (fun y hy=>by rw [List.length_set,Irz];exact hmem y hy) hni,Hjz ⟨hLi.1,by rw [Irz];exact hLi.2⟩ hLi.1,if_pos rfl,hrem]
  unfold dig
  rw [List.length_map]
  congr 1
  simp [List.getD,hi]
theorem wayK_dig {e L w:List Int} {k:Int} (hn:L.Nodup) (hL:∀ y ∈ L,0 ≤ y ∧ y.toNat < w.length):L.map (gE (wayK e L w k))=unr (L.map (gE e)) k:=by
  apply List.ext_getElem?
  intro i
  unfold unr
  rw [List.getElem?_map,List.getElem?_map,List.length_map]
  cases hi:L[i]? with
  | none=>rw [List.getElem?_eq_none (by simpa using hi)];rfl
  | some x =>
    have h1:i < L.length:=(List.getElem?_eq_some_iff.1 hi).1
    rw [List.getElem?_range h1]
    simp only [Option.map_some]
    rw [wayK_at hn hL hi]

structure CtOk (ts:List Tn) (ls:List (List Int)) (e:List Int):Prop where
  len:e.length=5
  num:ls.length=ts.length
  lab:∀ (i:Nat) (t:Tn) (l:List Int),ts[i]?=some t → ls[i]?=some l → (vSh t.1=true ∧ (t.2.length:Int)=pr t.1) ∧ l.length=t.1.length ∧ (∀ x ∈ l,0 ≤ x ∧ x ≤ 4) ∧ ∀ j,j < l.length → gE e (l.getD j 0)=t.1.getD j 0
  used:∀ x ∈ ls.flatten,(0 ≤ x ∧ x ≤ 4) ∧ 0 ≤ gE e x ∧ gE e x ≤ 60
  un:∀ k:Nat,k < 5 → (k:Int) ∉ ls.flatten → e.getD k 0 < 0

def facs (ts:List Tn) (ls:List (List Int)):List Fc:=(ts.zip ls).map fun q=>(q.1.2,lbS q.2,fsT q.2 (rowS q.1.1) q.1.1.length)
theorem facs_get {ts:List Tn} {ls:List (List Int)} {i:Nat} {t:Tn} {l:List Int} (ht:ts[i]?=some t) (hl:ls[i]?=some l):(facs ts ls)[i]?=some (t.2,lbS l,fsT l (rowS t.1) t.1.length):=by
  unfold facs
  rw [List.getElem?_map,(List.getElem?_zip_eq_some (z:=(t,l))).2 ⟨ht,hl⟩];rfl
theorem facs_len {ts:List Tn} {ls:List (List Int)} (h:ls.length=ts.length):(facs ts ls).length=ts.length:=by simp [facs,h]
def gP (ts:List Tn) (ls:List (List Int)) (w:List Int):Int:=prodL ((ts.zip ls).map fun q=>tv q.1 q.2 w)

theorem dot_ix {sh idx:List Int} (hs:vSh sh=true) (hi:vIx sh idx=true):0 ≤ dot (fun i=>idx.getD i 0) (rowS sh) sh.length ∧ dot (fun i=>idx.getD i 0) (rowS sh) sh.length < pr sh:=by
  have h:=unr_rank hs hi
  unfold rankD at h
  rw [if_pos ⟨hs,hi⟩] at h
  exact h.2
theorem map_ix {sh l w:List Int} (hl:l.length=sh.length) (h:∀ j,j < l.length → 0 ≤ gE w (l.getD j 0) ∧ gE w (l.getD j 0) < sh.getD j 0):vIx sh (l.map (gE w))=true ∧ dot (fun i=>(l.map (gE w)).getD i 0) (rowS sh) sh.length=dot (fun i=>gE w (l.getD i 0)) (rowS sh) sh.length:=by
  have hg:∀ j,j < l.length → (l.map (gE w)).getD j 0=gE w (l.getD j 0):=fun j hj=>by simp [List.getD,hj]
  refine ⟨Dfz.2 ⟨by simpa using hl,fun i hi=>?_⟩,Foz fun i hi=>hg i (by omega)⟩
  rw [List.length_map] at hi
  rw [hg i hi]
  have:=h i hi
  omega
def fitL (e:List Int) (ls:List (List Int)) (w:List Int):Prop:=w.length=5 ∧ ∀ x ∈ ls.flatten,fitW e w x
theorem fit_lab {ts:List Tn} {ls:List (List Int)} {e w:List Int} (h:CtOk ts ls e) (hw:fitL e ls w) {i:Nat} {t:Tn} {l:List Int} (ht:ts[i]?=some t) (hl:ls[i]?=some l) :
    ∀ j,j < l.length → 0 ≤ gE w (l.getD j 0) ∧ gE w (l.getD j 0) < t.1.getD j 0:=fun j hj=>by
  have hx:l.getD j 0 ∈ ls.flatten:=List.mem_flatten.2 ⟨l,List.mem_of_getElem? hl,A9z hj⟩
  have:=hw.2 _ hx
  unfold fitW at this
  rw [(h.lab i t l ht hl).2.2.2 j hj] at this
  exact this
theorem tv_ok {ts:List Tn} {ls:List (List Int)} {e w:List Int} (h:CtOk ts ls e) (hw:fitL e ls w) {i:Nat} {t:Tn} {l:List Int} (ht:ts[i]?=some t) (hl:ls[i]?=some l) :
    fcV (t.2,lbS l,fsT l (rowS t.1) t.1.length) w=tv t l w ∧ sumL ((lbS l).map fun x=>gE w x * gE (fsT l (rowS t.1) t.1.length) x)=dot (fun i=>gE w (l.getD i 0)) (rowS t.1) t.1.length ∧ 0 ≤ dot (fun i=>gE w (l.getD i 0)) (rowS t.1) t.1.length ∧ dot (fun i=>gE w (l.getD i 0)) (rowS t.1) t.1.length < t.2.length ∧ vIx t.1 (l.map (gE w))=true:=by
  obtain ⟨⟨h1,h2⟩,h3,h4,h5⟩:=h.lab i t l ht hl
  have hfs:=fsT_sum w l (rowS t.1) (lbS l) (Dbz l) (Hbz l) t.1.length (by omega) (fun d hd=>Djz.2 ⟨h4 _ (A9z (by omega)),A9z (by omega)⟩)
  obtain ⟨m1,m2⟩:=map_ix h3 (fit_lab h hw ht hl)
  have hd:=dot_ix h1 m1
  rw [m2] at hd
  refine ⟨?_,hfs,hd.1,by omega,m1⟩
  unfold fcV tv
  rw [hfs]
theorem gP_facs {ts:List Tn} {ls:List (List Int)} {e w:List Int} (h:CtOk ts ls e) (hw:fitL e ls w):prodL ((facs ts ls).map fun f=>fcV f w)=gP ts ls w:=by
  unfold facs gP
  rw [List.map_map]
  congr 1
  refine List.map_congr_left fun q hq=>?_
  obtain ⟨i,hi⟩:=List.mem_iff_getElem?.1 hq
  obtain ⟨a,b⟩:=List.getElem?_zip_eq_some.1 hi
  exact (tv_ok h hw a b).1
theorem facs_ok {ts:List Tn} {ls:List (List Int)} {e w:List Int} (h:CtOk ts ls e) (hw:fitL e ls w) (hb:∀ t ∈ ts,t.2.length ≤ 1099511627776):∀ f ∈ facs ts ls,fcOk f w:=by
  intro f hf
  unfold facs at hf
  obtain ⟨q,hq,rfl⟩:=List.mem_map.1 hf
  obtain ⟨i,hi⟩:=List.mem_iff_getElem?.1 hq
  obtain ⟨a,b⟩:=List.getElem?_zip_eq_some.1 hi
  obtain ⟨_,t1,t2,t3,_⟩:=tv_ok h hw a b
  have hl5:=Dlz q.2 5
  refine ⟨⟨hb _ (List.mem_of_getElem? a),by show (lbT q.2 5).length ≤ _;omega⟩,Hkz _ _ _,Hbz _,?_,?_⟩
  · show 0 ≤ sumL ((lbS q.2).map _);rw [t1];exact t2
  · show sumL ((lbS q.2).map _) < _;rw [t1];exact t3

def sumd (ls:List (List Int)) (out:List Int):List Int:=wiL (lbS ls.flatten) out
theorem Eaz (ls:List (List Int)) (out:List Int):(sumd ls out).Nodup:=wiL_nodup (Dbz _)
theorem Cwz {ls:List (List Int)} {out:List Int} {x:Int}:x ∈ sumd ls out ↔ ((0 ≤ x ∧ x ≤ 4) ∧ x ∈ ls.flatten) ∧ x ∉ out:=by unfold sumd;rw [mem_wiL,Djz]
abbrev Z5:List Int:=[0,0,0,0,0]
theorem I7z {w:List Int} (hw:w.length=5) {L:List Int} (h:∀ x ∈ L,0 ≤ x ∧ x ≤ 4):∀ y ∈ L,0 ≤ y ∧ y.toNat < w.length:=fun y hy=>by have:=h y hy;omega
theorem fit_two {ts:List Tn} {ls:List (List Int)} {e out w v:List Int} (h:CtOk ts ls e) (ho:∀ x ∈ out,x ∈ ls.flatten) (hw:w.length=5) (hwo:∀ x ∈ out,fitW e w x) (hv:v.length=5)
    (hvo:∀ y,0 ≤ y → y ∉ sumd ls out → gE v y=gE w y) (hvi:∀ x ∈ sumd ls out,fitW e v x):fitL e ls v:=by
  refine ⟨hv,fun x hx=>?_⟩
  have hr:=(h.used x hx).1
  by_cases hxo:x ∈ out
  · have:=hwo x hxo
    unfold fitW at this ⊢
    rw [hvo x hr.1 (fun hm=>(Cwz.1 hm).2 hxo)]
    exact this
  · exact hvi x (Cwz.2 ⟨⟨hr,hx⟩,hxo⟩)
def ctE (ts:List Tn) (ls:List (List Int)) (out e:List Int) (p:Nat):Int:=SS e (sumd ls out) (wayK e out Z5 p) (gP ts ls)

theorem used_pos {ts:List Tn} {ls:List (List Int)} {e L:List Int} (h:CtOk ts ls e) (hL:∀ x ∈ L,x ∈ ls.flatten) {k n:Nat} (hn:pr (L.map (gE e))=n) (hk:k < n):∀ x ∈ L,0 < gE e x:=fun x hx=>by
  have:=Cdz (xs:=L.map (gE e)) (by omega) (fun z hz=>by obtain ⟨y,hy,rfl⟩:=List.mem_map.1 hz;exact (h.used y (hL y hy)).2.1)
  exact this _ (List.mem_map.2 ⟨x,hx,rfl⟩)
theorem prog_sum {ts:List Tn} {ls:List (List Int)} {e out:List Int} (h:CtOk ts ls e) (ho:∀ x ∈ out,x ∈ ls.flatten) {p n:Nat} (hn:pr (out.map (gE e))=n) (hp:p < n) :
    sumL ((waysT e (sumd ls out) (wayK e out Z5 p) (pr ((sumd ls out).map (gE e))).toNat).map fun v=>prodL ((facs ts ls).map fun f=>fcV f v))=ctE ts ls out e p:=by
  unfold ctE
  have hO:∀ x ∈ out,(0 ≤ x ∧ x ≤ 4):=fun x hx=>(h.used x (ho x hx)).1
  have hS:∀ x ∈ sumd ls out,(0 ≤ x ∧ x ≤ 4) ∧ 0 ≤ gE e x:=fun x hx=>by have:=(Cwz.1 hx).1;exact ⟨this.1,(h.used x this.2).2.1⟩
  have hwl:(wayK e out Z5 p).length=5:=by rw [Dez];rfl
  have hpo:=used_pos h ho hn hp
  have hwo:∀ x ∈ out,fitW e (wayK e out Z5 p) x:=fun x hx=>Isz (Int.natCast_nonneg _) (I7z rfl hO) hpo hx
  have hg:SS e (sumd ls out) (wayK e out Z5 p) (gP ts ls)=SS e (sumd ls out) (wayK e out Z5 p) (fun v=>prodL ((facs ts ls).map fun f=>fcV f v)) :=
    Glz (I7z hwl fun x hx=>(hS x hx).1) (Eaz ls out) fun v hv h1 h2=>(gP_facs h (fit_two h ho hwl hwo (by rw [hv,hwl]) h1 h2)).symm
  rw [hg,← Fcz e _ _ _ (fun x hx=>⟨(hS x hx).1.1,(hS x hx).2⟩) (Eaz ls out),sumN_list]
  unfold waysT
  rw [List.map_map];rfl
end VwM
set_option linter.unusedSectionVars false
set_option linter.unusedVariables false
set_option linter.unusedSimpArgs false
namespace VwM
open Go Vw

theorem SS_ext {e e':List Int} {g:List Int → Int}:∀ {L w:List Int},(∀ x ∈ L,gE e x=gE e' x) → SS e L w g=SS e' L w g
  | [],w,_=>rfl
  | x :: L,w,h=>by simp only [SS];rw [h x (by simp)];exact Bfz fun a _=>SS_ext fun y hy=>h y (by simp [hy])
theorem SS_ones {e:List Int} {g:List Int → Int}:∀ {L w:List Int},(∀ x ∈ L,gE e x=1 ∧ gE w x=0 ∧ 0 ≤ x ∧ x.toNat < w.length) → SS e L w g=g w
  | [],w,_=>rfl
  | x :: L,w,h=>by
    obtain ⟨h1,h2,h3,h4⟩:=h x (by simp)
    simp only [SS,h1]
    have e0:w.set x.toNat ((0:Nat):Int)=w:=by
      unfold gE at h2
      rw [List.getD_eq_getElem?_getD,List.getElem?_eq_getElem h4,Option.getD_some] at h2
      conv=>rhs;rw [← List.set_getElem_self h4]
      rw [h2];rfl
    show sumN 1 _=_
    simp only [sumN]
    rw [e0,SS_ones (fun y hy=>h y (by simp [hy]))]
    omega

abbrev L5:List Int:=[0,1,2,3,4]
theorem unr_way {e:List Int} (he:e.length=5) (k:Int):unr e k=wayK e L5 Z5 k:=by
  match e,he with
  | [a,b,c,d,f],_=>rfl
theorem gE_Z5 (x:Int):gE Z5 x=0:=gE_nil5 x
theorem mem_L5 {x:Int}:x ∈ L5 ↔ 0 ≤ x ∧ x ≤ 4:=by
  simp only [List.mem_cons,List.not_mem_nil,or_false];omega
theorem L5_nodup:L5.Nodup:=by decide
theorem lbS_L5 (U:List Int):lbS U=L5.filter fun x=>decide (x ∈ U):=by
  show ((List.range 5).map Int.ofNat).filter _=_
  rfl
theorem spE_gE {e:List Int} (x:Int) (h:x.toNat < e.length):gE (spE e) x=if gE e x < 0 then 1 else gE e x:=by
  unfold gE spE
  simp [List.getD,h]
theorem filter_perm {U out:List Int} (hU:U.Nodup) (hout:out.Nodup) (h:∀ x ∈ out,x ∈ U):U.Perm (out ++ U.filter fun x=>!decide (x ∈ out)):=by
  refine (List.filter_append_perm (fun x=>decide (x ∈ out)) U).symm.trans ?_
  refine List.Perm.append_right _ ?_
  rw [List.perm_ext_iff_of_nodup (List.Pairwise.filter _ hU) hout]
  intro a
  rw [List.mem_filter,decide_eq_true_eq]
  exact ⟨fun h=>h.2,fun ha=>⟨h a ha,ha⟩⟩
theorem outk {ts:List Tn} {ls:List (List Int)} {e out:List Int} (h:CtOk ts ls e) (ho:∀ x ∈ out,x ∈ ls.flatten) (hon:out.Nodup):(lbS ls.flatten).Perm (out ++ sumd ls out) :=
  filter_perm (Dbz _) hon fun x hx=>Djz.2 ⟨(h.used x (ho x hx)).1,ho x hx⟩
theorem space_sum {ts:List Tn} {ls:List (List Int)} {e:List Int} (h:CtOk ts ls e) (g:List Int → Int):sumN (pr (spE e)).toNat (fun k=>g (unr (spE e) k))=SS e (lbS ls.flatten) Z5 g:=by
  have h5:(spE e).length=5:=by rw [B6z,h.len]
  have hpos:∀ x ∈ L5,0 ≤ x ∧ 0 ≤ gE (spE e) x:=fun x hx=>by
    have:=mem_L5.1 hx
    refine ⟨this.1,?_⟩
    rw [spE_gE x (by rw [h.len];omega)]
    split<;>omega
  have hm:L5.map (gE (spE e))=spE e:=by
    match h2:spE e,h5 with
    | [a,b,c,d,f],_=>rfl
  rw [Bfz (g:=fun k=>g (wayK (spE e) L5 Z5 k)) (fun a _=>by rw [unr_way h5])]
  have hw:=Fcz (spE e) g L5 Z5 hpos L5_nodup
  rw [hm] at hw
  rw [hw]
  have hp:L5.Perm ((L5.filter fun x=>!decide (x ∈ ls.flatten)) ++ lbS ls.flatten):=by
    rw [lbS_L5]
    exact (List.filter_append_perm (fun x=>decide (x ∈ ls.flatten)) L5).symm.trans List.perm_append_comm
  rw [SS_perm hp (fun x hx=>(hpos x hx).1) L5_nodup,Hzz,SS_ones]
  · exact SS_ext fun x hx=>by
      have:=(Djz.1 hx)
      rw [spE_gE x (by rw [h.len];omega),if_neg (by have:=(h.used x this.2).2.1;omega)]
  · intro x hx
    rw [List.mem_filter] at hx
    have hr:=mem_L5.1 hx.1
    refine ⟨?_,gE_Z5 x,hr.1,by show x.toNat < 5;omega⟩
    rw [spE_gE x (by rw [h.len];omega),if_pos]
    obtain ⟨c,rfl⟩:∃ c:Nat,x=c:=⟨x.toNat,by omega⟩
    have:=h.un c (by omega) (by simpa using hx.2)
    unfold gE;rw [Int.toNat_natCast];exact this
def rkO (e out w:List Int):Int:=dot (fun i=>gE w (out.getD i 0)) (rowS (out.map (gE e))) out.length
theorem rkO_congr {e out w v:List Int} (h:∀ x ∈ out,gE v x=gE w x):rkO e out v=rkO e out w:=Foz fun i hi=>h _ (A9z hi)
theorem rkO_way {ts:List Tn} {ls:List (List Int)} {e out:List Int} (h:CtOk ts ls e) (ho:∀ x ∈ out,x ∈ ls.flatten) (hon:out.Nodup) (hs:vSh (out.map (gE e))=true) {k n:Nat} (hn:pr (out.map (gE e))=n) (hk:k < n):rkO e out (wayK e out Z5 k)=k:=by
  have hO:∀ x ∈ out,(0 ≤ x ∧ x ≤ 4):=fun x hx=>(h.used x (ho x hx)).1
  have hr:=rank_unr hs (k:=(k:Int)) (Int.natCast_nonneg _) (by omega)
  have hv:=unr_isIx (Bdz hs).1 (k:=(k:Int)) (Int.natCast_nonneg _) (by omega)
  unfold rankD at hr
  rw [if_pos ⟨hs,hv⟩,← wayK_dig (w:=Z5) hon (I7z rfl hO)] at hr
  rw [List.length_map] at hr
  refine Eq.trans ?_ hr
  unfold rkO
  exact Foz fun i hi=>by simp [List.getD,hi]
theorem model_sum {ts:List Tn} {ls:List (List Int)} {e out:List Int} (h:CtOk ts ls e) (ho:∀ x ∈ out,x ∈ ls.flatten) (hon:out.Nodup) (hs:vSh (out.map (gE e))=true) {p n:Nat} (hn:pr (out.map (gE e))=n) (hp:p < n) :
    sumN (pr (spE e)).toNat (fun k=>if rkO e out (unr (spE e) k)=p then gP ts ls (unr (spE e) k) else 0)=ctE ts ls out e p:=by
  rw [space_sum h (fun v=>if rkO e out v=p then gP ts ls v else 0)]
  have hO:∀ x ∈ out,(0 ≤ x ∧ x ≤ 4):=fun x hx=>(h.used x (ho x hx)).1
  have hS:∀ x ∈ sumd ls out,(0 ≤ x ∧ x ≤ 4):=fun x hx=>(Cwz.1 hx).1.1
  rw [SS_perm (outk h ho hon) (fun x hx=>(Hbz _ x hx).1) (Dbz _),Hzz,← Fcz e _ out Z5 (fun x hx=>⟨(hO x hx).1,(h.used x (ho x hx)).2.1⟩) hon,hn,Int.toNat_natCast]
  rw [Bfz (g:=fun k=>if k=p then ctE ts ls out e k else 0) (fun k hk=>?_),sumN_one hp]
  have hwl:(wayK e out Z5 k).length=5:=by rw [Dez];rfl
  have hrk:=rkO_way h ho hon hs hn hk
  unfold ctE
  by_cases hkp:k=p
  · subst hkp
    rw [if_pos rfl]
    refine Glz (I7z hwl hS) (Eaz ls out) fun v hv h1 h2=>?_
    rw [if_pos]
    rw [rkO_congr (w:=wayK e out Z5 k) (fun x hx=>h1 x (hO x hx).1 (fun hm=>(Cwz.1 hm).2 hx)),hrk]
  · rw [if_neg hkp]
    refine Eq.trans ?_ (SS_zero e (sumd ls out) (wayK e out Z5 k))
    refine Glz (I7z hwl hS) (Eaz ls out) fun v hv h1 h2=>?_
    rw [if_neg]
    rw [rkO_congr (w:=wayK e out Z5 k) (fun x hx=>h1 x (hO x hx).1 (fun hm=>(Cwz.1 hm).2 hx)),hrk]
    omega

def vsT (ts:List Tn) (ls:List (List Int)) (out e:List Int) (n:Nat) (k:Nat):List Int:=(List.range n).map fun p:Nat=>w64 (sumN k fun i=>if rkO e out (unr (spE e) i)=p then gP ts ls (unr (spE e) i) else 0)
theorem vsT_len (ts:List Tn) (ls:List (List Int)) (out e:List Int) (n k:Nat):(vsT ts ls out e n k).length=n:=by simp [vsT]
theorem vsT_zero (ts:List Tn) (ls:List (List Int)) (out e:List Int) (n:Nat):vsT ts ls out e n 0=List.replicate n 0:=by
  unfold vsT
  apply List.ext_getElem
  · simp
  · intro i h1 h2
    simp [sumN,w64_zero]
theorem vsT_step {ts:List Tn} {ls:List (List Int)} {out e:List Int} {n k p:Nat} (hp:p < n) (h:rkO e out (unr (spE e) k)=p) :
    (vsT ts ls out e n k).set p (w64 ((vsT ts ls out e n k).getD p 0 + w64 (gP ts ls (unr (spE e) k))))=vsT ts ls out e n (k + 1):=by
  apply List.ext_getElem?
  intro i
  unfold vsT
  simp only [List.getElem?_set,List.length_map,List.length_range,List.getElem?_map,List.getD_eq_getElem?_getD]
  by_cases hi:i < n
  · rw [List.getElem?_range hi]
    by_cases hpi:p=i
    · subst hpi
      rw [if_pos rfl,if_pos hp,List.getElem?_range hp]
      simp only [Option.map_some,Option.getD_some,sumN,h,if_true]
      rw [Iuz,Itz]
    · rw [if_neg hpi]
      simp only [Option.map_some,sumN,h]
      rw [if_neg (by omega)]
      simp
  · rw [if_neg (by omega),List.getElem?_eq_none (by simp;omega)]
    rfl
theorem unr5_len {e:List Int} (he:e.length=5) (k:Int):(unr (spE e) k).length=5:=by rw [D9z,B6z,he]
theorem unr_fit {ts:List Tn} {ls:List (List Int)} {e:List Int} (h:CtOk ts ls e) {k:Nat} (hk:(k:Int) < pr (spE e)):fitL e ls (unr (spE e) k):=by
  have h5:(spE e).length=5:=by rw [B6z,h.len]
  refine ⟨unr5_len h.len k,fun x hx=>?_⟩
  have hu:=h.used x hx
  have hpos:∀ y ∈ L5,0 < gE (spE e) y:=fun y hy=>by
    have hm:L5.map (gE (spE e))=spE e:=by
      match h2:spE e,h5 with
      | [a,b,c,d,f],_=>rfl
    have hnn:∀ z ∈ spE e,0 ≤ z:=fun z hz=>by
      obtain ⟨y,hy,rfl⟩:=List.mem_map.1 hz
      split<;>omega
    have:=Cdz (xs:=spE e) (by omega) hnn (gE (spE e) y) (by rw [← hm];exact List.mem_map.2 ⟨y,hy,by rw [hm]⟩)
    exact this
  rw [unr_way h5]
  have hi:=Isz (e:=spE e) (L:=L5) (w:=Z5) (k:=(k:Int)) (Int.natCast_nonneg _) (I7z rfl fun y hy=>mem_L5.1 hy) hpos (mem_L5.2 hu.1)
  unfold fitW at hi ⊢
  rw [spE_gE x (by rw [h.len];omega),if_neg (by omega)] at hi
  exact hi
theorem rkO_fit {ts:List Tn} {ls:List (List Int)} {e out w:List Int} (h:CtOk ts ls e) (ho:∀ x ∈ out,x ∈ ls.flatten) (hs:vSh (out.map (gE e))=true) (hw:fitL e ls w) :
    vIx (out.map (gE e)) (out.map (gE w))=true ∧ 0 ≤ rkO e out w ∧ rkO e out w < pr (out.map (gE e)) ∧ dot (fun i=>(out.map (gE w)).getD i 0) (rowS (out.map (gE e))) (out.map (gE e)).length=rkO e out w:=by
  have hm:=map_ix (sh:=out.map (gE e)) (l:=out) (w:=w) (by simp) (fun j hj=>by
    have:=hw.2 _ (ho _ (A9z hj))
    unfold fitW at this
    have e1:(out.map (gE e)).getD j 0=gE e (out.getD j 0):=by simp [List.getD,hj]
    rw [e1];exact this)
  have hd:=dot_ix hs hm.1
  have e2:dot (fun i=>(out.map (gE w)).getD i 0) (rowS (out.map (gE e))) (out.map (gE e)).length=rkO e out w:=by
    rw [hm.2,List.length_map];rfl
  rw [e2] at hd
  exact ⟨hm.1,hd.1,hd.2,e2⟩

theorem TL_d1 (b:Bool) (ts:List Tn) (i:Nat) {t:Tn} (h:ts[i]?=some t):((TL b ts).drop (i * 2)).take 1=[.rows b (IL t.1) t.1.length]:=by
  have h2:=congrArg (List.take 1) (Cnz b ts i h)
  rw [List.take_take] at h2
  exact h2
theorem TL_d2 (b:Bool) (ts:List Tn) (i:Nat) {t:Tn} (h:ts[i]?=some t):((TL b ts).drop (i * 2 + 1)).take 1=[.rows b (IL t.2) t.2.length]:=by
  have h2:=congrArg (List.drop 1) (Cnz b ts i h)
  rw [List.drop_take,List.drop_drop] at h2
  exact h2
end VwM
set_option linter.unusedSectionVars false
set_option linter.unusedVariables false
namespace Vw
open Go
variable [Inhabited GlobT]

def fid (i:Nat):Nat:=1099511627776 + i
theorem Jgz (i j:Nat):(fid i=fid j)=(i=j):=by unfold fid;exact propext ⟨fun h=>by omega,fun h=>by omega⟩
theorem fid_ne (i n:Nat) (h:n < 1099511627776):(fid i=n)=False:=by unfold fid;exact propext ⟨fun h=>by omega,False.elim⟩
theorem ne_fid (i n:Nat) (h:n < 1099511627776):(n=fid i)=False:=by unfold fid;exact propext ⟨fun h=>by omega,False.elim⟩
theorem fid_div (i d:Nat) (h:d < 68719476736):(fid i / 16=d)=False:=by unfold fid;exact propext ⟨fun h=>by omega,False.elim⟩
theorem fid_ge (i n:Nat) (h:n < 1099511627776):(n ≤ fid i)=True:=by unfold fid;exact propext ⟨fun _=>trivial,fun _=>by omega⟩

def famL (f:Nat → List AV):Nat → List (Nat × List AV)
  | 0=>[]
  | n + 1=>(fid n,f n) :: famL f n
theorem Hfz (f:Nat → List AV) (i:Nat):∀ n,hk (famL f n) (fid i)=if i < n then some (f i) else none
  | 0=>by simp [famL,hk]
  | n + 1=>by
    simp only [famL,hk,Jgz,Hfz f i n]
    by_cases h:i=n
    · subst h;simp
    · rw [if_neg h]
      by_cases h':i < n
      · rw [if_pos h',if_pos (by omega)]
      · rw [if_neg h',if_neg (by omega)]
theorem Hez (f:Nat → List AV) (id:Nat) (h:id < 1099511627776):∀ n,hk (famL f n) id=none
  | 0=>rfl
  | n + 1=>by simp only [famL,hk,ne_fid n id h,if_false,Hez f id h n]
theorem Hlz (f:Nat → List AV) (d:Nat) (h:d < 68719476736):∀ n,freshD (famL f n) d=True
  | 0=>rfl
  | n + 1=>by simp only [famL,freshD,fid_div n d h,not_false_eq_true,Hlz f d h n,and_self]
theorem SubW.heq {pin:Nat} {σ:List (Nat × AV)} {H H':List (Nat × List AV)} {s':S} (h:∀ id,hk H' id=hk H id) (k:SubW pin (mkS σ H') s'):SubW pin (mkS σ H) s':=by
  have e:mkS σ H=mkS σ H':=by unfold mkS;congr 1;funext id;exact (h id).symm
  rw [e];exact k
theorem swp_fst (a b:Nat):swp a b a=b:=by simp [swp]
theorem swp_snd (a b:Nat):swp a b b=a:=by unfold swp;split<;>simp_all
theorem Cxz {a b c:Nat} (h1:c ≠ a) (h2:c ≠ b):swp a b c=c:=by simp [swp,h1,h2]
attribute [push_cast] Jgz fid_ne ne_fid fid_div fid_ge Hfz Hez Hlz
end Vw
set_option linter.unusedSectionVars false
set_option linter.unusedVariables false
set_option linter.unusedSimpArgs false
namespace Vw
open Go VwM
variable [Inhabited GlobT]

def row (C:Nat) (h:Nat → AV):List AV:=(List.range C).map h
theorem C9z (C:Nat) (h:Nat → AV):(row C h).length=C:=by simp [row]
theorem Czz (C:Nat) (h:Nat → AV) (φ:AV → AV):(row C h).map φ=row C fun p=>φ (h p):=by simp [row,Function.comp_def]
theorem Bzz {C:Nat} {h g:Nat → AV} (e:∀ p,p < C → h p=g p):row C h=row C g:=by
  unfold row
  exact List.map_congr_left fun p hp=>e p (List.mem_range.1 hp)
theorem Izz (C:Nat) (h:Nat → AV) (p:Nat):(row C h)[p]?=if p < C then some (h p) else none:=by
  unfold row
  rw [List.getElem?_map]
  by_cases hp:p < C
  · rw [if_pos hp,List.getElem?_range hp];rfl
  · rw [if_neg hp,List.getElem?_eq_none (by simpa using hp)];rfl
theorem row_set (C:Nat) (h:Nat → AV) (p:Nat) (v:AV):(row C h).set p v=row C (upd h p v):=by
  apply List.ext_getElem?
  intro q
  rw [List.getElem?_set,Izz,Izz,C9z]
  by_cases e:p=q
  · subst e;simp [A1z]
  · rw [if_neg e,A2z _ _ _ _ (Ne.symm e)]
theorem I0z {C:Nat} {L:List AV} {h:Nat → AV} (hl:L.length=C) (e:∀ p,p < C → L[p]?=some (h p)):L=row C h:=by
  apply List.ext_getElem?
  intro q
  rw [Izz]
  by_cases hq:q < C
  · rw [if_pos hq,e q hq]
  · rw [if_neg hq,List.getElem?_eq_none (by omega)]
theorem row_1 (C:Nat) (h:Nat → AV) (p:Nat) (hp:p + 1 ≤ C):((row C h).drop p).take 1=[h p]:=by
  apply List.ext_getElem?
  intro q
  rw [List.getElem?_take]
  match q with
  | 0=>rw [if_pos (by omega),List.getElem?_drop,Izz,if_pos (by omega)];rfl
  | q + 1=>rw [if_neg (by omega)];rfl
theorem Jdz (P:Nat → Bool) (C:Nat) (h:Nat → AV) (e:∀ p,p < C → (h p).inn P=true):innL P (row C h)=true:=by
  have:∀ l:List Nat,(∀ p ∈ l,p < C) → innL P (l.map h)=true:=by
    intro l
    induction l with
    | nil=>intro _;rfl
    | cons a r ih =>
      intro hl
      simp only [List.map_cons,innL,Bool.and_eq_true]
      exact ⟨e a (hl a (by simp)),ih fun p hp=>hl p (by simp [hp])⟩
  exact this _ fun p hp=>List.mem_range.1 hp

structure Fam where
  C:Nat
  R:Nat
  pat:Nat → AV ⊕ Nat
  rows:Nat → List Int
  ok:∀ p j,p < C → pat p=.inr j → j < R
  cell:∀ p a,pat p=.inl a → (∃ k x,a=.int k x) ∨ ∃ b,a=.bool b
def Fam.atG (F:Fam) (g:Nat → Nat) (p:Nat):AV:=match F.pat p with
  | .inl a=>a
  | .inr j=>.own (g j) (F.rows j).length 1
def Fam.atP (F:Fam) (b:Bool) (p:Nat):AV:=match F.pat p with
  | .inl a=>a
  | .inr j=>.rows b (IL (F.rows j)) (F.rows j).length
def Fam.cellsG (F:Fam) (g:Nat → Nat):List AV:=row F.C (F.atG g)
def Fam.plain (F:Fam) (b:Bool):List AV:=row F.C (F.atP b)
def Fam.conts (F:Fam):List (List AV):=(List.range F.R).map fun j=>IL (F.rows j)
theorem Ccz (F:Fam) (g:Nat → Nat):(F.cellsG g).length=F.C:=C9z ..
theorem plain_length (F:Fam) (b:Bool):(F.plain b).length=F.C:=C9z ..
theorem B8z (F:Fam):F.conts.length=F.R:=by simp [Fam.conts]
structure Fam.like (F G:Fam):Prop where
  C:G.C=F.C
  R:G.R=F.R
  len:∀ j,j < F.R → (G.rows j).length=(F.rows j).length

def fim (d j:Nat):Nat:=fid (65536 * j + d)
theorem Epz (d j n:Nat) (h:n < 1099511627776):(fim d j=n)=False:=fid_ne _ _ h
theorem ne_fim (d j n:Nat) (h:n < 1099511627776):(n=fim d j)=False:=ne_fid _ _ h
theorem Cmz {d i j:Nat} (h:fim d i=fim d j):i=j:=by unfold fim at h;rw [Jgz] at h;omega
theorem fim_oth {d d' i j:Nat} (h1:d < 65536) (h2:d' < 65536) (h:fim d i=fim d' j):d=d':=by unfold fim at h;rw [Jgz] at h;omega
theorem fim_div (d j n:Nat) (h:n < 68719476736):(fim d j / 16=n)=False:=fid_div _ _ h
theorem C3z (d j:Nat):1099511627776 ≤ fim d j:=by unfold fim fid;omega

def famD (d:Nat) (F:Fam):List (Nat × List AV):=(List.range F.R).map fun j=>(fim d j,IL (F.rows j))
theorem Cuz (g:Nat → Nat) (f:Nat → List AV) (r:List (Nat × List AV)) (id:Nat):∀ l:List Nat,(∀ j ∈ l,g j ≠ id) → hk (l.map (fun j=>(g j,f j)) ++ r) id=hk r id
  | [],_=>rfl
  | a :: l,h=>by
    simp only [List.map_cons,List.cons_append,hk]
    rw [if_neg (fun e=>h a (by simp) e.symm)]
    exact Cuz g f r id l fun j hj=>h j (by simp [hj])
theorem Chz (g:Nat → Nat) (hg:∀ i j,g i=g j → i=j) (f:Nat → List AV) (r:List (Nat × List AV)) (i:Nat):∀ l:List Nat,i ∈ l → hk (l.map (fun j=>(g j,f j)) ++ r) (g i)=some (f i)
  | [],h=>by cases h
  | a :: l,h=>by
    simp only [List.map_cons,List.cons_append,hk]
    by_cases e:g i=g a
    · rw [if_pos e,hg _ _ e]
    · rw [if_neg e]
      rcases List.mem_cons.1 h with h|h
      · exact absurd (by rw [h]) e
      · exact Chz g hg f r i l h
theorem D3z (d:Nat) (F:Fam) (r:List (Nat × List AV)) (j:Nat) (h:j < F.R):hk (famD d F ++ r) (fim d j)=some (IL (F.rows j)) :=
  Chz (fim d) (fun _ _=>Cmz) (fun j=>IL (F.rows j)) r j _ (List.mem_range.2 h)
theorem Hgz (d:Nat) (F:Fam) (r:List (Nat × List AV)) (id:Nat) (h:id < 1099511627776):hk (famD d F ++ r) id=hk r id :=
  Cuz (fim d) (fun j=>IL (F.rows j)) r id _ fun j _ e=>by have:=C3z d j;omega
theorem E0z (d:Nat) (F:Fam) (r:List (Nat × List AV)) (d' j:Nat) (h1:d < 65536) (h2:d' < 65536) (hn:d ≠ d'):hk (famD d F ++ r) (fim d' j)=hk r (fim d' j) :=
  Cuz (fim d) (fun j=>IL (F.rows j)) r _ _ fun j _ e=>hn (fim_oth h1 h2 e)
theorem Hmz (d:Nat) (F:Fam) (r:List (Nat × List AV)) (n:Nat) (h:n < 68719476736):freshD (famD d F ++ r) n=freshD r n:=by
  unfold famD
  have:∀ l:List Nat,freshD (l.map (fun j=>(fim d j,IL (F.rows j))) ++ r) n=freshD r n:=by
    intro l
    induction l with
    | nil=>rfl
    | cons a l ih=>simp only [List.map_cons,List.cons_append,freshD,fim_div _ _ _ h,not_false_eq_true,true_and,ih]
  exact this _
def noFam (d:Nat) (H:List (Nat × List AV)):Prop:=∀ j,hk H (fim d j)=none
theorem noFam_nil (d:Nat):noFam d []=True:=propext ⟨fun _=>trivial,fun _ _=>rfl⟩
theorem noFam_cons (d t:Nat) (v:List AV) (r:List (Nat × List AV)) (h:t < 1099511627776):noFam d ((t,v) :: r)=noFam d r:=by
  unfold noFam
  simp only [hk,Epz _ _ t h,if_false]
theorem noFam_fam (d d':Nat) (F:Fam) (r:List (Nat × List AV)) (h:d < 65536 ∧ d' < 65536 ∧ d' ≠ d):noFam d (famD d' F ++ r)=noFam d r:=by
  unfold noFam
  simp only [E0z d' F r d _ h.2.1 h.1 h.2.2]

theorem Fnz (d:Nat) (F:Fam):famD d F=famD d F ++ []:=(List.append_nil _).symm
theorem Jfz (d:Nat) (F:Fam) (j:Nat) (h:j < F.R):hk (famD d F) (fim d j)=some (IL (F.rows j)):=by rw [Fnz];exact D3z d F [] j h
theorem hk_famD_low0 (d:Nat) (F:Fam) (id:Nat) (h:id < 1099511627776):hk (famD d F) id=none:=by rw [Fnz];exact Hgz d F [] id h
theorem freshD_famD0 (d:Nat) (F:Fam) (n:Nat) (h:n < 68719476736):freshD (famD d F) n=True:=by rw [Fnz];exact Hmz d F [] n h
theorem noFam_fam0 (d d':Nat) (F:Fam) (h:d < 65536 ∧ d' < 65536 ∧ d' ≠ d):noFam d (famD d' F)=True:=by rw [Fnz,noFam_fam d d' F [] h,noFam_nil]
theorem Fwz {ρ:Nat → Option Nat} {Z:Nat → Option (List AV)} {b:Bool} {φ:Bool → Option Bool} {n:Nat} (xs:List Int):(IL xs).map (AV.ren ρ Z b φ (n + 1))=IL xs:=by unfold IL;rw [List.map_map];rfl
theorem Fam.ren_at (F:Fam) {g g':Nat → Nat} {ρ:Nat → Option Nat} {Z:Nat → Option (List AV)} {b:Bool} {φ:Bool → Option Bool} {n p:Nat} (h:∀ j,F.pat p=.inr j → ρ (g j)=some (g' j)):(F.atG g p).ren ρ Z b φ (n + 1)=F.atG g' p:=by
  unfold Fam.atG
  cases e:F.pat p with
  | inl a =>
    rcases F.cell p a e with ⟨k,x,rfl⟩|⟨c,rfl⟩<;>rfl
  | inr j=>simp only [Gvz,h j e,Fez]
theorem Fam.ren_plain (F:Fam) {g:Nat → Nat} {ρ:Nat → Option Nat} {Z:Nat → Option (List AV)} {b:Bool} {φ:Bool → Option Bool} {n p:Nat} (h:∀ j,F.pat p=.inr j → ρ (g j)=none ∧ Z (g j)=some (IL (F.rows j))):(F.atG g p).ren ρ Z b φ (n + 2)=F.atP b p:=by
  unfold Fam.atG Fam.atP
  cases e:F.pat p with
  | inl a =>
    rcases F.cell p a e with ⟨k,x,rfl⟩|⟨c,rfl⟩<;>rfl
  | inr j =>
    obtain ⟨h1,h2⟩:=h j e
    simp only [Gvz,h1,h2,renO_none]
    have:(IL (F.rows j)).length=(F.rows j).length * 1:=by unfold IL;simp
    rw [if_pos this,Fwz]

def hasFam (d:Nat) (F:Fam) (H:List (Nat × List AV)):Prop:=∀ j,j < F.R → hk H (fim d j)=some (IL (F.rows j))
theorem hasFam_cons (d:Nat) (F:Fam) (t:Nat) (v:List AV) (H:List (Nat × List AV)) (h:t < 1099511627776):hasFam d F ((t,v) :: H)=hasFam d F H:=by
  unfold hasFam
  simp only [hk,Epz _ _ t h,if_false]
theorem Hiz (d:Nat) (F:Fam) (r:List (Nat × List AV)):hasFam d F (famD d F ++ r)=True:=propext ⟨fun _=>trivial,fun _ j hj=>D3z d F r j hj⟩
theorem hasFam_oth (d d':Nat) (F G:Fam) (r:List (Nat × List AV)) (h:d < 65536 ∧ d' < 65536 ∧ d' ≠ d):hasFam d F (famD d' G ++ r)=hasFam d F r:=by
  unfold hasFam
  simp only [E0z d' G r d _ h.2.1 h.1 h.2.2]
theorem hasFam_same0 (d:Nat) (F:Fam):hasFam d F (famD d F)=True:=by rw [Fnz];exact Hiz d F []
open Classical in
noncomputable def rdx (p:Prop) (a b:List AV):List AV:=if p then a else b
theorem rdx_true (a b:List AV):rdx True a b=a:=by unfold rdx;exact if_pos trivial
theorem readF_eq (F:Fam) (d:Nat) {b:Bool} {φ:Bool → Option Bool} {n:Nat} (H:List (Nat × List AV)) :
    (F.cellsG (fim d)).map (AV.ren (posF []) (zF false (hk H)) b φ (n + 2))=rdx (hasFam d F H) (F.plain b) (row F.C fun p=>(F.atG (fim d) p).ren (posF []) (zF false (hk H)) b φ (n + 2)):=by
  unfold rdx
  split
  · rename_i h
    unfold Fam.cellsG Fam.plain
    rw [Czz]
    exact Bzz fun p hp=>F.ren_plain fun j hj=>⟨rfl,h j (F.ok p j hp hj)⟩
  · unfold Fam.cellsG
    rw [Czz]

section
variable {P:Program} {pin:Nat} {σ:List (Nat × AV)} {H:List (Nat × List AV)} {K:S → Prop}
theorem Gmz (g:Nat → Nat) (f:Nat → List AV):∀ l:List Nat,(l.map g).zip (l.map f)=l.map fun j=>(g j,f j)
  | []=>rfl
  | a :: l=>by simp only [List.map_cons,List.zip_cons_cons,Gmz g f l]
theorem G4z {g:Nat → Nat} (hg:∀ i j,g i=g j → i=j) {l:List Nat} (h:l.Nodup):(l.map g).Nodup:=List.Pairwise.map _ (fun a b hab he=>hab (hg _ _ he)) h
theorem callFN {f sz n d:Nat} {F:Fam} {cargs:List AV} (hc:BCall P f cargs [] (fun r H'=>r=.own 0 n sz ∧ H'=F.cellsG (· + 1) :: F.conts)) (hd:(d < 65536 ∧ pin ≤ 16 * d) ∧ freshD H d ∧ noFam d H)
    (hK:K (mkS ((d,.own (16 * d) n sz) :: σ) ((16 * d,F.cellsG (fim d)) :: (famD d F ++ H)))):callD P pin f [] false cargs (some d) K σ H:=by
  obtain ⟨⟨hd1,hd2⟩,hf,hnf⟩:=hd
  intro args ha
  refine Fpz (Huz [] false (F:=hk H) (fun _ _ h=>h) (AV.down [] false (hk H)) (fun _=>.inl rfl) hc (by rw [List.map_map];exact ha) rfl List.nodup_nil fun res H' hq=>?_)
  obtain ⟨rfl,rfl⟩:=hq
  have hne:∀ j,16 * d ≠ fim d j:=fun j e=>by have:=C3z d j;omega
  refine ⟨16 * d :: (List.range F.R).map (fim d),trivial,⟨by simp [B8z],?_,?_⟩,?_⟩
  · rw [List.nodup_cons]
    refine ⟨fun h=>?_,G4z (fun _ _=>Cmz) List.nodup_range⟩
    obtain ⟨j,_,e⟩:=List.mem_map.1 h
    exact hne j e.symm
  · intro id hid
    rcases List.mem_cons.1 hid with rfl|hid
    · exact ⟨Doz hf 0 (by omega),hd2⟩
    · obtain ⟨j,_,rfl⟩:=List.mem_map.1 hid
      exact ⟨hnf j,by have:=C3z d j;omega⟩
  · rw [I3z]
    have e1:AV.up ([] ++ 16 * d :: (List.range F.R).map (fim d)) false (.own 0 n sz)=.own (16 * d) n sz:=rfl
    have hx:∀ j,j < F.R → idxF ([] ++ 16 * d :: (List.range F.R).map (fim d)) (j + 1)=some (fim d j):=fun j hj=>by
      show (16 * d :: (List.range F.R).map (fim d))[j + 1]?=_
      rw [List.getElem?_cons_succ,List.getElem?_map,List.getElem?_range hj];rfl
    have e2:(F.cellsG (· + 1)).map (AV.up ([] ++ 16 * d :: (List.range F.R).map (fim d)) false)=F.cellsG (fim d):=by
      unfold Fam.cellsG
      rw [Czz]
      exact Bzz fun p hp=>F.ren_at fun j hj=>hx j (F.ok p j hp hj)
    have e3:F.conts.map (List.map (AV.up ([] ++ 16 * d :: (List.range F.R).map (fim d)) false))=F.conts:=by
      unfold Fam.conts
      rw [List.map_map]
      exact List.map_congr_left fun j _=>Fwz _
    rw [e1,List.map_cons,e2,e3]
    have e4:([] ++ 16 * d :: (List.range F.R).map (fim d)).zip (F.cellsG (fim d) :: F.conts) ++ H=(16 * d,F.cellsG (fim d)) :: (famD d F ++ H):=by
      simp only [List.nil_append,List.zip_cons_cons,List.cons_append]
      unfold Fam.conts famD
      rw [Gmz]
    rw [e4]
    exact hK
def callE (P:Program) (pin f:Nat) (avs:List AV) (dst:Option Nat) (K:S → Prop) (σ:List (Nat × AV)) (H:List (Nat × List AV)):Prop :=
  ∀ args:List Operand,args.map (fun x=>(mkS σ H).ev x)=avs → callOwed P pin f args dst K (mkS σ H)
theorem Gkz {f:Nat} {args:List Operand} {dst:Option Nat} (h:callE P pin f (args.map fun x=>(mkS σ H).ev x) dst K σ H):callOwed P pin f args dst K (mkS σ H):=h args rfl
theorem callFM {f sz n d id t:Nat} {F:Fam} {k:Int} {Post:Fam → Int → Prop} (hc:BCall P f [.own 0 n sz,.int .i64 k] (F.cellsG (· + 1) :: F.conts) (fun r H'=>∃ G k',Post G k' ∧ F.like G ∧ r=.int .i64 k' ∧ H'=G.cellsG (· + 1) :: G.conts))
    (h1:hk H id=some (F.cellsG (fim d))) (hl:id < 1099511627776) (h2:hasFam d F H)
    (hK:∀ G k',Post G k' → F.like G → K (mkS ((t,.int .i64 k') :: σ) ((id,G.cellsG (fim d)) :: (famD d G ++ H)))):callE P pin f [.own id n sz,.int .i64 k] (some t) K σ H:=by
  intro args ha
  have hne:∀ j,id ≠ fim d j:=fun j e=>by have:=C3z d j;omega
  have hnd:(id :: (List.range F.R).map (fim d)).Nodup:=by
    rw [List.nodup_cons]
    refine ⟨fun h=>?_,G4z (fun _ _=>Cmz) List.nodup_range⟩
    obtain ⟨j,_,e⟩:=List.mem_map.1 h
    exact hne j e.symm
  have hget:∀ j,j < F.R → (id :: (List.range F.R).map (fim d))[j + 1]?=some (fim d j):=fun j hj=>by
    rw [List.getElem?_cons_succ,List.getElem?_map,List.getElem?_range hj];rfl
  have hp0:posF (id :: (List.range F.R).map (fim d)) id=some 0:=by unfold posF posL;exact if_pos rfl
  have hpj:∀ j,j < F.R → posF (id :: (List.range F.R).map (fim d)) (fim d j)=some (j + 1):=fun j hj=>by
    have:=C0z (k:=0) hnd (hget j hj)
    rw [Nat.zero_add] at this
    exact this
  refine Cvz (id :: (List.range F.R).map (fim d)) false (F:=hk H) (fun _ _ h=>h) hc ?_ ?_ hnd fun res H' hq=>?_
  · have:args.map (fun x=>((mkS σ H).ev x).down (id :: (List.range F.R).map (fim d)) false (hk H))=(args.map fun x=>(mkS σ H).ev x).map (AV.down (id :: (List.range F.R).map (fim d)) false (hk H)):=by rw [List.map_map];rfl
    rw [this,ha]
    have e:AV.down (id :: (List.range F.R).map (fim d)) false (hk H) (.own id n sz)=.own 0 n sz:=by
      show AV.ren _ _ _ _ 5 _=_
      rw [Gvz,hp0,Fez]
    simp only [List.map_cons,List.map_nil,e]
    rfl
  · rw [List.map_cons,show (mkS σ H).H id=hk H id from rfl,h1,List.map_map]
    have e1:(F.cellsG (fim d)).map (AV.down (id :: (List.range F.R).map (fim d)) false (hk H))=F.cellsG (· + 1):=by
      unfold Fam.cellsG
      rw [Czz]
      exact Bzz fun p hp=>F.ren_at fun j hj=>hpj j (F.ok p j hp hj)
    have e2:(List.range F.R).map ((fun i=>((mkS σ H).H i).map (List.map (AV.down (id :: (List.range F.R).map (fim d)) false (hk H)))) ∘ fim d)=F.conts.map some:=by
      unfold Fam.conts
      rw [List.map_map]
      refine List.map_congr_left fun j hj=>?_
      show (hk H (fim d j)).map _=_
      rw [h2 j (List.mem_range.1 hj)]
      show some ((IL (F.rows j)).map _)=_
      rw [show (IL (F.rows j)).map (AV.down (id :: (List.range F.R).map (fim d)) false (hk H))=IL (F.rows j) from Fwz _]
      rfl
    rw [e2,Option.map_some,e1]
    rfl
  · obtain ⟨G,k',hpost,hlike,rfl,rfl⟩:=hq
    have hlen:(G.cellsG (· + 1) :: G.conts).length - (F.cellsG (· + 1) :: F.conts).length=0:=by simp [B8z,hlike.R]
    rw [hlen]
    refine ⟨⟨by rw [Ccz,Ccz,hlike.C];exact Nat.le_refl _,?_⟩,fun _ h=>by cases t<;>simp [news] at h,?_⟩
    · have:∀ l:List Nat,(∀ j ∈ l,j < F.R) → lenOk (l.map fun j=>IL (F.rows j)) (l.map fun j=>IL (G.rows j)):=by
        intro l
        induction l with
        | nil=>intro _;exact trivial
        | cons a r ih =>
          intro h
          refine ⟨?_,ih fun j hj=>h j (by simp [hj])⟩
          have:=hlike.len a (h a (by simp))
          unfold IL
          simp [this]
      unfold Fam.conts
      rw [hlike.R]
      exact this _ fun j hj=>List.mem_range.1 hj
    · rw [I3z]
      have e0:(news (some t) 0)=[]:=rfl
      rw [e0,List.append_nil]
      have e2:(G.cellsG (· + 1)).map (AV.up (id :: (List.range F.R).map (fim d)) false)=G.cellsG (fim d):=by
        unfold Fam.cellsG
        rw [Czz]
        exact Bzz fun p hp=>G.ren_at fun j hj=>hget j (hlike.R ▸ G.ok p j hp hj)
      have e3:G.conts.map (List.map (AV.up (id :: (List.range F.R).map (fim d)) false))=G.conts:=by
        unfold Fam.conts
        rw [List.map_map]
        exact List.map_congr_left fun j _=>Fwz _
      rw [List.map_cons,e2,e3]
      have e4:(id :: (List.range F.R).map (fim d)).zip (G.cellsG (fim d) :: G.conts) ++ H=(id,G.cellsG (fim d)) :: (famD d G ++ H):=by
        simp only [List.zip_cons_cons,List.cons_append]
        unfold Fam.conts famD
        rw [hlike.R,Gmz]
      rw [e4]
      exact hK G k' hpost hlike
end
attribute [push_cast] Jfz hk_famD_low0 freshD_famD0 noFam_fam0 hasFam_same0 Ccz plain_length Epz ne_fim fim_div Hgz D3z E0z Hmz noFam_nil noFam_cons noFam_fam hasFam_cons Hiz hasFam_oth rdx_true readF_eq
end Vw
set_option linter.unusedSectionVars false
set_option linter.unusedVariables false
set_option linter.unusedSimpArgs false
namespace Vw
open Go VwM
variable [Inhabited GlobT]

def famR (d:Nat) (rows:Nat → List Int) (n:Nat):List (Nat × List AV):=(List.range n).map fun j=>(fim d j,IL (rows j))
theorem Dcz (d:Nat) (rows:Nat → List Int) (n j:Nat) (h:j < n):hk (famR d rows n) (fim d j)=some (IL (rows j)):=by
  have:=Chz (fim d) (fun _ _=>Cmz) (fun j=>IL (rows j)) [] j _ (List.mem_range.2 h)
  rw [List.append_nil] at this
  exact this
theorem hk_famR_out (d:Nat) (rows:Nat → List Int) (n id:Nat) (h:∀ j,j < n → fim d j ≠ id):hk (famR d rows n) id=none:=by
  have:=Cuz (fim d) (fun j=>IL (rows j)) [] id (List.range n) fun j hj=>h j (List.mem_range.1 hj)
  rw [List.append_nil] at this
  exact this
theorem hk_famR_low (d:Nat) (rows:Nat → List Int) (n id:Nat) (h:id < 1099511627776):hk (famR d rows n) id=none :=
  hk_famR_out d rows n id fun j _ e=>by have:=C3z d j;omega
theorem freshD_famR (d:Nat) (rows:Nat → List Int) (n k:Nat) (h:k < 68719476736):freshD (famR d rows n) k=True:=by
  have:∀ l:List Nat,freshD (l.map (fun j=>(fim d j,IL (rows j)))) k=True:=by
    intro l
    induction l with
    | nil=>rfl
    | cons a l ih=>simp only [List.map_cons,freshD,fim_div _ _ _ h,not_false_eq_true,true_and,ih]
  exact this _
theorem famR_zero (d:Nat) (rows:Nat → List Int):famR d rows 0=[]:=rfl
theorem Gpz (a b:Nat):∀ cs:List AV,swL a b cs=cs.map (AV.sw a b)
  | []=>rfl
  | c :: r=>by simp only [swL,List.map_cons,Gpz a b r]
theorem Enz (a b:Nat) (xs:List Int):swL a b (IL xs)=IL xs:=by rw [Gpz];unfold IL;rw [List.map_map];rfl

theorem SubW.fam1 {σ σ':List (Nat × AV)} {H:List (Nat × List AV)} {a d i id0:Nat} {rows:Nat → List Int} {c0 c1:List AV}
    (ha:hk H a=some (IL (rows i))) (h0:hk H id0=some c0) (hne:id0 ≠ a ∧ id0 < 1099511627776 ∧ a < 1099511627776) (hf:∀ j,j < i → hk H (fim d j)=some (IL (rows j)))
    (hc:c0.map (AV.sw a (fim d i))=c1) (hσ:∀ p ∈ σ',(lk σ p.1).sw a (fim d i)=p.2)
    (h4:∀ p ∈ σ',p.2.inn (fun id=>(hk ((id0,c1) :: famR d rows (i + 1)) id).isSome)=true) (h5:innL (fun id=>(hk ((id0,c1) :: famR d rows (i + 1)) id).isSome) c1=true) :
    SubW 0 (mkS σ H) (mkS σ' ((id0,c1) :: famR d rows (i + 1))):=by
  refine SubW.sw a (fim d i) (Nat.zero_le _) (Nat.zero_le _) (SubW.of (Sub.of_lists hσ ?_ (fun id h=>absurd h (Nat.not_lt_zero _)) h4 ?_))
  · intro p hp
    show (hk H (swp a (fim d i) p.1)).map (swL a (fim d i))=some p.2
    rcases List.mem_cons.1 hp with rfl|hp
    · rw [Cxz hne.1 (fun e=>by have:=C3z d i;omega),h0]
      show some (swL _ _ c0)=_
      rw [Gpz,hc]
    · obtain ⟨j,hj,rfl⟩:=List.mem_map.1 hp
      have hj':=List.mem_range.1 hj
      by_cases e:j=i
      · subst e
        rw [swp_snd,ha]
        show some (swL _ _ _)=_
        rw [Enz]
      · rw [Cxz (fun e=>by have:=C3z d j;omega) (fun e'=>e (Cmz e')),hf j (by omega)]
        show some (swL _ _ _)=_
        rw [Enz]
  · intro p hp
    rcases List.mem_cons.1 hp with rfl|hp
    · exact h5
    · obtain ⟨j,_,rfl⟩:=List.mem_map.1 hp
      exact Fzz _ _
theorem SubW.fam2 {σ σ':List (Nat × AV)} {H:List (Nat × List AV)} {a b d i id0:Nat} {rows:Nat → List Int} {c0 c1:List AV}
    (ha:hk H a=some (IL (rows i))) (hb:hk H b=some (IL (rows (i + 1)))) (h0:hk H id0=some c0) (hne:(id0 ≠ a ∧ id0 ≠ b ∧ a ≠ b) ∧ id0 < 1099511627776 ∧ a < 1099511627776 ∧ b < 1099511627776) (hf:∀ j,j < i → hk H (fim d j)=some (IL (rows j)))
    (hc:(c0.map (AV.sw a (fim d i))).map (AV.sw b (fim d (i + 1)))=c1) (hσ:∀ p ∈ σ',((lk σ p.1).sw a (fim d i)).sw b (fim d (i + 1))=p.2)
    (h4:∀ p ∈ σ',p.2.inn (fun id=>(hk ((id0,c1) :: famR d rows (i + 2)) id).isSome)=true) (h5:innL (fun id=>(hk ((id0,c1) :: famR d rows (i + 2)) id).isSome) c1=true) :
    SubW 0 (mkS σ H) (mkS σ' ((id0,c1) :: famR d rows (i + 2))):=by
  have hfb:∀ x:Nat,x < 1099511627776 → ∀ j,x ≠ fim d j:=fun x hx j e=>by have:=C3z d j;omega
  refine SubW.sw a (fim d i) (Nat.zero_le _) (Nat.zero_le _) (SubW.sw b (fim d (i + 1)) (Nat.zero_le _) (Nat.zero_le _) (SubW.of (Sub.of_lists hσ ?_ (fun id h=>absurd h (Nat.not_lt_zero _)) h4 ?_)))
  · intro p hp
    show ((hk H (swp a (fim d i) (swp b (fim d (i + 1)) p.1))).map (swL a (fim d i))).map (swL b (fim d (i + 1)))=some p.2
    rcases List.mem_cons.1 hp with rfl|hp
    · rw [Cxz hne.1.2.1 (hfb _ hne.2.1 _),Cxz hne.1.1 (hfb _ hne.2.1 _),h0]
      show some (swL _ _ (swL _ _ c0))=_
      rw [Gpz,Gpz,hc]
    · obtain ⟨j,hj,rfl⟩:=List.mem_map.1 hp
      have hj':=List.mem_range.1 hj
      by_cases e:j=i + 1
      · subst e
        rw [swp_snd,Cxz (Ne.symm hne.1.2.2) (hfb _ hne.2.2.2 _),hb]
        show some (swL _ _ (swL _ _ _))=_
        rw [Enz,Enz]
      · rw [Cxz (c:=fim d j) (Ne.symm (hfb _ hne.2.2.2 _)) (fun e'=>e (Cmz e'))]
        by_cases e2:j=i
        · subst e2
          rw [swp_snd,ha]
          show some (swL _ _ (swL _ _ _))=_
          rw [Enz,Enz]
        · rw [Cxz (Ne.symm (hfb _ hne.2.2.1 _)) (fun e'=>e2 (Cmz e')),hf j (by omega)]
          show some (swL _ _ (swL _ _ _))=_
          rw [Enz,Enz]
  · intro p hp
    rcases List.mem_cons.1 hp with rfl|hp
    · exact h5
    · obtain ⟨j,_,rfl⟩:=List.mem_map.1 hp
      exact Fzz _ _

theorem ret_fam {σ:List (Nat × AV)} {H:List (Nat × List AV)} {res:List ARes} {id0 n sz d:Nat} {F:Fam} (hl:aresL (mkS σ H) res=some [.own id0 n sz]) (h0:hk H id0=some (F.cellsG (fim d))) (h2:∀ j,j < F.R → hk H (fim d j)=some (IL (F.rows j))) (hlow:id0 < 1099511627776) :
    ∃ (outs:List Nat) (nils:List (Nat × Nat)) (l:List AV),(([] ++ outs).Nodup ∧ ∀ id ∈ outs,0 ≤ id) ∧ aresL (mkS σ H) res=some l ∧ retOk [] outs nils (mkS σ H).H ∧
      ((((tupOf l).fixNil nils).1.can ([] ++ outs) (orNil (mkS σ H).H outs))=.own 0 n sz ∧ (([] ++ outs).map fun id=>(((mkS σ H).H id).getD []).map (AV.can ([] ++ outs) (orNil (mkS σ H).H outs)))=F.cellsG (· + 1) :: F.conts):=by
  have hne:∀ j,id0 ≠ fim d j:=fun j e=>by have:=C3z d j;omega
  have hnd:(id0 :: (List.range F.R).map (fim d)).Nodup:=by
    rw [List.nodup_cons]
    refine ⟨fun h=>?_,G4z (fun _ _=>Cmz) List.nodup_range⟩
    obtain ⟨j,_,e⟩:=List.mem_map.1 h
    exact hne j e.symm
  have hget:∀ j,j < F.R → (id0 :: (List.range F.R).map (fim d))[j + 1]?=some (fim d j):=fun j hj=>by
    rw [List.getElem?_cons_succ,List.getElem?_map,List.getElem?_range hj];rfl
  have hp0:posF (id0 :: (List.range F.R).map (fim d)) id0=some 0:=by unfold posF posL;exact if_pos rfl
  have hpj:∀ j,j < F.R → posF (id0 :: (List.range F.R).map (fim d)) (fim d j)=some (j + 1):=fun j hj=>by
    have:=C0z (k:=0) hnd (hget j hj)
    rw [Nat.zero_add] at this
    exact this
  refine ⟨id0 :: (List.range F.R).map (fim d),[],_,⟨hnd,fun _ _=>Nat.zero_le _⟩,hl,⟨(fun _ h=>by cases h),(fun _ h=>by cases h)⟩,?_,?_⟩
  · show AV.ren _ _ _ _ 5 (.own id0 n sz)=_
    rw [Gvz,List.nil_append,hp0,Fez]
  · rw [List.nil_append,List.map_cons,List.map_map,show (mkS σ H).H id0=hk H id0 from rfl,h0]
    congr 1
    · show (F.cellsG (fim d)).map _=_
      unfold Fam.cellsG
      rw [Czz]
      exact Bzz fun p hp=>F.ren_at fun j hj=>hpj j (F.ok p j hp hj)
    · unfold Fam.conts
      refine List.map_congr_left fun j hj=>?_
      show ((hk H (fim d j)).getD []).map _=_
      rw [h2 j (List.mem_range.1 hj)]
      exact Fwz _

theorem inN_of:∀ {l:List Nat} {id:Nat},id ∈ l → inN l id
  | x :: r,id,h=>by
    rcases List.mem_cons.1 h with h|h
    · exact .inl h
    · exact .inr (inN_of h)
theorem ret_famS {σ:List (Nat × AV)} {H:List (Nat × List AV)} {res:List ARes} {id0 n sz d:Nat} {F:Fam} (hl:aresL (mkS σ H) res=some [.own id0 n sz]) (h0:hk H id0=some (F.cellsG (fim d))) (h2:∀ j,j < F.R → hk H (fim d j)=some (IL (F.rows j))) (hlow:id0 < 1099511627776) :
    ∃ (outs:List Nat) (nils:List (Nat × Nat)) (l:List AV),(outs.Nodup ∧ ∀ id ∈ outs,True) ∧ aresL (mkS σ H) res=some l ∧ (∀ p ∈ nils,(mkS σ H).H p.1=none ∧ inN outs p.1) ∧
      AV.ren (posF outs) (orNil (mkS σ H).H outs) true some 5 (AV.fixNil nils (tupOf l)).1=.own 0 n sz ∧ List.map (fun id=>List.map (AV.ren (posF outs) (orNil (mkS σ H).H outs) true some 5) (((mkS σ H).H id).getD [])) outs=F.cellsG (· + 1) :: F.conts:=by
  obtain ⟨outs,nils,l,⟨a,_⟩,b,⟨_,c⟩,e,f⟩:=ret_fam hl h0 h2 hlow
  rw [List.nil_append] at a e f
  exact ⟨outs,nils,l,⟨a,fun _ _=>trivial⟩,b,fun p hp=>⟨(c p hp).1,inN_of (c p hp).2⟩,e,f⟩

def pinR (rows:Nat → List Int) (n:Nat):List (Nat × List AV):=(List.range n).map fun j=>(j + 1,IL (rows j))
theorem F6z (f:Nat → List AV):∀ (n k:Nat),(((List.range n).map f).zipIdx k).map (fun p=>(p.2,p.1))=(List.range n).map fun j=>(j + k,f j)
  | 0,_=>rfl
  | n + 1,k=>by
    rw [List.range_succ,List.map_append,List.zipIdx_append,List.map_append,F6z f n k,List.map_append]
    simp [Nat.add_comm]
theorem initB_fam (args:List AV) (c0:List AV) (F:Fam):S.initB args (c0 :: F.conts)=mkS (args.zipIdx.map fun p=>(p.2,p.1)) ((0,c0) :: pinR F.rows F.R):=by
  unfold S.initB
  congr 1
  rw [List.zipIdx_cons,List.map_cons]
  congr 1
  exact F6z _ _ _
theorem D2z (rows:Nat → List Int) (n j:Nat) (h:j < n):hk (pinR rows n) (j + 1)=some (IL (rows j)):=by
  have:=Chz (fun j=>j + 1) (fun i j e=>by omega) (fun j=>IL (rows j)) [] j _ (List.mem_range.2 h)
  rw [List.append_nil] at this
  exact this
theorem Hdz (rows:Nat → List Int) (n id:Nat) (h:∀ j,j < n → j + 1 ≠ id):hk (pinR rows n) id=none:=by
  have:=Cuz (fun j=>j + 1) (fun j=>IL (rows j)) [] id (List.range n) fun j hj=>h j (List.mem_range.1 hj)
  rw [List.append_nil] at this
  exact this
theorem I5z {rows:Nat → List Int} {n j:Nat} {xs:List Int} {c0:List AV} (h:j < n) (id:Nat):hk ((0,c0) :: pinR (upd rows j xs) n) id=hk ((j + 1,IL xs) :: (0,c0) :: pinR rows n) id:=by
  simp only [hk]
  by_cases e0:id=0
  · subst e0;rw [if_pos rfl,if_neg (by omega),if_pos rfl]
  · rw [if_neg e0,if_neg e0]
    by_cases e1:id=j + 1
    · subst e1;rw [if_pos rfl,D2z _ _ _ h,A1z]
    · rw [if_neg e1]
      by_cases e2:∃ i,i < n ∧ i + 1=id
      · obtain ⟨i,hi,rfl⟩:=e2
        rw [D2z _ _ _ hi,D2z _ _ _ hi,A2z _ _ _ _ (by omega)]
      · rw [Hdz _ _ _ fun i hi e=>e2 ⟨i,hi,e⟩,Hdz _ _ _ fun i hi e=>e2 ⟨i,hi,e⟩]
theorem SubW.slots {pin:Nat} {σ σ':List (Nat × AV)} {H:List (Nat × List AV)} (h:∀ p ∈ σ',lk σ p.1=p.2):SubW pin (mkS σ H) (mkS σ' H):=fun E M x w hp hst=>by
  refine ⟨M,hst.defers,hst.size,fun t=>?_,hst.hok,hst.old⟩
  show Den _ (lk σ' t) _
  rcases lk_mem σ' t with e|⟨p,hp,e1,e2⟩
  · rw [e];simp [Den]
  · rw [e2,← h p hp,e1];exact hst.slots t
theorem ret_pin {σ:List (Nat × AV)} {res:List ARes} {c0:List AV} {k:Int} {F:Fam} {R:Nat} (hR:R=F.R) (hl:∀ H,aresL (mkS σ H) res=some [.int .i64 k]) (h0:c0=F.cellsG (· + 1)) :
    ∃ (outs:List Nat) (nils:List (Nat × Nat)) (l:List AV),((List.range (R + 1) ++ outs).Nodup ∧ ∀ id ∈ outs,R + 1 ≤ id) ∧ aresL (mkS σ ((0,c0) :: pinR F.rows R)) res=some l ∧ retOk (List.range (R + 1)) outs nils (mkS σ ((0,c0) :: pinR F.rows R)).H ∧
      ((((tupOf l).fixNil nils).1.can (List.range (R + 1) ++ outs) (orNil (mkS σ ((0,c0) :: pinR F.rows R)).H outs))=.int .i64 k ∧ ((List.range (R + 1) ++ outs).map fun id=>(((mkS σ ((0,c0) :: pinR F.rows R)).H id).getD []).map (AV.can (List.range (R + 1) ++ outs) (orNil (mkS σ ((0,c0) :: pinR F.rows R)).H outs)))=F.cellsG (· + 1) :: F.conts):=by
  subst hR h0
  have hpj:∀ j,j < F.R + 1 → posF (List.range (F.R + 1)) j=some j:=fun j hj=>by
    have:=C0z (k:=0) (ids:=List.range (F.R + 1)) (id:=j) (i:=j) List.nodup_range (List.getElem?_range hj)
    rw [Nat.zero_add] at this
    exact this
  refine ⟨[],[],_,⟨(by rw [List.append_nil];exact List.nodup_range),(fun _ h=>by cases h)⟩,hl _,⟨fun id hid=>?_,fun _ h=>by cases h⟩,rfl,?_⟩
  · have:=List.mem_range.1 hid
    show (hk _ id).isSome=true
    simp only [hk]
    split
    · rfl
    · rename_i h0
      obtain ⟨j,rfl⟩:∃ j,id=j + 1:=⟨id - 1,by omega⟩
      rw [D2z _ _ _ (by omega)];rfl
  · rw [List.append_nil,List.range_succ_eq_map,List.map_cons,List.map_map]
    rw [← List.range_succ_eq_map]
    congr 1
    · show (F.cellsG (· + 1)).map _=_
      unfold Fam.cellsG
      rw [Czz]
      exact Bzz fun p hp=>F.ren_at fun j hj=>hpj (j + 1) (by have:=F.ok p j hp hj;omega)
    · unfold Fam.conts
      refine List.map_congr_left fun j hj=>?_
      show ((hk _ (j + 1)).getD []).map _=_
      simp only [hk]
      rw [if_neg (by omega),D2z _ _ _ (List.mem_range.1 hj)]
      exact Fwz _

theorem ret_pinS {σ:List (Nat × AV)} {res:List ARes} {c0:List AV} {kk:Int} {F:Fam} {R:Nat} {rows:Nat → List Int} {Post:Int → Prop} (hl:∀ H,aresL (mkS σ H) res=some [.int .i64 kk]) (hp:Post kk) (hret:∃ G:Fam,F.like G ∧ G.rows=rows ∧ G.R=R ∧ c0=G.cellsG (· + 1)) :
    ∃ (outs:List Nat) (nils:List (Nat × Nat)) (l:List AV),((List.range (R + 1) ++ outs).Nodup ∧ ∀ id ∈ outs,R + 1 ≤ id) ∧ aresL (mkS σ ((0,c0) :: pinR rows R)) res=some l ∧ ((∀ id ∈ List.range (R + 1),((mkS σ ((0,c0) :: pinR rows R)).H id).isSome=true) ∧ ∀ p ∈ nils,(mkS σ ((0,c0) :: pinR rows R)).H p.1=none ∧ inN outs p.1) ∧
      ∃ (G:Fam) (k':Int),Post k' ∧ F.like G ∧ AV.ren (posF (List.range (R + 1) ++ outs)) (orNil (mkS σ ((0,c0) :: pinR rows R)).H outs) true some 5 (AV.fixNil nils (tupOf l)).1=.int .i64 k' ∧
        List.map (fun id=>List.map (AV.ren (posF (List.range (R + 1) ++ outs)) (orNil (mkS σ ((0,c0) :: pinR rows R)).H outs) true some 5) (((mkS σ ((0,c0) :: pinR rows R)).H id).getD [])) (List.range (R + 1) ++ outs)=G.cellsG (· + 1) :: G.conts:=by
  obtain ⟨G,h1,rfl,rfl,h4⟩:=hret
  obtain ⟨outs,nils,l,a,b,⟨c,c'⟩,e,f⟩:=ret_pin (F:=G) rfl hl h4
  exact ⟨outs,nils,l,a,b,⟨c,fun p hp=>⟨(c' p hp).1,inN_of (c' p hp).2⟩⟩,G,kk,hp,h1,e,f⟩

def lsF (ls:List (List Int)):Fam:=⟨ls.length,ls.length,fun p=>.inr p,fun j=>ls.getD j [],fun p j h e=>by injection e with e;omega,fun p a e=>by cases e⟩
theorem LL_map (b:Bool):∀ ls:List (List Int),LL b ls=ls.map fun l=>.rows b (IL l) l.length
  | []=>rfl
  | l :: r=>by simp only [LL,List.map_cons,LL_map b r]
theorem lsF_plain (ls:List (List Int)) (b:Bool):(lsF ls).plain b=LL b ls:=by
  symm
  refine I0z (Bcz b ls) fun p hp=>?_
  have hp':p < ls.length:=hp
  rw [LL_map,List.getElem?_map,List.getElem?_eq_getElem hp']
  simp [Fam.atP,lsF,List.getD,hp']
theorem lsF_C (ls:List (List Int)):(lsF ls).C=ls.length:=rfl
theorem lsF_R (ls:List (List Int)):(lsF ls).R=ls.length:=rfl
def tnRow (ts:List Tn) (j:Nat):List Int:=if j % 2=0 then (ts.getD (j / 2) ([],[])).1 else (ts.getD (j / 2) ([],[])).2
def tsF (ts:List Tn):Fam:=⟨ts.length * 2,ts.length * 2,fun p=>.inr p,tnRow ts,fun p j h e=>by injection e with e;omega,fun p a e=>by cases e⟩
theorem tsF_C (ts:List Tn):(tsF ts).C=ts.length * 2:=rfl
theorem tsF_R (ts:List Tn):(tsF ts).R=ts.length * 2:=rfl
theorem tnRow_0 {ts:List Tn} {i:Nat} {x y:List Int} (h:ts[i]?=some (x,y)):tnRow ts (i * 2)=x ∧ tnRow ts (i * 2 + 1)=y:=by
  unfold tnRow
  rw [if_pos (by omega),if_neg (by omega),show i * 2 / 2=i by omega,show (i * 2 + 1) / 2=i by omega]
  simp [List.getD,h]
theorem tsF_plain (ts:List Tn) (b:Bool):(tsF ts).plain b=TL b ts:=by
  symm
  refine I0z (Bbz b ts) fun p hp=>?_
  have hp':p < ts.length * 2:=hp
  obtain ⟨t,ht⟩:∃ t,ts[p / 2]?=some t:=⟨ts[p / 2]'(by omega),List.getElem?_eq_getElem _⟩
  have hd:=Cnz b ts (p / 2) ht
  obtain ⟨h0,h1⟩:=tnRow_0 (x:=t.1) (y:=t.2) ht
  rcases Nat.mod_two_eq_zero_or_one p with e|e
  · have:=congrArg (fun l=>l[0]?) hd
    simp only [List.getElem?_take,List.getElem?_drop] at this
    have e2:p / 2 * 2=p:=by omega
    rw [e2] at this h0
    simp at this
    rw [this]
    simp [Fam.atP,tsF,h0]
  · have:=congrArg (fun l=>l[1]?) hd
    simp only [List.getElem?_take,List.getElem?_drop] at this
    have e2:p / 2 * 2 + 1=p:=by omega
    rw [e2] at this h1
    simp at this
    rw [this]
    simp [Fam.atP,tsF,h1]
attribute [push_cast] lsF_plain lsF_C lsF_R tsF_plain tsF_C tsF_R hk_famR_low freshD_famR
end Vw
