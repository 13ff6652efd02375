/- The mathematics of ranges,slices,shapes and indices that the contracts speak of. -/
import Derived.Test.YtpicoecbbiiaoaaCW3
set_option linter.unusedVariables false
set_option linter.unusedSimpArgs false
set_option linter.unnecessarySimpa false
set_option maxRecDepth 4000
namespace VwM
open Vw
open Go

abbrev rng (a b c:Int):AV:=.agg [.int .i64 a,.int .i64 b,.int .i64 c]
abbrev slc (f t b:Int) (hf ht:Bool):AV:=.agg [.int .i64 f,.int .i64 t,.int .i64 b,.bool hf,.bool ht]
abbrev IL (xs:List Int):List AV:=xs.map (AV.int .i64)
abbrev RI (xs:List Int):AV:=.rows false (IL xs) xs.length
abbrev OI (xs:List Int):AV → List (List AV) → Prop:=fun r H'=>r=.own 0 xs.length 1 ∧ H'=[IL xs]
def vR (a b c:Int):Bool:=decide (-100 ≤ a) && decide (a ≤ 100) && (decide (-101 ≤ b) && decide (b ≤ 101)) && (decide (-200 ≤ c) && decide (c ≤ 200) && !decide (c=0))
def vS (f t b:Int) (hf ht:Bool):Bool:=decide (-100 ≤ f) && decide (f ≤ 100) && (decide (-100 ≤ t) && decide (t ≤ 100)) && (decide (-200 ≤ b) && decide (b ≤ 200)) && !decide (b=0) && (hf || decide (f=0)) && (ht || decide (t=0))
theorem mkAV_ints0 (k:IntKind) (xs:List Int):mkAV false ((xs.map (AV.int k)).take 1)=if 0 < xs.length then some (.int k (xs.getD 0 0)) else none:=by
  haveI:Inhabited GlobT:=⟨⟨[]⟩⟩
  have:=Fzz k xs 0
  rwa [List.drop_zero] at this
attribute [push_cast] Fzz mkAV_ints0


theorem list_eq_of {xs ys:List Int} (hl:xs.length=ys.length) (h:∀ j:Nat,j < xs.length → xs.getD j 0=ys.getD j 0):xs=ys:=by
  refine List.ext_getElem hl fun i h1 h2=>?_
  have:=h i h1
  simpa [List.getD,h1,h2] using this


def upFrom (k:Int) (n:Nat):List Int:=(List.range n).map fun i:Nat=>k + (i:Int)
theorem Edz (k:Int) (n:Nat):(upFrom k n).length=n:=by simp [upFrom]
theorem upFrom_getD (k:Int) (n i:Nat) (h:i < n):(upFrom k n).getD i 0=k + i:=by simp [upFrom,h,List.getD]
attribute [simp] Edz
attribute [push_cast] Edz
def marked (k:Int) (xs:List Int) (j:Nat):List Int:=upFrom k j ++ xs.drop j
theorem marked_zero (k:Int) (xs:List Int):marked k xs 0=xs:=by simp [marked,upFrom]
theorem Hlz (k:Int) (xs:List Int) (j:Nat) (h:j ≤ xs.length):(marked k xs j).length=xs.length:=by simp [marked];omega
theorem marked_set (k:Int) (xs:List Int) (j:Nat) (h:j < xs.length):(marked k xs j).set j (k + j)=marked k xs (j + 1):=by
  refine List.ext_getElem? fun i=>?_
  simp only [marked,upFrom,List.getElem?_set,List.getElem?_append,List.length_map,List.length_range,List.length_append,List.length_drop,List.getElem?_map,List.getElem?_drop]
  by_cases h1:j=i
  · subst h1;simp [h];omega
  · by_cases h2:i < j
    · simp [h1,h2,Nat.lt_succ_of_lt h2]
    · have h3:¬ i < j + 1:=by omega
      simp only [if_neg h1,if_neg h2,if_neg h3]
      congr 1;omega
theorem marked_all (k:Int) (xs:List Int):marked k xs xs.length=upFrom k xs.length:=by simp [marked]


def cntI (a b c:Int):Int :=
  if c < 0 then (if 0 - (b - a) ≤ 0 then 0 else (0 - (b - a) + (0 - c) - 1).tdiv (0 - c)) else (if b - a ≤ 0 then 0 else (b - a + c - 1).tdiv c)
def nums (a c:Int) (k:Nat):List Int:=(List.range k).map fun i:Nat=>a + (i:Int) * c
theorem Fwz (a c:Int) (k:Nat):(nums a c k).length=k:=by simp [nums]
attribute [simp] Fwz
attribute [push_cast] Fwz
def cntN (a b c:Int):Nat:=(cntI a b c).toNat
def filled (g:Nat → Int) (n j:Nat):List Int:=(List.range n).map fun i=>if i < j then g i else 0
theorem filled_zero (g:Nat → Int) (n:Nat):filled g n 0=List.replicate n 0:=by
  refine List.ext_getElem? fun i=>?_
  by_cases h:i < n<;>simp [filled,h]
theorem Emz (g:Nat → Int) (n j:Nat):(filled g n j).length=n:=by simp [filled]
attribute [simp] Emz
attribute [push_cast] Emz
theorem G1z (g:Nat → Int) (n j:Nat) (h:j < n):(filled g n j).set j (g j)=filled g n (j + 1):=by
  refine List.ext_getElem? fun i=>?_
  simp only [filled,List.getElem?_set,List.length_map,List.length_range,List.getElem?_map]
  by_cases h1:j=i
  · subst h1;simp [h]
  · by_cases h2:i < n
    · simp only [List.getElem?_range h2,Option.map_some,if_neg h1]
      congr 1
      by_cases h3:i < j
      · rw [if_pos h3,if_pos (by omega)]
      · rw [if_neg h3,if_neg (by omega)]
    · simp [h1,h2]
theorem filled_all (g:Nat → Int) (n:Nat):filled g n n=(List.range n).map g:=by
  refine List.map_congr_left fun i hi=>?_
  rw [if_pos (List.mem_range.1 hi)]
theorem G4z (xs:List Int) (j:Nat) (v:Int):(IL xs).set j (.int .i64 v)=IL (xs.set j v):=by simp [IL,List.map_set]
def numsOf (a b c:Int):List Int:=if vR a b c=true then nums a c (cntN a b c) else []


theorem toNat_succ (k:Nat):((k:Int) + 1).toNat=k + 1:=by omega
theorem IL_tail (k:IntKind) (xs:List Int) (j:Nat):(((xs.map (AV.int k)).drop j).take (xs.length - j))=(xs.drop j).map (AV.int k):=by
  rw [← List.map_drop,← List.map_take]
  congr 1
  exact List.take_of_length_le (by simp)
attribute [push_cast] toNat_succ IL_tail
def pr (xs:List Int):Int:=xs.foldl (· * ·) 1
theorem pr_nil:pr []=1:=rfl
theorem pr_snoc (xs:List Int) (x:Int):pr (xs ++ [x])=pr xs * x:=by simp [pr]
theorem foldl_mul (xs:List Int) (a:Int):xs.foldl (· * ·) a=a * pr xs:=by
  induction xs generalizing a with
  | nil=>simp [pr]
  | cons x r ih=>simp only [List.foldl_cons,pr];rw [ih,ih (1 * x)];rw [Int.one_mul,Int.mul_assoc]
theorem pr_cons (x:Int) (xs:List Int):pr (x :: xs)=x * pr xs:=by
  show (x :: xs).foldl (· * ·) 1=_
  rw [List.foldl_cons,foldl_mul,Int.one_mul]
theorem B8z (xs:List Int) (k:Nat) (h:k < xs.length):xs.take (k + 1)=xs.take k ++ [xs.getD k 0]:=by
  rw [List.take_succ_eq_append_getElem h];simp [List.getD,h]
theorem E8z (xs:List Int) (k:Nat) (h:k < xs.length):pr (xs.take (k + 1))=pr (xs.take k) * xs.getD k 0:=by rw [B8z xs k h,pr_snoc]
def good4 (xs:List Int):Prop:=(∀ x ∈ xs,0 ≤ x ∧ x ≤ 60) ∧ xs.length ≤ 4
theorem Gzz {xs:List Int} (h:good4 xs) (j:Nat):good4 (xs.take j):=⟨fun x hx=>h.1 x (List.mem_of_mem_take hx),by have:=h.2;simp;omega⟩
theorem pr_bound':∀ (xs:List Int),(∀ x ∈ xs,0 ≤ x ∧ x ≤ 60) → 0 ≤ pr xs ∧ pr xs ≤ 60 ^ xs.length
  | [],_=>by simp [pr]
  | x :: r,h=>by
    have ih:=pr_bound' r fun y hy=>h y (by simp [hy])
    have hx:=h x (by simp)
    rw [pr_cons,List.length_cons,Int.pow_succ,Int.mul_comm (60 ^ r.length) 60]
    exact ⟨Int.mul_nonneg hx.1 ih.1,Int.mul_le_mul hx.2 ih.2 ih.1 (by omega)⟩
theorem Hhz {xs:List Int} (h:good4 xs):0 ≤ pr xs ∧ pr xs ≤ 12960000:=by
  have h1:=pr_bound' xs h.1
  refine ⟨h1.1,Int.le_trans h1.2 ?_⟩
  have:(60:Int) ^ xs.length ≤ 60 ^ 4:=by
    obtain ⟨_,hl⟩:=h
    generalize xs.length=n at hl
    match n,hl with
    | 0,_=>decide
    | 1,_=>decide
    | 2,_=>decide
    | 3,_=>decide
    | 4,_=>decide
  simpa using this
def allI (xs:List Int) (l h:Int):Bool:=xs.all fun x=>decide (l ≤ x) && decide (x ≤ h)
theorem Cfz {xs:List Int} {l h:Int}:allI xs l h=true ↔ ∀ x ∈ xs,l ≤ x ∧ x ≤ h:=by simp [allI]
theorem Epz {xs:List Int} {l h:Int}:(∀ j:Nat,j < xs.length → l ≤ xs.getD j 0 ∧ xs.getD j 0 ≤ h) → allI xs l h=true:=by
  intro hj
  rw [Cfz]
  intro x hx
  obtain ⟨i,hi,rfl⟩:=List.getElem_of_mem hx
  have:=hj i hi
  simpa [List.getD,hi] using this
theorem Duz {xs:List Int} {l h:Int} {j:Nat} (hj:j < xs.length) (hx:xs.getD j 0 < l ∨ h < xs.getD j 0):allI xs l h=false:=by
  rw [Bool.eq_false_iff]
  intro ht
  have:=(Cfz.1 ht) (xs.getD j 0) (by simp [List.getD,hj])
  omega
def vSh (sh:List Int):Bool:=decide (sh.length ≤ 4) && allI sh 0 60 && decide (pr sh ≤ 60)
theorem Ecz {sh:List Int} (h:vSh sh=true):good4 sh ∧ 0 ≤ pr sh ∧ pr sh ≤ 60:=by
  simp only [vSh,Bool.and_eq_true,decide_eq_true_eq] at h
  have hg:good4 sh:=⟨Cfz.1 h.1.2,h.1.1⟩
  exact ⟨hg,(Hhz hg).1,h.2⟩
theorem filled_getD (xs:List Int):(List.range xs.length).map (fun i:Nat=>xs.getD i 0)=xs:=by
  refine List.ext_getElem (by simp) fun i h1 h2=>?_
  simp [List.getD,h2]



def rowS (sh:List Int):List Int:=(List.range sh.length).map fun i:Nat=>pr (sh.drop (i + 1))
def colS (sh:List Int):List Int:=(List.range sh.length).map fun i:Nat=>pr (sh.take i)
theorem Foz (sh:List Int):(rowS sh).length=sh.length:=by simp [rowS]
theorem Ghz (sh:List Int):(colS sh).length=sh.length:=by simp [colS]
attribute [simp] Foz Ghz
attribute [push_cast] Foz Ghz
def filledD (g:Nat → Int) (n k:Nat):List Int:=(List.range n).map fun i=>if n - k ≤ i then g i else 0
theorem Dyz (g:Nat → Int) (n k:Nat):(filledD g n k).length=n:=by simp [filledD]
attribute [simp] Dyz
attribute [push_cast] Dyz
def kS (sh:List Int) (k:Int):Nat → Int
  | 0=>k
  | j + 1=>(kS sh k j).tdiv (sh.getD (sh.length - 1 - j) 0)
def dig (sh:List Int) (k:Int) (i:Nat):Int:=(kS sh k (sh.length - 1 - i)).tmod (sh.getD i 0)
def unr (sh:List Int) (k:Int):List Int:=(List.range sh.length).map (dig sh k)
theorem Grz (sh:List Int) (k:Int):(unr sh k).length=sh.length:=by simp [unr]
attribute [simp] Grz
attribute [push_cast] Grz
def pad4 (f:Nat → Int):List Int:=[f 0,f 1,f 2,f 3]
theorem Fuz (f:Nat → Int):(pad4 f).length=4:=rfl
theorem G9z (a b c d:AV) (f:Nat → Int):setRange [a,b,c,d] 0 ((pad4 f).map (AV.int .i64))=(pad4 f).map (AV.int .i64):=by simp [pad4,setRange]
theorem Goz (g f:Nat → Int):setRange ((pad4 g).map (AV.int .i64)) 0 ((pad4 f).map (AV.int .i64))=(pad4 f).map (AV.int .i64):=by simp [pad4,setRange]
theorem take_pad4 (f:Nat → Int):((pad4 f).map (AV.int .i64)).take 4=(pad4 f).map (AV.int .i64):=by simp [pad4]
attribute [simp] Fuz
attribute [push_cast] Fuz G9z Goz take_pad4
def padD (xs:List Int) (k:Int) (j i:Nat):Int:=if i < xs.length ∧ xs.length - j ≤ i then dig xs k i else 0
abbrev AP (f:Nat → Int):AV:=.agg (IL (pad4 f))
def digP (sh:List Int) (k:Int) (i:Nat):Int:=if i < sh.length then dig sh k i else 0


def vIx (sh idx:List Int):Bool:=decide (idx.length=sh.length) && (List.range idx.length).all fun i=>decide (0 ≤ idx.getD i 0) && decide (idx.getD i 0 ≤ sh.getD i 0 - 1)
def hor (sh idx:List Int):Nat → Int
  | 0=>0
  | k + 1=>hor sh idx k * sh.getD k 0 + idx.getD k 0
def dot (f:Nat → Int) (st:List Int):Nat → Int
  | 0=>0
  | k + 1=>dot f st k + f k * st.getD k 0
def idxP (sh idx:List Int) (i:Nat):Int:=if vIx sh idx=true ∧ i < sh.length then idx.getD i 0 else 0
def rankD (sh idx:List Int):Int:=if vSh sh=true ∧ vIx sh idx=true then dot (fun i=>idx.getD i 0) (rowS sh) sh.length else -1


abbrev VW (b:Int) (s t:AV):AV:=.agg [.int .i64 b,s,t]
abbrev RV (b:Int) (sh st:List Int):AV:=.agg [.int .i64 b,RI sh,RI st]
abbrev OV (b:Int) (sh st:List Int):AV → List (List AV) → Prop:=fun r H'=>r=.agg [.int .i64 b,.own 0 sh.length 1,.own 1 st.length 1] ∧ H'=[IL sh,IL st]


def newSt (sh:List Int):List Int:=if pr sh=0 then List.replicate sh.length 0 else rowS sh
def endI (x n b:Int):Int:=min (max (if b < 0 then -1 else 0) (if x < 0 then x + n else x)) (if b < 0 then n - 1 else n)
def sFrom (f n b:Int) (hf:Bool):Int:=if hf=true then endI f n b else if b < 0 then n - 1 else 0
def sTo (t n b:Int) (ht:Bool):Int:=if ht=true then endI t n b else if b < 0 then -1 else n
def idxOf (n f t b:Int) (hf ht:Bool):List Int:=if vS f t b hf ht=true ∧ 0 ≤ n ∧ n ≤ 60 then nums (sFrom f n b hf) b (cntN (sFrom f n b hf) (sTo t n b ht) b) else []
def pS (a k:Int):Int:=if k < 1 then 0 else a
def pE (a c k:Int):Int:=if k < 1 then 0 else if k=1 then a + 1 else if c < 0 then a + (k - 1) * c - 1 else a + (k - 1) * c + 1
def pC (c k:Int):Int:=if k ≤ 1 then 1 else c
abbrev PR (a c k:Int):AV:=rng (pS a k) (pE a c k) (pC c k)


def slRg (a b c f t w:Int) (hf ht:Bool):AV :=
  if vR a b c=true ∧ vS f t w hf ht=true ∧ cntN a b c ≤ 60 then PR (a + sFrom f (cntN a b c) w hf * c) (c * w) (cntN (sFrom f (cntN a b c) w hf) (sTo t (cntN a b c) w ht) w) else rng 0 0 0
def mgSome (n f t w:Int) (hf ht:Bool) (f' t' w':Int) (hf' ht':Bool):AV :=
  let u:=sFrom f n w hf
  let k:=cntN u (sTo t n w ht) w
  let u':=sFrom f' k w' hf'
  let k':=cntN u' (sTo t' k w' ht') w'
  slc (pS (u + u' * w) k') (if pE (u + u' * w) (w * w') k' < 0 then 0 else pE (u + u' * w) (w * w') k') (pC (w * w') k') true (!decide (pE (u + u' * w) (w * w') k' < 0))
def mgS (n f t w:Int) (hf ht:Bool) (f' t' w':Int) (hf' ht':Bool):AV :=
  if (0 ≤ n ∧ n ≤ 60) ∧ vS f t w hf ht=true ∧ vS f' t' w' hf' ht'=true then mgSome n f t w hf ht f' t' w' hf' ht' else slc 0 0 0 false false
end VwM
set_option linter.unusedVariables false
set_option linter.unusedSimpArgs false
set_option linter.unnecessarySimpa false
set_option maxRecDepth 4000
namespace VwM
open Vw
open Go

def placeI (xs:List Int) (x:Int):Int:=if x ∈ xs then (xs.idxOf x:Int) else -1
theorem Ffz {xs:List Int} {x:Int}:x ∈ xs ↔ ∃ j,j < xs.length ∧ xs.getD j 0=x:=by
  constructor
  · intro h
    obtain ⟨i,hi,e⟩:=List.getElem_of_mem h
    exact ⟨i,hi,by simp [List.getD,hi,e]⟩
  · rintro ⟨j,hj,rfl⟩
    simp [List.getD,hj]
theorem C2z {xs:List Int} {j:Nat} (h:j < xs.length):xs.getD j 0 ∈ xs:=Ffz.2 ⟨j,h,rfl⟩
theorem Ftz {xs:List Int} {x:Int} (h:∀ j,j < xs.length → xs.getD j 0 ≠ x):placeI xs x=-1:=by
  unfold placeI
  rw [if_neg]
  intro hm
  obtain ⟨j,hj,e⟩:=Ffz.1 hm
  exact h j hj e
theorem Fsz {xs:List Int} {x:Int} {j:Nat} (hj:j < xs.length) (h:xs.getD j 0=x) (hno:∀ i,i < j → xs.getD i 0 ≠ x):placeI xs x=j:=by
  unfold placeI
  rw [if_pos (Ffz.2 ⟨j,hj,h⟩)]
  congr 1
  induction xs generalizing j with
  | nil=>simp at hj
  | cons y r ih =>
    rw [List.idxOf_cons]
    cases j with
    | zero=>simp at h;simp [h]
    | succ j =>
      have h0:=hno 0 (by omega)
      have hy:¬ y=x:=by simpa using h0
      simp only [beq_iff_eq,hy,cond_false,Bool.cond_eq_ite,if_false]
      have:=ih (j:=j) (by simpa using hj) (by simpa using h) (fun i hi=>by simpa using hno (i + 1) (by omega))
      omega
theorem Doz {xs:List Int} {x:Int}:placeI xs x < 0 ↔ x ∉ xs:=by
  unfold placeI
  by_cases h:x ∈ xs
  · simp [h]
  · simp [h]
def nrmA (xs:List Int):AV :=
  if xs.length=0 then rng 0 0 1 else if xs.length=1 then rng (xs.getD 0 0) (xs.getD 0 0 + 1) 1 else
    rng (xs.getD 0 0) (if xs.getD 1 0 - xs.getD 0 0 < 0 then xs.getD (xs.length - 1) 0 - 1 else xs.getD (xs.length - 1) 0 + 1) (xs.getD 1 0 - xs.getD 0 0)
def ascL (xs:List Int):List Int:=if 1 < xs.length ∧ xs.getD 0 0 > xs.getD 1 0 then xs.reverse else xs
def aS (a c:Int) (n:Nat):Int:=if c < 0 then a + ((n:Int) - 1) * c else a
def aC (c:Int):Int:=if c < 0 then 0 - c else c
def commL (xs ys:List Int):List Int:=xs.filter fun x=>decide (x ∈ ys)
def revT (xs:List Int) (k:Nat):List Int:=xs.reverse.take k
def meA (a b c a' b' c':Int):AV:=if vR a b c=true ∧ vR a' b' c'=true then nrmA (commL (nums (aS a c (cntN a b c)) (aC c) (cntN a b c)) (nums (aS a' c' (cntN a' b' c')) (aC c') (cntN a' b' c'))) else rng 0 0 0
def cvB (a b c a' b' c':Int):Bool:=vR a b c && vR a' b' c' && decide (∀ x ∈ nums a' c' (cntN a' b' c'),x ∈ nums a c (cntN a b c))
theorem plainI [Inhabited GlobT] {P:Program} {f:Nat} {args:List AV} {xs:List Int} (h:BCall P f args [] (OI xs)):PCall P f args (fun r=>r=.rows true (IL xs) xs.length):=by
  refine (BCall.plain h).mono ?_
  rintro r ⟨r0,H',⟨rfl,rfl⟩,rfl⟩
  simp [AV.ren,nthH,List.map_map,Function.comp_def]
end VwM
set_option linter.unusedVariables false
set_option linter.unusedSimpArgs false
set_option linter.unnecessarySimpa false
set_option maxRecDepth 4000
namespace VwM
open Vw
open Go

def horF (sh:List Int) (f:Nat → Int):Nat → Int
  | 0=>0
  | k + 1=>horF sh f k * sh.getD k 0 + f k
def isIx (sh:List Int) (f:Nat → Int):Prop:=∀ i,i < sh.length → 0 ≤ f i ∧ f i < sh.getD i 0
def cellK (b:Int) (sh st:List Int) (k:Int):Int:=b + dot (dig sh k) st sh.length
def offs (b:Int) (sh st:List Int):List Int:=(List.range (pr sh).toNat).map fun k:Nat=>cellK b sh st k
def vSt (st:List Int) (n:Nat):Bool:=decide (st.length=n) && allI st (-60) 60
def vV (b:Int) (sh st:List Int):Bool:=vSh sh && vSt st sh.length && (decide (0 ≤ b) && decide (b ≤ 60)) && (decide (pr sh=0) || allI (offs b sh st) 0 59)
def lowS (sh st:List Int):Nat → Int
  | 0=>0
  | k + 1=>lowS sh st k + min ((sh.getD k 0 - 1) * st.getD k 0) 0
def highS (sh st:List Int):Nat → Int
  | 0=>0
  | k + 1=>highS sh st k + max ((sh.getD k 0 - 1) * st.getD k 0) 0
def bdL (b:Int) (sh st:List Int):Int:=if pr sh=0 then -1 else b + lowS sh st sh.length
def bdH (b:Int) (sh st:List Int):Int:=if pr sh=0 then -1 else b + highS sh st sh.length
def mnL (xs:List Int):Nat → Int
  | 0=>xs.getD 0 0
  | k + 1=>min (mnL xs k) (xs.getD k 0)
def mxL (xs:List Int):Nat → Int
  | 0=>xs.getD 0 0
  | k + 1=>max (mxL xs k) (xs.getD k 0)
end VwM
set_option linter.unusedVariables false
set_option linter.unusedSimpArgs false
set_option linter.unnecessarySimpa false
set_option maxRecDepth 4000
namespace VwM
open Vw
open Go

theorem mkAV_bools (bs:List Bool) (off:Nat):mkAV false (((bs.map AV.bool).drop off).take 1)=if off < bs.length then some (.bool (bs.getD off false)) else none:=by
  by_cases h:off < bs.length
  · rw [if_pos h,List.drop_eq_getElem_cons (by simpa using h)]
    simp [mkAV,h,List.getD]
  · rw [if_neg h,List.drop_eq_nil_of_le (by simp;omega)]
    rfl
theorem B4z (p:Nat → Bool) (bs:List Bool):innL p (bs.map AV.bool)=true:=by
  induction bs with
  | nil=>rfl
  | cons x r ih=>simp [innL,AV.inn,ih]
attribute [push_cast] mkAV_bools
def met (xs:List Int) (k:Nat):List Bool:=(List.range 60).map fun c:Nat=>decide ((c:Int) ∈ xs.take k)
def oneB (b:Int) (sh st:List Int):Bool:=vV b sh st && decide (offs b sh st).Nodup
end VwM
set_option linter.unusedVariables false
set_option linter.unusedSimpArgs false
set_option linter.unnecessarySimpa false
set_option maxRecDepth 4000
namespace VwM
open Vw
open Go

abbrev UL (bs:List Int):List AV:=bs.map (AV.int .u8)
abbrev RD (bs:List Int) (p:Int):List AV:=[.rows false (UL bs) bs.length,.int .i64 p]
def okB (bs:List Int):Prop:=bs.length ≤ 2000 ∧ ∀ x ∈ bs,0 ≤ x ∧ x ≤ 255
def unI:List AV → List Int
  | []=>[]
  | .int _ n :: r=>n :: unI r
  | _ :: r=>0 :: unI r
theorem unI_nil:unI []=[]:=rfl
theorem unI_cons (k:IntKind) (n:Int) (r:List AV):unI (.int k n :: r)=n :: unI r:=rfl
theorem unI_IL (xs:List Int):unI (IL xs)=xs:=by
  induction xs with
  | nil=>rfl
  | cons x r ih=>show x :: unI (IL r)=_;rw [ih]
attribute [simp] unI_nil unI_cons unI_IL
end VwM
set_option linter.unusedVariables false
set_option linter.unusedSimpArgs false
set_option linter.unnecessarySimpa false
set_option maxRecDepth 4000
namespace VwM
open Vw
open Go

def lenI (a b c:Int):Int:=if vR a b c=true then cntN a b c else -1
def nrR (a b c:Int):AV:=if vR a b c=true then PR a c (cntN a b c) else rng 0 0 0
def rvR (a b c:Int):AV:=if vR a b c=true then PR (a + ((cntN a b c:Int) - 1) * c) (0 - c) (cntN a b c) else rng 0 0 0
def plI (a b c x:Int):Int:=if vR a b c=true then placeI (nums a c (cntN a b c)) x else -1
def fromEnd (i n:Int):Int:=if i < 0 then i + n else i
def naB (a b c i:Int):Bool:=vR a b c && decide (0 ≤ fromEnd i (cntN a b c)) && decide (fromEnd i (cntN a b c) < cntN a b c)
def naI (a b c i:Int):Int:=if naB a b c i=true then a + fromEnd i (cntN a b c) * c else 0
end VwM
set_option linter.unusedVariables false
set_option linter.unusedSimpArgs false
set_option linter.unnecessarySimpa false
set_option maxRecDepth 4000
namespace VwM
open Vw
open Go

end VwM
set_option linter.unusedVariables false
set_option linter.unusedSimpArgs false
set_option linter.unnecessarySimpa false
set_option maxRecDepth 4000
namespace VwM
open Vw
open Go

end VwM
set_option linter.unusedVariables false
set_option linter.unusedSimpArgs false
set_option linter.unnecessarySimpa false
set_option maxRecDepth 4000
namespace VwM
open Vw
open Go

def sumT (xs:List Int):Nat → Int
  | 0=>0
  | k + 1=>sumT xs k + xs.getD k 0
def sumI (a b c:Int):Int:=if vR a b c=true then sumT (nums a c (cntN a b c)) (cntN a b c) else 0
def takesL (xs at_:List Int):List Int:=at_.map fun i=>xs.getD i.toNat 0
end VwM
set_option linter.unusedVariables false
set_option linter.unusedSimpArgs false
set_option maxRecDepth 4000
namespace VwM
open Vw
open Go

def wo (xs:List Int) (k:Nat):List Int:=xs.take k ++ xs.drop (k + 1)
end VwM
set_option linter.unusedVariables false
set_option linter.unusedSimpArgs false
set_option maxRecDepth 4000
namespace VwM
open Vw
open Go

def spS (b:Int) (sh st:List Int):Int:=if pr sh=0 then 0 else bdL b sh st
def spN (b:Int) (sh st:List Int):Nat:=if pr sh=0 then 0 else (bdH b sh st - bdL b sh st + 1).toNat
def mayB (b:Int) (sh st:List Int) (b':Int) (sh' st':List Int):Bool :=
  vV b sh st && vV b' sh' st' && decide (0 < (commL (nums (spS b sh st) 1 (spN b sh st)) (nums (spS b' sh' st') 1 (spN b' sh' st'))).length)
def bothL (xs ys:List Int):List Int:=(nums 0 1 60).filter fun x=>decide (x ∈ xs ∧ x ∈ ys)
def bothT (xs ys:List Int) (k:Nat):List Int:=(nums 0 1 k).filter fun x=>decide (x ∈ xs ∧ x ∈ ys)
def lineA (b:Int) (sh st:List Int):AV:=if vV b sh st=true ∧ sh.length=1 then nrmA (bothL (offs b sh st) (offs b sh st)) else rng 0 0 0
end VwM
set_option linter.unusedVariables false
set_option linter.unusedSimpArgs false
set_option linter.unnecessarySimpa false
set_option maxRecDepth 4000
namespace VwM
open Vw
open Go

end VwM
set_option linter.unusedVariables false
set_option linter.unusedSimpArgs false
set_option maxRecDepth 4000
namespace VwM
open Vw
open Go

def MVB (v:Bool) (b:Int):Int:=if v=true then b else 0
def MVL (v:Bool) (l:List Int):List Int:=if v=true then l else []
abbrev MV (v:Bool) (b:Int) (sh st:List Int):AV → List (List AV) → Prop:=fun r H' =>
  r=.tup [.agg [.int .i64 (MVB v b),.own 0 (MVL v sh).length 1,.own 1 (MVL v st).length 1],.bool v] ∧ H'=[IL (MVL v sh),IL (MVL v st)]

def ins (xs:List Int) (k:Nat) (x:Int):List Int:=xs.take k ++ x :: xs.drop k
def cutK (n f t w:Int) (hf ht:Bool):Nat:=cntN (sFrom f n w hf) (sTo t n w ht) w
def cutSh (sh:List Int) (j:Nat) (f t w:Int) (hf ht:Bool):List Int:=sh.set j (cutK (sh.getD j 0) f t w hf ht)
def cutX (sh st:List Int) (j:Nat) (f t w:Int) (hf ht:Bool):Int:=if (cutK (sh.getD j 0) f t w hf ht:Int) ≤ 1 then 0 else pC w (cutK (sh.getD j 0) f t w hf ht) * st.getD j 0
def cutSt (sh st:List Int) (j:Nat) (f t w:Int) (hf ht:Bool):List Int :=
  if pr (cutSh sh j f t w hf ht)=0 then List.replicate sh.length 0 else st.set j (cutX sh st j f t w hf ht)
def cutB (b:Int) (sh st:List Int) (j:Nat) (f t w:Int) (hf ht:Bool):Int :=
  if pr (cutSh sh j f t w hf ht)=0 then 0 else b + pS (sFrom f (sh.getD j 0) w hf) (cutK (sh.getD j 0) f t w hf ht) * st.getD j 0
end VwM
set_option linter.unusedVariables false
set_option linter.unusedSimpArgs false
set_option maxRecDepth 4000
namespace VwM
open Vw
open Go

def isLine (b:Int) (L:List Int) (k:Nat):Bool:=(List.range k).all fun j=>decide (L.getD j 0=b + (j:Int))
end VwM
set_option linter.unusedVariables false
set_option linter.unusedSimpArgs false
set_option linter.unnecessarySimpa false
set_option maxRecDepth 4000
namespace VwM
open Vw
open Go

theorem take3 (xs:List Int) (off:Nat) (h:off + 3 ≤ xs.length):((xs.map (AV.int .i64)).drop off).take 3=[.int .i64 (xs.getD off 0),.int .i64 (xs.getD (off + 1) 0),.int .i64 (xs.getD (off + 2) 0)]:=by
  rw [List.drop_eq_getElem_cons (by simp;omega),List.drop_eq_getElem_cons (by simp;omega),List.drop_eq_getElem_cons (by simp;omega)]
  have h1:off < xs.length:=by omega
  have h2:off + 1 < xs.length:=by omega
  have h3:off + 2 < xs.length:=by omega
  have e3:off + 1 + 1=off + 2:=rfl
  simp only [e3]
  simp [h1,h2,h3,List.getD]
attribute [push_cast] take3
def fl3 (f:Nat → Int × Int × Int):Nat → List Int
  | 0=>[]
  | k + 1=>fl3 f k ++ [(f k).1,(f k).2.1,(f k).2.2]
def fz3 (f:Nat → Int × Int × Int) (n k:Nat):List Int:=fl3 f k ++ List.replicate ((n - k) * 3) 0
def dealF (a b c w:Int) (k:Nat):Int × Int × Int :=
  let m:Nat:=cntN k (cntN a b c) w
  (pS (a + (k:Int) * c) m,pE (a + (k:Int) * c) (c * w) m,pC (c * w) m)
def dealL (a b c w:Int):List Int:=if vR a b c=true ∧ 1 ≤ w ∧ w ≤ 6 then fl3 (dealF a b c w) w.toNat else []
def dealN (a b c w:Int):Nat:=if vR a b c=true ∧ 1 ≤ w ∧ w ≤ 6 then w.toNat else 0
theorem zcells3_1:zcells [AV.int .i64 0,.int .i64 0,.int .i64 0] 1=[AV.int .i64 0,.int .i64 0,.int .i64 0]:=rfl
attribute [push_cast] zcells3_1
end VwM
set_option linter.unusedVariables false
set_option linter.unusedSimpArgs false
set_option maxRecDepth 4000
namespace VwM
open Vw
open Go

theorem take2 (xs:List Int) (off:Nat) (h:off + 2 ≤ xs.length):((xs.map (AV.int .i64)).drop off).take 2=[.int .i64 (xs.getD off 0),.int .i64 (xs.getD (off + 1) 0)]:=by
  rw [List.drop_eq_getElem_cons (by simp;omega),List.drop_eq_getElem_cons (by simp;omega)]
  have h1:off < xs.length:=by omega
  have h2:off + 1 < xs.length:=by omega
  simp [h1,h2,List.getD]
theorem take2_0 (xs:List Int) (h:2 ≤ xs.length):(xs.map (AV.int .i64)).take 2=[.int .i64 (xs.getD 0 0),.int .i64 (xs.getD 1 0)]:=by
  have:=take2 xs 0 (by omega)
  rwa [List.drop_zero] at this
attribute [push_cast] take2 take2_0
def dm:List Int → List Int → List Int
  | e :: sh,s :: st=>e :: s :: dm sh st
  | _,_=>[]
theorem zcells2_1:zcells [AV.int .i64 0,.int .i64 0] 1=[AV.int .i64 0,.int .i64 0]:=rfl
attribute [push_cast] zcells2_1
def dmS (e s:Int):Int:=if e < 2 then 0 else s
end VwM
set_option linter.unusedVariables false
set_option linter.unusedSimpArgs false
set_option maxRecDepth 4000
namespace VwM
open Vw
open Go

def hasAll (xs:List Int) (k:Nat):Bool:=(List.range k).all fun d:Nat=>decide ((d:Int) ∈ xs)
end VwM
set_option linter.unusedVariables false
set_option linter.unusedSimpArgs false
set_option maxRecDepth 4000
namespace VwM
open Vw
open Go

def permL (xs order:List Int):List Int:=order.map fun i=>xs.getD i.toNat 0
def isOrd (order:List Int) (n:Nat):Prop:=order.length=n ∧ (∀ x ∈ order,0 ≤ x ∧ x ≤ (n:Int) - 1) ∧ order.Nodup
def sumL:List Int → Int
  | []=>0
  | x :: r=>x + sumL r
def invO (order:List Int) (d:Nat):Nat:=order.idxOf (d:Int)
def mixP (xs order:List Int) (k:Nat):List Int:=permL xs (order.take k) ++ xs.drop k
def at4 (a b c d:Int):Nat → Int
  | 0=>a
  | 1=>b
  | 2=>c
  | 3=>d
  | _=>0
end VwM
set_option linter.unusedVariables false
set_option linter.unusedSimpArgs false
namespace VwM
open Vw Go

def vMem (mem:List Int):Bool:=decide (mem.length ≤ 60) && allI mem 0 255
def seeB (mem:List Int) (b:Int) (sh st:List Int):Bool:=vMem mem && vV b sh st && allI (offs b sh st) 0 ((mem.length:Int) - 1)

def wdt (sh st:List Int):Nat:=if sh.length=0 then 1 else if st.getD (sh.length - 1) 0=1 then (sh.getD (sh.length - 1) 0).toNat else 1


def putK (mem cells vals:List Int):Nat → List Int
  | 0=>mem
  | k + 1=>(putK mem cells vals k).set (cells.getD k 0).toNat (vals.getD k 0)
def putL (mem cells vals:List Int):List Int:=putK mem cells vals cells.length
def carK (mem to fr:List Int):Nat → List Int
  | 0=>mem
  | k + 1=>(carK mem to fr k).set (to.getD k 0).toNat ((carK mem to fr k).getD (fr.getD k 0).toNat 0)
def carL (mem to fr:List Int):List Int:=carK mem to fr fr.length
def addK (mem cells vals:List Int):Nat → List Int
  | 0=>mem
  | k + 1=>(addK mem cells vals k).set (cells.getD k 0).toNat (((addK mem cells vals k).getD (cells.getD k 0).toNat 0 + vals.getD k 0).tmod 256)
def addL (mem cells vals:List Int):List Int:=addK mem cells vals cells.length
def rvK (xs:List Int) (k:Nat):List Int:=(List.range xs.length).map fun i=>if i < k ∨ xs.length ≤ i + k then xs.getD (xs.length - 1 - i) 0 else xs.getD i 0

def mtL (xs ys:List Int):Bool:=(List.range xs.length).any fun i=>decide (xs.getD i 0 ∈ ys.drop (i + 1))
def chK (a b:List Int):Nat → List Int
  | 0=>[]
  | k + 1=>if a.getD k 0=b.getD k 0 then chK a b k else chK a b k ++ [(k:Int)]
def chL (a b:List Int):List Int:=chK a b a.length
end VwM
set_option linter.unusedVariables false
set_option linter.unusedSimpArgs false
namespace VwM
open Vw Go

def rpt (c:List Int):Nat → List Int
  | 0=>[]
  | n + 1=>c ++ rpt c n
def rpK (c z:List Int) (k n:Nat):List Int:=rpt c n ++ rpt z (k - n)
theorem E6z:∀ (l a b d:List AV),l.length=b.length → setRange (a ++ (b ++ d)) a.length l=a ++ (l ++ d)
  | [],a,[],d,_=>rfl
  | x :: l,a,y :: b,d,h=>by
    simp only [setRange]
    have e:(a ++ (y :: b ++ d)).set a.length x=(a ++ [x]) ++ (b ++ d):=by
      rw [List.set_append_right _ _ (Nat.le_refl _)]
      simp
    rw [e]
    have:=E6z l (a ++ [x]) b d (by simpa using h)
    rw [List.length_append,List.length_singleton] at this
    rw [this]
    simp
  | [],_,_ :: _,_,h=>by simp at h
  | _ :: _,_,[],_,h=>by simp at h
end VwM
set_option linter.unusedVariables false
set_option linter.unusedSimpArgs false
set_option maxRecDepth 4000
namespace VwM
open Vw
open Go

def Tal (L:List ME) (c:Nat) (f:Int → Nat):Prop :=
  (∀ k,mget L k=(f k:Int)) ∧ (∀ k,mhas L k=true ↔ 0 < f k) ∧ (L.map (·.1)).Nodup ∧ (L.map (·.2.2)).Nodup ∧ ∀ p ∈ L,p.2.2 < c
def cnt (xs:List Int) (k:Int):Nat:=xs.count k
def addF (f g:Int → Nat) (k:Int):Nat:=f k + g k

def Seen (L V:List ME):Prop:=(V.map (·.2.2)).Nodup ∧ ∀ p ∈ V,p ∈ L
def pickT (t:Int) (V:List ME):List Int:=(V.filter fun p=>decide (t ≤ p.2.1)).map (·.1)
def atL (f:Int → Nat) (t:Nat):List Int:=(nums 0 1 60).filter fun x=>decide (t ≤ f x)
abbrev Vw3:=Int × List Int × List Int
def VLs:List Vw3 → List AV
  | []=>[]
  | v :: r=>.int .i64 v.1 :: RI v.2.1 :: RI v.2.2 :: VLs r
def allO (vs:List Vw3):List Int:=vs.flatMap fun v=>offs v.1 v.2.1 v.2.2
theorem Eyz (p:Nat → Bool):∀ xs:List Int,innL p (IL xs)=true
  | []=>rfl
  | x :: r=>by
    have:=Eyz p r
    simp only [IL,List.map_cons,innL,AV.inn,Bool.true_and]
    exact this
theorem ren_VLs {ρ:Nat → Option Nat} {Zh:Nat → Option (List AV)} {n:Nat}:∀ vs:List Vw3,(VLs vs).map (AV.ren ρ Zh false phiD (n + 2))=VLs vs
  | []=>rfl
  | v :: r=>by
    simp only [VLs,List.map_cons,ren_VLs r,List.cons.injEq,and_true]
    refine ⟨rfl,?_,?_⟩<;>simp [AV.ren,phiD]
attribute [push_cast] ren_VLs
abbrev repL (xs:List Int):List Int:=atL (cnt xs) 2
def ovB (b:Int) (sh st:List Int) (b':Int) (sh' st':List Int):Bool:=vV b sh st && vV b' sh' st'
def doB (b:Int) (sh st:List Int) (b':Int) (sh' st':List Int):Bool:=decide (0 < (MVL (ovB b sh st b' sh' st') (bothL (offs b sh st) (offs b' sh' st'))).length)
def atT (f:Int → Nat) (t:Nat) (k:Nat):List Int:=(nums 0 1 k).filter fun x=>decide (t ≤ f x)
def inclB (ys xs:List Int):Bool:=decide (∀ x ∈ ys,x ∈ xs)
def coB (b:Int) (sh st:List Int) (b':Int) (sh' st':List Int):Bool:=ovB b sh st b' sh' st' && inclB (offs b' sh' st') (offs b sh st)
def wiP (d:Bool) (O O':List Int):AV:=if d=true then .tup [.int .i64 (placeI O ((bothL O O').getD 0 0)),.int .i64 (placeI O' ((bothL O O').getD 0 0)),.bool true] else .tup [.int .i64 (-1),.int .i64 (-1),.bool false]
end VwM
set_option linter.unusedSectionVars false
set_option linter.unusedVariables false
set_option linter.unusedSimpArgs false
namespace VwM
open Go Vw

abbrev Tn:=List Int × List Int
def TL (b:Bool):List Tn → List AV
  | []=>[]
  | t :: r=>.rows b (IL t.1) t.1.length :: .rows b (IL t.2) t.2.length :: TL b r
def LL (b:Bool):List (List Int) → List AV
  | []=>[]
  | l :: r=>.rows b (IL l) l.length :: LL b r
theorem Bez (b:Bool):∀ ts:List Tn,(TL b ts).length=ts.length * 2
  | []=>rfl
  | t :: r=>by simp only [TL,List.length_cons,Bez b r];omega
theorem A3z (b:Bool):∀ ls:List (List Int),(LL b ls).length=ls.length
  | []=>rfl
  | l :: r=>by simp only [LL,List.length_cons,A3z b r]
theorem TL_append (b:Bool):∀ ts us:List Tn,TL b (ts ++ us)=TL b ts ++ TL b us
  | [],_=>rfl
  | t :: r,us=>by simp only [List.cons_append,TL,TL_append b r us]
theorem Gmz (b:Bool):∀ ts us:List (List Int),LL b (ts ++ us)=LL b ts ++ LL b us
  | [],_=>rfl
  | t :: r,us=>by simp only [List.cons_append,LL,Gmz b r us]
theorem C7z (b:Bool):∀ (ts:List Tn) (i:Nat) {t:Tn},ts[i]?=some t → ((TL b ts).drop (i * 2)).take 2=[.rows b (IL t.1) t.1.length,.rows b (IL t.2) t.2.length]
  | [],_,_,h=>by simp at h
  | w :: r,0,v,h=>by simp at h;subst h;simp [TL]
  | w :: r,i + 1,v,h=>by
    rw [show (i + 1) * 2=i * 2 + 1 + 1 by omega]
    simp only [TL,List.drop_succ_cons]
    exact C7z b r i (by simpa using h)
theorem Bnz (b:Bool):∀ (ls:List (List Int)) (i:Nat) {l:List Int},ls[i]?=some l → ((LL b ls).drop i).take 1=[.rows b (IL l) l.length]
  | [],_,_,h=>by simp at h
  | w :: r,0,v,h=>by simp at h;subst h;simp [LL]
  | w :: r,i + 1,v,h=>by
    simp only [LL,List.drop_succ_cons]
    exact Bnz b r i (by simpa using h)
theorem Abz (b:Bool) (p:Nat → Bool):∀ ts:List Tn,innL p (TL b ts)=true
  | []=>rfl
  | v :: r=>by
    simp only [TL,innL,AV.inn,Abz b p r,Bool.and_true,Bool.true_and,Bool.and_eq_true]
    exact ⟨Eyz _ _,Eyz _ _⟩
theorem Aaz (b:Bool) (p:Nat → Bool):∀ ls:List (List Int),innL p (LL b ls)=true
  | []=>rfl
  | v :: r=>by
    simp only [LL,innL,AV.inn,Aaz b p r,Bool.and_true,Bool.true_and,Bool.and_eq_true]
    exact Eyz _ _
section
variable {ρ:Nat → Option Nat} {Zh:Nat → Option (List AV)} {n:Nat} {b0:Bool} {φ:Bool → Option Bool}
theorem ren_IL (xs:List Int):(IL xs).map (AV.ren ρ Zh b0 φ (n + 1))=IL xs:=by unfold IL;rw [List.map_map];rfl
theorem ren_TL {b c:Bool} (h:φ b=some c):∀ ts:List Tn,(TL b ts).map (AV.ren ρ Zh b0 φ (n + 2))=TL c ts
  | []=>rfl
  | v :: r=>by
    simp only [TL,List.map_cons,ren_TL h r,List.cons.injEq,and_true]
    constructor<;>simp only [AV.ren,h,ren_IL]
theorem ren_LL {b c:Bool} (h:φ b=some c):∀ ls:List (List Int),(LL b ls).map (AV.ren ρ Zh b0 φ (n + 2))=LL c ls
  | []=>rfl
  | v :: r=>by
    simp only [LL,List.map_cons,ren_LL h r,List.cons.injEq,and_true]
    simp only [AV.ren,h,ren_IL]
theorem ren_TLD (b:Bool) (ts:List Tn):(TL b ts).map (AV.ren ρ Zh b0 phiD (n + 2))=TL false ts:=ren_TL (by cases b<;>rfl) ts
theorem ren_LLD (b:Bool) (ts:List (List Int)):(LL b ts).map (AV.ren ρ Zh b0 phiD (n + 2))=LL false ts:=ren_LL (by cases b<;>rfl) ts
theorem ren_TLU (sh:Bool) (ts:List Tn):(TL true ts).map (AV.ren ρ Zh b0 (phiU sh) (n + 2))=TL true ts:=ren_TL (by rfl) ts
theorem ren_LLU (sh:Bool) (ts:List (List Int)):(LL true ts).map (AV.ren ρ Zh b0 (phiU sh) (n + 2))=LL true ts:=ren_LL (by rfl) ts
theorem ren_TLV (b:Bool) (ts:List Tn):(TL b ts).map (AV.ren ρ Zh b0 (phiU true) (n + 2))=TL b ts:=ren_TL (by cases b<;>rfl) ts
theorem ren_LLV (b:Bool) (ts:List (List Int)):(LL b ts).map (AV.ren ρ Zh b0 (phiU true) (n + 2))=LL b ts:=ren_LL (by cases b<;>rfl) ts
theorem ren_TLs (b:Bool) (ts:List Tn):(TL b ts).map (AV.ren ρ Zh b0 some (n + 2))=TL b ts:=ren_TL (by rfl) ts
theorem ren_LLs (b:Bool) (ts:List (List Int)):(LL b ts).map (AV.ren ρ Zh b0 some (n + 2))=LL b ts:=ren_LL (by rfl) ts
end
attribute [push_cast] ren_TLD ren_LLD ren_TLU ren_LLU ren_TLV ren_LLV ren_TLs ren_LLs Bez A3z

theorem fz_IL {H:Nat → Option (List AV)} {n:Nat} (xs:List Int):(IL xs).map (AV.fz H (n + 1))=IL xs:=by unfold IL;rw [List.map_map];rfl
theorem fz_TL {H:Nat → Option (List AV)} {n:Nat} (b:Bool):∀ ts:List Tn,(TL b ts).map (AV.fz H (n + 2))=TL b ts
  | []=>rfl
  | v :: r=>by
    simp only [TL,List.map_cons,fz_TL b r,List.cons.injEq,and_true]
    constructor<;>simp only [AV.fz,fz_IL]
theorem fz_LL {H:Nat → Option (List AV)} {n:Nat} (b:Bool):∀ ls:List (List Int),(LL b ls).map (AV.fz H (n + 2))=LL b ls
  | []=>rfl
  | v :: r=>by
    simp only [LL,List.map_cons,fz_LL b r,List.cons.injEq,and_true]
    simp only [AV.fz,fz_IL]
attribute [push_cast] fz_TL fz_LL
theorem Bcz {s:S} {t id:Nat} {e:List Int} {r:List ARes} {l:List AV} (h1:s.σ t=.ref id 5 0) (h2:s.H id=some (e.map (AV.int .i64))) (he:e.length=5) (hr:aresL s r=some l):aresL s (.cell t true 5 :: r)=some (.agg (e.map (AV.int .i64)) :: l):=by
  have h3:ares s (.cell t true 5)=some (.agg (e.map (AV.int .i64))):=by
    simp only [ares,h1,loadAV,h2,List.length_map,he]
    rw [if_pos (by simp),List.drop_zero,List.take_of_length_le (by simp [he])]
    rfl
  simp only [aresL,h3,hr]


def extG:List Int → List (Int × Int) → Option (List Int)
  | e,[]=>some e
  | e,p :: r=>if 0 ≤ e.getD p.1.toNat 0 ∧ e.getD p.1.toNat 0 ≠ p.2 then none else extG (e.set p.1.toNat p.2) r
def ext0:List Int:=[-1,-1,-1,-1,-1]
def prsOf (ts:List Tn) (ls:List (List Int)):List (Int × Int):=(ls.zip ts).flatMap fun p=>p.1.zip p.2.1
def labOk (ts:List Tn) (ls:List (List Int)):Bool:=(ls.zip ts).all fun p=>decide (p.1.length=p.2.1.length) && allI p.1 0 4
def exT (ts:List Tn) (ls:List (List Int)):Option (List Int):=if labOk ts ls=true then extG ext0 (prsOf ts ls) else none
def vT (t:Tn):Bool:=vSh t.1 && decide ((t.2.length:Int)=pr t.1) && allI t.2 (-1000000) 1000000
def exO (ts:List Tn) (ls:List (List Int)):Option (List Int):=if (ts.all vT && (decide (1 ≤ ts.length) && decide (ts.length ≤ 3)) && decide (ls.length=ts.length))=true then exT ts ls else none
theorem D8z:∀ (a b:List (Int × Int)) (e:List Int),extG e (a ++ b)=(extG e a).bind fun e'=>extG e' b
  | [],b,e=>rfl
  | p :: r,b,e=>by
    simp only [List.cons_append,extG]
    split
    · rfl
    · exact D8z r b _
theorem extG_len:∀ (a:List (Int × Int)) {e e':List Int},extG e a=some e' → e'.length=e.length
  | [],e,e',h=>by simp only [extG] at h;injection h with h;rw [h]
  | p :: r,e,e',h=>by
    simp only [extG] at h
    split at h
    · cases h
    · have:=extG_len r h;rw [List.length_set] at this;exact this
theorem extG_spec:∀ (a:List (Int × Int)) {e e':List Int} (k:Nat),k < e.length → (∀ p ∈ a,0 ≤ p.1 ∧ p.1 < e.length ∧ 0 ≤ p.2) → extG e a=some e' →
    (∀ p ∈ a,p.1=k → e'.getD k 0=p.2) ∧ ((∀ p ∈ a,p.1 ≠ k) → e'.getD k 0=e.getD k 0) ∧ (0 ≤ e.getD k 0 → e'.getD k 0=e.getD k 0)
  | [],e,e',k,hk,_,h=>by simp only [extG] at h;injection h with h;subst h;simp
  | p :: r,e,e',k,hk,hp,h=>by
    simp only [extG] at h
    split at h
    · cases h
    · rename_i hc
      have hpp:=hp p (by simp)
      obtain ⟨i1,i2,i3⟩:=extG_spec r (e:=e.set p.1.toNat p.2) k (by rw [List.length_set];exact hk) (fun q hq=>by rw [List.length_set];exact hp q (by simp [hq])) h
      have hg:(e.set p.1.toNat p.2).getD k 0=if p.1.toNat=k then p.2 else e.getD k 0:=by
        simp only [List.getD_eq_getElem?_getD,List.getElem?_set]
        by_cases hpk:p.1.toNat=k
        · subst hpk
          rw [if_pos rfl,if_pos rfl,if_pos hk];rfl
        · rw [if_neg hpk,if_neg hpk]
      rw [hg] at i2 i3
      have h3:p.1.toNat=k → e'.getD k 0=p.2:=fun he=>by
        rw [if_pos he] at i3
        exact i3 hpp.2.2
      refine ⟨fun q hq hqk=>?_,fun hn=>?_,fun h0=>?_⟩
      · rcases List.mem_cons.1 hq with rfl|hq
        · exact h3 (by omega)
        · exact i1 q hq hqk
      · have hpk:¬ p.1.toNat=k:=fun he=>hn p (by simp) (by omega)
        rw [if_neg hpk] at i2
        exact i2 fun q hq=>hn q (by simp [hq])
      · by_cases hpk:p.1.toNat=k
        · rw [h3 hpk]
          rw [hpk] at hc
          by_cases hx:e.getD k 0=p.2
          · exact hx.symm
          · exact absurd ⟨h0,hx⟩ hc
        · rw [if_neg hpk] at i3
          exact i3 h0
end VwM
set_option linter.unusedSectionVars false
set_option linter.unusedVariables false
set_option linter.unusedSimpArgs false
namespace VwM
open Go Vw

theorem set5 {e:List Int} (he:e.length=5) (a b c d f:AV):setRange [a,b,c,d,f] 0 (e.map (AV.int .i64))=e.map (AV.int .i64):=by
  match e,he with
  | [_,_,_,_,_],_=>rfl
theorem tak5 {e:List Int} (he:e.length=5):(e.map (AV.int .i64)).take 5=e.map (AV.int .i64):=List.take_of_length_le (by simp [he])

def mkL (L:List Int):List Bool:=(List.range 5).map fun c:Nat=>decide ((c:Int) ∈ L)
theorem Gvz (L:List Int):(mkL L).length=5:=by simp [mkL]
theorem mkL_nil:(mkL []).map AV.bool=[AV.bool false,AV.bool false,AV.bool false,AV.bool false,AV.bool false]:=rfl
theorem mkL_set {L:List Int} {c:Int} (h:0 ≤ c ∧ c ≤ 4):(mkL L).set c.toNat true=mkL (L ++ [c]):=by
  refine List.ext_getElem? fun i=>?_
  simp only [mkL,List.getElem?_set,List.length_map,List.length_range,List.getElem?_map]
  by_cases hi:i < 5
  · rw [List.getElem?_range hi]
    by_cases hc:c.toNat=i
    · rw [if_pos hc,if_pos (by omega)]
      have:(i:Int)=c:=by omega
      simp [this]
    · rw [if_neg hc]
      have:¬ (i:Int)=c:=by omega
      simp [this]
  · rw [List.getElem?_eq_none (by simp;omega)]
    have hc:¬ c.toNat=i:=by omega
    rw [if_neg hc];rfl
theorem mkL_getD {L:List Int} {k:Nat} (h:k < 5):(mkL L).getD k false=decide ((k:Int) ∈ L):=by
  simp [mkL,List.getD,h]
def lbT (L:List Int) (k:Nat):List Int:=((List.range k).map Int.ofNat).filter fun x=>decide (x ∈ L)
abbrev lbS (L:List Int):List Int:=lbT L 5
theorem lbT_zero (L:List Int):lbT L 0=[]:=rfl
theorem lbT_yes {L:List Int} {k:Nat} (h:(k:Int) ∈ L):lbT L (k + 1)=lbT L k ++ [(k:Int)]:=by
  simp [lbT,List.range_succ,h]
theorem lbT_no {L:List Int} {k:Nat} (h:(k:Int) ∉ L):lbT L (k + 1)=lbT L k:=by
  simp [lbT,List.range_succ,h]
theorem lbT_len (L:List Int) (k:Nat):(lbT L k).length ≤ k:=by
  unfold lbT
  exact Nat.le_trans (List.length_filter_le ..) (by simp)
def good9 (xs:List Int):Prop:=(∀ x ∈ xs,0 ≤ x ∧ x ≤ 60) ∧ xs.length ≤ 6
def gE (e:List Int) (k:Int):Int:=e.getD k.toNat 0
def spE (e:List Int):List Int:=e.map fun x=>if x < 0 then 1 else x
theorem Hgz {ts:List Tn} {ls:List (List Int)} {i:Nat} {t:Tn} {l:List Int} (ht:ts[i]?=some t) (hl:ls[i]?=some l):prsOf (ts.take (i + 1)) (ls.take (i + 1))=prsOf (ts.take i) (ls.take i) ++ l.zip t.1:=by
  have hi:i < ts.length:=by rcases Nat.lt_or_ge i ts.length with h|h;exact h;rw [List.getElem?_eq_none h] at ht;cases ht
  have hi':i < ls.length:=by rcases Nat.lt_or_ge i ls.length with h|h;exact h;rw [List.getElem?_eq_none h] at hl;cases hl
  have e:(ls.take (i + 1)).zip (ts.take (i + 1))=(ls.take i).zip (ts.take i) ++ [(l,t)]:=by
    rw [List.take_add_one,List.take_add_one,ht,hl]
    simp only [Option.toList_some]
    rw [List.zip_append (by simp;omega)]
    rfl
  unfold prsOf
  rw [e,List.flatMap_append]
  simp
theorem Ebz {l x:List Int} {j:Nat} (h1:j < l.length) (h2:j < x.length):(l.zip x).take (j + 1)=(l.zip x).take j ++ [(l.getD j 0,x.getD j 0)]:=by
  rw [List.take_add_one]
  congr 1
  have h3:(l.zip x)[j]?=some (l.getD j 0,x.getD j 0):=by
    rw [List.getElem?_zip_eq_some];simp [List.getD,h1,h2]
  rw [h3];rfl
theorem extG_fail {a b:List (Int × Int)} {e e':List Int} {p:Int × Int} (h:extG e a=some e') (hp:0 ≤ e'.getD p.1.toNat 0 ∧ e'.getD p.1.toNat 0 ≠ p.2):extG e (a ++ p :: b)=none:=by
  rw [D8z,h]
  simp only [Option.bind_some,extG]
  rw [if_pos hp]
theorem extG_step {a:List (Int × Int)} {e e':List Int} {p:Int × Int} (h:extG e a=some e') (hp:¬ (0 ≤ e'.getD p.1.toNat 0 ∧ e'.getD p.1.toNat 0 ≠ p.2)):extG e (a ++ [p])=some (e'.set p.1.toNat p.2):=by
  rw [D8z,h]
  simp only [Option.bind_some,extG]
  rw [if_neg hp]
theorem zip_split {l x:List Int} {j:Nat} (h1:j < l.length) (h2:j < x.length):l.zip x=(l.zip x).take j ++ (l.getD j 0,x.getD j 0) :: (l.zip x).drop (j + 1):=by
  have h3:j < (l.zip x).length:=by simp;omega
  have h4:(l.zip x)[j]=(l.getD j 0,x.getD j 0):=by simp [List.getD,h1,h2]
  rw [← h4,List.getElem_cons_drop,List.take_append_drop]
theorem prs_split {ts:List Tn} {ls:List (List Int)} {i:Nat} {t:Tn} {l:List Int} (ht:ts[i]?=some t) (hl:ls[i]?=some l):∃ r,prsOf ts ls=prsOf (ts.take i) (ls.take i) ++ (l.zip t.1 ++ r):=by
  have hi:i < ts.length:=by rcases Nat.lt_or_ge i ts.length with h|h;exact h;rw [List.getElem?_eq_none h] at ht;cases ht
  have hi':i < ls.length:=by rcases Nat.lt_or_ge i ls.length with h|h;exact h;rw [List.getElem?_eq_none h] at hl;cases hl
  refine ⟨prsOf (ts.drop (i + 1)) (ls.drop (i + 1)),?_⟩
  rw [← List.append_assoc,← Hgz ht hl]
  unfold prsOf
  rw [← List.flatMap_append,← List.zip_append (by simp;omega),List.take_append_drop,List.take_append_drop]
theorem exT_fail {ts:List Tn} {ls:List (List Int)} {i j:Nat} {t:Tn} {l e:List Int} (ht:ts[i]?=some t) (hl:ls[i]?=some l) (h1:j < l.length) (h2:j < t.1.length)
    (he:extG ext0 (prsOf (ts.take i) (ls.take i) ++ (l.zip t.1).take j)=some e) (hp:0 ≤ e.getD (l.getD j 0).toNat 0 ∧ e.getD (l.getD j 0).toNat 0 ≠ t.1.getD j 0):exT ts ls=none:=by
  unfold exT
  split
  · obtain ⟨r,hr⟩:=prs_split ht hl
    rw [hr,zip_split h1 h2,List.append_assoc,List.cons_append,← List.append_assoc]
    exact extG_fail he hp
  · rfl
theorem exT_lab {ts:List Tn} {ls:List (List Int)} {i:Nat} {t:Tn} {l:List Int} (ht:ts[i]?=some t) (hl:ls[i]?=some l) (h:(decide (l.length=t.1.length) && allI l 0 4)=false):exT ts ls=none:=by
  unfold exT
  rw [if_neg]
  intro hc
  have hm:(l,t) ∈ ls.zip ts:=List.mem_of_getElem? (i:=i) (by rw [List.getElem?_zip_eq_some];exact ⟨hl,ht⟩)
  have:=List.all_eq_true.1 hc _ hm
  rw [h] at this;cases this
theorem exT_done {ts:List Tn} {ls:List (List Int)} {e:List Int} (hlen:ls.length=ts.length) (hall:∀ (i:Nat) (t:Tn) (l:List Int),ts[i]?=some t → ls[i]?=some l → l.length=t.1.length ∧ allI l 0 4=true)
    (he:extG ext0 (prsOf (ts.take ts.length) (ls.take ts.length))=some e):exT ts ls=some e:=by
  unfold exT
  rw [if_pos,← he,List.take_length,← hlen,List.take_length]
  refine List.all_eq_true.2 fun p hp=>?_
  obtain ⟨i,hi⟩:=List.mem_iff_getElem?.1 hp
  obtain ⟨a,b⟩:=List.getElem?_zip_eq_some.1 hi
  obtain ⟨c,d⟩:=hall i _ _ b a
  simp [c,d]
theorem B5z:ext0.length=5:=rfl
theorem exT_facts {ts:List Tn} {ls:List (List Int)} {e:List Int} (hlen:ls.length=ts.length) (hsh:∀ t ∈ ts,vSh t.1=true) (h:exT ts ls=some e) :
    e.length=5 ∧ (∀ k:Nat,k < 5 → (k:Int) ∉ ls.flatten → e.getD k 0 < 0) ∧ (∀ k:Nat,k < 5 → (k:Int) ∈ ls.flatten → 0 ≤ e.getD k 0 ∧ e.getD k 0 ≤ 60) ∧ (∀ k:Nat,k < 5 → -1 ≤ e.getD k 0) ∧
    (∀ x ∈ ls.flatten,0 ≤ x ∧ x ≤ 4) ∧ ∀ (i:Nat) (t:Tn) (l:List Int),ts[i]?=some t → ls[i]?=some l → l.length=t.1.length ∧ ∀ j,j < l.length → gE e (l.getD j 0)=t.1.getD j 0:=by
  unfold exT at h
  split at h
  case isFalse=>cases h
  rename_i hok
  have h5:=extG_len _ h
  have hlab:∀ (i:Nat) (t:Tn) (l:List Int),ts[i]?=some t → ls[i]?=some l → l.length=t.1.length ∧ ∀ x ∈ l,0 ≤ x ∧ x ≤ 4:=fun i t l ht hl=>by
    have hm:(l,t) ∈ ls.zip ts:=List.mem_of_getElem? (i:=i) (by rw [List.getElem?_zip_eq_some];exact ⟨hl,ht⟩)
    have:=List.all_eq_true.1 hok _ hm
    rw [Bool.and_eq_true,decide_eq_true_eq,Cfz] at this
    exact this
  have hpm:∀ p,p ∈ prsOf ts ls ↔ ∃ (i:Nat) (t:Tn) (l:List Int) (j:Nat),ts[i]?=some t ∧ ls[i]?=some l ∧ j < l.length ∧ p=(l.getD j 0,t.1.getD j 0):=fun p=>by
    unfold prsOf
    rw [List.mem_flatMap]
    constructor
    · rintro ⟨⟨l,t⟩,hm,hp⟩
      obtain ⟨i,hi⟩:=List.mem_iff_getElem?.1 hm
      obtain ⟨a,b⟩:=List.getElem?_zip_eq_some.1 hi
      obtain ⟨j,hj⟩:=List.mem_iff_getElem?.1 hp
      obtain ⟨c,d⟩:=List.getElem?_zip_eq_some.1 hj
      have hjl:j < l.length:=(List.getElem?_eq_some_iff.1 c).1
      refine ⟨i,t,l,j,b,a,hjl,?_⟩
      have c':l[j]?=some p.1:=c
      have d':t.1[j]?=some p.2:=d
      simp [List.getD_eq_getElem?_getD,c',d']
    · rintro ⟨i,t,l,j,ht,hl,hj,rfl⟩
      have hll:=(hlab i t l ht hl).1
      refine ⟨(l,t),List.mem_of_getElem? (i:=i) (by rw [List.getElem?_zip_eq_some];exact ⟨hl,ht⟩),?_⟩
      refine List.mem_of_getElem? (i:=j) ?_
      rw [List.getElem?_zip_eq_some]
      constructor
      · simp [List.getD,hj]
      · simp [List.getD,show j < t.1.length by omega]
  have hshp:∀ t ∈ ts,∀ j,j < t.1.length → 0 ≤ t.1.getD j 0 ∧ t.1.getD j 0 ≤ 60:=fun t ht j hj=>(Ecz (hsh t ht)).1.1 _ (C2z hj)
  have hb:∀ p ∈ prsOf ts ls,(0 ≤ p.1 ∧ p.1 < ext0.length ∧ 0 ≤ p.2):=fun p hp=>by
    obtain ⟨i,t,l,j,ht,hl,hj,rfl⟩:=(hpm p).1 hp
    obtain ⟨a,b⟩:=hlab i t l ht hl
    have:=b _ (C2z hj)
    have h2:=hshp t (List.mem_of_getElem? ht) j (by omega)
    exact ⟨this.1,by rw [B5z];omega,h2.1⟩
  have hs:=fun k hk=>extG_spec (prsOf ts ls) (e:=ext0) (e':=e) k hk hb h
  have h0:∀ k:Nat,k < 5 → ext0.getD k 0=-1:=fun k hk=>by
    have:k=0 ∨ k=1 ∨ k=2 ∨ k=3 ∨ k=4:=by omega
    rcases this with rfl|rfl|rfl|rfl|rfl<;>rfl
  have hmf:∀ x,x ∈ ls.flatten ↔ ∃ p ∈ prsOf ts ls,p.1=x:=fun x=>by
    rw [List.mem_flatten]
    constructor
    · rintro ⟨l,hl,hx⟩
      obtain ⟨i,hi⟩:=List.mem_iff_getElem?.1 hl
      obtain ⟨j,hj,e⟩:=Ffz.1 hx
      have hil:i < ls.length:=(List.getElem?_eq_some_iff.1 hi).1
      have ht:ts[i]?=some (ts[i]'(by omega)):=List.getElem?_eq_getElem _
      exact ⟨_,(hpm _).2 ⟨i,_,l,j,ht,hi,hj,rfl⟩,e⟩
    · rintro ⟨p,hp,rfl⟩
      obtain ⟨i,t,l,j,ht,hl,hj,rfl⟩:=(hpm p).1 hp
      exact ⟨l,List.mem_of_getElem? hl,C2z hj⟩
  have hneg:∀ k:Nat,k < 5 → (k:Int) ∉ ls.flatten → e.getD k 0=-1:=fun k hk hn=>by
    rw [(hs k hk).2.1 fun p hp he=>hn ((hmf k).2 ⟨p,hp,he⟩),h0 k hk]
  have hpos:∀ k:Nat,k < 5 → (k:Int) ∈ ls.flatten → 0 ≤ e.getD k 0 ∧ e.getD k 0 ≤ 60:=fun k hk hm=>by
    obtain ⟨p,hp,he⟩:=(hmf k).1 hm
    rw [(hs k hk).1 p hp he]
    obtain ⟨i,t,l,j,ht,hl,hj,rfl⟩:=(hpm p).1 hp
    exact hshp t (List.mem_of_getElem? ht) j (by rw [← (hlab i t l ht hl).1];exact hj)
  refine ⟨h5,fun k hk hn=>by rw [hneg k hk hn];omega,hpos,fun k hk=>?_,fun x hx=>?_,fun i t l ht hl=>⟨(hlab i t l ht hl).1,fun j hj=>?_⟩⟩
  · by_cases hm:(k:Int) ∈ ls.flatten
    · have:=hpos k hk hm;omega
    · rw [hneg k hk hm];omega
  · obtain ⟨l,hl,hxl⟩:=List.mem_flatten.1 hx
    obtain ⟨i,hi⟩:=List.mem_iff_getElem?.1 hl
    have hil:i < ls.length:=(List.getElem?_eq_some_iff.1 hi).1
    exact (hlab i _ l (List.getElem?_eq_getElem (by omega)) hi).2 x hxl
  · have hr:=(hlab i t l ht hl).2 _ (C2z hj)
    have hp:=(hpm (l.getD j 0,t.1.getD j 0)).2 ⟨i,t,l,j,ht,hl,hj,rfl⟩
    exact (hs (l.getD j 0).toNat (by rw [B5z];omega)).1 _ hp (by simp only;omega)
end VwM
set_option linter.unusedSectionVars false
set_option linter.unusedVariables false
set_option linter.unusedSimpArgs false
namespace VwM
open Go Vw

def besT {α:Type} (l:List α) (i j:Nat):Nat → List α
  | 0=>[]
  | k + 1=>besT l i j k ++ (if k ≠ i ∧ k ≠ j then (l[k]?).toList else [])
abbrev besL {α:Type} (l:List α) (i j:Nat):List α:=besT l i j l.length
theorem Huz {α:Type} {l:List α} {i j k:Nat} {x:α} (h:l[k]?=some x) (h1:k ≠ i) (h2:k ≠ j):besT l i j (k + 1)=besT l i j k ++ [x]:=by
  simp [besT,h,h1,h2]
theorem E0z {α:Type} {l:List α} {i j k:Nat} (h:k=i ∨ k=j):besT l i j (k + 1)=besT l i j k:=by
  simp only [besT];rw [if_neg (by omega),List.append_nil]
theorem Hvz {α:Type} (l:List α) (i j:Nat):∀ k,(besT l i j k).length ≤ k
  | 0=>Nat.le_refl _
  | k + 1=>by
    have:=Hvz l i j k
    simp only [besT,List.length_append]
    split
    · have:(l[k]?).toList.length ≤ 1:=by cases l[k]?<;>simp
      omega
    · simp;omega
theorem mem_besT {α:Type} {l:List α} {i j:Nat} {x:α}:∀ {k:Nat},x ∈ besT l i j k ↔ ∃ m,m < k ∧ m ≠ i ∧ m ≠ j ∧ l[m]?=some x
  | 0=>by simp [besT]
  | k + 1=>by
    simp only [besT,List.mem_append,mem_besT (k:=k)]
    constructor
    · rintro (⟨m,h1,h2⟩|h)
      · exact ⟨m,by omega,h2⟩
      · split at h
        · rename_i hc
          refine ⟨k,by omega,hc.1,hc.2,?_⟩
          cases hk:l[k]? with
          | none=>rw [hk] at h;simp at h
          | some y=>rw [hk] at h;simp at h;rw [h]
        · simp at h
    · rintro ⟨m,h1,h2,h3,h4⟩
      by_cases e:m=k
      · subst e;right;rw [if_pos ⟨h2,h3⟩,h4];simp
      · left;exact ⟨m,by omega,h2,h3,h4⟩
theorem besT_sub {α:Type} {l:List α} {i j k:Nat} {x:α} (h:x ∈ besT l i j k):x ∈ l:=by
  obtain ⟨m,_,_,_,h⟩:=mem_besT.1 h
  exact List.mem_of_getElem? h
def keT (ls:List (List Int)) (out:List Int) (a b:List Int) (i j:Nat) (k:Nat):List Int:=((List.range k).map Int.ofNat).filter fun x=>(decide (x ∈ a) || decide (x ∈ b)) && (decide (x ∈ out) || decide (x ∈ (besL ls i j).flatten))
abbrev keL (ls:List (List Int)) (out:List Int) (a b:List Int) (i j:Nat):List Int:=keT ls out a b i j 5
theorem keT_step (ls:List (List Int)) (out a b:List Int) (i j k:Nat):keT ls out a b i j (k + 1)=keT ls out a b i j k ++ (if ((decide ((k:Int) ∈ a) || decide ((k:Int) ∈ b)) && (decide ((k:Int) ∈ out) || decide ((k:Int) ∈ (besL ls i j).flatten)))=true then [(k:Int)] else []):=by
  unfold keT
  rw [List.range_succ,List.map_append,List.filter_append]
  congr 1
  simp only [List.map_cons,List.map_nil,List.filter_cons,List.filter_nil]
  rfl
theorem keT_len (ls:List (List Int)) (out a b:List Int) (i j k:Nat):(keT ls out a b i j k).length ≤ k:=by
  unfold keT
  exact Nat.le_trans (List.length_filter_le ..) (by simp)
def wiL (xs ys:List Int):List Int:=xs.filter fun x=>!decide (x ∈ ys)
theorem wiL_in {xs ys:List Int} {k:Nat} (h:k < xs.length) (hm:xs.getD k 0 ∈ ys):wiL (xs.take (k + 1)) ys=wiL (xs.take k) ys:=by
  rw [B8z xs k h];unfold wiL;rw [List.filter_append];simp [hm,-List.getD_eq_getElem?_getD]
theorem wiL_out {xs ys:List Int} {k:Nat} (h:k < xs.length) (hm:xs.getD k 0 ∉ ys):wiL (xs.take (k + 1)) ys=wiL (xs.take k) ys ++ [xs.getD k 0]:=by
  rw [B8z xs k h];unfold wiL;rw [List.filter_append];simp [hm,-List.getD_eq_getElem?_getD]
theorem wiL_len (xs ys:List Int):(wiL xs ys).length ≤ xs.length:=List.length_filter_le ..
theorem kept_eq (ls:List (List Int)) (out a b:List Int) (i j:Nat):wiL (lbS ([a,b]:List (List Int)).flatten) (wiL (lbS ([a,b]:List (List Int)).flatten) (besL ls i j ++ [out]).flatten)=keL ls out a b i j:=by
  unfold wiL lbS lbT keL keT
  rw [List.filter_filter,List.filter_filter]
  refine List.filter_congr fun x hx=>?_
  have hm:x ∈ ([a,b]:List (List Int)).flatten ↔ x ∈ a ∨ x ∈ b:=by simp
  have hm2:x ∈ (besL ls i j ++ [out]).flatten ↔ x ∈ out ∨ x ∈ (besL ls i j).flatten:=by
    rw [List.flatten_append,List.mem_append];simp [or_comm]
  simp only [List.mem_filter,hm,hm2,hx,true_and,Bool.and_eq_true,Bool.not_eq_true',decide_eq_false_iff_not,decide_eq_true_eq]
  rw [Bool.eq_iff_iff]
  simp only [Bool.and_eq_true,Bool.not_eq_true',decide_eq_false_iff_not,decide_eq_true_eq,Bool.or_eq_true]
  constructor
  · rintro ⟨h1,h2⟩
    exact ⟨h2,Classical.byContradiction fun h=>h1 ⟨h,h2⟩⟩
  · rintro ⟨h1,h2⟩
    exact ⟨fun h=>h.1 h2,h1⟩
def selT (e U:List Int) (k:Nat):List Int:=(List.range k).map fun n:Nat=>if (n:Int) ∈ U then e.getD n 0 else -1
abbrev selE (e U:List Int):List Int:=selT e U 5
def cbE (e:List Int) (ls:List (List Int)) (out a b:List Int) (i j:Nat):Int:=pr (spE (selE e (a ++ b))) + pr (spE (selE e ((besL ls i j).flatten ++ keL ls out a b i j)))
def cbN (e:List Int) (ls:List (List Int)) (out:List Int) (i j:Nat):Int:=cbE e ls out (ls.getD i []) (ls.getD j []) i j
theorem LL_snoc (b:Bool) (ls:List (List Int)) (l:List Int):LL b ls ++ [.rows b (IL l) l.length]=LL b (ls ++ [l]):=by rw [Gmz];rfl
theorem G0z {n:Nat}:∀ {ls:List (List Int)},(∀ l ∈ ls,l.length ≤ n) → ls.flatten.length ≤ ls.length * n
  | [],_=>by simp
  | l :: r,h=>by
    have h1:=h l (by simp)
    have h2:=G0z (ls:=r) fun x hx=>h x (by simp [hx])
    rw [List.flatten_cons,List.length_append,List.length_cons,Nat.succ_mul]
    omega
end VwM
set_option linter.unusedSectionVars false
set_option linter.unusedVariables false
set_option linter.unusedSimpArgs false
namespace VwM
open Go Vw

theorem zcells_pair2 (a b:AV):zcells [a,b] 2=[a,b,a,b]:=by simp [zcells,List.range_succ,List.getD]
theorem zcells_pair3 (a b:AV):zcells [a,b] 3=[a,b,a,b,a,b]:=by simp [zcells,List.range_succ,List.getD]
attribute [push_cast] zcells_pair2 zcells_pair3
end VwM
set_option linter.unusedSectionVars false
set_option linter.unusedVariables false
set_option linter.unusedSimpArgs false
namespace VwM
open Go Vw

def wkF (e:List Int) (p:List Int × Int) (x:Int):List Int × Int:=(p.1.set x.toNat (p.2.tmod (gE e x)),p.2.tdiv (gE e x))
def wkS (e w:List Int) (k:Int) (L:List Int):List Int × Int:=L.foldl (wkF e) (w,k)
def wayK (e L w:List Int) (k:Int):List Int:=(wkS e w k L.reverse).1
def waysT (e L w:List Int) (n:Nat):List (List Int):=(List.range n).map fun k:Nat=>wayK e L w k
def waysF (e L w:List Int) (n:Nat):List Int:=(waysT e L w n).flatten
def wy3 (e L w:List Int) (k n:Nat) (y:List Int):List Int:=waysF e L w k ++ (y ++ List.replicate ((n - k - 1) * 5) 0)
def wyZ (e L w:List Int) (k n:Nat):List Int:=waysF e L w k ++ List.replicate ((n - k) * 5) 0
section
variable [Inhabited GlobT]
end
def bwX (L:List Int):List (Int × Int):=(List.range L.length).map fun j:Nat=>((L.length:Int) - 1 - j,L.getD (L.length - 1 - j) 0)
theorem bwX_mem {L:List Int} {p:Int × Int} (h:p ∈ bwX L):p.2 ∈ L:=by
  unfold bwX at h
  rw [List.mem_map] at h
  obtain ⟨j,hj,rfl⟩:=h
  rw [List.mem_range] at hj
  have:L.length - 1 - j < L.length:=by omega
  simp only [List.getD,List.getElem?_eq_getElem this,Option.getD_some]
  exact List.getElem_mem this
abbrev bwA (e:List Int):={p:Int × Int // (0 ≤ p.2 ∧ p.2 ≤ 4) ∧ 0 < gE e p.2 ∧ gE e p.2 ≤ 60}
def bwL (e L:List Int) (h:∀ x ∈ L,(0 ≤ x ∧ x ≤ 4) ∧ 0 < gE e x ∧ gE e x ≤ 60):List (bwA e):=(bwX L).pmap (fun p hp=>⟨p,hp⟩) (fun p hp=>h p.2 (bwX_mem hp))
end VwM
set_option linter.unusedSectionVars false
set_option linter.unusedVariables false
set_option linter.unusedSimpArgs false
namespace VwM
open Go Vw

def sumN:Nat → (Nat → Int) → Int
  | 0,_=>0
  | n + 1,f=>sumN n f + f n
def SS (e:List Int):List Int → List Int → (List Int → Int) → Int
  | [],w,g=>g w
  | x :: L,w,g=>sumN (gE e x).toNat fun a=>SS e L (w.set x.toNat (a:Int)) g

def fitW (e w:List Int) (x:Int):Prop:=0 ≤ gE w x ∧ gE w x < gE e x

end VwM
set_option linter.unusedSectionVars false
set_option linter.unusedVariables false
set_option linter.unusedSimpArgs false
namespace VwM
open Go Vw

theorem cells_clo (fn:Fn) (az cs:List AV):(AV.clo fn az cs).cells=some [.clo fn az cs]:=rfl
theorem isCell_clo (fn:Fn) (az cs:List AV):(AV.clo fn az cs).isCell=true:=rfl
attribute [push_cast] cells_clo isCell_clo

abbrev w64 (n:Int):Int:=IntKind.wrap .i64 n
def prodL:List Int → Int
  | []=>1
  | x :: r=>x * prodL r
def fsT (l rs:List Int):Nat → List Int
  | 0=>[0,0,0,0,0]
  | k + 1=>(fsT l rs k).set (l.getD k 0).toNat (gE (fsT l rs k) (l.getD k 0) + rs.getD k 0)
def tv (t:Tn) (l w:List Int):Int:=t.2.getD (dot (fun d=>gE w (l.getD d 0)) (rowS t.1) t.1.length).toNat 0

abbrev Fc:=List Int × List Int × List Int
def fcV (f:Fc) (w:List Int):Int:=f.1.getD (sumL (f.2.1.map fun x=>gE w x * gE f.2.2 x)).toNat 0
def fcOk (f:Fc) (w:List Int):Prop:=(f.1.length ≤ 1099511627776 ∧ f.2.1.length ≤ 1099511627776) ∧ f.2.2.length=5 ∧ (∀ x ∈ f.2.1,0 ≤ x ∧ x ≤ 4) ∧ 0 ≤ sumL (f.2.1.map fun x=>gE w x * gE f.2.2 x) ∧ sumL (f.2.1.map fun x=>gE w x * gE f.2.2 x) < f.1.length
def FC (g:Nat) (b1 b2:Bool):List Fc → List AV
  | []=>[]
  | f :: r=>.clo (.func g) [.agg (.rows b1 (IL f.1) f.1.length :: .rows b2 (IL f.2.1) f.2.1.length :: IL f.2.2)] [] :: FC g b1 b2 r
theorem FC_length (g:Nat) (b1 b2:Bool):∀ fs:List Fc,(FC g b1 b2 fs).length=fs.length
  | []=>rfl
  | f :: r=>by simp [FC,FC_length g b1 b2 r]
section
variable {ρ:Nat → Option Nat} {Zh:Nat → Option (List AV)} {b0:Bool} {φ:Bool → Option Bool} {n:Nat}
theorem ren_FC {g:Nat} {b1 b2 c1 c2:Bool} (h1:φ b1=some c1) (h2:φ b2=some c2):∀ fs:List Fc,(FC g b1 b2 fs).map (AV.ren ρ Zh b0 φ (n + 4))=FC g c1 c2 fs
  | []=>rfl
  | f :: r=>by simp only [FC,List.map_cons,List.map_nil,AV.ren,h1,h2,ren_IL,ren_FC h1 h2 r]
theorem ren_FCD (g:Nat) (b1 b2:Bool) (fs:List Fc):(FC g b1 b2 fs).map (AV.ren ρ Zh b0 phiD (n + 4))=FC g false false fs:=ren_FC (by cases b1<;>rfl) (by cases b2<;>rfl) fs
theorem ren_FCs (g:Nat) (b1 b2:Bool) (fs:List Fc):(FC g b1 b2 fs).map (AV.ren ρ Zh b0 some (n + 4))=FC g b1 b2 fs:=ren_FC rfl rfl fs
end
attribute [push_cast] ren_FCD ren_FCs FC_length
theorem set2 (x y v:AV) (L:List AV) (c:Nat):(x :: y :: L).set (2 + c) v=x :: y :: L.set c v:=by rw [Nat.add_comm];rfl
section
variable [Inhabited GlobT]
end
end VwM
set_option linter.unusedSectionVars false
set_option linter.unusedVariables false
set_option linter.unusedSimpArgs false
namespace VwM
open Go Vw

structure CtOk (ts:List Tn) (ls:List (List Int)) (e:List Int):Prop where
  len:e.length=5
  num:ls.length=ts.length
  lab:∀ (i:Nat) (t:Tn) (l:List Int),ts[i]?=some t → ls[i]?=some l → (vSh t.1=true ∧ (t.2.length:Int)=pr t.1) ∧ l.length=t.1.length ∧ (∀ x ∈ l,0 ≤ x ∧ x ≤ 4) ∧ ∀ j,j < l.length → gE e (l.getD j 0)=t.1.getD j 0
  used:∀ x ∈ ls.flatten,(0 ≤ x ∧ x ≤ 4) ∧ 0 ≤ gE e x ∧ gE e x ≤ 60
  un:∀ k:Nat,k < 5 → (k:Int) ∉ ls.flatten → e.getD k 0 < 0

def facs (ts:List Tn) (ls:List (List Int)):List Fc:=(ts.zip ls).map fun q=>(q.1.2,lbS q.2,fsT q.2 (rowS q.1.1) q.1.1.length)
def gP (ts:List Tn) (ls:List (List Int)) (w:List Int):Int:=prodL ((ts.zip ls).map fun q=>tv q.1 q.2 w)

def fitL (e:List Int) (ls:List (List Int)) (w:List Int):Prop:=w.length=5 ∧ ∀ x ∈ ls.flatten,fitW e w x
def sumd (ls:List (List Int)) (out:List Int):List Int:=wiL (lbS ls.flatten) out
abbrev Z5:List Int:=[0,0,0,0,0]
def ctE (ts:List Tn) (ls:List (List Int)) (out e:List Int) (p:Nat):Int:=SS e (sumd ls out) (wayK e out Z5 p) (gP ts ls)

end VwM
set_option linter.unusedSectionVars false
set_option linter.unusedVariables false
set_option linter.unusedSimpArgs false
namespace VwM
open Go Vw

abbrev L5:List Int:=[0,1,2,3,4]
def rkO (e out w:List Int):Int:=dot (fun i=>gE w (out.getD i 0)) (rowS (out.map (gE e))) out.length
def vsT (ts:List Tn) (ls:List (List Int)) (out e:List Int) (n:Nat) (k:Nat):List Int:=(List.range n).map fun p:Nat=>w64 (sumN k fun i=>if rkO e out (unr (spE e) i)=p then gP ts ls (unr (spE e) i) else 0)
end VwM
set_option linter.unusedSectionVars false
set_option linter.unusedVariables false
namespace Vw
open Go
variable [Inhabited GlobT]

def fid (i:Nat):Nat:=1099511627776 + i
theorem Hqz (i j:Nat):(fid i=fid j)=(i=j):=by unfold fid;exact propext ⟨fun h=>by omega,fun h=>by omega⟩
theorem fid_ne (i n:Nat) (h:n < 1099511627776):(fid i=n)=False:=by unfold fid;exact propext ⟨fun h=>by omega,False.elim⟩
theorem ne_fid (i n:Nat) (h:n < 1099511627776):(n=fid i)=False:=by unfold fid;exact propext ⟨fun h=>by omega,False.elim⟩
theorem fid_div (i d:Nat) (h:d < 68719476736):(fid i / 16=d)=False:=by unfold fid;exact propext ⟨fun h=>by omega,False.elim⟩
theorem fid_ge (i n:Nat) (h:n < 1099511627776):(n ≤ fid i)=True:=by unfold fid;exact propext ⟨fun _=>trivial,fun _=>by omega⟩

def famL (f:Nat → List AV):Nat → List (Nat × List AV)
  | 0=>[]
  | n + 1=>(fid n,f n) :: famL f n
theorem F7z (f:Nat → List AV) (i:Nat):∀ n,hk (famL f n) (fid i)=if i < n then some (f i) else none
  | 0=>by simp [famL,hk]
  | n + 1=>by
    simp only [famL,hk,Hqz,F7z f i n]
    by_cases h:i=n
    · subst h;simp
    · rw [if_neg h]
      by_cases h':i < n
      · rw [if_pos h',if_pos (by omega)]
      · rw [if_neg h',if_neg (by omega)]
theorem F6z (f:Nat → List AV) (id:Nat) (h:id < 1099511627776):∀ n,hk (famL f n) id=none
  | 0=>rfl
  | n + 1=>by simp only [famL,hk,ne_fid n id h,if_false,F6z f id h n]
theorem Gaz (f:Nat → List AV) (d:Nat) (h:d < 68719476736):∀ n,freshD (famL f n) d=True
  | 0=>rfl
  | n + 1=>by simp only [famL,freshD,fid_div n d h,not_false_eq_true,Gaz f d h n,and_self]
theorem SubW.heq {pin:Nat} {σ:List (Nat × AV)} {H H':List (Nat × List AV)} {s':S} (h:∀ id,hk H' id=hk H id) (k:SubW pin (mkS σ H') s'):SubW pin (mkS σ H) s':=by
  have e:mkS σ H=mkS σ H':=by unfold mkS;congr 1;funext id;exact (h id).symm
  rw [e];exact k
theorem swp_fst (a b:Nat):swp a b a=b:=by simp [swp]
theorem swp_snd (a b:Nat):swp a b b=a:=by unfold swp;split<;>simp_all
theorem Clz {a b c:Nat} (h1:c ≠ a) (h2:c ≠ b):swp a b c=c:=by simp [swp,h1,h2]
attribute [push_cast] Hqz fid_ne ne_fid fid_div fid_ge F7z F6z Gaz
end Vw
set_option linter.unusedSectionVars false
set_option linter.unusedVariables false
set_option linter.unusedSimpArgs false
namespace Vw
open Go VwM
variable [Inhabited GlobT]

def row (C:Nat) (h:Nat → AV):List AV:=(List.range C).map h
theorem Cuz (C:Nat) (h:Nat → AV):(row C h).length=C:=by simp [row]
theorem Cmz (C:Nat) (h:Nat → AV) (φ:AV → AV):(row C h).map φ=row C fun p=>φ (h p):=by simp [row,Function.comp_def]
theorem Bsz {C:Nat} {h g:Nat → AV} (e:∀ p,p < C → h p=g p):row C h=row C g:=by
  unfold row
  exact List.map_congr_left fun p hp=>e p (List.mem_range.1 hp)
theorem Hbz (C:Nat) (h:Nat → AV) (p:Nat):(row C h)[p]?=if p < C then some (h p) else none:=by
  unfold row
  rw [List.getElem?_map]
  by_cases hp:p < C
  · rw [if_pos hp,List.getElem?_range hp];rfl
  · rw [if_neg hp,List.getElem?_eq_none (by simpa using hp)];rfl
theorem row_set (C:Nat) (h:Nat → AV) (p:Nat) (v:AV):(row C h).set p v=row C (upd h p v):=by
  apply List.ext_getElem?
  intro q
  rw [List.getElem?_set,Hbz,Hbz,Cuz]
  by_cases e:p=q
  · subst e;simp [Axz]
  · rw [if_neg e,Azz _ _ _ _ (Ne.symm e)]
theorem Hcz {C:Nat} {L:List AV} {h:Nat → AV} (hl:L.length=C) (e:∀ p,p < C → L[p]?=some (h p)):L=row C h:=by
  apply List.ext_getElem?
  intro q
  rw [Hbz]
  by_cases hq:q < C
  · rw [if_pos hq,e q hq]
  · rw [if_neg hq,List.getElem?_eq_none (by omega)]
theorem row_1 (C:Nat) (h:Nat → AV) (p:Nat) (hp:p + 1 ≤ C):((row C h).drop p).take 1=[h p]:=by
  apply List.ext_getElem?
  intro q
  rw [List.getElem?_take]
  match q with
  | 0=>rw [if_pos (by omega),List.getElem?_drop,Hbz,if_pos (by omega)];rfl
  | q + 1=>rw [if_neg (by omega)];rfl
theorem Hoz (P:Nat → Bool) (C:Nat) (h:Nat → AV) (e:∀ p,p < C → (h p).inn P=true):innL P (row C h)=true:=by
  have:∀ l:List Nat,(∀ p ∈ l,p < C) → innL P (l.map h)=true:=by
    intro l
    induction l with
    | nil=>intro _;rfl
    | cons a r ih =>
      intro hl
      simp only [List.map_cons,innL,Bool.and_eq_true]
      exact ⟨e a (hl a (by simp)),ih fun p hp=>hl p (by simp [hp])⟩
  exact this _ fun p hp=>List.mem_range.1 hp

structure Fam where
  C:Nat
  R:Nat
  pat:Nat → AV ⊕ Nat
  rows:Nat → List Int
  ok:∀ p j,p < C → pat p=.inr j → j < R
  cell:∀ p a,pat p=.inl a → (∃ k x,a=.int k x) ∨ ∃ b,a=.bool b
def Fam.atG (F:Fam) (g:Nat → Nat) (p:Nat):AV:=match F.pat p with
  | .inl a=>a
  | .inr j=>.own (g j) (F.rows j).length 1
def Fam.atP (F:Fam) (b:Bool) (p:Nat):AV:=match F.pat p with
  | .inl a=>a
  | .inr j=>.rows b (IL (F.rows j)) (F.rows j).length
def Fam.cellsG (F:Fam) (g:Nat → Nat):List AV:=row F.C (F.atG g)
def Fam.plain (F:Fam) (b:Bool):List AV:=row F.C (F.atP b)
def Fam.conts (F:Fam):List (List AV):=(List.range F.R).map fun j=>IL (F.rows j)
theorem B3z (F:Fam) (g:Nat → Nat):(F.cellsG g).length=F.C:=Cuz ..
theorem plain_length (F:Fam) (b:Bool):(F.plain b).length=F.C:=Cuz ..
theorem B0z (F:Fam):F.conts.length=F.R:=by simp [Fam.conts]
structure Fam.like (F G:Fam):Prop where
  C:G.C=F.C
  R:G.R=F.R
  len:∀ j,j < F.R → (G.rows j).length=(F.rows j).length

def fim (d j:Nat):Nat:=fid (65536 * j + d)
theorem Dxz (d j n:Nat) (h:n < 1099511627776):(fim d j=n)=False:=fid_ne _ _ h
theorem ne_fim (d j n:Nat) (h:n < 1099511627776):(n=fim d j)=False:=ne_fid _ _ h
theorem Cez {d i j:Nat} (h:fim d i=fim d j):i=j:=by unfold fim at h;rw [Hqz] at h;omega
theorem fim_oth {d d' i j:Nat} (h1:d < 65536) (h2:d' < 65536) (h:fim d i=fim d' j):d=d':=by unfold fim at h;rw [Hqz] at h;omega
theorem fim_div (d j n:Nat) (h:n < 68719476736):(fim d j / 16=n)=False:=fid_div _ _ h
theorem Cqz (d j:Nat):1099511627776 ≤ fim d j:=by unfold fim fid;omega

def famD (d:Nat) (F:Fam):List (Nat × List AV):=(List.range F.R).map fun j=>(fim d j,IL (F.rows j))
theorem Ciz (g:Nat → Nat) (f:Nat → List AV) (r:List (Nat × List AV)) (id:Nat):∀ l:List Nat,(∀ j ∈ l,g j ≠ id) → hk (l.map (fun j=>(g j,f j)) ++ r) id=hk r id
  | [],_=>rfl
  | a :: l,h=>by
    simp only [List.map_cons,List.cons_append,hk]
    rw [if_neg (fun e=>h a (by simp) e.symm)]
    exact Ciz g f r id l fun j hj=>h j (by simp [hj])
theorem B9z (g:Nat → Nat) (hg:∀ i j,g i=g j → i=j) (f:Nat → List AV) (r:List (Nat × List AV)) (i:Nat):∀ l:List Nat,i ∈ l → hk (l.map (fun j=>(g j,f j)) ++ r) (g i)=some (f i)
  | [],h=>by cases h
  | a :: l,h=>by
    simp only [List.map_cons,List.cons_append,hk]
    by_cases e:g i=g a
    · rw [if_pos e,hg _ _ e]
    · rw [if_neg e]
      rcases List.mem_cons.1 h with h|h
      · exact absurd (by rw [h]) e
      · exact B9z g hg f r i l h
theorem Dgz (d:Nat) (F:Fam) (r:List (Nat × List AV)) (j:Nat) (h:j < F.R):hk (famD d F ++ r) (fim d j)=some (IL (F.rows j)) :=
  B9z (fim d) (fun _ _=>Cez) (fun j=>IL (F.rows j)) r j _ (List.mem_range.2 h)
theorem F8z (d:Nat) (F:Fam) (r:List (Nat × List AV)) (id:Nat) (h:id < 1099511627776):hk (famD d F ++ r) id=hk r id :=
  Ciz (fim d) (fun j=>IL (F.rows j)) r id _ fun j _ e=>by have:=Cqz d j;omega
theorem D7z (d:Nat) (F:Fam) (r:List (Nat × List AV)) (d' j:Nat) (h1:d < 65536) (h2:d' < 65536) (hn:d ≠ d'):hk (famD d F ++ r) (fim d' j)=hk r (fim d' j) :=
  Ciz (fim d) (fun j=>IL (F.rows j)) r _ _ fun j _ e=>hn (fim_oth h1 h2 e)
theorem Gbz (d:Nat) (F:Fam) (r:List (Nat × List AV)) (n:Nat) (h:n < 68719476736):freshD (famD d F ++ r) n=freshD r n:=by
  unfold famD
  have:∀ l:List Nat,freshD (l.map (fun j=>(fim d j,IL (F.rows j))) ++ r) n=freshD r n:=by
    intro l
    induction l with
    | nil=>rfl
    | cons a l ih=>simp only [List.map_cons,List.cons_append,freshD,fim_div _ _ _ h,not_false_eq_true,true_and,ih]
  exact this _
def noFam (d:Nat) (H:List (Nat × List AV)):Prop:=∀ j,hk H (fim d j)=none
theorem noFam_nil (d:Nat):noFam d []=True:=propext ⟨fun _=>trivial,fun _ _=>rfl⟩
theorem noFam_cons (d t:Nat) (v:List AV) (r:List (Nat × List AV)) (h:t < 1099511627776):noFam d ((t,v) :: r)=noFam d r:=by
  unfold noFam
  simp only [hk,Dxz _ _ t h,if_false]
theorem noFam_fam (d d':Nat) (F:Fam) (r:List (Nat × List AV)) (h:d < 65536 ∧ d' < 65536 ∧ d' ≠ d):noFam d (famD d' F ++ r)=noFam d r:=by
  unfold noFam
  simp only [D7z d' F r d _ h.2.1 h.1 h.2.2]

theorem Enz (d:Nat) (F:Fam):famD d F=famD d F ++ []:=(List.append_nil _).symm
theorem Hpz (d:Nat) (F:Fam) (j:Nat) (h:j < F.R):hk (famD d F) (fim d j)=some (IL (F.rows j)):=by rw [Enz];exact Dgz d F [] j h
theorem hk_famD_low0 (d:Nat) (F:Fam) (id:Nat) (h:id < 1099511627776):hk (famD d F) id=none:=by rw [Enz];exact F8z d F [] id h
theorem freshD_famD0 (d:Nat) (F:Fam) (n:Nat) (h:n < 68719476736):freshD (famD d F) n=True:=by rw [Enz];exact Gbz d F [] n h
theorem noFam_fam0 (d d':Nat) (F:Fam) (h:d < 65536 ∧ d' < 65536 ∧ d' ≠ d):noFam d (famD d' F)=True:=by rw [Enz,noFam_fam d d' F [] h,noFam_nil]
theorem Etz {ρ:Nat → Option Nat} {Z:Nat → Option (List AV)} {b:Bool} {φ:Bool → Option Bool} {n:Nat} (xs:List Int):(IL xs).map (AV.ren ρ Z b φ (n + 1))=IL xs:=by unfold IL;rw [List.map_map];rfl
theorem Fam.ren_at (F:Fam) {g g':Nat → Nat} {ρ:Nat → Option Nat} {Z:Nat → Option (List AV)} {b:Bool} {φ:Bool → Option Bool} {n p:Nat} (h:∀ j,F.pat p=.inr j → ρ (g j)=some (g' j)):(F.atG g p).ren ρ Z b φ (n + 1)=F.atG g' p:=by
  unfold Fam.atG
  cases e:F.pat p with
  | inl a =>
    rcases F.cell p a e with ⟨k,x,rfl⟩|⟨c,rfl⟩<;>rfl
  | inr j=>simp only [Fqz,h j e,Egz]
theorem Fam.ren_plain (F:Fam) {g:Nat → Nat} {ρ:Nat → Option Nat} {Z:Nat → Option (List AV)} {b:Bool} {φ:Bool → Option Bool} {n p:Nat} (h:∀ j,F.pat p=.inr j → ρ (g j)=none ∧ Z (g j)=some (IL (F.rows j))):(F.atG g p).ren ρ Z b φ (n + 2)=F.atP b p:=by
  unfold Fam.atG Fam.atP
  cases e:F.pat p with
  | inl a =>
    rcases F.cell p a e with ⟨k,x,rfl⟩|⟨c,rfl⟩<;>rfl
  | inr j =>
    obtain ⟨h1,h2⟩:=h j e
    simp only [Fqz,h1,h2,renO_none]
    have:(IL (F.rows j)).length=(F.rows j).length * 1:=by unfold IL;simp
    rw [if_pos this,Etz]

def hasFam (d:Nat) (F:Fam) (H:List (Nat × List AV)):Prop:=∀ j,j < F.R → hk H (fim d j)=some (IL (F.rows j))
theorem hasFam_cons (d:Nat) (F:Fam) (t:Nat) (v:List AV) (H:List (Nat × List AV)) (h:t < 1099511627776):hasFam d F ((t,v) :: H)=hasFam d F H:=by
  unfold hasFam
  simp only [hk,Dxz _ _ t h,if_false]
theorem F9z (d:Nat) (F:Fam) (r:List (Nat × List AV)):hasFam d F (famD d F ++ r)=True:=propext ⟨fun _=>trivial,fun _ j hj=>Dgz d F r j hj⟩
theorem hasFam_oth (d d':Nat) (F G:Fam) (r:List (Nat × List AV)) (h:d < 65536 ∧ d' < 65536 ∧ d' ≠ d):hasFam d F (famD d' G ++ r)=hasFam d F r:=by
  unfold hasFam
  simp only [D7z d' G r d _ h.2.1 h.1 h.2.2]
theorem hasFam_same0 (d:Nat) (F:Fam):hasFam d F (famD d F)=True:=by rw [Enz];exact F9z d F []
open Classical in
noncomputable def rdx (p:Prop) (a b:List AV):List AV:=if p then a else b
theorem rdx_true (a b:List AV):rdx True a b=a:=by unfold rdx;exact if_pos trivial
theorem readF_eq (F:Fam) (d:Nat) {b:Bool} {φ:Bool → Option Bool} {n:Nat} (H:List (Nat × List AV)) :
    (F.cellsG (fim d)).map (AV.ren (posF []) (zF false (hk H)) b φ (n + 2))=rdx (hasFam d F H) (F.plain b) (row F.C fun p=>(F.atG (fim d) p).ren (posF []) (zF false (hk H)) b φ (n + 2)):=by
  unfold rdx
  split
  · rename_i h
    unfold Fam.cellsG Fam.plain
    rw [Cmz]
    exact Bsz fun p hp=>F.ren_plain fun j hj=>⟨rfl,h j (F.ok p j hp hj)⟩
  · unfold Fam.cellsG
    rw [Cmz]

section
variable {P:Program} {pin:Nat} {σ:List (Nat × AV)} {H:List (Nat × List AV)} {K:S → Prop}
theorem Fjz (g:Nat → Nat) (f:Nat → List AV):∀ l:List Nat,(l.map g).zip (l.map f)=l.map fun j=>(g j,f j)
  | []=>rfl
  | a :: l=>by simp only [List.map_cons,List.zip_cons_cons,Fjz g f l]
theorem Fyz {g:Nat → Nat} (hg:∀ i j,g i=g j → i=j) {l:List Nat} (h:l.Nodup):(l.map g).Nodup:=List.Pairwise.map _ (fun a b hab he=>hab (hg _ _ he)) h
theorem callFN {f sz n d:Nat} {F:Fam} {cargs:List AV} (hc:BCall P f cargs [] (fun r H'=>r=.own 0 n sz ∧ H'=F.cellsG (· + 1) :: F.conts)) (hd:(d < 65536 ∧ pin ≤ 16 * d) ∧ freshD H d ∧ noFam d H)
    (hK:K (mkS ((d,.own (16 * d) n sz) :: σ) ((16 * d,F.cellsG (fim d)) :: (famD d F ++ H)))):callD P pin f [] false cargs (some d) K σ H:=by
  obtain ⟨⟨hd1,hd2⟩,hf,hnf⟩:=hd
  intro args ha
  refine Eoz (Giz [] false (F:=hk H) (fun _ _ h=>h) (AV.down [] false (hk H)) (fun _=>.inl rfl) hc (by rw [List.map_map];exact ha) rfl List.nodup_nil fun res H' hq=>?_)
  obtain ⟨rfl,rfl⟩:=hq
  have hne:∀ j,16 * d ≠ fim d j:=fun j e=>by have:=Cqz d j;omega
  refine ⟨16 * d :: (List.range F.R).map (fim d),trivial,⟨by simp [B0z],?_,?_⟩,?_⟩
  · rw [List.nodup_cons]
    refine ⟨fun h=>?_,Fyz (fun _ _=>Cez) List.nodup_range⟩
    obtain ⟨j,_,e⟩:=List.mem_map.1 h
    exact hne j e.symm
  · intro id hid
    rcases List.mem_cons.1 hid with rfl|hid
    · exact ⟨C3z hf 0 (by omega),hd2⟩
    · obtain ⟨j,_,rfl⟩:=List.mem_map.1 hid
      exact ⟨hnf j,by have:=Cqz d j;omega⟩
  · rw [Hfz]
    have e1:AV.up ([] ++ 16 * d :: (List.range F.R).map (fim d)) false (.own 0 n sz)=.own (16 * d) n sz:=rfl
    have hx:∀ j,j < F.R → idxF ([] ++ 16 * d :: (List.range F.R).map (fim d)) (j + 1)=some (fim d j):=fun j hj=>by
      show (16 * d :: (List.range F.R).map (fim d))[j + 1]?=_
      rw [List.getElem?_cons_succ,List.getElem?_map,List.getElem?_range hj];rfl
    have e2:(F.cellsG (· + 1)).map (AV.up ([] ++ 16 * d :: (List.range F.R).map (fim d)) false)=F.cellsG (fim d):=by
      unfold Fam.cellsG
      rw [Cmz]
      exact Bsz fun p hp=>F.ren_at fun j hj=>hx j (F.ok p j hp hj)
    have e3:F.conts.map (List.map (AV.up ([] ++ 16 * d :: (List.range F.R).map (fim d)) false))=F.conts:=by
      unfold Fam.conts
      rw [List.map_map]
      exact List.map_congr_left fun j _=>Etz _
    rw [e1,List.map_cons,e2,e3]
    have e4:([] ++ 16 * d :: (List.range F.R).map (fim d)).zip (F.cellsG (fim d) :: F.conts) ++ H=(16 * d,F.cellsG (fim d)) :: (famD d F ++ H):=by
      simp only [List.nil_append,List.zip_cons_cons,List.cons_append]
      unfold Fam.conts famD
      rw [Fjz]
    rw [e4]
    exact hK
def callE (P:Program) (pin f:Nat) (avs:List AV) (dst:Option Nat) (K:S → Prop) (σ:List (Nat × AV)) (H:List (Nat × List AV)):Prop :=
  ∀ args:List Operand,args.map (fun x=>(mkS σ H).ev x)=avs → callOwed P pin f args dst K (mkS σ H)
theorem Fiz {f:Nat} {args:List Operand} {dst:Option Nat} (h:callE P pin f (args.map fun x=>(mkS σ H).ev x) dst K σ H):callOwed P pin f args dst K (mkS σ H):=h args rfl
theorem callFM {f sz n d id t:Nat} {F:Fam} {k:Int} {Post:Fam → Int → Prop} (hc:BCall P f [.own 0 n sz,.int .i64 k] (F.cellsG (· + 1) :: F.conts) (fun r H'=>∃ G k',Post G k' ∧ F.like G ∧ r=.int .i64 k' ∧ H'=G.cellsG (· + 1) :: G.conts))
    (h1:hk H id=some (F.cellsG (fim d))) (hl:id < 1099511627776) (h2:hasFam d F H)
    (hK:∀ G k',Post G k' → F.like G → K (mkS ((t,.int .i64 k') :: σ) ((id,G.cellsG (fim d)) :: (famD d G ++ H)))):callE P pin f [.own id n sz,.int .i64 k] (some t) K σ H:=by
  intro args ha
  have hne:∀ j,id ≠ fim d j:=fun j e=>by have:=Cqz d j;omega
  have hnd:(id :: (List.range F.R).map (fim d)).Nodup:=by
    rw [List.nodup_cons]
    refine ⟨fun h=>?_,Fyz (fun _ _=>Cez) List.nodup_range⟩
    obtain ⟨j,_,e⟩:=List.mem_map.1 h
    exact hne j e.symm
  have hget:∀ j,j < F.R → (id :: (List.range F.R).map (fim d))[j + 1]?=some (fim d j):=fun j hj=>by
    rw [List.getElem?_cons_succ,List.getElem?_map,List.getElem?_range hj];rfl
  have hp0:posF (id :: (List.range F.R).map (fim d)) id=some 0:=by unfold posF posL;exact if_pos rfl
  have hpj:∀ j,j < F.R → posF (id :: (List.range F.R).map (fim d)) (fim d j)=some (j + 1):=fun j hj=>by
    have:=Cnz (k:=0) hnd (hget j hj)
    rw [Nat.zero_add] at this
    exact this
  refine C5z (id :: (List.range F.R).map (fim d)) false (F:=hk H) (fun _ _ h=>h) hc ?_ ?_ hnd fun res H' hq=>?_
  · have:args.map (fun x=>((mkS σ H).ev x).down (id :: (List.range F.R).map (fim d)) false (hk H))=(args.map fun x=>(mkS σ H).ev x).map (AV.down (id :: (List.range F.R).map (fim d)) false (hk H)):=by rw [List.map_map];rfl
    rw [this,ha]
    have e:AV.down (id :: (List.range F.R).map (fim d)) false (hk H) (.own id n sz)=.own 0 n sz:=by
      show AV.ren _ _ _ _ 5 _=_
      rw [Fqz,hp0,Egz]
    simp only [List.map_cons,List.map_nil,e]
    rfl
  · rw [List.map_cons,show (mkS σ H).H id=hk H id from rfl,h1,List.map_map]
    have e1:(F.cellsG (fim d)).map (AV.down (id :: (List.range F.R).map (fim d)) false (hk H))=F.cellsG (· + 1):=by
      unfold Fam.cellsG
      rw [Cmz]
      exact Bsz fun p hp=>F.ren_at fun j hj=>hpj j (F.ok p j hp hj)
    have e2:(List.range F.R).map ((fun i=>((mkS σ H).H i).map (List.map (AV.down (id :: (List.range F.R).map (fim d)) false (hk H)))) ∘ fim d)=F.conts.map some:=by
      unfold Fam.conts
      rw [List.map_map]
      refine List.map_congr_left fun j hj=>?_
      show (hk H (fim d j)).map _=_
      rw [h2 j (List.mem_range.1 hj)]
      show some ((IL (F.rows j)).map _)=_
      rw [show (IL (F.rows j)).map (AV.down (id :: (List.range F.R).map (fim d)) false (hk H))=IL (F.rows j) from Etz _]
      rfl
    rw [e2,Option.map_some,e1]
    rfl
  · obtain ⟨G,k',hpost,hlike,rfl,rfl⟩:=hq
    have hlen:(G.cellsG (· + 1) :: G.conts).length - (F.cellsG (· + 1) :: F.conts).length=0:=by simp [B0z,hlike.R]
    rw [hlen]
    refine ⟨⟨by rw [B3z,B3z,hlike.C];exact Nat.le_refl _,?_⟩,fun _ h=>by cases t<;>simp [news] at h,?_⟩
    · have:∀ l:List Nat,(∀ j ∈ l,j < F.R) → lenOk (l.map fun j=>IL (F.rows j)) (l.map fun j=>IL (G.rows j)):=by
        intro l
        induction l with
        | nil=>intro _;exact trivial
        | cons a r ih =>
          intro h
          refine ⟨?_,ih fun j hj=>h j (by simp [hj])⟩
          have:=hlike.len a (h a (by simp))
          unfold IL
          simp [this]
      unfold Fam.conts
      rw [hlike.R]
      exact this _ fun j hj=>List.mem_range.1 hj
    · rw [Hfz]
      have e0:(news (some t) 0)=[]:=rfl
      rw [e0,List.append_nil]
      have e2:(G.cellsG (· + 1)).map (AV.up (id :: (List.range F.R).map (fim d)) false)=G.cellsG (fim d):=by
        unfold Fam.cellsG
        rw [Cmz]
        exact Bsz fun p hp=>G.ren_at fun j hj=>hget j (hlike.R ▸ G.ok p j hp hj)
      have e3:G.conts.map (List.map (AV.up (id :: (List.range F.R).map (fim d)) false))=G.conts:=by
        unfold Fam.conts
        rw [List.map_map]
        exact List.map_congr_left fun j _=>Etz _
      rw [List.map_cons,e2,e3]
      have e4:(id :: (List.range F.R).map (fim d)).zip (G.cellsG (fim d) :: G.conts) ++ H=(id,G.cellsG (fim d)) :: (famD d G ++ H):=by
        simp only [List.zip_cons_cons,List.cons_append]
        unfold Fam.conts famD
        rw [hlike.R,Fjz]
      rw [e4]
      exact hK G k' hpost hlike
end
attribute [push_cast] Hpz hk_famD_low0 freshD_famD0 noFam_fam0 hasFam_same0 B3z plain_length Dxz ne_fim fim_div F8z Dgz D7z Gbz noFam_nil noFam_cons noFam_fam hasFam_cons F9z hasFam_oth rdx_true readF_eq
end Vw
set_option linter.unusedSectionVars false
set_option linter.unusedVariables false
set_option linter.unusedSimpArgs false
namespace Vw
open Go VwM
variable [Inhabited GlobT]

def famR (d:Nat) (rows:Nat → List Int) (n:Nat):List (Nat × List AV):=(List.range n).map fun j=>(fim d j,IL (rows j))
theorem Cwz (d:Nat) (rows:Nat → List Int) (n j:Nat) (h:j < n):hk (famR d rows n) (fim d j)=some (IL (rows j)):=by
  have:=B9z (fim d) (fun _ _=>Cez) (fun j=>IL (rows j)) [] j _ (List.mem_range.2 h)
  rw [List.append_nil] at this
  exact this
theorem hk_famR_out (d:Nat) (rows:Nat → List Int) (n id:Nat) (h:∀ j,j < n → fim d j ≠ id):hk (famR d rows n) id=none:=by
  have:=Ciz (fim d) (fun j=>IL (rows j)) [] id (List.range n) fun j hj=>h j (List.mem_range.1 hj)
  rw [List.append_nil] at this
  exact this
theorem hk_famR_low (d:Nat) (rows:Nat → List Int) (n id:Nat) (h:id < 1099511627776):hk (famR d rows n) id=none :=
  hk_famR_out d rows n id fun j _ e=>by have:=Cqz d j;omega
theorem freshD_famR (d:Nat) (rows:Nat → List Int) (n k:Nat) (h:k < 68719476736):freshD (famR d rows n) k=True:=by
  have:∀ l:List Nat,freshD (l.map (fun j=>(fim d j,IL (rows j)))) k=True:=by
    intro l
    induction l with
    | nil=>rfl
    | cons a l ih=>simp only [List.map_cons,freshD,fim_div _ _ _ h,not_false_eq_true,true_and,ih]
  exact this _
theorem famR_zero (d:Nat) (rows:Nat → List Int):famR d rows 0=[]:=rfl
theorem Fmz (a b:Nat):∀ cs:List AV,swL a b cs=cs.map (AV.sw a b)
  | []=>rfl
  | c :: r=>by simp only [swL,List.map_cons,Fmz a b r]
theorem Dvz (a b:Nat) (xs:List Int):swL a b (IL xs)=IL xs:=by rw [Fmz];unfold IL;rw [List.map_map];rfl

theorem SubW.fam1 {σ σ':List (Nat × AV)} {H:List (Nat × List AV)} {a d i id0:Nat} {rows:Nat → List Int} {c0 c1:List AV}
    (ha:hk H a=some (IL (rows i))) (h0:hk H id0=some c0) (hne:id0 ≠ a ∧ id0 < 1099511627776 ∧ a < 1099511627776) (hf:∀ j,j < i → hk H (fim d j)=some (IL (rows j)))
    (hc:c0.map (AV.sw a (fim d i))=c1) (hσ:∀ p ∈ σ',(lk σ p.1).sw a (fim d i)=p.2)
    (h4:∀ p ∈ σ',p.2.inn (fun id=>(hk ((id0,c1) :: famR d rows (i + 1)) id).isSome)=true) (h5:innL (fun id=>(hk ((id0,c1) :: famR d rows (i + 1)) id).isSome) c1=true) :
    SubW 0 (mkS σ H) (mkS σ' ((id0,c1) :: famR d rows (i + 1))):=by
  refine SubW.sw a (fim d i) (Nat.zero_le _) (Nat.zero_le _) (SubW.of (Sub.of_lists hσ ?_ (fun id h=>absurd h (Nat.not_lt_zero _)) h4 ?_))
  · intro p hp
    show (hk H (swp a (fim d i) p.1)).map (swL a (fim d i))=some p.2
    rcases List.mem_cons.1 hp with rfl|hp
    · rw [Clz hne.1 (fun e=>by have:=Cqz d i;omega),h0]
      show some (swL _ _ c0)=_
      rw [Fmz,hc]
    · obtain ⟨j,hj,rfl⟩:=List.mem_map.1 hp
      have hj':=List.mem_range.1 hj
      by_cases e:j=i
      · subst e
        rw [swp_snd,ha]
        show some (swL _ _ _)=_
        rw [Dvz]
      · rw [Clz (fun e=>by have:=Cqz d j;omega) (fun e'=>e (Cez e')),hf j (by omega)]
        show some (swL _ _ _)=_
        rw [Dvz]
  · intro p hp
    rcases List.mem_cons.1 hp with rfl|hp
    · exact h5
    · obtain ⟨j,_,rfl⟩:=List.mem_map.1 hp
      exact Eyz _ _
theorem SubW.fam2 {σ σ':List (Nat × AV)} {H:List (Nat × List AV)} {a b d i id0:Nat} {rows:Nat → List Int} {c0 c1:List AV}
    (ha:hk H a=some (IL (rows i))) (hb:hk H b=some (IL (rows (i + 1)))) (h0:hk H id0=some c0) (hne:(id0 ≠ a ∧ id0 ≠ b ∧ a ≠ b) ∧ id0 < 1099511627776 ∧ a < 1099511627776 ∧ b < 1099511627776) (hf:∀ j,j < i → hk H (fim d j)=some (IL (rows j)))
    (hc:(c0.map (AV.sw a (fim d i))).map (AV.sw b (fim d (i + 1)))=c1) (hσ:∀ p ∈ σ',((lk σ p.1).sw a (fim d i)).sw b (fim d (i + 1))=p.2)
    (h4:∀ p ∈ σ',p.2.inn (fun id=>(hk ((id0,c1) :: famR d rows (i + 2)) id).isSome)=true) (h5:innL (fun id=>(hk ((id0,c1) :: famR d rows (i + 2)) id).isSome) c1=true) :
    SubW 0 (mkS σ H) (mkS σ' ((id0,c1) :: famR d rows (i + 2))):=by
  have hfb:∀ x:Nat,x < 1099511627776 → ∀ j,x ≠ fim d j:=fun x hx j e=>by have:=Cqz d j;omega
  refine SubW.sw a (fim d i) (Nat.zero_le _) (Nat.zero_le _) (SubW.sw b (fim d (i + 1)) (Nat.zero_le _) (Nat.zero_le _) (SubW.of (Sub.of_lists hσ ?_ (fun id h=>absurd h (Nat.not_lt_zero _)) h4 ?_)))
  · intro p hp
    show ((hk H (swp a (fim d i) (swp b (fim d (i + 1)) p.1))).map (swL a (fim d i))).map (swL b (fim d (i + 1)))=some p.2
    rcases List.mem_cons.1 hp with rfl|hp
    · rw [Clz hne.1.2.1 (hfb _ hne.2.1 _),Clz hne.1.1 (hfb _ hne.2.1 _),h0]
      show some (swL _ _ (swL _ _ c0))=_
      rw [Fmz,Fmz,hc]
    · obtain ⟨j,hj,rfl⟩:=List.mem_map.1 hp
      have hj':=List.mem_range.1 hj
      by_cases e:j=i + 1
      · subst e
        rw [swp_snd,Clz (Ne.symm hne.1.2.2) (hfb _ hne.2.2.2 _),hb]
        show some (swL _ _ (swL _ _ _))=_
        rw [Dvz,Dvz]
      · rw [Clz (c:=fim d j) (Ne.symm (hfb _ hne.2.2.2 _)) (fun e'=>e (Cez e'))]
        by_cases e2:j=i
        · subst e2
          rw [swp_snd,ha]
          show some (swL _ _ (swL _ _ _))=_
          rw [Dvz,Dvz]
        · rw [Clz (Ne.symm (hfb _ hne.2.2.1 _)) (fun e'=>e2 (Cez e')),hf j (by omega)]
          show some (swL _ _ (swL _ _ _))=_
          rw [Dvz,Dvz]
  · intro p hp
    rcases List.mem_cons.1 hp with rfl|hp
    · exact h5
    · obtain ⟨j,_,rfl⟩:=List.mem_map.1 hp
      exact Eyz _ _

theorem ret_fam {σ:List (Nat × AV)} {H:List (Nat × List AV)} {res:List ARes} {id0 n sz d:Nat} {F:Fam} (hl:aresL (mkS σ H) res=some [.own id0 n sz]) (h0:hk H id0=some (F.cellsG (fim d))) (h2:∀ j,j < F.R → hk H (fim d j)=some (IL (F.rows j))) (hlow:id0 < 1099511627776) :
    ∃ (outs:List Nat) (nils:List (Nat × Nat)) (l:List AV),(([] ++ outs).Nodup ∧ ∀ id ∈ outs,0 ≤ id) ∧ aresL (mkS σ H) res=some l ∧ retOk [] outs nils (mkS σ H).H ∧
      ((((tupOf l).fixNil nils).1.can ([] ++ outs) (orNil (mkS σ H).H outs))=.own 0 n sz ∧ (([] ++ outs).map fun id=>(((mkS σ H).H id).getD []).map (AV.can ([] ++ outs) (orNil (mkS σ H).H outs)))=F.cellsG (· + 1) :: F.conts):=by
  have hne:∀ j,id0 ≠ fim d j:=fun j e=>by have:=Cqz d j;omega
  have hnd:(id0 :: (List.range F.R).map (fim d)).Nodup:=by
    rw [List.nodup_cons]
    refine ⟨fun h=>?_,Fyz (fun _ _=>Cez) List.nodup_range⟩
    obtain ⟨j,_,e⟩:=List.mem_map.1 h
    exact hne j e.symm
  have hget:∀ j,j < F.R → (id0 :: (List.range F.R).map (fim d))[j + 1]?=some (fim d j):=fun j hj=>by
    rw [List.getElem?_cons_succ,List.getElem?_map,List.getElem?_range hj];rfl
  have hp0:posF (id0 :: (List.range F.R).map (fim d)) id0=some 0:=by unfold posF posL;exact if_pos rfl
  have hpj:∀ j,j < F.R → posF (id0 :: (List.range F.R).map (fim d)) (fim d j)=some (j + 1):=fun j hj=>by
    have:=Cnz (k:=0) hnd (hget j hj)
    rw [Nat.zero_add] at this
    exact this
  refine ⟨id0 :: (List.range F.R).map (fim d),[],_,⟨hnd,fun _ _=>Nat.zero_le _⟩,hl,⟨(fun _ h=>by cases h),(fun _ h=>by cases h)⟩,?_,?_⟩
  · show AV.ren _ _ _ _ 5 (.own id0 n sz)=_
    rw [Fqz,List.nil_append,hp0,Egz]
  · rw [List.nil_append,List.map_cons,List.map_map,show (mkS σ H).H id0=hk H id0 from rfl,h0]
    congr 1
    · show (F.cellsG (fim d)).map _=_
      unfold Fam.cellsG
      rw [Cmz]
      exact Bsz fun p hp=>F.ren_at fun j hj=>hpj j (F.ok p j hp hj)
    · unfold Fam.conts
      refine List.map_congr_left fun j hj=>?_
      show ((hk H (fim d j)).getD []).map _=_
      rw [h2 j (List.mem_range.1 hj)]
      exact Etz _

theorem inN_of:∀ {l:List Nat} {id:Nat},id ∈ l → inN l id
  | x :: r,id,h=>by
    rcases List.mem_cons.1 h with h|h
    · exact .inl h
    · exact .inr (inN_of h)
theorem ret_famS {σ:List (Nat × AV)} {H:List (Nat × List AV)} {res:List ARes} {id0 n sz d:Nat} {F:Fam} (hl:aresL (mkS σ H) res=some [.own id0 n sz]) (h0:hk H id0=some (F.cellsG (fim d))) (h2:∀ j,j < F.R → hk H (fim d j)=some (IL (F.rows j))) (hlow:id0 < 1099511627776) :
    ∃ (outs:List Nat) (nils:List (Nat × Nat)) (l:List AV),(outs.Nodup ∧ ∀ id ∈ outs,True) ∧ aresL (mkS σ H) res=some l ∧ (∀ p ∈ nils,(mkS σ H).H p.1=none ∧ inN outs p.1) ∧
      AV.ren (posF outs) (orNil (mkS σ H).H outs) true some 5 (AV.fixNil nils (tupOf l)).1=.own 0 n sz ∧ List.map (fun id=>List.map (AV.ren (posF outs) (orNil (mkS σ H).H outs) true some 5) (((mkS σ H).H id).getD [])) outs=F.cellsG (· + 1) :: F.conts:=by
  obtain ⟨outs,nils,l,⟨a,_⟩,b,⟨_,c⟩,e,f⟩:=ret_fam hl h0 h2 hlow
  rw [List.nil_append] at a e f
  exact ⟨outs,nils,l,⟨a,fun _ _=>trivial⟩,b,fun p hp=>⟨(c p hp).1,inN_of (c p hp).2⟩,e,f⟩

def pinR (rows:Nat → List Int) (n:Nat):List (Nat × List AV):=(List.range n).map fun j=>(j + 1,IL (rows j))
theorem E2z (f:Nat → List AV):∀ (n k:Nat),(((List.range n).map f).zipIdx k).map (fun p=>(p.2,p.1))=(List.range n).map fun j=>(j + k,f j)
  | 0,_=>rfl
  | n + 1,k=>by
    rw [List.range_succ,List.map_append,List.zipIdx_append,List.map_append,E2z f n k,List.map_append]
    simp [Nat.add_comm]
theorem initB_fam (args:List AV) (c0:List AV) (F:Fam):S.initB args (c0 :: F.conts)=mkS (args.zipIdx.map fun p=>(p.2,p.1)) ((0,c0) :: pinR F.rows F.R):=by
  unfold S.initB
  congr 1
  rw [List.zipIdx_cons,List.map_cons]
  congr 1
  exact E2z _ _ _
theorem Dfz (rows:Nat → List Int) (n j:Nat) (h:j < n):hk (pinR rows n) (j + 1)=some (IL (rows j)):=by
  have:=B9z (fun j=>j + 1) (fun i j e=>by omega) (fun j=>IL (rows j)) [] j _ (List.mem_range.2 h)
  rw [List.append_nil] at this
  exact this
theorem F5z (rows:Nat → List Int) (n id:Nat) (h:∀ j,j < n → j + 1 ≠ id):hk (pinR rows n) id=none:=by
  have:=Ciz (fun j=>j + 1) (fun j=>IL (rows j)) [] id (List.range n) fun j hj=>h j (List.mem_range.1 hj)
  rw [List.append_nil] at this
  exact this
theorem Hiz {rows:Nat → List Int} {n j:Nat} {xs:List Int} {c0:List AV} (h:j < n) (id:Nat):hk ((0,c0) :: pinR (upd rows j xs) n) id=hk ((j + 1,IL xs) :: (0,c0) :: pinR rows n) id:=by
  simp only [hk]
  by_cases e0:id=0
  · subst e0;rw [if_pos rfl,if_neg (by omega),if_pos rfl]
  · rw [if_neg e0,if_neg e0]
    by_cases e1:id=j + 1
    · subst e1;rw [if_pos rfl,Dfz _ _ _ h,Axz]
    · rw [if_neg e1]
      by_cases e2:∃ i,i < n ∧ i + 1=id
      · obtain ⟨i,hi,rfl⟩:=e2
        rw [Dfz _ _ _ hi,Dfz _ _ _ hi,Azz _ _ _ _ (by omega)]
      · rw [F5z _ _ _ fun i hi e=>e2 ⟨i,hi,e⟩,F5z _ _ _ fun i hi e=>e2 ⟨i,hi,e⟩]
theorem SubW.slots {pin:Nat} {σ σ':List (Nat × AV)} {H:List (Nat × List AV)} (h:∀ p ∈ σ',lk σ p.1=p.2):SubW pin (mkS σ H) (mkS σ' H):=fun E M x w hp hst=>by
  refine ⟨M,hst.defers,hst.size,fun t=>?_,hst.hok,hst.old⟩
  show Den _ (lk σ' t) _
  rcases lk_mem σ' t with e|⟨p,hp,e1,e2⟩
  · rw [e];simp [Den]
  · rw [e2,← h p hp,e1];exact hst.slots t
theorem ret_pin {σ:List (Nat × AV)} {res:List ARes} {c0:List AV} {k:Int} {F:Fam} {R:Nat} (hR:R=F.R) (hl:∀ H,aresL (mkS σ H) res=some [.int .i64 k]) (h0:c0=F.cellsG (· + 1)) :
    ∃ (outs:List Nat) (nils:List (Nat × Nat)) (l:List AV),((List.range (R + 1) ++ outs).Nodup ∧ ∀ id ∈ outs,R + 1 ≤ id) ∧ aresL (mkS σ ((0,c0) :: pinR F.rows R)) res=some l ∧ retOk (List.range (R + 1)) outs nils (mkS σ ((0,c0) :: pinR F.rows R)).H ∧
      ((((tupOf l).fixNil nils).1.can (List.range (R + 1) ++ outs) (orNil (mkS σ ((0,c0) :: pinR F.rows R)).H outs))=.int .i64 k ∧ ((List.range (R + 1) ++ outs).map fun id=>(((mkS σ ((0,c0) :: pinR F.rows R)).H id).getD []).map (AV.can (List.range (R + 1) ++ outs) (orNil (mkS σ ((0,c0) :: pinR F.rows R)).H outs)))=F.cellsG (· + 1) :: F.conts):=by
  subst hR h0
  have hpj:∀ j,j < F.R + 1 → posF (List.range (F.R + 1)) j=some j:=fun j hj=>by
    have:=Cnz (k:=0) (ids:=List.range (F.R + 1)) (id:=j) (i:=j) List.nodup_range (List.getElem?_range hj)
    rw [Nat.zero_add] at this
    exact this
  refine ⟨[],[],_,⟨(by rw [List.append_nil];exact List.nodup_range),(fun _ h=>by cases h)⟩,hl _,⟨fun id hid=>?_,fun _ h=>by cases h⟩,rfl,?_⟩
  · have:=List.mem_range.1 hid
    show (hk _ id).isSome=true
    simp only [hk]
    split
    · rfl
    · rename_i h0
      obtain ⟨j,rfl⟩:∃ j,id=j + 1:=⟨id - 1,by omega⟩
      rw [Dfz _ _ _ (by omega)];rfl
  · rw [List.append_nil,List.range_succ_eq_map,List.map_cons,List.map_map]
    rw [← List.range_succ_eq_map]
    congr 1
    · show (F.cellsG (· + 1)).map _=_
      unfold Fam.cellsG
      rw [Cmz]
      exact Bsz fun p hp=>F.ren_at fun j hj=>hpj (j + 1) (by have:=F.ok p j hp hj;omega)
    · unfold Fam.conts
      refine List.map_congr_left fun j hj=>?_
      show ((hk _ (j + 1)).getD []).map _=_
      simp only [hk]
      rw [if_neg (by omega),Dfz _ _ _ (List.mem_range.1 hj)]
      exact Etz _

theorem ret_pinS {σ:List (Nat × AV)} {res:List ARes} {c0:List AV} {kk:Int} {F:Fam} {R:Nat} {rows:Nat → List Int} {Post:Int → Prop} (hl:∀ H,aresL (mkS σ H) res=some [.int .i64 kk]) (hp:Post kk) (hret:∃ G:Fam,F.like G ∧ G.rows=rows ∧ G.R=R ∧ c0=G.cellsG (· + 1)) :
    ∃ (outs:List Nat) (nils:List (Nat × Nat)) (l:List AV),((List.range (R + 1) ++ outs).Nodup ∧ ∀ id ∈ outs,R + 1 ≤ id) ∧ aresL (mkS σ ((0,c0) :: pinR rows R)) res=some l ∧ ((∀ id ∈ List.range (R + 1),((mkS σ ((0,c0) :: pinR rows R)).H id).isSome=true) ∧ ∀ p ∈ nils,(mkS σ ((0,c0) :: pinR rows R)).H p.1=none ∧ inN outs p.1) ∧
      ∃ (G:Fam) (k':Int),Post k' ∧ F.like G ∧ AV.ren (posF (List.range (R + 1) ++ outs)) (orNil (mkS σ ((0,c0) :: pinR rows R)).H outs) true some 5 (AV.fixNil nils (tupOf l)).1=.int .i64 k' ∧
        List.map (fun id=>List.map (AV.ren (posF (List.range (R + 1) ++ outs)) (orNil (mkS σ ((0,c0) :: pinR rows R)).H outs) true some 5) (((mkS σ ((0,c0) :: pinR rows R)).H id).getD [])) (List.range (R + 1) ++ outs)=G.cellsG (· + 1) :: G.conts:=by
  obtain ⟨G,h1,rfl,rfl,h4⟩:=hret
  obtain ⟨outs,nils,l,a,b,⟨c,c'⟩,e,f⟩:=ret_pin (F:=G) rfl hl h4
  exact ⟨outs,nils,l,a,b,⟨c,fun p hp=>⟨(c' p hp).1,inN_of (c' p hp).2⟩⟩,G,kk,hp,h1,e,f⟩

def lsF (ls:List (List Int)):Fam:=⟨ls.length,ls.length,fun p=>.inr p,fun j=>ls.getD j [],fun p j h e=>by injection e with e;omega,fun p a e=>by cases e⟩
theorem LL_map (b:Bool):∀ ls:List (List Int),LL b ls=ls.map fun l=>.rows b (IL l) l.length
  | []=>rfl
  | l :: r=>by simp only [LL,List.map_cons,LL_map b r]
theorem lsF_plain (ls:List (List Int)) (b:Bool):(lsF ls).plain b=LL b ls:=by
  symm
  refine Hcz (A3z b ls) fun p hp=>?_
  have hp':p < ls.length:=hp
  rw [LL_map,List.getElem?_map,List.getElem?_eq_getElem hp']
  simp [Fam.atP,lsF,List.getD,hp']
theorem lsF_C (ls:List (List Int)):(lsF ls).C=ls.length:=rfl
theorem lsF_R (ls:List (List Int)):(lsF ls).R=ls.length:=rfl
def tnRow (ts:List Tn) (j:Nat):List Int:=if j % 2=0 then (ts.getD (j / 2) ([],[])).1 else (ts.getD (j / 2) ([],[])).2
def tsF (ts:List Tn):Fam:=⟨ts.length * 2,ts.length * 2,fun p=>.inr p,tnRow ts,fun p j h e=>by injection e with e;omega,fun p a e=>by cases e⟩
theorem tsF_C (ts:List Tn):(tsF ts).C=ts.length * 2:=rfl
theorem tsF_R (ts:List Tn):(tsF ts).R=ts.length * 2:=rfl
theorem tnRow_0 {ts:List Tn} {i:Nat} {x y:List Int} (h:ts[i]?=some (x,y)):tnRow ts (i * 2)=x ∧ tnRow ts (i * 2 + 1)=y:=by
  unfold tnRow
  rw [if_pos (by omega),if_neg (by omega),show i * 2 / 2=i by omega,show (i * 2 + 1) / 2=i by omega]
  simp [List.getD,h]
theorem tsF_plain (ts:List Tn) (b:Bool):(tsF ts).plain b=TL b ts:=by
  symm
  refine Hcz (Bez b ts) fun p hp=>?_
  have hp':p < ts.length * 2:=hp
  obtain ⟨t,ht⟩:∃ t,ts[p / 2]?=some t:=⟨ts[p / 2]'(by omega),List.getElem?_eq_getElem _⟩
  have hd:=C7z b ts (p / 2) ht
  obtain ⟨h0,h1⟩:=tnRow_0 (x:=t.1) (y:=t.2) ht
  rcases Nat.mod_two_eq_zero_or_one p with e|e
  · have:=congrArg (fun l=>l[0]?) hd
    simp only [List.getElem?_take,List.getElem?_drop] at this
    have e2:p / 2 * 2=p:=by omega
    rw [e2] at this h0
    simp at this
    rw [this]
    simp [Fam.atP,tsF,h0]
  · have:=congrArg (fun l=>l[1]?) hd
    simp only [List.getElem?_take,List.getElem?_drop] at this
    have e2:p / 2 * 2 + 1=p:=by omega
    rw [e2] at this h1
    simp at this
    rw [this]
    simp [Fam.atP,tsF,h1]
attribute [push_cast] lsF_plain lsF_C lsF_R tsF_plain tsF_C tsF_R hk_famR_low freshD_famR
end Vw
