/- The mathematics of ranges,slices,shapes and indices that the contracts speak of. -/
import Derived.Test.YtgiaepecaokcfaaDoorCW3
set_option linter.unusedVariables false
set_option linter.unusedSimpArgs false
set_option linter.unnecessarySimpa false
set_option maxRecDepth 4000
namespace VwM
open Vw
open Go

abbrev rng (a b c:Int):AV:=.agg [.int .i64 a,.int .i64 b,.int .i64 c]
abbrev slc (f t b:Int) (hf ht:Bool):AV:=.agg [.int .i64 f,.int .i64 t,.int .i64 b,.bool hf,.bool ht]
abbrev IL (xs:List Int):List AV:=xs.map (AV.int .i64)
abbrev RI (xs:List Int):AV:=.rows false (IL xs) xs.length
abbrev OI (xs:List Int):AV → List (List AV) → Prop:=fun r H'=>r=.own 0 xs.length 1 ∧ H'=[IL xs]
def vR (a b c:Int):Bool:=decide (-100 ≤ a) && decide (a ≤ 100) && (decide (-101 ≤ b) && decide (b ≤ 101)) && (decide (-200 ≤ c) && decide (c ≤ 200) && !decide (c=0))
def vS (f t b:Int) (hf ht:Bool):Bool:=decide (-100 ≤ f) && decide (f ≤ 100) && (decide (-100 ≤ t) && decide (t ≤ 100)) && (decide (-200 ≤ b) && decide (b ≤ 200)) && !decide (b=0) && (hf || decide (f=0)) && (ht || decide (t=0))
theorem mkAV_ints0 (k:IntKind) (xs:List Int):mkAV false ((xs.map (AV.int k)).take 1)=if 0 < xs.length then some (.int k (xs.getD 0 0)) else none:=by
  haveI:Inhabited GlobT:=⟨⟨[]⟩⟩
  have:=Fsz k xs 0
  rwa [List.drop_zero] at this
attribute [push_cast] Fsz mkAV_ints0


theorem list_eq_of {xs ys:List Int} (hl:xs.length=ys.length) (h:∀ j:Nat,j < xs.length → xs.getD j 0=ys.getD j 0):xs=ys:=by
  refine List.ext_getElem hl fun i h1 h2=>?_
  have:=h i h1
  simpa [List.getD,h1,h2] using this


def upFrom (k:Int) (n:Nat):List Int:=(List.range n).map fun i:Nat=>k + (i:Int)
theorem Ebz (k:Int) (n:Nat):(upFrom k n).length=n:=by simp [upFrom]
attribute [simp] Ebz
attribute [push_cast] Ebz
def marked (k:Int) (xs:List Int) (j:Nat):List Int:=upFrom k j ++ xs.drop j
def cntI (a b c:Int):Int :=
  if c < 0 then (if 0 - (b - a) ≤ 0 then 0 else (0 - (b - a) + (0 - c) - 1).tdiv (0 - c)) else (if b - a ≤ 0 then 0 else (b - a + c - 1).tdiv c)
theorem Cmz {x y:Int} (hy:0 < y) (hx:0 ≤ x):0 ≤ x.tdiv y ∧ x.tdiv y ≤ x:=by
  rw [Int.tdiv_eq_ediv_of_nonneg hx]
  exact ⟨Int.ediv_nonneg hx (by omega),Int.ediv_le_self _ hx⟩
def nums (a c:Int) (k:Nat):List Int:=(List.range k).map fun i:Nat=>a + (i:Int) * c
theorem D2z (a c:Int) (k:Nat):(nums a c k).length=k:=by simp [nums]
attribute [simp] D2z
attribute [push_cast] D2z
def cntN (a b c:Int):Nat:=(cntI a b c).toNat
def filled (g:Nat → Int) (n j:Nat):List Int:=(List.range n).map fun i=>if i < j then g i else 0
theorem filled_zero (g:Nat → Int) (n:Nat):filled g n 0=List.replicate n 0:=by
  refine List.ext_getElem? fun i=>?_
  by_cases h:i < n<;>simp [filled,h]
theorem Enz (g:Nat → Int) (n j:Nat):(filled g n j).length=n:=by simp [filled]
attribute [simp] Enz
attribute [push_cast] Enz
theorem filled_set (g:Nat → Int) (n j:Nat) (h:j < n):(filled g n j).set j (g j)=filled g n (j + 1):=by
  refine List.ext_getElem? fun i=>?_
  simp only [filled,List.getElem?_set,List.length_map,List.length_range,List.getElem?_map]
  by_cases h1:j=i
  · subst h1;simp [h]
  · by_cases h2:i < n
    · simp only [List.getElem?_range h2,Option.map_some,if_neg h1]
      congr 1
      by_cases h3:i < j
      · rw [if_pos h3,if_pos (by omega)]
      · rw [if_neg h3,if_neg (by omega)]
    · simp [h1,h2]
theorem filled_all (g:Nat → Int) (n:Nat):filled g n n=(List.range n).map g:=by
  refine List.map_congr_left fun i hi=>?_
  rw [if_pos (List.mem_range.1 hi)]
theorem A9z (xs:List Int) (j:Nat) (v:Int):(IL xs).set j (.int .i64 v)=IL (xs.set j v):=by simp [IL,List.map_set]
def numsOf (a b c:Int):List Int:=if vR a b c=true then nums a c (cntN a b c) else []


theorem toNat_succ (k:Nat):((k:Int) + 1).toNat=k + 1:=by omega
theorem IL_tail (k:IntKind) (xs:List Int) (j:Nat):(((xs.map (AV.int k)).drop j).take (xs.length - j))=(xs.drop j).map (AV.int k):=by
  rw [← List.map_drop,← List.map_take]
  congr 1
  exact List.take_of_length_le (by simp)
attribute [push_cast] toNat_succ IL_tail
def pr (xs:List Int):Int:=xs.foldl (· * ·) 1
theorem pr_nil:pr []=1:=rfl
theorem pr_snoc (xs:List Int) (x:Int):pr (xs ++ [x])=pr xs * x:=by simp [pr]
theorem foldl_mul (xs:List Int) (a:Int):xs.foldl (· * ·) a=a * pr xs:=by
  induction xs generalizing a with
  | nil=>simp [pr]
  | cons x r ih=>simp only [List.foldl_cons,pr];rw [ih,ih (1 * x)];rw [Int.one_mul,Int.mul_assoc]
theorem pr_cons (x:Int) (xs:List Int):pr (x :: xs)=x * pr xs:=by
  show (x :: xs).foldl (· * ·) 1=_
  rw [List.foldl_cons,foldl_mul,Int.one_mul]
theorem Cfz (xs:List Int) (k:Nat) (h:k < xs.length):xs.take (k + 1)=xs.take k ++ [xs.getD k 0]:=by
  rw [List.take_succ_eq_append_getElem h];simp [List.getD,h]
theorem F2z (xs:List Int) (k:Nat) (h:k < xs.length):xs.drop k=xs.getD k 0 :: xs.drop (k + 1):=by
  rw [List.drop_eq_getElem_cons h];simp [List.getD,h]
theorem B8z (xs:List Int) (k:Nat) (h:k < xs.length):pr (xs.take (k + 1))=pr (xs.take k) * xs.getD k 0:=by rw [Cfz xs k h,pr_snoc]
theorem pr_drop (xs:List Int) (k:Nat) (h:k < xs.length):pr (xs.drop k)=xs.getD k 0 * pr (xs.drop (k + 1)):=by rw [F2z xs k h,pr_cons]
def good4 (xs:List Int):Prop:=(∀ x ∈ xs,0 ≤ x ∧ x ≤ 60) ∧ xs.length ≤ 4
theorem Grz {xs:List Int} (h:good4 xs) (j:Nat):good4 (xs.take j):=⟨fun x hx=>h.1 x (List.mem_of_mem_take hx),by have:=h.2;simp;omega⟩
theorem Elz {xs:List Int} (h:good4 xs) {k:Nat} (hk:k < xs.length):0 ≤ xs.getD k 0 ∧ xs.getD k 0 ≤ 60:=by
  refine h.1 _ ?_
  simp [List.getD,hk]
theorem pr_bound':∀ (xs:List Int),(∀ x ∈ xs,0 ≤ x ∧ x ≤ 60) → 0 ≤ pr xs ∧ pr xs ≤ 60 ^ xs.length
  | [],_=>by simp [pr]
  | x :: r,h=>by
    have ih:=pr_bound' r fun y hy=>h y (by simp [hy])
    have hx:=h x (by simp)
    rw [pr_cons,List.length_cons,Int.pow_succ,Int.mul_comm (60 ^ r.length) 60]
    exact ⟨Int.mul_nonneg hx.1 ih.1,Int.mul_le_mul hx.2 ih.2 ih.1 (by omega)⟩
theorem Cwz {xs:List Int} (h:good4 xs):0 ≤ pr xs ∧ pr xs ≤ 12960000:=by
  have h1:=pr_bound' xs h.1
  refine ⟨h1.1,Int.le_trans h1.2 ?_⟩
  have:(60:Int) ^ xs.length ≤ 60 ^ 4:=by
    obtain ⟨_,hl⟩:=h
    generalize xs.length=n at hl
    match n,hl with
    | 0,_=>decide
    | 1,_=>decide
    | 2,_=>decide
    | 3,_=>decide
    | 4,_=>decide
  simpa using this
def allI (xs:List Int) (l h:Int):Bool:=xs.all fun x=>decide (l ≤ x) && decide (x ≤ h)
theorem Cez {xs:List Int} {l h:Int}:allI xs l h=true ↔ ∀ x ∈ xs,l ≤ x ∧ x ≤ h:=by simp [allI]
theorem Gaz {xs:List Int} {l h:Int}:(∀ j:Nat,j < xs.length → l ≤ xs.getD j 0 ∧ xs.getD j 0 ≤ h) → allI xs l h=true:=by
  intro hj
  rw [Cez]
  intro x hx
  obtain ⟨i,hi,rfl⟩:=List.getElem_of_mem hx
  have:=hj i hi
  simpa [List.getD,hi] using this
theorem E1z {xs:List Int} {l h:Int} {j:Nat} (hj:j < xs.length) (hx:xs.getD j 0 < l ∨ h < xs.getD j 0):allI xs l h=false:=by
  rw [Bool.eq_false_iff]
  intro ht
  have:=(Cez.1 ht) (xs.getD j 0) (by simp [List.getD,hj])
  omega
def vSh (sh:List Int):Bool:=decide (sh.length ≤ 4) && allI sh 0 60 && decide (pr sh ≤ 60)
theorem Boz {sh:List Int} (h:vSh sh=true):good4 sh ∧ 0 ≤ pr sh ∧ pr sh ≤ 60:=by
  simp only [vSh,Bool.and_eq_true,decide_eq_true_eq] at h
  have hg:good4 sh:=⟨Cez.1 h.1.2,h.1.1⟩
  exact ⟨hg,(Cwz hg).1,h.2⟩
theorem nil_split {n:Nat} {K:Bool → Prop} (h1:n=0 → K true) (h2:K false):∀ b:Bool,(b=true → n=0) → K b:=by
  intro b hb
  cases b with
  | true=>exact h1 (hb rfl)
  | false=>exact h2
def rowS (sh:List Int):List Int:=(List.range sh.length).map fun i:Nat=>pr (sh.drop (i + 1))
def colS (sh:List Int):List Int:=(List.range sh.length).map fun i:Nat=>pr (sh.take i)
theorem Fjz (sh:List Int):(rowS sh).length=sh.length:=by simp [rowS]
theorem F7z (sh:List Int):(colS sh).length=sh.length:=by simp [colS]
attribute [simp] Fjz F7z
attribute [push_cast] Fjz F7z
def filledD (g:Nat → Int) (n k:Nat):List Int:=(List.range n).map fun i=>if n - k ≤ i then g i else 0
theorem filledD_zero (g:Nat → Int) (n:Nat):filledD g n 0=List.replicate n 0:=by
  refine List.ext_getElem? fun i=>?_
  by_cases h:i < n
  · have:¬ n ≤ i:=by omega
    simp [filledD,h,this]
  · simp [filledD,h]
theorem Dvz (g:Nat → Int) (n k:Nat):(filledD g n k).length=n:=by simp [filledD]
attribute [simp] Dvz
attribute [push_cast] Dvz
theorem filledD_set (g:Nat → Int) (n k:Nat) (h:k < n):(filledD g n k).set (n - 1 - k) (g (n - 1 - k))=filledD g n (k + 1):=by
  refine List.ext_getElem? fun i=>?_
  simp only [filledD,List.getElem?_set,List.length_map,List.length_range,List.getElem?_map]
  by_cases h1:n - 1 - k=i
  · subst h1
    have h2:n - 1 - k < n:=by omega
    have h3:n - (k + 1) ≤ n - 1 - k:=by omega
    simp [h2,h3]
    omega
  · by_cases h2:i < n
    · simp only [List.getElem?_range h2,Option.map_some,if_neg h1]
      congr 1
      by_cases h3:n - k ≤ i
      · rw [if_pos h3,if_pos (by omega)]
      · rw [if_neg h3,if_neg (by omega)]
    · simp [h1,h2]
theorem filledD_all (g:Nat → Int) (n:Nat):filledD g n n=(List.range n).map g:=by
  refine List.map_congr_left fun i hi=>?_
  rw [if_pos (by omega)]
theorem down_nat (n k:Nat) (h:k < n):((n:Int) - 1 - (k:Int)).toNat=n - 1 - k:=by omega



def kS (sh:List Int) (k:Int):Nat → Int
  | 0=>k
  | j + 1=>(kS sh k j).tdiv (sh.getD (sh.length - 1 - j) 0)
def dig (sh:List Int) (k:Int) (i:Nat):Int:=(kS sh k (sh.length - 1 - i)).tmod (sh.getD i 0)
def unr (sh:List Int) (k:Int):List Int:=(List.range sh.length).map (dig sh k)
theorem Esz (sh:List Int) (k:Int):(unr sh k).length=sh.length:=by simp [unr]
attribute [simp] Esz
attribute [push_cast] Esz
theorem pr_zero {xs:List Int} {i:Nat} (hi:i < xs.length) (h:xs.getD i 0=0):pr xs=0:=by
  have e:xs=xs.take i ++ xs.drop i:=(List.take_append_drop i xs).symm
  rw [e,pr,List.foldl_append,foldl_mul,pr_drop xs i hi,h]
  simp
theorem B2z {sh:List Int} {k:Int} (hk:0 ≤ k) (hp:∀ i,i < sh.length → 1 ≤ sh.getD i 0):∀ j,j ≤ sh.length → 0 ≤ kS sh k j ∧ kS sh k j ≤ k
  | 0,_=>by simp [kS,hk]
  | j + 1,h=>by
    have ih:=B2z hk hp j (by omega)
    have h1:=hp (sh.length - 1 - j) (by omega)
    have:=Cmz (x:=kS sh k j) (y:=sh.getD (sh.length - 1 - j) 0) (by omega) ih.1
    simp only [kS]
    omega
theorem Coz {sh:List Int} (hg:good4 sh) (h:1 ≤ pr sh):∀ i,i < sh.length → 1 ≤ sh.getD i 0:=by
  intro i hi
  have h1:=Elz hg hi
  rcases Int.lt_or_le 0 (sh.getD i 0) with h2|h2
  · omega
  · have:=pr_zero hi (by omega)
    omega
theorem dig_bound {sh:List Int} {k:Int} (hk:0 ≤ k) (hp:∀ i,i < sh.length → 1 ≤ sh.getD i 0) (hle:∀ i,i < sh.length → sh.getD i 0 ≤ 60) {i:Nat} (hi:i < sh.length):0 ≤ dig sh k i ∧ dig sh k i < sh.getD i 0:=by
  have h1:=B2z hk hp (sh.length - 1 - i) (by omega)
  have h2:=hp i hi
  unfold dig
  exact ⟨Int.tmod_nonneg _ h1.1,Int.tmod_lt_of_pos _ (by omega)⟩
def pad4 (f:Nat → Int):List Int:=[f 0,f 1,f 2,f 3]
theorem Fmz (f:Nat → Int):(pad4 f).length=4:=rfl
theorem pad4_getD (f:Nat → Int) (i:Nat) (h:i < 4):(pad4 f).getD i 0=f i:=by
  match i,h with
  | 0,_=>rfl
  | 1,_=>rfl
  | 2,_=>rfl
  | 3,_=>rfl
theorem pad4_set (f:Nat → Int) (i:Nat) (v:Int) (h:i < 4):(pad4 f).set i v=pad4 (fun j=>if j=i then v else f j):=by
  match i,h with
  | 0,_=>rfl
  | 1,_=>rfl
  | 2,_=>rfl
  | 3,_=>rfl
theorem Ewz {f g:Nat → Int} (h:∀ i,i < 4 → f i=g i):pad4 f=pad4 g:=by simp [pad4,h]
theorem G5z (a b c d:AV) (f:Nat → Int):setRange [a,b,c,d] 0 ((pad4 f).map (AV.int .i64))=(pad4 f).map (AV.int .i64):=by simp [pad4,setRange]
theorem Gez (g f:Nat → Int):setRange ((pad4 g).map (AV.int .i64)) 0 ((pad4 f).map (AV.int .i64))=(pad4 f).map (AV.int .i64):=by simp [pad4,setRange]
theorem take_pad4 (f:Nat → Int):((pad4 f).map (AV.int .i64)).take 4=(pad4 f).map (AV.int .i64):=by simp [pad4]
attribute [simp] Fmz
attribute [push_cast] Fmz G5z Gez take_pad4
def padD (xs:List Int) (k:Int) (j i:Nat):Int:=if i < xs.length ∧ xs.length - j ≤ i then dig xs k i else 0
abbrev AP (f:Nat → Int):AV:=.agg (IL (pad4 f))
def digP (sh:List Int) (k:Int) (i:Nat):Int:=if i < sh.length then dig sh k i else 0


def vIx (sh idx:List Int):Bool:=decide (idx.length=sh.length) && (List.range idx.length).all fun i=>decide (0 ≤ idx.getD i 0) && decide (idx.getD i 0 ≤ sh.getD i 0 - 1)
theorem vIx_spec {sh idx:List Int}:vIx sh idx=true ↔ idx.length=sh.length ∧ ∀ i,i < idx.length → 0 ≤ idx.getD i 0 ∧ idx.getD i 0 ≤ sh.getD i 0 - 1:=by
  simp only [vIx,Bool.and_eq_true,decide_eq_true_eq,List.all_eq_true,List.mem_range]
def hor (sh idx:List Int):Nat → Int
  | 0=>0
  | k + 1=>hor sh idx k * sh.getD k 0 + idx.getD k 0
def dot (f:Nat → Int) (st:List Int):Nat → Int
  | 0=>0
  | k + 1=>dot f st k + f k * st.getD k 0
theorem Eoz {f g:Nat → Int} {st:List Int}:∀ {k:Nat},(∀ i,i < k → f i=g i) → dot f st k=dot g st k
  | 0,_=>rfl
  | k + 1,h=>by simp only [dot];rw [Eoz fun i hi=>h i (by omega),h k (by omega)]
theorem rowS_getD (sh:List Int) (i:Nat) (h:i < sh.length):(rowS sh).getD i 0=pr (sh.drop (i + 1)):=by simp [rowS,List.getD,h]
theorem hor_dot {sh idx:List Int}:∀ k,k ≤ sh.length → hor sh idx k * pr (sh.drop k)=dot (fun i=>idx.getD i 0) (rowS sh) k
  | 0,_=>by simp [hor,dot]
  | k + 1,h=>by
    have ih:=hor_dot (sh:=sh) (idx:=idx) k (by omega)
    simp only [hor,dot,rowS_getD sh k (by omega)]
    rw [← ih,pr_drop sh k (by omega),Int.add_mul,Int.mul_assoc]
theorem hor_all {sh idx:List Int}:hor sh idx sh.length=dot (fun i=>idx.getD i 0) (rowS sh) sh.length:=by
  rw [← hor_dot sh.length (Nat.le_refl _),List.drop_length,pr_nil,Int.mul_one]
theorem Cxz {a b B C:Int} (ha:-B ≤ a ∧ a ≤ B) (hb:-C ≤ b ∧ b ≤ C):-(B * C) ≤ a * b ∧ a * b ≤ B * C:=by
  have h1:a.natAbs ≤ B.natAbs:=by omega
  have h2:b.natAbs ≤ C.natAbs:=by omega
  have h3:(a * b).natAbs ≤ (B * C).natAbs:=by rw [Int.natAbs_mul,Int.natAbs_mul];exact Nat.mul_le_mul h1 h2
  have h4:0 ≤ B * C:=Int.mul_nonneg (by omega) (by omega)
  omega
theorem Epz {f:Nat → Int} {st:List Int} {B C:Int}:∀ k,(∀ i,i < k → (-B ≤ f i ∧ f i ≤ B) ∧ -C ≤ st.getD i 0 ∧ st.getD i 0 ≤ C) → -((k:Int) * (B * C)) ≤ dot f st k ∧ dot f st k ≤ (k:Int) * (B * C)
  | 0,_=>by simp [dot]
  | k + 1,h=>by
    have ih:=Epz (f:=f) (st:=st) (B:=B) (C:=C) k fun i hi=>h i (by omega)
    have h1:=h k (by omega)
    have h2:=Cxz h1.1 h1.2
    simp only [dot,Int.natCast_add,Int.add_mul]
    simp only [Int.cast_ofNat_Int,Int.one_mul]
    omega


def idxP (sh idx:List Int) (i:Nat):Int:=if vIx sh idx=true ∧ i < sh.length then idx.getD i 0 else 0
def rankD (sh idx:List Int):Int:=if vSh sh=true ∧ vIx sh idx=true then dot (fun i=>idx.getD i 0) (rowS sh) sh.length else -1


abbrev VW (b:Int) (s t:AV):AV:=.agg [.int .i64 b,s,t]
abbrev RV (b:Int) (sh st:List Int):AV:=.agg [.int .i64 b,RI sh,RI st]
abbrev OV (b:Int) (sh st:List Int):AV → List (List AV) → Prop:=fun r H'=>r=.agg [.int .i64 b,.own 0 sh.length 1,.own 1 st.length 1] ∧ H'=[IL sh,IL st]


def newSt (sh:List Int):List Int:=if pr sh=0 then List.replicate sh.length 0 else rowS sh
def endI (x n b:Int):Int:=min (max (if b < 0 then -1 else 0) (if x < 0 then x + n else x)) (if b < 0 then n - 1 else n)
def sFrom (f n b:Int) (hf:Bool):Int:=if hf=true then endI f n b else if b < 0 then n - 1 else 0
def sTo (t n b:Int) (ht:Bool):Int:=if ht=true then endI t n b else if b < 0 then -1 else n
def idxOf (n f t b:Int) (hf ht:Bool):List Int:=if vS f t b hf ht=true ∧ 0 ≤ n ∧ n ≤ 60 then nums (sFrom f n b hf) b (cntN (sFrom f n b hf) (sTo t n b ht) b) else []
def pS (a k:Int):Int:=if k < 1 then 0 else a
def pE (a c k:Int):Int:=if k < 1 then 0 else if k=1 then a + 1 else if c < 0 then a + (k - 1) * c - 1 else a + (k - 1) * c + 1
def pC (c k:Int):Int:=if k ≤ 1 then 1 else c
abbrev PR (a c k:Int):AV:=rng (pS a k) (pE a c k) (pC c k)


theorem mul_bd {x y:Int} {p q:Nat} (h1:-(p:Int) ≤ x ∧ x ≤ p) (h2:-(q:Int) ≤ y ∧ y ≤ q):-((p * q:Nat):Int) ≤ x * y ∧ x * y ≤ (p * q:Nat):=by
  have e:(x * y).natAbs ≤ p * q:=by rw [Int.natAbs_mul];exact Nat.mul_le_mul (by omega) (by omega)
  omega


def slRg (a b c f t w:Int) (hf ht:Bool):AV :=
  if vR a b c=true ∧ vS f t w hf ht=true ∧ cntN a b c ≤ 60 then PR (a + sFrom f (cntN a b c) w hf * c) (c * w) (cntN (sFrom f (cntN a b c) w hf) (sTo t (cntN a b c) w ht) w) else rng 0 0 0
def mgSome (n f t w:Int) (hf ht:Bool) (f' t' w':Int) (hf' ht':Bool):AV :=
  let u:=sFrom f n w hf
  let k:=cntN u (sTo t n w ht) w
  let u':=sFrom f' k w' hf'
  let k':=cntN u' (sTo t' k w' ht') w'
  slc (pS (u + u' * w) k') (if pE (u + u' * w) (w * w') k' < 0 then 0 else pE (u + u' * w) (w * w') k') (pC (w * w') k') true (!decide (pE (u + u' * w) (w * w') k' < 0))
def mgS (n f t w:Int) (hf ht:Bool) (f' t' w':Int) (hf' ht':Bool):AV :=
  if (0 ≤ n ∧ n ≤ 60) ∧ vS f t w hf ht=true ∧ vS f' t' w' hf' ht'=true then mgSome n f t w hf ht f' t' w' hf' ht' else slc 0 0 0 false false
end VwM
set_option linter.unusedVariables false
set_option linter.unusedSimpArgs false
set_option linter.unnecessarySimpa false
set_option maxRecDepth 4000
namespace VwM
open Vw
open Go

def placeI (xs:List Int) (x:Int):Int:=if x ∈ xs then (xs.idxOf x:Int) else -1
theorem mem_getD {xs:List Int} {x:Int}:x ∈ xs ↔ ∃ j,j < xs.length ∧ xs.getD j 0=x:=by
  constructor
  · intro h
    obtain ⟨i,hi,e⟩:=List.getElem_of_mem h
    exact ⟨i,hi,by simp [List.getD,hi,e]⟩
  · rintro ⟨j,hj,rfl⟩
    simp [List.getD,hj]
theorem Cbz {xs:List Int} {j:Nat} (h:j < xs.length):xs.getD j 0 ∈ xs:=mem_getD.2 ⟨j,h,rfl⟩
def nrmA (xs:List Int):AV :=
  if xs.length=0 then rng 0 0 1 else if xs.length=1 then rng (xs.getD 0 0) (xs.getD 0 0 + 1) 1 else
    rng (xs.getD 0 0) (if xs.getD 1 0 - xs.getD 0 0 < 0 then xs.getD (xs.length - 1) 0 - 1 else xs.getD (xs.length - 1) 0 + 1) (xs.getD 1 0 - xs.getD 0 0)
def ascL (xs:List Int):List Int:=if 1 < xs.length ∧ xs.getD 0 0 > xs.getD 1 0 then xs.reverse else xs
def aS (a c:Int) (n:Nat):Int:=if c < 0 then a + ((n:Int) - 1) * c else a
def aC (c:Int):Int:=if c < 0 then 0 - c else c
theorem mem_nums {a c x:Int} {n:Nat}:x ∈ nums a c n ↔ ∃ i:Nat,i < n ∧ a + (i:Int) * c=x:=by
  simp [nums]
theorem C7z {a c x:Int} {n:Nat} (hc:1 ≤ c):x ∈ nums a c n ↔ a ≤ x ∧ x < a + ((n:Int) - 1) * c + 1 ∧ c ∣ x - a:=by
  rw [mem_nums]
  constructor
  · rintro ⟨i,hi,rfl⟩
    have h1:0 ≤ (i:Int) * c:=Int.mul_nonneg (by omega) (by omega)
    have h2:(i:Int) * c ≤ ((n:Int) - 1) * c:=Int.mul_le_mul_of_nonneg_right (by omega) (by omega)
    exact ⟨by omega,by omega,⟨i,by rw [Int.mul_comm c];omega⟩⟩
  · rintro ⟨h1,h2,k,hk⟩
    have h3:0 ≤ k:=by
      rcases Int.lt_or_le k 0 with h|h
      · have:c * k < 0:=Int.mul_neg_of_pos_of_neg (by omega) h
        omega
      · exact h
    have h4:k < n:=by
      rcases Int.lt_or_le k n with h|h
      · exact h
      · have:(n:Int) * c ≤ k * c:=Int.mul_le_mul_of_nonneg_right h (by omega)
        rw [Int.mul_comm c] at hk
        rw [Int.sub_mul] at h2
        omega
    refine ⟨k.toNat,by omega,?_⟩
    rw [show ((k.toNat:Nat):Int)=k by omega,Int.mul_comm]
    omega
theorem Gkz:∀ {l1 l2:List Int},l1.Pairwise (· < ·) → l2.Pairwise (· < ·) → (∀ x,x ∈ l1 ↔ x ∈ l2) → l1=l2
  | [],[],_,_,_=>rfl
  | [],y :: r,_,_,h=>by have:=(h y).2 (by simp);simp at this
  | x :: l,[],_,_,h=>by have:=(h x).1 (by simp);simp at this
  | x :: l,y :: r,h1,h2,h=>by
    rw [List.pairwise_cons] at h1 h2
    have hxy:x=y:=by
      have a:=(h x).1 (by simp)
      have b:=(h y).2 (by simp)
      rcases List.mem_cons.1 a with a|a
      · exact a
      · rcases List.mem_cons.1 b with b|b
        · exact b.symm
        · have:=h2.1 x a;have:=h1.1 y b;omega
    subst hxy
    congr 1
    refine Gkz h1.2 h2.2 fun z=>?_
    constructor
    · intro hz
      have:=(h z).1 (by simp [hz])
      rcases List.mem_cons.1 this with e|e
      · have:=h1.1 z hz;omega
      · exact e
    · intro hz
      have:=(h z).2 (by simp [hz])
      rcases List.mem_cons.1 this with e|e
      · have:=h2.1 z hz;omega
      · exact e
theorem Foz {a c:Int} (hc:1 ≤ c) (n:Nat):(nums a c n).Pairwise (· < ·):=by
  unfold nums
  rw [List.pairwise_map]
  refine List.Pairwise.imp ?_ List.pairwise_lt_range
  intro i j hij
  have:(i:Int) * c < (j:Int) * c:=Int.mul_lt_mul_of_pos_right (by omega) (by omega)
  omega
def commL (xs ys:List Int):List Int:=xs.filter fun x=>decide (x ∈ ys)
def revT (xs:List Int) (k:Nat):List Int:=xs.reverse.take k
def meA (a b c a' b' c':Int):AV:=if vR a b c=true ∧ vR a' b' c'=true then nrmA (commL (nums (aS a c (cntN a b c)) (aC c) (cntN a b c)) (nums (aS a' c' (cntN a' b' c')) (aC c') (cntN a' b' c'))) else rng 0 0 0
def cvB (a b c a' b' c':Int):Bool:=vR a b c && vR a' b' c' && decide (∀ x ∈ nums a' c' (cntN a' b' c'),x ∈ nums a c (cntN a b c))
theorem plainI [Inhabited GlobT] {P:Program} {f:Nat} {args:List AV} {xs:List Int} (h:BCall P f args [] (OI xs)):PCall P f args (fun r=>r=.rows true (IL xs) xs.length):=by
  refine (BCall.plain h).mono ?_
  rintro r ⟨r0,H',⟨rfl,rfl⟩,rfl⟩
  simp [AV.ren,nthH,List.map_map,Function.comp_def]
end VwM
set_option linter.unusedVariables false
set_option linter.unusedSimpArgs false
set_option linter.unnecessarySimpa false
set_option maxRecDepth 4000
namespace VwM
open Vw
open Go

def horF (sh:List Int) (f:Nat → Int):Nat → Int
  | 0=>0
  | k + 1=>horF sh f k * sh.getD k 0 + f k
theorem Gqz {sh:List Int} {f g:Nat → Int}:∀ {k:Nat},(∀ i,i < k → f i=g i) → horF sh f k=horF sh g k
  | 0,_=>rfl
  | k + 1,h=>by simp only [horF];rw [Gqz fun i hi=>h i (by omega),h k (by omega)]
def isIx (sh:List Int) (f:Nat → Int):Prop:=∀ i,i < sh.length → 0 ≤ f i ∧ f i < sh.getD i 0
theorem Dmz {sh:List Int} {f:Nat → Int} (hf:isIx sh f):∀ k,k ≤ sh.length → 0 ≤ horF sh f k ∧ horF sh f k + 1 ≤ pr (sh.take k)
  | 0,_=>by simp [horF,pr_nil]
  | k + 1,h=>by
    have ih:=Dmz hf k (by omega)
    have h3:=hf k (by omega)
    rw [B8z sh k (by omega)]
    have h5:(horF sh f k + 1) * sh.getD k 0 ≤ pr (sh.take k) * sh.getD k 0:=Int.mul_le_mul_of_nonneg_right ih.2 (by omega)
    have h6:0 ≤ horF sh f k * sh.getD k 0:=Int.mul_nonneg ih.1 (by omega)
    rw [Int.add_mul,Int.one_mul] at h5
    simp only [horF]
    omega
theorem kS_horF {sh:List Int} {f:Nat → Int} (hf:isIx sh f):∀ j,j ≤ sh.length → kS sh (horF sh f sh.length) j=horF sh f (sh.length - j)
  | 0,_=>by simp [kS]
  | j + 1,h=>by
    have ih:=kS_horF hf j (by omega)
    have h1:=hf (sh.length - 1 - j) (by omega)
    have h2:=Dmz hf (sh.length - 1 - j) (by omega)
    simp only [kS]
    rw [ih,show sh.length - j=sh.length - 1 - j + 1 by omega,show sh.length - (j + 1)=sh.length - 1 - j by omega]
    simp only [horF]
    have h3:0 ≤ horF sh f (sh.length - 1 - j) * sh.getD (sh.length - 1 - j) 0:=Int.mul_nonneg h2.1 (by omega)
    rw [Int.tdiv_eq_ediv_of_nonneg (by omega),Int.add_comm,Int.add_mul_ediv_right _ _ (by omega),Int.ediv_eq_zero_of_lt h1.1 h1.2]
    omega
theorem dig_horF {sh:List Int} {f:Nat → Int} (hf:isIx sh f) {i:Nat} (hi:i < sh.length):dig sh (horF sh f sh.length) i=f i:=by
  unfold dig
  have h1:=hf i hi
  have h2:=Dmz hf i (by omega)
  rw [kS_horF hf _ (by omega),show sh.length - (sh.length - 1 - i)=i + 1 by omega]
  simp only [horF]
  have h3:0 ≤ horF sh f i * sh.getD i 0:=Int.mul_nonneg h2.1 (by omega)
  rw [Int.tmod_eq_emod_of_nonneg (by omega),Int.add_comm,Int.add_mul_emod_self_right,Int.emod_eq_of_lt h1.1 h1.2]
theorem kS_lt {sh:List Int} {k:Int} (hk:0 ≤ k) (hp:∀ i,i < sh.length → 1 ≤ sh.getD i 0) (h:k < pr sh):∀ j,j ≤ sh.length → kS sh k j < pr (sh.take (sh.length - j))
  | 0,_=>by simpa [kS] using h
  | j + 1,hj=>by
    have ih:=kS_lt hk hp h j (by omega)
    have h1:=hp (sh.length - 1 - j) (by omega)
    have h2:=B2z hk hp j (by omega)
    rw [show sh.length - j=sh.length - 1 - j + 1 by omega,B8z _ _ (by omega)] at ih
    simp only [kS]
    rw [show sh.length - (j + 1)=sh.length - 1 - j by omega,Int.tdiv_eq_ediv_of_nonneg h2.1]
    exact Int.ediv_lt_of_lt_mul (by omega) ih
theorem horF_dig {sh:List Int} {k:Int} (hk:0 ≤ k) (hp:∀ i,i < sh.length → 1 ≤ sh.getD i 0) (h:k < pr sh):∀ m,m ≤ sh.length → horF sh (dig sh k) m=kS sh k (sh.length - m)
  | 0,_=>by
    have h1:=kS_lt hk hp h sh.length (Nat.le_refl _)
    have h2:=B2z hk hp sh.length (Nat.le_refl _)
    simp only [Nat.sub_self,List.take_zero,pr_nil] at h1
    simp only [horF,Nat.sub_zero]
    omega
  | m + 1,hm=>by
    have ih:=horF_dig hk hp h m (by omega)
    simp only [horF]
    rw [ih,show sh.length - m=(sh.length - (m + 1)) + 1 by omega]
    have h2:=B2z hk hp (sh.length - (m + 1)) (by omega)
    simp only [kS,dig]
    rw [show sh.length - 1 - (sh.length - (m + 1))=m by omega,show sh.length - 1 - m=sh.length - (m + 1) by omega]
    have:=Int.tdiv_mul_add_tmod (kS sh k (sh.length - (m + 1))) (sh.getD m 0)
    omega
theorem horF_dig_all {sh:List Int} {k:Int} (hk:0 ≤ k) (hp:∀ i,i < sh.length → 1 ≤ sh.getD i 0) (h:k < pr sh):horF sh (dig sh k) sh.length=k:=by
  rw [horF_dig hk hp h _ (Nat.le_refl _)];simp [kS]
theorem Eqz {sh:List Int} (hg:good4 sh) {k:Int} (hk:0 ≤ k) (h:k < pr sh):isIx sh (dig sh k):=fun i hi =>
  dig_bound hk (Coz hg (by omega)) (fun i hi=>(Elz hg hi).2) hi

def cellK (b:Int) (sh st:List Int) (k:Int):Int:=b + dot (dig sh k) st sh.length
def offs (b:Int) (sh st:List Int):List Int:=(List.range (pr sh).toNat).map fun k:Nat=>cellK b sh st k
theorem Bmz (b:Int) (sh st:List Int):(offs b sh st).length=(pr sh).toNat:=by simp [offs]
theorem mem_offs {b:Int} {sh st:List Int} {x:Int}:x ∈ offs b sh st ↔ ∃ k:Nat,k < (pr sh).toNat ∧ cellK b sh st k=x:=by simp [offs]
theorem Bsz {b:Int} {sh st:List Int} (hg:good4 sh) {x:Int}:x ∈ offs b sh st ↔ ∃ f,isIx sh f ∧ b + dot f st sh.length=x:=by
  rw [mem_offs]
  constructor
  · rintro ⟨k,hk,rfl⟩
    exact ⟨dig sh k,Eqz hg (by omega) (by omega),rfl⟩
  · rintro ⟨f,hf,rfl⟩
    have h:=Dmz hf sh.length (Nat.le_refl _)
    rw [List.take_length] at h
    refine ⟨(horF sh f sh.length).toNat,by omega,?_⟩
    unfold cellK
    rw [show (((horF sh f sh.length).toNat:Nat):Int)=horF sh f sh.length by omega,Eoz fun i hi=>dig_horF hf hi]
def vSt (st:List Int) (n:Nat):Bool:=decide (st.length=n) && allI st (-60) 60
theorem Gzz {st:List Int} {n:Nat}:vSt st n=true ↔ st.length=n ∧ ∀ x ∈ st,-60 ≤ x ∧ x ≤ 60:=by
  simp only [vSt,Bool.and_eq_true,decide_eq_true_eq,Cez]
theorem vSt_at {st:List Int} {n i:Nat} (h:vSt st n=true) (hi:i < n):-60 ≤ st.getD i 0 ∧ st.getD i 0 ≤ 60:=by
  obtain ⟨h1,h2⟩:=Gzz.1 h
  exact h2 _ (Cbz (by omega))
def vV (b:Int) (sh st:List Int):Bool:=vSh sh && vSt st sh.length && (decide (0 ≤ b) && decide (b ≤ 60)) && (decide (pr sh=0) || allI (offs b sh st) 0 59)
theorem vV_spec {b:Int} {sh st:List Int}:vV b sh st=true ↔ vSh sh=true ∧ vSt st sh.length=true ∧ (0 ≤ b ∧ b ≤ 60) ∧ (pr sh=0 ∨ ∀ x ∈ offs b sh st,0 ≤ x ∧ x ≤ 59):=by
  simp only [vV,Bool.and_eq_true,Bool.or_eq_true,decide_eq_true_eq,Cez,and_assoc]
theorem vV_cells {b:Int} {sh st:List Int} (h:vV b sh st=true):∀ x ∈ offs b sh st,0 ≤ x ∧ x ≤ 59:=by
  obtain ⟨h1,h2,h3,h4⟩:=vV_spec.1 h
  rcases h4 with h4|h4
  · intro x hx
    obtain ⟨k,hk,_⟩:=mem_offs.1 hx
    omega
  · exact h4
def lowS (sh st:List Int):Nat → Int
  | 0=>0
  | k + 1=>lowS sh st k + min ((sh.getD k 0 - 1) * st.getD k 0) 0
def highS (sh st:List Int):Nat → Int
  | 0=>0
  | k + 1=>highS sh st k + max ((sh.getD k 0 - 1) * st.getD k 0) 0
theorem D8z {sh st:List Int} {f:Nat → Int} (hf:isIx sh f):∀ k,k ≤ sh.length → lowS sh st k ≤ dot f st k ∧ dot f st k ≤ highS sh st k
  | 0,_=>by simp [lowS,highS,dot]
  | k + 1,h=>by
    have ih:=D8z (st:=st) hf k (by omega)
    have h1:=hf k (by omega)
    simp only [lowS,highS,dot]
    have:min ((sh.getD k 0 - 1) * st.getD k 0) 0 ≤ f k * st.getD k 0 ∧ f k * st.getD k 0 ≤ max ((sh.getD k 0 - 1) * st.getD k 0) 0:=by
      rcases Int.lt_or_le (st.getD k 0) 0 with hs|hs
      · have a1:=Int.mul_nonneg h1.1 (b:=0 - st.getD k 0) (by omega)
        have a2:=Int.mul_nonneg (a:=sh.getD k 0 - 1 - f k) (b:=0 - st.getD k 0) (by omega) (by omega)
        rw [Int.mul_sub,Int.mul_zero] at a1 a2
        rw [Int.sub_mul] at a2
        omega
      · have a1:=Int.mul_nonneg h1.1 hs
        have a2:=Int.mul_nonneg (a:=sh.getD k 0 - 1 - f k) (by omega) hs
        rw [Int.sub_mul] at a2
        omega
    omega
theorem dot_low {sh st:List Int}:∀ k,k ≤ sh.length → (∀ i,i < sh.length → 1 ≤ sh.getD i 0) → dot (fun i=>if st.getD i 0 < 0 then sh.getD i 0 - 1 else 0) st k=lowS sh st k
  | 0,_,_=>rfl
  | k + 1,h,hp=>by
    simp only [lowS,dot]
    rw [dot_low k (by omega) hp]
    have:=hp k (by omega)
    split
    · rename_i hs
      have a2:=Int.mul_nonneg (a:=sh.getD k 0 - 1) (b:=0 - st.getD k 0) (by omega) (by omega)
      rw [Int.mul_sub,Int.mul_zero] at a2
      omega
    · have a2:=Int.mul_nonneg (a:=sh.getD k 0 - 1) (b:=st.getD k 0) (by omega) (by omega)
      omega
theorem dot_high {sh st:List Int}:∀ k,k ≤ sh.length → (∀ i,i < sh.length → 1 ≤ sh.getD i 0) → dot (fun i=>if st.getD i 0 < 0 then 0 else sh.getD i 0 - 1) st k=highS sh st k
  | 0,_,_=>rfl
  | k + 1,h,hp=>by
    simp only [highS,dot]
    rw [dot_high k (by omega) hp]
    have:=hp k (by omega)
    split
    · rename_i hs
      have a2:=Int.mul_nonneg (a:=sh.getD k 0 - 1) (b:=0 - st.getD k 0) (by omega) (by omega)
      rw [Int.mul_sub,Int.mul_zero] at a2
      omega
    · have a2:=Int.mul_nonneg (a:=sh.getD k 0 - 1) (b:=st.getD k 0) (by omega) (by omega)
      omega
theorem low_offs {b:Int} {sh st:List Int} (hg:good4 sh) (h1:1 ≤ pr sh):b + lowS sh st sh.length ∈ offs b sh st ∧ ∀ x ∈ offs b sh st,b + lowS sh st sh.length ≤ x:=by
  have hp:=Coz hg h1
  constructor
  · refine (Bsz hg).2 ⟨fun i=>if st.getD i 0 < 0 then sh.getD i 0 - 1 else 0,fun i hi=>?_,by rw [dot_low _ (Nat.le_refl _) hp]⟩
    have:=hp i hi
    simp only
    split<;>omega
  · intro x hx
    obtain ⟨f,hf,rfl⟩:=(Bsz hg).1 hx
    have:=D8z (st:=st) hf sh.length (Nat.le_refl _)
    omega
theorem high_offs {b:Int} {sh st:List Int} (hg:good4 sh) (h1:1 ≤ pr sh):b + highS sh st sh.length ∈ offs b sh st ∧ ∀ x ∈ offs b sh st,x ≤ b + highS sh st sh.length:=by
  have hp:=Coz hg h1
  constructor
  · refine (Bsz hg).2 ⟨fun i=>if st.getD i 0 < 0 then 0 else sh.getD i 0 - 1,fun i hi=>?_,by rw [dot_high _ (Nat.le_refl _) hp]⟩
    have:=hp i hi
    simp only
    split<;>omega
  · intro x hx
    obtain ⟨f,hf,rfl⟩:=(Bsz hg).1 hx
    have:=D8z (st:=st) hf sh.length (Nat.le_refl _)
    omega
def bdL (b:Int) (sh st:List Int):Int:=if pr sh=0 then -1 else b + lowS sh st sh.length
def bdH (b:Int) (sh st:List Int):Int:=if pr sh=0 then -1 else b + highS sh st sh.length
theorem bd_all {b:Int} {sh st:List Int} (hg:good4 sh) (h1:1 ≤ pr sh) {l h:Int}:allI (offs b sh st) l h=(decide (l ≤ b + lowS sh st sh.length) && decide (b + highS sh st sh.length ≤ h)):=by
  rw [Bool.eq_iff_iff,Cez,Bool.and_eq_true,decide_eq_true_eq,decide_eq_true_eq]
  obtain ⟨a1,a2⟩:=low_offs (b:=b) (st:=st) hg h1
  obtain ⟨a3,a4⟩:=high_offs (b:=b) (st:=st) hg h1
  constructor
  · intro h
    exact ⟨(h _ a1).1,(h _ a3).2⟩
  · rintro ⟨h5,h6⟩ x hx
    have:=a2 x hx
    have:=a4 x hx
    omega
def mnL (xs:List Int):Nat → Int
  | 0=>xs.getD 0 0
  | k + 1=>min (mnL xs k) (xs.getD k 0)
def mxL (xs:List Int):Nat → Int
  | 0=>xs.getD 0 0
  | k + 1=>max (mxL xs k) (xs.getD k 0)
theorem mxL_spec {xs:List Int} (h:0 < xs.length):∀ k,k ≤ xs.length → mxL xs k ∈ xs ∧ ∀ j,j < k → xs.getD j 0 ≤ mxL xs k
  | 0,_=>⟨Cbz h,fun j hj=>by omega⟩
  | k + 1,hk=>by
    have ih:=mxL_spec h k (by omega)
    simp only [mxL]
    have:=Cbz (xs:=xs) (j:=k) (by omega)
    constructor
    · rcases Int.le_total (mxL xs k) (xs.getD k 0) with h1|h1
      · rw [Int.max_eq_right h1];exact this
      · rw [Int.max_eq_left h1];exact ih.1
    · intro j hj
      by_cases h1:j=k
      · subst h1;omega
      · have:=ih.2 j (by omega);omega
theorem Ekz {sh st:List Int} (hg:good4 sh) (hs:vSt st sh.length=true):∀ k,k ≤ sh.length → -(3600 * (k:Int)) ≤ lowS sh st k ∧ lowS sh st k ≤ 0 ∧ 0 ≤ highS sh st k ∧ highS sh st k ≤ 3600 * (k:Int)
  | 0,_=>by simp [lowS,highS]
  | k + 1,h=>by
    have ih:=Ekz hg hs k (by omega)
    have h1:=Elz hg (k:=k) (by omega)
    have h2:=vSt_at hs (i:=k) (by omega)
    have h3:=mul_bd (x:=sh.getD k 0 - 1) (y:=st.getD k 0) (p:=60) (q:=60) (by omega) (by omega)
    simp only [lowS,highS]
    omega
end VwM
set_option linter.unusedVariables false
set_option linter.unusedSimpArgs false
set_option linter.unnecessarySimpa false
set_option maxRecDepth 4000
namespace VwM
open Vw
open Go

theorem mkAV_bools (bs:List Bool) (off:Nat):mkAV false (((bs.map AV.bool).drop off).take 1)=if off < bs.length then some (.bool (bs.getD off false)) else none:=by
  by_cases h:off < bs.length
  · rw [if_pos h,List.drop_eq_getElem_cons (by simpa using h)]
    simp [mkAV,h,List.getD]
  · rw [if_neg h,List.drop_eq_nil_of_le (by simp;omega)]
    rfl
theorem innL_boolsM (p:Nat → Bool) (bs:List Bool):innL p (bs.map AV.bool)=true:=by
  induction bs with
  | nil=>rfl
  | cons x r ih=>simp [innL,AV.inn,ih]
attribute [push_cast] mkAV_bools
def met (xs:List Int) (k:Nat):List Bool:=(List.range 60).map fun c:Nat=>decide ((c:Int) ∈ xs.take k)
theorem met_length (xs:List Int) (k:Nat):(met xs k).length=60:=by simp [met]
theorem met_zero (xs:List Int):(met xs 0).map AV.bool=List.replicate 60 (AV.bool false):=by
  rfl
theorem met_getD {xs:List Int} {k c:Nat} (h:c < 60):(met xs k).getD c false=decide ((c:Int) ∈ xs.take k):=by simp [met,List.getD,h]
theorem met_set {xs:List Int} {k c:Nat} (hk:k < xs.length) (hc:xs.getD k 0=c) (h:c < 60):(met xs k).set c true=met xs (k + 1):=by
  refine List.ext_getElem (by simp [met]) fun i h1 h2=>?_
  have hi:i < 60:=by simpa [met] using h2
  rw [List.getElem_set]
  simp only [met,List.getElem_map,List.getElem_range]
  rw [Cfz _ _ hk,hc]
  by_cases e:c=i
  · subst e;simp
  · rw [if_neg e]
    have:¬ (i:Int)=c:=by omega
    simp [this]
theorem nodup_iff {xs:List Int}:xs.Nodup ↔ ∀ j,j < xs.length → xs.getD j 0 ∉ xs.take j:=by
  have key:∀ k,k ≤ xs.length → ((xs.take k).Nodup ↔ ∀ j,j < k → xs.getD j 0 ∉ xs.take j):=by
    intro k
    induction k with
    | zero=>intro _;simp
    | succ k ih =>
      intro hk
      rw [Cfz _ _ (by omega),List.nodup_append]
      rw [ih (by omega)]
      constructor
      · rintro ⟨h1,_,h3⟩ j hj
        by_cases e:j=k
        · subst e
          intro hm
          exact h3 _ hm _ (by simp) rfl
        · exact h1 j (by omega)
      · intro h
        refine ⟨fun j hj=>h j (by omega),by simp,?_⟩
        intro a ha b hb e
        simp only [List.mem_singleton] at hb
        subst hb e
        exact h k (by omega) ha
  have:=key xs.length (Nat.le_refl _)
  rwa [List.take_length] at this
theorem not_nodup {xs:List Int} {j:Nat} (h:j < xs.length) (hm:xs.getD j 0 ∈ xs.take j):¬ xs.Nodup:=fun hn=>nodup_iff.1 hn j h hm
def oneB (b:Int) (sh st:List Int):Bool:=vV b sh st && decide (offs b sh st).Nodup
end VwM
set_option linter.unusedVariables false
set_option linter.unusedSimpArgs false
set_option linter.unnecessarySimpa false
set_option maxRecDepth 4000
namespace VwM
open Vw
open Go

theorem Gxz {n:Int} (h0:0 ≤ n) (h1:n < 1099511627776):IntKind.wrap .i64 n=n:=IntWalk.i64_in n (by omega)
theorem xor_bound {a b:Int} (ha:0 ≤ a ∧ a < 1099511627776) (hb:0 ≤ b ∧ b < 1099511627776):0 ≤ bits .xor .i64 a b ∧ bits .xor .i64 a b < 1099511627776:=by
  have h:(BitVec.ofInt 64 a ^^^ BitVec.ofInt 64 b).toNat < 1099511627776:=by
    rw [BitVec.toNat_xor,BitVec.toNat_ofInt,BitVec.toNat_ofInt]
    have e1:(a % ((2 ^ 64:Nat):Int)).toNat < 2 ^ 40:=by
      rw [Int.emod_eq_of_lt ha.1 (by omega)];omega
    have e2:(b % ((2 ^ 64:Nat):Int)).toNat < 2 ^ 40:=by
      rw [Int.emod_eq_of_lt hb.1 (by omega)];omega
    exact Nat.xor_lt_two_pow e1 e2
  have e:bits .xor .i64 a b=IntKind.wrap .i64 ((BitVec.ofInt 64 a ^^^ BitVec.ofInt 64 b).toNat:Int):=rfl
  rw [e,Gxz (by omega) (by omega)]
  omega
abbrev UL (bs:List Int):List AV:=bs.map (AV.int .u8)
abbrev RD (bs:List Int) (p:Int):List AV:=[.rows false (UL bs) bs.length,.int .i64 p]
def okB (bs:List Int):Prop:=bs.length ≤ 2000 ∧ ∀ x ∈ bs,0 ≤ x ∧ x ≤ 255
theorem okB_at {bs:List Int} (h:okB bs) {i:Nat} (hi:i < bs.length):0 ≤ bs.getD i 0 ∧ bs.getD i 0 ≤ 255:=h.2 _ (Cbz hi)
theorem Dhz {x n:Int} (hx:0 ≤ x) (hn:0 < n):0 ≤ x.tmod n ∧ x.tmod n < n:=⟨Int.tmod_nonneg n hx,Int.tmod_lt_of_pos x hn⟩
def unI:List AV → List Int
  | []=>[]
  | .int _ n :: r=>n :: unI r
  | _ :: r=>0 :: unI r
theorem C4z:unI []=[]:=rfl
theorem B6z (k:IntKind) (n:Int) (r:List AV):unI (.int k n :: r)=n :: unI r:=rfl
theorem unI_IL (xs:List Int):unI (IL xs)=xs:=by
  induction xs with
  | nil=>rfl
  | cons x r ih=>show x :: unI (IL r)=_;rw [ih]
attribute [simp] C4z B6z unI_IL
end VwM
set_option linter.unusedVariables false
set_option linter.unusedSimpArgs false
set_option linter.unnecessarySimpa false
set_option maxRecDepth 4000
namespace VwM
open Vw
open Go

def lenI (a b c:Int):Int:=if vR a b c=true then cntN a b c else -1
def nrR (a b c:Int):AV:=if vR a b c=true then PR a c (cntN a b c) else rng 0 0 0
def rvR (a b c:Int):AV:=if vR a b c=true then PR (a + ((cntN a b c:Int) - 1) * c) (0 - c) (cntN a b c) else rng 0 0 0
def plI (a b c x:Int):Int:=if vR a b c=true then placeI (nums a c (cntN a b c)) x else -1
def fromEnd (i n:Int):Int:=if i < 0 then i + n else i
def naB (a b c i:Int):Bool:=vR a b c && decide (0 ≤ fromEnd i (cntN a b c)) && decide (fromEnd i (cntN a b c) < cntN a b c)
def naI (a b c i:Int):Int:=if naB a b c i=true then a + fromEnd i (cntN a b c) * c else 0
end VwM
set_option linter.unusedVariables false
set_option linter.unusedSimpArgs false
set_option linter.unnecessarySimpa false
set_option maxRecDepth 4000
namespace VwM
open Vw
open Go

end VwM
set_option linter.unusedVariables false
set_option linter.unusedSimpArgs false
set_option linter.unnecessarySimpa false
set_option maxRecDepth 4000
namespace VwM
open Vw
open Go

theorem hor_horF {sh idx:List Int}:∀ k,hor sh idx k=horF sh (fun i=>idx.getD i 0) k
  | 0=>rfl
  | k + 1=>by simp only [hor,horF,hor_horF k]
theorem unr_isIx {sh:List Int} (hg:good4 sh) {k:Int} (hk:0 ≤ k) (h:k < pr sh):vIx sh (unr sh k)=true:=by
  refine vIx_spec.2 ⟨by simp,fun i hi=>?_⟩
  have hi':i < sh.length:=by simpa using hi
  have:=Eqz hg hk h i hi'
  have e:(unr sh k).getD i 0=dig sh k i:=by simp [unr,List.getD,hi']
  rw [e]
  omega
theorem rank_unr {sh:List Int} (hs:vSh sh=true) {k:Int} (hk:0 ≤ k) (h:k < pr sh):rankD sh (unr sh k)=k:=by
  have hg:=(Boz hs).1
  unfold rankD
  rw [if_pos ⟨hs,unr_isIx hg hk h⟩,← hor_all,hor_horF]
  rw [Gqz (g:=dig sh k) fun i hi=>by simp [unr,List.getD,hi]]
  exact horF_dig_all hk (Coz hg (by omega)) h
end VwM
set_option linter.unusedVariables false
set_option linter.unusedSimpArgs false
set_option linter.unnecessarySimpa false
set_option maxRecDepth 4000
namespace VwM
open Vw
open Go

def sumT (xs:List Int):Nat → Int
  | 0=>0
  | k + 1=>sumT xs k + xs.getD k 0
def sumI (a b c:Int):Int:=if vR a b c=true then sumT (nums a c (cntN a b c)) (cntN a b c) else 0
def takesL (xs at_:List Int):List Int:=at_.map fun i=>xs.getD i.toNat 0
end VwM
set_option linter.unusedVariables false
set_option linter.unusedSimpArgs false
set_option linter.unnecessarySimpa false
set_option maxRecDepth 4000
namespace VwM
open Vw
open Go

end VwM
set_option linter.unusedVariables false
set_option linter.unusedSimpArgs false
set_option maxRecDepth 4000
namespace VwM
open Vw
open Go

def wo (xs:List Int) (k:Nat):List Int:=xs.take k ++ xs.drop (k + 1)
end VwM
set_option linter.unusedVariables false
set_option linter.unusedSimpArgs false
set_option maxRecDepth 4000
namespace VwM
open Vw
open Go

def spS (b:Int) (sh st:List Int):Int:=if pr sh=0 then 0 else bdL b sh st
def spN (b:Int) (sh st:List Int):Nat:=if pr sh=0 then 0 else (bdH b sh st - bdL b sh st + 1).toNat
def mayB (b:Int) (sh st:List Int) (b':Int) (sh' st':List Int):Bool :=
  vV b sh st && vV b' sh' st' && decide (0 < (commL (nums (spS b sh st) 1 (spN b sh st)) (nums (spS b' sh' st') 1 (spN b' sh' st'))).length)
def bothL (xs ys:List Int):List Int:=(nums 0 1 60).filter fun x=>decide (x ∈ xs ∧ x ∈ ys)
def bothT (xs ys:List Int) (k:Nat):List Int:=(nums 0 1 k).filter fun x=>decide (x ∈ xs ∧ x ∈ ys)
theorem bothT_le (xs ys:List Int) (k:Nat):(bothT xs ys k).length ≤ k:=by
  have:=List.length_filter_le (fun x=>decide (x ∈ xs ∧ x ∈ ys)) (nums 0 1 k)
  rw [D2z] at this
  exact this
theorem Ejz {xs ys:List Int} {x:Int}:x ∈ bothL xs ys ↔ (0 ≤ x ∧ x ≤ 59) ∧ x ∈ xs ∧ x ∈ ys:=by
  unfold bothL
  rw [List.mem_filter,C7z (by omega)]
  simp only [decide_eq_true_eq]
  constructor
  · rintro ⟨⟨a,b,_⟩,h⟩;exact ⟨by omega,h⟩
  · rintro ⟨a,h⟩;exact ⟨⟨by omega,by omega,⟨_,(Int.one_mul _).symm⟩⟩,h⟩
theorem bothL_sorted (xs ys:List Int):(bothL xs ys).Pairwise (· < ·):=List.Pairwise.filter _ (Foz (by omega) _)
theorem Fgz (xs ys:List Int):(bothL xs ys).length ≤ 60:=bothT_le xs ys 60
def lineA (b:Int) (sh st:List Int):AV:=if vV b sh st=true ∧ sh.length=1 then nrmA (bothL (offs b sh st) (offs b sh st)) else rng 0 0 0
end VwM
set_option linter.unusedVariables false
set_option linter.unusedSimpArgs false
set_option maxRecDepth 4000
namespace VwM
open Vw
open Go

def MVB (v:Bool) (b:Int):Int:=if v=true then b else 0
def MVL (v:Bool) (l:List Int):List Int:=if v=true then l else []
theorem Bkz (b:Int):MVB true b=b:=rfl
theorem Dfz (b:Int):MVB false b=0:=rfl
theorem Bjz (l:List Int):MVL true l=l:=rfl
theorem Dez (l:List Int):MVL false l=[]:=rfl
abbrev MV (v:Bool) (b:Int) (sh st:List Int):AV → List (List AV) → Prop:=fun r H' =>
  r=.tup [.agg [.int .i64 (MVB v b),.own 0 (MVL v sh).length 1,.own 1 (MVL v st).length 1],.bool v] ∧ H'=[IL (MVL v sh),IL (MVL v st)]

def ins (xs:List Int) (k:Nat) (x:Int):List Int:=xs.take k ++ x :: xs.drop k
def cutK (n f t w:Int) (hf ht:Bool):Nat:=cntN (sFrom f n w hf) (sTo t n w ht) w
def cutSh (sh:List Int) (j:Nat) (f t w:Int) (hf ht:Bool):List Int:=sh.set j (cutK (sh.getD j 0) f t w hf ht)
def cutX (sh st:List Int) (j:Nat) (f t w:Int) (hf ht:Bool):Int:=if (cutK (sh.getD j 0) f t w hf ht:Int) ≤ 1 then 0 else pC w (cutK (sh.getD j 0) f t w hf ht) * st.getD j 0
def cutSt (sh st:List Int) (j:Nat) (f t w:Int) (hf ht:Bool):List Int :=
  if pr (cutSh sh j f t w hf ht)=0 then List.replicate sh.length 0 else st.set j (cutX sh st j f t w hf ht)
def cutB (b:Int) (sh st:List Int) (j:Nat) (f t w:Int) (hf ht:Bool):Int :=
  if pr (cutSh sh j f t w hf ht)=0 then 0 else b + pS (sFrom f (sh.getD j 0) w hf) (cutK (sh.getD j 0) f t w hf ht) * st.getD j 0
end VwM
set_option linter.unusedVariables false
set_option linter.unusedSimpArgs false
namespace VwM
open Vw Go

def vMem (mem:List Int):Bool:=decide (mem.length ≤ 60) && allI mem 0 255
def seeB (mem:List Int) (b:Int) (sh st:List Int):Bool:=vMem mem && vV b sh st && allI (offs b sh st) 0 ((mem.length:Int) - 1)

def wdt (sh st:List Int):Nat:=if sh.length=0 then 1 else if st.getD (sh.length - 1) 0=1 then (sh.getD (sh.length - 1) 0).toNat else 1


def putK (mem cells vals:List Int):Nat → List Int
  | 0=>mem
  | k + 1=>(putK mem cells vals k).set (cells.getD k 0).toNat (vals.getD k 0)
def putL (mem cells vals:List Int):List Int:=putK mem cells vals cells.length
def carK (mem to fr:List Int):Nat → List Int
  | 0=>mem
  | k + 1=>(carK mem to fr k).set (to.getD k 0).toNat ((carK mem to fr k).getD (fr.getD k 0).toNat 0)
def carL (mem to fr:List Int):List Int:=carK mem to fr fr.length
def addK (mem cells vals:List Int):Nat → List Int
  | 0=>mem
  | k + 1=>(addK mem cells vals k).set (cells.getD k 0).toNat (((addK mem cells vals k).getD (cells.getD k 0).toNat 0 + vals.getD k 0).tmod 256)
def addL (mem cells vals:List Int):List Int:=addK mem cells vals cells.length
def rvK (xs:List Int) (k:Nat):List Int:=(List.range xs.length).map fun i=>if i < k ∨ xs.length ≤ i + k then xs.getD (xs.length - 1 - i) 0 else xs.getD i 0

def mtL (xs ys:List Int):Bool:=(List.range xs.length).any fun i=>decide (xs.getD i 0 ∈ ys.drop (i + 1))
def chK (a b:List Int):Nat → List Int
  | 0=>[]
  | k + 1=>if a.getD k 0=b.getD k 0 then chK a b k else chK a b k ++ [(k:Int)]
def chL (a b:List Int):List Int:=chK a b a.length
end VwM
set_option linter.unusedVariables false
set_option linter.unusedSimpArgs false
namespace VwM
open Go Vw

def rup (n b:Int):Int:=(n + b - 1).tdiv b * b
def alg (al:Bool) (n s:Int):Int:=if al=true then rup n s else n
def fE (al:Bool) (s:List Int):Nat → Int
  | 0=>0
  | k + 1=>alg al (fE al s k) (s.getD k 0) + s.getD k 0
def fP (al:Bool) (s:List Int) (k:Nat):Int:=alg al (fE al s k) (s.getD k 0)
def fM (al:Bool) (s:List Int):Nat → Int
  | 0=>1
  | k + 1=>if al=true then max (fM al s k) (s.getD k 0) else fM al s k
def fN (al:Bool) (s:List Int):Int:=rup (fE al s s.length) (fM al s s.length)
def fPL (al:Bool) (s:List Int):List Int:=(List.range s.length).map (fP al s)
def szO (x:Int):Bool:=decide (x=1) || decide (x=2) || decide (x=4)
def vF (s:List Int):Bool:=s.all szO && decide (1 ≤ s.length) && decide (s.length ≤ 5)

theorem G2z {x:Int}:szO x=true ↔ x=1 ∨ x=2 ∨ x=4:=by simp [szO,or_assoc]
theorem C3z {s:List Int}:vF s=true ↔ (∀ i,i < s.length → s.getD i 0=1 ∨ s.getD i 0=2 ∨ s.getD i 0=4) ∧ 1 ≤ s.length ∧ s.length ≤ 5:=by
  simp only [vF,Bool.and_eq_true,decide_eq_true_eq,List.all_eq_true,G2z,and_assoc]
  refine and_congr_left fun _=>⟨fun h i hi=>h _ (Cbz hi),fun h x hx=>?_⟩
  obtain ⟨i,hi,rfl⟩:=List.getElem_of_mem hx
  have:=h i hi
  simpa [List.getD,hi] using this
theorem vF_bad {s:List Int} {i:Nat} (hi:i < s.length) (h:szO (s.getD i 0)=false):vF s=false:=by
  rw [Bool.eq_false_iff]
  intro h'
  have:=G2z.2 ((C3z.1 h').1 i hi)
  rw [h] at this
  cases this
theorem vF_len {s:List Int} (h:¬ (1 ≤ s.length ∧ s.length ≤ 5)):vF s=false:=by
  rw [Bool.eq_false_iff];exact fun h'=>h (C3z.1 h').2

theorem rup_one (n:Int):rup n 1=n:=by simp [rup]
theorem G8z {n b:Int} (hn:0 ≤ n) (hb:b=1 ∨ b=2 ∨ b=4):n ≤ rup n b ∧ rup n b < n + b ∧ rup n b % b=0:=by
  have h:(n + b - 1).tdiv b=(n + b - 1) / b:=Int.tdiv_eq_ediv_of_nonneg (by omega)
  unfold rup
  rw [h]
  rcases hb with rfl|rfl|rfl<;>omega
theorem alg_spec {al:Bool} {n b:Int} (hn:0 ≤ n) (hb:b=1 ∨ b=2 ∨ b=4):n ≤ alg al n b ∧ alg al n b < n + b:=by
  unfold alg
  split
  · exact ⟨(G8z hn hb).1,(G8z hn hb).2.1⟩
  · omega
theorem Doz {al:Bool} {s:List Int} (h:∀ i,i < s.length → s.getD i 0=1 ∨ s.getD i 0=2 ∨ s.getD i 0=4):∀ k,k ≤ s.length → 0 ≤ fE al s k ∧ fE al s k ≤ 7 * (k:Int)
  | 0,_=>by simp [fE]
  | k + 1,hk=>by
    have ih:=Doz (al:=al) h k (by omega)
    have h1:=alg_spec (al:=al) ih.1 (h k (by omega))
    have h2:=h k (by omega)
    simp only [fE]
    rcases h2 with h2|h2|h2<;>rw [h2] at h1 ⊢<;>omega
theorem Ccz {al:Bool} {s:List Int} (h:∀ i,i < s.length → s.getD i 0=1 ∨ s.getD i 0=2 ∨ s.getD i 0=4) (k:Nat) (hk:k < s.length):fE al s k ≤ fP al s k ∧ fP al s k < fE al s k + s.getD k 0 ∧ fE al s (k + 1)=fP al s k + s.getD k 0 ∧ 0 ≤ fP al s k ∧ fP al s k ≤ 7 * (k:Int) + 3:=by
  have h0:=Doz (al:=al) h k (by omega)
  have h1:=alg_spec (al:=al) h0.1 (h k hk)
  have h2:=h k hk
  refine ⟨h1.1,h1.2,rfl,?_,?_⟩<;>unfold fP<;>omega
theorem Hiz {al:Bool} {s:List Int} (h:∀ i,i < s.length → s.getD i 0=1 ∨ s.getD i 0=2 ∨ s.getD i 0=4) (j:Nat):∀ k,j ≤ k → k ≤ s.length → fE al s j ≤ fE al s k
  | 0,h1,_=>by rw [show j=0 by omega];omega
  | k + 1,h1,h2=>by
    rcases Nat.lt_or_ge k j with hj|hj
    · rw [show j=k + 1 by omega];omega
    · have:=Hiz (al:=al) h j k hj (by omega)
      have:=Ccz (al:=al) h k (by omega)
      have:=h k (by omega)
      omega
theorem fM_or {al:Bool} {s:List Int} (h:∀ i,i < s.length → s.getD i 0=1 ∨ s.getD i 0=2 ∨ s.getD i 0=4):∀ k,k ≤ s.length → fM al s k=1 ∨ fM al s k=2 ∨ fM al s k=4
  | 0,_=>.inl rfl
  | k + 1,hk=>by
    have ih:=fM_or (al:=al) h k (by omega)
    have h2:=h k (by omega)
    simp only [fM]
    split
    · omega
    · exact ih
theorem fM_not (s:List Int):∀ k,fM false s k=1
  | 0=>rfl
  | k + 1=>by simp [fM,fM_not s k]
theorem fM_max {s:List Int} (h:∀ i,i < s.length → s.getD i 0=1 ∨ s.getD i 0=2 ∨ s.getD i 0=4):∀ k,k + 1 ≤ s.length → fM true s (k + 1)=mxL s (k + 1)
  | 0,hk=>by
    have:=h 0 (by omega)
    simp only [fM,mxL,if_true]
    omega
  | k + 1,hk=>by
    have ih:=fM_max h k (by omega)
    rw [fM,if_pos rfl,ih]
    simp [mxL]
theorem Hgz {al:Bool} {s:List Int} (hv:vF s=true):fE al s s.length ≤ fN al s ∧ 1 ≤ fN al s ∧ fN al s ≤ 38 ∧ fN al s < fE al s s.length + fM al s s.length:=by
  obtain ⟨h,h1,h2⟩:=C3z.1 hv
  have h3:=Doz (al:=al) h s.length (Nat.le_refl _)
  have h4:=fM_or (al:=al) h s.length (Nat.le_refl _)
  have h5:=G8z h3.1 h4
  have h6:=Ccz (al:=al) h (s.length - 1) (by omega)
  rw [show s.length - 1 + 1=s.length by omega] at h6
  have h7:=h (s.length - 1) (by omega)
  unfold fN
  omega
theorem fN_alg {al:Bool} {s:List Int} (hv:vF s=true):alg al (fE al s s.length) (mxL s s.length)=fN al s:=by
  obtain ⟨h,h1,h2⟩:=C3z.1 hv
  unfold alg fN
  cases al with
  | false=>simp [fM_not,rup_one]
  | true =>
    have:=fM_max h (s.length - 1) (by omega)
    rw [show s.length - 1 + 1=s.length by omega] at this
    simp [this]
theorem Gtz (al:Bool) (s:List Int):(fPL al s).length=s.length:=by simp [fPL]
theorem fPL_getD {al:Bool} {s:List Int} {k:Nat} (h:k < s.length):(fPL al s).getD k 0=fP al s k:=by simp [fPL,List.getD,h]

def fL2 (al:Bool) (s:List Int):Nat → List Int
  | 0=>[]
  | k + 1=>fL2 al s k ++ [fP al s k,s.getD k 0]
def fZ2 (al:Bool) (s:List Int) (k:Nat):List Int:=fL2 al s k ++ List.replicate ((s.length - k) * 2) 0
theorem fL2_length (al:Bool) (s:List Int):∀ k,(fL2 al s k).length=k * 2
  | 0=>rfl
  | k + 1=>by simp [fL2,fL2_length al s k];omega
theorem Gsz (al:Bool) (s:List Int) (k:Nat) (h:k ≤ s.length):(fZ2 al s k).length=s.length * 2:=by simp [fZ2,fL2_length];omega
theorem fZ2_zero (al:Bool) (s:List Int):fZ2 al s 0=List.replicate (s.length * 2) 0:=by simp [fZ2,fL2]
theorem fZ2_all (al:Bool) (s:List Int):fZ2 al s s.length=fL2 al s s.length:=by simp [fZ2]
theorem Hhz {al:Bool} {s:List Int}:∀ {n k:Nat},k < n → (fL2 al s n).getD (k * 2) 0=fP al s k ∧ (fL2 al s n).getD (k * 2 + 1) 0=s.getD k 0
  | n + 1,k,h=>by
    have hl:=fL2_length al s n
    rcases Nat.lt_or_ge k n with hk|hk
    · obtain ⟨h1,h2⟩:=Hhz (al:=al) (s:=s) hk
      simp only [fL2,List.getD] at *
      rw [List.getElem?_append_left (by omega),List.getElem?_append_left (by omega)]
      exact ⟨h1,h2⟩
    · have:k=n:=by omega
      subst this
      simp only [fL2,List.getD]
      rw [List.getElem?_append_right (by omega),List.getElem?_append_right (by omega),hl]
      simp
theorem fZ2_set {al:Bool} {s:List Int} {k:Nat} (h:k < s.length):((fZ2 al s k).set (k * 2) (fP al s k)).set (k * 2 + 1) (s.getD k 0)=fZ2 al s (k + 1):=by
  have hl:=fL2_length al s k
  unfold fZ2
  rw [show (s.length - k) * 2=(s.length - (k + 1)) * 2 + 1 + 1 by omega,List.replicate_succ,List.replicate_succ]
  rw [List.set_append_right _ _ (by omega),hl,Nat.sub_self,List.set_cons_zero,List.set_append_right _ _ (by omega),hl]
  rw [show k * 2 + 1 - k * 2=0 + 1 by omega,List.set_cons_succ,List.set_cons_zero]
  simp [fL2]

def fPadK (al:Bool) (s:List Int):Nat → List Int
  | 0=>[]
  | k + 1=>fPadK al s k ++ nums (fE al s k) 1 (fP al s k - fE al s k).toNat
def fPad (al:Bool) (s:List Int):List Int:=fPadK al s s.length ++ nums (fE al s s.length) 1 (fN al s - fE al s s.length).toNat
def inF (al:Bool) (s:List Int) (x:Int):Nat → Bool
  | 0=>false
  | k + 1=>inF al s x k || (decide (fP al s k ≤ x) && decide (x ≤ fP al s k + s.getD k 0 - 1))
def padT (al:Bool) (s:List Int) (n:Nat):List Int:=(nums 0 1 n).filter fun x=>!inF al s x s.length
def shB (v:Int):Nat → Int
  | 0=>v
  | k + 1=>(shB v k).tdiv 256
def byt (v:Int) (k:Nat):Int:=(shB v k).tmod 256
def pw (z:Nat):Int:=256 ^ z
def vI (s vs:List Int):Bool:=decide (vs.length=s.length) && (List.range vs.length).all fun i=>decide (0 ≤ vs.getD i 0) && decide (vs.getD i 0 ≤ pw (s.getD i 0).toNat - 1)
def plc (big:Bool) (z k:Nat):Nat:=if big=true then z - 1 - k else k
def wrK (L:List Int) (big:Bool) (p z:Nat) (v:Int):Nat → List Int
  | 0=>L
  | k + 1=>(wrK L big p z v k).set (p + plc big z k) (byt v k)
def wsK (L:List Int) (big:Bool) (p z:Nat) (v:Int):Nat → List Int
  | 0=>L
  | k + 1=>(wsK L big p z v k).set (p + k) (byt v (plc big z k))
def pkK (al big:Bool) (s vs:List Int):Nat → List Int
  | 0=>List.replicate (fN al s).toNat 0
  | k + 1=>wrK (pkK al big s vs k) big (fP al s k).toNat (s.getD k 0).toNat (vs.getD k 0) (s.getD k 0).toNat
def pkL (al big:Bool) (s vs:List Int):List Int:=pkK al big s vs s.length
def rdK (L:List Int) (big:Bool) (p z:Nat):Nat → Int
  | 0=>0
  | k + 1=>rdK L big p z k * 256 + L.getD (p + plc big z (z - 1 - k)) 0
def upL (al big:Bool) (s L:List Int):List Int:=(List.range s.length).map fun k=>rdK L big (fP al s k).toNat (s.getD k 0).toNat (s.getD k 0).toNat
end VwM
namespace VwM
open Go Vw
theorem Dxz (n:Nat):zcells [AV.int .i64 0,.int .i64 0] n=IL (List.replicate (n * 2) 0):=by
  rw [IL,List.map_replicate]
  refine List.ext_getElem (by simp [zcells]) fun i h1 h2=>?_
  have:i % 2=0 ∨ i % 2=1:=by omega
  rcases this with h|h<;>simp [zcells,h]
def byL (v:Int) (z:Nat):List Int:=(List.range z).map (byt v)
def byO (v:Int) (z:Nat) (big:Bool):List Int:=(List.range z).map fun k=>byt v (plc big z k)
theorem fPL_succ (al:Bool) (s:List Int) (k:Nat):(List.range (k + 1)).map (fP al s)=(List.range k).map (fP al s) ++ [fP al s k]:=by simp [List.range_succ]
end VwM
namespace VwM
open Go Vw
theorem B3z (xs:List Int) (o:Nat) (a b:Int):setRange (xs.map (AV.int .i64)) o [.int .i64 a,.int .i64 b]=IL ((xs.set o a).set (o + 1) b):=by
  simp [setRange,IL,List.map_set]
theorem fZ2_get {al:Bool} {s:List Int} {n k:Nat} (h:k < n):(fZ2 al s n).getD (k * 2) 0=fP al s k ∧ (fZ2 al s n).getD (k * 2 + 1) 0=s.getD k 0:=by
  have h1:=Hhz (al:=al) (s:=s) h
  have hl:=fL2_length al s n
  simp only [fZ2,List.getD] at *
  rw [List.getElem?_append_left (by omega),List.getElem?_append_left (by omega)]
  exact h1
end VwM
namespace VwM
open Go Vw
theorem td2 {xs:List Int} {o:Nat} {a b:Int} (h:o + 2 ≤ xs.length) (ha:xs.getD o 0=a) (hb:xs.getD (o + 1) 0=b):List.take 2 (List.drop o (xs.map (AV.int .i64)))=[.int .i64 a,.int .i64 b]:=by
  rw [← List.map_drop,F2z xs o (by omega),F2z xs (o + 1) (by omega),ha,hb]
  rfl
end VwM
namespace VwM
open Go Vw
theorem plain2 [Inhabited GlobT] {P:Program} {f:Nat} {args:List AV} {xs:List Int} {n:Nat} (h:BCall P f args [] (fun r H'=>r=.own 0 n 2 ∧ H'=[IL xs])) (hl:xs.length=n * 2):PCall P f args (fun r=>r=.rows true (IL xs) n):=by
  refine (BCall.plain h).mono ?_
  rintro r ⟨r0,H',⟨rfl,rfl⟩,rfl⟩
  simp [AV.ren,nthH,List.map_map,Function.comp_def,hl]
end VwM
namespace VwM
open Go Vw
theorem cells_func (f:Fn) (a b:Array Value):(AV.val (.func f a b)).cells=some [.val (.func f a b)]:=rfl
theorem isCell_func (f:Fn) (a b:Array Value):AV.isCell (AV.val (.func f a b))=true:=rfl
theorem Ggz:ofCell Value.nilFunc=AV.val Value.nilFunc:=rfl
attribute [push_cast] cells_func isCell_func Ggz
end VwM
namespace VwM
open Go Vw
def nmK (xs:List Int):Nat → Int
  | 0=>0
  | k + 1=>256 * nmK xs k + xs.getD k 0
def nmO (xs:List Int) (big:Bool):Int:=nmK (if big=true then xs else xs.reverse) xs.length
theorem D1z {al:Bool} {s:List Int} (hv:vF s=true) {k:Nat} (hk:k < s.length):(fP al s k).toNat + (s.getD k 0).toNat ≤ (fN al s).toNat ∧ 0 ≤ fP al s k ∧ 1 ≤ s.getD k 0 ∧ s.getD k 0 ≤ 4 ∧ (fN al s).toNat ≤ 38 ∧ fN al s=((fN al s).toNat:Int) ∧ fP al s k=((fP al s k).toNat:Int) ∧ s.getD k 0=((s.getD k 0).toNat:Int):=by
  obtain ⟨h,h1,h2⟩:=C3z.1 hv
  have b0:=Ccz (al:=al) h k hk
  have b1:=Hiz (al:=al) h (k + 1) s.length (by omega) (Nat.le_refl _)
  have b2:=Hgz (al:=al) hv
  have b3:=h k hk
  omega
def upF (al big:Bool) (s L:List Int) (k:Nat):Int:=rdK L big (fP al s k).toNat (s.getD k 0).toNat (s.getD k 0).toNat
end VwM
namespace VwM
open Go Vw
theorem ren_val4 (i:Nat → Option Nat) (h:Nat → Option (List AV)) (b:Bool) (p:Bool → Option Bool) (f:Fn) (x y:Array Value):AV.ren i h b p 4 (.val (.func f x y))=.val (.func f x y):=by simp [AV.ren]
theorem ren_val5 (i:Nat → Option Nat) (h:Nat → Option (List AV)) (b:Bool) (p:Bool → Option Bool) (f:Fn) (x y:Array Value):AV.ren i h b p 5 (.val (.func f x y))=.val (.func f x y):=by simp [AV.ren]
theorem ren_val3 (i:Nat → Option Nat) (h:Nat → Option (List AV)) (b:Bool) (p:Bool → Option Bool) (f:Fn) (x y:Array Value):AV.ren i h b p 3 (.val (.func f x y))=.val (.func f x y):=by simp [AV.ren]
attribute [push_cast] ren_val4 ren_val5 ren_val3
end VwM
namespace VwM
open Go Vw
end VwM
namespace VwM
open Go Vw
theorem cells_osl (id len off n sz c:Nat):(AV.osl id len off n sz c).cells=some [.osl id len off n sz c]:=rfl
attribute [push_cast] cells_osl
end VwM
set_option linter.unusedVariables false
set_option linter.unusedSimpArgs false
namespace VwM
open Go Vw

def szs (s:List Int):Prop:=∀ i,i < s.length → s.getD i 0=1 ∨ s.getD i 0=2 ∨ s.getD i 0=4
end VwM
set_option linter.unusedVariables false
set_option linter.unusedSimpArgs false
set_option maxRecDepth 4000
namespace VwM
open Vw
open Go

def Tal (L:List ME) (c:Nat) (f:Int → Nat):Prop :=
  (∀ k,mget L k=(f k:Int)) ∧ (∀ k,mhas L k=true ↔ 0 < f k) ∧ (L.map (·.1)).Nodup ∧ (L.map (·.2.2)).Nodup ∧ ∀ p ∈ L,p.2.2 < c
def cnt (xs:List Int) (k:Int):Nat:=xs.count k
def addF (f g:Int → Nat) (k:Int):Nat:=f k + g k

theorem tal_nil (c:Nat):Tal [] c (fun _=>0):=⟨fun _=>rfl,fun _=>by simp [mhas],by simp,by simp,by simp⟩

theorem Caz:∀ {L:List ME} {k:Int},mhas L k=true ↔ k ∈ L.map (·.1)
  | [],k=>by simp [mhas]
  | p :: r,k=>by
    simp only [mhas,List.map_cons,List.mem_cons]
    by_cases h:p.1=k
    · simp [h]
    · rw [if_neg h,Caz]
      constructor
      · exact .inr
      · rintro (e|e)
        · exact absurd e.symm h
        · exact e
theorem Fqz:∀ (L:List ME) (k v:Int),(mmod L k v).map (·.1)=L.map (·.1)
  | [],_,_=>rfl
  | p :: r,k,v=>by
    simp only [mmod]
    by_cases h:p.1=k
    · simp [h]
    · simp [h,Fqz r k v]
theorem Frz:∀ (L:List ME) (k v:Int),(mmod L k v).map (·.2.2)=L.map (·.2.2)
  | [],_,_=>rfl
  | p :: r,k,v=>by
    simp only [mmod]
    by_cases h:p.1=k
    · simp [h]
    · simp [h,Frz r k v]
theorem mget_mmod:∀ (L:List ME) (k v j:Int),mhas L k=true → mget (mmod L k v) j=if j=k then v else mget L j
  | [],_,_,_,h=>by simp [mhas] at h
  | p :: r,k,v,j,h=>by
    simp only [mmod]
    by_cases hp:p.1=k
    · rw [if_pos hp]
      simp only [mget]
      by_cases hj:j=k
      · simp [hj]
      · rw [if_neg (fun e=>hj e.symm),if_neg hj,if_neg (fun e=>hj (e.symm.trans hp))]
    · rw [if_neg hp]
      simp only [mget]
      have h':mhas r k=true:=by simpa [mhas,hp] using h
      by_cases hj:p.1=j
      · rw [if_pos hj,if_neg (fun e=>hp (hj.trans e)),if_pos hj]
      · rw [if_neg hj,mget_mmod r k v j h',if_neg hj]
theorem Ftz:∀ (L:List ME) (q:ME) (j:Int),mget (L ++ [q]) j=if mhas L j=true then mget L j else if q.1=j then q.2.1 else 0
  | [],q,j=>by simp [mget,mhas]
  | p :: r,q,j=>by
    simp only [List.cons_append,mget,mhas]
    by_cases h:p.1=j
    · simp [h]
    · simp [h,Ftz r q j]
theorem tal_put {L:List ME} {c:Nat} {f:Int → Nat} (h:Tal L c f) (k:Int) {v:Int} (hv:v=(f k:Int) + 1):Tal (mput L c k v) (mclk L c k) (addF f (cnt [k])):=by
  obtain ⟨h1,h2,h3,h4,h5⟩:=h
  have hc:∀ j,cnt [k] j=if j=k then 1 else 0:=fun j=>by
    unfold cnt
    by_cases hj:j=k
    · subst hj;simp
    · rw [if_neg hj,List.count_cons,if_neg (by simpa using fun e=>hj e.symm)];simp
  unfold mput mclk
  cases hh:mhas L k with
  | true =>
    simp only [if_true]
    refine ⟨fun j=>?_,fun j=>?_,by rw [Fqz];exact h3,by rw [Frz];exact h4,fun p hp=>?_⟩
    · rw [mget_mmod L k v j hh,addF,hc]
      by_cases hj:j=k
      · subst hj;simp [hv]
      · simp [hj,h1]
    · rw [Caz,Fqz,← Caz,h2,addF,hc]
      by_cases hj:j=k
      · subst hj
        have:=(h2 j).1 hh
        simp;omega
      · simp [hj]
    · have:p.2.2 ∈ (mmod L k v).map (·.2.2):=List.mem_map.2 ⟨p,hp,rfl⟩
      rw [Frz] at this
      obtain ⟨q,hq,e⟩:=List.mem_map.1 this
      rw [← e];exact h5 q hq
  | false =>
    simp only [Bool.false_eq_true,if_false]
    have hk:¬ k ∈ L.map (·.1):=fun e=>by rw [← Caz,hh] at e;cases e
    have hf:f k=0:=by
      have:¬ 0 < f k:=fun e=>by rw [← h2,hh] at e;cases e
      omega
    refine ⟨fun j=>?_,fun j=>?_,?_,?_,fun p hp=>?_⟩
    · rw [Ftz,addF,hc]
      by_cases hj:j=k
      · subst hj;simp [hh,hv]
      · simp only [hj,if_false,Nat.add_zero]
        split
        · exact h1 j
        · rename_i hn
          rw [if_neg (fun e:k=j=>hj e.symm)]
          have:¬ 0 < f j:=fun e=>hn ((h2 j).2 e)
          omega
    · rw [Caz,List.map_append,List.mem_append,← Caz,h2,addF,hc]
      by_cases hj:j=k
      · subst hj;simp
      · simp [hj]
    · rw [List.map_append,List.nodup_append]
      refine ⟨h3,by simp,fun a ha b hb=>?_⟩
      simp only [List.map_cons,List.map_nil,List.mem_singleton] at hb
      subst hb
      exact fun e=>hk (e ▸ ha)
    · rw [List.map_append,List.nodup_append]
      refine ⟨h4,by simp,fun a ha b hb=>?_⟩
      simp only [List.map_cons,List.map_nil,List.mem_singleton] at hb
      subst hb
      obtain ⟨q,hq,rfl⟩:=List.mem_map.1 ha
      have:=h5 q hq
      omega
    · rcases List.mem_append.1 hp with hp|hp
      · have:=h5 p hp;omega
      · simp only [List.mem_singleton] at hp
        subst hp;simp
theorem tal_congr {L:List ME} {c:Nat} {f g:Int → Nat} (h:Tal L c f) (e:∀ k,f k=g k):Tal L c g:=by
  have:f=g:=funext e
  rw [← this];exact h
theorem addF_snoc (f:Int → Nat) (xs:List Int) (i:Nat) (h:i < xs.length):addF (addF f (cnt (xs.take i))) (cnt [xs.getD i 0])=addF f (cnt (xs.take (i + 1))):=by
  funext k
  have e:xs.take (i + 1)=xs.take i ++ [xs.getD i 0]:=by
    rw [List.take_add_one,List.getElem?_eq_getElem h]
    simp [List.getD,h]
  simp only [addF,cnt,e,List.count_append]
  omega
theorem addF_nil (f:Int → Nat):addF f (cnt [])=f:=by funext k;simp [addF,cnt]
theorem cnt_le (xs:List Int) (k:Int):cnt xs k ≤ xs.length:=List.count_le_length
theorem cnt_take_le (xs:List Int) (i:Nat) (k:Int):cnt (xs.take i) k ≤ xs.length:=Nat.le_trans (cnt_le _ _) (by rw [List.length_take];omega)

theorem G1z:∀ {L:List ME},(L.map (·.1)).Nodup → ∀ p ∈ L,mget L p.1=p.2.1
  | [],_,p,hp=>by simp at hp
  | q :: r,h,p,hp=>by
    simp only [List.map_cons,List.nodup_cons] at h
    simp only [mget]
    rcases List.mem_cons.1 hp with rfl|hp
    · simp
    · have hne:¬ q.1=p.1:=fun e=>h.1 (List.mem_map.2 ⟨p,hp,e.symm⟩)
      rw [if_neg hne]
      exact G1z h.2 p hp

theorem B5z:∀ {l:List Nat} {m:List Nat},l.Nodup → (∀ x ∈ l,x ∈ m) → l.length ≤ m.length
  | [],_,_,_=>Nat.zero_le _
  | x :: r,m,hn,hs=>by
    rw [List.nodup_cons] at hn
    have hx:x ∈ m:=hs x (by simp)
    have:=B5z (l:=r) (m:=m.erase x) hn.2 fun y hy=>by
      have hne:y ≠ x:=fun e=>hn.1 (e ▸ hy)
      rw [List.mem_erase_of_ne hne]
      exact hs y (by simp [hy])
    rw [List.length_erase_of_mem hx] at this
    have:0 < m.length:=List.length_pos_of_mem hx
    simp only [List.length_cons]
    omega

def Seen (L V:List ME):Prop:=(V.map (·.2.2)).Nodup ∧ ∀ p ∈ V,p ∈ L
theorem seen_nil (L:List ME):Seen L []:=⟨by simp,by simp⟩
theorem Ecz {L V:List ME} (h:Seen L V) {p:ME} (hp:p ∈ L) (hn:p.2.2 ∉ V.map (·.2.2)):Seen L (V ++ [p]):=by
  refine ⟨?_,fun q hq=>?_⟩
  · rw [List.map_append,List.nodup_append]
    refine ⟨h.1,by simp,fun a ha b hb=>?_⟩
    simp only [List.map_cons,List.map_nil,List.mem_singleton] at hb
    subst hb
    exact fun e=>hn (e ▸ ha)
  · rcases List.mem_append.1 hq with hq|hq
    · exact h.2 q hq
    · simp only [List.mem_singleton] at hq
      subst hq;exact hp
theorem G7z {L V:List ME} (h:Seen L V):V.length ≤ L.length:=by
  have:=B5z (l:=V.map (·.2.2)) (m:=L.map (·.2.2)) h.1 fun x hx=>by
    obtain ⟨p,hp,e⟩:=List.mem_map.1 hx
    exact List.mem_map.2 ⟨p,h.2 p hp,e⟩
  simpa using this
theorem inj_born:∀ {L:List ME},(L.map (·.2.2)).Nodup → ∀ p ∈ L,∀ q ∈ L,p.2.2=q.2.2 → p=q
  | [],_,p,hp,_,_,_=>by simp at hp
  | x :: r,h,p,hp,q,hq,e=>by
    simp only [List.map_cons,List.nodup_cons] at h
    rcases List.mem_cons.1 hp with e1|hp1
    · rcases List.mem_cons.1 hq with e2|hq1
      · rw [e1,e2]
      · exact absurd (List.mem_map.2 ⟨q,hq1,by rw [← e,e1]⟩) h.1
    · rcases List.mem_cons.1 hq with e2|hq1
      · exact absurd (List.mem_map.2 ⟨p,hp1,by rw [e,e2]⟩) h.1
      · exact inj_born h.2 p hp1 q hq1 e
def pickT (t:Int) (V:List ME):List Int:=(V.filter fun p=>decide (t ≤ p.2.1)).map (·.1)
theorem pickT_nil (t:Int):pickT t []=[]:=rfl
theorem pickT_yes {t:Int} {V:List ME} {p:ME} (h:t ≤ p.2.1):pickT t (V ++ [p])=pickT t V ++ [p.1]:=by simp [pickT,h]
theorem pickT_no {t:Int} {V:List ME} {p:ME} (h:¬ t ≤ p.2.1):pickT t (V ++ [p])=pickT t V:=by simp [pickT,h]
theorem pickT_le (t:Int) (V:List ME):(pickT t V).length ≤ V.length:=by simp [pickT];exact List.length_filter_le _ _
def atL (f:Int → Nat) (t:Nat):List Int:=(nums 0 1 60).filter fun x=>decide (t ≤ f x)
theorem mem_atL {f:Int → Nat} {t:Nat} {x:Int}:x ∈ atL f t ↔ (0 ≤ x ∧ x ≤ 59) ∧ t ≤ f x:=by
  unfold atL
  rw [List.mem_filter,C7z (by omega)]
  simp only [decide_eq_true_eq]
  constructor
  · rintro ⟨⟨a,b,_⟩,h⟩;exact ⟨by omega,h⟩
  · rintro ⟨a,h⟩;exact ⟨⟨by omega,by omega,⟨_,(Int.one_mul _).symm⟩⟩,h⟩
theorem atL_sorted (f:Int → Nat) (t:Nat):(atL f t).Pairwise (· < ·):=List.Pairwise.filter _ (Foz (by omega) _)
theorem sorted_of {zs:List Int} (hn:zs.Nodup):(sorted zs).Pairwise (· < ·):=by
  have h1:(sorted zs).Pairwise (fun a b=>decide (a ≤ b)=true):=List.pairwise_mergeSort (fun a b c h h'=>by simp at *;omega) (fun a b=>by simp;omega) zs
  have h2:(sorted zs).Nodup:=(List.mergeSort_perm zs _).nodup_iff.2 hn
  have h3:(sorted zs).Pairwise (· ≠ ·):=h2
  refine (List.pairwise_and_iff.2 ⟨h1,h3⟩).imp fun {a b} h=>?_
  have:=h.1
  simp at this
  have:=h.2
  omega
theorem mem_sorted {zs:List Int} {x:Int}:x ∈ sorted zs ↔ x ∈ zs:=List.mem_mergeSort
theorem seen_all {L V:List ME} {c:Nat} {f:Int → Nat} (h:Tal L c f) (hs:Seen L V) (hall:∀ p ∈ L,p.2.2 ∈ V.map (·.2.2)) {t:Nat} (ht:1 ≤ t) (hb:∀ k,0 < f k → 0 ≤ k ∧ k ≤ 59):sorted (pickT t V)=atL f t:=by
  obtain ⟨h1,h2,h3,h4,h5⟩:=h
  have hV:∀ p ∈ L,p ∈ V:=fun p hp=>by
    obtain ⟨q,hq,e⟩:=List.mem_map.1 (hall p hp)
    have:q=p:=inj_born h4 q (hs.2 q hq) p hp e
    exact this ▸ hq
  have hnd:V.Nodup:=(List.pairwise_map.1 hs.1).imp fun {a b} h e=>h (by rw [e])
  have hk:(V.map (·.1)).Nodup:=by
    refine List.pairwise_map.2 (hnd.imp_of_mem fun {a b} ha hb hne he=>hne ?_)
    have hkey:∀ p ∈ L,∀ q ∈ L,p.1=q.1 → p=q:=fun p hp q hq e=>by
      have e1:=G1z h3 p hp
      have:∀ {M:List ME},(M.map (·.1)).Nodup → ∀ p ∈ M,∀ q ∈ M,p.1=q.1 → p=q:=by
        intro M
        induction M with
        | nil=>intro _ p hp;simp at hp
        | cons x r ih =>
          intro h p hp q hq e
          simp only [List.map_cons,List.nodup_cons] at h
          rcases List.mem_cons.1 hp with e1|hp1
          · rcases List.mem_cons.1 hq with e2|hq1
            · rw [e1,e2]
            · exact absurd (List.mem_map.2 ⟨q,hq1,by rw [← e,e1]⟩) h.1
          · rcases List.mem_cons.1 hq with e2|hq1
            · exact absurd (List.mem_map.2 ⟨p,hp1,by rw [e,e2]⟩) h.1
            · exact ih h.2 p hp1 q hq1 e
      exact this h3 p hp q hq e
    exact hkey a (hs.2 a ha) b (hs.2 b hb) he
  refine Gkz (sorted_of ?_) (atL_sorted _ _) fun x=>?_
  · exact List.Sublist.nodup ((List.filter_sublist (l:=V)).map _) hk
  · rw [mem_sorted,mem_atL]
    unfold pickT
    constructor
    · intro hx
      obtain ⟨p,hp,rfl⟩:=List.mem_map.1 hx
      rw [List.mem_filter] at hp
      have hv:=G1z h3 p (hs.2 p hp.1)
      rw [h1] at hv
      have hle:(t:Int) ≤ p.2.1:=by simpa using hp.2
      have hf:t ≤ f p.1:=by omega
      exact ⟨hb _ (by omega),hf⟩
    · rintro ⟨_,hf⟩
      have hm:mhas L x=true:=(h2 x).2 (by omega)
      rw [Caz] at hm
      obtain ⟨p,hp,rfl⟩:=List.mem_map.1 hm
      have hv:=G1z h3 p hp
      rw [h1] at hv
      exact List.mem_map.2 ⟨p,List.mem_filter.2 ⟨hV p hp,by simp;omega⟩,rfl⟩
theorem tal_len {L:List ME} {c:Nat} {f:Int → Nat} (h:Tal L c f) (hb:∀ k,0 < f k → 0 ≤ k ∧ k ≤ 59):L.length ≤ 60:=by
  have hk:∀ k ∈ L.map (·.1),0 ≤ k ∧ k ≤ 59:=fun k hk=>hb k ((h.2.1 k).1 (Caz.2 hk))
  have h2:((L.map (·.1)).map Int.toNat).Nodup:=by
    refine List.pairwise_map.2 (List.Pairwise.imp_of_mem (fun {a b} ha hb' hne he=>hne ?_) h.2.2.1)
    have:=hk a ha
    have:=hk b hb'
    omega
  have:=B5z (m:=List.range 60) h2 fun x hx=>by
    obtain ⟨k,hk',rfl⟩:=List.mem_map.1 hx
    have:=hk k hk'
    exact List.mem_range.2 (by omega)
  simpa using this
abbrev Vw3:=Int × List Int × List Int
def VLs:List Vw3 → List AV
  | []=>[]
  | v :: r=>.int .i64 v.1 :: RI v.2.1 :: RI v.2.2 :: VLs r
def allO (vs:List Vw3):List Int:=vs.flatMap fun v=>offs v.1 v.2.1 v.2.2
theorem Gwz:∀ vs:List Vw3,(VLs vs).length=vs.length * 3
  | []=>rfl
  | v :: r=>by simp only [VLs,List.length_cons,Gwz r];omega
theorem VLs_drop:∀ (vs:List Vw3) (i:Nat) {v:Vw3},vs[i]?=some v → ((VLs vs).drop (i * 3)).take 3=[.int .i64 v.1,RI v.2.1,RI v.2.2]
  | [],_,_,h=>by simp at h
  | w :: r,0,v,h=>by
    simp at h;subst h;simp [VLs]
  | w :: r,i + 1,v,h=>by
    rw [show (i + 1) * 3=i * 3 + 1 + 1 + 1 by omega]
    simp only [VLs,List.drop_succ_cons]
    exact VLs_drop r i (by simpa using h)
theorem innL_IL (p:Nat → Bool):∀ xs:List Int,innL p (IL xs)=true
  | []=>rfl
  | x :: r=>by
    have:=innL_IL p r
    simp only [IL,List.map_cons,innL,AV.inn,Bool.true_and]
    exact this
theorem Hdz (p:Nat → Bool):∀ vs:List Vw3,innL p (VLs vs)=true
  | []=>rfl
  | v :: r=>by
    simp only [VLs,innL,AV.inn,Hdz p r,Bool.and_true,Bool.true_and,Bool.and_eq_true]
    exact ⟨innL_IL _ _,innL_IL _ _⟩
theorem ren_VLs {ρ:Nat → Option Nat} {Zh:Nat → Option (List AV)} {n:Nat}:∀ vs:List Vw3,(VLs vs).map (AV.ren ρ Zh false phiD (n + 2))=VLs vs
  | []=>rfl
  | v :: r=>by
    simp only [VLs,List.map_cons,ren_VLs r,List.cons.injEq,and_true]
    refine ⟨rfl,?_,?_⟩<;>simp [AV.ren,phiD]
attribute [push_cast] ren_VLs
theorem Giz (vs:List Vw3) (i:Nat) {v:Vw3} (h:vs[i]?=some v):allO (vs.take (i + 1))=allO (vs.take i) ++ offs v.1 v.2.1 v.2.2:=by
  rw [List.take_add_one,h]
  simp [allO]
theorem allO_len:∀ (vs:List Vw3),(∀ v ∈ vs,(offs v.1 v.2.1 v.2.2).length ≤ 1000) → (allO vs).length ≤ vs.length * 1000
  | [],_=>by simp [allO]
  | v :: r,h=>by
    have h1:=h v (by simp)
    have h2:=allO_len r fun w hw=>h w (by simp [hw])
    simp only [allO,List.flatMap_cons,List.length_append,List.length_cons] at h2 ⊢
    omega
theorem Hkz {xs:List Int} {k:Int}:0 < cnt xs k ↔ k ∈ xs:=List.count_pos_iff
theorem D9z {xs:List Int} (h:∀ x ∈ xs,0 ≤ x ∧ x ≤ 59):∀ k,0 < cnt xs k → 0 ≤ k ∧ k ≤ 59:=fun k hk=>h k (Hkz.1 hk)
theorem atL_one (xs:List Int):atL (cnt xs) 1=bothL xs xs:=by
  unfold atL bothL
  refine List.filter_congr fun x _=>?_
  have:1 ≤ cnt xs x ↔ x ∈ xs ∧ x ∈ xs:=by
    have:=@Hkz xs x
    constructor
    · intro h;exact ⟨this.1 h,this.1 h⟩
    · intro h;exact this.2 h.1
  exact decide_eq_decide.2 this
theorem cnt_both (xs:List Int) (k:Int):cnt (bothL xs xs) k=if (0 ≤ k ∧ k ≤ 59) ∧ k ∈ xs then 1 else 0:=by
  have hnd:(bothL xs xs).Nodup:=(bothL_sorted xs xs).imp fun h e=>by omega
  split
  · rename_i h
    have hm:k ∈ bothL xs xs:=Ejz.2 ⟨h.1,h.2,h.2⟩
    have h1:0 < cnt (bothL xs xs) k:=Hkz.2 hm
    have h2:cnt (bothL xs xs) k ≤ 1:=List.nodup_iff_count.1 hnd k
    omega
  · rename_i h
    refine Nat.eq_zero_of_not_pos fun hp=>h ?_
    have:=Ejz.1 (Hkz.1 hp)
    exact ⟨this.1,this.2.1⟩
theorem atL_two (xs ys:List Int):atL (addF (cnt (bothL xs xs)) (cnt (bothL ys ys))) 2=bothL xs ys:=by
  unfold atL
  rw [show bothL xs ys=(nums 0 1 60).filter fun x=>decide (x ∈ xs ∧ x ∈ ys) from rfl]
  refine List.filter_congr fun x hx=>?_
  rw [C7z (by omega)] at hx
  have hx2:0 ≤ x ∧ x ≤ 59:=by omega
  refine decide_eq_decide.2 ?_
  simp only [addF,cnt_both,hx2,true_and]
  by_cases h1:x ∈ xs<;>by_cases h2:x ∈ ys<;>simp [h1,h2]
theorem Faz {f g:Int → Nat} (hf:∀ k,0 < f k → 0 ≤ k ∧ k ≤ 59) (hg:∀ k,0 < g k → 0 ≤ k ∧ k ≤ 59):∀ k,0 < addF f g k → 0 ≤ k ∧ k ≤ 59:=fun k hk=>by
  unfold addF at hk
  by_cases h:0 < f k
  · exact hf k h
  · exact hg k (by omega)
theorem F8z (xs ys:List Int):∀ x ∈ bothL xs ys,0 ≤ x ∧ x ≤ 59:=fun x hx=>(Ejz.1 hx).1
abbrev repL (xs:List Int):List Int:=atL (cnt xs) 2
def ovB (b:Int) (sh st:List Int) (b':Int) (sh' st':List Int):Bool:=vV b sh st && vV b' sh' st'
def doB (b:Int) (sh st:List Int) (b':Int) (sh' st':List Int):Bool:=decide (0 < (MVL (ovB b sh st b' sh' st') (bothL (offs b sh st) (offs b' sh' st'))).length)
def atT (f:Int → Nat) (t:Nat) (k:Nat):List Int:=(nums 0 1 k).filter fun x=>decide (t ≤ f x)
def inclB (ys xs:List Int):Bool:=decide (∀ x ∈ ys,x ∈ xs)
def coB (b:Int) (sh st:List Int) (b':Int) (sh' st':List Int):Bool:=ovB b sh st b' sh' st' && inclB (offs b' sh' st') (offs b sh st)
def wiP (d:Bool) (O O':List Int):AV:=if d=true then .tup [.int .i64 (placeI O ((bothL O O').getD 0 0)),.int .i64 (placeI O' ((bothL O O').getD 0 0)),.bool true] else .tup [.int .i64 (-1),.int .i64 (-1),.bool false]
end VwM
