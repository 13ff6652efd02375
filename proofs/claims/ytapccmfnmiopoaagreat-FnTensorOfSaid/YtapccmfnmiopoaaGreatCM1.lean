/- The mathematics of ranges,slices,shapes and indices that the contracts speak of. -/
import Derived.Test.YtapccmfnmiopoaaGreatCW3
set_option linter.unusedSimpArgs false
set_option linter.unusedSectionVars false
set_option linter.unusedVariables false
set_option maxRecDepth 4000
set_option linter.unnecessarySimpa false
namespace VwM
open Vw
open Go

abbrev rng (a b c:Int):AV:=.agg [.int .i64 a,.int .i64 b,.int .i64 c]
abbrev slc (f t b:Int)(hf ht:Bool):AV:=.agg [.int .i64 f,.int .i64 t,.int .i64 b,.bool hf,.bool ht]
abbrev IL (xs:List Int):List AV:=xs.map (AV.int .i64)
abbrev RI (xs:List Int):AV:=.rows false (IL xs) xs.length
abbrev OI (xs:List Int):AV→List (List AV)→Prop:=fun r H'=>r=.own 0 xs.length 1∧H'=[IL xs]
def vR (a b c:Int):Bool:=decide (-100≤a)&&decide (a≤100)&&(decide (-101≤b)&&decide (b≤101))&&(decide (-200≤c)&&decide (c≤200)&&!decide (c=0))
def vS (f t b:Int)(hf ht:Bool):Bool:=decide (-100≤f)&&decide (f≤100)&&(decide (-100≤t)&&decide (t≤100))&&(decide (-200≤b)&&decide (b≤200))&&!decide (b=0)&&(hf || decide (f=0))&&(ht || decide (t=0))
theorem Dez {a b c:Int}:vR a b c=true↔(-100≤a∧a≤100)∧(-101≤b∧b≤101)∧(-200≤c∧c≤200)∧c≠0:=by
 simp only [vR,Bool.and_eq_true,decide_eq_true_eq,Bool.not_eq_true',decide_eq_false_iff_not]
 constructor
 ·rintro ⟨⟨h1,h2⟩,h3,h4⟩;exact ⟨h1,h2,h3,h4⟩
 ·rintro ⟨h1,h2,h3,h4⟩;exact ⟨⟨h1,h2⟩,h3,h4⟩
theorem Kez {f t b:Int}{hf ht:Bool}:vS f t b hf ht=true↔(-100≤f∧f≤100)∧(-100≤t∧t≤100)∧(-200≤b∧b≤200)∧b≠0∧(hf=true∨f=0)∧(ht=true∨t=0):=by
 simp only [vS,Bool.and_eq_true,Bool.or_eq_true,decide_eq_true_eq,Bool.not_eq_true',decide_eq_false_iff_not]
 constructor
 ·rintro ⟨⟨⟨⟨⟨h1,h2⟩,h3⟩,h4⟩,h5⟩,h6⟩;exact ⟨h1,h2,h3,h4,h5,h6⟩
 ·rintro ⟨h1,h2,h3,h4,h5,h6⟩;exact ⟨⟨⟨⟨⟨h1,h2⟩,h3⟩,h4⟩,h5⟩,h6⟩
theorem mkAV_ints0 (k:IntKind)(xs:List Int):mkAV false ((xs.map (AV.int k)).take 1)=if 0<xs.length then some (.int k (xs.getD 0 0)) else none:=by
 haveI:Inhabited GlobT:=⟨⟨[]⟩⟩
 have:=Idz k xs 0
 rwa [List.drop_zero] at this
attribute [push_cast] Idz mkAV_ints0


theorem B2z {xs ys:List Int}(hl:xs.length=ys.length)(h:∀ j:Nat,j<xs.length→xs.getD j 0=ys.getD j 0):xs=ys:=by
 refine List.ext_getElem hl fun i h1 h2=>?_
 have:=h i h1
 simpa [List.getD,h1,h2] using this


def upFrom (k:Int)(n:Nat):List Int:=(List.range n).map fun i:Nat=>k+(i:Int)
theorem Gaz (k:Int)(n:Nat):(upFrom k n).length=n:=by simp [upFrom]
attribute [simp] Gaz
attribute [push_cast] Gaz
def cntI (a b c:Int):Int :=
 if c<0 then (if 0-(b-a)≤0 then 0 else (0-(b-a)+(0-c)-1).tdiv (0-c)) else (if b-a≤0 then 0 else (b-a+c-1).tdiv c)
theorem Cqz {x y:Int}(hy:0<y)(hx:0≤x):0≤x.tdiv y∧x.tdiv y≤x:=by
 rw [Int.tdiv_eq_ediv_of_nonneg hx]
 exact ⟨Int.ediv_nonneg hx (by omega),Int.ediv_le_self _ hx⟩
def nums (a c:Int)(k:Nat):List Int:=(List.range k).map fun i:Nat=>a+(i:Int)*c
theorem Gkz (a c:Int):nums a c 0=[]:=rfl
theorem Glz (a c:Int)(k:Nat):nums a c (k+1)=nums a c k++[a+(k:Int)*c]:=by simp [nums,List.range_succ]
theorem Chz (a c:Int)(k:Nat):(nums a c k).length=k:=by simp [nums]
theorem B6z (a c:Int)(k i:Nat)(h:i<k):(nums a c k).getD i 0=a+(i:Int)*c:=by simp [nums,h,List.getD]
attribute [simp] Chz
attribute [push_cast] Chz
theorem cnt_lt {a b c i:Int}(h0:c≠0)(hi:0≤i):i<cntI a b c↔(0<c∧a+i*c<b)∨(c<0∧b<a+i*c):=by
 unfold cntI
 by_cases hc:c<0
 ·rw [if_pos hc]
  have hp:0≤i*(0-c):=Int.mul_nonneg hi (by omega)
  have e:i*(0-c)=- (i*c):=by rw [Int.zero_sub,Int.mul_neg]
  by_cases hw:0-(b-a)≤0
  ·rw [if_pos hw]
   constructor
   ·intro h;omega
   ·rintro (h|h)<;>omega
  ·rw [if_neg hw,Int.tdiv_eq_ediv_of_nonneg (by omega),Int.lt_iff_add_one_le,Int.le_ediv_iff_mul_le (by omega),Int.add_mul]
   constructor
   ·intro h;right;omega
   ·rintro (h|h)<;>omega
 ·rw [if_neg hc]
  have hp:0≤i*c:=Int.mul_nonneg hi (by omega)
  by_cases hw:b-a≤0
  ·rw [if_pos hw]
   constructor
   ·intro h;omega
   ·rintro (h|h)<;>omega
  ·rw [if_neg hw,Int.tdiv_eq_ediv_of_nonneg (by omega),Int.lt_iff_add_one_le,Int.le_ediv_iff_mul_le (by omega),Int.add_mul]
   constructor
   ·intro h;left;omega
   ·rintro (h|h)<;>omega
theorem Iyz {a b c:Int}(hv:vR a b c=true):0≤cntI a b c∧cntI a b c≤500:=by
 obtain ⟨ha,hb,hc,h0⟩:=Dez.1 hv
 unfold cntI
 by_cases hc:c<0
 ·rw [if_pos hc]
  by_cases hw:0-(b-a)≤0
  ·rw [if_pos hw];omega
  ·rw [if_neg hw]
   have:=Cqz (x:=0-(b-a)+(0-c)-1) (y:=0-c) (by omega) (by omega)
   omega
 ·rw [if_neg hc]
  by_cases hw:b-a≤0
  ·rw [if_pos hw];omega
  ·rw [if_neg hw]
   have:=Cqz (x:=b-a+c-1) (y:=c) (by omega) (by omega)
   omega
def cntN (a b c:Int):Nat:=(cntI a b c).toNat
theorem Izz {a b c:Int}(hv:vR a b c=true):(cntN a b c:Int)=cntI a b c:=by
 unfold cntN;have:=Iyz hv;omega
theorem cntN_lt {a b c:Int}(hv:vR a b c=true)(i:Nat):i<cntN a b c↔(0<c∧a+i*c<b)∨(c<0∧b<a+i*c):=by
 rw [← cnt_lt (Dez.1 hv).2.2.2 (by omega:(0:Int)≤i),← Izz hv]
 omega
theorem num_bound {a b c:Int}(hv:vR a b c=true){i:Nat}(h:i<cntN a b c):-201≤(i:Int)*c∧(i:Int)*c≤201∧-100≤a+i*c∧a+i*c≤100:=by
 obtain ⟨ha,hb,hc,h0⟩:=Dez.1 hv
 rcases (cntN_lt hv i).1 h with ⟨h1,h2⟩|⟨h1,h2⟩
 ·have:0≤(i:Int)*c:=Int.mul_nonneg (by omega) (by omega)
  omega
 ·have:0≤(i:Int)*(0-c):=Int.mul_nonneg (by omega) (by omega)
  rw [Int.zero_sub,Int.mul_neg] at this
  omega
theorem Jxz {a b c:Int}(hv:vR a b c=true){i:Nat}(h:i≤cntN a b c):-1000≤(i:Int)*c∧(i:Int)*c≤1000:=by
 obtain ⟨ha,hb,hc,h0⟩:=Dez.1 hv
 cases i with
 | zero=>simp
 | succ i =>
  have:=num_bound hv (i:=i) (by omega)
  rw [show ((i+1:Nat):Int)*c=(i:Int)*c+c by rw [Int.natCast_add,Int.add_mul];simp]
  omega
def filled (g:Nat→Int)(n j:Nat):List Int:=(List.range n).map fun i=>if i<j then g i else 0
theorem Dcz (g:Nat→Int)(n:Nat):filled g n 0=List.replicate n 0:=by
 refine List.ext_getElem? fun i=>?_
 by_cases h:i<n<;>simp [filled,h]
theorem D2z (g:Nat→Int)(n j:Nat):(filled g n j).length=n:=by simp [filled]
attribute [simp] D2z
attribute [push_cast] D2z
theorem C4z (g:Nat→Int)(n j:Nat)(h:j<n):(filled g n j).set j (g j)=filled g n (j+1):=by
 refine List.ext_getElem? fun i=>?_
 simp only [filled,List.getElem?_set,List.length_map,List.length_range,List.getElem?_map]
 by_cases h1:j=i
 ·subst h1;simp [h]
 ·by_cases h2:i<n
  ·simp only [List.getElem?_range h2,Option.map_some,if_neg h1]
   congr 1
   by_cases h3:i<j
   ·rw [if_pos h3,if_pos (by omega)]
   ·rw [if_neg h3,if_neg (by omega)]
  ·simp [h1,h2]
theorem Ffz (g:Nat→Int)(n:Nat):filled g n n=(List.range n).map g:=by
 refine List.map_congr_left fun i hi=>?_
 rw [if_pos (List.mem_range.1 hi)]
theorem Ayz (xs:List Int)(j:Nat)(v:Int):(IL xs).set j (.int .i64 v)=IL (xs.set j v):=by simp [IL,List.map_set]
theorem B9z (xs:List Int)(v:Int):IL xs++[.int .i64 v]=IL (xs++[v]):=by simp [IL]
theorem toNat_succ (k:Nat):((k:Int)+1).toNat=k+1:=by omega
theorem IL_tail (k:IntKind)(xs:List Int)(j:Nat):(((xs.map (AV.int k)).drop j).take (xs.length-j))=(xs.drop j).map (AV.int k):=by
 rw [← List.map_drop,← List.map_take]
 congr 1
 exact List.take_of_length_le (by simp)
theorem C0z (k:IntKind)(xs:List Int)(j:Nat):(xs.map (AV.int k)).take j=(xs.take j).map (AV.int k):=by rw [List.map_take]
attribute [push_cast] toNat_succ IL_tail
def pr (xs:List Int):Int:=xs.foldl (· * ·) 1
theorem Flz:pr []=1:=rfl
theorem pr_snoc (xs:List Int)(x:Int):pr (xs++[x])=pr xs*x:=by simp [pr]
theorem Isz (xs:List Int)(a:Int):xs.foldl (· * ·) a=a*pr xs:=by
 induction xs generalizing a with
 | nil=>simp [pr]
 | cons x r ih=>simp only [List.foldl_cons,pr];rw [ih,ih (1*x)];rw [Int.one_mul,Int.mul_assoc]
theorem B5z (x:Int)(xs:List Int):pr (x::xs)=x*pr xs:=by
 show (x::xs).foldl (· * ·) 1=_
 rw [List.foldl_cons,Isz,Int.one_mul]
theorem A9z (xs:List Int)(k:Nat)(h:k<xs.length):xs.take (k+1)=xs.take k++[xs.getD k 0]:=by
 rw [List.take_succ_eq_append_getElem h];simp [List.getD,h]
theorem drop_getD (xs:List Int)(k:Nat)(h:k<xs.length):xs.drop k=xs.getD k 0::xs.drop (k+1):=by
 rw [List.drop_eq_getElem_cons h];simp [List.getD,h]
theorem Cjz (xs:List Int)(k:Nat)(h:k<xs.length):pr (xs.take (k+1))=pr (xs.take k)*xs.getD k 0:=by rw [A9z xs k h,pr_snoc]
theorem pr_drop (xs:List Int)(k:Nat)(h:k<xs.length):pr (xs.drop k)=xs.getD k 0*pr (xs.drop (k+1)):=by rw [drop_getD xs k h,B5z]
def good4 (xs:List Int):Prop:=(∀ x∈xs,0≤x∧x≤60)∧xs.length≤4
theorem Hbz {xs:List Int}(h:good4 xs)(j:Nat):good4 (xs.take j):=⟨fun x hx=>h.1 x (List.mem_of_mem_take hx),by have:=h.2;simp;omega⟩
theorem Hcz {xs:List Int}(h:good4 xs)(j:Nat):good4 (xs.drop j):=⟨fun x hx=>h.1 x (List.mem_of_mem_drop hx),by have:=h.2;simp;omega⟩
theorem Cpz {xs:List Int}(h:good4 xs){k:Nat}(hk:k<xs.length):0≤xs.getD k 0∧xs.getD k 0≤60:=by
 refine h.1 _ ?_
 simp [List.getD,hk]
theorem H5z:∀ (xs:List Int),(∀ x∈xs,0≤x∧x≤60)→0≤pr xs∧pr xs≤60 ^ xs.length
 | [],_=>by simp [pr]
 | x::r,h=>by
  have ih:=H5z r fun y hy=>h y (by simp [hy])
  have hx:=h x (by simp)
  rw [B5z,List.length_cons,Int.pow_succ,Int.mul_comm (60 ^ r.length) 60]
  exact ⟨Int.mul_nonneg hx.1 ih.1,Int.mul_le_mul hx.2 ih.2 ih.1 (by omega)⟩
theorem Cmz {xs:List Int}(h:good4 xs):0≤pr xs∧pr xs≤12960000:=by
 have h1:=H5z xs h.1
 refine ⟨h1.1,Int.le_trans h1.2 ?_⟩
 have:(60:Int) ^ xs.length≤60 ^ 4:=by
  obtain ⟨_,hl⟩:=h
  generalize xs.length=n at hl
  match n,hl with
  | 0,_=>decide
  | 1,_=>decide
  | 2,_=>decide
  | 3,_=>decide
  | 4,_=>decide
 simpa using this
def allI (xs:List Int)(l h:Int):Bool:=xs.all fun x=>decide (l≤x)&&decide (x≤h)
theorem Boz {xs:List Int}{l h:Int}:allI xs l h=true↔∀ x∈xs,l≤x∧x≤h:=by simp [allI]
theorem Drz {xs:List Int}{l h:Int}:(∀ j:Nat,j<xs.length→l≤xs.getD j 0∧xs.getD j 0≤h)→allI xs l h=true:=by
 intro hj
 rw [Boz]
 intro x hx
 obtain ⟨i,hi,rfl⟩:=List.getElem_of_mem hx
 have:=hj i hi
 simpa [List.getD,hi] using this
theorem C5z {xs:List Int}{l h:Int}{j:Nat}(hj:j<xs.length)(hx:xs.getD j 0<l∨h<xs.getD j 0):allI xs l h=false:=by
 rw [Bool.eq_false_iff]
 intro ht
 have:=(Boz.1 ht) (xs.getD j 0) (by simp [List.getD,hj])
 omega
def vSh (sh:List Int):Bool:=decide (sh.length≤4)&&allI sh 0 60&&decide (pr sh≤60)
theorem A5z {sh:List Int}(h:vSh sh=true):good4 sh∧0≤pr sh∧pr sh≤60:=by
 simp only [vSh,Bool.and_eq_true,decide_eq_true_eq] at h
 have hg:good4 sh:=⟨Boz.1 h.1.2,h.1.1⟩
 exact ⟨hg,(Cmz hg).1,h.2⟩
theorem filled_getD (xs:List Int):(List.range xs.length).map (fun i:Nat=>xs.getD i 0)=xs:=by
 refine List.ext_getElem (by simp) fun i h1 h2=>?_
 simp [List.getD,h2]



theorem nil_split {n:Nat}{K:Bool→Prop}(h1:n=0→K true)(h2:K false):∀ b:Bool,(b=true→n=0)→K b:=by
 intro b hb
 cases b with
 | true=>exact h1 (hb rfl)
 | false=>exact h2
def rowS (sh:List Int):List Int:=(List.range sh.length).map fun i:Nat=>pr (sh.drop (i+1))
def colS (sh:List Int):List Int:=(List.range sh.length).map fun i:Nat=>pr (sh.take i)
theorem H0z (sh:List Int):(rowS sh).length=sh.length:=by simp [rowS]
theorem Ixz (sh:List Int):(colS sh).length=sh.length:=by simp [colS]
attribute [simp] H0z Ixz
attribute [push_cast] H0z Ixz
def filledD (g:Nat→Int)(n k:Nat):List Int:=(List.range n).map fun i=>if n-k≤i then g i else 0
theorem Hoz (g:Nat→Int)(n:Nat):filledD g n 0=List.replicate n 0:=by
 refine List.ext_getElem? fun i=>?_
 by_cases h:i<n
 ·have:¬ n≤i:=by omega
  simp [filledD,h,this]
 ·simp [filledD,h]
theorem Foz (g:Nat→Int)(n k:Nat):(filledD g n k).length=n:=by simp [filledD]
attribute [simp] Foz
attribute [push_cast] Foz
theorem Itz (g:Nat→Int)(n k:Nat)(h:k<n):(filledD g n k).set (n-1-k) (g (n-1-k))=filledD g n (k+1):=by
 refine List.ext_getElem? fun i=>?_
 simp only [filledD,List.getElem?_set,List.length_map,List.length_range,List.getElem?_map]
 by_cases h1:n-1-k=i
 ·subst h1
  have h2:n-1-k<n:=by omega
  have h3:n-(k+1)≤n-1-k:=by omega
  simp [h2,h3]
  omega
 ·by_cases h2:i<n
  ·simp only [List.getElem?_range h2,Option.map_some,if_neg h1]
   congr 1
   by_cases h3:n-k≤i
   ·rw [if_pos h3,if_pos (by omega)]
   ·rw [if_neg h3,if_neg (by omega)]
  ·simp [h1,h2]
theorem Iuz (g:Nat→Int)(n:Nat):filledD g n n=(List.range n).map g:=by
 refine List.map_congr_left fun i hi=>?_
 rw [if_pos (by omega)]
theorem Guz (n k:Nat)(h:k<n):((n:Int)-1-(k:Int)).toNat=n-1-k:=by omega



def kS (sh:List Int)(k:Int):Nat→Int
 | 0=>k
 | j+1=>(kS sh k j).tdiv (sh.getD (sh.length-1-j) 0)
def dig (sh:List Int)(k:Int)(i:Nat):Int:=(kS sh k (sh.length-1-i)).tmod (sh.getD i 0)
def unr (sh:List Int)(k:Int):List Int:=(List.range sh.length).map (dig sh k)
theorem E1z (sh:List Int)(k:Int):(unr sh k).length=sh.length:=by simp [unr]
attribute [simp] E1z
attribute [push_cast] E1z
theorem pr_zero {xs:List Int}{i:Nat}(hi:i<xs.length)(h:xs.getD i 0=0):pr xs=0:=by
 have e:xs=xs.take i++xs.drop i:=(List.take_append_drop i xs).symm
 rw [e,pr,List.foldl_append,Isz,pr_drop xs i hi,h]
 simp
theorem C2z {sh:List Int}{k:Int}(hk:0≤k)(hp:∀ i,i<sh.length→1≤sh.getD i 0):∀ j,j≤sh.length→0≤kS sh k j∧kS sh k j≤k
 | 0,_=>by simp [kS,hk]
 | j+1,h=>by
  have ih:=C2z hk hp j (by omega)
  have h1:=hp (sh.length-1-j) (by omega)
  have:=Cqz (x:=kS sh k j) (y:=sh.getD (sh.length-1-j) 0) (by omega) ih.1
  simp only [kS]
  omega
theorem Cwz {sh:List Int}(hg:good4 sh)(h:1≤pr sh):∀ i,i<sh.length→1≤sh.getD i 0:=by
 intro i hi
 have h1:=Cpz hg hi
 rcases Int.lt_or_le 0 (sh.getD i 0) with h2|h2
 ·omega
 ·have:=pr_zero hi (by omega)
  omega
theorem dig_bound {sh:List Int}{k:Int}(hk:0≤k)(hp:∀ i,i<sh.length→1≤sh.getD i 0)(hle:∀ i,i<sh.length→sh.getD i 0≤60){i:Nat}(hi:i<sh.length):0≤dig sh k i∧dig sh k i<sh.getD i 0:=by
 have h1:=C2z hk hp (sh.length-1-i) (by omega)
 have h2:=hp i hi
 unfold dig
 exact ⟨Int.tmod_nonneg _ h1.1,Int.tmod_lt_of_pos _ (by omega)⟩
def pad4 (f:Nat→Int):List Int:=[f 0,f 1,f 2,f 3]
theorem H9z (f:Nat→Int):(pad4 f).length=4:=rfl
theorem pad4_getD (f:Nat→Int)(i:Nat)(h:i<4):(pad4 f).getD i 0=f i:=by
 match i,h with
 | 0,_=>rfl
 | 1,_=>rfl
 | 2,_=>rfl
 | 3,_=>rfl
theorem pad4_set (f:Nat→Int)(i:Nat)(v:Int)(h:i<4):(pad4 f).set i v=pad4 (fun j=>if j=i then v else f j):=by
 match i,h with
 | 0,_=>rfl
 | 1,_=>rfl
 | 2,_=>rfl
 | 3,_=>rfl
theorem G5z {f g:Nat→Int}(h:∀ i,i<4→f i=g i):pad4 f=pad4 g:=by simp [pad4,h]
theorem Klz (a b c d:AV)(f:Nat→Int):setRange [a,b,c,d] 0 ((pad4 f).map (AV.int .i64))=(pad4 f).map (AV.int .i64):=by simp [pad4,setRange]
theorem I9z (g f:Nat→Int):setRange ((pad4 g).map (AV.int .i64)) 0 ((pad4 f).map (AV.int .i64))=(pad4 f).map (AV.int .i64):=by simp [pad4,setRange]
theorem take_pad4 (f:Nat→Int):((pad4 f).map (AV.int .i64)).take 4=(pad4 f).map (AV.int .i64):=by simp [pad4]
attribute [simp] H9z
attribute [push_cast] H9z Klz I9z take_pad4
def padD (xs:List Int)(k:Int)(j i:Nat):Int:=if i<xs.length∧xs.length-j≤i then dig xs k i else 0
abbrev AP (f:Nat→Int):AV:=.agg (IL (pad4 f))
def digP (sh:List Int)(k:Int)(i:Nat):Int:=if i<sh.length then dig sh k i else 0


def vIx (sh idx:List Int):Bool:=decide (idx.length=sh.length)&&(List.range idx.length).all fun i=>decide (0≤idx.getD i 0)&&decide (idx.getD i 0≤sh.getD i 0-1)
theorem Hrz {sh idx:List Int}:vIx sh idx=true↔idx.length=sh.length∧∀ i,i<idx.length→0≤idx.getD i 0∧idx.getD i 0≤sh.getD i 0-1:=by
 simp only [vIx,Bool.and_eq_true,decide_eq_true_eq,List.all_eq_true,List.mem_range]
def hor (sh idx:List Int):Nat→Int
 | 0=>0
 | k+1=>hor sh idx k*sh.getD k 0+idx.getD k 0
def dot (f:Nat→Int)(st:List Int):Nat→Int
 | 0=>0
 | k+1=>dot f st k+f k*st.getD k 0
theorem Cfz {f g:Nat→Int}{st:List Int}:∀ {k:Nat},(∀ i,i<k→f i=g i)→dot f st k=dot g st k
 | 0,_=>rfl
 | k+1,h=>by simp only [dot];rw [Cfz fun i hi=>h i (by omega),h k (by omega)]
theorem rowS_getD (sh:List Int)(i:Nat)(h:i<sh.length):(rowS sh).getD i 0=pr (sh.drop (i+1)):=by simp [rowS,List.getD,h]
theorem hor_dot {sh idx:List Int}:∀ k,k≤sh.length→hor sh idx k*pr (sh.drop k)=dot (fun i=>idx.getD i 0) (rowS sh) k
 | 0,_=>by simp [hor,dot]
 | k+1,h=>by
  have ih:=hor_dot (sh:=sh) (idx:=idx) k (by omega)
  simp only [hor,dot,rowS_getD sh k (by omega)]
  rw [← ih,pr_drop sh k (by omega),Int.add_mul,Int.mul_assoc]
theorem hor_all {sh idx:List Int}:hor sh idx sh.length=dot (fun i=>idx.getD i 0) (rowS sh) sh.length:=by
 rw [← hor_dot sh.length (Nat.le_refl _),List.drop_length,Flz,Int.mul_one]
theorem Dzz {a b B C:Int}(ha:-B≤a∧a≤B)(hb:-C≤b∧b≤C):-(B*C)≤a*b∧a*b≤B*C:=by
 have h1:a.natAbs≤B.natAbs:=by omega
 have h2:b.natAbs≤C.natAbs:=by omega
 have h3:(a*b).natAbs≤(B*C).natAbs:=by rw [Int.natAbs_mul,Int.natAbs_mul];exact Nat.mul_le_mul h1 h2
 have h4:0≤B*C:=Int.mul_nonneg (by omega) (by omega)
 omega
theorem Gvz {f:Nat→Int}{st:List Int}{B C:Int}:∀ k,(∀ i,i<k→(-B≤f i∧f i≤B)∧-C≤st.getD i 0∧st.getD i 0≤C)→-((k:Int)*(B*C))≤dot f st k∧dot f st k≤(k:Int)*(B*C)
 | 0,_=>by simp [dot]
 | k+1,h=>by
  have ih:=Gvz (f:=f) (st:=st) (B:=B) (C:=C) k fun i hi=>h i (by omega)
  have h1:=h k (by omega)
  have h2:=Dzz h1.1 h1.2
  simp only [dot,Int.natCast_add,Int.add_mul]
  simp only [Int.cast_ofNat_Int,Int.one_mul]
  omega


def idxP (sh idx:List Int)(i:Nat):Int:=if vIx sh idx=true∧i<sh.length then idx.getD i 0 else 0
def rankD (sh idx:List Int):Int:=if vSh sh=true∧vIx sh idx=true then dot (fun i=>idx.getD i 0) (rowS sh) sh.length else -1


abbrev OV (b:Int)(sh st:List Int):AV→List (List AV)→Prop:=fun r H'=>r=.agg [.int .i64 b,.own 0 sh.length 1,.own 1 st.length 1]∧H'=[IL sh,IL st]


def newSt (sh:List Int):List Int:=if pr sh=0 then List.replicate sh.length 0 else rowS sh
theorem newSt_length (sh:List Int):(newSt sh).length=sh.length:=by unfold newSt;split<;>simp


def endI (x n b:Int):Int:=min (max (if b<0 then -1 else 0) (if x<0 then x+n else x)) (if b<0 then n-1 else n)
def sFrom (f n b:Int)(hf:Bool):Int:=if hf=true then endI f n b else if b<0 then n-1 else 0
def sTo (t n b:Int)(ht:Bool):Int:=if ht=true then endI t n b else if b<0 then -1 else n
theorem J4z {x n b:Int}(hn:0≤n∧n≤60):-1≤endI x n b∧endI x n b≤60:=by
 unfold endI;split<;>split<;>omega
theorem sFrom_bound {f n b:Int}{hf:Bool}(hn:0≤n∧n≤60):-1≤sFrom f n b hf∧sFrom f n b hf≤60:=by
 have:=J4z (x:=f) (b:=b) hn
 unfold sFrom;split
 ·exact this
 ·split<;>omega
theorem sTo_bound {t n b:Int}{ht:Bool}(hn:0≤n∧n≤60):-1≤sTo t n b ht∧sTo t n b ht≤60:=by
 have:=J4z (x:=t) (b:=b) hn
 unfold sTo;split
 ·exact this
 ·split<;>omega
theorem Jvz {f t b n:Int}{hf ht:Bool}(hn:0≤n∧n≤60)(hs:vS f t b hf ht=true):vR (sFrom f n b hf) (sTo t n b ht) b=true:=by
 obtain ⟨h1,h2,h3,h4,-,-⟩:=Kez.1 hs
 have:=sFrom_bound (f:=f) (b:=b) (hf:=hf) hn
 have:=sTo_bound (t:=t) (b:=b) (ht:=ht) hn
 exact Dez.2 ⟨by omega,by omega,h3,h4⟩


def idxOf (n f t b:Int)(hf ht:Bool):List Int:=if vS f t b hf ht=true∧0≤n∧n≤60 then nums (sFrom f n b hf) b (cntN (sFrom f n b hf) (sTo t n b ht) b) else []
def pS (a k:Int):Int:=if k<1 then 0 else a
def pE (a c k:Int):Int:=if k<1 then 0 else if k=1 then a+1 else if c<0 then a+(k-1)*c-1 else a+(k-1)*c+1
def pC (c k:Int):Int:=if k≤1 then 1 else c
abbrev PR (a c k:Int):AV:=rng (pS a k) (pE a c k) (pC c k)


theorem idx_in {f t b n:Int}{hf ht:Bool}(hn:0≤n∧n≤60)(hs:vS f t b hf ht=true){i:Nat}(h:i<cntN (sFrom f n b hf) (sTo t n b ht) b):0≤sFrom f n b hf+(i:Int)*b∧sFrom f n b hf+(i:Int)*b<n:=by
 have h1:=(cntN_lt (Jvz hn hs) i).1 h
 rcases h1 with ⟨hb,h2⟩|⟨hb,h2⟩
 ·have p:0≤(i:Int)*b:=Int.mul_nonneg (by omega) (by omega)
  have q1:0≤sFrom f n b hf:=by unfold sFrom endI;split<;>(try split)<;>omega
  have q2:sTo t n b ht≤n:=by unfold sTo endI;split<;>(try split)<;>omega
  omega
 ·have p:0≤(i:Int)*(0-b):=Int.mul_nonneg (by omega) (by omega)
  rw [Int.zero_sub,Int.mul_neg] at p
  have q1:sFrom f n b hf≤n-1:=by unfold sFrom endI;split<;>(try split)<;>omega
  have q2:-1≤sTo t n b ht:=by unfold sTo endI;split<;>(try split)<;>omega
  omega
theorem mul_bd {x y:Int}{p q:Nat}(h1:-(p:Int)≤x∧x≤p)(h2:-(q:Int)≤y∧y≤q):-((p*q:Nat):Int)≤x*y∧x*y≤(p*q:Nat):=by
 have e:(x*y).natAbs≤p*q:=by rw [Int.natAbs_mul];exact Nat.mul_le_mul (by omega) (by omega)
 omega


end VwM
namespace VwM
open Vw
open Go

def placeI (xs:List Int)(x:Int):Int:=if x∈xs then (xs.idxOf x:Int) else -1
theorem Goz {xs:List Int}{x:Int}:x∈xs↔∃ j,j<xs.length∧xs.getD j 0=x:=by
 constructor
 ·intro h
  obtain ⟨i,hi,e⟩:=List.getElem_of_mem h
  exact ⟨i,hi,by simp [List.getD,hi,e]⟩
 ·rintro ⟨j,hj,rfl⟩
  simp [List.getD,hj]
theorem Bcz {xs:List Int}{j:Nat}(h:j<xs.length):xs.getD j 0∈xs:=Goz.2 ⟨j,h,rfl⟩
theorem H8z {xs:List Int}{x:Int}(h:∀ j,j<xs.length→xs.getD j 0≠x):placeI xs x=-1:=by
 unfold placeI
 rw [if_neg]
 intro hm
 obtain ⟨j,hj,e⟩:=Goz.1 hm
 exact h j hj e
theorem H7z {xs:List Int}{x:Int}{j:Nat}(hj:j<xs.length)(h:xs.getD j 0=x)(hno:∀ i,i<j→xs.getD i 0≠x):placeI xs x=j:=by
 unfold placeI
 rw [if_pos (Goz.2 ⟨j,hj,h⟩)]
 congr 1
 induction xs generalizing j with
 | nil=>simp at hj
 | cons y r ih =>
  rw [List.idxOf_cons]
  cases j with
  | zero=>simp at h;simp [h]
  | succ j =>
   have h0:=hno 0 (by omega)
   have hy:¬ y=x:=by simpa using h0
   simp only [beq_iff_eq,hy,cond_false,Bool.cond_eq_ite,if_false]
   have:=ih (j:=j) (by simpa using hj) (by simpa using h) (fun i hi=>by simpa using hno (i+1) (by omega))
   omega
theorem E7z {xs:List Int}{x:Int}:placeI xs x<0↔x ∉ xs:=by
 unfold placeI
 by_cases h:x∈xs
 ·simp [h]
 ·simp [h]
theorem mem_nums {a c x:Int}{n:Nat}:x∈nums a c n↔∃ i:Nat,i<n∧a+(i:Int)*c=x:=by
 simp [nums]
theorem Ibz {a c:Int}(hc:1≤c)(n:Nat):(nums a c n).Pairwise (· < ·):=by
 unfold nums
 rw [List.pairwise_map]
 refine List.Pairwise.imp ?_ List.pairwise_lt_range
 intro i j hij
 have:(i:Int)*c<(j:Int)*c:=Int.mul_lt_mul_of_pos_right (by omega) (by omega)
 omega
theorem PR_valid {s c:Int}{n:Nat}(h0:c≠0)(hc:-200≤c∧c≤200)(hb:∀ i:Nat,i<n→-100≤s+(i:Int)*c∧s+(i:Int)*c≤100) :
  vR (pS s n) (pE s c n) (pC c n)=true:=by
 match n with
 | 0=>simp [pS,pE,pC,vR]
 | 1 =>
  have:=hb 0 (by omega)
  simp at this
  simp [pS,pE,pC,vR];omega
 | n+2 =>
  have b0:=hb 0 (by omega)
  have bl:=hb (n+1) (by omega)
  simp only [Int.natCast_zero,Int.zero_mul,Int.add_zero] at b0
  have p1:¬ ((n+2:Nat):Int)<1:=by omega
  have p2:¬ ((n+2:Nat):Int)≤1:=by omega
  have p3:¬ ((n+2:Nat):Int)=1:=by omega
  simp only [pS,pE,pC,if_neg p1,if_neg p2,if_neg p3]
  rw [show ((n+2:Nat):Int)-1=((n+1:Nat):Int) by omega]
  refine Dez.2 ⟨by omega,?_,hc,h0⟩
  split<;>omega
theorem cntN_PR {s c:Int}{n:Nat}(h0:c≠0)(hc:-200≤c∧c≤200)(hb:∀ i:Nat,i<n→-100≤s+(i:Int)*c∧s+(i:Int)*c≤100) :
  cntN (pS s n) (pE s c n) (pC c n)=n:=by
 have hv:=PR_valid h0 hc hb
 have key:∀ i:Nat,i<cntN (pS s n) (pE s c n) (pC c n)↔i<n:=by
  intro i
  rw [cntN_lt hv]
  match n with
  | 0=>simp [pS,pE,pC];try omega
  | 1=>simp [pS,pE,pC];try omega
  | n+2 =>
   have p1:¬ ((n+2:Nat):Int)<1:=by omega
   have p2:¬ ((n+2:Nat):Int)≤1:=by omega
   have p3:¬ ((n+2:Nat):Int)=1:=by omega
   simp only [pS,pE,pC,if_neg p1,if_neg p2,if_neg p3]
   rw [show ((n+2:Nat):Int)-1=((n+1:Nat):Int) by omega]
   by_cases hn:c<0
   ·rw [if_pos hn]
    constructor
    ·rintro (h|h)
     ·omega
     ·rcases Nat.lt_or_ge i (n+2) with g|g
      ·exact g
      ·have:=Int.mul_le_mul_of_nonneg_right (a:=((n+2:Nat):Int)) (b:=(i:Int)) (c:=0-c) (by omega) (by omega)
       rw [Int.mul_sub,Int.mul_sub,Int.mul_zero,Int.mul_zero,show ((n+2:Nat):Int)=((n+1:Nat):Int)+1 by omega,Int.add_mul] at this
       omega
    ·intro g
     right
     have:=Int.mul_le_mul_of_nonneg_right (a:=(i:Int)) (b:=((n+1:Nat):Int)) (c:=0-c) (by omega) (by omega)
     rw [Int.mul_sub,Int.mul_sub,Int.mul_zero,Int.mul_zero] at this
     omega
   ·rw [if_neg hn]
    constructor
    ·rintro (h|h)
     ·rcases Nat.lt_or_ge i (n+2) with g|g
      ·exact g
      ·have:=Int.mul_le_mul_of_nonneg_right (a:=((n+2:Nat):Int)) (b:=(i:Int)) (c:=c) (by omega) (by omega)
       rw [show ((n+2:Nat):Int)=((n+1:Nat):Int)+1 by omega,Int.add_mul] at this
       omega
     ·omega
    ·intro g
     left
     have:=Int.mul_le_mul_of_nonneg_right (a:=(i:Int)) (b:=((n+1:Nat):Int)) (c:=c) (by omega) (by omega)
     omega
 rcases Nat.lt_trichotomy (cntN (pS s n) (pE s c n) (pC c n)) n with h|h|h
 ·have:=(key _).2 h;omega
 ·exact h
 ·have:=(key _).1 h;omega
def revT (xs:List Int)(k:Nat):List Int:=xs.reverse.take k
theorem revT_zero (xs:List Int):revT xs 0=[]:=rfl
theorem H1z (xs:List Int)(k:Nat)(h:k≤xs.length):(revT xs k).length=k:=by simp [revT];omega
theorem revT_succ (xs:List Int)(k:Nat)(h:k<xs.length):revT xs (k+1)=revT xs k++[xs.getD (xs.length-1-k) 0]:=by
 unfold revT
 rw [A9z _ _ (by simpa using h)]
 congr 2
 rw [List.getD,List.getD,List.getElem?_reverse h]
theorem revT_all (xs:List Int):revT xs xs.length=xs.reverse:=by simp [revT,List.take_of_length_le]
theorem Dbz [Inhabited GlobT]{P:Program}{f:Nat}{args:List AV}{xs:List Int}(h:BCall P f args [] (OI xs)):PCall P f args (fun r=>r=.rows true (IL xs) xs.length):=by
 refine (BCall.plain h).mono ?_
 rintro r ⟨r0,H',⟨rfl,rfl⟩,rfl⟩
 simp [AV.ren,nthH,List.map_map,Function.comp_def]
theorem plainV [Inhabited GlobT]{P:Program}{f:Nat}{args:List AV}{b:Int}{sh st:List Int}(h:BCall P f args [] (OV b sh st)):PCall P f args (fun r=>r=.agg [.int .i64 b,.rows true (IL sh) sh.length,.rows true (IL st) st.length]):=by
 refine (BCall.plain h).mono ?_
 rintro r ⟨r0,H',⟨rfl,rfl⟩,rfl⟩
 simp [AV.ren,nthH,List.map_map,Function.comp_def]
end VwM
namespace VwM
open Vw
open Go

def horF (sh:List Int)(f:Nat→Int):Nat→Int
 | 0=>0
 | k+1=>horF sh f k*sh.getD k 0+f k
theorem Haz {sh:List Int}{f g:Nat→Int}:∀ {k:Nat},(∀ i,i<k→f i=g i)→horF sh f k=horF sh g k
 | 0,_=>rfl
 | k+1,h=>by simp only [horF];rw [Haz fun i hi=>h i (by omega),h k (by omega)]
def isIx (sh:List Int)(f:Nat→Int):Prop:=∀ i,i<sh.length→0≤f i∧f i<sh.getD i 0
theorem C3z {sh:List Int}{f:Nat→Int}(hf:isIx sh f):∀ k,k≤sh.length→0≤horF sh f k∧horF sh f k+1≤pr (sh.take k)
 | 0,_=>by simp [horF,Flz]
 | k+1,h=>by
  have ih:=C3z hf k (by omega)
  have h3:=hf k (by omega)
  rw [Cjz sh k (by omega)]
  have h5:(horF sh f k+1)*sh.getD k 0≤pr (sh.take k)*sh.getD k 0:=Int.mul_le_mul_of_nonneg_right ih.2 (by omega)
  have h6:0≤horF sh f k*sh.getD k 0:=Int.mul_nonneg ih.1 (by omega)
  rw [Int.add_mul,Int.one_mul] at h5
  simp only [horF]
  omega
theorem kS_horF {sh:List Int}{f:Nat→Int}(hf:isIx sh f):∀ j,j≤sh.length→kS sh (horF sh f sh.length) j=horF sh f (sh.length-j)
 | 0,_=>by simp [kS]
 | j+1,h=>by
  have ih:=kS_horF hf j (by omega)
  have h1:=hf (sh.length-1-j) (by omega)
  have h2:=C3z hf (sh.length-1-j) (by omega)
  simp only [kS]
  rw [ih,show sh.length-j=sh.length-1-j+1 by omega,show sh.length-(j+1)=sh.length-1-j by omega]
  simp only [horF]
  have h3:0≤horF sh f (sh.length-1-j)*sh.getD (sh.length-1-j) 0:=Int.mul_nonneg h2.1 (by omega)
  rw [Int.tdiv_eq_ediv_of_nonneg (by omega),Int.add_comm,Int.add_mul_ediv_right _ _ (by omega),Int.ediv_eq_zero_of_lt h1.1 h1.2]
  omega
theorem Gxz {sh:List Int}{f:Nat→Int}(hf:isIx sh f){i:Nat}(hi:i<sh.length):dig sh (horF sh f sh.length) i=f i:=by
 unfold dig
 have h1:=hf i hi
 have h2:=C3z hf i (by omega)
 rw [kS_horF hf _ (by omega),show sh.length-(sh.length-1-i)=i+1 by omega]
 simp only [horF]
 have h3:0≤horF sh f i*sh.getD i 0:=Int.mul_nonneg h2.1 (by omega)
 rw [Int.tmod_eq_emod_of_nonneg (by omega),Int.add_comm,Int.add_mul_emod_self_right,Int.emod_eq_of_lt h1.1 h1.2]
theorem kS_lt {sh:List Int}{k:Int}(hk:0≤k)(hp:∀ i,i<sh.length→1≤sh.getD i 0)(h:k<pr sh):∀ j,j≤sh.length→kS sh k j<pr (sh.take (sh.length-j))
 | 0,_=>by simpa [kS] using h
 | j+1,hj=>by
  have ih:=kS_lt hk hp h j (by omega)
  have h1:=hp (sh.length-1-j) (by omega)
  have h2:=C2z hk hp j (by omega)
  rw [show sh.length-j=sh.length-1-j+1 by omega,Cjz _ _ (by omega)] at ih
  simp only [kS]
  rw [show sh.length-(j+1)=sh.length-1-j by omega,Int.tdiv_eq_ediv_of_nonneg h2.1]
  exact Int.ediv_lt_of_lt_mul (by omega) ih
theorem horF_dig {sh:List Int}{k:Int}(hk:0≤k)(hp:∀ i,i<sh.length→1≤sh.getD i 0)(h:k<pr sh):∀ m,m≤sh.length→horF sh (dig sh k) m=kS sh k (sh.length-m)
 | 0,_=>by
  have h1:=kS_lt hk hp h sh.length (Nat.le_refl _)
  have h2:=C2z hk hp sh.length (Nat.le_refl _)
  simp only [Nat.sub_self,List.take_zero,Flz] at h1
  simp only [horF,Nat.sub_zero]
  omega
 | m+1,hm=>by
  have ih:=horF_dig hk hp h m (by omega)
  simp only [horF]
  rw [ih,show sh.length-m=(sh.length-(m+1))+1 by omega]
  have h2:=C2z hk hp (sh.length-(m+1)) (by omega)
  simp only [kS,dig]
  rw [show sh.length-1-(sh.length-(m+1))=m by omega,show sh.length-1-m=sh.length-(m+1) by omega]
  have:=Int.tdiv_mul_add_tmod (kS sh k (sh.length-(m+1))) (sh.getD m 0)
  omega
theorem Eoz {sh:List Int}{k:Int}(hk:0≤k)(hp:∀ i,i<sh.length→1≤sh.getD i 0)(h:k<pr sh):horF sh (dig sh k) sh.length=k:=by
 rw [horF_dig hk hp h _ (Nat.le_refl _)];simp [kS]
theorem D4z {sh:List Int}(hg:good4 sh){k:Int}(hk:0≤k)(h:k<pr sh):isIx sh (dig sh k):=fun i hi =>
 dig_bound hk (Cwz hg (by omega)) (fun i hi=>(Cpz hg hi).2) hi

def cellK (b:Int)(sh st:List Int)(k:Int):Int:=b+dot (dig sh k) st sh.length
def offs (b:Int)(sh st:List Int):List Int:=(List.range (pr sh).toNat).map fun k:Nat=>cellK b sh st k
theorem Bjz (b:Int)(sh st:List Int):(offs b sh st).length=(pr sh).toNat:=by simp [offs]
theorem Coz {b:Int}{sh st:List Int}{k:Nat}(h:k<(pr sh).toNat):(offs b sh st).getD k 0=cellK b sh st k:=by simp [offs,List.getD,h]
theorem mem_offs {b:Int}{sh st:List Int}{x:Int}:x∈offs b sh st↔∃ k:Nat,k<(pr sh).toNat∧cellK b sh st k=x:=by simp [offs]
theorem Crz {b:Int}{sh st:List Int}(hg:good4 sh){x:Int}:x∈offs b sh st↔∃ f,isIx sh f∧b+dot f st sh.length=x:=by
 rw [mem_offs]
 constructor
 ·rintro ⟨k,hk,rfl⟩
  exact ⟨dig sh k,D4z hg (by omega) (by omega),rfl⟩
 ·rintro ⟨f,hf,rfl⟩
  have h:=C3z hf sh.length (Nat.le_refl _)
  rw [List.take_length] at h
  refine ⟨(horF sh f sh.length).toNat,by omega,?_⟩
  unfold cellK
  rw [show (((horF sh f sh.length).toNat:Nat):Int)=horF sh f sh.length by omega,Cfz fun i hi=>Gxz hf hi]
def vSt (st:List Int)(n:Nat):Bool:=decide (st.length=n)&&allI st (-60) 60
theorem E0z {st:List Int}{n:Nat}:vSt st n=true↔st.length=n∧∀ x∈st,-60≤x∧x≤60:=by
 simp only [vSt,Bool.and_eq_true,decide_eq_true_eq,Boz]
theorem vSt_at {st:List Int}{n i:Nat}(h:vSt st n=true)(hi:i<n):-60≤st.getD i 0∧st.getD i 0≤60:=by
 obtain ⟨h1,h2⟩:=E0z.1 h
 exact h2 _ (Bcz (by omega))
def vV (b:Int)(sh st:List Int):Bool:=vSh sh&&vSt st sh.length&&(decide (0≤b)&&decide (b≤60))&&(decide (pr sh=0) || allI (offs b sh st) 0 59)
theorem Czz {b:Int}{sh st:List Int}:vV b sh st=true↔vSh sh=true∧vSt st sh.length=true∧(0≤b∧b≤60)∧(pr sh=0∨∀ x∈offs b sh st,0≤x∧x≤59):=by
 simp only [vV,Bool.and_eq_true,Bool.or_eq_true,decide_eq_true_eq,Boz,and_assoc]
theorem vV_cells {b:Int}{sh st:List Int}(h:vV b sh st=true):∀ x∈offs b sh st,0≤x∧x≤59:=by
 obtain ⟨h1,h2,h3,h4⟩:=Czz.1 h
 rcases h4 with h4|h4
 ·intro x hx
  obtain ⟨k,hk,_⟩:=mem_offs.1 hx
  omega
 ·exact h4
def lowS (sh st:List Int):Nat→Int
 | 0=>0
 | k+1=>lowS sh st k+min ((sh.getD k 0-1)*st.getD k 0) 0
def highS (sh st:List Int):Nat→Int
 | 0=>0
 | k+1=>highS sh st k+max ((sh.getD k 0-1)*st.getD k 0) 0
theorem F3z {sh st:List Int}{f:Nat→Int}(hf:isIx sh f):∀ k,k≤sh.length→lowS sh st k≤dot f st k∧dot f st k≤highS sh st k
 | 0,_=>by simp [lowS,highS,dot]
 | k+1,h=>by
  have ih:=F3z (st:=st) hf k (by omega)
  have h1:=hf k (by omega)
  simp only [lowS,highS,dot]
  have:min ((sh.getD k 0-1)*st.getD k 0) 0≤f k*st.getD k 0∧f k*st.getD k 0≤max ((sh.getD k 0-1)*st.getD k 0) 0:=by
   rcases Int.lt_or_le (st.getD k 0) 0 with hs|hs
   ·have a1:=Int.mul_nonneg h1.1 (b:=0-st.getD k 0) (by omega)
    have a2:=Int.mul_nonneg (a:=sh.getD k 0-1-f k) (b:=0-st.getD k 0) (by omega) (by omega)
    rw [Int.mul_sub,Int.mul_zero] at a1 a2
    rw [Int.sub_mul] at a2
    omega
   ·have a1:=Int.mul_nonneg h1.1 hs
    have a2:=Int.mul_nonneg (a:=sh.getD k 0-1-f k) (by omega) hs
    rw [Int.sub_mul] at a2
    omega
  omega
theorem dot_low {sh st:List Int}:∀ k,k≤sh.length→(∀ i,i<sh.length→1≤sh.getD i 0)→dot (fun i=>if st.getD i 0<0 then sh.getD i 0-1 else 0) st k=lowS sh st k
 | 0,_,_=>rfl
 | k+1,h,hp=>by
  simp only [lowS,dot]
  rw [dot_low k (by omega) hp]
  have:=hp k (by omega)
  split
  ·rename_i hs
   have a2:=Int.mul_nonneg (a:=sh.getD k 0-1) (b:=0-st.getD k 0) (by omega) (by omega)
   rw [Int.mul_sub,Int.mul_zero] at a2
   omega
  ·have a2:=Int.mul_nonneg (a:=sh.getD k 0-1) (b:=st.getD k 0) (by omega) (by omega)
   omega
theorem dot_high {sh st:List Int}:∀ k,k≤sh.length→(∀ i,i<sh.length→1≤sh.getD i 0)→dot (fun i=>if st.getD i 0<0 then 0 else sh.getD i 0-1) st k=highS sh st k
 | 0,_,_=>rfl
 | k+1,h,hp=>by
  simp only [highS,dot]
  rw [dot_high k (by omega) hp]
  have:=hp k (by omega)
  split
  ·rename_i hs
   have a2:=Int.mul_nonneg (a:=sh.getD k 0-1) (b:=0-st.getD k 0) (by omega) (by omega)
   rw [Int.mul_sub,Int.mul_zero] at a2
   omega
  ·have a2:=Int.mul_nonneg (a:=sh.getD k 0-1) (b:=st.getD k 0) (by omega) (by omega)
   omega
theorem low_offs {b:Int}{sh st:List Int}(hg:good4 sh)(h1:1≤pr sh):b+lowS sh st sh.length∈offs b sh st∧∀ x∈offs b sh st,b+lowS sh st sh.length≤x:=by
 have hp:=Cwz hg h1
 constructor
 ·refine (Crz hg).2 ⟨fun i=>if st.getD i 0<0 then sh.getD i 0-1 else 0,fun i hi=>?_,by rw [dot_low _ (Nat.le_refl _) hp]⟩
  have:=hp i hi
  simp only
  split<;>omega
 ·intro x hx
  obtain ⟨f,hf,rfl⟩:=(Crz hg).1 hx
  have:=F3z (st:=st) hf sh.length (Nat.le_refl _)
  omega
theorem high_offs {b:Int}{sh st:List Int}(hg:good4 sh)(h1:1≤pr sh):b+highS sh st sh.length∈offs b sh st∧∀ x∈offs b sh st,x≤b+highS sh st sh.length:=by
 have hp:=Cwz hg h1
 constructor
 ·refine (Crz hg).2 ⟨fun i=>if st.getD i 0<0 then 0 else sh.getD i 0-1,fun i hi=>?_,by rw [dot_high _ (Nat.le_refl _) hp]⟩
  have:=hp i hi
  simp only
  split<;>omega
 ·intro x hx
  obtain ⟨f,hf,rfl⟩:=(Crz hg).1 hx
  have:=F3z (st:=st) hf sh.length (Nat.le_refl _)
  omega
def bdL (b:Int)(sh st:List Int):Int:=if pr sh=0 then -1 else b+lowS sh st sh.length
def bdH (b:Int)(sh st:List Int):Int:=if pr sh=0 then -1 else b+highS sh st sh.length
theorem bd_all {b:Int}{sh st:List Int}(hg:good4 sh)(h1:1≤pr sh){l h:Int}:allI (offs b sh st) l h=(decide (l≤b+lowS sh st sh.length)&&decide (b+highS sh st sh.length≤h)):=by
 rw [Bool.eq_iff_iff,Boz,Bool.and_eq_true,decide_eq_true_eq,decide_eq_true_eq]
 obtain ⟨a1,a2⟩:=low_offs (b:=b) (st:=st) hg h1
 obtain ⟨a3,a4⟩:=high_offs (b:=b) (st:=st) hg h1
 constructor
 ·intro h
  exact ⟨(h _ a1).1,(h _ a3).2⟩
 ·rintro ⟨h5,h6⟩ x hx
  have:=a2 x hx
  have:=a4 x hx
  omega
theorem Gpz {sh st:List Int}(hg:good4 sh)(hs:vSt st sh.length=true):∀ k,k≤sh.length→-(3600*(k:Int))≤lowS sh st k∧lowS sh st k≤0∧0≤highS sh st k∧highS sh st k≤3600*(k:Int)
 | 0,_=>by simp [lowS,highS]
 | k+1,h=>by
  have ih:=Gpz hg hs k (by omega)
  have h1:=Cpz hg (k:=k) (by omega)
  have h2:=vSt_at hs (i:=k) (by omega)
  have h3:=mul_bd (x:=sh.getD k 0-1) (y:=st.getD k 0) (p:=60) (q:=60) (by omega) (by omega)
  simp only [lowS,highS]
  omega
end VwM
namespace VwM
open Vw
open Go

theorem mkAV_bools (bs:List Bool)(off:Nat):mkAV false (((bs.map AV.bool).drop off).take 1)=if off<bs.length then some (.bool (bs.getD off false)) else none:=by
 by_cases h:off<bs.length
 ·rw [if_pos h,List.drop_eq_getElem_cons (by simpa using h)]
  simp [mkAV,h,List.getD]
 ·rw [if_neg h,List.drop_eq_nil_of_le (by simp;omega)]
  rfl
theorem Csz (p:Nat→Bool)(bs:List Bool):innL p (bs.map AV.bool)=true:=by
 induction bs with
 | nil=>rfl
 | cons x r ih=>simp [innL,AV.inn,ih]
attribute [push_cast] mkAV_bools
def met (xs:List Int)(k:Nat):List Bool:=(List.range 60).map fun c:Nat=>decide ((c:Int)∈xs.take k)
theorem nodup_iff {xs:List Int}:xs.Nodup↔∀ j,j<xs.length→xs.getD j 0 ∉ xs.take j:=by
 have key:∀ k,k≤xs.length→((xs.take k).Nodup↔∀ j,j<k→xs.getD j 0 ∉ xs.take j):=by
  intro k
  induction k with
  | zero=>intro _;simp
  | succ k ih =>
   intro hk
   rw [A9z _ _ (by omega),List.nodup_append]
   rw [ih (by omega)]
   constructor
   ·rintro ⟨h1,_,h3⟩ j hj
    by_cases e:j=k
    ·subst e
     intro hm
     exact h3 _ hm _ (by simp) rfl
    ·exact h1 j (by omega)
   ·intro h
    refine ⟨fun j hj=>h j (by omega),by simp,?_⟩
    intro a ha b hb e
    simp only [List.mem_singleton] at hb
    subst hb e
    exact h k (by omega) ha
 have:=key xs.length (Nat.le_refl _)
 rwa [List.take_length] at this
theorem not_nodup {xs:List Int}{j:Nat}(h:j<xs.length)(hm:xs.getD j 0∈xs.take j):¬ xs.Nodup:=fun hn=>nodup_iff.1 hn j h hm
end VwM
namespace VwM
open Vw
open Go

theorem Kaz {n:Int}(h0:0≤n)(h1:n<1099511627776):IntKind.wrap .i64 n=n:=IntWalk.i64_in n (by omega)
theorem xor_bound {a b:Int}(ha:0≤a∧a<1099511627776)(hb:0≤b∧b<1099511627776):0≤bits .xor .i64 a b∧bits .xor .i64 a b<1099511627776:=by
 have h:(BitVec.ofInt 64 a ^^^ BitVec.ofInt 64 b).toNat<1099511627776:=by
  rw [BitVec.toNat_xor,BitVec.toNat_ofInt,BitVec.toNat_ofInt]
  have e1:(a % ((2 ^ 64:Nat):Int)).toNat<2 ^ 40:=by
   rw [Int.emod_eq_of_lt ha.1 (by omega)];omega
  have e2:(b % ((2 ^ 64:Nat):Int)).toNat<2 ^ 40:=by
   rw [Int.emod_eq_of_lt hb.1 (by omega)];omega
  exact Nat.xor_lt_two_pow e1 e2
 have e:bits .xor .i64 a b=IntKind.wrap .i64 ((BitVec.ofInt 64 a ^^^ BitVec.ofInt 64 b).toNat:Int):=rfl
 rw [e,Kaz (by omega) (by omega)]
 omega
abbrev UL (bs:List Int):List AV:=bs.map (AV.int .u8)
abbrev RD (bs:List Int)(p:Int):List AV:=[.rows false (UL bs) bs.length,.int .i64 p]
def okB (bs:List Int):Prop:=bs.length≤2000∧∀ x∈bs,0≤x∧x≤255
theorem okB_at {bs:List Int}(h:okB bs){i:Nat}(hi:i<bs.length):0≤bs.getD i 0∧bs.getD i 0≤255:=h.2 _ (Bcz hi)
theorem E3z {x n:Int}(hx:0≤x)(hn:0<n):0≤x.tmod n∧x.tmod n<n:=⟨Int.tmod_nonneg n hx,Int.tmod_lt_of_pos x hn⟩
def unI:List AV→List Int
 | []=>[]
 | .int _ n::r=>n::unI r
 | _::r=>0::unI r
theorem G0z:unI []=[]:=rfl
theorem E2z (k:IntKind)(n:Int)(r:List AV):unI (.int k n::r)=n::unI r:=rfl
theorem unI_IL (xs:List Int):unI (IL xs)=xs:=by
 induction xs with
 | nil=>rfl
 | cons x r ih=>show x::unI (IL r)=_;rw [ih]
attribute [simp] G0z E2z unI_IL
end VwM
namespace VwM
open Vw
open Go

end VwM
namespace VwM
open Vw
open Go

end VwM
namespace VwM
open Vw
open Go

theorem Kzz {sh idx:List Int}:∀ k,hor sh idx k=horF sh (fun i=>idx.getD i 0) k
 | 0=>rfl
 | k+1=>by simp only [hor,horF,Kzz k]
theorem unr_isIx {sh:List Int}(hg:good4 sh){k:Int}(hk:0≤k)(h:k<pr sh):vIx sh (unr sh k)=true:=by
 refine Hrz.2 ⟨by simp,fun i hi=>?_⟩
 have hi':i<sh.length:=by simpa using hi
 have:=D4z hg hk h i hi'
 have e:(unr sh k).getD i 0=dig sh k i:=by simp [unr,List.getD,hi']
 rw [e]
 omega
theorem rank_unr {sh:List Int}(hs:vSh sh=true){k:Int}(hk:0≤k)(h:k<pr sh):rankD sh (unr sh k)=k:=by
 have hg:=(A5z hs).1
 unfold rankD
 rw [if_pos ⟨hs,unr_isIx hg hk h⟩,← hor_all,Kzz]
 rw [Haz (g:=dig sh k) fun i hi=>by simp [unr,List.getD,hi]]
 exact Eoz hk (Cwz hg (by omega)) h
theorem vIx_isIx' {sh idx:List Int}(h:vIx sh idx=true):isIx sh (fun i=>idx.getD i 0):=fun i hi=>by
 obtain ⟨h1,h2⟩:=Hrz.1 h
 have:=h2 i (by omega)
 simp only
 omega
theorem unr_rank {sh idx:List Int}(hs:vSh sh=true)(hi:vIx sh idx=true):unr sh (rankD sh idx)=idx∧0≤rankD sh idx∧rankD sh idx<pr sh:=by
 have hg:=(A5z hs).1
 have hx:=vIx_isIx' hi
 have e:rankD sh idx=horF sh (fun i=>idx.getD i 0) sh.length:=by
  unfold rankD
  rw [if_pos ⟨hs,hi⟩,← hor_all,Kzz]
 have hb:=C3z hx sh.length (Nat.le_refl _)
 rw [List.take_length] at hb
 rw [e]
 refine ⟨?_,by omega,by omega⟩
 refine B2z (by rw [E1z];exact (Hrz.1 hi).1.symm) fun j hj=>?_
 have hj':j<sh.length:=by simpa using hj
 have e2:(unr sh (horF sh (fun i=>idx.getD i 0) sh.length)).getD j 0=dig sh (horF sh (fun i=>idx.getD i 0) sh.length) j:=by simp [unr,List.getD,hj']
 rw [e2,Gxz hx hj']
theorem pr_append (xs ys:List Int):pr (xs++ys)=pr xs*pr ys:=by
 induction xs with
 | nil=>rw [List.nil_append,Flz,Int.one_mul]
 | cons x r ih=>rw [List.cons_append,B5z,B5z,ih,Int.mul_assoc]
theorem Jsz (xs:List Int):pr xs.reverse=pr xs:=by
 induction xs with
 | nil=>rfl
 | cons x r ih=>rw [List.reverse_cons,pr_append,ih,B5z,B5z,Flz,Int.mul_one,Int.mul_comm]
end VwM
namespace VwM
open Vw
open Go

def takesL (xs at_:List Int):List Int:=at_.map fun i=>xs.getD i.toNat 0
end VwM
namespace VwM
open Vw
open Go

end VwM
namespace VwM
open Vw
open Go

end VwM
namespace VwM
open Vw
open Go

theorem offs_row {b:Int}{sh:List Int}(hs:vSh sh=true):offs b sh (rowS sh)=nums b 1 (pr sh).toNat:=by
 have hg:=(A5z hs).1
 refine B2z (by simp [offs]) fun k hk=>?_
 rw [Bjz] at hk
 rw [Coz hk,B6z _ _ _ _ hk,cellK,Int.mul_one]
 have h1:=rank_unr hs (k:=k) (by omega) (by omega)
 rw [rankD,if_pos ⟨hs,unr_isIx hg (by omega) (by omega)⟩] at h1
 rw [← Cfz (f:=fun i=>(unr sh k).getD i 0) (g:=dig sh k) fun i hi=>by simp [unr,List.getD,hi]]
 rw [h1]
end VwM
namespace VwM
open Vw
open Go

def MVB (v:Bool)(b:Int):Int:=if v=true then b else 0
def MVL (v:Bool)(l:List Int):List Int:=if v=true then l else []
theorem MVB_true (b:Int):MVB true b=b:=rfl
theorem MVL_true (l:List Int):MVL true l=l:=rfl
theorem MVL_le (v:Bool)(l:List Int):(MVL v l).length≤l.length:=by cases v<;>simp [MVL]
abbrev MV (v:Bool)(b:Int)(sh st:List Int):AV→List (List AV)→Prop:=fun r H' =>
 r=.tup [.agg [.int .i64 (MVB v b),.own 0 (MVL v sh).length 1,.own 1 (MVL v st).length 1],.bool v]∧H'=[IL (MVL v sh),IL (MVL v st)]

def ins (xs:List Int)(k:Nat)(x:Int):List Int:=xs.take k++x::xs.drop k
theorem G9z {xs:List Int}{k:Nat}(x:Int)(h:k≤xs.length):(ins xs k x).length=xs.length+1:=by simp [ins];omega

def cutK (n f t w:Int)(hf ht:Bool):Nat:=cntN (sFrom f n w hf) (sTo t n w ht) w
def cutSh (sh:List Int)(j:Nat)(f t w:Int)(hf ht:Bool):List Int:=sh.set j (cutK (sh.getD j 0) f t w hf ht)
def cutX (sh st:List Int)(j:Nat)(f t w:Int)(hf ht:Bool):Int:=if (cutK (sh.getD j 0) f t w hf ht:Int)≤1 then 0 else pC w (cutK (sh.getD j 0) f t w hf ht)*st.getD j 0
def cutSt (sh st:List Int)(j:Nat)(f t w:Int)(hf ht:Bool):List Int :=
 if pr (cutSh sh j f t w hf ht)=0 then List.replicate sh.length 0 else st.set j (cutX sh st j f t w hf ht)
def cutB (b:Int)(sh st:List Int)(j:Nat)(f t w:Int)(hf ht:Bool):Int :=
 if pr (cutSh sh j f t w hf ht)=0 then 0 else b+pS (sFrom f (sh.getD j 0) w hf) (cutK (sh.getD j 0) f t w hf ht)*st.getD j 0
theorem Evz (sh:List Int)(j:Nat)(f t w:Int)(hf ht:Bool):(cutSh sh j f t w hf ht).length=sh.length:=by simp [cutSh]
theorem Euz {sh st:List Int}(hl:st.length=sh.length)(j:Nat)(f t w:Int)(hf ht:Bool):(cutSt sh st j f t w hf ht).length=sh.length:=by
 unfold cutSt;split<;>simp [hl]
theorem cutK_le {n f t w:Int}{hf ht:Bool}(hn:0≤n∧n≤60)(hs:vS f t w hf ht=true):(cutK n f t w hf ht:Int)≤n:=by
 have hw:=(Kez.1 hs).2.2.2.1
 match hk:cutK n f t w hf ht with
 | 0=>omega
 | k+1 =>
  have a:=idx_in hn hs (i:=k) (show k<cutK n f t w hf ht by omega)
  have b:=idx_in hn hs (i:=0) (show 0<cutK n f t w hf ht by omega)
  simp only [Int.natCast_zero,Int.zero_mul,Int.add_zero] at b
  rcases Int.lt_or_le w 0 with h|h
  ·have:(k:Int)*w≤(k:Int)*(-1):=Int.mul_le_mul_of_nonneg_left (by omega) (by omega)
   omega
  ·have:(k:Int)*1≤(k:Int)*w:=Int.mul_le_mul_of_nonneg_left (by omega) (by omega)
   omega
theorem good4_set {sh:List Int}(hg:good4 sh)(j:Nat){x:Int}(hx:0≤x∧x≤60):good4 (sh.set j x) :=
 ⟨fun y hy=>by
  rcases List.mem_or_eq_of_mem_set hy with h|h
  ·exact hg.1 y h
  ·omega,by simp;exact hg.2⟩
theorem good4_cut {sh:List Int}(hg:good4 sh){j:Nat}(hj:j<sh.length){f t w:Int}{hf ht:Bool}(hs:vS f t w hf ht=true):good4 (cutSh sh j f t w hf ht):=by
 have hn:=Cpz hg hj
 have:=cutK_le hn hs
 exact good4_set hg j (by omega)
end VwM
namespace VwM
open Vw
open Go

theorem dot_zero {f:Nat→Int}{st:List Int}:∀ n,(∀ i,i<n→f i=0)→dot f st n=0
 | 0,_=>rfl
 | n+1,h=>by simp only [dot];rw [dot_zero n fun i hi=>h i (by omega),h n (by omega)];simp
end VwM
namespace VwM
open Vw
open Go

theorem take3 (xs:List Int)(off:Nat)(h:off+3≤xs.length):((xs.map (AV.int .i64)).drop off).take 3=[.int .i64 (xs.getD off 0),.int .i64 (xs.getD (off+1) 0),.int .i64 (xs.getD (off+2) 0)]:=by
 rw [List.drop_eq_getElem_cons (by simp;omega),List.drop_eq_getElem_cons (by simp;omega),List.drop_eq_getElem_cons (by simp;omega)]
 have h1:off<xs.length:=by omega
 have h2:off+1<xs.length:=by omega
 have h3:off+2<xs.length:=by omega
 have e3:off+1+1=off+2:=rfl
 simp only [e3]
 simp [h1,h2,h3,List.getD]
attribute [push_cast] take3
theorem zcells3_1:zcells [AV.int .i64 0,.int .i64 0,.int .i64 0] 1=[AV.int .i64 0,.int .i64 0,.int .i64 0]:=rfl
attribute [push_cast] zcells3_1
end VwM
namespace VwM
open Vw
open Go

theorem take2 (xs:List Int)(off:Nat)(h:off+2≤xs.length):((xs.map (AV.int .i64)).drop off).take 2=[.int .i64 (xs.getD off 0),.int .i64 (xs.getD (off+1) 0)]:=by
 rw [List.drop_eq_getElem_cons (by simp;omega),List.drop_eq_getElem_cons (by simp;omega)]
 have h1:off<xs.length:=by omega
 have h2:off+1<xs.length:=by omega
 simp [h1,h2,List.getD]
theorem take2_0 (xs:List Int)(h:2≤xs.length):(xs.map (AV.int .i64)).take 2=[.int .i64 (xs.getD 0 0),.int .i64 (xs.getD 1 0)]:=by
 have:=take2 xs 0 (by omega)
 rwa [List.drop_zero] at this
attribute [push_cast] take2 take2_0
theorem Hxz (xs:List Int)(o:Nat)(a b:Int):setRange (xs.map (AV.int .i64)) o [.int .i64 a,.int .i64 b]=IL ((xs.set o a).set (o+1) b):=by
 simp [setRange,List.map_set]
theorem snoc2 (xs:List Int)(a b:Int):xs.map (AV.int .i64)++[.int .i64 a,.int .i64 b]=IL (xs++[a,b]):=by simp
def dm:List Int→List Int→List Int
 | e::sh,s::st=>e::s::dm sh st
 | _,_=>[]
theorem Gwz:∀ {sh st:List Int},st.length=sh.length→(dm sh st).length=sh.length*2
 | [],[],_=>rfl
 | e::sh,s::st,h=>by
  have:=Gwz (sh:=sh) (st:=st) (by simpa using h)
  simp only [dm,List.length_cons,this]
  omega
 | [],_::_,h=>by simp at h
 | _::_,[],h=>by simp at h
theorem dm_even:∀ {sh st:List Int} {k:Nat},k<sh.length→st.length=sh.length→(dm sh st).getD (k*2) 0=sh.getD k 0
 | e::sh,s::st,0,_,_=>rfl
 | e::sh,s::st,k+1,h,hl=>by
  have:=dm_even (sh:=sh) (st:=st) (k:=k) (by simpa using h) (by simpa using hl)
  rw [show (k+1)*2=k*2+1+1 by omega]
  simpa [dm,List.getD] using this
 | [],_,_,h,_=>by simp at h
 | _::_,[],_,_,h=>by simp at h
theorem dm_odd:∀ {sh st:List Int} {k:Nat},k<sh.length→st.length=sh.length→(dm sh st).getD (k*2+1) 0=st.getD k 0
 | e::sh,s::st,0,_,_=>rfl
 | e::sh,s::st,k+1,h,hl=>by
  have:=dm_odd (sh:=sh) (st:=st) (k:=k) (by simpa using h) (by simpa using hl)
  rw [show (k+1)*2+1=k*2+1+1+1 by omega]
  simpa [dm,List.getD] using this
 | [],_,_,h,_=>by simp at h
 | _::_,[],_,_,h=>by simp at h
theorem dm_snoc:∀ {sh st:List Int} (e s:Int),st.length=sh.length→dm sh st++[e,s]=dm (sh++[e]) (st++[s])
 | [],[],_,_,_=>rfl
 | a::sh,b::st,e,s,h=>by
  have:=dm_snoc (sh:=sh) (st:=st) e s (by simpa using h)
  simp [dm,this]
 | [],_::_,_,_,h=>by simp at h
 | _::_,[],_,_,h=>by simp at h
theorem dm_set:∀ {sh st:List Int} {k:Nat} (e s:Int),k<sh.length→st.length=sh.length→((dm sh st).set (k*2) e).set (k*2+1) s=dm (sh.set k e) (st.set k s)
 | a::sh,b::st,0,_,_,_,_=>rfl
 | a::sh,b::st,k+1,e,s,h,hl=>by
  have:=dm_set (sh:=sh) (st:=st) (k:=k) e s (by simpa using h) (by simpa using hl)
  rw [show (k+1)*2=k*2+1+1 by omega]
  simpa [dm] using this
 | [],_,_,_,_,h,_=>by simp at h
 | _::_,[],_,_,_,_,h=>by simp at h
theorem dm_take {sh st:List Int}{k:Nat}(h:k<sh.length)(hl:st.length=sh.length):dm (sh.take k) (st.take k)++[sh.getD k 0,st.getD k 0]=dm (sh.take (k+1)) (st.take (k+1)):=by
 rw [dm_snoc _ _ (by simp;omega),A9z _ _ h,A9z _ _ (by omega)]
theorem zcells2_1:zcells [AV.int .i64 0,.int .i64 0] 1=[AV.int .i64 0,.int .i64 0]:=rfl
attribute [push_cast] zcells2_1
end VwM
namespace VwM
open Vw
open Go

theorem Juz:∀ {ys xs:List Int},ys.Nodup→(∀ y∈ys,y∈xs)→xs.length≤ys.length→(∀ x∈xs,x∈ys)∧xs.Nodup
 | [],xs,_,_,h=>by
  have:xs=[]:=List.eq_nil_of_length_eq_zero (by simpa using h)
  subst this
  simp
 | y::ys,xs,hn,hs,h=>by
  have hy:=hs y (by simp)
  have hp:=List.perm_cons_erase hy
  rw [List.nodup_cons] at hn
  have hl:(xs.erase y).length≤ys.length:=by
   rw [List.length_erase_of_mem hy]
   simp only [List.length_cons] at h
   omega
  obtain ⟨h1,h2⟩:=Juz (ys:=ys) (xs:=xs.erase y) hn.2 (fun z hz=>(List.mem_erase_of_ne (fun e=>hn.1 (by rw [← e];exact hz))).2 (hs z (by simp [hz]))) hl
  refine ⟨fun x hx=>?_,?_⟩
  ·rcases List.mem_cons.1 ((hp.mem_iff).1 hx) with rfl|hx'
   ·simp
   ·simp [h1 x hx']
  ·rw [hp.nodup_iff,List.nodup_cons]
   exact ⟨fun hm=>hn.1 (h1 y hm),h2⟩
def hasAll (xs:List Int)(k:Nat):Bool:=(List.range k).all fun d:Nat=>decide ((d:Int)∈xs)
theorem hasAll_false {xs:List Int}{k d:Nat}(h:d<k)(hd:(d:Int) ∉ xs):hasAll xs k=false:=by
 rw [Bool.eq_false_iff]
 intro h'
 have:=List.all_eq_true.1 h' d (List.mem_range.2 h)
 exact hd (of_decide_eq_true this)
theorem Inz {xs:List Int}{k:Nat}(h:∀ d:Nat,d<k→(d:Int)∈xs):hasAll xs k=true :=
 List.all_eq_true.2 fun d hd=>decide_eq_true (h d (List.mem_range.1 hd))
theorem order_iff (xs:List Int)(k:Nat):(decide (xs.length=k)&&hasAll xs k)=(decide (xs.length=k)&&allI xs 0 ((k:Int)-1)&&decide xs.Nodup):=by
 by_cases hl:xs.length=k
 ·rw [decide_eq_true hl,Bool.true_and,Bool.true_and,Bool.eq_iff_iff,Bool.and_eq_true,decide_eq_true_eq,Boz]
  have hm:∀ x,x∈nums 0 1 k↔0≤x∧x≤(k:Int)-1:=fun x=>by
   rw [mem_nums]
   constructor
   ·rintro ⟨i,hi,rfl⟩;omega
   ·rintro ⟨a,b⟩;exact ⟨x.toNat,by omega,by omega⟩
  have hd:(nums 0 1 k).Nodup:=(Ibz (by omega) k).imp fun h=>by omega
  constructor
  ·intro h
   have h':∀ y∈nums 0 1 k,y∈xs:=fun y hy=>by
    have:=(hm y).1 hy
    have h2:=of_decide_eq_true (List.all_eq_true.1 h y.toNat (List.mem_range.2 (by omega)))
    rwa [show ((y.toNat:Nat):Int)=y by omega] at h2
   obtain ⟨a,b⟩:=Juz hd h' (by rw [Chz];omega)
   exact ⟨fun x hx=>(hm x).1 (a x hx),b⟩
  ·rintro ⟨a,b⟩
   obtain ⟨c,_⟩:=Juz b (fun y hy=>(hm y).2 (a y hy)) (by rw [Chz];omega)
   exact Inz fun d hd'=>c _ ((hm _).2 (by omega))
 ·simp [hl]
end VwM
namespace VwM
open Vw
open Go

def permL (xs order:List Int):List Int:=order.map fun i=>xs.getD i.toNat 0
theorem A3z (xs order:List Int):(permL xs order).length=order.length:=by simp [permL]
theorem E8z (xs order:List Int){k:Nat}(h:k<order.length):(permL xs order).getD k 0=xs.getD (order.getD k 0).toNat 0:=by
 simp [permL,List.getD,h]
theorem G4z (xs order:List Int){k:Nat}(h:k<order.length):permL xs (order.take (k+1))=permL xs (order.take k)++[xs.getD (order.getD k 0).toNat 0]:=by
 rw [A9z order k h];simp [permL]
theorem permL_nums (xs:List Int):permL xs (nums 0 1 xs.length)=xs:=by
 refine B2z (by simp [permL]) fun j hj=>?_
 have hj':j<(nums 0 1 xs.length).length:=by simpa [permL] using hj
 rw [E8z _ _ hj',B6z _ _ _ _ (by simpa using hj')]
 congr 1
 omega
def isOrd (order:List Int)(n:Nat):Prop:=order.length=n∧(∀ x∈order,0≤x∧x≤(n:Int)-1)∧order.Nodup
theorem isOrd_of {order:List Int}{n:Nat}(h:(decide (order.length=n)&&allI order 0 ((n:Int)-1)&&decide order.Nodup)=true):isOrd order n:=by
 simp only [Bool.and_eq_true,decide_eq_true_eq,Boz] at h
 exact ⟨h.1.1,h.1.2,h.2⟩
theorem G6z (n:Nat):(nums 0 1 n).Nodup:=(Ibz (by omega) n).imp fun h=>by omega
theorem Cbz {n:Nat}{x:Int}:x∈nums 0 1 n↔0≤x∧x≤(n:Int)-1:=by
 rw [mem_nums]
 constructor
 ·rintro ⟨i,hi,rfl⟩;omega
 ·rintro ⟨a,b⟩;exact ⟨x.toNat,by omega,by omega⟩
theorem isOrd.perm {order:List Int}{n:Nat}(h:isOrd order n):order.Perm (nums 0 1 n):=by
 rw [List.perm_ext_iff_of_nodup h.2.2 (G6z n)]
 intro x
 refine ⟨fun hx=>Cbz.2 (h.2.1 x hx),fun hx=>?_⟩
 exact (Juz h.2.2 (fun y hy=>Cbz.2 (h.2.1 y hy)) (by rw [Chz,h.1];omega)).1 x hx
theorem Caz {xs order:List Int}(h:isOrd order xs.length):(permL xs order).Perm xs:=by
 have:=h.perm.map fun i:Int=>xs.getD i.toNat 0
 rw [show (nums 0 1 xs.length).map (fun i:Int=>xs.getD i.toNat 0)=xs from permL_nums xs] at this
 exact this
theorem Fvz {xs ys:List Int}(h:xs.Perm ys):pr xs=pr ys:=by
 induction h with
 | nil=>rfl
 | cons x _ ih=>rw [B5z,B5z,ih]
 | swap x y l=>rw [B5z,B5z,B5z,B5z,← Int.mul_assoc,Int.mul_comm y x,Int.mul_assoc]
 | trans _ _ ih1 ih2=>exact ih1.trans ih2
def sumL:List Int→Int
 | []=>0
 | x::r=>x+sumL r
theorem Fqz (xs ys:List Int):sumL (xs++ys)=sumL xs+sumL ys:=by
 induction xs with
 | nil=>simp [sumL]
 | cons x r ih=>simp only [List.cons_append,sumL,ih];omega
theorem sumL_perm {xs ys:List Int}(h:xs.Perm ys):sumL xs=sumL ys:=by
 induction h with
 | nil=>rfl
 | cons x _ ih=>simp only [sumL,ih]
 | swap x y l=>simp only [sumL];omega
 | trans _ _ ih1 ih2=>exact ih1.trans ih2
theorem K1z (f:Nat→Int)(st:List Int):∀ n,dot f st n=sumL ((List.range n).map fun i=>f i*st.getD i 0)
 | 0=>rfl
 | n+1=>by rw [dot,K1z f st n,List.range_succ,List.map_append,Fqz];simp [sumL]
def invO (order:List Int)(d:Nat):Nat:=order.idxOf (d:Int)
theorem invO_at {order:List Int}{n:Nat}(h:isOrd order n){k:Nat}(hk:k<n):invO order (order.getD k 0).toNat=k:=by
 have hk':k<order.length:=by rw [h.1];exact hk
 have hx:=h.2.1 _ (Bcz hk')
 unfold invO
 rw [show (((order.getD k 0).toNat:Nat):Int)=order.getD k 0 by omega]
 have e:order.getD k 0=order[k]:=by simp [List.getD,hk']
 rw [e,List.Nodup.idxOf_getElem h.2.2]
theorem Kxz {order:List Int}{n:Nat}(h:isOrd order n){d:Nat}(hd:d<n):invO order d<n∧order.getD (invO order d) 0=d:=by
 have hm:(d:Int)∈order:=(h.perm.mem_iff).2 (Cbz.2 (by omega))
 have hl:=List.idxOf_lt_length_of_mem hm
 refine ⟨by unfold invO;rw [← h.1];exact hl,?_⟩
 unfold invO
 simp [List.getD,hl]
theorem Iwz {st order:List Int}{n:Nat}(h:isOrd order n)(f:Nat→Int):dot f (permL st order) n=dot (fun d=>f (invO order d)) st n:=by
 rw [K1z,K1z]
 have h1:(List.range n).map (fun i=>f i*(permL st order).getD i 0)=order.map fun x:Int=>f (invO order x.toNat)*st.getD x.toNat 0:=by
  refine B2z (by simp [h.1]) fun j hj=>?_
  have hj':j<n:=by simpa using hj
  have hj2:j<order.length:=by rw [h.1];exact hj'
  have e1:((List.range n).map (fun i=>f i*(permL st order).getD i 0)).getD j 0=f j*(permL st order).getD j 0:=by simp [List.getD,hj']
  have e2:(order.map fun x:Int=>f (invO order x.toNat)*st.getD x.toNat 0).getD j 0=f (invO order (order.getD j 0).toNat)*st.getD (order.getD j 0).toNat 0:=by simp [List.getD,hj2]
  rw [e1,e2,invO_at h hj',E8z _ _ hj2]
 have h2:(List.range n).map (fun i=>f (invO order i)*st.getD i 0)=(nums 0 1 n).map fun x:Int=>f (invO order x.toNat)*st.getD x.toNat 0:=by
  refine B2z (by simp) fun j hj=>?_
  have hj':j<n:=by simpa using hj
  have e1:((List.range n).map (fun i=>f (invO order i)*st.getD i 0)).getD j 0=f (invO order j)*st.getD j 0:=by simp [List.getD,hj']
  have e2:((nums 0 1 n).map fun x:Int=>f (invO order x.toNat)*st.getD x.toNat 0).getD j 0=f (invO order ((nums 0 1 n).getD j 0).toNat)*st.getD ((nums 0 1 n).getD j 0).toNat 0:=by
   have:j<(nums 0 1 n).length:=by simpa using hj'
   simp only [List.getD,List.getElem?_map,List.getElem?_eq_getElem this,Option.map_some,Option.getD_some]
  rw [e1,e2,B6z _ _ _ _ hj',show ((0:Int)+(j:Int)*1).toNat=j by omega]
 rw [h1,h2]
 exact sumL_perm (h.perm.map _)
theorem isIx_permL {sh order:List Int}(h:isOrd order sh.length){f:Nat→Int}(hf:isIx (permL sh order) f):isIx sh fun d=>f (invO order d):=fun d hd=>by
 obtain ⟨a,b⟩:=Kxz h hd
 have:=hf (invO order d) (by rw [A3z,h.1];exact a)
 rw [E8z _ _ (by rw [h.1];exact a),b] at this
 exact this
theorem J3z {xs ys:List Int}(h:ys.Perm xs)(hg:good4 xs):good4 ys:=⟨fun x hx=>hg.1 x ((h.mem_iff).1 hx),by rw [h.length_eq];exact hg.2⟩
theorem Hqz {xs ys:List Int}(h:ys.Perm xs)(hs:vSh xs=true):vSh ys=true:=by
 have hg:=A5z hs
 have hw:=J3z h hg.1
 have hp:=Fvz h
 unfold vSh
 have h3:pr ys≤60:=by omega
 simp [hw.2,h3,Boz.2 hw.1]
theorem vV_perm {b:Int}{sh st order:List Int}(h:vV b sh st=true)(ho:isOrd order sh.length):vV b (permL sh order) (permL st order)=true:=by
 obtain ⟨h1,h2,h3,h4⟩:=Czz.1 h
 have hg:=(A5z h1).1
 have hl:=(E0z.1 h2).1
 have hp:=Caz ho
 have hp2:=Caz (xs:=st) (order:=order) (by rw [hl];exact ho)
 refine Czz.2 ⟨Hqz hp h1,E0z.2 ⟨by rw [A3z,A3z],fun x hx=>(E0z.1 h2).2 x ((hp2.mem_iff).1 hx)⟩,h3,?_⟩
 rcases h4 with h4|h4
 ·exact .inl (by rw [Fvz hp];exact h4)
 ·refine .inr fun x hx=>?_
  obtain ⟨f,hf,rfl⟩:=(Crz (J3z hp hg)).1 hx
  refine h4 _ ((Crz hg).2 ⟨_,isIx_permL ho hf,?_⟩)
  rw [A3z,ho.1,Iwz ho]
def mixP (xs order:List Int)(k:Nat):List Int:=permL xs (order.take k)++xs.drop k
theorem mixP_zero (xs order:List Int):mixP xs order 0=xs:=by simp [mixP,permL]
theorem Iez {xs order:List Int}{k:Nat}(h:k≤xs.length)(h2:order.length=xs.length):(mixP xs order k).length=xs.length:=by simp [mixP,A3z];omega
theorem mixP_all {xs order:List Int}(h2:order.length=xs.length):mixP xs order xs.length=permL xs order:=by
 unfold mixP
 rw [List.take_of_length_le (by omega),List.drop_of_length_le (by omega),List.append_nil]
theorem mixP_set {xs order:List Int}{k:Nat}(h:k<xs.length)(h2:order.length=xs.length):(mixP xs order k).set k (xs.getD (order.getD k 0).toNat 0)=mixP xs order (k+1):=by
 have hl:(permL xs (order.take k)).length=k:=by rw [A3z];simp;omega
 unfold mixP
 rw [G4z _ _ (by omega),List.set_append_right (h:=by omega),hl,Nat.sub_self,List.drop_eq_getElem_cons h]
 simp only [List.set_cons_zero,List.append_assoc,List.cons_append,List.nil_append]
theorem isOrd_rev (n:Nat):isOrd (nums 0 1 n).reverse n:=⟨by simp,fun x hx=>Cbz.1 (by simpa using hx),((List.reverse_perm _).nodup_iff).2 (G6z n)⟩
def at4 (a b c d:Int):Nat→Int
 | 0=>a
 | 1=>b
 | 2=>c
 | 3=>d
 | _=>0
theorem at4_zero:∀ i,at4 0 0 0 0 i=0
 | 0=>rfl
 | 1=>rfl
 | 2=>rfl
 | 3=>rfl
 | _+4=>rfl
end VwM
namespace VwM
open Vw Go

def vMem (mem:List Int):Bool:=decide (mem.length≤60)&&allI mem 0 255
theorem F9z {mem:List Int}:vMem mem=true↔mem.length≤60∧∀ x∈mem,0≤x∧x≤255:=by
 simp only [vMem,Bool.and_eq_true,decide_eq_true_eq,Boz]
def seeB (mem:List Int)(b:Int)(sh st:List Int):Bool:=vMem mem&&vV b sh st&&allI (offs b sh st) 0 ((mem.length:Int)-1)
theorem C8z {mem:List Int}{b:Int}{sh st:List Int}:seeB mem b sh st=true↔vMem mem=true∧vV b sh st=true∧∀ x∈offs b sh st,0≤x∧x≤(mem.length:Int)-1:=by
 simp only [seeB,Bool.and_eq_true,Boz,and_assoc]
theorem seeB_at {mem:List Int}{b:Int}{sh st:List Int}(h:seeB mem b sh st=true){k:Nat}(hk:k<(offs b sh st).length):0≤(offs b sh st).getD k 0∧(offs b sh st).getD k 0≤(mem.length:Int)-1 :=
 (C8z.1 h).2.2 _ (Bcz hk)


def wdt (sh st:List Int):Nat:=if sh.length=0 then 1 else if st.getD (sh.length-1) 0=1 then (sh.getD (sh.length-1) 0).toNat else 1

theorem pr_last {sh:List Int}(h:sh.length≠0):pr sh=pr (sh.take (sh.length-1))*sh.getD (sh.length-1) 0:=by
 have:=Cjz sh (sh.length-1) (by omega)
 rw [show sh.length-1+1=sh.length by omega,List.take_length] at this
 exact this
theorem wdt_dvd {sh st:List Int}(hg:good4 sh):wdt sh st ∣ (pr sh).toNat:=by
 unfold wdt
 split
 ·exact Nat.one_dvd _
 ·rename_i h
  split
  ·have h1:=Cpz hg (k:=sh.length-1) (by omega)
   have h2:=(Cmz (Hbz hg (sh.length-1))).1
   refine ⟨(pr (sh.take (sh.length-1))).toNat,?_⟩
   rw [pr_last h,Int.toNat_mul h2 h1.1,Nat.mul_comm]
  ·exact Nat.one_dvd _
theorem wdt_pos {sh st:List Int}(hg:good4 sh)(h:1≤pr sh):1≤wdt sh st:=by
 unfold wdt
 split
 ·omega
 ·rename_i h0
  split
  ·have:=Cwz hg h (sh.length-1) (by omega)
   omega
  ·omega
theorem wdt_le {sh st:List Int}(hg:good4 sh):wdt sh st≤60:=by
 unfold wdt
 split
 ·omega
 ·split
  ·have:=Cpz hg (k:=sh.length-1) (by omega)
   omega
  ·omega
theorem kS_row {sh:List Int}{e q j:Nat}(he:sh.getD (sh.length-1) 0=(e:Int))(hj:j<e):∀ m,1≤m→kS sh ((q*e+j:Nat):Int) m=kS sh ((q*e:Nat):Int) m
 | 0,h=>by omega
 | 1,_=>by
  simp only [kS,Nat.sub_zero,he]
  rw [← Int.ofNat_tdiv,← Int.ofNat_tdiv]
  congr 1
  rw [Nat.mul_div_cancel _ (by omega:0<e),Nat.mul_comm,Nat.mul_add_div (by omega:0<e),Nat.div_eq_of_lt hj,Nat.add_zero]
 | m+2,_=>by
  have ih:=kS_row (q:=q) he hj (m+1) (by omega)
  simp only [kS] at ih ⊢
  rw [ih]
theorem cell_rowW {b:Int}{sh st:List Int}{k j:Nat}(hk:wdt sh st ∣ k)(hj:j<wdt sh st):cellK b sh st ((k+j:Nat):Int)=cellK b sh st (k:Int)+(j:Int):=by
 unfold wdt at hk hj
 split at hk
 ·rename_i h;rw [if_pos h] at hj
  have:j=0:=by omega
  subst this;simp
 ·rename_i h
  rw [if_neg h] at hj
  split at hk
  ·rename_i h1
   rw [if_pos h1] at hj
   obtain ⟨q,rfl⟩:=hk
   obtain ⟨e,he⟩:∃ e:Nat,sh.getD (sh.length-1) 0=(e:Int):=⟨(sh.getD (sh.length-1) 0).toNat,by omega⟩
   rw [he,Int.toNat_natCast] at hj ⊢
   rw [Nat.mul_comm e q]
   obtain ⟨n,hn⟩:∃ n,sh.length=n+1:=⟨sh.length-1,by omega⟩
   unfold cellK
   rw [hn]
   simp only [dot]
   have hn1:sh.length-1=n:=by omega
   rw [hn1] at he h1
   rw [h1]
   have d1:dot (dig sh ((q*e+j:Nat):Int)) st n=dot (dig sh ((q*e:Nat):Int)) st n:=Cfz fun i hi=>by
    unfold dig
    rw [kS_row (q:=q) (by rw [hn1];exact he) hj _ (by omega)]
   have d2:dig sh ((q*e+j:Nat):Int) n=(j:Int):=by
    unfold dig
    rw [show sh.length-1-n=0 by omega,he]
    simp only [kS]
    rw [← Int.ofNat_tmod,Nat.add_comm,Nat.add_mul_mod_self_right,Nat.mod_eq_of_lt hj]
   have d3:dig sh ((q*e:Nat):Int) n=0:=by
    unfold dig
    rw [show sh.length-1-n=0 by omega,he]
    simp only [kS]
    rw [← Int.ofNat_tmod,Nat.mul_mod_left]
    rfl
   rw [d1,d2,d3]
   omega
  ·rename_i h1
   rw [if_neg h1] at hj
   have:j=0:=by omega
   subst this;simp
theorem row_end {w n k:Nat}(hw:1≤w)(hd:w ∣ n)(hk:w ∣ k)(h:k<n):k+w≤n:=by
 obtain ⟨q,rfl⟩:=hd
 obtain ⟨r,rfl⟩:=hk
 have:r<q:=Nat.lt_of_mul_lt_mul_left h
 have h2:w*(r+1)≤w*q:=Nat.mul_le_mul_left w (by omega)
 rw [Nat.mul_add,Nat.mul_one] at h2
 exact h2
theorem offs_rowW {b:Int}{sh st:List Int}(hg:good4 sh){k j:Nat}(hk:wdt sh st ∣ k)(hj:j<wdt sh st)(h:k<(pr sh).toNat):(offs b sh st).getD (k+j) 0=(offs b sh st).getD k 0+(j:Int):=by
 have hw:1≤wdt sh st:=by omega
 have he:=row_end hw (wdt_dvd (st:=st) hg) hk h
 rw [Coz (by omega),Coz h,cell_rowW hk hj]


theorem takesL_length (xs at_:List Int):(takesL xs at_).length=at_.length:=by simp [takesL]
theorem C7z {xs at_:List Int}{k:Nat}(h:k<at_.length):(takesL xs at_).getD k 0=xs.getD (at_.getD k 0).toNat 0:=by simp [takesL,List.getD,h]
theorem Gcz (xs at_:List Int):filled (fun k=>xs.getD (at_.getD k 0).toNat 0) at_.length at_.length=takesL xs at_:=by
 refine B2z (by simp [filled,takesL]) fun j hj=>?_
 have hj':j<at_.length:=by simpa [filled] using hj
 rw [C7z hj']
 simp [filled,List.getD,hj']

theorem Gfz:∀ (l:List AV) (cs:List AV) (off:Nat) (x:AV),setRange cs off (l++[x])=(setRange cs off l).set (off+l.length) x
 | [],_,_,_=>by simp [setRange]
 | c::r,cs,off,x=>by
  simp only [List.cons_append,setRange,List.length_cons]
  rw [Gfz r]
  congr 1
  omega
theorem I6z (xs:List Int)(k w:Nat)(h:k+w<xs.length):(xs.drop k).take (w+1)=(xs.drop k).take w++[xs.getD (k+w) 0]:=by
 rw [A9z _ _ (by simp;omega)]
 congr 2
 simp [List.getD,List.getElem?_drop]

theorem load_row {mem cells:List Int}{n k:Nat}:∀ w,k+w≤n→(cells.getD k 0).toNat+w≤mem.length→(∀ j,j<w→(cells.getD (k+j) 0).toNat=(cells.getD k 0).toNat+j) →
  setRange ((filled (fun k=>mem.getD (cells.getD k 0).toNat 0) n k).map (AV.int .i64)) k (((mem.drop (cells.getD k 0).toNat).take w).map (AV.int .i64))=(filled (fun k=>mem.getD (cells.getD k 0).toNat 0) n (k+w)).map (AV.int .i64)
 | 0,_,_,_=>by simp [setRange]
 | w+1,hw,hm,hc=>by
  rw [I6z mem _ w (by omega),List.map_append,List.map_cons,List.map_nil,Gfz,load_row w (by omega) (by omega) (fun j hj=>hc j (by omega))]
  rw [show k+(w+1)=(k+w)+1 by omega,List.length_map,List.length_take,List.length_drop,Nat.min_eq_left (by omega),← hc w (by omega),← List.map_set]
  congr 1
  exact C4z (fun k=>mem.getD (cells.getD k 0).toNat 0) n (k+w) (by omega)

theorem IL_td (k:IntKind)(xs:List Int)(a w:Nat):((xs.map (AV.int k)).drop a).take w=((xs.drop a).take w).map (AV.int k):=by rw [List.map_take,List.map_drop]

end VwM
namespace VwM
open Vw Go

end VwM
namespace VwM
open Vw Go

end VwM
namespace VwM
open Vw Go

end VwM
namespace VwM
open Vw
open Go

section
variable {b:Int} {sh st:List Int} {j:Nat} {f t w:Int} {hf ht:Bool}
end
end VwM
namespace VwM
open Vw
open Go

section
variable {b:Int} {sh st:List Int} {j:Nat} {i:Int}
end
end VwM
namespace VwM
open Vw
open Go

section
variable {b:Int} {sh st:List Int} {d e:Nat}
end
end VwM
namespace VwM
open Vw Go

end VwM
namespace VwM
open Vw Go

end VwM
namespace VwM
open Vw
open Go

abbrev Vw3:=Int×List Int×List Int
def VLs:List Vw3→List AV
 | []=>[]
 | v::r=>.int .i64 v.1::RI v.2.1::RI v.2.2::VLs r
theorem Kyz (p:Nat→Bool):∀ xs:List Int,innL p (IL xs)=true
 | []=>rfl
 | x::r=>by
  have:=Kyz p r
  simp only [IL,List.map_cons,innL,AV.inn,Bool.true_and]
  exact this
theorem ren_VLs {ρ:Nat→Option Nat}{Zh:Nat→Option (List AV)}{n:Nat}:∀ vs:List Vw3,(VLs vs).map (AV.ren ρ Zh false phiD (n+2))=VLs vs
 | []=>rfl
 | v::r=>by
  simp only [VLs,List.map_cons,ren_VLs r,List.cons.injEq,and_true]
  refine ⟨rfl,?_,?_⟩<;>simp [AV.ren,phiD]
attribute [push_cast] ren_VLs
end VwM
namespace VwM
open Go Vw

abbrev Tn:=List Int×List Int
def TL (b:Bool):List Tn→List AV
 | []=>[]
 | t::r=>.rows b (IL t.1) t.1.length::.rows b (IL t.2) t.2.length::TL b r
def LL (b:Bool):List (List Int)→List AV
 | []=>[]
 | l::r=>.rows b (IL l) l.length::LL b r
theorem Eyz (b:Bool):∀ ts:List Tn,(TL b ts).length=ts.length*2
 | []=>rfl
 | t::r=>by simp only [TL,List.length_cons,Eyz b r];omega
theorem Dsz (b:Bool):∀ ls:List (List Int),(LL b ls).length=ls.length
 | []=>rfl
 | l::r=>by simp only [LL,List.length_cons,Dsz b r]
theorem TL_drop (b:Bool):∀ (ts:List Tn) (i:Nat) {t:Tn},ts[i]?=some t→((TL b ts).drop (i*2)).take 2=[.rows b (IL t.1) t.1.length,.rows b (IL t.2) t.2.length]
 | [],_,_,h=>by simp at h
 | w::r,0,v,h=>by simp at h;subst h;simp [TL]
 | w::r,i+1,v,h=>by
  rw [show (i+1)*2=i*2+1+1 by omega]
  simp only [TL,List.drop_succ_cons]
  exact TL_drop b r i (by simpa using h)
theorem K8z (b:Bool):∀ (ls:List (List Int)) (i:Nat) {l:List Int},ls[i]?=some l→((LL b ls).drop i).take 1=[.rows b (IL l) l.length]
 | [],_,_,h=>by simp at h
 | w::r,0,v,h=>by simp at h;subst h;simp [LL]
 | w::r,i+1,v,h=>by
  simp only [LL,List.drop_succ_cons]
  exact K8z b r i (by simpa using h)
theorem Arz (b:Bool)(p:Nat→Bool):∀ ts:List Tn,innL p (TL b ts)=true
 | []=>rfl
 | v::r=>by
  simp only [TL,innL,AV.inn,Arz b p r,Bool.and_true,Bool.true_and,Bool.and_eq_true]
  exact ⟨Kyz _ _,Kyz _ _⟩
theorem Amz (b:Bool)(p:Nat→Bool):∀ ls:List (List Int),innL p (LL b ls)=true
 | []=>rfl
 | v::r=>by
  simp only [LL,innL,AV.inn,Amz b p r,Bool.and_true,Bool.true_and,Bool.and_eq_true]
  exact Kyz _ _
section
variable {ρ:Nat→Option Nat} {Zh:Nat→Option (List AV)} {n:Nat} {b0:Bool} {φ:Bool→Option Bool}
theorem B3z (xs:List Int):(IL xs).map (AV.ren ρ Zh b0 φ (n+1))=IL xs:=by unfold IL;rw [List.map_map];rfl
theorem ren_TL {b c:Bool}(h:φ b=some c):∀ ts:List Tn,(TL b ts).map (AV.ren ρ Zh b0 φ (n+2))=TL c ts
 | []=>rfl
 | v::r=>by
  simp only [TL,List.map_cons,ren_TL h r,List.cons.injEq,and_true]
  constructor<;>simp only [AV.ren,h,B3z]
theorem ren_LL {b c:Bool}(h:φ b=some c):∀ ls:List (List Int),(LL b ls).map (AV.ren ρ Zh b0 φ (n+2))=LL c ls
 | []=>rfl
 | v::r=>by
  simp only [LL,List.map_cons,ren_LL h r,List.cons.injEq,and_true]
  simp only [AV.ren,h,B3z]
theorem ren_TLD (b:Bool)(ts:List Tn):(TL b ts).map (AV.ren ρ Zh b0 phiD (n+2))=TL false ts:=ren_TL (by cases b<;>rfl) ts
theorem ren_LLD (b:Bool)(ts:List (List Int)):(LL b ts).map (AV.ren ρ Zh b0 phiD (n+2))=LL false ts:=ren_LL (by cases b<;>rfl) ts
theorem ren_TLU (sh:Bool)(ts:List Tn):(TL true ts).map (AV.ren ρ Zh b0 (phiU sh) (n+2))=TL true ts:=ren_TL (by rfl) ts
theorem ren_LLU (sh:Bool)(ts:List (List Int)):(LL true ts).map (AV.ren ρ Zh b0 (phiU sh) (n+2))=LL true ts:=ren_LL (by rfl) ts
theorem ren_TLV (b:Bool)(ts:List Tn):(TL b ts).map (AV.ren ρ Zh b0 (phiU true) (n+2))=TL b ts:=ren_TL (by cases b<;>rfl) ts
theorem ren_LLV (b:Bool)(ts:List (List Int)):(LL b ts).map (AV.ren ρ Zh b0 (phiU true) (n+2))=LL b ts:=ren_LL (by cases b<;>rfl) ts
theorem ren_TLs (b:Bool)(ts:List Tn):(TL b ts).map (AV.ren ρ Zh b0 some (n+2))=TL b ts:=ren_TL (by rfl) ts
theorem ren_LLs (b:Bool)(ts:List (List Int)):(LL b ts).map (AV.ren ρ Zh b0 some (n+2))=LL b ts:=ren_LL (by rfl) ts
end
attribute [push_cast] ren_TLD ren_LLD ren_TLU ren_LLU ren_TLV ren_LLV ren_TLs ren_LLs Eyz Dsz

theorem fz_IL {H:Nat→Option (List AV)}{n:Nat}(xs:List Int):(IL xs).map (AV.fz H (n+1))=IL xs:=by unfold IL;rw [List.map_map];rfl
theorem fz_TL {H:Nat→Option (List AV)}{n:Nat}(b:Bool):∀ ts:List Tn,(TL b ts).map (AV.fz H (n+2))=TL b ts
 | []=>rfl
 | v::r=>by
  simp only [TL,List.map_cons,fz_TL b r,List.cons.injEq,and_true]
  constructor<;>simp only [AV.fz,fz_IL]
theorem fz_LL {H:Nat→Option (List AV)}{n:Nat}(b:Bool):∀ ls:List (List Int),(LL b ls).map (AV.fz H (n+2))=LL b ls
 | []=>rfl
 | v::r=>by
  simp only [LL,List.map_cons,fz_LL b r,List.cons.injEq,and_true]
  simp only [AV.fz,fz_IL]
attribute [push_cast] fz_TL fz_LL
theorem Buz {s:S}{t id:Nat}{e:List Int}{r:List ARes}{l:List AV}(h1:s.σ t=.ref id 5 0)(h2:s.H id=some (e.map (AV.int .i64)))(he:e.length=5)(hr:aresL s r=some l):aresL s (.cell t true 5::r)=some (.agg (e.map (AV.int .i64))::l):=by
 have h3:ares s (.cell t true 5)=some (.agg (e.map (AV.int .i64))):=by
  simp only [ares,h1,loadAV,h2,List.length_map,he]
  rw [if_pos (by simp),List.drop_zero,List.take_of_length_le (by simp [he])]
  rfl
 simp only [aresL,h3,hr]


def extG:List Int→List (Int×Int)→Option (List Int)
 | e,[]=>some e
 | e,p::r=>if 0≤e.getD p.1.toNat 0∧e.getD p.1.toNat 0≠p.2 then none else extG (e.set p.1.toNat p.2) r
def ext0:List Int:=[-1,-1,-1,-1,-1]
def prsOf (ts:List Tn)(ls:List (List Int)):List (Int×Int):=(ls.zip ts).flatMap fun p=>p.1.zip p.2.1
def labOk (ts:List Tn)(ls:List (List Int)):Bool:=(ls.zip ts).all fun p=>decide (p.1.length=p.2.1.length)&&allI p.1 0 4
def exT (ts:List Tn)(ls:List (List Int)):Option (List Int):=if labOk ts ls=true then extG ext0 (prsOf ts ls) else none
def vT (t:Tn):Bool:=vSh t.1&&decide ((t.2.length:Int)=pr t.1)&&allI t.2 (-1000000) 1000000
def exO (ts:List Tn)(ls:List (List Int)):Option (List Int):=if (ts.all vT&&(decide (1≤ts.length)&&decide (ts.length≤3))&&decide (ls.length=ts.length))=true then exT ts ls else none
theorem F2z:∀ (a b:List (Int×Int)) (e:List Int),extG e (a++b)=(extG e a).bind fun e'=>extG e' b
 | [],b,e=>rfl
 | p::r,b,e=>by
  simp only [List.cons_append,extG]
  split
  ·rfl
  ·exact F2z r b _
theorem extG_len:∀ (a:List (Int×Int)) {e e':List Int},extG e a=some e'→e'.length=e.length
 | [],e,e',h=>by simp only [extG] at h;injection h with h;rw [h]
 | p::r,e,e',h=>by
  simp only [extG] at h
  split at h
  ·cases h
  ·have:=extG_len r h;rw [List.length_set] at this;exact this
theorem extG_spec:∀ (a:List (Int×Int)) {e e':List Int} (k:Nat),k<e.length→(∀ p∈a,0≤p.1∧p.1<e.length∧0≤p.2)→extG e a=some e' →
  (∀ p∈a,p.1=k→e'.getD k 0=p.2)∧((∀ p∈a,p.1≠k)→e'.getD k 0=e.getD k 0)∧(0≤e.getD k 0→e'.getD k 0=e.getD k 0)
 | [],e,e',k,hk,_,h=>by simp only [extG] at h;injection h with h;subst h;simp
 | p::r,e,e',k,hk,hp,h=>by
  simp only [extG] at h
  split at h
  ·cases h
  ·rename_i hc
   have hpp:=hp p (by simp)
   obtain ⟨i1,i2,i3⟩:=extG_spec r (e:=e.set p.1.toNat p.2) k (by rw [List.length_set];exact hk) (fun q hq=>by rw [List.length_set];exact hp q (by simp [hq])) h
   have hg:(e.set p.1.toNat p.2).getD k 0=if p.1.toNat=k then p.2 else e.getD k 0:=by
    simp only [List.getD_eq_getElem?_getD,List.getElem?_set]
    by_cases hpk:p.1.toNat=k
    ·subst hpk
     rw [if_pos rfl,if_pos rfl,if_pos hk];rfl
    ·rw [if_neg hpk,if_neg hpk]
   rw [hg] at i2 i3
   have h3:p.1.toNat=k→e'.getD k 0=p.2:=fun he=>by
    rw [if_pos he] at i3
    exact i3 hpp.2.2
   refine ⟨fun q hq hqk=>?_,fun hn=>?_,fun h0=>?_⟩
   ·rcases List.mem_cons.1 hq with rfl|hq
    ·exact h3 (by omega)
    ·exact i1 q hq hqk
   ·have hpk:¬ p.1.toNat=k:=fun he=>hn p (by simp) (by omega)
    rw [if_neg hpk] at i2
    exact i2 fun q hq=>hn q (by simp [hq])
   ·by_cases hpk:p.1.toNat=k
    ·rw [h3 hpk]
     rw [hpk] at hc
     by_cases hx:e.getD k 0=p.2
     ·exact hx.symm
     ·exact absurd ⟨h0,hx⟩ hc
    ·rw [if_neg hpk] at i3
     exact i3 h0
end VwM
namespace VwM
open Go Vw

theorem set5 {e:List Int}(he:e.length=5)(a b c d f:AV):setRange [a,b,c,d,f] 0 (e.map (AV.int .i64))=e.map (AV.int .i64):=by
 match e,he with
 | [_,_,_,_,_],_=>rfl
theorem tak5 {e:List Int}(he:e.length=5):(e.map (AV.int .i64)).take 5=e.map (AV.int .i64):=List.take_of_length_le (by simp [he])

def mkL (L:List Int):List Bool:=(List.range 5).map fun c:Nat=>decide ((c:Int)∈L)
theorem Jyz (L:List Int):(mkL L).length=5:=by simp [mkL]
theorem mkL_nil:(mkL []).map AV.bool=[AV.bool false,AV.bool false,AV.bool false,AV.bool false,AV.bool false]:=rfl
theorem mkL_set {L:List Int}{c:Int}(h:0≤c∧c≤4):(mkL L).set c.toNat true=mkL (L++[c]):=by
 refine List.ext_getElem? fun i=>?_
 simp only [mkL,List.getElem?_set,List.length_map,List.length_range,List.getElem?_map]
 by_cases hi:i<5
 ·rw [List.getElem?_range hi]
  by_cases hc:c.toNat=i
  ·rw [if_pos hc,if_pos (by omega)]
   have:(i:Int)=c:=by omega
   simp [this]
  ·rw [if_neg hc]
   have:¬ (i:Int)=c:=by omega
   simp [this]
 ·rw [List.getElem?_eq_none (by simp;omega)]
  have hc:¬ c.toNat=i:=by omega
  rw [if_neg hc];rfl
theorem mkL_getD {L:List Int}{k:Nat}(h:k<5):(mkL L).getD k false=decide ((k:Int)∈L):=by
 simp [mkL,List.getD,h]
def lbT (L:List Int)(k:Nat):List Int:=((List.range k).map Int.ofNat).filter fun x=>decide (x∈L)
abbrev lbS (L:List Int):List Int:=lbT L 5
theorem lbT_zero (L:List Int):lbT L 0=[]:=rfl
theorem lbT_yes {L:List Int}{k:Nat}(h:(k:Int)∈L):lbT L (k+1)=lbT L k++[(k:Int)]:=by
 simp [lbT,List.range_succ,h]
theorem lbT_no {L:List Int}{k:Nat}(h:(k:Int) ∉ L):lbT L (k+1)=lbT L k:=by
 simp [lbT,List.range_succ,h]
theorem Ekz (L:List Int)(k:Nat):(lbT L k).length≤k:=by
 unfold lbT
 exact Nat.le_trans (List.length_filter_le ..) (by simp)
theorem mem_lbT {L:List Int}{k:Nat}{x:Int}:x∈lbT L k↔(0≤x∧x<k)∧x∈L:=by
 simp only [lbT,List.mem_filter,List.mem_map,List.mem_range,decide_eq_true_eq]
 constructor
 ·rintro ⟨⟨i,hi,rfl⟩,h⟩
  exact ⟨⟨by simp,by simp;omega⟩,h⟩
 ·rintro ⟨⟨h0,h1⟩,h⟩
  exact ⟨⟨x.toNat,by omega,by simp;omega⟩,h⟩
theorem Ehz {L:List Int}{x:Int}:x∈lbS L↔(0≤x∧x≤4)∧x∈L:=by
 rw [mem_lbT];constructor<;>rintro ⟨⟨a,b⟩,c⟩<;>exact ⟨⟨a,by omega⟩,c⟩
theorem lbT_sorted (L:List Int)(k:Nat):(lbT L k).Pairwise (· < ·):=by
 unfold lbT
 refine List.Pairwise.filter _ (List.pairwise_map.2 ?_)
 refine List.Pairwise.imp ?_ (List.pairwise_lt_range (n:=k))
 intro a b h
 simp;omega

def good9 (xs:List Int):Prop:=(∀ x∈xs,0≤x∧x≤60)∧xs.length≤6
theorem good9_take {xs:List Int}(h:good9 xs)(j:Nat):good9 (xs.take j):=⟨fun x hx=>h.1 x (List.mem_of_mem_take hx),by have:=h.2;simp;omega⟩
theorem Efz {xs:List Int}(h:good9 xs):0≤pr xs∧pr xs≤46656000000:=by
 have h1:=H5z xs h.1
 refine ⟨h1.1,Int.le_trans h1.2 ?_⟩
 have:(60:Int) ^ xs.length≤60 ^ 6:=by
  have:=Nat.pow_le_pow_right (n:=60) (by omega) h.2
  exact_mod_cast this
 omega
def gE (e:List Int)(k:Int):Int:=e.getD k.toNat 0
def spE (e:List Int):List Int:=e.map fun x=>if x<0 then 1 else x
theorem spE_length (e:List Int):(spE e).length=e.length:=by simp [spE]
theorem spE_lbS {e U:List Int}(he:e.length=5)(h1:∀ k:Nat,k<5→(k:Int) ∉ U→e.getD k 0<0)(h2:∀ k:Nat,k<5→(k:Int)∈U→0≤e.getD k 0):pr (spE e)=pr ((lbS U).map (gE e)):=by
 match e,he with
 | [a,b,c,d,f],_ =>
  have a1:=h1 0 (by omega);have a2:=h2 0 (by omega)
  have b1:=h1 1 (by omega);have b2:=h2 1 (by omega)
  have c1:=h1 2 (by omega);have c2:=h2 2 (by omega)
  have d1:=h1 3 (by omega);have d2:=h2 3 (by omega)
  have f1:=h1 4 (by omega);have f2:=h2 4 (by omega)
  simp only [List.getD_eq_getElem?_getD,List.getElem?_cons_zero,List.getElem?_cons_succ,Option.getD_some] at a1 a2 b1 b2 c1 c2 d1 d2 f1 f2
  have e5:lbS U=(if (0:Int)∈U then [0] else [])++(if (1:Int)∈U then [1] else [])++(if (2:Int)∈U then [2] else [])++(if (3:Int)∈U then [3] else [])++(if (4:Int)∈U then [4] else []):=by
   have l0:lbT U 1=(if (0:Int)∈U then [0] else []):=by by_cases h:(0:Int)∈U<;>simp [lbT,h]
   have ls:∀ k:Nat,lbT U (k+1)=lbT U k++(if (k:Int)∈U then [(k:Int)] else []):=fun k=>by
    by_cases h:(k:Int)∈U
    ·rw [if_pos h,lbT_yes h]
    ·rw [if_neg h,lbT_no h,List.append_nil]
   show lbT U (4+1)=_
   rw [ls 4,ls 3,ls 2,ls 1,l0]
   rfl
  rw [e5]
  have m:∀ (p:Prop) [Decidable p] (k x:Int),(p→gE [a,b,c,d,f] k=x)→pr ((if p then [k] else []).map (gE [a,b,c,d,f]))=if p then x else 1:=fun p _ k x hx=>by
   by_cases hp:p
   ·rw [if_pos hp,if_pos hp];simp [pr,hx hp]
   ·rw [if_neg hp,if_neg hp];rfl
  have ap:∀ xs ys:List Int,pr (xs++ys)=pr xs*pr ys:=fun xs ys=>by rw [pr,List.foldl_append,Isz];rfl
  rw [List.map_append,List.map_append,List.map_append,List.map_append,ap,ap,ap,ap,m _ 0 a (fun _=>rfl),m _ 1 b (fun _=>rfl),m _ 2 c (fun _=>rfl),m _ 3 d (fun _=>rfl),m _ 4 f (fun _=>rfl)]
  have w:∀ (p:Prop) [Decidable p] (x:Int),(¬ p→x<0)→(p→0≤x)→(if x<0 then 1 else x)=if p then x else 1:=fun p _ x g1 g2=>by
   by_cases hp:p
   ·have:=g2 hp;rw [if_pos hp,if_neg (by omega)]
   ·have:=g1 hp;rw [if_neg hp,if_pos this]
  simp only [spE,List.map_cons,List.map_nil,B5z,Flz]
  rw [w _ a a1 a2,w _ b b1 b2,w _ c c1 c2,w _ d d1 d2,w _ f f1 f2]
  simp only [Int.mul_one,Int.mul_assoc]
  rfl

theorem prs_succ {ts:List Tn}{ls:List (List Int)}{i:Nat}{t:Tn}{l:List Int}(ht:ts[i]?=some t)(hl:ls[i]?=some l):prsOf (ts.take (i+1)) (ls.take (i+1))=prsOf (ts.take i) (ls.take i)++l.zip t.1:=by
 have hi:i<ts.length:=by rcases Nat.lt_or_ge i ts.length with h|h;exact h;rw [List.getElem?_eq_none h] at ht;cases ht
 have hi':i<ls.length:=by rcases Nat.lt_or_ge i ls.length with h|h;exact h;rw [List.getElem?_eq_none h] at hl;cases hl
 have e:(ls.take (i+1)).zip (ts.take (i+1))=(ls.take i).zip (ts.take i)++[(l,t)]:=by
  rw [List.take_add_one,List.take_add_one,ht,hl]
  simp only [Option.toList_some]
  rw [List.zip_append (by simp;omega)]
  rfl
 unfold prsOf
 rw [e,List.flatMap_append]
 simp
theorem J8z {l x:List Int}{j:Nat}(h1:j<l.length)(h2:j<x.length):(l.zip x).take (j+1)=(l.zip x).take j++[(l.getD j 0,x.getD j 0)]:=by
 rw [List.take_add_one]
 congr 1
 have h3:(l.zip x)[j]?=some (l.getD j 0,x.getD j 0):=by
  rw [List.getElem?_zip_eq_some];simp [List.getD,h1,h2]
 rw [h3];rfl
theorem extG_fail {a b:List (Int×Int)}{e e':List Int}{p:Int×Int}(h:extG e a=some e')(hp:0≤e'.getD p.1.toNat 0∧e'.getD p.1.toNat 0≠p.2):extG e (a++p::b)=none:=by
 rw [F2z,h]
 simp only [Option.bind_some,extG]
 rw [if_pos hp]
theorem extG_step {a:List (Int×Int)}{e e':List Int}{p:Int×Int}(h:extG e a=some e')(hp:¬ (0≤e'.getD p.1.toNat 0∧e'.getD p.1.toNat 0≠p.2)):extG e (a++[p])=some (e'.set p.1.toNat p.2):=by
 rw [F2z,h]
 simp only [Option.bind_some,extG]
 rw [if_neg hp]
theorem zip_split {l x:List Int}{j:Nat}(h1:j<l.length)(h2:j<x.length):l.zip x=(l.zip x).take j++(l.getD j 0,x.getD j 0)::(l.zip x).drop (j+1):=by
 have h3:j<(l.zip x).length:=by simp;omega
 have h4:(l.zip x)[j]=(l.getD j 0,x.getD j 0):=by simp [List.getD,h1,h2]
 rw [← h4,List.getElem_cons_drop,List.take_append_drop]
theorem prs_split {ts:List Tn}{ls:List (List Int)}{i:Nat}{t:Tn}{l:List Int}(ht:ts[i]?=some t)(hl:ls[i]?=some l):∃ r,prsOf ts ls=prsOf (ts.take i) (ls.take i)++(l.zip t.1++r):=by
 have hi:i<ts.length:=by rcases Nat.lt_or_ge i ts.length with h|h;exact h;rw [List.getElem?_eq_none h] at ht;cases ht
 have hi':i<ls.length:=by rcases Nat.lt_or_ge i ls.length with h|h;exact h;rw [List.getElem?_eq_none h] at hl;cases hl
 refine ⟨prsOf (ts.drop (i+1)) (ls.drop (i+1)),?_⟩
 rw [← List.append_assoc,← prs_succ ht hl]
 unfold prsOf
 rw [← List.flatMap_append,← List.zip_append (by simp;omega),List.take_append_drop,List.take_append_drop]
theorem exT_fail {ts:List Tn}{ls:List (List Int)}{i j:Nat}{t:Tn}{l e:List Int}(ht:ts[i]?=some t)(hl:ls[i]?=some l)(h1:j<l.length)(h2:j<t.1.length)
  (he:extG ext0 (prsOf (ts.take i) (ls.take i)++(l.zip t.1).take j)=some e) (hp:0≤e.getD (l.getD j 0).toNat 0∧e.getD (l.getD j 0).toNat 0≠t.1.getD j 0):exT ts ls=none:=by
 unfold exT
 split
 ·obtain ⟨r,hr⟩:=prs_split ht hl
  rw [hr,zip_split h1 h2,List.append_assoc,List.cons_append,← List.append_assoc]
  exact extG_fail he hp
 ·rfl
theorem exT_lab {ts:List Tn}{ls:List (List Int)}{i:Nat}{t:Tn}{l:List Int}(ht:ts[i]?=some t)(hl:ls[i]?=some l)(h:(decide (l.length=t.1.length)&&allI l 0 4)=false):exT ts ls=none:=by
 unfold exT
 rw [if_neg]
 intro hc
 have hm:(l,t)∈ls.zip ts:=List.mem_of_getElem? (i:=i) (by rw [List.getElem?_zip_eq_some];exact ⟨hl,ht⟩)
 have:=List.all_eq_true.1 hc _ hm
 rw [h] at this;cases this
theorem exT_done {ts:List Tn}{ls:List (List Int)}{e:List Int}(hlen:ls.length=ts.length)(hall:∀ (i:Nat) (t:Tn) (l:List Int),ts[i]?=some t→ls[i]?=some l→l.length=t.1.length∧allI l 0 4=true)
  (he:extG ext0 (prsOf (ts.take ts.length) (ls.take ts.length))=some e):exT ts ls=some e:=by
 unfold exT
 rw [if_pos,← he,List.take_length,← hlen,List.take_length]
 refine List.all_eq_true.2 fun p hp=>?_
 obtain ⟨i,hi⟩:=List.mem_iff_getElem?.1 hp
 obtain ⟨a,b⟩:=List.getElem?_zip_eq_some.1 hi
 obtain ⟨c,d⟩:=hall i _ _ b a
 simp [c,d]
theorem Ciz:ext0.length=5:=rfl
theorem exT_facts {ts:List Tn}{ls:List (List Int)}{e:List Int}(hlen:ls.length=ts.length)(hsh:∀ t∈ts,vSh t.1=true)(h:exT ts ls=some e) :
  e.length=5∧(∀ k:Nat,k<5→(k:Int) ∉ ls.flatten→e.getD k 0<0)∧(∀ k:Nat,k<5→(k:Int)∈ls.flatten→0≤e.getD k 0∧e.getD k 0≤60)∧(∀ k:Nat,k<5→-1≤e.getD k 0) ∧
  (∀ x∈ls.flatten,0≤x∧x≤4)∧∀ (i:Nat) (t:Tn) (l:List Int),ts[i]?=some t→ls[i]?=some l→l.length=t.1.length∧∀ j,j<l.length→gE e (l.getD j 0)=t.1.getD j 0:=by
 unfold exT at h
 split at h
 case isFalse=>cases h
 rename_i hok
 have h5:=extG_len _ h
 have hlab:∀ (i:Nat) (t:Tn) (l:List Int),ts[i]?=some t→ls[i]?=some l→l.length=t.1.length∧∀ x∈l,0≤x∧x≤4:=fun i t l ht hl=>by
  have hm:(l,t)∈ls.zip ts:=List.mem_of_getElem? (i:=i) (by rw [List.getElem?_zip_eq_some];exact ⟨hl,ht⟩)
  have:=List.all_eq_true.1 hok _ hm
  rw [Bool.and_eq_true,decide_eq_true_eq,Boz] at this
  exact this
 have hpm:∀ p,p∈prsOf ts ls↔∃ (i:Nat) (t:Tn) (l:List Int) (j:Nat),ts[i]?=some t∧ls[i]?=some l∧j<l.length∧p=(l.getD j 0,t.1.getD j 0):=fun p=>by
  unfold prsOf
  rw [List.mem_flatMap]
  constructor
  ·rintro ⟨⟨l,t⟩,hm,hp⟩
   obtain ⟨i,hi⟩:=List.mem_iff_getElem?.1 hm
   obtain ⟨a,b⟩:=List.getElem?_zip_eq_some.1 hi
   obtain ⟨j,hj⟩:=List.mem_iff_getElem?.1 hp
   obtain ⟨c,d⟩:=List.getElem?_zip_eq_some.1 hj
   have hjl:j<l.length:=(List.getElem?_eq_some_iff.1 c).1
   refine ⟨i,t,l,j,b,a,hjl,?_⟩
   have c':l[j]?=some p.1:=c
   have d':t.1[j]?=some p.2:=d
   simp [List.getD_eq_getElem?_getD,c',d']
  ·rintro ⟨i,t,l,j,ht,hl,hj,rfl⟩
   have hll:=(hlab i t l ht hl).1
   refine ⟨(l,t),List.mem_of_getElem? (i:=i) (by rw [List.getElem?_zip_eq_some];exact ⟨hl,ht⟩),?_⟩
   refine List.mem_of_getElem? (i:=j) ?_
   rw [List.getElem?_zip_eq_some]
   constructor
   ·simp [List.getD,hj]
   ·simp [List.getD,show j<t.1.length by omega]
 have hshp:∀ t∈ts,∀ j,j<t.1.length→0≤t.1.getD j 0∧t.1.getD j 0≤60:=fun t ht j hj=>(A5z (hsh t ht)).1.1 _ (Bcz hj)
 have hb:∀ p∈prsOf ts ls,(0≤p.1∧p.1<ext0.length∧0≤p.2):=fun p hp=>by
  obtain ⟨i,t,l,j,ht,hl,hj,rfl⟩:=(hpm p).1 hp
  obtain ⟨a,b⟩:=hlab i t l ht hl
  have:=b _ (Bcz hj)
  have h2:=hshp t (List.mem_of_getElem? ht) j (by omega)
  exact ⟨this.1,by rw [Ciz];omega,h2.1⟩
 have hs:=fun k hk=>extG_spec (prsOf ts ls) (e:=ext0) (e':=e) k hk hb h
 have h0:∀ k:Nat,k<5→ext0.getD k 0=-1:=fun k hk=>by
  have:k=0∨k=1∨k=2∨k=3∨k=4:=by omega
  rcases this with rfl|rfl|rfl|rfl|rfl<;>rfl
 have hmf:∀ x,x∈ls.flatten↔∃ p∈prsOf ts ls,p.1=x:=fun x=>by
  rw [List.mem_flatten]
  constructor
  ·rintro ⟨l,hl,hx⟩
   obtain ⟨i,hi⟩:=List.mem_iff_getElem?.1 hl
   obtain ⟨j,hj,e⟩:=Goz.1 hx
   have hil:i<ls.length:=(List.getElem?_eq_some_iff.1 hi).1
   have ht:ts[i]?=some (ts[i]'(by omega)):=List.getElem?_eq_getElem _
   exact ⟨_,(hpm _).2 ⟨i,_,l,j,ht,hi,hj,rfl⟩,e⟩
  ·rintro ⟨p,hp,rfl⟩
   obtain ⟨i,t,l,j,ht,hl,hj,rfl⟩:=(hpm p).1 hp
   exact ⟨l,List.mem_of_getElem? hl,Bcz hj⟩
 have hneg:∀ k:Nat,k<5→(k:Int) ∉ ls.flatten→e.getD k 0=-1:=fun k hk hn=>by
  rw [(hs k hk).2.1 fun p hp he=>hn ((hmf k).2 ⟨p,hp,he⟩),h0 k hk]
 have hpos:∀ k:Nat,k<5→(k:Int)∈ls.flatten→0≤e.getD k 0∧e.getD k 0≤60:=fun k hk hm=>by
  obtain ⟨p,hp,he⟩:=(hmf k).1 hm
  rw [(hs k hk).1 p hp he]
  obtain ⟨i,t,l,j,ht,hl,hj,rfl⟩:=(hpm p).1 hp
  exact hshp t (List.mem_of_getElem? ht) j (by rw [← (hlab i t l ht hl).1];exact hj)
 refine ⟨h5,fun k hk hn=>by rw [hneg k hk hn];omega,hpos,fun k hk=>?_,fun x hx=>?_,fun i t l ht hl=>⟨(hlab i t l ht hl).1,fun j hj=>?_⟩⟩
 ·by_cases hm:(k:Int)∈ls.flatten
  ·have:=hpos k hk hm;omega
  ·rw [hneg k hk hm];omega
 ·obtain ⟨l,hl,hxl⟩:=List.mem_flatten.1 hx
  obtain ⟨i,hi⟩:=List.mem_iff_getElem?.1 hl
  have hil:i<ls.length:=(List.getElem?_eq_some_iff.1 hi).1
  exact (hlab i _ l (List.getElem?_eq_getElem (by omega)) hi).2 x hxl
 ·have hr:=(hlab i t l ht hl).2 _ (Bcz hj)
  have hp:=(hpm (l.getD j 0,t.1.getD j 0)).2 ⟨i,t,l,j,ht,hl,hj,rfl⟩
  exact (hs (l.getD j 0).toNat (by rw [Ciz];omega)).1 _ hp (by simp only;omega)
end VwM
namespace VwM
open Go Vw

def wiL (xs ys:List Int):List Int:=xs.filter fun x=>!decide (x∈ys)
theorem wiL_in {xs ys:List Int}{k:Nat}(h:k<xs.length)(hm:xs.getD k 0∈ys):wiL (xs.take (k+1)) ys=wiL (xs.take k) ys:=by
 rw [A9z xs k h];unfold wiL;rw [List.filter_append];simp [hm,-List.getD_eq_getElem?_getD]
theorem wiL_out {xs ys:List Int}{k:Nat}(h:k<xs.length)(hm:xs.getD k 0 ∉ ys):wiL (xs.take (k+1)) ys=wiL (xs.take k) ys++[xs.getD k 0]:=by
 rw [A9z xs k h];unfold wiL;rw [List.filter_append];simp [hm,-List.getD_eq_getElem?_getD]
theorem wiL_len (xs ys:List Int):(wiL xs ys).length≤xs.length:=List.length_filter_le ..
end VwM
namespace VwM
open Go Vw

def wkF (e:List Int)(p:List Int×Int)(x:Int):List Int×Int:=(p.1.set x.toNat (p.2.tmod (gE e x)),p.2.tdiv (gE e x))
def wkS (e w:List Int)(k:Int)(L:List Int):List Int×Int:=L.foldl (wkF e) (w,k)
theorem wkS_nil (e w:List Int)(k:Int):wkS e w k []=(w,k):=rfl
theorem wkS_snoc (e w:List Int)(k:Int)(L:List Int)(x:Int):wkS e w k (L++[x])=wkF e (wkS e w k L) x:=by simp [wkS]
theorem Kdz (e w:List Int)(k:Int)(L:List Int):(wkS e w k L).1.length=w.length:=by
 unfold wkS
 induction L generalizing w k with
 | nil=>rfl
 | cons x L ih=>simp only [List.foldl_cons];rw [show wkF e (w,k) x=((wkF e (w,k) x).1,(wkF e (w,k) x).2) from rfl,ih];simp [wkF]
theorem wkS_bound (e w:List Int)(k:Int)(L:List Int)(hk:0≤k)(hL:∀ x∈L,0<gE e x):0≤(wkS e w k L).2∧(wkS e w k L).2≤k:=by
 unfold wkS
 induction L generalizing w k with
 | nil=>exact ⟨hk,Int.le_refl _⟩
 | cons x L ih =>
  simp only [List.foldl_cons]
  have hx:=hL x (by simp)
  have h1:0≤k.tdiv (gE e x):=Int.tdiv_nonneg hk (by omega)
  have h2:k.tdiv (gE e x)≤k:=by
   rw [Int.tdiv_eq_ediv_of_nonneg hk]
   exact Int.ediv_le_self _ hk
  have:=ih (w.set x.toNat (k.tmod (gE e x))) (k.tdiv (gE e x)) h1 (fun y hy=>hL y (by simp [hy]))
  exact ⟨this.1,Int.le_trans this.2 h2⟩
def wayK (e L w:List Int)(k:Int):List Int:=(wkS e w k L.reverse).1
theorem Ezz (e L w:List Int)(k:Int):(wayK e L w k).length=w.length:=Kdz ..
def waysT (e L w:List Int)(n:Nat):List (List Int):=(List.range n).map fun k:Nat=>wayK e L w k
def waysF (e L w:List Int)(n:Nat):List Int:=(waysT e L w n).flatten
theorem waysT_len (e L w:List Int)(n:Nat):(waysT e L w n).length=n:=by simp [waysT]
theorem waysT_succ (e L w:List Int)(n:Nat):waysT e L w (n+1)=waysT e L w n++[wayK e L w n]:=by simp [waysT,List.range_succ]
theorem Jgz (e L w:List Int)(n:Nat):waysF e L w (n+1)=waysF e L w n++wayK e L w n:=by simp [waysF,waysT_succ]
theorem C6z (e L w:List Int)(hw:w.length=5):∀ n,(waysF e L w n).length=n*5
 | 0=>rfl
 | n+1=>by rw [Jgz,List.length_append,C6z e L w hw n,Ezz,hw];omega
def wy3 (e L w:List Int)(k n:Nat)(y:List Int):List Int:=waysF e L w k++(y++List.replicate ((n-k-1)*5) 0)
theorem wy3_len {e L w y:List Int}{k n:Nat}(hw:w.length=5)(hy:y.length=5)(hk:k<n):(wy3 e L w k n y).length=n*5:=by
 unfold wy3
 rw [List.length_append,C6z e L w hw,List.length_append,hy,List.length_replicate]
 omega
theorem wy3_set {e L w y:List Int}{k n:Nat}(hw:w.length=5)(hy:y.length=5)(i:Nat)(hi:i<5)(v:Int):(wy3 e L w k n y).set (k*5+i) v=wy3 e L w k n (y.set i v):=by
 unfold wy3
 have hl:=C6z e L w hw k
 rw [List.set_append_right _ _ (by omega),hl,Nat.add_sub_cancel_left,List.set_append_left _ _ (by omega)]
def wyZ (e L w:List Int)(k n:Nat):List Int:=waysF e L w k++List.replicate ((n-k)*5) 0
theorem wyZ_len {e L w:List Int}{k n:Nat}(hw:w.length=5)(hk:k≤n):(wyZ e L w k n).length=n*5:=by
 unfold wyZ
 rw [List.length_append,C6z e L w hw,List.length_replicate]
 omega
theorem wyZ_zero (e L w:List Int)(n:Nat):wyZ e L w 0 n=List.replicate (n*5) 0:=by simp [wyZ,waysF,waysT]
theorem wyZ_all (e L w:List Int)(n:Nat):wyZ e L w n n=waysF e L w n:=by simp [wyZ]
theorem wyZ_next {e L w:List Int}{k n:Nat}(hk:k<n):wy3 e L w k n (wayK e L w k)=wyZ e L w (k+1) n:=by
 unfold wy3 wyZ
 rw [Jgz,List.append_assoc]
 congr 2
theorem J7z (a b:List Int):IL (a++b)=IL a++IL b:=by simp [IL]
theorem Aqz (a:List Int):(IL a).length=a.length:=by simp [IL]
section
variable [Inhabited GlobT]
theorem wyZ_store {e L w y:List Int}{k n:Nat}(hw:w.length=5)(hy:y.length=5)(hk:k<n):setRange (IL (wyZ e L w k n)) (k*5) (IL y)=IL (wy3 e L w k n y):=by
 have hl:=C6z e L w hw k
 apply List.ext_getElem?
 intro j
 have hlen:(IL y).length=5:=by rw [Aqz,hy]
 have h1:=wyZ_len (e:=e) (L:=L) hw (Nat.le_of_lt hk)
 rw [Ebz _ _ _ _ (by rw [hlen,Aqz,h1];omega),hlen]
 by_cases hj:k*5≤j∧j<k*5+5
 ·rw [if_pos hj]
  unfold wy3
  simp only [IL,List.getElem?_map]
  rw [List.getElem?_append_right (by omega),hl,List.getElem?_append_left (by omega)]
 ·rw [if_neg hj]
  unfold wy3 wyZ
  simp only [IL,List.getElem?_map]
  congr 1
  by_cases h2:j<k*5
  ·rw [List.getElem?_append_left (by omega),List.getElem?_append_left (by omega)]
  ·rw [List.getElem?_append_right (by omega),List.getElem?_append_right (by omega),hl,List.getElem?_append_right (by omega),hy]
   simp only [List.getElem?_replicate]
   by_cases h3:j<n*5
   ·rw [if_pos (by omega),if_pos (by omega)]
   ·rw [if_neg (by omega),if_neg (by omega)]
end
theorem spL_IL (xs:List Int):spL (IL xs)=false:=by
 induction xs with
 | nil=>rfl
 | cons x xs ih=>simp [IL,spL,AV.isSp]
theorem A2z {e:List Int}(he:e.length=5):List.take 5 (IL e)=IL e:=List.take_of_length_le (by rw [Aqz,he];exact Nat.le_refl _)
theorem J9z (n:Nat):zcells [.int .i64 0,.int .i64 0,.int .i64 0,.int .i64 0,.int .i64 0] n=IL (List.replicate (n*5) 0):=by
 unfold zcells IL
 apply List.ext_getElem?
 intro i
 simp only [List.length_cons,List.length_nil,List.getElem?_map,List.getElem?_replicate]
 by_cases hi:i<n*5
 ·rw [List.getElem?_range (by omega),if_pos hi]
  have:i % 5=0∨i % 5=1∨i % 5=2∨i % 5=3∨i % 5=4:=by omega
  rcases this with h|h|h|h|h<;>simp [h]
 ·rw [if_neg hi,List.getElem?_eq_none (by simp;omega)];rfl
def bwX (L:List Int):List (Int×Int):=(List.range L.length).map fun j:Nat=>((L.length:Int)-1-j,L.getD (L.length-1-j) 0)
theorem bwX_len (L:List Int):(bwX L).length=L.length:=by simp [bwX]
theorem bwX_mem {L:List Int}{p:Int×Int}(h:p∈bwX L):p.2∈L:=by
 unfold bwX at h
 rw [List.mem_map] at h
 obtain ⟨j,hj,rfl⟩:=h
 rw [List.mem_range] at hj
 have:L.length-1-j<L.length:=by omega
 simp only [List.getD,List.getElem?_eq_getElem this,Option.getD_some]
 exact List.getElem_mem this
theorem bwX_snd (L:List Int):(bwX L).map (·.2)=L.reverse:=by
 unfold bwX
 rw [List.map_map]
 apply List.ext_getElem
 ·simp
 ·intro i h1 h2
  simp only [List.length_map,List.length_range] at h1
  have:L.length-1-i<L.length:=by omega
  simp [List.getElem_reverse,List.getD,List.getElem?_eq_getElem this]
abbrev bwA (e:List Int):={p:Int×Int // (0≤p.2∧p.2≤4)∧0<gE e p.2∧gE e p.2≤60}
def bwL (e L:List Int)(h:∀ x∈L,(0≤x∧x≤4)∧0<gE e x∧gE e x≤60):List (bwA e):=(bwX L).pmap (fun p hp=>⟨p,hp⟩) (fun p hp=>h p.2 (bwX_mem hp))
theorem bwL_len (e L:List Int)(h):(bwL e L h).length=L.length:=by simp [bwL,bwX_len]
theorem bwL_get (e L:List Int)(h)(j:Nat)(hj:j<(bwL e L h).length):(bwL e L h)[j].1.1=(L.length:Int)-1-j∧L[L.length-1-j]?=some (bwL e L h)[j].1.2:=by
 have hj':j<L.length:=by rw [bwL_len] at hj;exact hj
 have h3:L.length-1-j<L.length:=by omega
 simp only [bwL,List.getElem_pmap,bwX,List.getElem_map,List.getElem_range]
 refine ⟨trivial,?_⟩
 simp [List.getD,List.getElem?_eq_getElem h3]
theorem bwL_snd (e L:List Int)(h):(bwL e L h).map (·.1.2)=L.reverse:=by
 rw [← bwX_snd]
 unfold bwL
 rw [List.map_pmap]
 simp [List.pmap_eq_map]
theorem Eez:∀ {xs:List Int},(∀ x∈xs,0≤x)→0≤pr xs
 | [],_=>by decide
 | y::ys,h=>by rw [B5z];exact Int.mul_nonneg (h y (by simp)) (Eez fun z hz=>h z (by simp [hz]))
theorem Dnz:∀ {xs:List Int},0<pr xs→(∀ x∈xs,0≤x)→∀ x∈xs,0<x
 | [],_,_,_,h=>by simp at h
 | y::ys,hp,hn,x,hx=>by
  rw [B5z] at hp
  have hy:=hn y (by simp)
  have hys:0≤pr ys:=by
   have:=@Eez ys (fun z hz=>hn z (by simp [hz]))
   exact this
  have hy0:0<y:=by
   rcases Int.lt_or_eq_of_le hy with h|h
   ·exact h
   ·rw [← h] at hp;simp at hp
  have hp0:0<pr ys:=by
   rcases Int.lt_or_eq_of_le hys with h|h
   ·exact h
   ·rw [← h] at hp;simp at hp
  rcases List.mem_cons.1 hx with rfl|hx
  ·exact hy0
  ·exact Dnz hp0 (fun z hz=>hn z (by simp [hz])) x hx
end VwM
namespace VwM
open Go Vw

def sumN:Nat→(Nat→Int)→Int
 | 0,_=>0
 | n+1,f=>sumN n f+f n
theorem E5z {f g:Nat→Int}:∀ {n:Nat},(∀ a,a<n→f a=g a)→sumN n f=sumN n g
 | 0,_=>rfl
 | n+1,h=>by simp only [sumN];rw [E5z (fun a ha=>h a (by omega)),h n (by omega)]
theorem Jjz (f:Nat→Int)(k:Nat):∀ m,sumN (k+m) f=sumN k f+sumN m (fun b=>f (k+b))
 | 0=>by simp [sumN]
 | m+1=>by rw [← Nat.add_assoc];simp only [sumN];rw [Jjz f k m];omega
theorem sumN_prod (m:Nat)(f:Nat→Int):∀ n,sumN (n*m) f=sumN n (fun a=>sumN m (fun b=>f (a*m+b)))
 | 0=>by simp [sumN]
 | n+1=>by rw [Nat.succ_mul,Jjz,sumN_prod m f n];simp only [sumN]
def SS (e:List Int):List Int→List Int→(List Int→Int)→Int
 | [],w,g=>g w
 | x::L,w,g=>sumN (gE e x).toNat fun a=>SS e L (w.set x.toNat (a:Int)) g

def fitW (e w:List Int)(x:Int):Prop:=0≤gE w x∧gE w x<gE e x

theorem Ioz {w:List Int}{x y:Int}{a:Int}(hx:0≤x∧x.toNat<w.length)(hy:0≤y):gE (w.set x.toNat a) y=if y=x then a else gE w y:=by
 unfold gE
 simp only [List.getD_eq_getElem?_getD,List.getElem?_set]
 by_cases h:y=x
 ·subst h;simp [hx.2]
 ·rw [if_neg (by omega),if_neg h]

theorem SS_congr {e:List Int}{f g:List Int→Int}:∀ {L w:List Int},(∀ x∈L,0≤x∧x.toNat<w.length)→L.Nodup →
  (∀ v:List Int,v.length=w.length→(∀ y,0≤y→y ∉ L→gE v y=gE w y)→(∀ x∈L,fitW e v x)→f v=g v)→SS e L w f=SS e L w g
 | [],w,_,_,h=>h w rfl (fun _ _ _=>rfl) (fun _ h=>by simp at h)
 | x::L,w,hL,hn,h=>by
  simp only [SS]
  rw [List.nodup_cons] at hn
  refine E5z fun a ha=>SS_congr (fun y hy=>by simpa using hL y (by simp [hy])) hn.2 fun v hv h1 h2=>?_
  have hx:=hL x (by simp)
  refine h v (by simpa using hv) (fun y hy0 hy=>?_) (fun y hy=>?_)
  ·simp only [List.mem_cons,not_or] at hy
   rw [h1 y hy0 hy.2,Ioz hx hy0,if_neg hy.1]
  ·rcases List.mem_cons.1 hy with rfl|hy
   ·have:=h1 y hx.1 hn.1
    rw [Ioz hx hx.1,if_pos rfl] at this
    unfold fitW
    omega
   ·exact h2 y hy
theorem Hgz (e:List Int):∀ (L w:List Int) (k:Int) (x a:Int),0≤x→(∀ y∈L,0≤y)→x ∉ L→(wkS e (w.set x.toNat a) k L)=((wkS e w k L).1.set x.toNat a,(wkS e w k L).2)
 | [],w,k,x,a,_,_,_=>rfl
 | y::L,w,k,x,a,hx,hL,hn=>by
  simp only [List.mem_cons,not_or] at hn
  have hy:=hL y (by simp)
  have ih:=Hgz e L (w.set y.toNat (k.tmod (gE e y))) (k.tdiv (gE e y)) x a hx (fun z hz=>hL z (by simp [hz])) hn.2
  show wkS e ((w.set x.toNat a).set y.toNat (k.tmod (gE e y))) (k.tdiv (gE e y)) L=((wkS e (w.set y.toNat (k.tmod (gE e y))) (k.tdiv (gE e y)) L).1.set x.toNat a,(wkS e (w.set y.toNat (k.tmod (gE e y))) (k.tdiv (gE e y)) L).2)
  rw [List.set_comm _ _ (by omega),ih]
theorem Jez (e w:List Int)(k:Int)(L M:List Int):wkS e w k (L++M)=wkS e (wkS e w k L).1 (wkS e w k L).2 M:=by simp [wkS]
theorem wkS_rank (e:List Int):∀ (L w:List Int) (b c:Nat),(∀ x∈L,0<gE e x)→(b:Int)<pr (L.map (gE e)) →
  wkS e w ((c:Int)*pr (L.map (gE e))+b) L=((wkS e w b L).1,(c:Int))∧(wkS e w b L).2=0
 | [],w,b,c,_,hb=>by
  have:b=0:=by have h1:pr ([]:List Int)=1:=rfl;simp only [List.map_nil,h1] at hb;omega
  subst this
  simp [wkS,show pr ([]:List Int)=1 from rfl]
 | x::L,w,b,c,hL,hb=>by
  have hx:=hL x (by simp)
  obtain ⟨m,hm⟩:∃ m:Nat,gE e x=m:=⟨(gE e x).toNat,by omega⟩
  have hp:0≤pr (L.map (gE e)):=Eez fun z hz=>by obtain ⟨y,hy,rfl⟩:=List.mem_map.1 hz;exact Int.le_of_lt (hL y (by simp [hy]))
  obtain ⟨q,hq⟩:∃ q:Nat,pr (L.map (gE e))=q:=⟨(pr (L.map (gE e))).toNat,by omega⟩
  rw [List.map_cons,B5z,hm,hq] at hb ⊢
  have hm0:0<m:=by omega
  have hbq:b<m*q:=by exact_mod_cast hb
  have hbd:b / m<q:=Nat.div_lt_of_lt_mul hbq
  have e1:((c:Int)*((m:Int)*q)+b)=((c*(m*q)+b:Nat):Int):=by push_cast
  have e2:(c*(m*q)+b) % m=b % m:=by rw [show c*(m*q)+b=b+m*(c*q) by rw [Nat.mul_left_comm,Nat.add_comm]];exact Nat.add_mul_mod_self_left _ _ _
  have e3:(c*(m*q)+b) / m=c*q+b / m:=by rw [show c*(m*q)+b=b+m*(c*q) by rw [Nat.mul_left_comm,Nat.add_comm],Nat.add_mul_div_left _ _ hm0,Nat.add_comm]
  have ih:=wkS_rank e L (w.set x.toNat ((b % m:Nat):Int)) (b / m) c (fun y hy=>hL y (by simp [hy])) (by rw [hq];exact_mod_cast hbd)
  rw [hq] at ih
  have s1:∀ (z:Nat),wkS e w z (x::L)=wkS e (w.set x.toNat ((z % m:Nat):Int)) ((z / m:Nat):Int) L:=fun z=>by
   show L.foldl (wkF e) (wkF e (w,(z:Int)) x)=L.foldl (wkF e) _
   simp only [wkF,hm,Int.ofNat_tmod,Int.ofNat_tdiv]
  rw [e1,s1,s1,e2,e3]
  have e4:((c*q+b / m:Nat):Int)=(c:Int)*q+((b / m:Nat):Int):=by push_cast
  rw [e4]
  exact ih
theorem sumN_ways (e:List Int)(g:List Int→Int):∀ (L w:List Int),(∀ x∈L,0≤x∧0≤gE e x)→L.Nodup→sumN (pr (L.map (gE e))).toNat (fun k=>g (wayK e L w k))=SS e L w g
 | [],w,_,_=>by simp [sumN,SS,wayK,wkS,show pr ([]:List Int)=1 from rfl]
 | x::L,w,hL,hn=>by
  rw [List.nodup_cons] at hn
  have hx:=hL x (by simp)
  have hp:0≤pr (L.map (gE e)):=Eez fun z hz=>by obtain ⟨y,hy,rfl⟩:=List.mem_map.1 hz;exact (hL y (by simp [hy])).2
  rw [List.map_cons,B5z,Int.toNat_mul hx.2 hp,sumN_prod]
  simp only [SS]
  refine E5z fun a ha=>?_
  rw [← sumN_ways e g L _ (fun y hy=>hL y (by simp [hy])) hn.2]
  refine E5z fun b hb=>?_
  congr 1
  have hpos:∀ y∈L,0<gE e y:=fun y hy=>by
   have:=Dnz (xs:=L.map (gE e)) (by omega) (fun z hz=>by obtain ⟨y,hy,rfl⟩:=List.mem_map.1 hz;exact (hL y (by simp [hy])).2)
   exact this _ (List.mem_map.2 ⟨y,hy,rfl⟩)
  have hb':(b:Int)<pr (L.reverse.map (gE e)):=by rw [List.map_reverse,Jsz];omega
  have hk:=wkS_rank e L.reverse w b a (fun y hy=>hpos y (by simpa using hy)) hb'
  rw [List.map_reverse,Jsz] at hk
  have e1:(((a*(pr (L.map (gE e))).toNat+b:Nat)):Int)=(a:Int)*pr (L.map (gE e))+b:=by push_cast;rw [Int.toNat_of_nonneg hp]
  unfold wayK
  rw [List.reverse_cons,Jez,e1,hk.1,Hgz e L.reverse w b x a hx.1 (fun y hy=>(hL y (by simp at hy;simp [hy])).1) (by simpa using hn.1)]
  show ((wkS e w b L.reverse).1.set x.toNat ((a:Int).tmod (gE e x)))=_
  have:(a:Int).tmod (gE e x)=a:=Int.tmod_eq_of_lt (by omega) (by omega)
  rw [this]
end VwM
namespace VwM
open Go Vw

theorem cells_clo (fn:Fn)(az cs:List AV):(AV.clo fn az cs).cells=some [.clo fn az cs]:=rfl
theorem isCell_clo (fn:Fn)(az cs:List AV):(AV.clo fn az cs).isCell=true:=rfl
attribute [push_cast] cells_clo isCell_clo

abbrev w64 (n:Int):Int:=IntKind.wrap .i64 n
theorem w64_eq (n:Int):w64 n=(n+9223372036854775808) % 18446744073709551616-9223372036854775808:=by show IntKind.wrap .i64 n=_;rw [IntKind.wrap_i64]
theorem Jhz (n q:Int):w64 (n+18446744073709551616*q)=w64 n:=by
 rw [w64_eq,w64_eq,show n+18446744073709551616*q+9223372036854775808=n+9223372036854775808+18446744073709551616*q by omega,Int.add_mul_emod_self_left]
theorem w64_form (n:Int):∃ q,w64 n=n+18446744073709551616*q:=⟨-((n+9223372036854775808) / 18446744073709551616),by rw [w64_eq];omega⟩
theorem w64_id {n:Int}(h:-9223372036854775808≤n∧n≤9223372036854775807):w64 n=n:=by rw [w64_eq];omega
theorem w64_addl (a b:Int):w64 (w64 a+b)=w64 (a+b):=by
 obtain ⟨q,hq⟩:=w64_form a
 rw [hq,show a+18446744073709551616*q+b=a+b+18446744073709551616*q by omega,Jhz]
theorem w64_addr (a b:Int):w64 (a+w64 b)=w64 (a+b):=by rw [Int.add_comm,w64_addl,Int.add_comm]
theorem w64_mull (a b:Int):w64 (w64 a*b)=w64 (a*b):=by
 obtain ⟨q,hq⟩:=w64_form a
 rw [hq,Int.add_mul,Int.mul_assoc,Jhz]
def prodL:List Int→Int
 | []=>1
 | x::r=>x*prodL r
theorem prodL_append (a b:List Int):prodL (a++b)=prodL a*prodL b:=by
 induction a with
 | nil=>simp [prodL]
 | cons x r ih=>simp only [List.cons_append,prodL,ih,Int.mul_assoc]
theorem Gdz {α:Type}(f:α→Int)(xs:List α){k:Nat}{x:α}(h:xs[k]?=some x):(xs.take (k+1)).map f=(xs.take k).map f++[f x]:=by
 have hk:=(List.getElem?_eq_some_iff.1 h).1
 rw [List.take_add_one,h];simp
theorem sum_step {α:Type}(f:α→Int)(xs:List α){k:Nat}{x:α}(h:xs[k]?=some x):w64 (w64 (sumL ((xs.take k).map f))+w64 (f x))=w64 (sumL ((xs.take (k+1)).map f)):=by
 rw [w64_addl,w64_addr,Gdz f xs h,Fqz];simp [sumL]
theorem prod_step {α:Type}(f:α→Int)(xs:List α){k:Nat}{x:α}(h:xs[k]?=some x):w64 (w64 (prodL ((xs.take k).map f))*f x)=w64 (prodL ((xs.take (k+1)).map f)):=by
 rw [w64_mull,Gdz f xs h,prodL_append];simp [prodL]
theorem sumN_list (f:Nat→Int):∀ n,sumN n f=sumL ((List.range n).map f)
 | 0=>rfl
 | n+1=>by simp only [sumN];rw [sumN_list f n,List.range_succ,List.map_append,Fqz];simp [sumL]

def fsT (l rs:List Int):Nat→List Int
 | 0=>[0,0,0,0,0]
 | k+1=>(fsT l rs k).set (l.getD k 0).toNat (gE (fsT l rs k) (l.getD k 0)+rs.getD k 0)
theorem Ipz (l rs:List Int):∀ k,(fsT l rs k).length=5
 | 0=>rfl
 | k+1=>by rw [fsT,List.length_set,Ipz l rs k]
theorem sumL_one {U:List Int}{f:Int→Int}{x c:Int}(hn:U.Nodup)(hx:x∈U):sumL (U.map fun y=>if y=x then f y+c else f y)=sumL (U.map f)+c:=by
 induction U with
 | nil=>simp at hx
 | cons y U ih =>
  rw [List.nodup_cons] at hn
  simp only [List.map_cons,sumL]
  rcases List.mem_cons.1 hx with rfl|hx
  ·rw [if_pos rfl]
   have:U.map (fun y=>if y=x then f y+c else f y)=U.map f:=List.map_congr_left fun z hz=>if_neg (fun e:z=x=>hn.1 (by rw [← e];exact hz))
   rw [this];omega
  ·have hyx:y≠x:=fun e=>hn.1 (by rw [e];exact hx)
   rw [if_neg hyx,ih hn.2 hx];omega
theorem gE_nil5 (x:Int):gE [0,0,0,0,0] x=0:=by
 unfold gE
 by_cases h5:5≤x.toNat
 ·have e:([0,0,0,0,0]:List Int)[x.toNat]?=none:=List.getElem?_eq_none h5
  simp only [List.getD,e,Option.getD_none]
 ·have:x.toNat=0∨x.toNat=1∨x.toNat=2∨x.toNat=3∨x.toNat=4:=by omega
  rcases this with h|h|h|h|h<;>(rw [h];rfl)
theorem zero_sum (U:List Int):sumL (U.map fun _=>(0:Int))=0:=by
 induction U with
 | nil=>rfl
 | cons x U ih=>simp only [List.map_cons,sumL];rw [ih];rfl
theorem fsT_sum (w l rs U:List Int)(hU:U.Nodup)(hU0:∀ x∈U,0≤x∧x≤4):∀ k,k≤l.length→(∀ d,d<k→l.getD d 0∈U)→sumL (U.map fun x=>gE w x*gE (fsT l rs k) x)=dot (fun d=>gE w (l.getD d 0)) rs k
 | 0,_,_=>by
  simp only [dot,fsT]
  have:U.map (fun x=>gE w x*gE [0,0,0,0,0] x)=U.map fun _=>0:=List.map_congr_left fun x _=>by rw [gE_nil5];simp
  rw [this]
  exact zero_sum U
 | k+1,hk,hl=>by
  have ih:=fsT_sum w l rs U hU hU0 k (by omega) (fun d hd=>hl d (by omega))
  simp only [dot]
  rw [← ih]
  have hx:=hl k (by omega)
  have hx0:=hU0 _ hx
  have h5:=Ipz l rs k
  rw [← sumL_one (f:=fun x=>gE w x*gE (fsT l rs k) x) (c:=gE w (l.getD k 0)*rs.getD k 0) hU hx]
  congr 1
  refine List.map_congr_left fun y hy=>?_
  rw [fsT,Ioz ⟨hx0.1,by omega⟩ (hU0 y hy).1]
  by_cases h:y=l.getD k 0
  ·rw [if_pos h,if_pos h,Int.mul_add,h]
  ·rw [if_neg h,if_neg h]
def tv (t:Tn)(l w:List Int):Int:=t.2.getD (dot (fun d=>gE w (l.getD d 0)) (rowS t.1) t.1.length).toNat 0

abbrev Fc:=List Int×List Int×List Int
def fcV (f:Fc)(w:List Int):Int:=f.1.getD (sumL (f.2.1.map fun x=>gE w x*gE f.2.2 x)).toNat 0
def fcOk (f:Fc)(w:List Int):Prop:=(f.1.length≤1099511627776∧f.2.1.length≤1099511627776)∧f.2.2.length=5∧(∀ x∈f.2.1,0≤x∧x≤4)∧0≤sumL (f.2.1.map fun x=>gE w x*gE f.2.2 x)∧sumL (f.2.1.map fun x=>gE w x*gE f.2.2 x)<f.1.length
def FC (g:Nat)(b1 b2:Bool):List Fc→List AV
 | []=>[]
 | f::r=>.clo (.func g) [.agg (.rows b1 (IL f.1) f.1.length::.rows b2 (IL f.2.1) f.2.1.length::IL f.2.2)] []::FC g b1 b2 r
theorem I4z (g:Nat)(b1 b2:Bool):∀ fs:List Fc,(FC g b1 b2 fs).length=fs.length
 | []=>rfl
 | f::r=>by simp [FC,I4z g b1 b2 r]
theorem FC_append (g:Nat)(b1 b2:Bool):∀ fs gs:List Fc,FC g b1 b2 (fs++gs)=FC g b1 b2 fs++FC g b1 b2 gs
 | [],gs=>rfl
 | f::r,gs=>by simp [FC,FC_append g b1 b2 r gs]
theorem FC_drop (g:Nat)(b1 b2:Bool):∀ (fs:List Fc) (i:Nat) {f:Fc},fs[i]?=some f→((FC g b1 b2 fs).drop i).take 1=[.clo (.func g) [.agg (.rows b1 (IL f.1) f.1.length::.rows b2 (IL f.2.1) f.2.1.length::IL f.2.2)] []]
 | [],i,f,h=>by simp at h
 | f'::r,0,f,h=>by simp at h;subst h;rfl
 | f'::r,i+1,f,h=>by simp only [FC,List.drop_succ_cons];exact FC_drop g b1 b2 r i (by simpa using h)
theorem Fzz (g:Nat)(b1 b2:Bool)(p:Nat→Bool):∀ fs:List Fc,innL p (FC g b1 b2 fs)=true
 | []=>rfl
 | f::r=>by
  have hi:∀ xs:List Int,innL p (IL xs)=true:=fun xs=>by
   induction xs with
   | nil=>rfl
   | cons x xs ih=>simpa [IL,innL,AV.inn] using ih
  simp [FC,innL,AV.inn,hi,Fzz g b1 b2 p r]
section
variable {ρ:Nat→Option Nat} {Zh:Nat→Option (List AV)} {b0:Bool} {φ:Bool→Option Bool} {n:Nat}
theorem ren_FC {g:Nat}{b1 b2 c1 c2:Bool}(h1:φ b1=some c1)(h2:φ b2=some c2):∀ fs:List Fc,(FC g b1 b2 fs).map (AV.ren ρ Zh b0 φ (n+4))=FC g c1 c2 fs
 | []=>rfl
 | f::r=>by simp only [FC,List.map_cons,List.map_nil,AV.ren,h1,h2,B3z,ren_FC h1 h2 r]
theorem ren_FCD (g:Nat)(b1 b2:Bool)(fs:List Fc):(FC g b1 b2 fs).map (AV.ren ρ Zh b0 phiD (n+4))=FC g false false fs:=ren_FC (by cases b1<;>rfl) (by cases b2<;>rfl) fs
theorem ren_FCs (g:Nat)(b1 b2:Bool)(fs:List Fc):(FC g b1 b2 fs).map (AV.ren ρ Zh b0 some (n+4))=FC g b1 b2 fs:=ren_FC rfl rfl fs
end
attribute [push_cast] ren_FCD ren_FCs I4z
theorem set5I {e:List Int}(he:e.length=5)(a b c d f:AV):setRange [a,b,c,d,f] 0 (IL e)=IL e:=set5 he a b c d f
theorem Hdz:∀ {ws:List (List Int)} {i:Nat} {w:List Int},(∀ v∈ws,v.length=5)→ws[i]?=some w→((IL ws.flatten).drop (i*5)).take 5=IL w
 | [],i,w,_,h=>by simp at h
 | v::r,0,w,hl,h=>by
  simp at h;subst h
  have:=hl v (by simp)
  simp only [List.flatten_cons,J7z,Nat.zero_mul,List.drop_zero]
  rw [List.take_append_of_le_length (by rw [Aqz];omega),A2z this]
 | v::r,i+1,w,hl,h=>by
  have hv:=hl v (by simp)
  simp only [List.flatten_cons,J7z]
  rw [show (i+1)*5=(IL v).length+i*5 by rw [Aqz,hv];omega,List.drop_append,List.drop_of_length_le (by omega),List.nil_append,Nat.add_sub_cancel_left]
  exact Hdz (ws:=r) (fun u hu=>hl u (List.mem_cons_of_mem _ hu)) (by simpa using h)
theorem flat5_len:∀ {ws:List (List Int)},(∀ v∈ws,v.length=5)→ws.flatten.length=ws.length*5
 | [],_=>rfl
 | v::r,h=>by rw [List.flatten_cons,List.length_append,h v (by simp),flat5_len (fun u hu=>h u (by simp [hu])),List.length_cons];omega
theorem drop2 (x y:AV)(L:List AV)(c:Nat):List.drop (2+c) (x::y::L)=List.drop c L:=by rw [Nat.add_comm];rfl
theorem set2 (x y v:AV)(L:List AV)(c:Nat):(x::y::L).set (2+c) v=x::y::L.set c v:=by rw [Nat.add_comm];rfl
theorem take7 {L:List Int}(h:L.length=5)(x y:AV):List.take 7 (x::y::IL L)=x::y::IL L:=List.take_of_length_le (by simp only [List.length_cons,Aqz,h];omega)
theorem fsT_bound {l rs:List Int}(hl:∀ x∈l,0≤x∧x≤4)(hr:∀ x∈rs,0≤x∧x≤12960000)(hlen:rs.length=l.length):∀ k,k≤l.length→∀ x,0≤x→0≤gE (fsT l rs k) x∧gE (fsT l rs k) x≤k*12960000
 | 0,_,x,_=>by rw [fsT,gE_nil5];omega
 | k+1,hk,x,hx=>by
  have ih:=fsT_bound hl hr hlen k (by omega)
  have h5:=Ipz l rs k
  have hlk:=hl _ (Bcz (xs:=l) (j:=k) (by omega))
  have hrk:=hr _ (Bcz (xs:=rs) (j:=k) (by omega))
  rw [fsT,Ioz ⟨hlk.1,by omega⟩ hx]
  split
  ·have:=ih _ hlk.1;push_cast;omega
  ·have:=ih x hx;push_cast;omega
theorem set72 {L:List Int}(h:L.length=5)(x y a b c d e:AV):setRange [x,y,a,b,c,d,e] 2 (IL L)=x::y::IL L:=by
 match L,h with
 | [p,q,r,s,t],_=>rfl
section
variable [Inhabited GlobT]
theorem aresL_c7 {s:S}{t id:Nat}{x y:AV}{e:List Int}{r:List ARes}{l:List AV}(h1:s.σ t=.ref id 7 0)(h2:s.H id=some (x::y::IL e))(he:e.length=5)(hr:aresL s r=some l):aresL s (.cell t true 7::r)=some (.agg (x::y::IL e)::l):=by
 have h3:ares s (.cell t true 7)=some (.agg (x::y::IL e)):=by
  simp only [ares,h1,loadAV,h2]
  rw [if_pos (by simp [Aqz,he]),List.drop_zero,take7 he]
  rfl
 simp only [aresL,h3,hr]
end
end VwM
namespace VwM
open Go Vw

theorem Elz (L:List Int):(lbS L).Nodup:=(lbT_sorted L 5).imp fun h=>by omega
theorem lbS_range (L:List Int):∀ x∈lbS L,0≤x∧x≤4:=fun x hx=>(Ehz.1 hx).1
theorem wiL_nodup {xs ys:List Int}(h:xs.Nodup):(wiL xs ys).Nodup:=List.Pairwise.filter _ h
theorem mem_wiL {xs ys:List Int}{x:Int}:x∈wiL xs ys↔x∈xs∧x ∉ ys:=by unfold wiL;simp

theorem Kcz (e:List Int):∀ (L w:List Int) (k x:Int),0≤x→(∀ y∈L,0≤y∧y.toNat<w.length)→x ∉ L→gE (wkS e w k L).1 x=gE w x
 | [],w,k,x,_,_,_=>rfl
 | y::L,w,k,x,hx,hL,hn=>by
  simp only [List.mem_cons,not_or] at hn
  show gE (wkS e (w.set y.toNat (k.tmod (gE e y))) (k.tdiv (gE e y)) L).1 x=_
  rw [Kcz e L _ _ x hx (fun z hz=>by simpa using hL z (by simp [hz])) hn.2,Ioz (hL y (by simp)) hx,if_neg hn.1]
theorem wkS_in (e:List Int):∀ (L w:List Int) (k x:Int),0≤k→(∀ y∈L,0≤y∧y.toNat<w.length)→(∀ y∈L,0<gE e y)→x∈L→fitW e (wkS e w k L).1 x
 | [],w,k,x,_,_,_,h=>by simp at h
 | y::L,w,k,x,hk,hL,hp,hx=>by
  have hy:=hL y (by simp)
  have hpy:=hp y (by simp)
  show fitW e (wkS e (w.set y.toNat (k.tmod (gE e y))) (k.tdiv (gE e y)) L).1 x
  by_cases hxl:x∈L
  ·exact wkS_in e L _ _ x (Int.tdiv_nonneg hk (by omega)) (fun z hz=>by simpa using hL z (by simp [hz])) (fun z hz=>hp z (by simp [hz])) hxl
  ·have hxy:x=y:=by
    rcases List.mem_cons.1 hx with h|h
    ·exact h
    ·exact absurd h hxl
   subst hxy
   unfold fitW
   rw [Kcz e L _ _ x hy.1 (fun z hz=>by simpa using hL z (by simp [hz])) hxl,Ioz hy hy.1,if_pos rfl]
   exact ⟨Int.tmod_nonneg _ hk,Int.tmod_lt_of_pos _ hpy⟩
theorem wayK_out {e L w:List Int}{k x:Int}(hx:0≤x)(hL:∀ y∈L,0≤y∧y.toNat<w.length)(hn:x ∉ L):gE (wayK e L w k) x=gE w x :=
 Kcz e L.reverse w k x hx (fun y hy=>hL y (by simpa using hy)) (by simpa using hn)
theorem wayK_in {e L w:List Int}{k x:Int}(hk:0≤k)(hL:∀ y∈L,0≤y∧y.toNat<w.length)(hp:∀ y∈L,0<gE e y)(hx:x∈L):fitW e (wayK e L w k) x :=
 wkS_in e L.reverse w k x hk (fun y hy=>hL y (by simpa using hy)) (fun y hy=>hp y (by simpa using hy)) (by simpa using hx)
theorem wkS_rem (e w L:List Int)(k:Int):∀ j,j≤L.length→(wkS e w k (L.reverse.take j)).2=kS (L.map (gE e)) k j
 | 0,_=>rfl
 | j+1,hj=>by
  have hjl:j<L.reverse.length:=by rw [List.length_reverse];omega
  rw [List.take_succ_eq_append_getElem hjl,wkS_snoc]
  show (wkS e w k (L.reverse.take j)).2.tdiv _=(kS (L.map (gE e)) k j).tdiv _
  rw [wkS_rem e w L k j (by omega)]
  congr 1
  have h2:L.length-1-j<L.length:=by omega
  rw [List.getElem_reverse,List.length_map]
  simp [List.getD,h2]
theorem wayK_at {e L w:List Int}{k x:Int}{i:Nat}(hn:L.Nodup)(hL:∀ y∈L,0≤y∧y.toNat<w.length)(hi:L[i]?=some x):gE (wayK e L w k) x=dig (L.map (gE e)) k i:=by
 have h1:i<L.length:=(List.getElem?_eq_some_iff.1 hi).1
 have hix:L[i]=x:=(List.getElem?_eq_some_iff.1 hi).2
 have hj:L.length-1-i<L.reverse.length:=by rw [List.length_reverse];omega
 have hsplit:L.reverse=L.reverse.take (L.length-1-i)++(L.reverse[L.length-1-i]::L.reverse.drop (L.length-1-i+1)):=by
  rw [← List.drop_eq_getElem_cons hj,List.take_append_drop]
 have hx:L.reverse[L.length-1-i]=x:=by
  rw [List.getElem_reverse,← hix]
  congr 1;omega
 rw [hx] at hsplit
 have hnr:L.reverse.Nodup:=by unfold List.Nodup at hn ⊢;rw [List.pairwise_reverse];exact hn.imp fun h=>Ne.symm h
 have hni:x ∉ L.reverse.drop (L.length-1-i+1):=by
  rw [hsplit] at hnr
  have:=(List.nodup_append.1 hnr).2.1
  exact (List.nodup_cons.1 this).1
 have hLi:=hL x (List.mem_of_getElem? hi)
 have hmem:∀ y,y∈L.reverse.drop (L.length-1-i+1)→0≤y∧y.toNat<w.length:=fun y hy=>hL y (by have:=List.mem_of_mem_drop hy;simpa using this)
 have hrem:=wkS_rem e w L k (L.length-1-i) (by omega)
 have hw1:wayK e L w k=(wkS e w k (L.reverse.take (L.length-1-i)++(x::L.reverse.drop (L.length-1-i+1)))).1:=by unfold wayK;rw [← hsplit]
 rw [hw1,Jez]
 show gE (wkS e ((wkS e w k (L.reverse.take (L.length-1-i))).1.set x.toNat ((wkS e w k (L.reverse.take (L.length-1-i))).2.tmod (gE e x))) _ _).1 x=_
 rw [Kcz _ _ _ _ _ hLi.1 (fun y hy=>by rw [List.length_set,Kdz];exact hmem y hy) hni,Ioz ⟨hLi.1,by rw [Kdz];exact hLi.2⟩ hLi.1,if_pos rfl,hrem]
 unfold dig
 rw [List.length_map]
 congr 1
 simp [List.getD,hi]
structure CtOk (ts:List Tn) (ls:List (List Int)) (e:List Int):Prop where
 len:e.length=5
 num:ls.length=ts.length
 lab:∀ (i:Nat) (t:Tn) (l:List Int),ts[i]?=some t→ls[i]?=some l→(vSh t.1=true∧(t.2.length:Int)=pr t.1)∧l.length=t.1.length∧(∀ x∈l,0≤x∧x≤4)∧∀ j,j<l.length→gE e (l.getD j 0)=t.1.getD j 0
 used:∀ x∈ls.flatten,(0≤x∧x≤4)∧0≤gE e x∧gE e x≤60
 un:∀ k:Nat,k<5→(k:Int) ∉ ls.flatten→e.getD k 0<0

def facs (ts:List Tn)(ls:List (List Int)):List Fc:=(ts.zip ls).map fun q=>(q.1.2,lbS q.2,fsT q.2 (rowS q.1.1) q.1.1.length)
theorem facs_get {ts:List Tn}{ls:List (List Int)}{i:Nat}{t:Tn}{l:List Int}(ht:ts[i]?=some t)(hl:ls[i]?=some l):(facs ts ls)[i]?=some (t.2,lbS l,fsT l (rowS t.1) t.1.length):=by
 unfold facs
 rw [List.getElem?_map,(List.getElem?_zip_eq_some (z:=(t,l))).2 ⟨ht,hl⟩];rfl
theorem facs_len {ts:List Tn}{ls:List (List Int)}(h:ls.length=ts.length):(facs ts ls).length=ts.length:=by simp [facs,h]
def gP (ts:List Tn)(ls:List (List Int))(w:List Int):Int:=prodL ((ts.zip ls).map fun q=>tv q.1 q.2 w)

theorem dot_ix {sh idx:List Int}(hs:vSh sh=true)(hi:vIx sh idx=true):0≤dot (fun i=>idx.getD i 0) (rowS sh) sh.length∧dot (fun i=>idx.getD i 0) (rowS sh) sh.length<pr sh:=by
 have h:=unr_rank hs hi
 unfold rankD at h
 rw [if_pos ⟨hs,hi⟩] at h
 exact h.2
theorem map_ix {sh l w:List Int}(hl:l.length=sh.length)(h:∀ j,j<l.length→0≤gE w (l.getD j 0)∧gE w (l.getD j 0)<sh.getD j 0):vIx sh (l.map (gE w))=true∧dot (fun i=>(l.map (gE w)).getD i 0) (rowS sh) sh.length=dot (fun i=>gE w (l.getD i 0)) (rowS sh) sh.length:=by
 have hg:∀ j,j<l.length→(l.map (gE w)).getD j 0=gE w (l.getD j 0):=fun j hj=>by simp [List.getD,hj]
 refine ⟨Hrz.2 ⟨by simpa using hl,fun i hi=>?_⟩,Cfz fun i hi=>hg i (by omega)⟩
 rw [List.length_map] at hi
 rw [hg i hi]
 have:=h i hi
 omega
def fitL (e:List Int)(ls:List (List Int))(w:List Int):Prop:=w.length=5∧∀ x∈ls.flatten,fitW e w x
theorem fit_lab {ts:List Tn}{ls:List (List Int)}{e w:List Int}(h:CtOk ts ls e)(hw:fitL e ls w){i:Nat}{t:Tn}{l:List Int}(ht:ts[i]?=some t)(hl:ls[i]?=some l) :
  ∀ j,j<l.length→0≤gE w (l.getD j 0)∧gE w (l.getD j 0)<t.1.getD j 0:=fun j hj=>by
 have hx:l.getD j 0∈ls.flatten:=List.mem_flatten.2 ⟨l,List.mem_of_getElem? hl,Bcz hj⟩
 have:=hw.2 _ hx
 unfold fitW at this
 rw [(h.lab i t l ht hl).2.2.2 j hj] at this
 exact this
theorem tv_ok {ts:List Tn}{ls:List (List Int)}{e w:List Int}(h:CtOk ts ls e)(hw:fitL e ls w){i:Nat}{t:Tn}{l:List Int}(ht:ts[i]?=some t)(hl:ls[i]?=some l) :
  fcV (t.2,lbS l,fsT l (rowS t.1) t.1.length) w=tv t l w∧sumL ((lbS l).map fun x=>gE w x*gE (fsT l (rowS t.1) t.1.length) x)=dot (fun i=>gE w (l.getD i 0)) (rowS t.1) t.1.length∧0≤dot (fun i=>gE w (l.getD i 0)) (rowS t.1) t.1.length∧dot (fun i=>gE w (l.getD i 0)) (rowS t.1) t.1.length<t.2.length∧vIx t.1 (l.map (gE w))=true:=by
 obtain ⟨⟨h1,h2⟩,h3,h4,h5⟩:=h.lab i t l ht hl
 have hfs:=fsT_sum w l (rowS t.1) (lbS l) (Elz l) (lbS_range l) t.1.length (by omega) (fun d hd=>Ehz.2 ⟨h4 _ (Bcz (by omega)),Bcz (by omega)⟩)
 obtain ⟨m1,m2⟩:=map_ix h3 (fit_lab h hw ht hl)
 have hd:=dot_ix h1 m1
 rw [m2] at hd
 refine ⟨?_,hfs,hd.1,by omega,m1⟩
 unfold fcV tv
 rw [hfs]
theorem gP_facs {ts:List Tn}{ls:List (List Int)}{e w:List Int}(h:CtOk ts ls e)(hw:fitL e ls w):prodL ((facs ts ls).map fun f=>fcV f w)=gP ts ls w:=by
 unfold facs gP
 rw [List.map_map]
 congr 1
 refine List.map_congr_left fun q hq=>?_
 obtain ⟨i,hi⟩:=List.mem_iff_getElem?.1 hq
 obtain ⟨a,b⟩:=List.getElem?_zip_eq_some.1 hi
 exact (tv_ok h hw a b).1
theorem facs_ok {ts:List Tn}{ls:List (List Int)}{e w:List Int}(h:CtOk ts ls e)(hw:fitL e ls w)(hb:∀ t∈ts,t.2.length≤1099511627776):∀ f∈facs ts ls,fcOk f w:=by
 intro f hf
 unfold facs at hf
 obtain ⟨q,hq,rfl⟩:=List.mem_map.1 hf
 obtain ⟨i,hi⟩:=List.mem_iff_getElem?.1 hq
 obtain ⟨a,b⟩:=List.getElem?_zip_eq_some.1 hi
 obtain ⟨_,t1,t2,t3,_⟩:=tv_ok h hw a b
 have hl5:=Ekz q.2 5
 refine ⟨⟨hb _ (List.mem_of_getElem? a),by show (lbT q.2 5).length≤_;omega⟩,Ipz _ _ _,lbS_range _,?_,?_⟩
 ·show 0≤sumL ((lbS q.2).map _);rw [t1];exact t2
 ·show sumL ((lbS q.2).map _)<_;rw [t1];exact t3

def sumd (ls:List (List Int))(out:List Int):List Int:=wiL (lbS ls.flatten) out
theorem Jiz (ls:List (List Int))(out:List Int):(sumd ls out).Nodup:=wiL_nodup (Elz _)
theorem Fbz {ls:List (List Int)}{out:List Int}{x:Int}:x∈sumd ls out↔((0≤x∧x≤4)∧x∈ls.flatten)∧x ∉ out:=by unfold sumd;rw [mem_wiL,Ehz]
abbrev Zv5:List Int:=[0,0,0,0,0]
theorem nums5 {w:List Int}(hw:w.length=5){L:List Int}(h:∀ x∈L,0≤x∧x≤4):∀ y∈L,0≤y∧y.toNat<w.length:=fun y hy=>by have:=h y hy;omega
theorem fit_two {ts:List Tn}{ls:List (List Int)}{e out w v:List Int}(h:CtOk ts ls e)(ho:∀ x∈out,x∈ls.flatten)(hw:w.length=5)(hwo:∀ x∈out,fitW e w x)(hv:v.length=5)
  (hvo:∀ y,0≤y→y ∉ sumd ls out→gE v y=gE w y) (hvi:∀ x∈sumd ls out,fitW e v x):fitL e ls v:=by
 refine ⟨hv,fun x hx=>?_⟩
 have hr:=(h.used x hx).1
 by_cases hxo:x∈out
 ·have:=hwo x hxo
  unfold fitW at this ⊢
  rw [hvo x hr.1 (fun hm=>(Fbz.1 hm).2 hxo)]
  exact this
 ·exact hvi x (Fbz.2 ⟨⟨hr,hx⟩,hxo⟩)
def ctE (ts:List Tn)(ls:List (List Int))(out e:List Int)(p:Nat):Int:=SS e (sumd ls out) (wayK e out Zv5 p) (gP ts ls)

theorem used_pos {ts:List Tn}{ls:List (List Int)}{e L:List Int}(h:CtOk ts ls e)(hL:∀ x∈L,x∈ls.flatten){k n:Nat}(hn:pr (L.map (gE e))=n)(hk:k<n):∀ x∈L,0<gE e x:=fun x hx=>by
 have:=Dnz (xs:=L.map (gE e)) (by omega) (fun z hz=>by obtain ⟨y,hy,rfl⟩:=List.mem_map.1 hz;exact (h.used y (hL y hy)).2.1)
 exact this _ (List.mem_map.2 ⟨x,hx,rfl⟩)
theorem prog_sum {ts:List Tn}{ls:List (List Int)}{e out:List Int}(h:CtOk ts ls e)(ho:∀ x∈out,x∈ls.flatten){p n:Nat}(hn:pr (out.map (gE e))=n)(hp:p<n) :
  sumL ((waysT e (sumd ls out) (wayK e out Zv5 p) (pr ((sumd ls out).map (gE e))).toNat).map fun v=>prodL ((facs ts ls).map fun f=>fcV f v))=ctE ts ls out e p:=by
 unfold ctE
 have hO:∀ x∈out,(0≤x∧x≤4):=fun x hx=>(h.used x (ho x hx)).1
 have hS:∀ x∈sumd ls out,(0≤x∧x≤4)∧0≤gE e x:=fun x hx=>by have:=(Fbz.1 hx).1;exact ⟨this.1,(h.used x this.2).2.1⟩
 have hwl:(wayK e out Zv5 p).length=5:=by rw [Ezz];rfl
 have hpo:=used_pos h ho hn hp
 have hwo:∀ x∈out,fitW e (wayK e out Zv5 p) x:=fun x hx=>wayK_in (Int.natCast_nonneg _) (nums5 rfl hO) hpo hx
 have hg:SS e (sumd ls out) (wayK e out Zv5 p) (gP ts ls)=SS e (sumd ls out) (wayK e out Zv5 p) (fun v=>prodL ((facs ts ls).map fun f=>fcV f v)) :=
  SS_congr (nums5 hwl fun x hx=>(hS x hx).1) (Jiz ls out) fun v hv h1 h2=>(gP_facs h (fit_two h ho hwl hwo (by rw [hv,hwl]) h1 h2)).symm
 rw [hg,← sumN_ways e _ _ _ (fun x hx=>⟨(hS x hx).1.1,(hS x hx).2⟩) (Jiz ls out),sumN_list]
 unfold waysT
 rw [List.map_map];rfl
end VwM
namespace VwM
open Go Vw

theorem filter_perm {U out:List Int}(hU:U.Nodup)(hout:out.Nodup)(h:∀ x∈out,x∈U):U.Perm (out++U.filter fun x=>!decide (x∈out)):=by
 refine (List.filter_append_perm (fun x=>decide (x∈out)) U).symm.trans ?_
 refine List.Perm.append_right _ ?_
 rw [List.perm_ext_iff_of_nodup (List.Pairwise.filter _ hU) hout]
 intro a
 rw [List.mem_filter,decide_eq_true_eq]
 exact ⟨fun h=>h.2,fun ha=>⟨h a ha,ha⟩⟩
theorem outk {ts:List Tn}{ls:List (List Int)}{e out:List Int}(h:CtOk ts ls e)(ho:∀ x∈out,x∈ls.flatten)(hon:out.Nodup):(lbS ls.flatten).Perm (out++sumd ls out) :=
 filter_perm (Elz _) hon fun x hx=>Ehz.2 ⟨(h.used x (ho x hx)).1,ho x hx⟩
end VwM
namespace VwM
open Go Vw

theorem zcells_pair2 (a b:AV):zcells [a,b] 2=[a,b,a,b]:=by simp [zcells,List.range_succ,List.getD]
theorem zcells_pair3 (a b:AV):zcells [a,b] 3=[a,b,a,b,a,b]:=by simp [zcells,List.range_succ,List.getD]
attribute [push_cast] zcells_pair2 zcells_pair3
theorem extG_ok {f:Nat→Int}:∀ (a:List (Int×Int)) {e:List Int},(∀ p∈a,p.1.toNat<e.length∧f p.1.toNat=p.2)→(∀ k:Nat,k<e.length→0≤e.getD k 0→e.getD k 0=f k)→∃ e',extG e a=some e'
 | [],e,_,_=>⟨e,rfl⟩
 | p::r,e,hp,he=>by
  have h1:=hp p (by simp)
  simp only [extG]
  rw [if_neg (fun hc=>hc.2 ((he _ h1.1 hc.1).trans h1.2))]
  refine extG_ok r (fun q hq=>by rw [List.length_set];exact hp q (by simp [hq])) fun k hk h0=>?_
  rw [List.length_set] at hk
  have hg:(e.set p.1.toNat p.2).getD k 0=if p.1.toNat=k then p.2 else e.getD k 0:=by
   simp only [List.getD_eq_getElem?_getD,List.getElem?_set]
   by_cases hpk:p.1.toNat=k
   ·subst hpk;rw [if_pos rfl,if_pos rfl,if_pos h1.1];rfl
   ·rw [if_neg hpk,if_neg hpk]
  rw [hg] at h0 ⊢
  by_cases hpk:p.1.toNat=k
  ·rw [if_pos hpk];subst hpk;exact h1.2.symm
  ·rw [if_neg hpk] at h0 ⊢;exact he k hk h0
theorem mem_prs {ts:List Tn}{ls:List (List Int)}{p:Int×Int}(h:p∈prsOf ts ls):∃ (i:Nat) (t:Tn) (l:List Int) (j:Nat),ts[i]?=some t∧ls[i]?=some l∧j<l.length∧j<t.1.length∧p=(l.getD j 0,t.1.getD j 0):=by
 unfold prsOf at h
 rw [List.mem_flatMap] at h
 obtain ⟨⟨l,t⟩,hm,hp⟩:=h
 obtain ⟨i,hi⟩:=List.mem_iff_getElem?.1 hm
 obtain ⟨a,b⟩:=List.getElem?_zip_eq_some.1 hi
 obtain ⟨j,hj⟩:=List.mem_iff_getElem?.1 hp
 obtain ⟨c,d⟩:=List.getElem?_zip_eq_some.1 hj
 refine ⟨i,t,l,j,b,a,(List.getElem?_eq_some_iff.1 c).1,(List.getElem?_eq_some_iff.1 d).1,?_⟩
 have c':l[j]?=some p.1:=c
 have d':t.1[j]?=some p.2:=d
 simp [List.getD_eq_getElem?_getD,c',d']
end VwM
namespace VwM
open Vw
open Go

end VwM
namespace VwM
open Vw
open Go

end VwM
namespace VwM
open Vw
open Go

end VwM
namespace VwM
open Vw
open Go

end VwM
namespace VwM
open Vw
open Go

end VwM
namespace VwM
open Vw
open Go

def turnK (sh order:List Int)(k:Nat):Int:=horF (permL sh order) (fun i=>dig sh (k:Int) (order.getD i 0).toNat) sh.length
theorem Kfz {sh order:List Int}(h:isOrd order sh.length){f:Nat→Int}(hf:isIx sh f):isIx (permL sh order) fun i=>f (order.getD i 0).toNat:=fun i hi=>by
 rw [A3z] at hi
 have hx:=h.2.1 _ (Bcz hi)
 rw [E8z _ _ hi]
 exact hf _ (by omega)
theorem turnK_lt {sh order:List Int}(hg:good4 sh)(h:isOrd order sh.length){k:Nat}(hk:(k:Int)<pr sh):0≤turnK sh order k∧turnK sh order k<pr sh:=by
 have hf:=Kfz h (D4z hg (Int.natCast_nonneg k) hk)
 have hl:(permL sh order).length=sh.length:=by rw [A3z,h.1]
 have:=C3z hf (permL sh order).length (Nat.le_refl _)
 rw [List.take_length,Fvz (Caz h),hl] at this
 unfold turnK
 omega
theorem G1z {b:Int}{sh st order:List Int}(hg:good4 sh)(h:isOrd order sh.length){k:Nat}(hk:(k:Int)<pr sh):cellK b (permL sh order) (permL st order) (turnK sh order k)=cellK b sh st k:=by
 have hf:=Kfz h (D4z hg (Int.natCast_nonneg k) hk)
 have hl:(permL sh order).length=sh.length:=by rw [A3z,h.1]
 unfold cellK turnK
 rw [hl,Cfz (g:=fun i=>dig sh (k:Int) (order.getD i 0).toNat) fun i hi=>by
  have:=Gxz hf (i:=i) (by rw [hl];exact hi)
  rw [hl] at this
  exact this,Iwz h]
 congr 1
 refine Cfz fun d hd=>?_
 rw [(Kxz h hd).2]
 rfl
theorem turnK_inj {sh order:List Int}(hg:good4 sh)(h:isOrd order sh.length){j k:Nat}(hj:(j:Int)<pr sh)(hk:(k:Int)<pr sh)(e:turnK sh order j=turnK sh order k):j=k:=by
 have hf:=Kfz h (D4z hg (Int.natCast_nonneg j) hj)
 have hf2:=Kfz h (D4z hg (Int.natCast_nonneg k) hk)
 have hl:(permL sh order).length=sh.length:=by rw [A3z,h.1]
 have hp:=Cwz hg (by omega)
 have key:∀ d,d<sh.length→dig sh (j:Int) d=dig sh (k:Int) d:=fun d hd=>by
  obtain ⟨a,c⟩:=Kxz h hd
  have e1:=Gxz hf (i:=invO order d) (by rw [hl];exact a)
  have e2:=Gxz hf2 (i:=invO order d) (by rw [hl];exact a)
  rw [hl] at e1 e2
  unfold turnK at e
  rw [e] at e1
  rw [e1] at e2
  simp only [c,Int.toNat_natCast] at e2
  exact e2
 have a1:=Eoz (Int.natCast_nonneg j) hp hj
 have a2:=Eoz (Int.natCast_nonneg k) hp hk
 rw [Haz key] at a1
 omega
theorem offs_perm {b:Int}{sh st order:List Int}(hg:good4 sh)(h:isOrd order sh.length):(offs b (permL sh order) (permL st order)).Perm (offs b sh st):=by
 have hb:=(Cmz hg).1
 obtain ⟨N,hN⟩:∃ N:Nat,pr sh=N:=⟨(pr sh).toNat,by omega⟩
 have hlt:∀ k,k<N→0≤turnK sh order k∧turnK sh order k<N:=fun k hk=>by
  have:=turnK_lt hg h (k:=k) (by omega)
  omega
 have hnd:((List.range N).map (turnK sh order)).Nodup:=by
  rw [List.nodup_iff_pairwise_ne,List.pairwise_map]
  refine (List.nodup_range (n:=N)).imp_of_mem fun {a c} ha hc hne e=>hne ?_
  exact turnK_inj hg h (by have:=List.mem_range.1 ha;omega) (by have:=List.mem_range.1 hc;omega) e
 have hm:∀ y∈(List.range N).map (turnK sh order),y∈nums 0 1 N:=fun y hy=>by
  obtain ⟨k,hk,rfl⟩:=List.mem_map.1 hy
  have:=hlt k (List.mem_range.1 hk)
  exact Cbz.2 (by omega)
 have hperm:((List.range N).map (turnK sh order)).Perm (nums 0 1 N):=by
  rw [List.perm_ext_iff_of_nodup hnd (G6z N)]
  exact fun x=>⟨hm x,fun hx=>(Juz hnd hm (by simp)).1 x hx⟩
 have e1:offs b sh st=((List.range N).map (turnK sh order)).map fun x=>cellK b (permL sh order) (permL st order) x:=by
  unfold offs
  rw [hN,List.map_map,Int.toNat_natCast]
  refine List.map_congr_left fun k hk=>?_
  exact (G1z hg h (by have:=List.mem_range.1 hk;omega)).symm
 have e2:offs b (permL sh order) (permL st order)=(nums 0 1 N).map fun x=>cellK b (permL sh order) (permL st order) x:=by
  unfold offs
  rw [Fvz (Caz h),hN,Int.toNat_natCast]
  refine B2z (by simp) fun j hj=>?_
  have hj':j<N:=by simpa using hj
  have hj2:j<(nums 0 1 N).length:=by simpa using hj'
  have e:=B6z 0 1 N j hj'
  rw [List.getD,List.getElem?_eq_getElem hj2,Option.getD_some] at e
  simp only [List.getD,List.getElem?_map,List.getElem?_eq_getElem hj2,Option.map_some,Option.getD_some,List.getElem?_range hj',e]
  congr 1
  omega
 rw [e1,e2]
 exact (hperm.map _).symm
theorem seeB_perm {mem:List Int}{b:Int}{sh st order:List Int}(hs:seeB mem b sh st=true)(h:isOrd order sh.length):seeB mem b (permL sh order) (permL st order)=true:=by
 obtain ⟨h1,h2,h3⟩:=C8z.1 hs
 have hg:=(A5z (Czz.1 h2).1).1
 exact C8z.2 ⟨h1,vV_perm h2 h,fun x hx=>h3 x (((offs_perm hg h).mem_iff).1 hx)⟩
end VwM
namespace VwM
open Go Vw

end VwM
namespace VwM
open Go Vw
theorem idxF_three (a b c d:Nat)(r:List Nat):idxF (a::b::c::d::r) 3=some d:=rfl
theorem idxF_four (a b c d e:Nat)(r:List Nat):idxF (a::b::c::d::e::r) 4=some e:=rfl
theorem idxF_five (a b c d e f:Nat)(r:List Nat):idxF (a::b::c::d::e::f::r) 5=some f:=rfl
attribute [push_cast] idxF_three idxF_four idxF_five
end VwM
namespace VwM
open Go Vw
theorem news_4 (d:Nat):news (some d) 4=[16*d,16*d+1,16*d+2,16*d+3]:=rfl
theorem news_5 (d:Nat):news (some d) 5=[16*d,16*d+1,16*d+2,16*d+3,16*d+4]:=rfl
theorem freshC_4 {pin:Nat}(H:List (Nat×List AV))(d:Nat):freshC pin H (some d) 4=(freshD H d∧pin≤16*d):=by simp [freshC]
theorem freshC_5 {pin:Nat}(H:List (Nat×List AV))(d:Nat):freshC pin H (some d) 5=(freshD H d∧pin≤16*d):=by simp [freshC]
attribute [push_cast] news_4 news_5 freshC_4 freshC_5
end VwM
