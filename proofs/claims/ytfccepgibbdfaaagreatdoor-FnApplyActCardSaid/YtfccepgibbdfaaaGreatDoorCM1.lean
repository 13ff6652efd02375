/- The mathematics of ranges,slices,shapes and indices that the contracts speak of. -/
import Derived.Test.YtfccepgibbdfaaaGreatDoorCW3
import Derived.Lib.ItoaNum
set_option linter.unusedSimpArgs false
set_option linter.unusedSectionVars false
set_option linter.unusedVariables false
set_option maxRecDepth 4000
set_option linter.unnecessarySimpa false
namespace VwM
open Vw
open Go

abbrev rng (a b c:Int):AV:=.agg [.int .i64 a,.int .i64 b,.int .i64 c]
abbrev slc (f t b:Int)(hf ht:Bool):AV:=.agg [.int .i64 f,.int .i64 t,.int .i64 b,.bool hf,.bool ht]
abbrev IL (xs:List Int):List AV:=xs.map (AV.int .i64)
abbrev RI (xs:List Int):AV:=.rows false (IL xs) xs.length
abbrev OI (xs:List Int):AV→List (List AV)→Prop:=fun r H'=>r=.own 0 xs.length 1∧H'=[IL xs]
def vR (a b c:Int):Bool:=decide (-100≤a)&&decide (a≤100)&&(decide (-101≤b)&&decide (b≤101))&&(decide (-200≤c)&&decide (c≤200)&&!decide (c=0))
def vS (f t b:Int)(hf ht:Bool):Bool:=decide (-100≤f)&&decide (f≤100)&&(decide (-100≤t)&&decide (t≤100))&&(decide (-200≤b)&&decide (b≤200))&&!decide (b=0)&&(hf || decide (f=0))&&(ht || decide (t=0))
theorem E7z {a b c:Int}:vR a b c=true↔(-100≤a∧a≤100)∧(-101≤b∧b≤101)∧(-200≤c∧c≤200)∧c≠0:=by
 simp only [vR,Bool.and_eq_true,decide_eq_true_eq,Bool.not_eq_true',decide_eq_false_iff_not]
 constructor
 ·rintro ⟨⟨h1,h2⟩,h3,h4⟩;exact ⟨h1,h2,h3,h4⟩
 ·rintro ⟨h1,h2,h3,h4⟩;exact ⟨⟨h1,h2⟩,h3,h4⟩
theorem Iaz {f t b:Int}{hf ht:Bool}:vS f t b hf ht=true↔(-100≤f∧f≤100)∧(-100≤t∧t≤100)∧(-200≤b∧b≤200)∧b≠0∧(hf=true∨f=0)∧(ht=true∨t=0):=by
 simp only [vS,Bool.and_eq_true,Bool.or_eq_true,decide_eq_true_eq,Bool.not_eq_true',decide_eq_false_iff_not]
 constructor
 ·rintro ⟨⟨⟨⟨⟨h1,h2⟩,h3⟩,h4⟩,h5⟩,h6⟩;exact ⟨h1,h2,h3,h4,h5,h6⟩
 ·rintro ⟨h1,h2,h3,h4,h5,h6⟩;exact ⟨⟨⟨⟨⟨h1,h2⟩,h3⟩,h4⟩,h5⟩,h6⟩
theorem mkAV_ints0 (k:IntKind)(xs:List Int):mkAV false ((xs.map (AV.int k)).take 1)=if 0<xs.length then some (.int k (xs.getD 0 0)) else none:=by
 haveI:Inhabited GlobT:=⟨⟨[]⟩⟩
 have:=J1z k xs 0
 rwa [List.drop_zero] at this
attribute [push_cast] J1z mkAV_ints0


theorem Goz {xs ys:List Int}(hl:xs.length=ys.length)(h:∀ j:Nat,j<xs.length→xs.getD j 0=ys.getD j 0):xs=ys:=by
 refine List.ext_getElem hl fun i h1 h2=>?_
 have:=h i h1
 simpa [List.getD,h1,h2] using this


def upFrom (k:Int)(n:Nat):List Int:=(List.range n).map fun i:Nat=>k+(i:Int)
theorem Hkz (k:Int)(n:Nat):(upFrom k n).length=n:=by simp [upFrom]
attribute [simp] Hkz
attribute [push_cast] Hkz
def marked (k:Int)(xs:List Int)(j:Nat):List Int:=upFrom k j++xs.drop j
def cntI (a b c:Int):Int :=
 if c<0 then (if 0-(b-a)≤0 then 0 else (0-(b-a)+(0-c)-1).tdiv (0-c)) else (if b-a≤0 then 0 else (b-a+c-1).tdiv c)
theorem Dhz {x y:Int}(hy:0<y)(hx:0≤x):0≤x.tdiv y∧x.tdiv y≤x:=by
 rw [Int.tdiv_eq_ediv_of_nonneg hx]
 exact ⟨Int.ediv_nonneg hx (by omega),Int.ediv_le_self _ hx⟩
def nums (a c:Int)(k:Nat):List Int:=(List.range k).map fun i:Nat=>a+(i:Int)*c
theorem nums_zero (a c:Int):nums a c 0=[]:=rfl
theorem nums_succ (a c:Int)(k:Nat):nums a c (k+1)=nums a c k++[a+(k:Int)*c]:=by simp [nums,List.range_succ]
theorem B2z (a c:Int)(k:Nat):(nums a c k).length=k:=by simp [nums]
theorem Jzz (a c:Int)(k i:Nat)(h:i<k):(nums a c k).getD i 0=a+(i:Int)*c:=by simp [nums,h,List.getD]
attribute [simp] B2z
attribute [push_cast] B2z
theorem cnt_lt {a b c i:Int}(h0:c≠0)(hi:0≤i):i<cntI a b c↔(0<c∧a+i*c<b)∨(c<0∧b<a+i*c):=by
 unfold cntI
 by_cases hc:c<0
 ·rw [if_pos hc]
  have hp:0≤i*(0-c):=Int.mul_nonneg hi (by omega)
  have e:i*(0-c)=- (i*c):=by rw [Int.zero_sub,Int.mul_neg]
  by_cases hw:0-(b-a)≤0
  ·rw [if_pos hw]
   constructor
   ·intro h;omega
   ·rintro (h|h)<;>omega
  ·rw [if_neg hw,Int.tdiv_eq_ediv_of_nonneg (by omega),Int.lt_iff_add_one_le,Int.le_ediv_iff_mul_le (by omega),Int.add_mul]
   constructor
   ·intro h;right;omega
   ·rintro (h|h)<;>omega
 ·rw [if_neg hc]
  have hp:0≤i*c:=Int.mul_nonneg hi (by omega)
  by_cases hw:b-a≤0
  ·rw [if_pos hw]
   constructor
   ·intro h;omega
   ·rintro (h|h)<;>omega
  ·rw [if_neg hw,Int.tdiv_eq_ediv_of_nonneg (by omega),Int.lt_iff_add_one_le,Int.le_ediv_iff_mul_le (by omega),Int.add_mul]
   constructor
   ·intro h;left;omega
   ·rintro (h|h)<;>omega
theorem cnt_bound {a b c:Int}(hv:vR a b c=true):0≤cntI a b c∧cntI a b c≤500:=by
 obtain ⟨ha,hb,hc,h0⟩:=E7z.1 hv
 unfold cntI
 by_cases hc:c<0
 ·rw [if_pos hc]
  by_cases hw:0-(b-a)≤0
  ·rw [if_pos hw];omega
  ·rw [if_neg hw]
   have:=Dhz (x:=0-(b-a)+(0-c)-1) (y:=0-c) (by omega) (by omega)
   omega
 ·rw [if_neg hc]
  by_cases hw:b-a≤0
  ·rw [if_pos hw];omega
  ·rw [if_neg hw]
   have:=Dhz (x:=b-a+c-1) (y:=c) (by omega) (by omega)
   omega
def cntN (a b c:Int):Nat:=(cntI a b c).toNat
theorem Klz {a b c:Int}(hv:vR a b c=true):(cntN a b c:Int)=cntI a b c:=by
 unfold cntN;have:=cnt_bound hv;omega
theorem cntN_lt {a b c:Int}(hv:vR a b c=true)(i:Nat):i<cntN a b c↔(0<c∧a+i*c<b)∨(c<0∧b<a+i*c):=by
 rw [← cnt_lt (E7z.1 hv).2.2.2 (by omega:(0:Int)≤i),← Klz hv]
 omega
theorem num_bound {a b c:Int}(hv:vR a b c=true){i:Nat}(h:i<cntN a b c):-201≤(i:Int)*c∧(i:Int)*c≤201∧-100≤a+i*c∧a+i*c≤100:=by
 obtain ⟨ha,hb,hc,h0⟩:=E7z.1 hv
 rcases (cntN_lt hv i).1 h with ⟨h1,h2⟩|⟨h1,h2⟩
 ·have:0≤(i:Int)*c:=Int.mul_nonneg (by omega) (by omega)
  omega
 ·have:0≤(i:Int)*(0-c):=Int.mul_nonneg (by omega) (by omega)
  rw [Int.zero_sub,Int.mul_neg] at this
  omega
theorem next_bound {a b c:Int}(hv:vR a b c=true){i:Nat}(h:i≤cntN a b c):-1000≤(i:Int)*c∧(i:Int)*c≤1000:=by
 obtain ⟨ha,hb,hc,h0⟩:=E7z.1 hv
 cases i with
 | zero=>simp
 | succ i =>
  have:=num_bound hv (i:=i) (by omega)
  rw [show ((i+1:Nat):Int)*c=(i:Int)*c+c by rw [Int.natCast_add,Int.add_mul];simp]
  omega
def filled (g:Nat→Int)(n j:Nat):List Int:=(List.range n).map fun i=>if i<j then g i else 0
theorem Kgz (g:Nat→Int)(n:Nat):filled g n 0=List.replicate n 0:=by
 refine List.ext_getElem? fun i=>?_
 by_cases h:i<n<;>simp [filled,h]
theorem Fiz (g:Nat→Int)(n j:Nat):(filled g n j).length=n:=by simp [filled]
attribute [simp] Fiz
attribute [push_cast] Fiz
theorem Lgz (g:Nat→Int)(n j:Nat)(h:j<n):(filled g n j).set j (g j)=filled g n (j+1):=by
 refine List.ext_getElem? fun i=>?_
 simp only [filled,List.getElem?_set,List.length_map,List.length_range,List.getElem?_map]
 by_cases h1:j=i
 ·subst h1;simp [h]
 ·by_cases h2:i<n
  ·simp only [List.getElem?_range h2,Option.map_some,if_neg h1]
   congr 1
   by_cases h3:i<j
   ·rw [if_pos h3,if_pos (by omega)]
   ·rw [if_neg h3,if_neg (by omega)]
  ·simp [h1,h2]
theorem filled_all (g:Nat→Int)(n:Nat):filled g n n=(List.range n).map g:=by
 refine List.map_congr_left fun i hi=>?_
 rw [if_pos (List.mem_range.1 hi)]
theorem A2z (xs:List Int)(j:Nat)(v:Int):(IL xs).set j (.int .i64 v)=IL (xs.set j v):=by simp [IL,List.map_set]
theorem IL_snoc (xs:List Int)(v:Int):IL xs++[.int .i64 v]=IL (xs++[v]):=by simp [IL]
theorem toNat_succ (k:Nat):((k:Int)+1).toNat=k+1:=by omega
theorem IL_tail (k:IntKind)(xs:List Int)(j:Nat):(((xs.map (AV.int k)).drop j).take (xs.length-j))=(xs.drop j).map (AV.int k):=by
 rw [← List.map_drop,← List.map_take]
 congr 1
 exact List.take_of_length_le (by simp)
attribute [push_cast] toNat_succ IL_tail
def pr (xs:List Int):Int:=xs.foldl (· * ·) 1
theorem pr_nil:pr []=1:=rfl
theorem pr_snoc (xs:List Int)(x:Int):pr (xs++[x])=pr xs*x:=by simp [pr]
theorem foldl_mul (xs:List Int)(a:Int):xs.foldl (· * ·) a=a*pr xs:=by
 induction xs generalizing a with
 | nil=>simp [pr]
 | cons x r ih=>simp only [List.foldl_cons,pr];rw [ih,ih (1*x)];rw [Int.one_mul,Int.mul_assoc]
theorem L9z (x:Int)(xs:List Int):pr (x::xs)=x*pr xs:=by
 show (x::xs).foldl (· * ·) 1=_
 rw [List.foldl_cons,foldl_mul,Int.one_mul]
theorem B1z (xs:List Int)(k:Nat)(h:k<xs.length):xs.take (k+1)=xs.take k++[xs.getD k 0]:=by
 rw [List.take_succ_eq_append_getElem h];simp [List.getD,h]
theorem drop_getD (xs:List Int)(k:Nat)(h:k<xs.length):xs.drop k=xs.getD k 0::xs.drop (k+1):=by
 rw [List.drop_eq_getElem_cons h];simp [List.getD,h]
theorem Edz (xs:List Int)(k:Nat)(h:k<xs.length):pr (xs.take (k+1))=pr (xs.take k)*xs.getD k 0:=by rw [B1z xs k h,pr_snoc]
theorem pr_drop (xs:List Int)(k:Nat)(h:k<xs.length):pr (xs.drop k)=xs.getD k 0*pr (xs.drop (k+1)):=by rw [drop_getD xs k h,L9z]
def good4 (xs:List Int):Prop:=(∀ x∈xs,0≤x∧x≤60)∧xs.length≤4
theorem Imz {xs:List Int}(h:good4 xs)(j:Nat):good4 (xs.take j):=⟨fun x hx=>h.1 x (List.mem_of_mem_take hx),by have:=h.2;simp;omega⟩
theorem Clz {xs:List Int}(h:good4 xs){k:Nat}(hk:k<xs.length):0≤xs.getD k 0∧xs.getD k 0≤60:=by
 refine h.1 _ ?_
 simp [List.getD,hk]
theorem pr_bound':∀ (xs:List Int),(∀ x∈xs,0≤x∧x≤60)→0≤pr xs∧pr xs≤60 ^ xs.length
 | [],_=>by simp [pr]
 | x::r,h=>by
  have ih:=pr_bound' r fun y hy=>h y (by simp [hy])
  have hx:=h x (by simp)
  rw [L9z,List.length_cons,Int.pow_succ,Int.mul_comm (60 ^ r.length) 60]
  exact ⟨Int.mul_nonneg hx.1 ih.1,Int.mul_le_mul hx.2 ih.2 ih.1 (by omega)⟩
theorem Dmz {xs:List Int}(h:good4 xs):0≤pr xs∧pr xs≤12960000:=by
 have h1:=pr_bound' xs h.1
 refine ⟨h1.1,Int.le_trans h1.2 ?_⟩
 have:(60:Int) ^ xs.length≤60 ^ 4:=by
  obtain ⟨_,hl⟩:=h
  generalize xs.length=n at hl
  match n,hl with
  | 0,_=>decide
  | 1,_=>decide
  | 2,_=>decide
  | 3,_=>decide
  | 4,_=>decide
 simpa using this
def allI (xs:List Int)(l h:Int):Bool:=xs.all fun x=>decide (l≤x)&&decide (x≤h)
theorem Cxz {xs:List Int}{l h:Int}:allI xs l h=true↔∀ x∈xs,l≤x∧x≤h:=by simp [allI]
theorem Gez {xs:List Int}{l h:Int}:(∀ j:Nat,j<xs.length→l≤xs.getD j 0∧xs.getD j 0≤h)→allI xs l h=true:=by
 intro hj
 rw [Cxz]
 intro x hx
 obtain ⟨i,hi,rfl⟩:=List.getElem_of_mem hx
 have:=hj i hi
 simpa [List.getD,hi] using this
theorem E3z {xs:List Int}{l h:Int}{j:Nat}(hj:j<xs.length)(hx:xs.getD j 0<l∨h<xs.getD j 0):allI xs l h=false:=by
 rw [Bool.eq_false_iff]
 intro ht
 have:=(Cxz.1 ht) (xs.getD j 0) (by simp [List.getD,hj])
 omega
def vSh (sh:List Int):Bool:=decide (sh.length≤4)&&allI sh 0 60&&decide (pr sh≤60)
theorem Cbz {sh:List Int}(h:vSh sh=true):good4 sh∧0≤pr sh∧pr sh≤60:=by
 simp only [vSh,Bool.and_eq_true,decide_eq_true_eq] at h
 have hg:good4 sh:=⟨Cxz.1 h.1.2,h.1.1⟩
 exact ⟨hg,(Dmz hg).1,h.2⟩
theorem nil_split {n:Nat}{K:Bool→Prop}(h1:n=0→K true)(h2:K false):∀ b:Bool,(b=true→n=0)→K b:=by
 intro b hb
 cases b with
 | true=>exact h1 (hb rfl)
 | false=>exact h2
def rowS (sh:List Int):List Int:=(List.range sh.length).map fun i:Nat=>pr (sh.drop (i+1))
def colS (sh:List Int):List Int:=(List.range sh.length).map fun i:Nat=>pr (sh.take i)
theorem Jpz (sh:List Int):(rowS sh).length=sh.length:=by simp [rowS]
theorem Kkz (sh:List Int):(colS sh).length=sh.length:=by simp [colS]
attribute [simp] Jpz Kkz
attribute [push_cast] Jpz Kkz
def filledD (g:Nat→Int)(n k:Nat):List Int:=(List.range n).map fun i=>if n-k≤i then g i else 0
theorem filledD_zero (g:Nat→Int)(n:Nat):filledD g n 0=List.replicate n 0:=by
 refine List.ext_getElem? fun i=>?_
 by_cases h:i<n
 ·have:¬ n≤i:=by omega
  simp [filledD,h,this]
 ·simp [filledD,h]
theorem G3z (g:Nat→Int)(n k:Nat):(filledD g n k).length=n:=by simp [filledD]
attribute [simp] G3z
attribute [push_cast] G3z
theorem filledD_set (g:Nat→Int)(n k:Nat)(h:k<n):(filledD g n k).set (n-1-k) (g (n-1-k))=filledD g n (k+1):=by
 refine List.ext_getElem? fun i=>?_
 simp only [filledD,List.getElem?_set,List.length_map,List.length_range,List.getElem?_map]
 by_cases h1:n-1-k=i
 ·subst h1
  have h2:n-1-k<n:=by omega
  have h3:n-(k+1)≤n-1-k:=by omega
  simp [h2,h3]
  omega
 ·by_cases h2:i<n
  ·simp only [List.getElem?_range h2,Option.map_some,if_neg h1]
   congr 1
   by_cases h3:n-k≤i
   ·rw [if_pos h3,if_pos (by omega)]
   ·rw [if_neg h3,if_neg (by omega)]
  ·simp [h1,h2]
theorem filledD_all (g:Nat→Int)(n:Nat):filledD g n n=(List.range n).map g:=by
 refine List.map_congr_left fun i hi=>?_
 rw [if_pos (by omega)]
theorem down_nat (n k:Nat)(h:k<n):((n:Int)-1-(k:Int)).toNat=n-1-k:=by omega



def kS (sh:List Int)(k:Int):Nat→Int
 | 0=>k
 | j+1=>(kS sh k j).tdiv (sh.getD (sh.length-1-j) 0)
def dig (sh:List Int)(k:Int)(i:Nat):Int:=(kS sh k (sh.length-1-i)).tmod (sh.getD i 0)
def unr (sh:List Int)(k:Int):List Int:=(List.range sh.length).map (dig sh k)
theorem Ibz (sh:List Int)(k:Int):(unr sh k).length=sh.length:=by simp [unr]
attribute [simp] Ibz
attribute [push_cast] Ibz
theorem pr_zero {xs:List Int}{i:Nat}(hi:i<xs.length)(h:xs.getD i 0=0):pr xs=0:=by
 have e:xs=xs.take i++xs.drop i:=(List.take_append_drop i xs).symm
 rw [e,pr,List.foldl_append,foldl_mul,pr_drop xs i hi,h]
 simp
theorem Gqz {sh:List Int}{k:Int}(hk:0≤k)(hp:∀ i,i<sh.length→1≤sh.getD i 0):∀ j,j≤sh.length→0≤kS sh k j∧kS sh k j≤k
 | 0,_=>by simp [kS,hk]
 | j+1,h=>by
  have ih:=Gqz hk hp j (by omega)
  have h1:=hp (sh.length-1-j) (by omega)
  have:=Dhz (x:=kS sh k j) (y:=sh.getD (sh.length-1-j) 0) (by omega) ih.1
  simp only [kS]
  omega
theorem D5z {sh:List Int}(hg:good4 sh)(h:1≤pr sh):∀ i,i<sh.length→1≤sh.getD i 0:=by
 intro i hi
 have h1:=Clz hg hi
 rcases Int.lt_or_le 0 (sh.getD i 0) with h2|h2
 ·omega
 ·have:=pr_zero hi (by omega)
  omega
theorem dig_bound {sh:List Int}{k:Int}(hk:0≤k)(hp:∀ i,i<sh.length→1≤sh.getD i 0)(hle:∀ i,i<sh.length→sh.getD i 0≤60){i:Nat}(hi:i<sh.length):0≤dig sh k i∧dig sh k i<sh.getD i 0:=by
 have h1:=Gqz hk hp (sh.length-1-i) (by omega)
 have h2:=hp i hi
 unfold dig
 exact ⟨Int.tmod_nonneg _ h1.1,Int.tmod_lt_of_pos _ (by omega)⟩
def pad4 (f:Nat→Int):List Int:=[f 0,f 1,f 2,f 3]
theorem Jxz (f:Nat→Int):(pad4 f).length=4:=rfl
theorem pad4_getD (f:Nat→Int)(i:Nat)(h:i<4):(pad4 f).getD i 0=f i:=by
 match i,h with
 | 0,_=>rfl
 | 1,_=>rfl
 | 2,_=>rfl
 | 3,_=>rfl
theorem pad4_set (f:Nat→Int)(i:Nat)(v:Int)(h:i<4):(pad4 f).set i v=pad4 (fun j=>if j=i then v else f j):=by
 match i,h with
 | 0,_=>rfl
 | 1,_=>rfl
 | 2,_=>rfl
 | 3,_=>rfl
theorem Ihz {f g:Nat→Int}(h:∀ i,i<4→f i=g i):pad4 f=pad4 g:=by simp [pad4,h]
theorem Lyz (a b c d:AV)(f:Nat→Int):setRange [a,b,c,d] 0 ((pad4 f).map (AV.int .i64))=(pad4 f).map (AV.int .i64):=by simp [pad4,setRange]
theorem Kuz (g f:Nat→Int):setRange ((pad4 g).map (AV.int .i64)) 0 ((pad4 f).map (AV.int .i64))=(pad4 f).map (AV.int .i64):=by simp [pad4,setRange]
theorem take_pad4 (f:Nat→Int):((pad4 f).map (AV.int .i64)).take 4=(pad4 f).map (AV.int .i64):=by simp [pad4]
attribute [simp] Jxz
attribute [push_cast] Jxz Lyz Kuz take_pad4
def padD (xs:List Int)(k:Int)(j i:Nat):Int:=if i<xs.length∧xs.length-j≤i then dig xs k i else 0
abbrev AP (f:Nat→Int):AV:=.agg (IL (pad4 f))
def digP (sh:List Int)(k:Int)(i:Nat):Int:=if i<sh.length then dig sh k i else 0


def vIx (sh idx:List Int):Bool:=decide (idx.length=sh.length)&&(List.range idx.length).all fun i=>decide (0≤idx.getD i 0)&&decide (idx.getD i 0≤sh.getD i 0-1)
def dot (f:Nat→Int)(st:List Int):Nat→Int
 | 0=>0
 | k+1=>dot f st k+f k*st.getD k 0
theorem E0z {f g:Nat→Int}{st:List Int}:∀ {k:Nat},(∀ i,i<k→f i=g i)→dot f st k=dot g st k
 | 0,_=>rfl
 | k+1,h=>by simp only [dot];rw [E0z fun i hi=>h i (by omega),h k (by omega)]
theorem Fez {a b B C:Int}(ha:-B≤a∧a≤B)(hb:-C≤b∧b≤C):-(B*C)≤a*b∧a*b≤B*C:=by
 have h1:a.natAbs≤B.natAbs:=by omega
 have h2:b.natAbs≤C.natAbs:=by omega
 have h3:(a*b).natAbs≤(B*C).natAbs:=by rw [Int.natAbs_mul,Int.natAbs_mul];exact Nat.mul_le_mul h1 h2
 have h4:0≤B*C:=Int.mul_nonneg (by omega) (by omega)
 omega
theorem H5z {f:Nat→Int}{st:List Int}{B C:Int}:∀ k,(∀ i,i<k→(-B≤f i∧f i≤B)∧-C≤st.getD i 0∧st.getD i 0≤C)→-((k:Int)*(B*C))≤dot f st k∧dot f st k≤(k:Int)*(B*C)
 | 0,_=>by simp [dot]
 | k+1,h=>by
  have ih:=H5z (f:=f) (st:=st) (B:=B) (C:=C) k fun i hi=>h i (by omega)
  have h1:=h k (by omega)
  have h2:=Fez h1.1 h1.2
  simp only [dot,Int.natCast_add,Int.add_mul]
  simp only [Int.cast_ofNat_Int,Int.one_mul]
  omega


def idxP (sh idx:List Int)(i:Nat):Int:=if vIx sh idx=true∧i<sh.length then idx.getD i 0 else 0
abbrev OV (b:Int)(sh st:List Int):AV→List (List AV)→Prop:=fun r H'=>r=.agg [.int .i64 b,.own 0 sh.length 1,.own 1 st.length 1]∧H'=[IL sh,IL st]


def endI (x n b:Int):Int:=min (max (if b<0 then -1 else 0) (if x<0 then x+n else x)) (if b<0 then n-1 else n)
def sFrom (f n b:Int)(hf:Bool):Int:=if hf=true then endI f n b else if b<0 then n-1 else 0
def sTo (t n b:Int)(ht:Bool):Int:=if ht=true then endI t n b else if b<0 then -1 else n
theorem Liz {x n b:Int}(hn:0≤n∧n≤60):-1≤endI x n b∧endI x n b≤60:=by
 unfold endI;split<;>split<;>omega
theorem Jnz {f n b:Int}{hf:Bool}(hn:0≤n∧n≤60):-1≤sFrom f n b hf∧sFrom f n b hf≤60:=by
 have:=Liz (x:=f) (b:=b) hn
 unfold sFrom;split
 ·exact this
 ·split<;>omega
theorem sTo_bound {t n b:Int}{ht:Bool}(hn:0≤n∧n≤60):-1≤sTo t n b ht∧sTo t n b ht≤60:=by
 have:=Liz (x:=t) (b:=b) hn
 unfold sTo;split
 ·exact this
 ·split<;>omega
theorem Giz {f t b n:Int}{hf ht:Bool}(hn:0≤n∧n≤60)(hs:vS f t b hf ht=true):vR (sFrom f n b hf) (sTo t n b ht) b=true:=by
 obtain ⟨h1,h2,h3,h4,-,-⟩:=Iaz.1 hs
 have:=Jnz (f:=f) (b:=b) (hf:=hf) hn
 have:=sTo_bound (t:=t) (b:=b) (ht:=ht) hn
 exact E7z.2 ⟨by omega,by omega,h3,h4⟩


def pS (a k:Int):Int:=if k<1 then 0 else a
def pE (a c k:Int):Int:=if k<1 then 0 else if k=1 then a+1 else if c<0 then a+(k-1)*c-1 else a+(k-1)*c+1
def pC (c k:Int):Int:=if k≤1 then 1 else c
abbrev PR (a c k:Int):AV:=rng (pS a k) (pE a c k) (pC c k)


theorem idx_in {f t b n:Int}{hf ht:Bool}(hn:0≤n∧n≤60)(hs:vS f t b hf ht=true){i:Nat}(h:i<cntN (sFrom f n b hf) (sTo t n b ht) b):0≤sFrom f n b hf+(i:Int)*b∧sFrom f n b hf+(i:Int)*b<n:=by
 have h1:=(cntN_lt (Giz hn hs) i).1 h
 rcases h1 with ⟨hb,h2⟩|⟨hb,h2⟩
 ·have p:0≤(i:Int)*b:=Int.mul_nonneg (by omega) (by omega)
  have q1:0≤sFrom f n b hf:=by unfold sFrom endI;split<;>(try split)<;>omega
  have q2:sTo t n b ht≤n:=by unfold sTo endI;split<;>(try split)<;>omega
  omega
 ·have p:0≤(i:Int)*(0-b):=Int.mul_nonneg (by omega) (by omega)
  rw [Int.zero_sub,Int.mul_neg] at p
  have q1:sFrom f n b hf≤n-1:=by unfold sFrom endI;split<;>(try split)<;>omega
  have q2:-1≤sTo t n b ht:=by unfold sTo endI;split<;>(try split)<;>omega
  omega
theorem mul_bd {x y:Int}{p q:Nat}(h1:-(p:Int)≤x∧x≤p)(h2:-(q:Int)≤y∧y≤q):-((p*q:Nat):Int)≤x*y∧x*y≤(p*q:Nat):=by
 have e:(x*y).natAbs≤p*q:=by rw [Int.natAbs_mul];exact Nat.mul_le_mul (by omega) (by omega)
 omega


end VwM
namespace VwM
open Vw
open Go

theorem mem_getD {xs:List Int}{x:Int}:x∈xs↔∃ j,j<xs.length∧xs.getD j 0=x:=by
 constructor
 ·intro h
  obtain ⟨i,hi,e⟩:=List.getElem_of_mem h
  exact ⟨i,hi,by simp [List.getD,hi,e]⟩
 ·rintro ⟨j,hj,rfl⟩
  simp [List.getD,hj]
theorem Ddz {xs:List Int}{j:Nat}(h:j<xs.length):xs.getD j 0∈xs:=mem_getD.2 ⟨j,h,rfl⟩
def aS (a c:Int)(n:Nat):Int:=if c<0 then a+((n:Int)-1)*c else a
theorem PR_valid {s c:Int}{n:Nat}(h0:c≠0)(hc:-200≤c∧c≤200)(hb:∀ i:Nat,i<n→-100≤s+(i:Int)*c∧s+(i:Int)*c≤100) :
  vR (pS s n) (pE s c n) (pC c n)=true:=by
 match n with
 | 0=>simp [pS,pE,pC,vR]
 | 1 =>
  have:=hb 0 (by omega)
  simp at this
  simp [pS,pE,pC,vR];omega
 | n+2 =>
  have b0:=hb 0 (by omega)
  have bl:=hb (n+1) (by omega)
  simp only [Int.natCast_zero,Int.zero_mul,Int.add_zero] at b0
  have p1:¬ ((n+2:Nat):Int)<1:=by omega
  have p2:¬ ((n+2:Nat):Int)≤1:=by omega
  have p3:¬ ((n+2:Nat):Int)=1:=by omega
  simp only [pS,pE,pC,if_neg p1,if_neg p2,if_neg p3]
  rw [show ((n+2:Nat):Int)-1=((n+1:Nat):Int) by omega]
  refine E7z.2 ⟨by omega,?_,hc,h0⟩
  split<;>omega
theorem cntN_PR {s c:Int}{n:Nat}(h0:c≠0)(hc:-200≤c∧c≤200)(hb:∀ i:Nat,i<n→-100≤s+(i:Int)*c∧s+(i:Int)*c≤100) :
  cntN (pS s n) (pE s c n) (pC c n)=n:=by
 have hv:=PR_valid h0 hc hb
 have key:∀ i:Nat,i<cntN (pS s n) (pE s c n) (pC c n)↔i<n:=by
  intro i
  rw [cntN_lt hv]
  match n with
  | 0=>simp [pS,pE,pC];try omega
  | 1=>simp [pS,pE,pC];try omega
  | n+2 =>
   have p1:¬ ((n+2:Nat):Int)<1:=by omega
   have p2:¬ ((n+2:Nat):Int)≤1:=by omega
   have p3:¬ ((n+2:Nat):Int)=1:=by omega
   simp only [pS,pE,pC,if_neg p1,if_neg p2,if_neg p3]
   rw [show ((n+2:Nat):Int)-1=((n+1:Nat):Int) by omega]
   by_cases hn:c<0
   ·rw [if_pos hn]
    constructor
    ·rintro (h|h)
     ·omega
     ·rcases Nat.lt_or_ge i (n+2) with g|g
      ·exact g
      ·have:=Int.mul_le_mul_of_nonneg_right (a:=((n+2:Nat):Int)) (b:=(i:Int)) (c:=0-c) (by omega) (by omega)
       rw [Int.mul_sub,Int.mul_sub,Int.mul_zero,Int.mul_zero,show ((n+2:Nat):Int)=((n+1:Nat):Int)+1 by omega,Int.add_mul] at this
       omega
    ·intro g
     right
     have:=Int.mul_le_mul_of_nonneg_right (a:=(i:Int)) (b:=((n+1:Nat):Int)) (c:=0-c) (by omega) (by omega)
     rw [Int.mul_sub,Int.mul_sub,Int.mul_zero,Int.mul_zero] at this
     omega
   ·rw [if_neg hn]
    constructor
    ·rintro (h|h)
     ·rcases Nat.lt_or_ge i (n+2) with g|g
      ·exact g
      ·have:=Int.mul_le_mul_of_nonneg_right (a:=((n+2:Nat):Int)) (b:=(i:Int)) (c:=c) (by omega) (by omega)
       rw [show ((n+2:Nat):Int)=((n+1:Nat):Int)+1 by omega,Int.add_mul] at this
       omega
     ·omega
    ·intro g
     left
     have:=Int.mul_le_mul_of_nonneg_right (a:=(i:Int)) (b:=((n+1:Nat):Int)) (c:=c) (by omega) (by omega)
     omega
 rcases Nat.lt_trichotomy (cntN (pS s n) (pE s c n) (pC c n)) n with h|h|h
 ·have:=(key _).2 h;omega
 ·exact h
 ·have:=(key _).1 h;omega
theorem G1z [Inhabited GlobT]{P:Program}{f:Nat}{args:List AV}{xs:List Int}(h:BCall P f args [] (OI xs)):PCall P f args (fun r=>r=.rows true (IL xs) xs.length):=by
 refine (BCall.plain h).mono ?_
 rintro r ⟨r0,H',⟨rfl,rfl⟩,rfl⟩
 simp [AV.ren,nthH,List.map_map,Function.comp_def]
theorem plainV [Inhabited GlobT]{P:Program}{f:Nat}{args:List AV}{b:Int}{sh st:List Int}(h:BCall P f args [] (OV b sh st)):PCall P f args (fun r=>r=.agg [.int .i64 b,.rows true (IL sh) sh.length,.rows true (IL st) st.length]):=by
 refine (BCall.plain h).mono ?_
 rintro r ⟨r0,H',⟨rfl,rfl⟩,rfl⟩
 simp [AV.ren,nthH,List.map_map,Function.comp_def]
end VwM
namespace VwM
open Vw
open Go

def horF (sh:List Int)(f:Nat→Int):Nat→Int
 | 0=>0
 | k+1=>horF sh f k*sh.getD k 0+f k
def isIx (sh:List Int)(f:Nat→Int):Prop:=∀ i,i<sh.length→0≤f i∧f i<sh.getD i 0
theorem Gsz {sh:List Int}{f:Nat→Int}(hf:isIx sh f):∀ k,k≤sh.length→0≤horF sh f k∧horF sh f k+1≤pr (sh.take k)
 | 0,_=>by simp [horF,pr_nil]
 | k+1,h=>by
  have ih:=Gsz hf k (by omega)
  have h3:=hf k (by omega)
  rw [Edz sh k (by omega)]
  have h5:(horF sh f k+1)*sh.getD k 0≤pr (sh.take k)*sh.getD k 0:=Int.mul_le_mul_of_nonneg_right ih.2 (by omega)
  have h6:0≤horF sh f k*sh.getD k 0:=Int.mul_nonneg ih.1 (by omega)
  rw [Int.add_mul,Int.one_mul] at h5
  simp only [horF]
  omega
theorem kS_horF {sh:List Int}{f:Nat→Int}(hf:isIx sh f):∀ j,j≤sh.length→kS sh (horF sh f sh.length) j=horF sh f (sh.length-j)
 | 0,_=>by simp [kS]
 | j+1,h=>by
  have ih:=kS_horF hf j (by omega)
  have h1:=hf (sh.length-1-j) (by omega)
  have h2:=Gsz hf (sh.length-1-j) (by omega)
  simp only [kS]
  rw [ih,show sh.length-j=sh.length-1-j+1 by omega,show sh.length-(j+1)=sh.length-1-j by omega]
  simp only [horF]
  have h3:0≤horF sh f (sh.length-1-j)*sh.getD (sh.length-1-j) 0:=Int.mul_nonneg h2.1 (by omega)
  rw [Int.tdiv_eq_ediv_of_nonneg (by omega),Int.add_comm,Int.add_mul_ediv_right _ _ (by omega),Int.ediv_eq_zero_of_lt h1.1 h1.2]
  omega
theorem dig_horF {sh:List Int}{f:Nat→Int}(hf:isIx sh f){i:Nat}(hi:i<sh.length):dig sh (horF sh f sh.length) i=f i:=by
 unfold dig
 have h1:=hf i hi
 have h2:=Gsz hf i (by omega)
 rw [kS_horF hf _ (by omega),show sh.length-(sh.length-1-i)=i+1 by omega]
 simp only [horF]
 have h3:0≤horF sh f i*sh.getD i 0:=Int.mul_nonneg h2.1 (by omega)
 rw [Int.tmod_eq_emod_of_nonneg (by omega),Int.add_comm,Int.add_mul_emod_self_right,Int.emod_eq_of_lt h1.1 h1.2]
theorem dig_isIx {sh:List Int}(hg:good4 sh){k:Int}(hk:0≤k)(h:k<pr sh):isIx sh (dig sh k):=fun i hi =>
 dig_bound hk (D5z hg (by omega)) (fun i hi=>(Clz hg hi).2) hi

def cellK (b:Int)(sh st:List Int)(k:Int):Int:=b+dot (dig sh k) st sh.length
def offs (b:Int)(sh st:List Int):List Int:=(List.range (pr sh).toNat).map fun k:Nat=>cellK b sh st k
theorem Bdz (b:Int)(sh st:List Int):(offs b sh st).length=(pr sh).toNat:=by simp [offs]
theorem offs_getD {b:Int}{sh st:List Int}{k:Nat}(h:k<(pr sh).toNat):(offs b sh st).getD k 0=cellK b sh st k:=by simp [offs,List.getD,h]
theorem mem_offs {b:Int}{sh st:List Int}{x:Int}:x∈offs b sh st↔∃ k:Nat,k<(pr sh).toNat∧cellK b sh st k=x:=by simp [offs]
theorem Cqz {b:Int}{sh st:List Int}(hg:good4 sh){x:Int}:x∈offs b sh st↔∃ f,isIx sh f∧b+dot f st sh.length=x:=by
 rw [mem_offs]
 constructor
 ·rintro ⟨k,hk,rfl⟩
  exact ⟨dig sh k,dig_isIx hg (by omega) (by omega),rfl⟩
 ·rintro ⟨f,hf,rfl⟩
  have h:=Gsz hf sh.length (Nat.le_refl _)
  rw [List.take_length] at h
  refine ⟨(horF sh f sh.length).toNat,by omega,?_⟩
  unfold cellK
  rw [show (((horF sh f sh.length).toNat:Nat):Int)=horF sh f sh.length by omega,E0z fun i hi=>dig_horF hf hi]
def vSt (st:List Int)(n:Nat):Bool:=decide (st.length=n)&&allI st (-60) 60
theorem Dyz {st:List Int}{n:Nat}:vSt st n=true↔st.length=n∧∀ x∈st,-60≤x∧x≤60:=by
 simp only [vSt,Bool.and_eq_true,decide_eq_true_eq,Cxz]
theorem K0z {st:List Int}{n i:Nat}(h:vSt st n=true)(hi:i<n):-60≤st.getD i 0∧st.getD i 0≤60:=by
 obtain ⟨h1,h2⟩:=Dyz.1 h
 exact h2 _ (Ddz (by omega))
def vV (b:Int)(sh st:List Int):Bool:=vSh sh&&vSt st sh.length&&(decide (0≤b)&&decide (b≤60))&&(decide (pr sh=0) || allI (offs b sh st) 0 59)
theorem Cmz {b:Int}{sh st:List Int}:vV b sh st=true↔vSh sh=true∧vSt st sh.length=true∧(0≤b∧b≤60)∧(pr sh=0∨∀ x∈offs b sh st,0≤x∧x≤59):=by
 simp only [vV,Bool.and_eq_true,Bool.or_eq_true,decide_eq_true_eq,Cxz,and_assoc]
theorem vV_cells {b:Int}{sh st:List Int}(h:vV b sh st=true):∀ x∈offs b sh st,0≤x∧x≤59:=by
 obtain ⟨h1,h2,h3,h4⟩:=Cmz.1 h
 rcases h4 with h4|h4
 ·intro x hx
  obtain ⟨k,hk,_⟩:=mem_offs.1 hx
  omega
 ·exact h4
def lowS (sh st:List Int):Nat→Int
 | 0=>0
 | k+1=>lowS sh st k+min ((sh.getD k 0-1)*st.getD k 0) 0
def highS (sh st:List Int):Nat→Int
 | 0=>0
 | k+1=>highS sh st k+max ((sh.getD k 0-1)*st.getD k 0) 0
theorem Hfz {sh st:List Int}{f:Nat→Int}(hf:isIx sh f):∀ k,k≤sh.length→lowS sh st k≤dot f st k∧dot f st k≤highS sh st k
 | 0,_=>by simp [lowS,highS,dot]
 | k+1,h=>by
  have ih:=Hfz (st:=st) hf k (by omega)
  have h1:=hf k (by omega)
  simp only [lowS,highS,dot]
  have:min ((sh.getD k 0-1)*st.getD k 0) 0≤f k*st.getD k 0∧f k*st.getD k 0≤max ((sh.getD k 0-1)*st.getD k 0) 0:=by
   rcases Int.lt_or_le (st.getD k 0) 0 with hs|hs
   ·have a1:=Int.mul_nonneg h1.1 (b:=0-st.getD k 0) (by omega)
    have a2:=Int.mul_nonneg (a:=sh.getD k 0-1-f k) (b:=0-st.getD k 0) (by omega) (by omega)
    rw [Int.mul_sub,Int.mul_zero] at a1 a2
    rw [Int.sub_mul] at a2
    omega
   ·have a1:=Int.mul_nonneg h1.1 hs
    have a2:=Int.mul_nonneg (a:=sh.getD k 0-1-f k) (by omega) hs
    rw [Int.sub_mul] at a2
    omega
  omega
theorem dot_low {sh st:List Int}:∀ k,k≤sh.length→(∀ i,i<sh.length→1≤sh.getD i 0)→dot (fun i=>if st.getD i 0<0 then sh.getD i 0-1 else 0) st k=lowS sh st k
 | 0,_,_=>rfl
 | k+1,h,hp=>by
  simp only [lowS,dot]
  rw [dot_low k (by omega) hp]
  have:=hp k (by omega)
  split
  ·rename_i hs
   have a2:=Int.mul_nonneg (a:=sh.getD k 0-1) (b:=0-st.getD k 0) (by omega) (by omega)
   rw [Int.mul_sub,Int.mul_zero] at a2
   omega
  ·have a2:=Int.mul_nonneg (a:=sh.getD k 0-1) (b:=st.getD k 0) (by omega) (by omega)
   omega
theorem dot_high {sh st:List Int}:∀ k,k≤sh.length→(∀ i,i<sh.length→1≤sh.getD i 0)→dot (fun i=>if st.getD i 0<0 then 0 else sh.getD i 0-1) st k=highS sh st k
 | 0,_,_=>rfl
 | k+1,h,hp=>by
  simp only [highS,dot]
  rw [dot_high k (by omega) hp]
  have:=hp k (by omega)
  split
  ·rename_i hs
   have a2:=Int.mul_nonneg (a:=sh.getD k 0-1) (b:=0-st.getD k 0) (by omega) (by omega)
   rw [Int.mul_sub,Int.mul_zero] at a2
   omega
  ·have a2:=Int.mul_nonneg (a:=sh.getD k 0-1) (b:=st.getD k 0) (by omega) (by omega)
   omega
theorem low_offs {b:Int}{sh st:List Int}(hg:good4 sh)(h1:1≤pr sh):b+lowS sh st sh.length∈offs b sh st∧∀ x∈offs b sh st,b+lowS sh st sh.length≤x:=by
 have hp:=D5z hg h1
 constructor
 ·refine (Cqz hg).2 ⟨fun i=>if st.getD i 0<0 then sh.getD i 0-1 else 0,fun i hi=>?_,by rw [dot_low _ (Nat.le_refl _) hp]⟩
  have:=hp i hi
  simp only
  split<;>omega
 ·intro x hx
  obtain ⟨f,hf,rfl⟩:=(Cqz hg).1 hx
  have:=Hfz (st:=st) hf sh.length (Nat.le_refl _)
  omega
theorem high_offs {b:Int}{sh st:List Int}(hg:good4 sh)(h1:1≤pr sh):b+highS sh st sh.length∈offs b sh st∧∀ x∈offs b sh st,x≤b+highS sh st sh.length:=by
 have hp:=D5z hg h1
 constructor
 ·refine (Cqz hg).2 ⟨fun i=>if st.getD i 0<0 then 0 else sh.getD i 0-1,fun i hi=>?_,by rw [dot_high _ (Nat.le_refl _) hp]⟩
  have:=hp i hi
  simp only
  split<;>omega
 ·intro x hx
  obtain ⟨f,hf,rfl⟩:=(Cqz hg).1 hx
  have:=Hfz (st:=st) hf sh.length (Nat.le_refl _)
  omega
def bdL (b:Int)(sh st:List Int):Int:=if pr sh=0 then -1 else b+lowS sh st sh.length
def bdH (b:Int)(sh st:List Int):Int:=if pr sh=0 then -1 else b+highS sh st sh.length
theorem bd_all {b:Int}{sh st:List Int}(hg:good4 sh)(h1:1≤pr sh){l h:Int}:allI (offs b sh st) l h=(decide (l≤b+lowS sh st sh.length)&&decide (b+highS sh st sh.length≤h)):=by
 rw [Bool.eq_iff_iff,Cxz,Bool.and_eq_true,decide_eq_true_eq,decide_eq_true_eq]
 obtain ⟨a1,a2⟩:=low_offs (b:=b) (st:=st) hg h1
 obtain ⟨a3,a4⟩:=high_offs (b:=b) (st:=st) hg h1
 constructor
 ·intro h
  exact ⟨(h _ a1).1,(h _ a3).2⟩
 ·rintro ⟨h5,h6⟩ x hx
  have:=a2 x hx
  have:=a4 x hx
  omega
theorem Hzz {sh st:List Int}(hg:good4 sh)(hs:vSt st sh.length=true):∀ k,k≤sh.length→-(3600*(k:Int))≤lowS sh st k∧lowS sh st k≤0∧0≤highS sh st k∧highS sh st k≤3600*(k:Int)
 | 0,_=>by simp [lowS,highS]
 | k+1,h=>by
  have ih:=Hzz hg hs k (by omega)
  have h1:=Clz hg (k:=k) (by omega)
  have h2:=K0z hs (i:=k) (by omega)
  have h3:=mul_bd (x:=sh.getD k 0-1) (y:=st.getD k 0) (p:=60) (q:=60) (by omega) (by omega)
  simp only [lowS,highS]
  omega
end VwM
namespace VwM
open Vw
open Go

theorem mkAV_bools (bs:List Bool)(off:Nat):mkAV false (((bs.map AV.bool).drop off).take 1)=if off<bs.length then some (.bool (bs.getD off false)) else none:=by
 by_cases h:off<bs.length
 ·rw [if_pos h,List.drop_eq_getElem_cons (by simpa using h)]
  simp [mkAV,h,List.getD]
 ·rw [if_neg h,List.drop_eq_nil_of_le (by simp;omega)]
  rfl
attribute [push_cast] mkAV_bools
def met (xs:List Int)(k:Nat):List Bool:=(List.range 60).map fun c:Nat=>decide ((c:Int)∈xs.take k)
end VwM
namespace VwM
open Vw
open Go

theorem take3 (xs:List Int)(off:Nat)(h:off+3≤xs.length):((xs.map (AV.int .i64)).drop off).take 3=[.int .i64 (xs.getD off 0),.int .i64 (xs.getD (off+1) 0),.int .i64 (xs.getD (off+2) 0)]:=by
 rw [List.drop_eq_getElem_cons (by simp;omega),List.drop_eq_getElem_cons (by simp;omega),List.drop_eq_getElem_cons (by simp;omega)]
 have h1:off<xs.length:=by omega
 have h2:off+1<xs.length:=by omega
 have h3:off+2<xs.length:=by omega
 have e3:off+1+1=off+2:=rfl
 simp only [e3]
 simp [h1,h2,h3,List.getD]
attribute [push_cast] take3
theorem zcells3_1:zcells [AV.int .i64 0,.int .i64 0,.int .i64 0] 1=[AV.int .i64 0,.int .i64 0,.int .i64 0]:=rfl
attribute [push_cast] zcells3_1
end VwM
namespace VwM
open Vw
open Go

theorem Loz {n:Int}(h0:0≤n)(h1:n<1099511627776):IntKind.wrap .i64 n=n:=IntWalk.i64_in n (by omega)
theorem xor_bound {a b:Int}(ha:0≤a∧a<1099511627776)(hb:0≤b∧b<1099511627776):0≤bits .xor .i64 a b∧bits .xor .i64 a b<1099511627776:=by
 have h:(BitVec.ofInt 64 a ^^^ BitVec.ofInt 64 b).toNat<1099511627776:=by
  rw [BitVec.toNat_xor,BitVec.toNat_ofInt,BitVec.toNat_ofInt]
  have e1:(a % ((2 ^ 64:Nat):Int)).toNat<2 ^ 40:=by
   rw [Int.emod_eq_of_lt ha.1 (by omega)];omega
  have e2:(b % ((2 ^ 64:Nat):Int)).toNat<2 ^ 40:=by
   rw [Int.emod_eq_of_lt hb.1 (by omega)];omega
  exact Nat.xor_lt_two_pow e1 e2
 have e:bits .xor .i64 a b=IntKind.wrap .i64 ((BitVec.ofInt 64 a ^^^ BitVec.ofInt 64 b).toNat:Int):=rfl
 rw [e,Loz (by omega) (by omega)]
 omega
abbrev UL (bs:List Int):List AV:=bs.map (AV.int .u8)
abbrev RD (bs:List Int)(p:Int):List AV:=[.rows false (UL bs) bs.length,.int .i64 p]
def okB (bs:List Int):Prop:=bs.length≤2000∧∀ x∈bs,0≤x∧x≤255
theorem okB_at {bs:List Int}(h:okB bs){i:Nat}(hi:i<bs.length):0≤bs.getD i 0∧bs.getD i 0≤255:=h.2 _ (Ddz hi)
theorem Dgz {x n:Int}(hx:0≤x)(hn:0<n):0≤x.tmod n∧x.tmod n<n:=⟨Int.tmod_nonneg n hx,Int.tmod_lt_of_pos x hn⟩
def unI:List AV→List Int
 | []=>[]
 | .int _ n::r=>n::unI r
 | _::r=>0::unI r
theorem Jjz:unI []=[]:=rfl
theorem Hlz (k:IntKind)(n:Int)(r:List AV):unI (.int k n::r)=n::unI r:=rfl
theorem unI_IL (xs:List Int):unI (IL xs)=xs:=by
 induction xs with
 | nil=>rfl
 | cons x r ih=>show x::unI (IL r)=_;rw [ih]
attribute [simp] Jjz Hlz unI_IL
end VwM
namespace VwM
open Vw
open Go

end VwM
namespace VwM
open Vw
open Go

end VwM
namespace VwM
open Vw
open Go

theorem pr_append (xs ys:List Int):pr (xs++ys)=pr xs*pr ys:=by
 induction xs with
 | nil=>rw [List.nil_append,pr_nil,Int.one_mul]
 | cons x r ih=>rw [List.cons_append,L9z,L9z,ih,Int.mul_assoc]
end VwM
namespace VwM
open Vw
open Go

def wo (xs:List Int)(k:Nat):List Int:=xs.take k++xs.drop (k+1)
theorem wo_length {xs:List Int}{k:Nat}(h:k<xs.length):(wo xs k).length=xs.length-1:=by simp [wo];omega
theorem wo_mem {xs:List Int}{k:Nat}{x:Int}(h:x∈wo xs k):x∈xs:=by
 rcases List.mem_append.1 h with h|h
 ·exact List.mem_of_mem_take h
 ·exact List.mem_of_mem_drop h
theorem pr_wo {xs:List Int}{k:Nat}(h:k<xs.length):pr xs=pr (wo xs k)*xs.getD k 0:=by
 unfold wo
 rw [pr_append,show pr xs=pr (xs.take k++xs.drop k) by rw [List.take_append_drop],pr_append,pr_drop xs k h]
 rw [Int.mul_assoc,Int.mul_comm (xs.getD k 0)]
theorem good4_wo {xs:List Int}(h:good4 xs)(k:Nat)(hk:k<xs.length):good4 (wo xs k):=⟨fun x hx=>h.1 x (wo_mem hx),by rw [wo_length hk];have:=h.2;omega⟩
end VwM
namespace VwM
open Vw
open Go

end VwM
namespace VwM
open Vw
open Go

end VwM
namespace VwM
open Vw
open Go

def MVB (v:Bool)(b:Int):Int:=if v=true then b else 0
def MVL (v:Bool)(l:List Int):List Int:=if v=true then l else []
theorem Dpz (b:Int):MVB true b=b:=rfl
theorem Dvz (b:Int):MVB false b=0:=rfl
theorem MVL_true (l:List Int):MVL true l=l:=rfl
theorem MVL_false (l:List Int):MVL false l=[]:=rfl
abbrev MV (v:Bool)(b:Int)(sh st:List Int):AV→List (List AV)→Prop:=fun r H' =>
 r=.tup [.agg [.int .i64 (MVB v b),.own 0 (MVL v sh).length 1,.own 1 (MVL v st).length 1],.bool v]∧H'=[IL (MVL v sh),IL (MVL v st)]

def cutK (n f t w:Int)(hf ht:Bool):Nat:=cntN (sFrom f n w hf) (sTo t n w ht) w
def cutSh (sh:List Int)(j:Nat)(f t w:Int)(hf ht:Bool):List Int:=sh.set j (cutK (sh.getD j 0) f t w hf ht)
def cutX (sh st:List Int)(j:Nat)(f t w:Int)(hf ht:Bool):Int:=if (cutK (sh.getD j 0) f t w hf ht:Int)≤1 then 0 else pC w (cutK (sh.getD j 0) f t w hf ht)*st.getD j 0
def cutSt (sh st:List Int)(j:Nat)(f t w:Int)(hf ht:Bool):List Int :=
 if pr (cutSh sh j f t w hf ht)=0 then List.replicate sh.length 0 else st.set j (cutX sh st j f t w hf ht)
def cutB (b:Int)(sh st:List Int)(j:Nat)(f t w:Int)(hf ht:Bool):Int :=
 if pr (cutSh sh j f t w hf ht)=0 then 0 else b+pS (sFrom f (sh.getD j 0) w hf) (cutK (sh.getD j 0) f t w hf ht)*st.getD j 0
theorem B0z (sh:List Int)(j:Nat)(f t w:Int)(hf ht:Bool):(cutSh sh j f t w hf ht).length=sh.length:=by simp [cutSh]
theorem Gbz {sh st:List Int}(hl:st.length=sh.length)(j:Nat)(f t w:Int)(hf ht:Bool):(cutSt sh st j f t w hf ht).length=sh.length:=by
 unfold cutSt;split<;>simp [hl]
theorem Msz {n f t w:Int}{hf ht:Bool}(hn:0≤n∧n≤60)(hs:vS f t w hf ht=true):(cutK n f t w hf ht:Int)≤n:=by
 have hw:=(Iaz.1 hs).2.2.2.1
 match hk:cutK n f t w hf ht with
 | 0=>omega
 | k+1 =>
  have a:=idx_in hn hs (i:=k) (show k<cutK n f t w hf ht by omega)
  have b:=idx_in hn hs (i:=0) (show 0<cutK n f t w hf ht by omega)
  simp only [Int.natCast_zero,Int.zero_mul,Int.add_zero] at b
  rcases Int.lt_or_le w 0 with h|h
  ·have:(k:Int)*w≤(k:Int)*(-1):=Int.mul_le_mul_of_nonneg_left (by omega) (by omega)
   omega
  ·have:(k:Int)*1≤(k:Int)*w:=Int.mul_le_mul_of_nonneg_left (by omega) (by omega)
   omega
theorem good4_set {sh:List Int}(hg:good4 sh)(j:Nat){x:Int}(hx:0≤x∧x≤60):good4 (sh.set j x) :=
 ⟨fun y hy=>by
  rcases List.mem_or_eq_of_mem_set hy with h|h
  ·exact hg.1 y h
  ·omega,by simp;exact hg.2⟩
theorem Kbz {sh:List Int}(hg:good4 sh){j:Nat}(hj:j<sh.length){f t w:Int}{hf ht:Bool}(hs:vS f t w hf ht=true):good4 (cutSh sh j f t w hf ht):=by
 have hn:=Clz hg hj
 have:=Msz hn hs
 exact good4_set hg j (by omega)
end VwM
namespace VwM
open Vw
open Go

theorem Jbz {f:Nat→Int}{st:List Int}:∀ n,(∀ i,i<n→f i=0)→dot f st n=0
 | 0,_=>rfl
 | n+1,h=>by simp only [dot];rw [Jbz n fun i hi=>h i (by omega),h n (by omega)];simp
end VwM
namespace VwM
open Vw
open Go

theorem take2 (xs:List Int)(off:Nat)(h:off+2≤xs.length):((xs.map (AV.int .i64)).drop off).take 2=[.int .i64 (xs.getD off 0),.int .i64 (xs.getD (off+1) 0)]:=by
 rw [List.drop_eq_getElem_cons (by simp;omega),List.drop_eq_getElem_cons (by simp;omega)]
 have h1:off<xs.length:=by omega
 have h2:off+1<xs.length:=by omega
 simp [h1,h2,List.getD]
theorem take2_0 (xs:List Int)(h:2≤xs.length):(xs.map (AV.int .i64)).take 2=[.int .i64 (xs.getD 0 0),.int .i64 (xs.getD 1 0)]:=by
 have:=take2 xs 0 (by omega)
 rwa [List.drop_zero] at this
attribute [push_cast] take2 take2_0
theorem A6z (xs:List Int)(o:Nat)(a b:Int):setRange (xs.map (AV.int .i64)) o [.int .i64 a,.int .i64 b]=IL ((xs.set o a).set (o+1) b):=by
 simp [setRange,List.map_set]
theorem snoc2 (xs:List Int)(a b:Int):xs.map (AV.int .i64)++[.int .i64 a,.int .i64 b]=IL (xs++[a,b]):=by simp
def dm:List Int→List Int→List Int
 | e::sh,s::st=>e::s::dm sh st
 | _,_=>[]
theorem Ctz:∀ {sh st:List Int},st.length=sh.length→(dm sh st).length=sh.length*2
 | [],[],_=>rfl
 | e::sh,s::st,h=>by
  have:=Ctz (sh:=sh) (st:=st) (by simpa using h)
  simp only [dm,List.length_cons,this]
  omega
 | [],_::_,h=>by simp at h
 | _::_,[],h=>by simp at h
theorem dm_even:∀ {sh st:List Int} {k:Nat},k<sh.length→st.length=sh.length→(dm sh st).getD (k*2) 0=sh.getD k 0
 | e::sh,s::st,0,_,_=>rfl
 | e::sh,s::st,k+1,h,hl=>by
  have:=dm_even (sh:=sh) (st:=st) (k:=k) (by simpa using h) (by simpa using hl)
  rw [show (k+1)*2=k*2+1+1 by omega]
  simpa [dm,List.getD] using this
 | [],_,_,h,_=>by simp at h
 | _::_,[],_,_,h=>by simp at h
theorem dm_odd:∀ {sh st:List Int} {k:Nat},k<sh.length→st.length=sh.length→(dm sh st).getD (k*2+1) 0=st.getD k 0
 | e::sh,s::st,0,_,_=>rfl
 | e::sh,s::st,k+1,h,hl=>by
  have:=dm_odd (sh:=sh) (st:=st) (k:=k) (by simpa using h) (by simpa using hl)
  rw [show (k+1)*2+1=k*2+1+1+1 by omega]
  simpa [dm,List.getD] using this
 | [],_,_,h,_=>by simp at h
 | _::_,[],_,_,h=>by simp at h
theorem dm_snoc:∀ {sh st:List Int} (e s:Int),st.length=sh.length→dm sh st++[e,s]=dm (sh++[e]) (st++[s])
 | [],[],_,_,_=>rfl
 | a::sh,b::st,e,s,h=>by
  have:=dm_snoc (sh:=sh) (st:=st) e s (by simpa using h)
  simp [dm,this]
 | [],_::_,_,_,h=>by simp at h
 | _::_,[],_,_,h=>by simp at h
theorem dm_set:∀ {sh st:List Int} {k:Nat} (e s:Int),k<sh.length→st.length=sh.length→((dm sh st).set (k*2) e).set (k*2+1) s=dm (sh.set k e) (st.set k s)
 | a::sh,b::st,0,_,_,_,_=>rfl
 | a::sh,b::st,k+1,e,s,h,hl=>by
  have:=dm_set (sh:=sh) (st:=st) (k:=k) e s (by simpa using h) (by simpa using hl)
  rw [show (k+1)*2=k*2+1+1 by omega]
  simpa [dm] using this
 | [],_,_,_,_,h,_=>by simp at h
 | _::_,[],_,_,_,_,h=>by simp at h
theorem dm_take {sh st:List Int}{k:Nat}(h:k<sh.length)(hl:st.length=sh.length):dm (sh.take k) (st.take k)++[sh.getD k 0,st.getD k 0]=dm (sh.take (k+1)) (st.take (k+1)):=by
 rw [dm_snoc _ _ (by simp;omega),B1z _ _ h,B1z _ _ (by omega)]
theorem zcells2_1:zcells [AV.int .i64 0,.int .i64 0] 1=[AV.int .i64 0,.int .i64 0]:=rfl
attribute [push_cast] zcells2_1
def dmS (e s:Int):Int:=if e<2 then 0 else s
end VwM
namespace VwM
open Vw
open Go

end VwM
namespace VwM
open Vw
open Go

def at4 (a b c d:Int):Nat→Int
 | 0=>a
 | 1=>b
 | 2=>c
 | 3=>d
 | _=>0
end VwM
namespace VwM
open Vw
open Go

theorem dot_setst {f:Nat→Int}{st:List Int}{j:Nat}{X:Int}(hj:j<st.length):∀ n,dot f (st.set j X) n=dot f st n+(if j<n then f j*(X-st.getD j 0) else 0)
 | 0=>by simp [dot]
 | n+1=>by
  simp only [dot]
  rw [dot_setst hj n]
  by_cases e:j=n
  ·subst e
   rw [if_neg (by omega),if_pos (by omega)]
   have:(st.set j X).getD j 0=X:=by simp [List.getD,hj]
   rw [this,Int.mul_sub]
   omega
  ·have:(st.set j X).getD n 0=st.getD n 0:=by simp [List.getD,List.getElem?_set,e]
   rw [this]
   by_cases hd:j<n
   ·rw [if_pos hd,if_pos (by omega)];omega
   ·rw [if_neg hd,if_neg (by omega)];omega
def updF (f:Nat→Int)(j:Nat)(y:Int):Nat→Int:=fun i=>if i=j then y else f i
theorem Jcz {f:Nat→Int}{st:List Int}{j:Nat}{y:Int}:∀ n,dot (updF f j y) st n=dot f st n+(if j<n then (y-f j)*st.getD j 0 else 0)
 | 0=>by simp [dot]
 | n+1=>by
  simp only [dot]
  rw [Jcz n]
  by_cases e:j=n
  ·subst e
   rw [if_neg (by omega),if_pos (by omega),updF,if_pos rfl,Int.sub_mul]
   omega
  ·have e':updF f j y n=f n:=by unfold updF;rw [if_neg fun h=>e h.symm]
   rw [e']
   by_cases hd:j<n
   ·rw [if_pos hd,if_pos (by omega)];omega
   ·rw [if_neg hd,if_neg (by omega)];omega
theorem pr_set_le {sh:List Int}(hg:good4 sh){j:Nat}(hj:j<sh.length){x:Int}(h0:0≤x)(hx:x≤sh.getD j 0):pr (sh.set j x)≤pr sh:=by
 have h1:=pr_wo hj
 have h2:=pr_wo (xs:=sh.set j x) (k:=j) (by simpa using hj)
 have e1:wo (sh.set j x) j=wo sh j:=by
  unfold wo
  rw [List.take_set,List.drop_set,if_pos (by omega),List.set_eq_of_length_le (by simp;omega)]
 have e2:(sh.set j x).getD j 0=x:=by simp [List.getD,hj]
 rw [e1,e2] at h2
 rw [h1,h2]
 exact Int.mul_le_mul_of_nonneg_left hx (Dmz (good4_wo hg j hj)).1
section
variable {b:Int} {sh st:List Int} {j:Nat} {f t w:Int} {hf ht:Bool}
def cutIx (sh:List Int)(j:Nat)(f w:Int)(hf:Bool)(g:Nat→Int):Nat→Int:=updF g j (sFrom f (sh.getD j 0) w hf+g j*w)
theorem Jdz (hj:j<sh.length):(cutSh sh j f t w hf ht).getD j 0=(cutK (sh.getD j 0) f t w hf ht:Int):=by simp [cutSh,List.getD,hj]
theorem cutSh_ne {i:Nat}(h:i≠j):(cutSh sh j f t w hf ht).getD i 0=sh.getD i 0:=by
 have h':¬ j=i:=fun e=>h e.symm
 simp [cutSh,List.getD,List.getElem?_set,h']
theorem cutIx_ix (hv:vV b sh st=true)(hj:j<sh.length)(hs:vS f t w hf ht=true){g:Nat→Int}(hg:isIx (cutSh sh j f t w hf ht) g):isIx sh (cutIx sh j f w hf g):=fun i hi=>by
 have hgd:=(Cbz (Cmz.1 hv).1).1
 have hn:=Clz hgd hj
 have:=hg i (by rw [B0z];exact hi)
 by_cases e:i=j
 ·subst e
  rw [Jdz hj] at this
  have h2:=idx_in hn hs (i:=(g i).toNat) (by show _<cutK _ _ _ _ _ _;omega)
  rw [show (((g i).toNat:Nat):Int)=g i by omega] at h2
  simp only [cutIx,updF,if_true]
  omega
 ·rw [cutSh_ne e] at this
  simp only [cutIx,updF,if_neg e]
  exact this
theorem cut_one (hv:vV b sh st=true)(hj:j<sh.length)(hs:vS f t w hf ht=true)(hz:¬ pr (cutSh sh j f t w hf ht)=0):1≤cutK (sh.getD j 0) f t w hf ht:=by
 rcases Nat.eq_zero_or_pos (cutK (sh.getD j 0) f t w hf ht) with h|h
 ·exact absurd (pr_zero (xs:=cutSh sh j f t w hf ht) (by rw [B0z];exact hj) (by rw [Jdz hj,h];rfl)) hz
 ·exact h
theorem cut_dot (hv:vV b sh st=true)(hj:j<sh.length)(hs:vS f t w hf ht=true)(hz:¬ pr (cutSh sh j f t w hf ht)=0){g:Nat→Int}(hg:isIx (cutSh sh j f t w hf ht) g) :
  cutB b sh st j f t w hf ht+dot g (cutSt sh st j f t w hf ht) sh.length=b+dot (cutIx sh j f w hf g) st sh.length:=by
 have hl:=(Dyz.1 (Cmz.1 hv).2.1).1
 have h1:=cut_one hv hj hs hz
 have hgj:=hg j (by rw [B0z];exact hj)
 rw [Jdz hj] at hgj
 rw [cutB,if_neg hz,cutSt,if_neg hz,dot_setst (by omega),if_pos hj,cutIx,Jcz,if_pos hj]
 have e1:pS (sFrom f (sh.getD j 0) w hf) (cutK (sh.getD j 0) f t w hf ht)=sFrom f (sh.getD j 0) w hf:=by unfold pS;rw [if_neg (by omega)]
 rw [e1]
 unfold cutX
 by_cases h2:(cutK (sh.getD j 0) f t w hf ht:Int)≤1
 ·have e0:g j=0:=by omega
  rw [if_pos h2,e0,Int.zero_mul,Int.zero_mul,Int.add_zero,Int.sub_zero]
  have q0:(sFrom f (sh.getD j 0) w hf+0)*st.getD j 0=sFrom f (sh.getD j 0) w hf*st.getD j 0:=by rw [Int.add_zero]
  try rw [q0]
  omega
 ·have e2:pC w (cutK (sh.getD j 0) f t w hf ht)=w:=by unfold pC;rw [if_neg (by omega)]
  rw [if_neg h2,e2]
  have q1:(sFrom f (sh.getD j 0) w hf+g j*w-g j)*st.getD j 0=sFrom f (sh.getD j 0) w hf*st.getD j 0+g j*(w*st.getD j 0)-g j*st.getD j 0:=by rw [Int.sub_mul,Int.add_mul,Int.mul_assoc]
  have q2:g j*(w*st.getD j 0-st.getD j 0)=g j*(w*st.getD j 0)-g j*st.getD j 0:=Int.mul_sub _ _ _
  rw [q1,q2]
  omega
theorem vV_cut (hv:vV b sh st=true)(hj:j<sh.length)(hs:vS f t w hf ht=true):vV (cutB b sh st j f t w hf ht) (cutSh sh j f t w hf ht) (cutSt sh st j f t w hf ht)=true:=by
 obtain ⟨h1,h2,h3,h4⟩:=Cmz.1 hv
 have hgd:=(Cbz h1)
 have hn:=Clz hgd.1 hj
 have hk:=Msz hn hs
 have hg:=Kbz hgd.1 hj hs
 have hl:=(Dyz.1 h2).1
 have hp:pr (cutSh sh j f t w hf ht)≤60:=by
  have:=pr_set_le (x:=(cutK (sh.getD j 0) f t w hf ht:Int)) hgd.1 hj (by omega) hk
  unfold cutSh
  omega
 have hsh:vSh (cutSh sh j f t w hf ht)=true:=by
  unfold vSh
  simp [hg.2,hp,Cxz.2 hg.1]
 by_cases hz:pr (cutSh sh j f t w hf ht)=0
 ·have e1:cutB b sh st j f t w hf ht=0:=if_pos hz
  have e2:cutSt sh st j f t w hf ht=List.replicate sh.length 0:=if_pos hz
  rw [e1,e2]
  refine Cmz.2 ⟨hsh,Dyz.2 ⟨by simp [B0z],fun x hx=>?_⟩,by omega,.inl hz⟩
  rw [List.eq_of_mem_replicate hx];omega
 ·have hcells:∀ g,isIx (cutSh sh j f t w hf ht) g→0≤cutB b sh st j f t w hf ht+dot g (cutSt sh st j f t w hf ht) sh.length∧cutB b sh st j f t w hf ht+dot g (cutSt sh st j f t w hf ht) sh.length≤59:=fun g hgx=>by
   rw [cut_dot hv hj hs hz hgx]
   exact vV_cells hv _ ((Cqz hgd.1).2 ⟨_,cutIx_ix hv hj hs hgx,rfl⟩)
  have hpos:=D5z hg (by have:=(Dmz hg).1;omega)
  have hz0:isIx (cutSh sh j f t w hf ht) fun _=>0:=fun i hi=>by
   have:=hpos i hi
   show (0:Int)≤0∧(0:Int)<_
   omega
  have c0:=hcells _ hz0
  rw [Jbz _ fun _ _=>rfl] at c0
  refine Cmz.2 ⟨hsh,Dyz.2 ⟨by rw [Gbz hl,B0z],fun x hx=>?_⟩,by omega,.inr fun x hx=>?_⟩
  ·rw [cutSt,if_neg hz] at hx
   rcases List.mem_or_eq_of_mem_set hx with hx|rfl
   ·exact (Dyz.1 h2).2 x hx
   ·by_cases h2':(cutK (sh.getD j 0) f t w hf ht:Int)≤1
    ·unfold cutX;rw [if_pos h2'];omega
    ·have hu:isIx (cutSh sh j f t w hf ht) (updF (fun _=>0) j 1):=fun i hi=>by
      have:=hpos i hi
      by_cases e:i=j
      ·subst e
       rw [Jdz hj]
       simp only [updF,if_true]
       omega
      ·simp only [updF,if_neg e]
       omega
     have c1:=hcells _ hu
     rw [Jcz,if_pos hj,Jbz _ fun _ _=>rfl] at c1
     have e3:(cutSt sh st j f t w hf ht).getD j 0=cutX sh st j f t w hf ht:=by
      rw [cutSt,if_neg hz]
      simp [List.getD,hl,hj]
     rw [e3] at c1
     omega
  ·obtain ⟨g,hgx,rfl⟩:=(Cqz hg).1 hx
   rw [B0z]
   exact hcells g hgx
end
theorem at4_0 (s:Int):∀ i,at4 s 0 0 0 i=if i=0 then s else 0
 | 0=>rfl
 | 1=>rfl
 | 2=>rfl
 | 3=>rfl
 | _+4=>rfl
theorem at4_1 (s:Int):∀ i,at4 0 s 0 0 i=if i=1 then s else 0
 | 0=>rfl
 | 1=>rfl
 | 2=>rfl
 | 3=>rfl
 | _+4=>rfl
theorem at4_2 (s:Int):∀ i,at4 0 0 s 0 i=if i=2 then s else 0
 | 0=>rfl
 | 1=>rfl
 | 2=>rfl
 | 3=>rfl
 | _+4=>rfl
theorem at4_3 (s:Int):∀ i,at4 0 0 0 s i=if i=3 then s else 0
 | 0=>rfl
 | 1=>rfl
 | 2=>rfl
 | 3=>rfl
 | _+4=>rfl
def stB (D:List Int)(X:Int):Int:=if pr D=0 then 0 else X
def stE (D E:List Int):List Int:=if pr D=0 then List.replicate D.length 0 else E
theorem dot_pt {p:Nat→Int}{st:List Int}{j n:Nat}{s:Int}(hp:∀ i,p i=if i=j then s else 0)(hj:j<n):dot p st n=s*st.getD j 0:=by
 rw [E0z (g:=updF (fun _=>0) j s) fun i _=>by rw [hp i];rfl,Jcz,if_pos hj,Jbz _ fun _ _=>rfl]
 have:(s-(fun _:Nat=>(0:Int)) j)=s:=by show s-0=s;omega
 rw [this]
 omega
theorem Fnz {b:Int}{sh st:List Int}{j:Nat}{f t w:Int}{hf ht:Bool}(hv:vV b sh st=true)(hj:j<sh.length)(hs:vS f t w hf ht=true){p:Nat→Int}(hp:∀ i,p i=if i=j then sFrom f (sh.getD j 0) w hf else 0) :
  (st.length≤4∧(-1000000≤b∧b≤1000000)∧∀ i,i<st.length→(-60≤p i∧p i≤60)∧-12960000≤st.getD i 0∧st.getD i 0≤12960000) ∧
  good4 (sh.set j (cutK (sh.getD j 0) f t w hf ht:Int)) ∧
  stB (sh.set j (cutK (sh.getD j 0) f t w hf ht:Int)) (b+dot p st st.length)=cutB b sh st j f t w hf ht ∧
  stE (sh.set j (cutK (sh.getD j 0) f t w hf ht:Int)) (st.set j (dmS (cutK (sh.getD j 0) f t w hf ht) (st.getD j 0*w)))=cutSt sh st j f t w hf ht:=by
 obtain ⟨h1,h2,h3,h4⟩:=Cmz.1 hv
 have hgd:=(Cbz h1).1
 have hn:=Clz hgd hj
 have hl:=(Dyz.1 h2).1
 have hg4:=hgd.2
 have hsb:=Jnz (f:=f) (b:=w) (hf:=hf) hn
 refine ⟨⟨by omega,by omega,fun i hi=>⟨?_,?_⟩⟩,Kbz hgd hj hs,?_,?_⟩
 ·rw [hp i];split<;>omega
 ·have:=K0z h2 (i:=i) (by omega);omega
 ·rw [dot_pt hp (by omega)]
  unfold stB cutB
  by_cases hz:pr (cutSh sh j f t w hf ht)=0
  ·have hz':pr (sh.set j (cutK (sh.getD j 0) f t w hf ht:Int))=0:=hz
   rw [if_pos hz,if_pos hz']
  ·have hz':¬ pr (sh.set j (cutK (sh.getD j 0) f t w hf ht:Int))=0:=hz
   have h1:=cut_one hv hj hs hz
   rw [if_neg hz,if_neg hz']
   have e1:pS (sFrom f (sh.getD j 0) w hf) (cutK (sh.getD j 0) f t w hf ht)=sFrom f (sh.getD j 0) w hf:=by unfold pS;rw [if_neg (by omega)]
   rw [e1]
 ·unfold stE cutSt
  by_cases hz:pr (cutSh sh j f t w hf ht)=0
  ·have hz':pr (sh.set j (cutK (sh.getD j 0) f t w hf ht:Int))=0:=hz
   rw [if_pos hz,if_pos hz',List.length_set]
  ·have hz':¬ pr (sh.set j (cutK (sh.getD j 0) f t w hf ht:Int))=0:=hz
   rw [if_neg hz,if_neg hz']
   congr 1
   unfold dmS cutX
   by_cases h2':(cutK (sh.getD j 0) f t w hf ht:Int)≤1
   ·rw [if_pos h2',if_pos (by omega)]
   ·have e2:pC w (cutK (sh.getD j 0) f t w hf ht)=w:=by unfold pC;rw [if_neg (by omega)]
    rw [if_neg h2',if_neg (by omega),e2,Int.mul_comm]
theorem cutK_cast {n f t w:Int}{hf ht:Bool}(hn:0≤n∧n≤60)(hs:vS f t w hf ht=true):cntI (sFrom f n w hf) (sTo t n w ht) w=(cutK n f t w hf ht:Int):=(Klz (Giz hn hs)).symm
end VwM
namespace VwM
open Vw
open Go

def takesL (xs at_:List Int):List Int:=at_.map fun i=>xs.getD i.toNat 0
end VwM
namespace VwM
open Vw Go

def vMem (mem:List Int):Bool:=decide (mem.length≤60)&&allI mem 0 255
theorem Cnz {mem:List Int}:vMem mem=true↔mem.length≤60∧∀ x∈mem,0≤x∧x≤255:=by
 simp only [vMem,Bool.and_eq_true,decide_eq_true_eq,Cxz]
def seeB (mem:List Int)(b:Int)(sh st:List Int):Bool:=vMem mem&&vV b sh st&&allI (offs b sh st) 0 ((mem.length:Int)-1)
theorem D2z {mem:List Int}{b:Int}{sh st:List Int}:seeB mem b sh st=true↔vMem mem=true∧vV b sh st=true∧∀ x∈offs b sh st,0≤x∧x≤(mem.length:Int)-1:=by
 simp only [seeB,Bool.and_eq_true,Cxz,and_assoc]
theorem Jmz {mem:List Int}{b:Int}{sh st:List Int}(h:seeB mem b sh st=true){k:Nat}(hk:k<(offs b sh st).length):0≤(offs b sh st).getD k 0∧(offs b sh st).getD k 0≤(mem.length:Int)-1 :=
 (D2z.1 h).2.2 _ (Ddz hk)


def wdt (sh st:List Int):Nat:=if sh.length=0 then 1 else if st.getD (sh.length-1) 0=1 then (sh.getD (sh.length-1) 0).toNat else 1

theorem pr_last {sh:List Int}(h:sh.length≠0):pr sh=pr (sh.take (sh.length-1))*sh.getD (sh.length-1) 0:=by
 have:=Edz sh (sh.length-1) (by omega)
 rw [show sh.length-1+1=sh.length by omega,List.take_length] at this
 exact this
theorem wdt_dvd {sh st:List Int}(hg:good4 sh):wdt sh st ∣ (pr sh).toNat:=by
 unfold wdt
 split
 ·exact Nat.one_dvd _
 ·rename_i h
  split
  ·have h1:=Clz hg (k:=sh.length-1) (by omega)
   have h2:=(Dmz (Imz hg (sh.length-1))).1
   refine ⟨(pr (sh.take (sh.length-1))).toNat,?_⟩
   rw [pr_last h,Int.toNat_mul h2 h1.1,Nat.mul_comm]
  ·exact Nat.one_dvd _
theorem wdt_pos {sh st:List Int}(hg:good4 sh)(h:1≤pr sh):1≤wdt sh st:=by
 unfold wdt
 split
 ·omega
 ·rename_i h0
  split
  ·have:=D5z hg h (sh.length-1) (by omega)
   omega
  ·omega
theorem wdt_le {sh st:List Int}(hg:good4 sh):wdt sh st≤60:=by
 unfold wdt
 split
 ·omega
 ·split
  ·have:=Clz hg (k:=sh.length-1) (by omega)
   omega
  ·omega
theorem kS_row {sh:List Int}{e q j:Nat}(he:sh.getD (sh.length-1) 0=(e:Int))(hj:j<e):∀ m,1≤m→kS sh ((q*e+j:Nat):Int) m=kS sh ((q*e:Nat):Int) m
 | 0,h=>by omega
 | 1,_=>by
  simp only [kS,Nat.sub_zero,he]
  rw [← Int.ofNat_tdiv,← Int.ofNat_tdiv]
  congr 1
  rw [Nat.mul_div_cancel _ (by omega:0<e),Nat.mul_comm,Nat.mul_add_div (by omega:0<e),Nat.div_eq_of_lt hj,Nat.add_zero]
 | m+2,_=>by
  have ih:=kS_row (q:=q) he hj (m+1) (by omega)
  simp only [kS] at ih ⊢
  rw [ih]
theorem cell_rowW {b:Int}{sh st:List Int}{k j:Nat}(hk:wdt sh st ∣ k)(hj:j<wdt sh st):cellK b sh st ((k+j:Nat):Int)=cellK b sh st (k:Int)+(j:Int):=by
 unfold wdt at hk hj
 split at hk
 ·rename_i h;rw [if_pos h] at hj
  have:j=0:=by omega
  subst this;simp
 ·rename_i h
  rw [if_neg h] at hj
  split at hk
  ·rename_i h1
   rw [if_pos h1] at hj
   obtain ⟨q,rfl⟩:=hk
   obtain ⟨e,he⟩:∃ e:Nat,sh.getD (sh.length-1) 0=(e:Int):=⟨(sh.getD (sh.length-1) 0).toNat,by omega⟩
   rw [he,Int.toNat_natCast] at hj ⊢
   rw [Nat.mul_comm e q]
   obtain ⟨n,hn⟩:∃ n,sh.length=n+1:=⟨sh.length-1,by omega⟩
   unfold cellK
   rw [hn]
   simp only [dot]
   have hn1:sh.length-1=n:=by omega
   rw [hn1] at he h1
   rw [h1]
   have d1:dot (dig sh ((q*e+j:Nat):Int)) st n=dot (dig sh ((q*e:Nat):Int)) st n:=E0z fun i hi=>by
    unfold dig
    rw [kS_row (q:=q) (by rw [hn1];exact he) hj _ (by omega)]
   have d2:dig sh ((q*e+j:Nat):Int) n=(j:Int):=by
    unfold dig
    rw [show sh.length-1-n=0 by omega,he]
    simp only [kS]
    rw [← Int.ofNat_tmod,Nat.add_comm,Nat.add_mul_mod_self_right,Nat.mod_eq_of_lt hj]
   have d3:dig sh ((q*e:Nat):Int) n=0:=by
    unfold dig
    rw [show sh.length-1-n=0 by omega,he]
    simp only [kS]
    rw [← Int.ofNat_tmod,Nat.mul_mod_left]
    rfl
   rw [d1,d2,d3]
   omega
  ·rename_i h1
   rw [if_neg h1] at hj
   have:j=0:=by omega
   subst this;simp
theorem row_end {w n k:Nat}(hw:1≤w)(hd:w ∣ n)(hk:w ∣ k)(h:k<n):k+w≤n:=by
 obtain ⟨q,rfl⟩:=hd
 obtain ⟨r,rfl⟩:=hk
 have:r<q:=Nat.lt_of_mul_lt_mul_left h
 have h2:w*(r+1)≤w*q:=Nat.mul_le_mul_left w (by omega)
 rw [Nat.mul_add,Nat.mul_one] at h2
 exact h2
theorem offs_rowW {b:Int}{sh st:List Int}(hg:good4 sh){k j:Nat}(hk:wdt sh st ∣ k)(hj:j<wdt sh st)(h:k<(pr sh).toNat):(offs b sh st).getD (k+j) 0=(offs b sh st).getD k 0+(j:Int):=by
 have hw:1≤wdt sh st:=by omega
 have he:=row_end hw (wdt_dvd (st:=st) hg) hk h
 rw [offs_getD (by omega),offs_getD h,cell_rowW hk hj]


theorem takesL_length (xs at_:List Int):(takesL xs at_).length=at_.length:=by simp [takesL]
theorem takesL_getD {xs at_:List Int}{k:Nat}(h:k<at_.length):(takesL xs at_).getD k 0=xs.getD (at_.getD k 0).toNat 0:=by simp [takesL,List.getD,h]
theorem Hmz (xs at_:List Int):filled (fun k=>xs.getD (at_.getD k 0).toNat 0) at_.length at_.length=takesL xs at_:=by
 refine Goz (by simp [filled,takesL]) fun j hj=>?_
 have hj':j<at_.length:=by simpa [filled] using hj
 rw [takesL_getD hj']
 simp [filled,List.getD,hj']

theorem Fcz:∀ (l:List AV) (cs:List AV) (off:Nat) (x:AV),setRange cs off (l++[x])=(setRange cs off l).set (off+l.length) x
 | [],_,_,_=>by simp [setRange]
 | c::r,cs,off,x=>by
  simp only [List.cons_append,setRange,List.length_cons]
  rw [Fcz r]
  congr 1
  omega
theorem Gzz (xs:List Int)(k w:Nat)(h:k+w<xs.length):(xs.drop k).take (w+1)=(xs.drop k).take w++[xs.getD (k+w) 0]:=by
 rw [B1z _ _ (by simp;omega)]
 congr 2
 simp [List.getD,List.getElem?_drop]

def putK (mem cells vals:List Int):Nat→List Int
 | 0=>mem
 | k+1=>(putK mem cells vals k).set (cells.getD k 0).toNat (vals.getD k 0)
def putL (mem cells vals:List Int):List Int:=putK mem cells vals cells.length
theorem D4z (mem cells vals:List Int):∀ k,(putK mem cells vals k).length=mem.length
 | 0=>rfl
 | k+1=>by simp [putK,D4z mem cells vals k]
theorem C3z (mem cells vals:List Int):(putL mem cells vals).length=mem.length:=D4z _ _ _ _
theorem putK_row {mem cells vals:List Int}{k:Nat}:∀ w,k+w≤vals.length→(∀ j,j<w→(cells.getD (k+j) 0).toNat=(cells.getD k 0).toNat+j) →
  setRange ((putK mem cells vals k).map (AV.int .i64)) (cells.getD k 0).toNat (((vals.drop k).take w).map (AV.int .i64))=(putK mem cells vals (k+w)).map (AV.int .i64)
 | 0,_,_=>by simp [setRange]
 | w+1,hw,hc=>by
  rw [Gzz vals k w (by omega),List.map_append,List.map_cons,List.map_nil,Fcz,putK_row w (by omega) (fun j hj=>hc j (by omega))]
  rw [show k+(w+1)=(k+w)+1 by omega]
  simp only [putK]
  rw [hc w (by omega),List.map_set,List.length_map,List.length_take,List.length_drop,Nat.min_eq_left (by omega)]
theorem load_row {mem cells:List Int}{n k:Nat}:∀ w,k+w≤n→(cells.getD k 0).toNat+w≤mem.length→(∀ j,j<w→(cells.getD (k+j) 0).toNat=(cells.getD k 0).toNat+j) →
  setRange ((filled (fun k=>mem.getD (cells.getD k 0).toNat 0) n k).map (AV.int .i64)) k (((mem.drop (cells.getD k 0).toNat).take w).map (AV.int .i64))=(filled (fun k=>mem.getD (cells.getD k 0).toNat 0) n (k+w)).map (AV.int .i64)
 | 0,_,_,_=>by simp [setRange]
 | w+1,hw,hm,hc=>by
  rw [Gzz mem _ w (by omega),List.map_append,List.map_cons,List.map_nil,Fcz,load_row w (by omega) (by omega) (fun j hj=>hc j (by omega))]
  rw [show k+(w+1)=(k+w)+1 by omega,List.length_map,List.length_take,List.length_drop,Nat.min_eq_left (by omega),← hc w (by omega),← List.map_set]
  congr 1
  exact Lgz (fun k=>mem.getD (cells.getD k 0).toNat 0) n (k+w) (by omega)

theorem IL_td (k:IntKind)(xs:List Int)(a w:Nat):((xs.map (AV.int k)).drop a).take w=((xs.drop a).take w).map (AV.int k):=by rw [List.map_take,List.map_drop]

end VwM
namespace VwM
open Vw Go

theorem Mvz {k:Int}(h:0≤k∧k<4294967296):bits .and .u64 k 4294967295=k:=by
 obtain ⟨n,rfl⟩:∃ n:Nat,k=n:=⟨k.toNat,by omega⟩
 have hn:n<4294967296:=by omega
 have e1:(BitVec.ofInt 64 (n:Int) &&& BitVec.ofInt 64 4294967295).toNat=n:=by
  rw [BitVec.toNat_and,BitVec.toNat_ofInt,BitVec.toNat_ofInt]
  have h1:((n:Int) % ((2 ^ 64:Nat):Int)).toNat=n:=by omega
  have h2:((4294967295:Int) % ((2 ^ 64:Nat):Int)).toNat=2 ^ 32-1:=by decide
  rw [h1,h2,Nat.and_two_pow_sub_one_eq_mod]
  exact Nat.mod_eq_of_lt hn
 show IntKind.u64.wrap _=_
 have e2:(BitVec.ofInt IntKind.u64.bits (n:Int) &&& BitVec.ofInt IntKind.u64.bits 4294967295).toNat=n:=e1
 rw [e2,IntKind.wrap_u64]
 omega
theorem shr_small {k:Int}(h:0≤k∧k<4294967296):k.fdiv 4294967296=0:=by
 rw [Int.fdiv_eq_ediv_of_nonneg _ (by decide)]
 omega

def rpt (c:List Int):Nat→List Int
 | 0=>[]
 | n+1=>c++rpt c n
theorem B7z (c:List Int):∀ n,(rpt c n).length=n*c.length
 | 0=>by simp [rpt]
 | n+1=>by simp [rpt,B7z c n,Nat.add_mul];omega
theorem L3z (x:Int):∀ n,rpt [x] n=List.replicate n x
 | 0=>rfl
 | n+1=>by simp [rpt,L3z x n,List.replicate_succ]
theorem L4z (c:List Int):∀ n m,rpt c (n+m)=rpt c n++rpt c m
 | 0,m=>by simp [rpt]
 | n+1,m=>by rw [Nat.succ_add];simp [rpt,L4z c n m]
theorem rpt_take (c:List Int):∀ n m,m≤n→(rpt c n).take (m*c.length)=rpt c m
 | n,m,h=>by
  obtain ⟨d,rfl⟩:∃ d,n=m+d:=⟨n-m,by omega⟩
  rw [L4z,← B7z c m,List.take_left']
  rfl
def rpK (c z:List Int)(k n:Nat):List Int:=rpt c n++rpt z (k-n)
theorem rpK_length {c z:List Int}{k n:Nat}(hz:z.length=c.length)(h:n≤k):(rpK c z k n).length=k*c.length:=by
 rw [rpK,List.length_append,B7z,B7z,hz,← Nat.add_mul]
 congr 1;omega
theorem F0z:∀ (l a b d:List AV),l.length=b.length→setRange (a++(b++d)) a.length l=a++(l++d)
 | [],a,[],d,_=>rfl
 | x::l,a,y::b,d,h=>by
  simp only [setRange]
  have e:(a++(y::b++d)).set a.length x=(a++[x])++(b++d):=by
   rw [List.set_append_right _ _ (Nat.le_refl _)]
   simp
  rw [e]
  have:=F0z l (a++[x]) b d (by simpa using h)
  rw [List.length_append,List.length_singleton] at this
  rw [this]
  simp
 | [],_,_::_,_,h=>by simp at h
 | _::_,_,[],_,h=>by simp at h
theorem rpK_step {c z:List Int}{k n m:Nat}(hz:z.length=c.length)(h1:m≤n)(h2:n+m≤k) :
  setRange ((rpK c z k n).map (AV.int .i64)) (n*c.length) ((rpt c m).map (AV.int .i64))=(rpK c z k (n+m)).map (AV.int .i64):=by
 have e:rpK c z k n=rpt c n++(rpt z m++rpt z (k-(n+m))):=by
  rw [rpK,← L4z]
  congr 2;omega
 rw [e,List.map_append,List.map_append,← B7z c n,← (show ((rpt c n).map (AV.int .i64)).length=(rpt c n).length from List.length_map _),F0z _ _ _ _ (by simp [B7z,hz])]
 rw [rpK,L4z]
 simp
theorem rpK_take {c z:List Int}{k n m:Nat}(h1:m≤n):(rpK c z k n).take (m*c.length)=rpt c m:=by
 rw [rpK,List.take_append_of_le_length (by rw [B7z];exact Nat.mul_le_mul_right _ h1),rpt_take c n m h1]
theorem rpK_all (c z:List Int)(k:Nat):rpK c z k k=rpt c k:=by simp [rpK,rpt]
end VwM
namespace Vw
open Go
variable [Inhabited GlobT]

def fid (i:Nat):Nat:=1099511627776+i
theorem Moz (i j:Nat):(fid i=fid j)=(i=j):=by unfold fid;exact propext ⟨fun h=>by omega,fun h=>by omega⟩
theorem fid_ne (i n:Nat)(h:n<1099511627776):(fid i=n)=False:=by unfold fid;exact propext ⟨fun h=>by omega,False.elim⟩
theorem ne_fid (i n:Nat)(h:n<1099511627776):(n=fid i)=False:=by unfold fid;exact propext ⟨fun h=>by omega,False.elim⟩
theorem fid_div (i d:Nat)(h:d<68719476736):(fid i / 16=d)=False:=by unfold fid;exact propext ⟨fun h=>by omega,False.elim⟩
theorem fid_ge (i n:Nat)(h:n<1099511627776):(n≤fid i)=True:=by unfold fid;exact propext ⟨fun _=>trivial,fun _=>by omega⟩

def famL (f:Nat→List AV):Nat→List (Nat×List AV)
 | 0=>[]
 | n+1=>(fid n,f n)::famL f n
theorem J9z (f:Nat→List AV)(i:Nat):∀ n,hk (famL f n) (fid i)=if i<n then some (f i) else none
 | 0=>by simp [famL,hk]
 | n+1=>by
  simp only [famL,hk,Moz,J9z f i n]
  by_cases h:i=n
  ·subst h;simp
  ·rw [if_neg h]
   by_cases h':i<n
   ·rw [if_pos h',if_pos (by omega)]
   ·rw [if_neg h',if_neg (by omega)]
theorem J8z (f:Nat→List AV)(id:Nat)(h:id<1099511627776):∀ n,hk (famL f n) id=none
 | 0=>rfl
 | n+1=>by simp only [famL,hk,ne_fid n id h,if_false,J8z f id h n]
theorem Kdz (f:Nat→List AV)(d:Nat)(h:d<68719476736):∀ n,freshD (famL f n) d=True
 | 0=>rfl
 | n+1=>by simp only [famL,freshD,fid_div n d h,not_false_eq_true,Kdz f d h n,and_self]
theorem SubW.heq {pin:Nat}{σ:List (Nat×AV)}{H H':List (Nat×List AV)}{s':S}(h:∀ id,hk H' id=hk H id)(k:SubW pin (mkS σ H') s'):SubW pin (mkS σ H) s':=by
 have e:mkS σ H=mkS σ H':=by unfold mkS;congr 1;funext id;exact (h id).symm
 rw [e];exact k
theorem Icz (a b:Nat):swp a b a=b:=by simp [swp]
theorem Ltz (a b:Nat):swp a b b=a:=by unfold swp;split<;>simp_all
theorem Bez {a b c:Nat}(h1:c≠a)(h2:c≠b):swp a b c=c:=by simp [swp,h1,h2]
attribute [push_cast] Moz fid_ne ne_fid fid_div fid_ge J9z J8z Kdz
end Vw
namespace Vw
open Go VwM
variable [Inhabited GlobT]

def row (C:Nat)(h:Nat→AV):List AV:=(List.range C).map h
theorem Etz (C:Nat)(h:Nat→AV):(row C h).length=C:=by simp [row]
theorem C2z (C:Nat)(h:Nat→AV)(φ:AV→AV):(row C h).map φ=row C fun p=>φ (h p):=by simp [row,Function.comp_def]
theorem Bxz {C:Nat}{h g:Nat→AV}(e:∀ p,p<C→h p=g p):row C h=row C g:=by
 unfold row
 exact List.map_congr_left fun p hp=>e p (List.mem_range.1 hp)
theorem L5z (C:Nat)(h:Nat→AV)(p:Nat):(row C h)[p]?=if p<C then some (h p) else none:=by
 unfold row
 rw [List.getElem?_map]
 by_cases hp:p<C
 ·rw [if_pos hp,List.getElem?_range hp];rfl
 ·rw [if_neg hp,List.getElem?_eq_none (by simpa using hp)];rfl
theorem row_set (C:Nat)(h:Nat→AV)(p:Nat)(v:AV):(row C h).set p v=row C (upd h p v):=by
 apply List.ext_getElem?
 intro q
 rw [List.getElem?_set,L5z,L5z,Etz]
 by_cases e:p=q
 ·subst e;simp [A8z]
 ·rw [if_neg e,A7z _ _ _ _ (Ne.symm e)]
theorem row_ext {C:Nat}{L:List AV}{h:Nat→AV}(hl:L.length=C)(e:∀ p,p<C→L[p]?=some (h p)):L=row C h:=by
 apply List.ext_getElem?
 intro q
 rw [L5z]
 by_cases hq:q<C
 ·rw [if_pos hq,e q hq]
 ·rw [if_neg hq,List.getElem?_eq_none (by omega)]
theorem row_1 (C:Nat)(h:Nat→AV)(p:Nat)(hp:p+1≤C):((row C h).drop p).take 1=[h p]:=by
 apply List.ext_getElem?
 intro q
 rw [List.getElem?_take]
 match q with
 | 0=>rw [if_pos (by omega),List.getElem?_drop,L5z,if_pos (by omega)];rfl
 | q+1=>rw [if_neg (by omega)];rfl
theorem innL_row (P:Nat→Bool)(C:Nat)(h:Nat→AV)(e:∀ p,p<C→(h p).inn P=true):innL P (row C h)=true:=by
 have:∀ l:List Nat,(∀ p∈l,p<C)→innL P (l.map h)=true:=by
  intro l
  induction l with
  | nil=>intro _;rfl
  | cons a r ih =>
   intro hl
   simp only [List.map_cons,innL,Bool.and_eq_true]
   exact ⟨e a (hl a (by simp)),ih fun p hp=>hl p (by simp [hp])⟩
 exact this _ fun p hp=>List.mem_range.1 hp

structure Fam where
 C:Nat
 R:Nat
 pat:Nat→AV ⊕ Nat
 rows:Nat→List Int
 ok:∀ p j,p<C→pat p=.inr j→j<R
 cell:∀ p a,pat p=.inl a→(∃ k x,a=.int k x)∨∃ b,a=.bool b
def Fam.atG (F:Fam)(g:Nat→Nat)(p:Nat):AV:=match F.pat p with
 | .inl a=>a
 | .inr j=>.own (g j) (F.rows j).length 1
def Fam.atP (F:Fam)(b:Bool)(p:Nat):AV:=match F.pat p with
 | .inl a=>a
 | .inr j=>.rows b (IL (F.rows j)) (F.rows j).length
def Fam.cellsG (F:Fam)(g:Nat→Nat):List AV:=row F.C (F.atG g)
def Fam.plain (F:Fam)(b:Bool):List AV:=row F.C (F.atP b)
def Fam.conts (F:Fam):List (List AV):=(List.range F.R).map fun j=>IL (F.rows j)
theorem Fpz (F:Fam)(g:Nat→Nat):(F.cellsG g).length=F.C:=Etz ..
theorem plain_length (F:Fam)(b:Bool):(F.plain b).length=F.C:=Etz ..
theorem Gcz (F:Fam):F.conts.length=F.R:=by simp [Fam.conts]
structure Fam.like (F G:Fam):Prop where
 C:G.C=F.C
 R:G.R=F.R
 len:∀ j,j<F.R→(G.rows j).length=(F.rows j).length

def fim (d j:Nat):Nat:=fid (65536*j+d)
theorem Awz (d j n:Nat)(h:n<1099511627776):(fim d j=n)=False:=fid_ne _ _ h
theorem ne_fim (d j n:Nat)(h:n<1099511627776):(n=fim d j)=False:=ne_fid _ _ h
theorem Bkz {d i j:Nat}(h:fim d i=fim d j):i=j:=by unfold fim at h;rw [Moz] at h;omega
theorem B8z {d d' i j:Nat}(h1:d<65536)(h2:d'<65536)(h:fim d i=fim d' j):d=d':=by unfold fim at h;rw [Moz] at h;omega
theorem Mnz (d j n:Nat)(h:n<68719476736):(fim d j / 16=n)=False:=fid_div _ _ h
theorem Bqz (d j:Nat):1099511627776≤fim d j:=by unfold fim fid;omega

def famD (d:Nat)(F:Fam):List (Nat×List AV):=(List.range F.R).map fun j=>(fim d j,IL (F.rows j))
theorem Dkz (g:Nat→Nat)(f:Nat→List AV)(r:List (Nat×List AV))(id:Nat):∀ l:List Nat,(∀ j∈l,g j≠id)→hk (l.map (fun j=>(g j,f j))++r) id=hk r id
 | [],_=>rfl
 | a::l,h=>by
  simp only [List.map_cons,List.cons_append,hk]
  rw [if_neg (fun e=>h a (by simp) e.symm)]
  exact Dkz g f r id l fun j hj=>h j (by simp [hj])
theorem Doz (g:Nat→Nat)(hg:∀ i j,g i=g j→i=j)(f:Nat→List AV)(r:List (Nat×List AV))(i:Nat):∀ l:List Nat,i∈l→hk (l.map (fun j=>(g j,f j))++r) (g i)=some (f i)
 | [],h=>by cases h
 | a::l,h=>by
  simp only [List.map_cons,List.cons_append,hk]
  by_cases e:g i=g a
  ·rw [if_pos e,hg _ _ e]
  ·rw [if_neg e]
   rcases List.mem_cons.1 h with h|h
   ·exact absurd (by rw [h]) e
   ·exact Doz g hg f r i l h
theorem Bpz (d:Nat)(F:Fam)(r:List (Nat×List AV))(j:Nat)(h:j<F.R):hk (famD d F++r) (fim d j)=some (IL (F.rows j)) :=
 Doz (fim d) (fun _ _=>Bkz) (fun j=>IL (F.rows j)) r j _ (List.mem_range.2 h)
theorem C6z (d:Nat)(F:Fam)(r:List (Nat×List AV))(id:Nat)(h:id<1099511627776):hk (famD d F++r) id=hk r id :=
 Dkz (fim d) (fun j=>IL (F.rows j)) r id _ fun j _ e=>by have:=Bqz d j;omega
theorem Hdz (d:Nat)(F:Fam)(r:List (Nat×List AV))(d' j:Nat)(h1:d<65536)(h2:d'<65536)(hn:d≠d'):hk (famD d F++r) (fim d' j)=hk r (fim d' j) :=
 Dkz (fim d) (fun j=>IL (F.rows j)) r _ _ fun j _ e=>hn (B8z h1 h2 e)
theorem Kez (d:Nat)(F:Fam)(r:List (Nat×List AV))(n:Nat)(h:n<68719476736):freshD (famD d F++r) n=freshD r n:=by
 unfold famD
 have:∀ l:List Nat,freshD (l.map (fun j=>(fim d j,IL (F.rows j)))++r) n=freshD r n:=by
  intro l
  induction l with
  | nil=>rfl
  | cons a l ih=>simp only [List.map_cons,List.cons_append,freshD,Mnz _ _ _ h,not_false_eq_true,true_and,ih]
 exact this _
def noFam (d:Nat)(H:List (Nat×List AV)):Prop:=∀ j,hk H (fim d j)=none
theorem noFam_nil (d:Nat):noFam d []=True:=propext ⟨fun _=>trivial,fun _ _=>rfl⟩
theorem noFam_cons (d t:Nat)(v:List AV)(r:List (Nat×List AV))(h:t<1099511627776):noFam d ((t,v)::r)=noFam d r:=by
 unfold noFam
 simp only [hk,Awz _ _ t h,if_false]
theorem noFam_fam (d d':Nat)(F:Fam)(r:List (Nat×List AV))(h:d<65536∧d'<65536∧d'≠d):noFam d (famD d' F++r)=noFam d r:=by
 unfold noFam
 simp only [Hdz d' F r d _ h.2.1 h.1 h.2.2]

theorem H4z (d:Nat)(F:Fam):famD d F=famD d F++[]:=(List.append_nil _).symm
theorem Mjz (d:Nat)(F:Fam)(j:Nat)(h:j<F.R):hk (famD d F) (fim d j)=some (IL (F.rows j)):=by rw [H4z];exact Bpz d F [] j h
theorem hk_famD_low0 (d:Nat)(F:Fam)(id:Nat)(h:id<1099511627776):hk (famD d F) id=none:=by rw [H4z];exact C6z d F [] id h
theorem freshD_famD0 (d:Nat)(F:Fam)(n:Nat)(h:n<68719476736):freshD (famD d F) n=True:=by rw [H4z];exact Kez d F [] n h
theorem noFam_fam0 (d d':Nat)(F:Fam)(h:d<65536∧d'<65536∧d'≠d):noFam d (famD d' F)=True:=by rw [H4z,noFam_fam d d' F [] h,noFam_nil]
theorem Ckz {ρ:Nat→Option Nat}{Z:Nat→Option (List AV)}{b:Bool}{φ:Bool→Option Bool}{n:Nat}(xs:List Int):(IL xs).map (AV.ren ρ Z b φ (n+1))=IL xs:=by unfold IL;rw [List.map_map];rfl
theorem Fam.ren_at (F:Fam){g g':Nat→Nat}{ρ:Nat→Option Nat}{Z:Nat→Option (List AV)}{b:Bool}{φ:Bool→Option Bool}{n p:Nat}(h:∀ j,F.pat p=.inr j→ρ (g j)=some (g' j)):(F.atG g p).ren ρ Z b φ (n+1)=F.atG g' p:=by
 unfold Fam.atG
 cases e:F.pat p with
 | inl a =>
  rcases F.cell p a e with ⟨k,x,rfl⟩|⟨c,rfl⟩<;>rfl
 | inr j=>simp only [Emz,h j e,Euz]
theorem Fam.ren_plain (F:Fam){g:Nat→Nat}{ρ:Nat→Option Nat}{Z:Nat→Option (List AV)}{b:Bool}{φ:Bool→Option Bool}{n p:Nat}(h:∀ j,F.pat p=.inr j→ρ (g j)=none∧Z (g j)=some (IL (F.rows j))):(F.atG g p).ren ρ Z b φ (n+2)=F.atP b p:=by
 unfold Fam.atG Fam.atP
 cases e:F.pat p with
 | inl a =>
  rcases F.cell p a e with ⟨k,x,rfl⟩|⟨c,rfl⟩<;>rfl
 | inr j =>
  obtain ⟨h1,h2⟩:=h j e
  simp only [Emz,h1,h2,Evz]
  have:(IL (F.rows j)).length=(F.rows j).length*1:=by unfold IL;simp
  rw [if_pos this,Ckz]

def hasFam (d:Nat)(F:Fam)(H:List (Nat×List AV)):Prop:=∀ j,j<F.R→hk H (fim d j)=some (IL (F.rows j))
theorem hasFam_cons (d:Nat)(F:Fam)(t:Nat)(v:List AV)(H:List (Nat×List AV))(h:t<1099511627776):hasFam d F ((t,v)::H)=hasFam d F H:=by
 unfold hasFam
 simp only [hk,Awz _ _ t h,if_false]
theorem Kaz (d:Nat)(F:Fam)(r:List (Nat×List AV)):hasFam d F (famD d F++r)=True:=propext ⟨fun _=>trivial,fun _ j hj=>Bpz d F r j hj⟩
theorem hasFam_oth (d d':Nat)(F G:Fam)(r:List (Nat×List AV))(h:d<65536∧d'<65536∧d'≠d):hasFam d F (famD d' G++r)=hasFam d F r:=by
 unfold hasFam
 simp only [Hdz d' G r d _ h.2.1 h.1 h.2.2]
theorem hasFam_same0 (d:Nat)(F:Fam):hasFam d F (famD d F)=True:=by rw [H4z];exact Kaz d F []
open Classical in
noncomputable def rdx (p:Prop) (a b:List AV):List AV:=if p then a else b
theorem rdx_true (a b:List AV):rdx True a b=a:=by unfold rdx;exact if_pos trivial
theorem readF_eq (F:Fam)(d:Nat){b:Bool}{φ:Bool→Option Bool}{n:Nat}(H:List (Nat×List AV)) :
  (F.cellsG (fim d)).map (AV.ren (posF []) (zF false (hk H)) b φ (n+2))=rdx (hasFam d F H) (F.plain b) (row F.C fun p=>(F.atG (fim d) p).ren (posF []) (zF false (hk H)) b φ (n+2)):=by
 unfold rdx
 split
 ·rename_i h
  unfold Fam.cellsG Fam.plain
  rw [C2z]
  exact Bxz fun p hp=>F.ren_plain fun j hj=>⟨rfl,h j (F.ok p j hp hj)⟩
 ·unfold Fam.cellsG
  rw [C2z]

section
variable {P:Program} {pin:Nat} {σ:List (Nat×AV)} {H:List (Nat×List AV)} {K:S→Prop}
theorem Hjz (g:Nat→Nat)(f:Nat→List AV):∀ l:List Nat,(l.map g).zip (l.map f)=l.map fun j=>(g j,f j)
 | []=>rfl
 | a::l=>by simp only [List.map_cons,List.zip_cons_cons,Hjz g f l]
theorem D7z {g:Nat→Nat}(hg:∀ i j,g i=g j→i=j){l:List Nat}(h:l.Nodup):(l.map g).Nodup:=List.Pairwise.map _ (fun a b hab he=>hab (hg _ _ he)) h
def callE (P:Program)(pin f:Nat)(avs:List AV)(dst:Option Nat)(K:S→Prop)(σ:List (Nat×AV))(H:List (Nat×List AV)):Prop :=
 ∀ args:List Operand,args.map (fun x=>(mkS σ H).ev x)=avs→callOwed P pin f args dst K (mkS σ H)
theorem Fqz {f:Nat}{args:List Operand}{dst:Option Nat}(h:callE P pin f (args.map fun x=>(mkS σ H).ev x) dst K σ H):callOwed P pin f args dst K (mkS σ H):=h args rfl
end
attribute [push_cast] Mjz hk_famD_low0 freshD_famD0 noFam_fam0 hasFam_same0 Fpz plain_length Awz ne_fim Mnz C6z Bpz Hdz Kez noFam_nil noFam_cons noFam_fam hasFam_cons Kaz hasFam_oth rdx_true readF_eq
end Vw
namespace VwM
open Vw
open Go

abbrev Vw3:=Int×List Int×List Int
def VLs:List Vw3→List AV
 | []=>[]
 | v::r=>.int .i64 v.1::RI v.2.1::RI v.2.2::VLs r
theorem Fhz (p:Nat→Bool):∀ xs:List Int,innL p (IL xs)=true
 | []=>rfl
 | x::r=>by
  have:=Fhz p r
  simp only [IL,List.map_cons,innL,AV.inn,Bool.true_and]
  exact this
theorem ren_VLs {ρ:Nat→Option Nat}{Zh:Nat→Option (List AV)}{n:Nat}:∀ vs:List Vw3,(VLs vs).map (AV.ren ρ Zh false phiD (n+2))=VLs vs
 | []=>rfl
 | v::r=>by
  simp only [VLs,List.map_cons,ren_VLs r,List.cons.injEq,and_true]
  refine ⟨rfl,?_,?_⟩<;>simp [AV.ren,phiD]
attribute [push_cast] ren_VLs
end VwM
namespace VwM
open Go Vw

abbrev Tn:=List Int×List Int
def TL (b:Bool):List Tn→List AV
 | []=>[]
 | t::r=>.rows b (IL t.1) t.1.length::.rows b (IL t.2) t.2.length::TL b r
def LL (b:Bool):List (List Int)→List AV
 | []=>[]
 | l::r=>.rows b (IL l) l.length::LL b r
theorem Krz (b:Bool):∀ ts:List Tn,(TL b ts).length=ts.length*2
 | []=>rfl
 | t::r=>by simp only [TL,List.length_cons,Krz b r];omega
theorem Ksz (b:Bool):∀ ls:List (List Int),(LL b ls).length=ls.length
 | []=>rfl
 | l::r=>by simp only [LL,List.length_cons,Ksz b r]
theorem TL_drop (b:Bool):∀ (ts:List Tn) (i:Nat) {t:Tn},ts[i]?=some t→((TL b ts).drop (i*2)).take 2=[.rows b (IL t.1) t.1.length,.rows b (IL t.2) t.2.length]
 | [],_,_,h=>by simp at h
 | w::r,0,v,h=>by simp at h;subst h;simp [TL]
 | w::r,i+1,v,h=>by
  rw [show (i+1)*2=i*2+1+1 by omega]
  simp only [TL,List.drop_succ_cons]
  exact TL_drop b r i (by simpa using h)
section
variable {ρ:Nat→Option Nat} {Zh:Nat→Option (List AV)} {n:Nat} {b0:Bool} {φ:Bool→Option Bool}
theorem Isz (xs:List Int):(IL xs).map (AV.ren ρ Zh b0 φ (n+1))=IL xs:=by unfold IL;rw [List.map_map];rfl
theorem ren_TL {b c:Bool}(h:φ b=some c):∀ ts:List Tn,(TL b ts).map (AV.ren ρ Zh b0 φ (n+2))=TL c ts
 | []=>rfl
 | v::r=>by
  simp only [TL,List.map_cons,ren_TL h r,List.cons.injEq,and_true]
  constructor<;>simp only [AV.ren,h,Isz]
theorem ren_LL {b c:Bool}(h:φ b=some c):∀ ls:List (List Int),(LL b ls).map (AV.ren ρ Zh b0 φ (n+2))=LL c ls
 | []=>rfl
 | v::r=>by
  simp only [LL,List.map_cons,ren_LL h r,List.cons.injEq,and_true]
  simp only [AV.ren,h,Isz]
theorem ren_TLD (b:Bool)(ts:List Tn):(TL b ts).map (AV.ren ρ Zh b0 phiD (n+2))=TL false ts:=ren_TL (by cases b<;>rfl) ts
theorem ren_LLD (b:Bool)(ts:List (List Int)):(LL b ts).map (AV.ren ρ Zh b0 phiD (n+2))=LL false ts:=ren_LL (by cases b<;>rfl) ts
theorem ren_TLU (sh:Bool)(ts:List Tn):(TL true ts).map (AV.ren ρ Zh b0 (phiU sh) (n+2))=TL true ts:=ren_TL (by rfl) ts
theorem ren_LLU (sh:Bool)(ts:List (List Int)):(LL true ts).map (AV.ren ρ Zh b0 (phiU sh) (n+2))=LL true ts:=ren_LL (by rfl) ts
theorem ren_TLV (b:Bool)(ts:List Tn):(TL b ts).map (AV.ren ρ Zh b0 (phiU true) (n+2))=TL b ts:=ren_TL (by cases b<;>rfl) ts
theorem ren_LLV (b:Bool)(ts:List (List Int)):(LL b ts).map (AV.ren ρ Zh b0 (phiU true) (n+2))=LL b ts:=ren_LL (by cases b<;>rfl) ts
theorem ren_TLs (b:Bool)(ts:List Tn):(TL b ts).map (AV.ren ρ Zh b0 some (n+2))=TL b ts:=ren_TL (by rfl) ts
theorem ren_LLs (b:Bool)(ts:List (List Int)):(LL b ts).map (AV.ren ρ Zh b0 some (n+2))=LL b ts:=ren_LL (by rfl) ts
end
attribute [push_cast] ren_TLD ren_LLD ren_TLU ren_LLU ren_TLV ren_LLV ren_TLs ren_LLs Krz Ksz

theorem fz_IL {H:Nat→Option (List AV)}{n:Nat}(xs:List Int):(IL xs).map (AV.fz H (n+1))=IL xs:=by unfold IL;rw [List.map_map];rfl
theorem fz_TL {H:Nat→Option (List AV)}{n:Nat}(b:Bool):∀ ts:List Tn,(TL b ts).map (AV.fz H (n+2))=TL b ts
 | []=>rfl
 | v::r=>by
  simp only [TL,List.map_cons,fz_TL b r,List.cons.injEq,and_true]
  constructor<;>simp only [AV.fz,fz_IL]
theorem fz_LL {H:Nat→Option (List AV)}{n:Nat}(b:Bool):∀ ls:List (List Int),(LL b ls).map (AV.fz H (n+2))=LL b ls
 | []=>rfl
 | v::r=>by
  simp only [LL,List.map_cons,fz_LL b r,List.cons.injEq,and_true]
  simp only [AV.fz,fz_IL]
attribute [push_cast] fz_TL fz_LL

end VwM
namespace Vw
open Go VwM
variable [Inhabited GlobT]

def famR (d:Nat)(rows:Nat→List Int)(n:Nat):List (Nat×List AV):=(List.range n).map fun j=>(fim d j,IL (rows j))
theorem Ikz (d:Nat)(rows:Nat→List Int)(n j:Nat)(h:j<n):hk (famR d rows n) (fim d j)=some (IL (rows j)):=by
 have:=Doz (fim d) (fun _ _=>Bkz) (fun j=>IL (rows j)) [] j _ (List.mem_range.2 h)
 rw [List.append_nil] at this
 exact this
theorem hk_famR_out (d:Nat)(rows:Nat→List Int)(n id:Nat)(h:∀ j,j<n→fim d j≠id):hk (famR d rows n) id=none:=by
 have:=Dkz (fim d) (fun j=>IL (rows j)) [] id (List.range n) fun j hj=>h j (List.mem_range.1 hj)
 rw [List.append_nil] at this
 exact this
theorem hk_famR_low (d:Nat)(rows:Nat→List Int)(n id:Nat)(h:id<1099511627776):hk (famR d rows n) id=none :=
 hk_famR_out d rows n id fun j _ e=>by have:=Bqz d j;omega
theorem freshD_famR (d:Nat)(rows:Nat→List Int)(n k:Nat)(h:k<68719476736):freshD (famR d rows n) k=True:=by
 have:∀ l:List Nat,freshD (l.map (fun j=>(fim d j,IL (rows j)))) k=True:=by
  intro l
  induction l with
  | nil=>rfl
  | cons a l ih=>simp only [List.map_cons,freshD,Mnz _ _ _ h,not_false_eq_true,true_and,ih]
 exact this _
theorem Fxz (a b:Nat):∀ cs:List AV,swL a b cs=cs.map (AV.sw a b)
 | []=>rfl
 | c::r=>by simp only [swL,List.map_cons,Fxz a b r]
theorem Fyz (a b:Nat)(xs:List Int):swL a b (IL xs)=IL xs:=by rw [Fxz];unfold IL;rw [List.map_map];rfl

theorem SubW.slots {pin:Nat}{σ σ':List (Nat×AV)}{H:List (Nat×List AV)}(h:∀ p∈σ',lk σ p.1=p.2):SubW pin (mkS σ H) (mkS σ' H):=fun E M x w hp hst=>by
 refine ⟨M,hst.defers,hst.size,fun t=>?_,hst.hok,hst.old⟩
 show Den _ (lk σ' t) _
 rcases lk_mem σ' t with e|⟨p,hp,e1,e2⟩
 ·rw [e];simp [Den]
 ·rw [e2,← h p hp,e1];exact hst.slots t
def lsF (ls:List (List Int)):Fam:=⟨ls.length,ls.length,fun p=>.inr p,fun j=>ls.getD j [],fun p j h e=>by injection e with e;omega,fun p a e=>by cases e⟩
theorem LL_map (b:Bool):∀ ls:List (List Int),LL b ls=ls.map fun l=>.rows b (IL l) l.length
 | []=>rfl
 | l::r=>by simp only [LL,List.map_cons,LL_map b r]
theorem lsF_plain (ls:List (List Int))(b:Bool):(lsF ls).plain b=LL b ls:=by
 symm
 refine row_ext (Ksz b ls) fun p hp=>?_
 have hp':p<ls.length:=hp
 rw [LL_map,List.getElem?_map,List.getElem?_eq_getElem hp']
 simp [Fam.atP,lsF,List.getD,hp']
theorem lsF_C (ls:List (List Int)):(lsF ls).C=ls.length:=rfl
theorem lsF_R (ls:List (List Int)):(lsF ls).R=ls.length:=rfl
def tnRow (ts:List Tn)(j:Nat):List Int:=if j % 2=0 then (ts.getD (j / 2) ([],[])).1 else (ts.getD (j / 2) ([],[])).2
def tsF (ts:List Tn):Fam:=⟨ts.length*2,ts.length*2,fun p=>.inr p,tnRow ts,fun p j h e=>by injection e with e;omega,fun p a e=>by cases e⟩
theorem tsF_C (ts:List Tn):(tsF ts).C=ts.length*2:=rfl
theorem tsF_R (ts:List Tn):(tsF ts).R=ts.length*2:=rfl
theorem tnRow_0 {ts:List Tn}{i:Nat}{x y:List Int}(h:ts[i]?=some (x,y)):tnRow ts (i*2)=x∧tnRow ts (i*2+1)=y:=by
 unfold tnRow
 rw [if_pos (by omega),if_neg (by omega),show i*2 / 2=i by omega,show (i*2+1) / 2=i by omega]
 simp [List.getD,h]
theorem tsF_plain (ts:List Tn)(b:Bool):(tsF ts).plain b=TL b ts:=by
 symm
 refine row_ext (Krz b ts) fun p hp=>?_
 have hp':p<ts.length*2:=hp
 obtain ⟨t,ht⟩:∃ t,ts[p / 2]?=some t:=⟨ts[p / 2]'(by omega),List.getElem?_eq_getElem _⟩
 have hd:=TL_drop b ts (p / 2) ht
 obtain ⟨h0,h1⟩:=tnRow_0 (x:=t.1) (y:=t.2) ht
 rcases Nat.mod_two_eq_zero_or_one p with e|e
 ·have:=congrArg (fun l=>l[0]?) hd
  simp only [List.getElem?_take,List.getElem?_drop] at this
  have e2:p / 2*2=p:=by omega
  rw [e2] at this h0
  simp at this
  rw [this]
  simp [Fam.atP,tsF,h0]
 ·have:=congrArg (fun l=>l[1]?) hd
  simp only [List.getElem?_take,List.getElem?_drop] at this
  have e2:p / 2*2+1=p:=by omega
  rw [e2] at this h1
  simp at this
  rw [this]
  simp [Fam.atP,tsF,h1]
attribute [push_cast] lsF_plain lsF_C lsF_R tsF_plain tsF_C tsF_R hk_famR_low freshD_famR
end Vw
namespace Vw
open Go VwM
variable [Inhabited GlobT]
end Vw
namespace VwM
open Go Vw
variable [Inhabited GlobT]

abbrev Ex:=Int×Vw3×Bool
def EL (b:Bool):List Ex→List AV
 | []=>[]
 | e::r=>.int .i64 e.1::.int .i64 e.2.1.1::.rows b (IL e.2.1.2.1) e.2.1.2.1.length::.rows b (IL e.2.1.2.2) e.2.1.2.2.length::.bool e.2.2::EL b r
theorem Auz (b:Bool):∀ es:List Ex,(EL b es).length=es.length*5
 | []=>rfl
 | e::r=>by simp only [EL,List.length_cons,Auz b r];omega
theorem H9z (b:Bool):∀ es fs:List Ex,EL b (es++fs)=EL b es++EL b fs
 | [],_=>rfl
 | e::r,fs=>by simp only [List.cons_append,EL,H9z b r fs]
theorem Btz (b:Bool):∀ (es:List Ex) (i:Nat) {e:Ex},es[i]?=some e→((EL b es).drop (i*5)).take 5=[.int .i64 e.1,.int .i64 e.2.1.1,.rows b (IL e.2.1.2.1) e.2.1.2.1.length,.rows b (IL e.2.1.2.2) e.2.1.2.2.length,.bool e.2.2]
 | [],_,_,h=>by simp at h
 | w::r,0,v,h=>by simp at h;subst h;simp [EL]
 | w::r,i+1,v,h=>by
  rw [show (i+1)*5=i*5+1+1+1+1+1 by omega]
  simp only [EL,List.drop_succ_cons]
  exact Btz b r i (by simpa using h)
theorem Aaz (b:Bool)(p:Nat→Bool):∀ es:List Ex,innL p (EL b es)=true
 | []=>rfl
 | v::r=>by
  simp only [EL,innL,AV.inn,Aaz b p r,Fhz,Bool.and_true,Bool.true_and]
section
variable {ρ:Nat→Option Nat} {Zh:Nat→Option (List AV)} {n:Nat} {b0:Bool} {φ:Bool→Option Bool}
theorem Itz {b c:Bool}(h:φ b=some c):∀ es:List Ex,(EL b es).map (AV.ren ρ Zh b0 φ (n+2))=EL c es
 | []=>rfl
 | v::r=>by
  simp only [EL,List.map_cons,Itz h r,List.cons.injEq,and_true]
  refine ⟨rfl,rfl,?_,?_,rfl⟩<;>simp only [AV.ren,h,Isz]
theorem ren_ELD (b:Bool)(es:List Ex):(EL b es).map (AV.ren ρ Zh b0 phiD (n+2))=EL false es:=Itz (by cases b<;>rfl) es
theorem ren_ELU (sh:Bool)(es:List Ex):(EL true es).map (AV.ren ρ Zh b0 (phiU sh) (n+2))=EL true es:=Itz (by rfl) es
theorem ren_ELV (b:Bool)(es:List Ex):(EL b es).map (AV.ren ρ Zh b0 (phiU true) (n+2))=EL b es:=Itz (by cases b<;>rfl) es
theorem ren_ELs (b:Bool)(es:List Ex):(EL b es).map (AV.ren ρ Zh b0 some (n+2))=EL b es:=Itz (by rfl) es
end
attribute [push_cast] ren_ELD ren_ELU ren_ELV ren_ELs Auz

theorem fz_EL {H:Nat→Option (List AV)}{n:Nat}(b:Bool):∀ es:List Ex,(EL b es).map (AV.fz H (n+2))=EL b es
 | []=>rfl
 | v::r=>by
  simp only [EL,List.map_cons,fz_EL b r,List.cons.injEq,and_true]
  refine ⟨rfl,rfl,?_,?_,rfl⟩<;>simp only [AV.fz,fz_IL]
def kidsT (es:List Ex)(p:Int):Nat→List Int
 | 0=>[]
 | k+1=>match es[k]? with
  | some e=>if e.2.2=true∧e.1=p then kidsT es p k++[(k:Int)] else kidsT es p k
  | none=>kidsT es p k
theorem J6z {es:List Ex}{p:Int}{k:Nat}{e:Ex}(h:es[k]?=some e)(h1:e.2.2=true∧e.1=p):kidsT es p (k+1)=kidsT es p k++[(k:Int)]:=by
 simp only [kidsT,h,if_pos h1]
theorem Gpz {es:List Ex}{p:Int}{k:Nat}{e:Ex}(h:es[k]?=some e)(h1:¬ (e.2.2=true∧e.1=p)):kidsT es p (k+1)=kidsT es p k:=by
 simp only [kidsT,h,if_neg h1]
theorem D9z (es:List Ex)(p:Int):∀ k,(kidsT es p k).length≤k
 | 0=>Nat.le_refl _
 | k+1=>by
  have:=D9z es p k
  simp only [kidsT]
  split
  ·split
   ·rw [List.length_append];simp;omega
   ·omega
  ·omega
def parOk (es:List Ex):Prop:=∀ (i:Nat) (e:Ex),es[i]?=some e→-1≤e.1∧e.1<i
theorem J7z {es:List Ex}(h:parOk es)(q:Nat):∀ k,k≤q+1→kidsT es q k=[]
 | 0,_=>rfl
 | k+1,hk=>by
  have ih:=J7z h q k (by omega)
  cases he:es[k]? with
  | none=>simp only [kidsT,he];exact ih
  | some e =>
   have:=h k e he
   rw [Gpz he (fun h=>by omega)]
   exact ih

theorem Epz (d j id:Nat)(h:id<1099511627776):id≠fim d j:=fun e=>by have:=Bqz d j;omega
theorem Fwz (a d i n:Nat)(h:n<1099511627776)(hn:n≠a):swp a (fim d i) n=n:=Bez hn (Epz _ _ _ h)
def gam (d:Nat)(f:Nat→List AV)(n:Nat):List (Nat×List AV):=(List.range n).map fun j=>(fim d j,f j)
theorem Bfz (d:Nat)(f:Nat→List AV)(n:Nat)(r:List (Nat×List AV))(j:Nat)(h:j<n):hk (gam d f n++r) (fim d j)=some (f j) :=
 Doz (fim d) (fun _ _=>Bkz) f r j _ (List.mem_range.2 h)
theorem Ldz (d:Nat)(f:Nat→List AV)(n:Nat)(r:List (Nat×List AV))(id:Nat)(h:id<1099511627776):hk (gam d f n++r) id=hk r id :=
 Dkz (fim d) f r id _ fun j _ e=>by have:=Bqz d j;omega
theorem Cwz (d:Nat)(f:Nat→List AV)(n:Nat)(r:List (Nat×List AV))(d' j:Nat)(h:d<65536∧d'<65536∧d≠d'):hk (gam d f n++r) (fim d' j)=hk r (fim d' j) :=
 Dkz (fim d) f r _ _ fun j _ e=>h.2.2 (B8z h.1 h.2.1 e)
theorem Mlz (d:Nat)(f:Nat→List AV)(n:Nat):gam d f n=gam d f n++[]:=(List.append_nil _).symm
theorem B9z (d:Nat)(f:Nat→List AV)(n j:Nat)(h:j<n):hk (gam d f n) (fim d j)=some (f j):=by rw [Mlz];exact Bfz d f n [] j h
theorem hk_gam_low0 (d:Nat)(f:Nat→List AV)(n id:Nat)(h:id<1099511627776):hk (gam d f n) id=none:=by rw [Mlz,Ldz d f n [] id h];rfl
theorem hk_gam_oth0 (d:Nat)(f:Nat→List AV)(n d' j:Nat)(h:d<65536∧d'<65536∧d≠d'):hk (gam d f n) (fim d' j)=none:=by rw [Mlz,Cwz d f n [] d' j h];rfl
theorem Lfz (d:Nat)(f:Nat→List AV)(n:Nat)(r:List (Nat×List AV))(k:Nat)(h:k<68719476736):freshD (gam d f n++r) k=freshD r k:=by
 unfold gam
 have:∀ l:List Nat,freshD (l.map (fun j=>(fim d j,f j))++r) k=freshD r k:=by
  intro l
  induction l with
  | nil=>rfl
  | cons a l ih=>simp only [List.map_cons,List.cons_append,freshD,Mnz _ _ _ h,not_false_eq_true,true_and,ih]
 exact this _
theorem freshD_gam0 (d:Nat)(f:Nat→List AV)(n k:Nat)(h:k<68719476736):freshD (gam d f n) k=True:=by rw [Mlz,Lfz d f n [] k h];rfl
attribute [push_cast] Ldz hk_gam_low0 Cwz hk_gam_oth0 Lfz freshD_gam0 Bfz B9z
theorem Mmz {d:Nat}{f:Nat→List AV}{n:Nat}{p:Nat×List AV}(h:p∈gam d f n):∃ j,j<n∧p=(fim d j,f j):=by
 obtain ⟨j,hj,rfl⟩:=List.mem_map.1 h
 exact ⟨j,List.mem_range.1 hj,rfl⟩
theorem SubW.gam2 {σ σ':List (Nat×AV)}{H:List (Nat×List AV)}{a b d1 d2 n id0:Nat}{c0 c1:List AV}{fA fB:Nat→List AV}
  (hd:d1<65536∧d2<65536∧d1≠d2) (hne:(id0≠a∧id0≠b∧a≠b)∧id0<1099511627776∧a<1099511627776∧b<1099511627776)
  (h0:(hk H id0).map (fun c=>swL b (fim d2 n) (swL a (fim d1 n) c))=some c1)
  (h1:∀ j,j<n→(hk H (fim d1 j)).map (fun c=>swL b (fim d2 n) (swL a (fim d1 n) c))=some (fA j)) (h2:∀ j,j<n→(hk H (fim d2 j)).map (fun c=>swL b (fim d2 n) (swL a (fim d1 n) c))=some (fB j))
  (ha:(hk H a).map (fun c=>swL b (fim d2 n) (swL a (fim d1 n) c))=some (fA n)) (hb:(hk H b).map (fun c=>swL b (fim d2 n) (swL a (fim d1 n) c))=some (fB n))
  (hσ:∀ p∈σ',((lk σ p.1).sw a (fim d1 n)).sw b (fim d2 n)=p.2)
  (h4:∀ p∈σ',p.2.inn (fun id=>(hk ((id0,c1)::(gam d1 fA (n+1)++gam d2 fB (n+1))) id).isSome)=true) (h5:innL (fun id=>(hk ((id0,c1)::(gam d1 fA (n+1)++gam d2 fB (n+1))) id).isSome) c1=true)
  (h6:∀ j,j<n+1→innL (fun id=>(hk ((id0,c1)::(gam d1 fA (n+1)++gam d2 fB (n+1))) id).isSome) (fA j)=true) (h7:∀ j,j<n+1→innL (fun id=>(hk ((id0,c1)::(gam d1 fA (n+1)++gam d2 fB (n+1))) id).isSome) (fB j)=true) :
  SubW 0 (mkS σ H) (mkS σ' ((id0,c1)::(gam d1 fA (n+1)++gam d2 fB (n+1)))):=by
 have hfb:∀ (d x:Nat),x<1099511627776→∀ j,x≠fim d j:=fun d x hx j e=>by have:=Bqz d j;omega
 have hdd:∀ i j,fim d1 i≠fim d2 j:=fun i j e=>hd.2.2 (B8z hd.1 hd.2.1 e)
 have hmm:∀ id,((hk H id).map (swL a (fim d1 n))).map (swL b (fim d2 n))=(hk H id).map (fun c=>swL b (fim d2 n) (swL a (fim d1 n) c)):=fun id=>by cases hk H id<;>rfl
 refine SubW.sw a (fim d1 n) (Nat.zero_le _) (Nat.zero_le _) (SubW.sw b (fim d2 n) (Nat.zero_le _) (Nat.zero_le _) (SubW.of (Sub.of_lists hσ ?_ (fun id h=>absurd h (Nat.not_lt_zero _)) h4 ?_)))
 ·intro p hp
  show ((hk H (swp a (fim d1 n) (swp b (fim d2 n) p.1))).map (swL a (fim d1 n))).map (swL b (fim d2 n))=some p.2
  rw [hmm]
  rcases List.mem_cons.1 hp with rfl|hp
  ·rw [Bez hne.1.2.1 (hfb _ _ hne.2.1 _),Bez hne.1.1 (hfb _ _ hne.2.1 _)]
   exact h0
  ·rcases List.mem_append.1 hp with hp|hp
   ·obtain ⟨j,hj,rfl⟩:=Mmz hp
    rw [Bez (c:=fim d1 j) (Ne.symm (hfb _ _ hne.2.2.2 _)) (hdd _ _)]
    by_cases e:j=n
    ·subst e
     rw [Ltz];exact ha
    ·rw [Bez (Ne.symm (hfb _ _ hne.2.2.1 _)) (fun e'=>e (Bkz e'))]
     exact h1 j (by omega)
   ·obtain ⟨j,hj,rfl⟩:=Mmz hp
    by_cases e:j=n
    ·subst e
     rw [Ltz,Bez (Ne.symm hne.1.2.2) (hfb _ _ hne.2.2.2 _)];exact hb
    ·rw [Bez (c:=fim d2 j) (Ne.symm (hfb _ _ hne.2.2.2 _)) (fun e'=>e (Bkz e')),Bez (Ne.symm (hfb _ _ hne.2.2.1 _)) (Ne.symm (hdd _ _))]
     exact h2 j (by omega)
 ·intro p hp
  rcases List.mem_cons.1 hp with rfl|hp
  ·exact h5
  ·rcases List.mem_append.1 hp with hp|hp
   ·obtain ⟨j,hj,rfl⟩:=Mmz hp;exact h6 j hj
   ·obtain ⟨j,hj,rfl⟩:=Mmz hp;exact h7 j hj
end VwM
namespace VwM
open Go Vw
variable [Inhabited GlobT]
def patE (ps bs:Nat→Int)(os:Nat→Bool)(p:Nat):AV ⊕ Nat :=
 if p % 5=0 then .inl (.int .i64 (ps (p / 5))) else if p % 5=1 then .inl (.int .i64 (bs (p / 5))) else if p % 5=4 then .inl (.bool (os (p / 5))) else .inr (p / 5*2+(p % 5-2))
def eF (n:Nat)(ps bs:Nat→Int)(os:Nat→Bool)(rows:Nat→List Int):Fam:=⟨n*5,n*2,patE ps bs os,rows,
 fun p j h e=>by
  unfold patE at e
  split at e
  ·cases e
  ·split at e
   ·cases e
   ·split at e
    ·cases e
    ·injection e with e;omega,
 fun p a e=>by
  unfold patE at e
  split at e
  ·injection e with e;exact .inl ⟨_,_,e.symm⟩
  ·split at e
   ·injection e with e;exact .inl ⟨_,_,e.symm⟩
   ·split at e
    ·injection e with e;exact .inr ⟨_,e.symm⟩
    ·cases e⟩
theorem eF_C (n:Nat)(ps bs:Nat→Int)(os:Nat→Bool)(rows:Nat→List Int):(eF n ps bs os rows).C=n*5:=rfl
theorem eF_R (n:Nat)(ps bs:Nat→Int)(os:Nat→Bool)(rows:Nat→List Int):(eF n ps bs os rows).R=n*2:=rfl
def exPa (es:List Ex)(i:Nat):Int:=(es.getD i (0,(0,[],[]),false)).1
def exBs (es:List Ex)(i:Nat):Int:=(es.getD i (0,(0,[],[]),false)).2.1.1
def exOp (es:List Ex)(i:Nat):Bool:=(es.getD i (0,(0,[],[]),false)).2.2
def exR (es:List Ex)(j:Nat):List Int:=if j % 2=0 then (es.getD (j / 2) (0,(0,[],[]),false)).2.1.2.1 else (es.getD (j / 2) (0,(0,[],[]),false)).2.1.2.2
theorem ex_at {es:List Ex}{i:Nat}{p b:Int}{x y:List Int}{o:Bool}(h:es[i]?=some (p,(b,x,y),o)):exPa es i=p∧exBs es i=b∧exOp es i=o∧exR es (i*2)=x∧exR es (i*2+1)=y:=by
 unfold exPa exBs exOp exR
 rw [if_pos (by omega),if_neg (by omega),show i*2 / 2=i by omega,show (i*2+1) / 2=i by omega]
 simp [List.getD,h]
abbrev esF (es:List Ex):Fam:=eF es.length (exPa es) (exBs es) (exOp es) (exR es)
theorem Khz (es:List Ex)(c:Bool):(esF es).plain c=EL c es:=by
 symm
 refine row_ext (Auz c es) fun p hp=>?_
 have hp':p<es.length*5:=hp
 obtain ⟨⟨q,⟨b,x,y⟩,o⟩,ht⟩:∃ t,es[p / 5]?=some t:=⟨es[p / 5]'(by omega),List.getElem?_eq_getElem _⟩
 have hd:=Btz c es (p / 5) ht
 obtain ⟨h0,h1,h2,h3,h4⟩:=ex_at ht
 have hm:p % 5=0∨p % 5=1∨p % 5=2∨p % 5=3∨p % 5=4:=by omega
 rcases hm with e|e|e|e|e
 ·have:=congrArg (fun l=>l[0]?) hd
  simp only [List.getElem?_take,List.getElem?_drop] at this
  have e2:p / 5*5=p:=by omega
  rw [e2] at this
  simp at this
  rw [this]
  simp [Fam.atP,eF,patE,e,h0]
 ·have:=congrArg (fun l=>l[1]?) hd
  simp only [List.getElem?_take,List.getElem?_drop] at this
  have e2:p / 5*5+1=p:=by omega
  rw [e2] at this
  simp at this
  rw [this]
  simp [Fam.atP,eF,patE,e,h1]
 ·have:=congrArg (fun l=>l[2]?) hd
  simp only [List.getElem?_take,List.getElem?_drop] at this
  have e2:p / 5*5+2=p:=by omega
  rw [e2] at this
  simp at this
  rw [this]
  simp [Fam.atP,eF,patE,e,h3]
 ·have:=congrArg (fun l=>l[3]?) hd
  simp only [List.getElem?_take,List.getElem?_drop] at this
  have e2:p / 5*5+3=p:=by omega
  rw [e2] at this
  simp at this
  rw [this]
  simp [Fam.atP,eF,patE,e,h4]
 ·have:=congrArg (fun l=>l[4]?) hd
  simp only [List.getElem?_take,List.getElem?_drop] at this
  have e2:p / 5*5+4=p:=by omega
  rw [e2] at this
  simp at this
  rw [this]
  simp [Fam.atP,eF,patE,e,h2]
attribute [push_cast] eF_C eF_R Khz
end VwM
namespace Vw
open Go VwM
variable [Inhabited GlobT]
section
variable {P:Program} {pin:Nat} {σ:List (Nat×AV)} {H:List (Nat×List AV)} {K:S→Prop}
theorem callFNB {f m n sz d:Nat}{F:Fam}{cs:List Int}{cargs:List AV}(hc:BCall P f cargs [] (fun r H'=>r=.agg [.own 0 m 1,.own 1 n sz]∧H'=IL cs::F.cellsG (· + 2)::F.conts))(hd:(d<65536∧pin≤16*d)∧freshD H d∧noFam d H)
  (hK:K (mkS ((d,.agg [.own (16*d) m 1,.own (16*d+1) n sz])::σ) ((16*d,IL cs)::(16*d+1,F.cellsG (fim d))::(famD d F++H)))):callD P pin f [] false cargs (some d) K σ H:=by
 obtain ⟨⟨hd1,hd2⟩,hf,hnf⟩:=hd
 intro args ha
 refine Chz (Frz [] false (F:=hk H) (fun _ _ h=>h) (AV.down [] false (hk H)) (fun _=>.inl rfl) hc (by rw [List.map_map];exact ha) rfl List.nodup_nil fun res H' hq=>?_)
 obtain ⟨rfl,rfl⟩:=hq
 have hne:∀ j,16*d≠fim d j:=fun j e=>by have:=Bqz d j;omega
 have hne1:∀ j,16*d+1≠fim d j:=fun j e=>by have:=Bqz d j;omega
 refine ⟨16*d::(16*d+1)::(List.range F.R).map (fim d),trivial,⟨by simp [Gcz],?_,?_⟩,?_⟩
 ·rw [List.nodup_cons,List.nodup_cons]
  refine ⟨fun h=>?_,fun h=>?_,D7z (fun _ _=>Bkz) List.nodup_range⟩
  ·rcases List.mem_cons.1 h with h|h
   ·omega
   ·obtain ⟨j,_,e⟩:=List.mem_map.1 h
    exact hne j e.symm
  ·obtain ⟨j,_,e⟩:=List.mem_map.1 h
   exact hne1 j e.symm
 ·intro id hid
  rcases List.mem_cons.1 hid with rfl|hid
  ·exact ⟨Cfz hf 0 (by omega),hd2⟩
  ·rcases List.mem_cons.1 hid with rfl|hid
   ·exact ⟨Cfz hf 1 (by omega),by omega⟩
   ·obtain ⟨j,_,rfl⟩:=List.mem_map.1 hid
    exact ⟨hnf j,by have:=Bqz d j;omega⟩
 ·rw [I9z]
  have e1:AV.up ([]++16*d::(16*d+1)::(List.range F.R).map (fim d)) false (.agg [.own 0 m 1,.own 1 n sz])=.agg [.own (16*d) m 1,.own (16*d+1) n sz]:=rfl
  have hx:∀ j,j<F.R→idxF ([]++16*d::(16*d+1)::(List.range F.R).map (fim d)) (j+2)=some (fim d j):=fun j hj=>by
   show (16*d::(16*d+1)::(List.range F.R).map (fim d))[j+2]?=_
   rw [List.getElem?_cons_succ,List.getElem?_cons_succ,List.getElem?_map,List.getElem?_range hj];rfl
  have e2:(F.cellsG (· + 2)).map (AV.up ([]++16*d::(16*d+1)::(List.range F.R).map (fim d)) false)=F.cellsG (fim d):=by
   unfold Fam.cellsG
   rw [C2z]
   exact Bxz fun p hp=>F.ren_at fun j hj=>hx j (F.ok p j hp hj)
  have e3:F.conts.map (List.map (AV.up ([]++16*d::(16*d+1)::(List.range F.R).map (fim d)) false))=F.conts:=by
   unfold Fam.conts
   rw [List.map_map]
   exact List.map_congr_left fun j _=>Ckz _
  have e5:(IL cs).map (AV.up ([]++16*d::(16*d+1)::(List.range F.R).map (fim d)) false)=IL cs:=Ckz _
  rw [e1,List.map_cons,List.map_cons,e2,e3,e5]
  have e4:([]++16*d::(16*d+1)::(List.range F.R).map (fim d)).zip (IL cs::F.cellsG (fim d)::F.conts)++H=(16*d,IL cs)::(16*d+1,F.cellsG (fim d))::(famD d F++H):=by
   simp only [List.nil_append,List.zip_cons_cons,List.cons_append]
   unfold Fam.conts famD
   rw [Hjz]
  rw [e4]
  exact hK
end
end Vw
namespace VwM
open Go Vw
variable [Inhabited GlobT]
section
variable (n:Nat) (ps bs:Nat→Int) (os:Nat→Bool) (rows:Nat→List Int) (g:Nat→Nat) (i:Nat)
theorem eF_0:(eF n ps bs os rows).atG g (i*5)=.int .i64 (ps i):=by
 simp only [Fam.atG,eF,patE]
 rw [if_pos (by omega),show i*5 / 5=i by omega]
theorem eF_1:(eF n ps bs os rows).atG g (i*5+1)=.int .i64 (bs i):=by
 simp only [Fam.atG,eF,patE]
 rw [if_neg (by omega),if_pos (by omega),show (i*5+1) / 5=i by omega]
theorem eF_2:(eF n ps bs os rows).atG g (i*5+2)=.own (g (i*2)) (rows (i*2)).length 1:=by
 simp only [Fam.atG,eF,patE]
 rw [if_neg (by omega),if_neg (by omega),if_neg (by omega),show (i*5+2) / 5*2+((i*5+2) % 5-2)=i*2 by omega]
theorem eF_3:(eF n ps bs os rows).atG g (i*5+3)=.own (g (i*2+1)) (rows (i*2+1)).length 1:=by
 simp only [Fam.atG,eF,patE]
 rw [if_neg (by omega),if_neg (by omega),if_neg (by omega),show (i*5+3) / 5*2+((i*5+3) % 5-2)=i*2+1 by omega]
theorem eF_4:(eF n ps bs os rows).atG g (i*5+4)=.bool (os i):=by
 simp only [Fam.atG,eF,patE]
 rw [if_neg (by omega),if_neg (by omega),if_pos (by omega),show (i*5+4) / 5=i by omega]
theorem eF_set4 (x:Bool):((eF n ps bs os rows).cellsG g).set (i*5+4) (.bool x)=(eF n ps bs (upd os i x) rows).cellsG g:=by
 unfold Fam.cellsG
 rw [row_set]
 refine Bxz fun p hp=>?_
 by_cases e:p=i*5+4
 ·subst e;rw [A8z,eF_4,A8z]
 ·rw [A7z _ _ _ _ e]
  simp only [Fam.atG,eF,patE]
  by_cases h:p % 5=0
  ·rw [if_pos h,if_pos h]
  ·rw [if_neg h,if_neg h]
   by_cases h1:p % 5=1
   ·rw [if_pos h1,if_pos h1]
   ·rw [if_neg h1,if_neg h1]
    by_cases h4:p % 5=4
    ·rw [if_pos h4,if_pos h4,A7z _ _ _ _ (by omega)]
    ·rw [if_neg h4,if_neg h4]
end
theorem ret_famB {σ:List (Nat×AV)}{H:List (Nat×List AV)}{res:List ARes}{id0 id1 m n sz d:Nat}{cs:List Int}{F:Fam}(hl:aresL (mkS σ H) res=some [.agg [.own id0 m 1,.own id1 n sz]])(hc:hk H id0=some (IL cs))(h0:hk H id1=some (F.cellsG (fim d)))(h2:∀ j,j<F.R→hk H (fim d j)=some (IL (F.rows j)))(hlow:id0<1099511627776∧id1<1099511627776∧id0≠id1) :
  ∃ (outs:List Nat) (nils:List (Nat×Nat)) (l:List AV),(outs.Nodup∧∀ id∈outs,True)∧aresL (mkS σ H) res=some l∧(∀ p∈nils,(mkS σ H).H p.1=none∧inN outs p.1) ∧
   AV.ren (posF outs) (orNil (mkS σ H).H outs) true some 5 (AV.fixNil nils (tupOf l)).1=.agg [.own 0 m 1,.own 1 n sz]∧List.map (fun id=>List.map (AV.ren (posF outs) (orNil (mkS σ H).H outs) true some 5) (((mkS σ H).H id).getD [])) outs=IL cs::F.cellsG (· + 2)::F.conts:=by
 obtain ⟨hl0,hl1,hl2⟩:=hlow
 have hne:∀ j,id0≠fim d j:=fun j e=>by have:=Bqz d j;omega
 have hne1:∀ j,id1≠fim d j:=fun j e=>by have:=Bqz d j;omega
 have hnd:(id0::id1::(List.range F.R).map (fim d)).Nodup:=by
  rw [List.nodup_cons,List.nodup_cons]
  refine ⟨fun h=>?_,fun h=>?_,D7z (fun _ _=>Bkz) List.nodup_range⟩
  ·rcases List.mem_cons.1 h with h|h
   ·exact hl2 h
   ·obtain ⟨j,_,e⟩:=List.mem_map.1 h
    exact hne j e.symm
  ·obtain ⟨j,_,e⟩:=List.mem_map.1 h
   exact hne1 j e.symm
 have hget:∀ j,j<F.R→(id0::id1::(List.range F.R).map (fim d))[j+2]?=some (fim d j):=fun j hj=>by
  rw [List.getElem?_cons_succ,List.getElem?_cons_succ,List.getElem?_map,List.getElem?_range hj];rfl
 have hp0:posF (id0::id1::(List.range F.R).map (fim d)) id0=some 0:=by unfold posF posL;exact if_pos rfl
 have hp1:posF (id0::id1::(List.range F.R).map (fim d)) id1=some 1:=C4z (k:=0) (i:=1) hnd rfl
 have hpj:∀ j,j<F.R→posF (id0::id1::(List.range F.R).map (fim d)) (fim d j)=some (j+2):=fun j hj=>by
  have:=C4z (k:=0) hnd (hget j hj)
  rw [Nat.zero_add] at this
  exact this
 refine ⟨id0::id1::(List.range F.R).map (fim d),[],_,⟨hnd,fun _ _=>trivial⟩,hl,(fun _ h=>by cases h),?_,?_⟩
 ·show AV.ren _ _ _ _ 5 (.agg [.own id0 m 1,.own id1 n sz])=_
  simp only [ren_agg,List.map_cons,List.map_nil,Emz,hp0,hp1,Euz]
 ·rw [List.map_cons,List.map_cons,List.map_map,show (mkS σ H).H id0=hk H id0 from rfl,show (mkS σ H).H id1=hk H id1 from rfl,hc,h0]
  congr 1
  ·exact Ckz _
  congr 1
  ·show (F.cellsG (fim d)).map _=_
   unfold Fam.cellsG
   rw [C2z]
   exact Bxz fun p hp=>F.ren_at fun j hj=>hpj j (F.ok p j hp hj)
  ·unfold Fam.conts
   refine List.map_congr_left fun j hj=>?_
   show ((hk H (fim d j)).getD []).map _=_
   rw [h2 j (List.mem_range.1 hj)]
   exact Ckz _
end VwM
namespace Vw
open Go VwM
variable [Inhabited GlobT]
end Vw
namespace VwM
open Go Vw
variable [Inhabited GlobT]
def kA (R:Nat→List Int)(k:Int):Nat→Int
 | 0=>k
 | i+1=>kA R k i+1+1+(R (i*2)).length+(R (i*2+1)).length+1
end VwM
namespace Vw
open Go VwM
variable [Inhabited GlobT]
theorem Ghz {σ:List (Nat×AV)}{H:List (Nat×List AV)}{res:List ARes}{id0 id1 d:Nat}{cs:List Int}{F:Fam}{l:List AV}(Wr:Nat→Nat→AV)(hl:aresL (mkS σ H) res=some l)(hw:(AV.fixNil [] (tupOf l)).1=Wr id0 id1)
  (hW:∀ (ρ:Nat→Option Nat) Z b φ,ρ id0=some 0→ρ id1=some 1→AV.ren ρ Z b φ 5 (Wr id0 id1)=Wr 0 1) (hc:hk H id0=some (IL cs)) (h0:hk H id1=some (F.cellsG (fim d))) (h2:∀ j,j<F.R→hk H (fim d j)=some (IL (F.rows j))) (hlow:id0<1099511627776∧id1<1099511627776∧id0≠id1) :
  ∃ (outs:List Nat) (nils:List (Nat×Nat)) (l:List AV),(outs.Nodup∧∀ id∈outs,True)∧aresL (mkS σ H) res=some l∧(∀ p∈nils,(mkS σ H).H p.1=none∧inN outs p.1) ∧
   AV.ren (posF outs) (orNil (mkS σ H).H outs) true some 5 (AV.fixNil nils (tupOf l)).1=Wr 0 1∧List.map (fun id=>List.map (AV.ren (posF outs) (orNil (mkS σ H).H outs) true some 5) (((mkS σ H).H id).getD [])) outs=IL cs::F.cellsG (· + 2)::F.conts:=by
 obtain ⟨hl0,hl1,hl2⟩:=hlow
 have hne:∀ j,id0≠fim d j:=fun j e=>by have:=Bqz d j;omega
 have hne1:∀ j,id1≠fim d j:=fun j e=>by have:=Bqz d j;omega
 have hnd:(id0::id1::(List.range F.R).map (fim d)).Nodup:=by
  rw [List.nodup_cons,List.nodup_cons]
  refine ⟨fun h=>?_,fun h=>?_,D7z (fun _ _=>Bkz) List.nodup_range⟩
  ·rcases List.mem_cons.1 h with h|h
   ·exact hl2 h
   ·obtain ⟨j,_,e⟩:=List.mem_map.1 h
    exact hne j e.symm
  ·obtain ⟨j,_,e⟩:=List.mem_map.1 h
   exact hne1 j e.symm
 have hget:∀ j,j<F.R→(id0::id1::(List.range F.R).map (fim d))[j+2]?=some (fim d j):=fun j hj=>by
  rw [List.getElem?_cons_succ,List.getElem?_cons_succ,List.getElem?_map,List.getElem?_range hj];rfl
 have hp0:posF (id0::id1::(List.range F.R).map (fim d)) id0=some 0:=by unfold posF posL;exact if_pos rfl
 have hp1:posF (id0::id1::(List.range F.R).map (fim d)) id1=some 1:=C4z (k:=0) (i:=1) hnd rfl
 have hpj:∀ j,j<F.R→posF (id0::id1::(List.range F.R).map (fim d)) (fim d j)=some (j+2):=fun j hj=>by
  have:=C4z (k:=0) hnd (hget j hj)
  rw [Nat.zero_add] at this
  exact this
 refine ⟨id0::id1::(List.range F.R).map (fim d),[],_,⟨hnd,fun _ _=>trivial⟩,hl,(fun _ h=>by cases h),?_,?_⟩
 ·rw [hw]
  exact hW _ _ _ _ hp0 hp1
 ·rw [List.map_cons,List.map_cons,List.map_map,show (mkS σ H).H id0=hk H id0 from rfl,show (mkS σ H).H id1=hk H id1 from rfl,hc,h0]
  congr 1
  ·exact Ckz _
  congr 1
  ·show (F.cellsG (fim d)).map _=_
   unfold Fam.cellsG
   rw [C2z]
   exact Bxz fun p hp=>F.ren_at fun j hj=>hpj j (F.ok p j hp hj)
  ·unfold Fam.conts
   refine List.map_congr_left fun j hj=>?_
   show ((hk H (fim d j)).getD []).map _=_
   rw [h2 j (List.mem_range.1 hj)]
   exact Ckz _
def bufT (m n:Nat)(ok:Bool)(a b:Nat):AV:=.tup [.agg [.own a m 1,.own b n 5],.bool ok]
theorem Ecz {m n:Nat}{ok:Bool}{a b a' b' k:Nat}{ρ:Nat→Option Nat}{Z:Nat→Option (List AV)}{c:Bool}{φ:Bool→Option Bool}(h0:ρ a=some a')(h1:ρ b=some b'):AV.ren ρ Z c φ (k+3) (bufT m n ok a b)=bufT m n ok a' b':=by
 unfold bufT
 simp only [AV.ren,List.map_cons,List.map_nil,h0,h1,Euz]
section
variable {P:Program} {pin:Nat} {σ:List (Nat×AV)} {H:List (Nat×List AV)} {K:S→Prop}
theorem callFNW {f d:Nat}{F:Fam}{cs:List Int}{cargs:List AV}(Wr:Nat→Nat→AV)(hW:∀ a b r,AV.up ([]++a::b::r) false (Wr 0 1)=Wr a b)(hc:BCall P f cargs [] (fun r H'=>r=Wr 0 1∧H'=IL cs::F.cellsG (· + 2)::F.conts))(hd:(d<65536∧pin≤16*d)∧freshD H d∧noFam d H)
  (hK:K (mkS ((d,Wr (16*d) (16*d+1))::σ) ((16*d,IL cs)::(16*d+1,F.cellsG (fim d))::(famD d F++H)))):callD P pin f [] false cargs (some d) K σ H:=by
 obtain ⟨⟨hd1,hd2⟩,hf,hnf⟩:=hd
 intro args ha
 refine Chz (Frz [] false (F:=hk H) (fun _ _ h=>h) (AV.down [] false (hk H)) (fun _=>.inl rfl) hc (by rw [List.map_map];exact ha) rfl List.nodup_nil fun res H' hq=>?_)
 obtain ⟨rfl,rfl⟩:=hq
 have hne:∀ j,16*d≠fim d j:=fun j e=>by have:=Bqz d j;omega
 have hne1:∀ j,16*d+1≠fim d j:=fun j e=>by have:=Bqz d j;omega
 refine ⟨16*d::(16*d+1)::(List.range F.R).map (fim d),trivial,⟨by simp [Gcz],?_,?_⟩,?_⟩
 ·rw [List.nodup_cons,List.nodup_cons]
  refine ⟨fun h=>?_,fun h=>?_,D7z (fun _ _=>Bkz) List.nodup_range⟩
  ·rcases List.mem_cons.1 h with h|h
   ·omega
   ·obtain ⟨j,_,e⟩:=List.mem_map.1 h
    exact hne j e.symm
  ·obtain ⟨j,_,e⟩:=List.mem_map.1 h
   exact hne1 j e.symm
 ·intro id hid
  rcases List.mem_cons.1 hid with rfl|hid
  ·exact ⟨Cfz hf 0 (by omega),hd2⟩
  ·rcases List.mem_cons.1 hid with rfl|hid
   ·exact ⟨Cfz hf 1 (by omega),by omega⟩
   ·obtain ⟨j,_,rfl⟩:=List.mem_map.1 hid
    exact ⟨hnf j,by have:=Bqz d j;omega⟩
 ·rw [I9z]
  have hx:∀ j,j<F.R→idxF ([]++16*d::(16*d+1)::(List.range F.R).map (fim d)) (j+2)=some (fim d j):=fun j hj=>by
   show (16*d::(16*d+1)::(List.range F.R).map (fim d))[j+2]?=_
   rw [List.getElem?_cons_succ,List.getElem?_cons_succ,List.getElem?_map,List.getElem?_range hj];rfl
  have e2:(F.cellsG (· + 2)).map (AV.up ([]++16*d::(16*d+1)::(List.range F.R).map (fim d)) false)=F.cellsG (fim d):=by
   unfold Fam.cellsG
   rw [C2z]
   exact Bxz fun p hp=>F.ren_at fun j hj=>hx j (F.ok p j hp hj)
  have e3:F.conts.map (List.map (AV.up ([]++16*d::(16*d+1)::(List.range F.R).map (fim d)) false))=F.conts:=by
   unfold Fam.conts
   rw [List.map_map]
   exact List.map_congr_left fun j _=>Ckz _
  have e5:(IL cs).map (AV.up ([]++16*d::(16*d+1)::(List.range F.R).map (fim d)) false)=IL cs:=Ckz _
  rw [hW,List.map_cons,List.map_cons,e2,e3,e5]
  have e4:([]++16*d::(16*d+1)::(List.range F.R).map (fim d)).zip (IL cs::F.cellsG (fim d)::F.conts)++H=(16*d,IL cs)::(16*d+1,F.cellsG (fim d))::(famD d F++H):=by
   simp only [List.nil_append,List.zip_cons_cons,List.cons_append]
   unfold Fam.conts famD
   rw [Hjz]
  rw [e4]
  exact hK
theorem callFNT {f m n d:Nat}{ok:Bool}{F:Fam}{cs:List Int}{cargs:List AV}(hc:BCall P f cargs [] (fun r H'=>r=.tup [.agg [.own 0 m 1,.own 1 n 5],.bool ok]∧H'=IL cs::F.cellsG (· + 2)::F.conts))(hd:(d<65536∧pin≤16*d)∧freshD H d∧noFam d H)
  (hK:K (mkS ((d,.tup [.agg [.own (16*d) m 1,.own (16*d+1) n 5],.bool ok])::σ) ((16*d,IL cs)::(16*d+1,F.cellsG (fim d))::(famD d F++H)))):callD P pin f [] false cargs (some d) K σ H :=
 callFNW (fun a b=>.tup [.agg [.own a m 1,.own b n 5],.bool ok]) (fun _ _ _=>rfl) hc hd hK
theorem callFNH {f d id m n m':Nat}{ok:Bool}{F:Fam}{cs xs:List Int}{b:AV}(hb:∀ ids (F:Nat→Option (List AV)),AV.down ids false F b=b)(hc:BCall P f [b,.own 0 m' 1,.bool true] [IL xs] (fun r H'=>r=.tup [.agg [.own 0 m 1,.own 1 n 5],.bool ok]∧H'=IL cs::F.cellsG (· + 2)::F.conts))(hlen:cs.length=xs.length)
  (h0:hk H id=some (IL xs)) (hd:(d<65536∧pin≤16*d)∧freshD H d∧noFam d H) (hid:id<1099511627776)
  (hK:K (mkS ((d,.tup [.agg [.own id m 1,.own (16*d) n 5],.bool ok])::σ) ((id,IL cs)::(16*d,F.cellsG (fim d))::(famD d F++H)))):callE P pin f [b,.own id m' 1,.bool true] (some d) K σ H:=by
 obtain ⟨⟨hd1,hd2⟩,hf,hnf⟩:=hd
 have hne:∀ j,id≠fim d j:=fun j e=>by have:=Bqz d j;omega
 have hne1:∀ j,16*d≠fim d j:=fun j e=>by have:=Bqz d j;omega
 have hid1:id≠16*d:=fun e=>by
  have e2:hk H (16*d)=none:=Cfz hf 0 (by omega)
  rw [e,e2] at h0;cases h0
 intro args ha
 refine Chz (Frz [id] false (F:=hk H) (fun _ _ h=>h) (AV.down [id] false (hk H)) (fun _=>.inl rfl) hc ?_ ?_ (by simp) fun res H' hq=>?_)
 ·rw [ha]
  have e:AV.down [id] false (hk H) (.own id m' 1)=.own 0 m' 1:=by
   show AV.ren _ _ _ _ 5 _=_
   rw [Emz,show posF [id] id=some 0 by unfold posF posL;exact if_pos rfl,Euz]
  simp only [List.map_cons,List.map_nil,hb,e]
  rfl
 ·show [(hk H id).map _]=_
  rw [h0]
  show [some ((IL xs).map _)]=_
  rw [show (IL xs).map (AV.down [id] false (hk H))=IL xs from Ckz _]
  rfl
 ·obtain ⟨rfl,rfl⟩:=hq
  refine ⟨16*d::(List.range F.R).map (fim d),⟨by unfold IL;simp [hlen],trivial⟩,⟨by simp [Gcz],?_,?_⟩,?_⟩
  ·rw [List.nodup_cons]
   refine ⟨fun h=>?_,D7z (fun _ _=>Bkz) List.nodup_range⟩
   obtain ⟨j,_,e⟩:=List.mem_map.1 h
   exact hne1 j e.symm
  ·intro i hi
   rcases List.mem_cons.1 hi with rfl|hi
   ·exact ⟨Cfz hf 0 (by omega),hd2⟩
   ·obtain ⟨j,_,rfl⟩:=List.mem_map.1 hi
    exact ⟨hnf j,by have:=Bqz d j;omega⟩
  ·rw [I9z]
   have hx:∀ j,j<F.R→idxF ([id]++16*d::(List.range F.R).map (fim d)) (j+2)=some (fim d j):=fun j hj=>by
    show (id::16*d::(List.range F.R).map (fim d))[j+2]?=_
    rw [List.getElem?_cons_succ,List.getElem?_cons_succ,List.getElem?_map,List.getElem?_range hj];rfl
   have e2:(F.cellsG (· + 2)).map (AV.up ([id]++16*d::(List.range F.R).map (fim d)) false)=F.cellsG (fim d):=by
    unfold Fam.cellsG
    rw [C2z]
    exact Bxz fun p hp=>F.ren_at fun j hj=>hx j (F.ok p j hp hj)
   have e3:F.conts.map (List.map (AV.up ([id]++16*d::(List.range F.R).map (fim d)) false))=F.conts:=by
    unfold Fam.conts
    rw [List.map_map]
    exact List.map_congr_left fun j _=>Ckz _
   have e5:(IL cs).map (AV.up ([id]++16*d::(List.range F.R).map (fim d)) false)=IL cs:=Ckz _
   have e6:AV.up ([id]++16*d::(List.range F.R).map (fim d)) false (.tup [.agg [.own 0 m 1,.own 1 n 5],.bool ok])=.tup [.agg [.own id m 1,.own (16*d) n 5],.bool ok]:=rfl
   rw [e6,List.map_cons,List.map_cons,e2,e3,e5]
   have e4:([id]++16*d::(List.range F.R).map (fim d)).zip (IL cs::F.cellsG (fim d)::F.conts)++H=(id,IL cs)::(16*d,F.cellsG (fim d))::(famD d F++H):=by
    show (id::16*d::(List.range F.R).map (fim d)).zip (IL cs::F.cellsG (fim d)::F.conts)++H=_
    simp only [List.zip_cons_cons,List.cons_append]
    unfold Fam.conts famD
    rw [Hjz]
   rw [e4]
   exact hK
end
end Vw
namespace Vw
open Go VwM
variable [Inhabited GlobT]
theorem SubW.fam2L {σ σ':List (Nat×AV)}{H L:List (Nat×List AV)}{a b d i:Nat}{rows:Nat→List Int}
  (ha:hk H a=some (IL (rows i))) (hb:hk H b=some (IL (rows (i+1)))) (hne:a≠b∧a<1099511627776∧b<1099511627776) (hf:∀ j,j<i→hk H (fim d j)=some (IL (rows j)))
  (hL:∀ p∈L,(p.1≠a∧p.1≠b∧p.1<1099511627776)∧(hk H p.1).map (fun c=>swL b (fim d (i+1)) (swL a (fim d i) c))=some p.2)
  (hσ:∀ p∈σ',((lk σ p.1).sw a (fim d i)).sw b (fim d (i+1))=p.2)
  (h4:∀ p∈σ',p.2.inn (fun id=>(hk (L++famR d rows (i+2)) id).isSome)=true) (h5:∀ p∈L,innL (fun id=>(hk (L++famR d rows (i+2)) id).isSome) p.2=true) :
  SubW 0 (mkS σ H) (mkS σ' (L++famR d rows (i+2))):=by
 have hfb:∀ x:Nat,x<1099511627776→∀ j,x≠fim d j:=fun x hx j e=>by have:=Bqz d j;omega
 have hmm:∀ id,((hk H id).map (swL a (fim d i))).map (swL b (fim d (i+1)))=(hk H id).map (fun c=>swL b (fim d (i+1)) (swL a (fim d i) c)):=fun id=>by cases hk H id<;>rfl
 refine SubW.sw a (fim d i) (Nat.zero_le _) (Nat.zero_le _) (SubW.sw b (fim d (i+1)) (Nat.zero_le _) (Nat.zero_le _) (SubW.of (Sub.of_lists hσ ?_ (fun id h=>absurd h (Nat.not_lt_zero _)) h4 ?_)))
 ·intro p hp
  show ((hk H (swp a (fim d i) (swp b (fim d (i+1)) p.1))).map (swL a (fim d i))).map (swL b (fim d (i+1)))=some p.2
  rw [hmm]
  rcases List.mem_append.1 hp with hp|hp
  ·obtain ⟨⟨n1,n2,n3⟩,e⟩:=hL p hp
   rw [Bez n2 (hfb _ n3 _),Bez n1 (hfb _ n3 _)]
   exact e
  ·obtain ⟨j,hj,rfl⟩:=List.mem_map.1 hp
   have hj':=List.mem_range.1 hj
   by_cases e:j=i+1
   ·subst e
    rw [Ltz,Bez (Ne.symm hne.1) (hfb _ hne.2.2 _),hb]
    show some (swL _ _ (swL _ _ _))=_
    rw [Fyz,Fyz]
   ·rw [Bez (c:=fim d j) (Ne.symm (hfb _ hne.2.2 _)) (fun e'=>e (Bkz e'))]
    by_cases e2:j=i
    ·subst e2
     rw [Ltz,ha]
     show some (swL _ _ (swL _ _ _))=_
     rw [Fyz,Fyz]
    ·rw [Bez (Ne.symm (hfb _ hne.2.1 _)) (fun e'=>e2 (Bkz e')),hf j (by omega)]
     show some (swL _ _ (swL _ _ _))=_
     rw [Fyz,Fyz]
 ·intro p hp
  rcases List.mem_append.1 hp with hp|hp
  ·exact h5 p hp
  ·obtain ⟨j,_,rfl⟩:=List.mem_map.1 hp
   exact Fhz _ _
theorem zcX (a b c d e:AV):zcells [a,b,c,d,e] 1=[a,b,c,d,e]:=by simp [zcells,List.range_succ]
theorem row_5 (C:Nat)(h:Nat→AV):row (C+5) h=row C h++[h C,h (C+1),h (C+2),h (C+3),h (C+4)]:=by
 unfold row
 rw [show C+5=C+1+1+1+1+1 by omega]
 simp only [List.range_succ,List.map_append,List.map_cons,List.map_nil,List.append_assoc,List.cons_append,List.nil_append]
theorem ret_famG {σ:List (Nat×AV)}{H:List (Nat×List AV)}{res:List ARes}{id0 id1:Nat}{cs:List Int}{F:Fam}{l:List AV}(g:Nat→Nat)(hg:∀ i j,g i=g j→i=j)(hgn:∀ j,id0≠g j∧id1≠g j)(Wr:Nat→Nat→AV)(hl:aresL (mkS σ H) res=some l)(hw:(AV.fixNil [] (tupOf l)).1=Wr id0 id1)
  (hW:∀ (ρ:Nat→Option Nat) Z b φ,ρ id0=some 0→ρ id1=some 1→AV.ren ρ Z b φ 5 (Wr id0 id1)=Wr 0 1) (hc:hk H id0=some (IL cs)) (h0:hk H id1=some (F.cellsG g)) (h2:∀ j,j<F.R→hk H (g j)=some (IL (F.rows j))) (hl2:id0≠id1) :
  ∃ (outs:List Nat) (nils:List (Nat×Nat)) (l:List AV),(outs.Nodup∧∀ id∈outs,True)∧aresL (mkS σ H) res=some l∧(∀ p∈nils,(mkS σ H).H p.1=none∧inN outs p.1) ∧
   AV.ren (posF outs) (orNil (mkS σ H).H outs) true some 5 (AV.fixNil nils (tupOf l)).1=Wr 0 1∧List.map (fun id=>List.map (AV.ren (posF outs) (orNil (mkS σ H).H outs) true some 5) (((mkS σ H).H id).getD [])) outs=IL cs::F.cellsG (· + 2)::F.conts:=by
 have hnd:(id0::id1::(List.range F.R).map g).Nodup:=by
  rw [List.nodup_cons,List.nodup_cons]
  refine ⟨fun h=>?_,fun h=>?_,D7z hg List.nodup_range⟩
  ·rcases List.mem_cons.1 h with h|h
   ·exact hl2 h
   ·obtain ⟨j,_,e⟩:=List.mem_map.1 h
    exact (hgn j).1 e.symm
  ·obtain ⟨j,_,e⟩:=List.mem_map.1 h
   exact (hgn j).2 e.symm
 have hget:∀ j,j<F.R→(id0::id1::(List.range F.R).map g)[j+2]?=some (g j):=fun j hj=>by
  rw [List.getElem?_cons_succ,List.getElem?_cons_succ,List.getElem?_map,List.getElem?_range hj];rfl
 have hp0:posF (id0::id1::(List.range F.R).map g) id0=some 0:=by unfold posF posL;exact if_pos rfl
 have hp1:posF (id0::id1::(List.range F.R).map g) id1=some 1:=C4z (k:=0) (i:=1) hnd rfl
 have hpj:∀ j,j<F.R→posF (id0::id1::(List.range F.R).map g) (g j)=some (j+2):=fun j hj=>by
  have:=C4z (k:=0) hnd (hget j hj)
  rw [Nat.zero_add] at this
  exact this
 refine ⟨id0::id1::(List.range F.R).map g,[],_,⟨hnd,fun _ _=>trivial⟩,hl,(fun _ h=>by cases h),?_,?_⟩
 ·rw [hw]
  exact hW _ _ _ _ hp0 hp1
 ·rw [List.map_cons,List.map_cons,List.map_map,show (mkS σ H).H id0=hk H id0 from rfl,show (mkS σ H).H id1=hk H id1 from rfl,hc,h0]
  congr 1
  ·exact Ckz _
  congr 1
  ·show (F.cellsG g).map _=_
   unfold Fam.cellsG
   rw [C2z]
   exact Bxz fun p hp=>F.ren_at fun j hj=>hpj j (F.ok p j hp hj)
  ·unfold Fam.conts
   refine List.map_congr_left fun j hj=>?_
   show ((hk H (g j)).getD []).map _=_
   rw [h2 j (List.mem_range.1 hj)]
   exact Ckz _
theorem ret_famP {σ:List (Nat×AV)}{H:List (Nat×List AV)}{res:List ARes}{id1 d:Nat}{cs:List Int}{F:Fam}{l:List AV}(Wr:Nat→Nat→AV)(hl:aresL (mkS σ H) res=some l)(hw:(AV.fixNil [] (tupOf l)).1=Wr 0 id1)
  (hW:∀ (ρ:Nat→Option Nat) Z b φ,ρ 0=some 0→ρ id1=some 1→AV.ren ρ Z b φ 5 (Wr 0 id1)=Wr 0 1) (hc:hk H 0=some (IL cs)) (h0:hk H id1=some (F.cellsG (fim d))) (h2:∀ j,j<F.R→hk H (fim d j)=some (IL (F.rows j))) (hlow:1≤id1∧id1<1099511627776) :
  ∃ (outs:List Nat) (nils:List (Nat×Nat)) (l:List AV),((0::outs).Nodup∧∀ id∈outs,1≤id)∧aresL (mkS σ H) res=some l∧(((mkS σ H).H 0).isSome=true∧∀ p∈nils,(mkS σ H).H p.1=none∧inN outs p.1) ∧
   AV.ren (posF (0::outs)) (orNil (mkS σ H).H outs) true some 5 (AV.fixNil nils (tupOf l)).1=Wr 0 1∧List.map (AV.ren (posF (0::outs)) (orNil (mkS σ H).H outs) true some 5) (((mkS σ H).H 0).getD [])::List.map (fun id=>List.map (AV.ren (posF (0::outs)) (orNil (mkS σ H).H outs) true some 5) (((mkS σ H).H id).getD [])) outs=IL cs::F.cellsG (· + 2)::F.conts:=by
 obtain ⟨hl1,hl2⟩:=hlow
 have hne:∀ j,0≠fim d j:=fun j e=>by have:=Bqz d j;omega
 have hne1:∀ j,id1≠fim d j:=fun j e=>by have:=Bqz d j;omega
 have hnd:(0::id1::(List.range F.R).map (fim d)).Nodup:=by
  rw [List.nodup_cons,List.nodup_cons]
  refine ⟨fun h=>?_,fun h=>?_,D7z (fun _ _=>Bkz) List.nodup_range⟩
  ·rcases List.mem_cons.1 h with h|h
   ·omega
   ·obtain ⟨j,_,e⟩:=List.mem_map.1 h
    exact hne j e.symm
  ·obtain ⟨j,_,e⟩:=List.mem_map.1 h
   exact hne1 j e.symm
 have hget:∀ j,j<F.R→(0::id1::(List.range F.R).map (fim d))[j+2]?=some (fim d j):=fun j hj=>by
  rw [List.getElem?_cons_succ,List.getElem?_cons_succ,List.getElem?_map,List.getElem?_range hj];rfl
 have hp0:posF (0::id1::(List.range F.R).map (fim d)) 0=some 0:=by unfold posF posL;exact if_pos rfl
 have hp1:posF (0::id1::(List.range F.R).map (fim d)) id1=some 1:=C4z (k:=0) (i:=1) hnd rfl
 have hpj:∀ j,j<F.R→posF (0::id1::(List.range F.R).map (fim d)) (fim d j)=some (j+2):=fun j hj=>by
  have:=C4z (k:=0) hnd (hget j hj)
  rw [Nat.zero_add] at this
  exact this
 refine ⟨id1::(List.range F.R).map (fim d),[],_,⟨hnd,fun id hid=>?_⟩,hl,⟨?_,fun _ h=>by cases h⟩,?_,?_⟩
 ·rcases List.mem_cons.1 hid with rfl|hid
  ·exact hl1
  ·obtain ⟨j,_,rfl⟩:=List.mem_map.1 hid
   have:=Bqz d j;omega
 ·show (hk H 0).isSome=true
  rw [hc];rfl
 ·rw [hw]
  exact hW _ _ _ _ hp0 hp1
 ·rw [List.map_cons,List.map_map,show (mkS σ H).H 0=hk H 0 from rfl,show (mkS σ H).H id1=hk H id1 from rfl,hc,h0]
  congr 1
  ·exact Ckz _
  congr 1
  ·show (F.cellsG (fim d)).map _=_
   unfold Fam.cellsG
   rw [C2z]
   exact Bxz fun p hp=>F.ren_at fun j hj=>hpj j (F.ok p j hp hj)
  ·unfold Fam.conts
   refine List.map_congr_left fun j hj=>?_
   show ((hk H (fim d j)).getD []).map _=_
   rw [h2 j (List.mem_range.1 hj)]
   exact Ckz _
def gN (d n a b j:Nat):Nat:=if j=n then a else if j=n+1 then b else fim d j
theorem gN_inj {d n a b:Nat}(ha:a<1099511627776)(hb:b<1099511627776)(hab:a≠b):∀ i j,gN d n a b i=gN d n a b j→i=j:=fun i j h=>by
 unfold gN at h
 have l1:=Bqz d i
 have l2:=Bqz d j
 split at h
 ·split at h
  ·omega
  ·split at h
   ·exact absurd h hab
   ·omega
 ·split at h
  ·split at h
   ·exact absurd h.symm hab
   ·split at h
    ·omega
    ·omega
  ·split at h
   ·omega
   ·split at h
    ·omega
    ·exact Bkz h
theorem gN_ne {d n a b c:Nat}(hc:c<1099511627776)(h1:c≠a)(h2:c≠b)(j:Nat):c≠gN d n a b j:=by
 unfold gN
 split
 ·exact h1
 ·split
  ·exact h2
  ·exact Epz d j c hc
end Vw
namespace VwM
open Go Vw
variable [Inhabited GlobT]
def cellN (d:Nat)(es:List Ex)(i:Nat):List AV:=row (i*5) ((esF es).atG (fim d))
theorem cellN_length (d:Nat)(es:List Ex)(i:Nat):(cellN d es i).length=i*5:=Etz ..
theorem cellN_sw {d:Nat}{es:List Ex}{i m a b:Nat}(ha:a<1099511627776)(hb:b<1099511627776)(h:i*2≤m):swL b (fim d (m+1)) (swL a (fim d m) (cellN d es i))=cellN d es i:=by
 rw [Fxz,Fxz]
 unfold cellN
 rw [C2z,C2z]
 refine Bxz fun q hq=>?_
 unfold Fam.atG
 cases e:(esF es).pat q with
 | inl v=>rcases (esF es).cell q v e with ⟨k,x,rfl⟩|⟨c,rfl⟩<;>rfl
 | inr j =>
  have hj:j<i*2:=by
   have e':patE (exPa es) (exBs es) (exOp es) q=.inr j:=e
   unfold patE at e'
   split at e'
   ·cases e'
   ·split at e'
    ·cases e'
    ·split at e'
     ·cases e'
     ·injection e' with e';omega
  simp only [AV.sw]
  rw [Bez (c:=fim d j) (Ne.symm (Epz _ _ _ ha)) (fun e'=>by have:=Bkz e';omega),Bez (c:=fim d j) (Ne.symm (Epz _ _ _ hb)) (fun e'=>by have:=Bkz e';omega)]
theorem cellN_succ {d:Nat}{es:List Ex}{i a b':Nat}{p b:Int}{x y:List Int}{o:Bool}(ha:a<1099511627776)(hb:b'<1099511627776)(hab:a≠b')(ht:es[i]?=some (p,(b,x,y),o)) :
  swL b' (fim d (i*2+1)) (swL a (fim d (i*2)) (cellN d es i++[.int .i64 p,.int .i64 b,.own a x.length 1,.own b' y.length 1,.bool o]))=cellN d es (i+1):=by
 obtain ⟨h0,h1,h2,hr0,hr1⟩:=ex_at ht
 have e:=cellN_sw (d:=d) (es:=es) (i:=i) (m:=i*2) ha hb (Nat.le_refl _)
 have e5:cellN d es (i+1)=cellN d es i++[.int .i64 p,.int .i64 b,.own (fim d (i*2)) x.length 1,.own (fim d (i*2+1)) y.length 1,.bool o]:=by
  unfold cellN
  rw [show (i+1)*5=i*5+5 by omega,row_5,eF_0,eF_1,eF_2,eF_3,eF_4,h0,h1,h2,hr0,hr1]
 have ap:∀ (u v:Nat) (l r:List AV),swL u v (l++r)=swL u v l++swL u v r:=fun u v l r=>by simp only [Fxz,List.map_append]
 rw [e5,ap,ap,e]
 congr 1
 simp only [swL,AV.sw,Icz]
 rw [Bez (Ne.symm hab) (Epz _ _ _ hb),Icz,Bez (c:=fim d (i*2)) (Ne.symm (Epz _ _ _ hb)) (fun e'=>by have:=Bkz e';omega)]
theorem cellN_inn {d:Nat}{es:List Ex}{i:Nat}{P:Nat→Bool}(h:∀ j,j<i*2→P (fim d j)=true):innL P (cellN d es i)=true:=by
 refine innL_row _ _ _ fun q hq=>?_
 unfold Fam.atG
 cases e:(esF es).pat q with
 | inl v=>rcases (esF es).cell q v e with ⟨k,x,rfl⟩|⟨c,rfl⟩<;>rfl
 | inr j =>
  have hj:j<i*2:=by
   have e':patE (exPa es) (exBs es) (exOp es) q=.inr j:=e
   unfold patE at e'
   split at e'
   ·cases e'
   ·split at e'
    ·cases e'
    ·split at e'
     ·cases e'
     ·injection e' with e';omega
  exact h j hj
theorem exR_app {es:List Ex}{e:Ex}{j:Nat}:exR (es++[e]) j=if j=es.length*2 then e.2.1.2.1 else if j=es.length*2+1 then e.2.1.2.2 else exR es j:=by
 unfold exR
 have hg:∀ i,(es++[e]).getD i (0,(0,[],[]),false)=if i=es.length then e else es.getD i (0,(0,[],[]),false):=fun i=>by
  simp only [List.getD_eq_getElem?_getD]
  by_cases h:i=es.length
  ·subst h;simp
  ·rw [if_neg h]
   by_cases h2:i<es.length
   ·rw [List.getElem?_append_left h2]
   ·rw [List.getElem?_eq_none (by simp;omega),List.getElem?_eq_none (by omega)]
 rw [hg]
 by_cases h0:j=es.length*2
 ·subst h0
  rw [if_pos (by omega),if_pos (by omega),if_pos rfl]
 ·rw [if_neg h0]
  by_cases h1:j=es.length*2+1
  ·subst h1
   rw [if_neg (by omega),if_pos (by omega),if_pos rfl]
  ·have hne:j / 2≠es.length:=by omega
   rw [if_neg h1]
   simp only [hne,if_false]
theorem app_cells {es:List Ex}{d a b':Nat}{p b:Int}{x y:List Int}{o:Bool}:(esF (es++[(p,(b,x,y),o)])).cellsG (gN d (es.length*2) a b')=(esF es).cellsG (fim d)++[.int .i64 p,.int .i64 b,.own a x.length 1,.own b' y.length 1,.bool o]:=by
 have hn:(es++[(p,(b,x,y),o)])[es.length]?=some (p,(b,x,y),o):=by simp
 obtain ⟨h0,h1,h2,hr0,hr1⟩:=ex_at hn
 unfold Fam.cellsG
 rw [show (esF (es++[(p,(b,x,y),o)])).C=es.length*5+5 by rw [eF_C,List.length_append,List.length_singleton];omega,row_5,eF_0,eF_1,eF_2,eF_3,eF_4,h0,h1,h2,hr0,hr1]
 have g0:gN d (es.length*2) a b' (es.length*2)=a:=if_pos rfl
 have g1:gN d (es.length*2) a b' (es.length*2+1)=b':=by unfold gN;rw [if_neg (by omega),if_pos rfl]
 rw [g0,g1]
 congr 1
 refine Bxz fun q hq=>?_
 have hq':q / 5<es.length:=by omega
 have e:∀ i,i<es.length→(es++[(p,(b,x,y),o)]).getD i (0,(0,[],[]),false)=es.getD i (0,(0,[],[]),false):=fun i hi=>by
  simp only [List.getD_eq_getElem?_getD]
  rw [List.getElem?_append_left hi]
 simp only [Fam.atG,eF,patE,exPa,exBs,exOp,e _ hq']
 by_cases c0:q % 5=0
 ·simp only [if_pos c0]
 ·simp only [if_neg c0]
  by_cases c1:q % 5=1
  ·simp only [if_pos c1]
  ·simp only [if_neg c1]
   by_cases c4:q % 5=4
   ·simp only [if_pos c4]
   ·simp only [if_neg c4,exR_app]
    rw [if_neg (by omega),if_neg (by omega)]
    congr 1
    unfold gN
    rw [if_neg (by omega),if_neg (by omega)]
def relE (es:List Ex)(q:Nat):List Ex:=match es[q]? with
 | some e=>es.set q (e.1,e.2.1,false)
 | none=>es
theorem relE_at {es:List Ex}{q:Nat}{e:Ex}(h:es[q]?=some e):relE es q=es.set q (e.1,e.2.1,false):=by simp only [relE,h]
theorem G8z (es:List Ex)(q:Nat):(relE es q).length=es.length:=by unfold relE;split<;>simp
theorem relE_F {es:List Ex}{q:Nat}{e:Ex}(h:es[q]?=some e):esF (relE es q)=eF es.length (exPa es) (exBs es) (upd (exOp es) q false) (exR es):=by
 have hq:q<es.length:=(List.getElem?_eq_some_iff.1 h).1
 rw [relE_at h]
 have hg:∀ i,(es.set q (e.1,e.2.1,false)).getD i (0,(0,[],[]),false)=if q=i then (e.1,e.2.1,false) else es.getD i (0,(0,[],[]),false):=fun i=>by
  simp only [List.getD_eq_getElem?_getD,List.getElem?_set]
  by_cases e1:q=i
  ·subst e1;simp [hq]
  ·simp [e1]
 have he:es.getD q (0,(0,[],[]),false)=e:=by simp [List.getD_eq_getElem?_getD,h]
 have a0:exPa (es.set q (e.1,e.2.1,false))=exPa es:=by
  funext i;unfold exPa;rw [hg];split
  ·rename_i e1;subst e1;rw [he]
  ·rfl
 have a1:exBs (es.set q (e.1,e.2.1,false))=exBs es:=by
  funext i;unfold exBs;rw [hg];split
  ·rename_i e1;subst e1;rw [he]
  ·rfl
 have a2:exOp (es.set q (e.1,e.2.1,false))=upd (exOp es) q false:=by
  funext i;unfold exOp;rw [hg];split
  ·rename_i e1;subst e1;rw [A8z]
  ·rename_i e1;rw [A7z _ _ _ _ (fun e2=>e1 e2.symm)]
 have a3:exR (es.set q (e.1,e.2.1,false))=exR es:=by
  funext i;unfold exR;rw [hg];split
  ·split
   ·rename_i e1;rw [← e1,he]
   ·rfl
  ·split
   ·rename_i e1;rw [← e1,he]
   ·rfl
 show eF (es.set q (e.1,e.2.1,false)).length _ _ _ _=_
 rw [List.length_set,a0,a1,a2,a3]
theorem EL_set (b:Bool):∀ (es:List Ex) (q:Nat) {e:Ex} (c:Bool),es[q]?=some e→(EL b es).set (q*5+4) (.bool c)=EL b (es.set q (e.1,e.2.1,c))
 | [],_,_,_,h=>by simp at h
 | w::r,0,e,c,h=>by
  simp at h
  subst h
  simp [EL]
 | w::r,q+1,e,c,h=>by
  rw [show (q+1)*5+4=q*5+4+1+1+1+1+1 by omega]
  simp only [EL,List.set_cons_succ]
  rw [EL_set b r q c (by simpa using h)]
theorem EL_rel {b:Bool}{es:List Ex}{q:Nat}{e:Ex}(h:es[q]?=some e):(EL b es).set (q*5+4) (.bool false)=EL b (relE es q):=by rw [EL_set b es q false h,relE_at h]
theorem EL_take (b:Bool){es:List Ex}{i:Nat}{e:Ex}(h:es[i]?=some e):EL b (es.take (i+1))=EL b (es.take i)++[.int .i64 e.1,.int .i64 e.2.1.1,.rows b (IL e.2.1.2.1) e.2.1.2.1.length,.rows b (IL e.2.1.2.2) e.2.1.2.2.length,.bool e.2.2]:=by
 rw [List.take_succ_eq_append_getElem (List.getElem?_eq_some_iff.1 h).1,H9z,(List.getElem?_eq_some_iff.1 h).2]
 rfl
end VwM
namespace Vw
open Go
variable [Inhabited GlobT]
theorem I2z {s:S}{pin d:Nat}{t:ByteArray}{k k':IntKind}{l h:Int}{x lo hi:Operand}(hx:s.ev x=.str t)(hl:s.ev lo=.int k l)(hh:s.ev hi=.int k' h)(hr:(0≤l∧l≤h)∧h≤(t.size:Int)):arun s pin d (.sliceS x (some lo) (some hi))=some (.str (t.extract l.toNat h.toNat),none):=by
 simp only [arun,hx,hl,hh,Option.map_some,bnd]
 rw [if_pos ⟨by omega,hr.2⟩]
 simp only
 rw [if_pos ⟨hr.1.1,by omega⟩]
theorem bsz (l:List UInt8):ByteArray.size { data:={ toList:=l } }=l.length:=rfl
theorem E4z (a b:ByteArray)(h:a.size+b.size≤1099511627776):abin .add (.str a) (.str b)=some (.str (a++b)):=by
 simp only [abin]
 rw [if_pos h]
attribute [push_cast] E4z bsz
end Vw
namespace Vw
open Go Go.Lib
def itB (n:Int):ByteArray:=⟨(itoa n).toArray⟩
abbrev dig10:ByteArray:={ data:={ toList:=[48,49,50,51,52,53,54,55,56,57] } }
theorem Flz {u:Nat}(h:u<10):decDigits u=[UInt8.ofNat (48+u)]:=by rw [decDigits,dif_pos h]
theorem Kxz {u:Nat}(h:¬ u<10):decDigits u=decDigits (u / 10)++decDigits (u % 10):=by
 rw [decDigits,dif_neg h,Flz (Nat.mod_lt u (by omega))]
theorem itB_one {n:Int}(h0:0≤n)(h:n<10):dig10.extract n.toNat (n+1).toNat=itB n:=by
 obtain ⟨u,rfl⟩:∃ u:Nat,n=u:=⟨n.toNat,by omega⟩
 have hu:u<10:=by omega
 match u,hu with
 | 0,_=>decide +kernel
 | 1,_=>decide +kernel
 | 2,_=>decide +kernel
 | 3,_=>decide +kernel
 | 4,_=>decide +kernel
 | 5,_=>decide +kernel
 | 6,_=>decide +kernel
 | 7,_=>decide +kernel
 | 8,_=>decide +kernel
 | 9,_=>decide +kernel
theorem itB_more {n:Int}(h:10≤n):itB (n.tdiv 10)++itB (n.tmod 10)=itB n:=by
 obtain ⟨u,rfl⟩:∃ u:Nat,n=u:=⟨n.toNat,by omega⟩
 have e1:(u:Int).tdiv 10=((u / 10:Nat):Int):=by rw [Int.tdiv_eq_ediv_of_nonneg (by omega)];omega
 have e2:(u:Int).tmod 10=((u % 10:Nat):Int):=by rw [Int.tmod_eq_emod_of_nonneg (by omega)];omega
 rw [e1,e2]
 apply ByteArray.ext
 rw [ByteArray.data_append]
 unfold itB itoa
 rw [if_neg (by omega),if_neg (by omega),if_neg (by omega),Int.toNat_natCast,Int.toNat_natCast,Int.toNat_natCast,Kxz (u:=u) (by omega)]
 simp
theorem itB_neg {n:Int}(h:n<0):({ data:={ toList:=[45] } }:ByteArray)++itB (-n)=itB n:=by
 apply ByteArray.ext
 rw [ByteArray.data_append]
 unfold itB itoa
 rw [if_neg (by omega),if_pos h]
 have:(-n).toNat=n.natAbs:=by omega
 rw [this]
 simp
theorem Fmz:∀ (k u:Nat),u<10 ^ (k+1)→(decDigits u).length≤k+1
 | 0,u,h=>by rw [Flz (by simpa using h)];exact Nat.le_refl _
 | k+1,u,h=>by
  by_cases h1:u<10
  ·rw [Flz h1];simp
  ·rw [decDigits,dif_neg h1,List.length_append,List.length_singleton]
   rw [Nat.pow_succ] at h
   have:=Fmz k (u / 10) (by omega)
   omega
theorem Fgz {n:Int}(h:-9223372036854775808≤n∧n≤9223372036854775807):(itB n).size≤20:=by
 show (itoa n).toArray.size≤20
 rw [List.size_toArray]
 unfold itoa
 split
 ·have:=Fmz 18 n.natAbs (by simp;omega)
  simp;omega
 ·have:=Fmz 18 n.toNat (by simp;omega)
  omega
abbrev spB:ByteArray:={ data:={ toList:=[32] } }
def txB (w:ByteArray)(xs:List Int):ByteArray:=xs.foldl (fun s x=>s++spB++itB x) w
theorem txB_snoc (w:ByteArray)(xs:List Int)(x:Int):txB w (xs++[x])=txB w xs++spB++itB x:=by unfold txB;rw [List.foldl_append];rfl
theorem txB_pre (v:ByteArray):∀ (xs:List Int) (w:ByteArray),v++txB w xs=txB (v++w) xs
 | [],_=>rfl
 | x::xs,w=>by
  have:=txB_pre v xs (w++spB++itB x)
  unfold txB at this ⊢
  simp only [List.foldl_cons]
  rw [this]
  simp only [ByteArray.append_assoc]
theorem txB_take {w:ByteArray}{xs:List Int}{i:Nat}(h:i<xs.length):txB w (xs.take i)++spB++itB (xs.getD i 0)=txB w (xs.take (i+1)):=by
 rw [List.take_succ_eq_append_getElem h,txB_snoc,List.getD_eq_getElem?_getD,List.getElem?_eq_getElem h,Option.getD_some]
theorem I6z:∀ (xs:List Int) (w:ByteArray),(∀ x∈xs,-9223372036854775808≤x∧x≤9223372036854775807)→(txB w xs).size≤w.size+xs.length*21
 | [],w,_=>by simp [txB]
 | x::xs,w,h=>by
  have h1:=I6z xs (w++spB++itB x) fun y hy=>h y (List.mem_cons_of_mem _ hy)
  have h2:=Fgz (h x List.mem_cons_self)
  have e:txB w (x::xs)=txB (w++spB++itB x) xs:=rfl
  have h3:spB.size=1:=rfl
  rw [e]
  rw [ByteArray.size_append,ByteArray.size_append,h3] at h1
  rw [List.length_cons]
  omega
end Vw
namespace Vw
open Go VwM
variable [Inhabited GlobT]
def toF (a:AV):AV:=match a with
 | .val (.slice none 0 0)=>.rows false [] 0
 | .rows true cs n=>.rows false cs n
 | a=>a
def toFL (T:List Nat)(H:List (Nat×List AV)):List (Nat×List AV):=H.map fun p=>if T.contains p.1 then (p.1,p.2.map toF) else p
theorem hk_toFL (T:List Nat):∀ (H:List (Nat×List AV)) (i:Nat),hk (toFL T H) i=hk H i∨hk (toFL T H) i=(hk H i).map (List.map toF)
 | [],_=>.inl rfl
 | p::r,i=>by
  have ih:=hk_toFL T r i
  simp only [toFL,List.map_cons] at ih ⊢
  by_cases hc:T.contains p.1=true
  ·rw [if_pos hc]
   simp only [hk]
   by_cases ht:i=p.1
   ·rw [if_pos ht,if_pos ht];exact .inr rfl
   ·rw [if_neg ht,if_neg ht];exact ih
  ·rw [if_neg hc]
   simp only [hk]
   by_cases ht:i=p.1
   ·rw [if_pos ht,if_pos ht];exact .inl rfl
   ·rw [if_neg ht,if_neg ht];exact ih
theorem toF_isSp (a:AV):(toF a).isSp=a.isSp:=by unfold toF;split<;>rfl
theorem spL_toF (cs:List AV):spL (cs.map toF)=spL cs:=by
 unfold spL
 rw [List.any_map]
 congr 1
 funext a
 exact toF_isSp a
theorem Den.toF {C:Ctx}(hok:∀ g,C.ok true g→C.ok false g){a:AV}{v:Value}(h:Den C a v):Den C (toF a) v:=by
 unfold Vw.toF
 split
 ·simp only [Den] at h ⊢
  subst h
  simp [EmptyS]
 ·simp only [Den] at h ⊢
  rcases h with h|⟨g,o,cap,cur,e,fz,h1,h2,h3,h4,h5⟩
  ·exact .inl h
  ·exact .inr ⟨g,o,cap,cur,e,fz,h1,h2,hok g h3,h4,h5⟩
 ·exact h
theorem SubW.toF {pin:Nat}{σ:List (Nat×AV)}{H:List (Nat×List AV)}{s':S}(T:List Nat)(h:SubW pin (mkS σ (toFL T H)) s'):SubW pin (mkS σ H) s':=fun E M x w hp hst=>by
 have hok1:HOK (E.C M (hk H) w):=hst.hok
 have hd:∀ i,hk (toFL T H) i=hk H i∨hk (toFL T H) i=(hk H i).map (List.map Vw.toF):=hk_toFL T H
 have hcok:∀ g,(E.C M (hk (toFL T H)) w).ok true g→(E.C M (hk (toFL T H)) w).ok false g:=fun g hg=>by
  exact ⟨hg.1,hg.2.1,fun h=>by cases h⟩
 have k:Keeps (E.C M (hk H) w) (E.C M (hk (toFL T H)) w):=by
  refine ⟨fun _ _ _=>rfl,fun _ _ h=>h,fun _ _ h=>h,fun _ _ h=>h,fun i cs hc=>?_,fun i cs cs' hc hc' hl g hg cur e hb=>⟨cur,e,hb,rfl⟩,fun i cs cs' hc hc'=>?_,Nat.le_refl _⟩
  ·have hc0:hk H i=some cs:=hc
   rcases hd i with e|e
   ·exact ⟨cs,e.trans hc0,Nat.le_refl _,fun _=>rfl⟩
   ·exact ⟨cs.map Vw.toF,by show hk _ i=_;rw [e,hc0];rfl,by simp,fun _=>rfl⟩
  ·have hc0:hk H i=some cs:=hc
   have hc1:hk (toFL T H) i=some cs':=hc'
   rcases hd i with e|e
   ·rw [e,hc0] at hc1;injection hc1 with hc1;subst hc1;exact ⟨rfl,fun _=>rfl⟩
   ·rw [e,hc0] at hc1;injection hc1 with hc1;subst hc1;exact ⟨spL_toF cs,fun _=>rfl⟩
 refine h E M x w hp ⟨hst.defers.keeps k,hst.size,fun t=>Den.keeps k (hst.slots t),⟨fun i cs hc=>?_,fun i hn=>?_,hok1.inj⟩,hst.old⟩
 ·have hc1:hk (toFL T H) i=some cs:=hc
  rcases hd i with e|e
  ·rw [e] at hc1
   rcases hok1.hasX i cs hc1 with (hh|⟨g,cur,ee,a,b,c⟩)|hs
   ·exact .inl (.inl hh)
   ·exact .inl (.inr ⟨g,cur,ee,a,b,DenP.keeps k c⟩)
   ·exact .inr (hs.keeps k hc1 (e.trans hc1) fun _ _=>rfl)
  ·rw [e] at hc1
   cases hq:hk H i with
   | none=>rw [hq] at hc1;cases hc1
   | some cs0 =>
    rw [hq] at hc1
    injection hc1 with hc1
    subst hc1
    rcases hok1.hasX i cs0 hq with (⟨a,b⟩|⟨g,cur,ee,a,b,c⟩)|hs
    ·exact .inl (.inl ⟨a,by rw [b];rfl⟩)
    ·exact .inl (.inr ⟨g,cur,ee,a,b,Bgz (fun a v h=>Den.toF hcok h) (DenP.keeps k c)⟩)
    ·have hs0:=hs
     obtain ⟨g,ids,f,o,he,_⟩:=hs0
     subst he
     have e3:hk (toFL T H) i=some [AV.sp ids f]:=by rw [e,hq];rfl
     show _∨SpOk _ i ([AV.sp ids f].map Vw.toF)
     rw [show [AV.sp ids f].map Vw.toF=[AV.sp ids f] from rfl]
     exact .inr (hs.keeps k hq e3 fun _ _=>rfl)
 ·have hn0:hk (toFL T H) i=none:=hn
  have hn1:hk H i=none:=by
   rcases hd i with e|e
   ·rw [← e];exact hn0
   ·rw [e] at hn0
    cases hq:hk H i with
    | none=>rfl
    | some cs=>rw [hq] at hn0;cases hn0
  exact hok1.no i hn1
end Vw
namespace VwM
open Go Vw
variable [Inhabited GlobT]
theorem toF_EL (c:Bool):∀ es:List Ex,(EL c es).map toF=EL false es
 | []=>rfl
 | e::r=>by
  simp only [EL,List.map_cons,toF_EL c r]
  cases c<;>rfl
end VwM
namespace VwM
open Vw Go

end VwM
namespace VwM
open Vw Go

end VwM
namespace VwM
open Vw
open Go

def kpF (p:Int→Bool)(X:List Int)(j:Nat):List Int:=(X.take j).filter fun x=>!p x
def sF (p:Int→Bool)(X:List Int)(j:Nat):List Int:=kpF p X j++X.drop (kpF p X j).length
end VwM
namespace VwM
open Go Vw

end VwM
namespace VwM
open Go Vw
theorem idxF_three (a b c d:Nat)(r:List Nat):idxF (a::b::c::d::r) 3=some d:=rfl
theorem idxF_four (a b c d e:Nat)(r:List Nat):idxF (a::b::c::d::e::r) 4=some e:=rfl
theorem idxF_five (a b c d e f:Nat)(r:List Nat):idxF (a::b::c::d::e::f::r) 5=some f:=rfl
attribute [push_cast] idxF_three idxF_four idxF_five
end VwM
namespace VwM
open Go Vw
theorem news_4 (d:Nat):news (some d) 4=[16*d,16*d+1,16*d+2,16*d+3]:=rfl
theorem news_5 (d:Nat):news (some d) 5=[16*d,16*d+1,16*d+2,16*d+3,16*d+4]:=rfl
theorem freshC_4 {pin:Nat}(H:List (Nat×List AV))(d:Nat):freshC pin H (some d) 4=(freshD H d∧pin≤16*d):=by simp [freshC]
theorem freshC_5 {pin:Nat}(H:List (Nat×List AV))(d:Nat):freshC pin H (some d) 5=(freshD H d∧pin≤16*d):=by simp [freshC]
attribute [push_cast] news_4 news_5 freshC_4 freshC_5
end VwM
