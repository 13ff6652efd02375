/- The mathematics of ranges,slices,shapes and indices that the contracts speak of. -/
import Derived.Test.YtjmcjjbhkiebkaaDoorCW3
set_option linter.unusedSimpArgs false
set_option linter.unusedSectionVars false
set_option linter.unusedVariables false
set_option maxRecDepth 4000
set_option linter.unnecessarySimpa false
namespace VwM
open Vw
open Go

abbrev IL (xs:List Int):List AV:=xs.map (AV.int .i64)
abbrev RI (xs:List Int):AV:=.rows false (IL xs) xs.length
abbrev OI (xs:List Int):AV→List (List AV)→Prop:=fun r H'=>r=.own 0 xs.length 1∧H'=[IL xs]
theorem mkAV_ints0 (k:IntKind)(xs:List Int):mkAV false ((xs.map (AV.int k)).take 1)=if 0<xs.length then some (.int k (xs.getD 0 0)) else none:=by
 haveI:Inhabited GlobT:=⟨⟨[]⟩⟩
 have:=E6z k xs 0
 rwa [List.drop_zero] at this
attribute [push_cast] E6z mkAV_ints0


theorem Ecz {xs ys:List Int}(hl:xs.length=ys.length)(h:∀ j:Nat,j<xs.length→xs.getD j 0=ys.getD j 0):xs=ys:=by
 refine List.ext_getElem hl fun i h1 h2=>?_
 have:=h i h1
 simpa [List.getD,h1,h2] using this


def upFrom (k:Int)(n:Nat):List Int:=(List.range n).map fun i:Nat=>k+(i:Int)
theorem Dtz (k:Int)(n:Nat):(upFrom k n).length=n:=by simp [upFrom]
theorem upFrom_getD (k:Int)(n i:Nat)(h:i<n):(upFrom k n).getD i 0=k+i:=by simp [upFrom,h,List.getD]
attribute [simp] Dtz
attribute [push_cast] Dtz
def marked (k:Int)(xs:List Int)(j:Nat):List Int:=upFrom k j++xs.drop j
theorem marked_zero (k:Int)(xs:List Int):marked k xs 0=xs:=by simp [marked,upFrom]
theorem G4z (k:Int)(xs:List Int)(j:Nat)(h:j≤xs.length):(marked k xs j).length=xs.length:=by simp [marked];omega
theorem marked_set (k:Int)(xs:List Int)(j:Nat)(h:j<xs.length):(marked k xs j).set j (k+j)=marked k xs (j+1):=by
 refine List.ext_getElem? fun i=>?_
 simp only [marked,upFrom,List.getElem?_set,List.getElem?_append,List.length_map,List.length_range,List.length_append,List.length_drop,List.getElem?_map,List.getElem?_drop]
 by_cases h1:j=i
 ·subst h1;simp [h];omega
 ·by_cases h2:i<j
  ·simp [h1,h2,Nat.lt_succ_of_lt h2]
  ·have h3:¬ i<j+1:=by omega
   simp only [if_neg h1,if_neg h2,if_neg h3]
   congr 1;omega
theorem marked_all (k:Int)(xs:List Int):marked k xs xs.length=upFrom k xs.length:=by simp [marked]


theorem Bqz {x y:Int}(hy:0<y)(hx:0≤x):0≤x.tdiv y∧x.tdiv y≤x:=by
 rw [Int.tdiv_eq_ediv_of_nonneg hx]
 exact ⟨Int.ediv_nonneg hx (by omega),Int.ediv_le_self _ hx⟩
def nums (a c:Int)(k:Nat):List Int:=(List.range k).map fun i:Nat=>a+(i:Int)*c
theorem E3z (a c:Int)(k:Nat):(nums a c k).length=k:=by simp [nums]
attribute [simp] E3z
attribute [push_cast] E3z
def filled (g:Nat→Int)(n j:Nat):List Int:=(List.range n).map fun i=>if i<j then g i else 0
theorem filled_zero (g:Nat→Int)(n:Nat):filled g n 0=List.replicate n 0:=by
 refine List.ext_getElem? fun i=>?_
 by_cases h:i<n<;>simp [filled,h]
theorem D2z (g:Nat→Int)(n j:Nat):(filled g n j).length=n:=by simp [filled]
attribute [simp] D2z
attribute [push_cast] D2z
theorem filled_set (g:Nat→Int)(n j:Nat)(h:j<n):(filled g n j).set j (g j)=filled g n (j+1):=by
 refine List.ext_getElem? fun i=>?_
 simp only [filled,List.getElem?_set,List.length_map,List.length_range,List.getElem?_map]
 by_cases h1:j=i
 ·subst h1;simp [h]
 ·by_cases h2:i<n
  ·simp only [List.getElem?_range h2,Option.map_some,if_neg h1]
   congr 1
   by_cases h3:i<j
   ·rw [if_pos h3,if_pos (by omega)]
   ·rw [if_neg h3,if_neg (by omega)]
  ·simp [h1,h2]
theorem filled_all (g:Nat→Int)(n:Nat):filled g n n=(List.range n).map g:=by
 refine List.map_congr_left fun i hi=>?_
 rw [if_pos (List.mem_range.1 hi)]
theorem Bdz (xs:List Int)(j:Nat)(v:Int):(IL xs).set j (.int .i64 v)=IL (xs.set j v):=by simp [IL,List.map_set]
theorem toNat_succ (k:Nat):((k:Int)+1).toNat=k+1:=by omega
theorem IL_tail (k:IntKind)(xs:List Int)(j:Nat):(((xs.map (AV.int k)).drop j).take (xs.length-j))=(xs.drop j).map (AV.int k):=by
 rw [← List.map_drop,← List.map_take]
 congr 1
 exact List.take_of_length_le (by simp)
attribute [push_cast] toNat_succ IL_tail
def pr (xs:List Int):Int:=xs.foldl (· * ·) 1
theorem Fzz (xs:List Int)(k:Nat)(h:k<xs.length):xs.take (k+1)=xs.take k++[xs.getD k 0]:=by
 rw [List.take_succ_eq_append_getElem h];simp [List.getD,h]
theorem drop_getD (xs:List Int)(k:Nat)(h:k<xs.length):xs.drop k=xs.getD k 0::xs.drop (k+1):=by
 rw [List.drop_eq_getElem_cons h];simp [List.getD,h]
theorem filled_getD (xs:List Int):(List.range xs.length).map (fun i:Nat=>xs.getD i 0)=xs:=by
 refine List.ext_getElem (by simp) fun i h1 h2=>?_
 simp [List.getD,h2]



def rowS (sh:List Int):List Int:=(List.range sh.length).map fun i:Nat=>pr (sh.drop (i+1))
def colS (sh:List Int):List Int:=(List.range sh.length).map fun i:Nat=>pr (sh.take i)
theorem Exz (sh:List Int):(rowS sh).length=sh.length:=by simp [rowS]
theorem Ftz (sh:List Int):(colS sh).length=sh.length:=by simp [colS]
attribute [simp] Exz Ftz
attribute [push_cast] Exz Ftz
def filledD (g:Nat→Int)(n k:Nat):List Int:=(List.range n).map fun i=>if n-k≤i then g i else 0
theorem Dfz (g:Nat→Int)(n k:Nat):(filledD g n k).length=n:=by simp [filledD]
attribute [simp] Dfz
attribute [push_cast] Dfz
theorem down_nat (n k:Nat)(h:k<n):((n:Int)-1-(k:Int)).toNat=n-1-k:=by omega



def kS (sh:List Int)(k:Int):Nat→Int
 | 0=>k
 | j+1=>(kS sh k j).tdiv (sh.getD (sh.length-1-j) 0)
def dig (sh:List Int)(k:Int)(i:Nat):Int:=(kS sh k (sh.length-1-i)).tmod (sh.getD i 0)
def unr (sh:List Int)(k:Int):List Int:=(List.range sh.length).map (dig sh k)
theorem F5z (sh:List Int)(k:Int):(unr sh k).length=sh.length:=by simp [unr]
attribute [simp] F5z
attribute [push_cast] F5z
def pad4 (f:Nat→Int):List Int:=[f 0,f 1,f 2,f 3]
theorem E1z (f:Nat→Int):(pad4 f).length=4:=rfl
theorem Gwz (a b c d:AV)(f:Nat→Int):setRange [a,b,c,d] 0 ((pad4 f).map (AV.int .i64))=(pad4 f).map (AV.int .i64):=by simp [pad4,setRange]
theorem F1z (g f:Nat→Int):setRange ((pad4 g).map (AV.int .i64)) 0 ((pad4 f).map (AV.int .i64))=(pad4 f).map (AV.int .i64):=by simp [pad4,setRange]
theorem take_pad4 (f:Nat→Int):((pad4 f).map (AV.int .i64)).take 4=(pad4 f).map (AV.int .i64):=by simp [pad4]
attribute [simp] E1z
attribute [push_cast] E1z Gwz F1z take_pad4
end VwM
namespace VwM
open Vw
open Go

theorem mem_getD {xs:List Int}{x:Int}:x∈xs↔∃ j,j<xs.length∧xs.getD j 0=x:=by
 constructor
 ·intro h
  obtain ⟨i,hi,e⟩:=List.getElem_of_mem h
  exact ⟨i,hi,by simp [List.getD,hi,e]⟩
 ·rintro ⟨j,hj,rfl⟩
  simp [List.getD,hj]
theorem Haz {xs:List Int}{j:Nat}(h:j<xs.length):xs.getD j 0∈xs:=mem_getD.2 ⟨j,h,rfl⟩
def revT (xs:List Int)(k:Nat):List Int:=xs.reverse.take k
theorem revT_zero (xs:List Int):revT xs 0=[]:=rfl
theorem revT_length (xs:List Int)(k:Nat)(h:k≤xs.length):(revT xs k).length=k:=by simp [revT];omega
theorem revT_succ (xs:List Int)(k:Nat)(h:k<xs.length):revT xs (k+1)=revT xs k++[xs.getD (xs.length-1-k) 0]:=by
 unfold revT
 rw [Fzz _ _ (by simpa using h)]
 congr 2
 rw [List.getD,List.getD,List.getElem?_reverse h]
theorem revT_all (xs:List Int):revT xs xs.length=xs.reverse:=by simp [revT,List.take_of_length_le]
theorem plainI [Inhabited GlobT]{P:Program}{f:Nat}{args:List AV}{xs:List Int}(h:BCall P f args [] (OI xs)):PCall P f args (fun r=>r=.rows true (IL xs) xs.length):=by
 refine (BCall.plain h).mono ?_
 rintro r ⟨r0,H',⟨rfl,rfl⟩,rfl⟩
 simp [AV.ren,nthH,List.map_map,Function.comp_def]
end VwM
namespace VwM
open Vw
open Go

def mxL (xs:List Int):Nat→Int
 | 0=>xs.getD 0 0
 | k+1=>max (mxL xs k) (xs.getD k 0)
theorem mxL_spec {xs:List Int}(h:0<xs.length):∀ k,k≤xs.length→mxL xs k∈xs∧∀ j,j<k→xs.getD j 0≤mxL xs k
 | 0,_=>⟨Haz h,fun j hj=>by omega⟩
 | k+1,hk=>by
  have ih:=mxL_spec h k (by omega)
  simp only [mxL]
  have:=Haz (xs:=xs) (j:=k) (by omega)
  constructor
  ·rcases Int.le_total (mxL xs k) (xs.getD k 0) with h1|h1
   ·rw [Int.max_eq_right h1];exact this
   ·rw [Int.max_eq_left h1];exact ih.1
  ·intro j hj
   by_cases h1:j=k
   ·subst h1;omega
   ·have:=ih.2 j (by omega);omega
end VwM
namespace VwM
open Vw
open Go

theorem mkAV_bools (bs:List Bool)(off:Nat):mkAV false (((bs.map AV.bool).drop off).take 1)=if off<bs.length then some (.bool (bs.getD off false)) else none:=by
 by_cases h:off<bs.length
 ·rw [if_pos h,List.drop_eq_getElem_cons (by simpa using h)]
  simp [mkAV,h,List.getD]
 ·rw [if_neg h,List.drop_eq_nil_of_le (by simp;omega)]
  rfl
attribute [push_cast] mkAV_bools
def met (xs:List Int)(k:Nat):List Bool:=(List.range 60).map fun c:Nat=>decide ((c:Int)∈xs.take k)
end VwM
namespace VwM
open Vw
open Go

def unI:List AV→List Int
 | []=>[]
 | .int _ n::r=>n::unI r
 | _::r=>0::unI r
theorem unI_nil:unI []=[]:=rfl
theorem unI_cons (k:IntKind)(n:Int)(r:List AV):unI (.int k n::r)=n::unI r:=rfl
theorem unI_IL (xs:List Int):unI (IL xs)=xs:=by
 induction xs with
 | nil=>rfl
 | cons x r ih=>show x::unI (IL r)=_;rw [ih]
attribute [simp] unI_nil unI_cons unI_IL
end VwM
namespace VwM
open Vw
open Go

end VwM
namespace VwM
open Vw
open Go

end VwM
namespace VwM
open Vw
open Go

end VwM
namespace VwM
open Vw Go




end VwM
namespace VwM
open Go Vw

def rup (n b:Int):Int:=(n+b-1).tdiv b*b
def alg (al:Bool)(n s:Int):Int:=if al=true then rup n s else n
def fE (al:Bool)(s:List Int):Nat→Int
 | 0=>0
 | k+1=>alg al (fE al s k) (s.getD k 0)+s.getD k 0
def fP (al:Bool)(s:List Int)(k:Nat):Int:=alg al (fE al s k) (s.getD k 0)
def fM (al:Bool)(s:List Int):Nat→Int
 | 0=>1
 | k+1=>if al=true then max (fM al s k) (s.getD k 0) else fM al s k
def fN (al:Bool)(s:List Int):Int:=rup (fE al s s.length) (fM al s s.length)
def fPL (al:Bool)(s:List Int):List Int:=(List.range s.length).map (fP al s)
def szO (x:Int):Bool:=decide (x=1) || decide (x=2) || decide (x=4)
def vF (s:List Int):Bool:=s.all szO&&decide (1≤s.length)&&decide (s.length≤5)

theorem Gqz {x:Int}:szO x=true↔x=1∨x=2∨x=4:=by simp [szO,or_assoc]
theorem Bhz {s:List Int}:vF s=true↔(∀ i,i<s.length→s.getD i 0=1∨s.getD i 0=2∨s.getD i 0=4)∧1≤s.length∧s.length≤5:=by
 simp only [vF,Bool.and_eq_true,decide_eq_true_eq,List.all_eq_true,Gqz,and_assoc]
 refine and_congr_left fun _=>⟨fun h i hi=>h _ (Haz hi),fun h x hx=>?_⟩
 obtain ⟨i,hi,rfl⟩:=List.getElem_of_mem hx
 have:=h i hi
 simpa [List.getD,hi] using this
theorem vF_bad {s:List Int}{i:Nat}(hi:i<s.length)(h:szO (s.getD i 0)=false):vF s=false:=by
 rw [Bool.eq_false_iff]
 intro h'
 have:=Gqz.2 ((Bhz.1 h').1 i hi)
 rw [h] at this
 cases this
theorem vF_len {s:List Int}(h:¬ (1≤s.length∧s.length≤5)):vF s=false:=by
 rw [Bool.eq_false_iff];exact fun h'=>h (Bhz.1 h').2

theorem rup_one (n:Int):rup n 1=n:=by simp [rup]
theorem Gyz {n b:Int}(hn:0≤n)(hb:b=1∨b=2∨b=4):n≤rup n b∧rup n b<n+b∧rup n b % b=0:=by
 have h:(n+b-1).tdiv b=(n+b-1) / b:=Int.tdiv_eq_ediv_of_nonneg (by omega)
 unfold rup
 rw [h]
 rcases hb with rfl|rfl|rfl<;>omega
theorem alg_spec {al:Bool}{n b:Int}(hn:0≤n)(hb:b=1∨b=2∨b=4):n≤alg al n b∧alg al n b<n+b:=by
 unfold alg
 split
 ·exact ⟨(Gyz hn hb).1,(Gyz hn hb).2.1⟩
 ·omega
theorem Daz {al:Bool}{s:List Int}(h:∀ i,i<s.length→s.getD i 0=1∨s.getD i 0=2∨s.getD i 0=4):∀ k,k≤s.length→0≤fE al s k∧fE al s k≤7*(k:Int)
 | 0,_=>by simp [fE]
 | k+1,hk=>by
  have ih:=Daz (al:=al) h k (by omega)
  have h1:=alg_spec (al:=al) ih.1 (h k (by omega))
  have h2:=h k (by omega)
  simp only [fE]
  rcases h2 with h2|h2|h2<;>rw [h2] at h1 ⊢<;>omega
theorem C9z {al:Bool}{s:List Int}(h:∀ i,i<s.length→s.getD i 0=1∨s.getD i 0=2∨s.getD i 0=4)(k:Nat)(hk:k<s.length):fE al s k≤fP al s k∧fP al s k<fE al s k+s.getD k 0∧fE al s (k+1)=fP al s k+s.getD k 0∧0≤fP al s k∧fP al s k≤7*(k:Int)+3:=by
 have h0:=Daz (al:=al) h k (by omega)
 have h1:=alg_spec (al:=al) h0.1 (h k hk)
 have h2:=h k hk
 refine ⟨h1.1,h1.2,rfl,?_,?_⟩<;>unfold fP<;>omega
theorem fE_mono {al:Bool}{s:List Int}(h:∀ i,i<s.length→s.getD i 0=1∨s.getD i 0=2∨s.getD i 0=4)(j:Nat):∀ k,j≤k→k≤s.length→fE al s j≤fE al s k
 | 0,h1,_=>by rw [show j=0 by omega];omega
 | k+1,h1,h2=>by
  rcases Nat.lt_or_ge k j with hj|hj
  ·rw [show j=k+1 by omega];omega
  ·have:=fE_mono (al:=al) h j k hj (by omega)
   have:=C9z (al:=al) h k (by omega)
   have:=h k (by omega)
   omega
theorem fM_or {al:Bool}{s:List Int}(h:∀ i,i<s.length→s.getD i 0=1∨s.getD i 0=2∨s.getD i 0=4):∀ k,k≤s.length→fM al s k=1∨fM al s k=2∨fM al s k=4
 | 0,_=>.inl rfl
 | k+1,hk=>by
  have ih:=fM_or (al:=al) h k (by omega)
  have h2:=h k (by omega)
  simp only [fM]
  split
  ·omega
  ·exact ih
theorem fM_not (s:List Int):∀ k,fM false s k=1
 | 0=>rfl
 | k+1=>by simp [fM,fM_not s k]
theorem fM_max {s:List Int}(h:∀ i,i<s.length→s.getD i 0=1∨s.getD i 0=2∨s.getD i 0=4):∀ k,k+1≤s.length→fM true s (k+1)=mxL s (k+1)
 | 0,hk=>by
  have:=h 0 (by omega)
  simp only [fM,mxL,if_true]
  omega
 | k+1,hk=>by
  have ih:=fM_max h k (by omega)
  rw [fM,if_pos rfl,ih]
  simp [mxL]
theorem fN_bound {al:Bool}{s:List Int}(hv:vF s=true):fE al s s.length≤fN al s∧1≤fN al s∧fN al s≤38∧fN al s<fE al s s.length+fM al s s.length:=by
 obtain ⟨h,h1,h2⟩:=Bhz.1 hv
 have h3:=Daz (al:=al) h s.length (Nat.le_refl _)
 have h4:=fM_or (al:=al) h s.length (Nat.le_refl _)
 have h5:=Gyz h3.1 h4
 have h6:=C9z (al:=al) h (s.length-1) (by omega)
 rw [show s.length-1+1=s.length by omega] at h6
 have h7:=h (s.length-1) (by omega)
 unfold fN
 omega
theorem fN_alg {al:Bool}{s:List Int}(hv:vF s=true):alg al (fE al s s.length) (mxL s s.length)=fN al s:=by
 obtain ⟨h,h1,h2⟩:=Bhz.1 hv
 unfold alg fN
 cases al with
 | false=>simp [fM_not,rup_one]
 | true =>
  have:=fM_max h (s.length-1) (by omega)
  rw [show s.length-1+1=s.length by omega] at this
  simp [this]
theorem Ghz (al:Bool)(s:List Int):(fPL al s).length=s.length:=by simp [fPL]
theorem fPL_getD {al:Bool}{s:List Int}{k:Nat}(h:k<s.length):(fPL al s).getD k 0=fP al s k:=by simp [fPL,List.getD,h]

def fL2 (al:Bool)(s:List Int):Nat→List Int
 | 0=>[]
 | k+1=>fL2 al s k++[fP al s k,s.getD k 0]
def fZ2 (al:Bool)(s:List Int)(k:Nat):List Int:=fL2 al s k++List.replicate ((s.length-k)*2) 0
theorem Bfz (al:Bool)(s:List Int):∀ k,(fL2 al s k).length=k*2
 | 0=>rfl
 | k+1=>by simp [fL2,Bfz al s k];omega
theorem Ggz (al:Bool)(s:List Int)(k:Nat)(h:k≤s.length):(fZ2 al s k).length=s.length*2:=by simp [fZ2,Bfz];omega
theorem fZ2_zero (al:Bool)(s:List Int):fZ2 al s 0=List.replicate (s.length*2) 0:=by simp [fZ2,fL2]
theorem fZ2_all (al:Bool)(s:List Int):fZ2 al s s.length=fL2 al s s.length:=by simp [fZ2]
theorem Foz {al:Bool}{s:List Int}:∀ {n k:Nat},k<n→(fL2 al s n).getD (k*2) 0=fP al s k∧(fL2 al s n).getD (k*2+1) 0=s.getD k 0
 | n+1,k,h=>by
  have hl:=Bfz al s n
  rcases Nat.lt_or_ge k n with hk|hk
  ·obtain ⟨h1,h2⟩:=Foz (al:=al) (s:=s) hk
   simp only [fL2,List.getD] at *
   rw [List.getElem?_append_left (by omega),List.getElem?_append_left (by omega)]
   exact ⟨h1,h2⟩
  ·have:k=n:=by omega
   subst this
   simp only [fL2,List.getD]
   rw [List.getElem?_append_right (by omega),List.getElem?_append_right (by omega),hl]
   simp
theorem fZ2_set {al:Bool}{s:List Int}{k:Nat}(h:k<s.length):((fZ2 al s k).set (k*2) (fP al s k)).set (k*2+1) (s.getD k 0)=fZ2 al s (k+1):=by
 have hl:=Bfz al s k
 unfold fZ2
 rw [show (s.length-k)*2=(s.length-(k+1))*2+1+1 by omega,List.replicate_succ,List.replicate_succ]
 rw [List.set_append_right _ _ (by omega),hl,Nat.sub_self,List.set_cons_zero,List.set_append_right _ _ (by omega),hl]
 rw [show k*2+1-k*2=0+1 by omega,List.set_cons_succ,List.set_cons_zero]
 simp [fL2]

def shB (v:Int):Nat→Int
 | 0=>v
 | k+1=>(shB v k).tdiv 256
def byt (v:Int)(k:Nat):Int:=(shB v k).tmod 256
theorem Cnz {v:Int}(h:0≤v):∀ k,0≤shB v k∧shB v k≤v
 | 0=>⟨h,Int.le_refl _⟩
 | k+1=>by
  have ih:=Cnz h k
  have:=Bqz (x:=shB v k) (y:=256) (by omega) ih.1
  simp only [shB]
  omega
theorem Fuz {v:Int}(h:0≤v)(k:Nat):0≤byt v k∧byt v k≤255:=by
 have h1:=(Cnz h k).1
 have h5:=Int.tmod_lt_of_pos (shB v k) (b:=256) (by omega)
 exact ⟨Int.tmod_nonneg 256 h1,by unfold byt;omega⟩
def pw (z:Nat):Int:=256 ^ z
theorem pw_zero:pw 0=1:=rfl
theorem pw_succ (k:Nat):pw (k+1)=pw k*256:=Int.pow_succ ..
theorem Caz {k:Nat}(h:k≤4):1≤pw k∧pw k≤4294967296:=by
 rcases (by omega:k=0∨k=1∨k=2∨k=3∨k=4) with rfl|rfl|rfl|rfl|rfl<;>decide
def vI (s vs:List Int):Bool:=decide (vs.length=s.length)&&(List.range vs.length).all fun i=>decide (0≤vs.getD i 0)&&decide (vs.getD i 0≤pw (s.getD i 0).toNat-1)
theorem Esz {s vs:List Int}:vI s vs=true↔vs.length=s.length∧∀ i,i<vs.length→0≤vs.getD i 0∧vs.getD i 0≤pw (s.getD i 0).toNat-1:=by simp [vI]
theorem vI_bad {s vs:List Int}{i:Nat}(hi:i<vs.length)(h:¬ (0≤vs.getD i 0∧vs.getD i 0≤pw (s.getD i 0).toNat-1)):vI s vs=false:=by
 rw [Bool.eq_false_iff];exact fun h'=>h ((Esz.1 h').2 i hi)
theorem vI_len {s vs:List Int}(h:¬ vs.length=s.length):vI s vs=false:=by
 rw [Bool.eq_false_iff];exact fun h'=>h (Esz.1 h').1

def plc (big:Bool)(z k:Nat):Nat:=if big=true then z-1-k else k
def wrK (L:List Int)(big:Bool)(p z:Nat)(v:Int):Nat→List Int
 | 0=>L
 | k+1=>(wrK L big p z v k).set (p+plc big z k) (byt v k)
def wsK (L:List Int)(big:Bool)(p z:Nat)(v:Int):Nat→List Int
 | 0=>L
 | k+1=>(wsK L big p z v k).set (p+k) (byt v (plc big z k))
theorem Bez (L:List Int)(big:Bool)(p z:Nat)(v:Int):∀ k,(wrK L big p z v k).length=L.length
 | 0=>rfl
 | k+1=>by simp [wrK,Bez L big p z v k]
theorem C0z (L:List Int)(big:Bool)(p z:Nat)(v:Int):∀ k,(wsK L big p z v k).length=L.length
 | 0=>rfl
 | k+1=>by simp [wsK,C0z L big p z v k]
theorem wrK_getD {L:List Int}{big:Bool}{p z:Nat}{v:Int}(hz:p+z≤L.length):∀ k,k≤z→∀ x,(wrK L big p z v k).getD x 0=if p≤x∧x<p+z∧plc big z (x-p)<k then byt v (plc big z (x-p)) else L.getD x 0
 | 0,_,x=>by simp [wrK]
 | k+1,hk,x=>by
  have ih:=wrK_getD (v:=v) (big:=big) hz k (by omega) x
  have hl:=Bez L big p z v k
  have hp:p+plc big z k<L.length:=by unfold plc;split<;>omega
  simp only [wrK,List.getD] at ih ⊢
  by_cases hx:p+plc big z k=x
  ·have hq:plc big z (x-p)=k:=by
    subst hx
    unfold plc
    split<;>simp_all<;>omega
   rw [hx,List.getElem?_set_self (by omega),if_pos (by refine ⟨by omega,?_,by omega⟩;subst hx;unfold plc;split<;>omega),hq]
   rfl
  ·rw [List.getElem?_set_ne hx,ih]
   have:(p≤x∧x<p+z∧plc big z (x-p)<k+1)↔(p≤x∧x<p+z∧plc big z (x-p)<k):=by
    refine and_congr_right fun h1=>and_congr_right fun h2=>⟨fun h=>?_,fun h=>by omega⟩
    have:plc big z (x-p)≠k:=by
     intro h3
     apply hx
     subst h3
     unfold plc
     split<;>simp_all<;>omega
    omega
   simp only [this]
theorem wsK_getD {L:List Int}{big:Bool}{p z:Nat}{v:Int}(hz:p+z≤L.length):∀ k,k≤z→∀ x,(wsK L big p z v k).getD x 0=if p≤x∧x<p+k then byt v (plc big z (x-p)) else L.getD x 0
 | 0,_,x=>by rw [if_neg (by omega)];rfl
 | k+1,hk,x=>by
  have ih:=wsK_getD (v:=v) (big:=big) hz k (by omega) x
  have hl:=C0z L big p z v k
  simp only [wsK,List.getD] at ih ⊢
  by_cases hx:p+k=x
  ·rw [hx,List.getElem?_set_self (by omega),if_pos (by omega),show x-p=k by omega]
   rfl
  ·rw [List.getElem?_set_ne hx,ih]
   have:(p≤x∧x<p+(k+1))↔(p≤x∧x<p+k):=by omega
   simp only [this]
theorem plc_lt {big:Bool}{z k:Nat}(h:k<z):plc big z k<z:=by unfold plc;split<;>omega
theorem ws_wr {L:List Int}{big:Bool}{p z:Nat}{v:Int}(hz:p+z≤L.length):wsK L big p z v z=wrK L big p z v z:=by
 refine Ecz (by rw [C0z,Bez]) fun x _=>?_
 rw [wsK_getD hz z (Nat.le_refl _),wrK_getD hz z (Nat.le_refl _)]
 by_cases h:p≤x∧x<p+z
 ·rw [if_pos h,if_pos ⟨h.1,h.2,plc_lt (by omega)⟩]
 ·rw [if_neg h,if_neg (fun h'=>h ⟨h'.1,h'.2.1⟩)]
def pkK (al big:Bool)(s vs:List Int):Nat→List Int
 | 0=>List.replicate (fN al s).toNat 0
 | k+1=>wrK (pkK al big s vs k) big (fP al s k).toNat (s.getD k 0).toNat (vs.getD k 0) (s.getD k 0).toNat
def pkL (al big:Bool)(s vs:List Int):List Int:=pkK al big s vs s.length
theorem B5z (al big:Bool)(s vs:List Int):∀ k,(pkK al big s vs k).length=(fN al s).toNat
 | 0=>by simp [pkK]
 | k+1=>by rw [pkK,Bez,B5z al big s vs k]
theorem Eaz (al big:Bool)(s vs:List Int):(pkL al big s vs).length=(fN al s).toNat:=B5z _ _ _ _ _
end VwM
namespace VwM
open Go Vw
theorem Gnz (n:Nat):zcells [AV.int .i64 0,.int .i64 0] n=IL (List.replicate (n*2) 0):=by
 rw [IL,List.map_replicate]
 refine List.ext_getElem (by simp [zcells]) fun i h1 h2=>?_
 have:i % 2=0∨i % 2=1:=by omega
 rcases this with h|h<;>simp [zcells,h]
def byL (v:Int)(z:Nat):List Int:=(List.range z).map (byt v)
theorem byL_length (v:Int)(z:Nat):(byL v z).length=z:=by simp [byL]
theorem byL_succ (v:Int)(k:Nat):byL v (k+1)=byL v k++[(shB v k).tmod 256]:=by simp [byL,List.range_succ,byt]
def byO (v:Int)(z:Nat)(big:Bool):List Int:=(List.range z).map fun k=>byt v (plc big z k)
theorem byO_length (v:Int)(z:Nat)(big:Bool):(byO v z big).length=z:=by simp [byO]
theorem byO_low (v:Int)(z:Nat):byO v z false=byL v z:=by simp [byO,byL,plc]
theorem byO_high (v:Int)(z:Nat):byO v z true=(byL v z).reverse:=by
 refine Ecz (by simp [byO,byL]) fun j hj=>?_
 have hj':j<z:=by simpa [byO] using hj
 rw [List.getD,List.getD,List.getElem?_reverse (by simpa [byL] using hj')]
 simp [byO,byL,hj',plc,show z-1-j<z by omega]
theorem byO_getD {v:Int}{z k:Nat}{big:Bool}(h:k<z):(byO v z big).getD k 0=byt v (plc big z k):=by simp [byO,List.getD,h]
theorem fPL_succ (al:Bool)(s:List Int)(k:Nat):(List.range (k+1)).map (fP al s)=(List.range k).map (fP al s)++[fP al s k]:=by simp [List.range_succ]
end VwM
namespace VwM
open Go Vw
theorem Btz (xs:List Int)(o:Nat)(a b:Int):setRange (xs.map (AV.int .i64)) o [.int .i64 a,.int .i64 b]=IL ((xs.set o a).set (o+1) b):=by
 simp [setRange,IL,List.map_set]
theorem fZ2_get {al:Bool}{s:List Int}{n k:Nat}(h:k<n):(fZ2 al s n).getD (k*2) 0=fP al s k∧(fZ2 al s n).getD (k*2+1) 0=s.getD k 0:=by
 have h1:=Foz (al:=al) (s:=s) h
 have hl:=Bfz al s n
 simp only [fZ2,List.getD] at *
 rw [List.getElem?_append_left (by omega),List.getElem?_append_left (by omega)]
 exact h1
end VwM
namespace VwM
open Go Vw
theorem td2 {xs:List Int}{o:Nat}{a b:Int}(h:o+2≤xs.length)(ha:xs.getD o 0=a)(hb:xs.getD (o+1) 0=b):List.take 2 (List.drop o (xs.map (AV.int .i64)))=[.int .i64 a,.int .i64 b]:=by
 rw [← List.map_drop,drop_getD xs o (by omega),drop_getD xs (o+1) (by omega),ha,hb]
 rfl
end VwM
namespace VwM
open Go Vw
theorem plain2 [Inhabited GlobT]{P:Program}{f:Nat}{args:List AV}{xs:List Int}{n:Nat}(h:BCall P f args [] (fun r H'=>r=.own 0 n 2∧H'=[IL xs]))(hl:xs.length=n*2):PCall P f args (fun r=>r=.rows true (IL xs) n):=by
 refine (BCall.plain h).mono ?_
 rintro r ⟨r0,H',⟨rfl,rfl⟩,rfl⟩
 simp [AV.ren,nthH,List.map_map,Function.comp_def,hl]
theorem plainF [Inhabited GlobT]{P:Program}{f:Nat}{args:List AV}{s:List Int}{big al:Bool}(h:BCall P f args [] (fun r H'=>r=.agg [.own 0 s.length 1,.bool big,.bool al]∧H'=[IL s])):PCall P f args (fun r=>r=.agg [.rows true (IL s) s.length,.bool big,.bool al]):=by
 refine (BCall.plain h).mono ?_
 rintro r ⟨r0,H',⟨rfl,rfl⟩,rfl⟩
 simp [AV.ren,nthH,List.map_map,Function.comp_def]
end VwM
namespace VwM
open Go Vw
theorem cells_func (f:Fn)(a b:Array Value):(AV.val (.func f a b)).cells=some [.val (.func f a b)]:=rfl
theorem isCell_func (f:Fn)(a b:Array Value):AV.isCell (AV.val (.func f a b))=true:=rfl
theorem F3z:ofCell Value.nilFunc=AV.val Value.nilFunc:=rfl
attribute [push_cast] cells_func isCell_func F3z
end VwM
namespace VwM
open Go Vw
theorem Cqz {al:Bool}{s:List Int}(hv:vF s=true){k:Nat}(hk:k<s.length):(fP al s k).toNat+(s.getD k 0).toNat≤(fN al s).toNat∧0≤fP al s k∧1≤s.getD k 0∧s.getD k 0≤4∧(fN al s).toNat≤38∧fN al s=((fN al s).toNat:Int)∧fP al s k=((fP al s k).toNat:Int)∧s.getD k 0=((s.getD k 0).toNat:Int):=by
 obtain ⟨h,h1,h2⟩:=Bhz.1 hv
 have b0:=C9z (al:=al) h k hk
 have b1:=fE_mono (al:=al) h (k+1) s.length (by omega) (Nat.le_refl _)
 have b2:=fN_bound (al:=al) hv
 have b3:=h k hk
 omega
theorem vI_room {s vs:List Int}(hv:vF s=true)(hi:vI s vs=true){k:Nat}(hk:k<s.length):0≤vs.getD k 0∧vs.getD k 0≤4294967296:=by
 obtain ⟨h,h1,h2⟩:=Bhz.1 hv
 obtain ⟨g1,g2⟩:=Esz.1 hi
 have:=g2 k (by omega)
 have:=h k hk
 have:=Caz (k:=(s.getD k 0).toNat) (by omega)
 omega
end VwM
namespace VwM
open Go Vw
theorem ren_val4 (i:Nat→Option Nat)(h:Nat→Option (List AV))(b:Bool)(p:Bool→Option Bool)(f:Fn)(x y:Array Value):AV.ren i h b p 4 (.val (.func f x y))=.val (.func f x y):=by simp [AV.ren]
theorem ren_val5 (i:Nat→Option Nat)(h:Nat→Option (List AV))(b:Bool)(p:Bool→Option Bool)(f:Fn)(x y:Array Value):AV.ren i h b p 5 (.val (.func f x y))=.val (.func f x y):=by simp [AV.ren]
theorem ren_val3 (i:Nat→Option Nat)(h:Nat→Option (List AV))(b:Bool)(p:Bool→Option Bool)(f:Fn)(x y:Array Value):AV.ren i h b p 3 (.val (.func f x y))=.val (.func f x y):=by simp [AV.ren]
attribute [push_cast] ren_val4 ren_val5 ren_val3
end VwM
namespace VwM
open Go Vw
end VwM
namespace VwM
open Go Vw
theorem cells_osl (id len off n sz c:Nat):(AV.osl id len off n sz c).cells=some [.osl id len off n sz c]:=rfl
attribute [push_cast] cells_osl
end VwM
namespace VwM
open Go Vw

end VwM
namespace VwM
open Vw
open Go

end VwM
namespace VwM
open Vw
open Go

end VwM
namespace VwM
open Vw
open Go

end VwM
namespace VwM
open Vw
open Go

end VwM
namespace VwM
open Vw
open Go

end VwM
namespace VwM
open Vw
open Go

abbrev Vw3:=Int×List Int×List Int
def VLs:List Vw3→List AV
 | []=>[]
 | v::r=>.int .i64 v.1::RI v.2.1::RI v.2.2::VLs r
theorem innL_IL (p:Nat→Bool):∀ xs:List Int,innL p (IL xs)=true
 | []=>rfl
 | x::r=>by
  have:=innL_IL p r
  simp only [IL,List.map_cons,innL,AV.inn,Bool.true_and]
  exact this
theorem ren_VLs {ρ:Nat→Option Nat}{Zh:Nat→Option (List AV)}{n:Nat}:∀ vs:List Vw3,(VLs vs).map (AV.ren ρ Zh false phiD (n+2))=VLs vs
 | []=>rfl
 | v::r=>by
  simp only [VLs,List.map_cons,ren_VLs r,List.cons.injEq,and_true]
  refine ⟨rfl,?_,?_⟩<;>simp [AV.ren,phiD]
attribute [push_cast] ren_VLs
end VwM
namespace VwM
open Go Vw

abbrev Tn:=List Int×List Int
def TL (b:Bool):List Tn→List AV
 | []=>[]
 | t::r=>.rows b (IL t.1) t.1.length::.rows b (IL t.2) t.2.length::TL b r
def LL (b:Bool):List (List Int)→List AV
 | []=>[]
 | l::r=>.rows b (IL l) l.length::LL b r
theorem Fyz (b:Bool):∀ ts:List Tn,(TL b ts).length=ts.length*2
 | []=>rfl
 | t::r=>by simp only [TL,List.length_cons,Fyz b r];omega
theorem Baz (b:Bool):∀ ls:List (List Int),(LL b ls).length=ls.length
 | []=>rfl
 | l::r=>by simp only [LL,List.length_cons,Baz b r]
theorem LL_append (b:Bool):∀ ts us:List (List Int),LL b (ts++us)=LL b ts++LL b us
 | [],_=>rfl
 | t::r,us=>by simp only [List.cons_append,LL,LL_append b r us]
theorem TL_drop (b:Bool):∀ (ts:List Tn) (i:Nat) {t:Tn},ts[i]?=some t→((TL b ts).drop (i*2)).take 2=[.rows b (IL t.1) t.1.length,.rows b (IL t.2) t.2.length]
 | [],_,_,h=>by simp at h
 | w::r,0,v,h=>by simp at h;subst h;simp [TL]
 | w::r,i+1,v,h=>by
  rw [show (i+1)*2=i*2+1+1 by omega]
  simp only [TL,List.drop_succ_cons]
  exact TL_drop b r i (by simpa using h)
theorem Drz (b:Bool):∀ (ls:List (List Int)) (i:Nat) {l:List Int},ls[i]?=some l→((LL b ls).drop i).take 1=[.rows b (IL l) l.length]
 | [],_,_,h=>by simp at h
 | w::r,0,v,h=>by simp at h;subst h;simp [LL]
 | w::r,i+1,v,h=>by
  simp only [LL,List.drop_succ_cons]
  exact Drz b r i (by simpa using h)
theorem Afz (b:Bool)(p:Nat→Bool):∀ ls:List (List Int),innL p (LL b ls)=true
 | []=>rfl
 | v::r=>by
  simp only [LL,innL,AV.inn,Afz b p r,Bool.and_true,Bool.true_and,Bool.and_eq_true]
  exact innL_IL _ _
section
variable {ρ:Nat→Option Nat} {Zh:Nat→Option (List AV)} {n:Nat} {b0:Bool} {φ:Bool→Option Bool}
theorem ren_IL (xs:List Int):(IL xs).map (AV.ren ρ Zh b0 φ (n+1))=IL xs:=by unfold IL;rw [List.map_map];rfl
theorem ren_TL {b c:Bool}(h:φ b=some c):∀ ts:List Tn,(TL b ts).map (AV.ren ρ Zh b0 φ (n+2))=TL c ts
 | []=>rfl
 | v::r=>by
  simp only [TL,List.map_cons,ren_TL h r,List.cons.injEq,and_true]
  constructor<;>simp only [AV.ren,h,ren_IL]
theorem ren_LL {b c:Bool}(h:φ b=some c):∀ ls:List (List Int),(LL b ls).map (AV.ren ρ Zh b0 φ (n+2))=LL c ls
 | []=>rfl
 | v::r=>by
  simp only [LL,List.map_cons,ren_LL h r,List.cons.injEq,and_true]
  simp only [AV.ren,h,ren_IL]
theorem ren_TLD (b:Bool)(ts:List Tn):(TL b ts).map (AV.ren ρ Zh b0 phiD (n+2))=TL false ts:=ren_TL (by cases b<;>rfl) ts
theorem ren_LLD (b:Bool)(ts:List (List Int)):(LL b ts).map (AV.ren ρ Zh b0 phiD (n+2))=LL false ts:=ren_LL (by cases b<;>rfl) ts
theorem ren_TLU (sh:Bool)(ts:List Tn):(TL true ts).map (AV.ren ρ Zh b0 (phiU sh) (n+2))=TL true ts:=ren_TL (by rfl) ts
theorem ren_LLU (sh:Bool)(ts:List (List Int)):(LL true ts).map (AV.ren ρ Zh b0 (phiU sh) (n+2))=LL true ts:=ren_LL (by rfl) ts
theorem ren_TLV (b:Bool)(ts:List Tn):(TL b ts).map (AV.ren ρ Zh b0 (phiU true) (n+2))=TL b ts:=ren_TL (by cases b<;>rfl) ts
theorem ren_LLV (b:Bool)(ts:List (List Int)):(LL b ts).map (AV.ren ρ Zh b0 (phiU true) (n+2))=LL b ts:=ren_LL (by cases b<;>rfl) ts
theorem ren_TLs (b:Bool)(ts:List Tn):(TL b ts).map (AV.ren ρ Zh b0 some (n+2))=TL b ts:=ren_TL (by rfl) ts
theorem ren_LLs (b:Bool)(ts:List (List Int)):(LL b ts).map (AV.ren ρ Zh b0 some (n+2))=LL b ts:=ren_LL (by rfl) ts
end
attribute [push_cast] ren_TLD ren_LLD ren_TLU ren_LLU ren_TLV ren_LLV ren_TLs ren_LLs Fyz Baz

theorem fz_IL {H:Nat→Option (List AV)}{n:Nat}(xs:List Int):(IL xs).map (AV.fz H (n+1))=IL xs:=by unfold IL;rw [List.map_map];rfl
theorem fz_TL {H:Nat→Option (List AV)}{n:Nat}(b:Bool):∀ ts:List Tn,(TL b ts).map (AV.fz H (n+2))=TL b ts
 | []=>rfl
 | v::r=>by
  simp only [TL,List.map_cons,fz_TL b r,List.cons.injEq,and_true]
  constructor<;>simp only [AV.fz,fz_IL]
theorem fz_LL {H:Nat→Option (List AV)}{n:Nat}(b:Bool):∀ ls:List (List Int),(LL b ls).map (AV.fz H (n+2))=LL b ls
 | []=>rfl
 | v::r=>by
  simp only [LL,List.map_cons,fz_LL b r,List.cons.injEq,and_true]
  simp only [AV.fz,fz_IL]
attribute [push_cast] fz_TL fz_LL

end VwM
namespace VwM
open Go Vw

end VwM
namespace Vw
open Go
variable [Inhabited GlobT]

def fid (i:Nat):Nat:=1099511627776+i
theorem Hbz (i j:Nat):(fid i=fid j)=(i=j):=by unfold fid;exact propext ⟨fun h=>by omega,fun h=>by omega⟩
theorem fid_ne (i n:Nat)(h:n<1099511627776):(fid i=n)=False:=by unfold fid;exact propext ⟨fun h=>by omega,False.elim⟩
theorem ne_fid (i n:Nat)(h:n<1099511627776):(n=fid i)=False:=by unfold fid;exact propext ⟨fun h=>by omega,False.elim⟩
theorem fid_div (i d:Nat)(h:d<68719476736):(fid i / 16=d)=False:=by unfold fid;exact propext ⟨fun h=>by omega,False.elim⟩
theorem fid_ge (i n:Nat)(h:n<1099511627776):(n≤fid i)=True:=by unfold fid;exact propext ⟨fun _=>trivial,fun _=>by omega⟩

def famL (f:Nat→List AV):Nat→List (Nat×List AV)
 | 0=>[]
 | n+1=>(fid n,f n)::famL f n
theorem Fgz (f:Nat→List AV)(i:Nat):∀ n,hk (famL f n) (fid i)=if i<n then some (f i) else none
 | 0=>by simp [famL,hk]
 | n+1=>by
  simp only [famL,hk,Hbz,Fgz f i n]
  by_cases h:i=n
  ·subst h;simp
  ·rw [if_neg h]
   by_cases h':i<n
   ·rw [if_pos h',if_pos (by omega)]
   ·rw [if_neg h',if_neg (by omega)]
theorem Ffz (f:Nat→List AV)(id:Nat)(h:id<1099511627776):∀ n,hk (famL f n) id=none
 | 0=>rfl
 | n+1=>by simp only [famL,hk,ne_fid n id h,if_false,Ffz f id h n]
theorem Flz (f:Nat→List AV)(d:Nat)(h:d<68719476736):∀ n,freshD (famL f n) d=True
 | 0=>rfl
 | n+1=>by simp only [famL,freshD,fid_div n d h,not_false_eq_true,Flz f d h n,and_self]
theorem SubW.heq {pin:Nat}{σ:List (Nat×AV)}{H H':List (Nat×List AV)}{s':S}(h:∀ id,hk H' id=hk H id)(k:SubW pin (mkS σ H') s'):SubW pin (mkS σ H) s':=by
 have e:mkS σ H=mkS σ H':=by unfold mkS;congr 1;funext id;exact (h id).symm
 rw [e];exact k
theorem swp_fst (a b:Nat):swp a b a=b:=by simp [swp]
theorem swp_snd (a b:Nat):swp a b b=a:=by unfold swp;split<;>simp_all
theorem Grz {a b c:Nat}(h1:c≠a)(h2:c≠b):swp a b c=c:=by simp [swp,h1,h2]
attribute [push_cast] Hbz fid_ne ne_fid fid_div fid_ge Fgz Ffz Flz
end Vw
namespace Vw
open Go VwM
variable [Inhabited GlobT]

def row (C:Nat)(h:Nat→AV):List AV:=(List.range C).map h
theorem C3z (C:Nat)(h:Nat→AV):(row C h).length=C:=by simp [row]
theorem Cpz (C:Nat)(h:Nat→AV)(φ:AV→AV):(row C h).map φ=row C fun p=>φ (h p):=by simp [row,Function.comp_def]
theorem Bkz {C:Nat}{h g:Nat→AV}(e:∀ p,p<C→h p=g p):row C h=row C g:=by
 unfold row
 exact List.map_congr_left fun p hp=>e p (List.mem_range.1 hp)
theorem Gzz (C:Nat)(h:Nat→AV)(p:Nat):(row C h)[p]?=if p<C then some (h p) else none:=by
 unfold row
 rw [List.getElem?_map]
 by_cases hp:p<C
 ·rw [if_pos hp,List.getElem?_range hp];rfl
 ·rw [if_neg hp,List.getElem?_eq_none (by simpa using hp)];rfl
theorem row_set (C:Nat)(h:Nat→AV)(p:Nat)(v:AV):(row C h).set p v=row C (upd h p v):=by
 apply List.ext_getElem?
 intro q
 rw [List.getElem?_set,Gzz,Gzz,C3z]
 by_cases e:p=q
 ·subst e;simp [Aqz]
 ·rw [if_neg e,Asz _ _ _ _ (Ne.symm e)]
theorem row_ext {C:Nat}{L:List AV}{h:Nat→AV}(hl:L.length=C)(e:∀ p,p<C→L[p]?=some (h p)):L=row C h:=by
 apply List.ext_getElem?
 intro q
 rw [Gzz]
 by_cases hq:q<C
 ·rw [if_pos hq,e q hq]
 ·rw [if_neg hq,List.getElem?_eq_none (by omega)]
theorem row_1 (C:Nat)(h:Nat→AV)(p:Nat)(hp:p+1≤C):((row C h).drop p).take 1=[h p]:=by
 apply List.ext_getElem?
 intro q
 rw [List.getElem?_take]
 match q with
 | 0=>rw [if_pos (by omega),List.getElem?_drop,Gzz,if_pos (by omega)];rfl
 | q+1=>rw [if_neg (by omega)];rfl
theorem innL_row (P:Nat→Bool)(C:Nat)(h:Nat→AV)(e:∀ p,p<C→(h p).inn P=true):innL P (row C h)=true:=by
 have:∀ l:List Nat,(∀ p∈l,p<C)→innL P (l.map h)=true:=by
  intro l
  induction l with
  | nil=>intro _;rfl
  | cons a r ih =>
   intro hl
   simp only [List.map_cons,innL,Bool.and_eq_true]
   exact ⟨e a (hl a (by simp)),ih fun p hp=>hl p (by simp [hp])⟩
 exact this _ fun p hp=>List.mem_range.1 hp

structure Fam where
 C:Nat
 R:Nat
 pat:Nat→AV ⊕ Nat
 rows:Nat→List Int
 ok:∀ p j,p<C→pat p=.inr j→j<R
 cell:∀ p a,pat p=.inl a→(∃ k x,a=.int k x)∨∃ b,a=.bool b
def Fam.atG (F:Fam)(g:Nat→Nat)(p:Nat):AV:=match F.pat p with
 | .inl a=>a
 | .inr j=>.own (g j) (F.rows j).length 1
def Fam.atP (F:Fam)(b:Bool)(p:Nat):AV:=match F.pat p with
 | .inl a=>a
 | .inr j=>.rows b (IL (F.rows j)) (F.rows j).length
def Fam.cellsG (F:Fam)(g:Nat→Nat):List AV:=row F.C (F.atG g)
def Fam.plain (F:Fam)(b:Bool):List AV:=row F.C (F.atP b)
def Fam.conts (F:Fam):List (List AV):=(List.range F.R).map fun j=>IL (F.rows j)
theorem Bpz (F:Fam)(g:Nat→Nat):(F.cellsG g).length=F.C:=C3z ..
theorem plain_length (F:Fam)(b:Bool):(F.plain b).length=F.C:=C3z ..
theorem Byz (F:Fam):F.conts.length=F.R:=by simp [Fam.conts]
structure Fam.like (F G:Fam):Prop where
 C:G.C=F.C
 R:G.R=F.R
 len:∀ j,j<F.R→(G.rows j).length=(F.rows j).length

def fim (d j:Nat):Nat:=fid (65536*j+d)
theorem Gfz (d j n:Nat)(h:n<1099511627776):(fim d j=n)=False:=fid_ne _ _ h
theorem ne_fim (d j n:Nat)(h:n<1099511627776):(n=fim d j)=False:=ne_fid _ _ h
theorem Dpz {d i j:Nat}(h:fim d i=fim d j):i=j:=by unfold fim at h;rw [Hbz] at h;omega
theorem fim_oth {d d' i j:Nat}(h1:d<65536)(h2:d'<65536)(h:fim d i=fim d' j):d=d':=by unfold fim at h;rw [Hbz] at h;omega
theorem fim_div (d j n:Nat)(h:n<68719476736):(fim d j / 16=n)=False:=fid_div _ _ h
theorem Cfz (d j:Nat):1099511627776≤fim d j:=by unfold fim fid;omega

def famD (d:Nat)(F:Fam):List (Nat×List AV):=(List.range F.R).map fun j=>(fim d j,IL (F.rows j))
theorem Bwz (g:Nat→Nat)(f:Nat→List AV)(r:List (Nat×List AV))(id:Nat):∀ l:List Nat,(∀ j∈l,g j≠id)→hk (l.map (fun j=>(g j,f j))++r) id=hk r id
 | [],_=>rfl
 | a::l,h=>by
  simp only [List.map_cons,List.cons_append,hk]
  rw [if_neg (fun e=>h a (by simp) e.symm)]
  exact Bwz g f r id l fun j hj=>h j (by simp [hj])
theorem Bjz (g:Nat→Nat)(hg:∀ i j,g i=g j→i=j)(f:Nat→List AV)(r:List (Nat×List AV))(i:Nat):∀ l:List Nat,i∈l→hk (l.map (fun j=>(g j,f j))++r) (g i)=some (f i)
 | [],h=>by cases h
 | a::l,h=>by
  simp only [List.map_cons,List.cons_append,hk]
  by_cases e:g i=g a
  ·rw [if_pos e,hg _ _ e]
  ·rw [if_neg e]
   rcases List.mem_cons.1 h with h|h
   ·exact absurd (by rw [h]) e
   ·exact Bjz g hg f r i l h
theorem Ctz (d:Nat)(F:Fam)(r:List (Nat×List AV))(j:Nat)(h:j<F.R):hk (famD d F++r) (fim d j)=some (IL (F.rows j)) :=
 Bjz (fim d) (fun _ _=>Dpz) (fun j=>IL (F.rows j)) r j _ (List.mem_range.2 h)
theorem Fhz (d:Nat)(F:Fam)(r:List (Nat×List AV))(id:Nat)(h:id<1099511627776):hk (famD d F++r) id=hk r id :=
 Bwz (fim d) (fun j=>IL (F.rows j)) r id _ fun j _ e=>by have:=Cfz d j;omega
theorem Doz (d:Nat)(F:Fam)(r:List (Nat×List AV))(d' j:Nat)(h1:d<65536)(h2:d'<65536)(hn:d≠d'):hk (famD d F++r) (fim d' j)=hk r (fim d' j) :=
 Bwz (fim d) (fun j=>IL (F.rows j)) r _ _ fun j _ e=>hn (fim_oth h1 h2 e)
theorem Fmz (d:Nat)(F:Fam)(r:List (Nat×List AV))(n:Nat)(h:n<68719476736):freshD (famD d F++r) n=freshD r n:=by
 unfold famD
 have:∀ l:List Nat,freshD (l.map (fun j=>(fim d j,IL (F.rows j)))++r) n=freshD r n:=by
  intro l
  induction l with
  | nil=>rfl
  | cons a l ih=>simp only [List.map_cons,List.cons_append,freshD,fim_div _ _ _ h,not_false_eq_true,true_and,ih]
 exact this _
def noFam (d:Nat)(H:List (Nat×List AV)):Prop:=∀ j,hk H (fim d j)=none
theorem noFam_nil (d:Nat):noFam d []=True:=propext ⟨fun _=>trivial,fun _ _=>rfl⟩
theorem noFam_cons (d t:Nat)(v:List AV)(r:List (Nat×List AV))(h:t<1099511627776):noFam d ((t,v)::r)=noFam d r:=by
 unfold noFam
 simp only [hk,Gfz _ _ t h,if_false]
theorem noFam_fam (d d':Nat)(F:Fam)(r:List (Nat×List AV))(h:d<65536∧d'<65536∧d'≠d):noFam d (famD d' F++r)=noFam d r:=by
 unfold noFam
 simp only [Doz d' F r d _ h.2.1 h.1 h.2.2]

theorem D3z (d:Nat)(F:Fam):famD d F=famD d F++[]:=(List.append_nil _).symm
theorem G9z (d:Nat)(F:Fam)(j:Nat)(h:j<F.R):hk (famD d F) (fim d j)=some (IL (F.rows j)):=by rw [D3z];exact Ctz d F [] j h
theorem hk_famD_low0 (d:Nat)(F:Fam)(id:Nat)(h:id<1099511627776):hk (famD d F) id=none:=by rw [D3z];exact Fhz d F [] id h
theorem freshD_famD0 (d:Nat)(F:Fam)(n:Nat)(h:n<68719476736):freshD (famD d F) n=True:=by rw [D3z];exact Fmz d F [] n h
theorem noFam_fam0 (d d':Nat)(F:Fam)(h:d<65536∧d'<65536∧d'≠d):noFam d (famD d' F)=True:=by rw [D3z,noFam_fam d d' F [] h,noFam_nil]
theorem D9z {ρ:Nat→Option Nat}{Z:Nat→Option (List AV)}{b:Bool}{φ:Bool→Option Bool}{n:Nat}(xs:List Int):(IL xs).map (AV.ren ρ Z b φ (n+1))=IL xs:=by unfold IL;rw [List.map_map];rfl
theorem Fam.ren_at (F:Fam){g g':Nat→Nat}{ρ:Nat→Option Nat}{Z:Nat→Option (List AV)}{b:Bool}{φ:Bool→Option Bool}{n p:Nat}(h:∀ j,F.pat p=.inr j→ρ (g j)=some (g' j)):(F.atG g p).ren ρ Z b φ (n+1)=F.atG g' p:=by
 unfold Fam.atG
 cases e:F.pat p with
 | inl a =>
  rcases F.cell p a e with ⟨k,x,rfl⟩|⟨c,rfl⟩<;>rfl
 | inr j=>simp only [Ezz,h j e,Dxz]
theorem Fam.ren_plain (F:Fam){g:Nat→Nat}{ρ:Nat→Option Nat}{Z:Nat→Option (List AV)}{b:Bool}{φ:Bool→Option Bool}{n p:Nat}(h:∀ j,F.pat p=.inr j→ρ (g j)=none∧Z (g j)=some (IL (F.rows j))):(F.atG g p).ren ρ Z b φ (n+2)=F.atP b p:=by
 unfold Fam.atG Fam.atP
 cases e:F.pat p with
 | inl a =>
  rcases F.cell p a e with ⟨k,x,rfl⟩|⟨c,rfl⟩<;>rfl
 | inr j =>
  obtain ⟨h1,h2⟩:=h j e
  simp only [Ezz,h1,h2,renO_none]
  have:(IL (F.rows j)).length=(F.rows j).length*1:=by unfold IL;simp
  rw [if_pos this,D9z]

def hasFam (d:Nat)(F:Fam)(H:List (Nat×List AV)):Prop:=∀ j,j<F.R→hk H (fim d j)=some (IL (F.rows j))
theorem hasFam_cons (d:Nat)(F:Fam)(t:Nat)(v:List AV)(H:List (Nat×List AV))(h:t<1099511627776):hasFam d F ((t,v)::H)=hasFam d F H:=by
 unfold hasFam
 simp only [hk,Gfz _ _ t h,if_false]
theorem Fjz (d:Nat)(F:Fam)(r:List (Nat×List AV)):hasFam d F (famD d F++r)=True:=propext ⟨fun _=>trivial,fun _ j hj=>Ctz d F r j hj⟩
theorem hasFam_oth (d d':Nat)(F G:Fam)(r:List (Nat×List AV))(h:d<65536∧d'<65536∧d'≠d):hasFam d F (famD d' G++r)=hasFam d F r:=by
 unfold hasFam
 simp only [Doz d' G r d _ h.2.1 h.1 h.2.2]
theorem hasFam_same0 (d:Nat)(F:Fam):hasFam d F (famD d F)=True:=by rw [D3z];exact Fjz d F []
open Classical in
noncomputable def rdx (p:Prop) (a b:List AV):List AV:=if p then a else b
theorem rdx_true (a b:List AV):rdx True a b=a:=by unfold rdx;exact if_pos trivial
theorem readF_eq (F:Fam)(d:Nat){b:Bool}{φ:Bool→Option Bool}{n:Nat}(H:List (Nat×List AV)) :
  (F.cellsG (fim d)).map (AV.ren (posF []) (zF false (hk H)) b φ (n+2))=rdx (hasFam d F H) (F.plain b) (row F.C fun p=>(F.atG (fim d) p).ren (posF []) (zF false (hk H)) b φ (n+2)):=by
 unfold rdx
 split
 ·rename_i h
  unfold Fam.cellsG Fam.plain
  rw [Cpz]
  exact Bkz fun p hp=>F.ren_plain fun j hj=>⟨rfl,h j (F.ok p j hp hj)⟩
 ·unfold Fam.cellsG
  rw [Cpz]

section
variable {P:Program} {pin:Nat} {σ:List (Nat×AV)} {H:List (Nat×List AV)} {K:S→Prop}
theorem Erz (g:Nat→Nat)(f:Nat→List AV):∀ l:List Nat,(l.map g).zip (l.map f)=l.map fun j=>(g j,f j)
 | []=>rfl
 | a::l=>by simp only [List.map_cons,List.zip_cons_cons,Erz g f l]
theorem E5z {g:Nat→Nat}(hg:∀ i j,g i=g j→i=j){l:List Nat}(h:l.Nodup):(l.map g).Nodup:=List.Pairwise.map _ (fun a b hab he=>hab (hg _ _ he)) h
theorem callFN {f sz n d:Nat}{F:Fam}{cargs:List AV}(hc:BCall P f cargs [] (fun r H'=>r=.own 0 n sz∧H'=F.cellsG (· + 1)::F.conts))(hd:(d<65536∧pin≤16*d)∧freshD H d∧noFam d H)
  (hK:K (mkS ((d,.own (16*d) n sz)::σ) ((16*d,F.cellsG (fim d))::(famD d F++H)))):callD P pin f [] false cargs (some d) K σ H:=by
 obtain ⟨⟨hd1,hd2⟩,hf,hnf⟩:=hd
 intro args ha
 refine D4z (Fvz [] false (F:=hk H) (fun _ _ h=>h) (AV.down [] false (hk H)) (fun _=>.inl rfl) hc (by rw [List.map_map];exact ha) rfl List.nodup_nil fun res H' hq=>?_)
 obtain ⟨rfl,rfl⟩:=hq
 have hne:∀ j,16*d≠fim d j:=fun j e=>by have:=Cfz d j;omega
 refine ⟨16*d::(List.range F.R).map (fim d),trivial,⟨by simp [Byz],?_,?_⟩,?_⟩
 ·rw [List.nodup_cons]
  refine ⟨fun h=>?_,E5z (fun _ _=>Dpz) List.nodup_range⟩
  obtain ⟨j,_,e⟩:=List.mem_map.1 h
  exact hne j e.symm
 ·intro id hid
  rcases List.mem_cons.1 hid with rfl|hid
  ·exact ⟨Cez hf 0 (by omega),hd2⟩
  ·obtain ⟨j,_,rfl⟩:=List.mem_map.1 hid
   exact ⟨hnf j,by have:=Cfz d j;omega⟩
 ·rw [G1z]
  have e1:AV.up ([]++16*d::(List.range F.R).map (fim d)) false (.own 0 n sz)=.own (16*d) n sz:=rfl
  have hx:∀ j,j<F.R→idxF ([]++16*d::(List.range F.R).map (fim d)) (j+1)=some (fim d j):=fun j hj=>by
   show (16*d::(List.range F.R).map (fim d))[j+1]?=_
   rw [List.getElem?_cons_succ,List.getElem?_map,List.getElem?_range hj];rfl
  have e2:(F.cellsG (· + 1)).map (AV.up ([]++16*d::(List.range F.R).map (fim d)) false)=F.cellsG (fim d):=by
   unfold Fam.cellsG
   rw [Cpz]
   exact Bkz fun p hp=>F.ren_at fun j hj=>hx j (F.ok p j hp hj)
  have e3:F.conts.map (List.map (AV.up ([]++16*d::(List.range F.R).map (fim d)) false))=F.conts:=by
   unfold Fam.conts
   rw [List.map_map]
   exact List.map_congr_left fun j _=>D9z _
  rw [e1,List.map_cons,e2,e3]
  have e4:([]++16*d::(List.range F.R).map (fim d)).zip (F.cellsG (fim d)::F.conts)++H=(16*d,F.cellsG (fim d))::(famD d F++H):=by
   simp only [List.nil_append,List.zip_cons_cons,List.cons_append]
   unfold Fam.conts famD
   rw [Erz]
  rw [e4]
  exact hK
def callE (P:Program)(pin f:Nat)(avs:List AV)(dst:Option Nat)(K:S→Prop)(σ:List (Nat×AV))(H:List (Nat×List AV)):Prop :=
 ∀ args:List Operand,args.map (fun x=>(mkS σ H).ev x)=avs→callOwed P pin f args dst K (mkS σ H)
theorem callE_of {f:Nat}{args:List Operand}{dst:Option Nat}(h:callE P pin f (args.map fun x=>(mkS σ H).ev x) dst K σ H):callOwed P pin f args dst K (mkS σ H):=h args rfl
theorem callFM {f sz n d id t:Nat}{F:Fam}{k:Int}{Post:Fam→Int→Prop}(hc:BCall P f [.own 0 n sz,.int .i64 k] (F.cellsG (· + 1)::F.conts) (fun r H'=>∃ G k',Post G k'∧F.like G∧r=.int .i64 k'∧H'=G.cellsG (· + 1)::G.conts))
  (h1:hk H id=some (F.cellsG (fim d))) (hl:id<1099511627776) (h2:hasFam d F H)
  (hK:∀ G k',Post G k'→F.like G→K (mkS ((t,.int .i64 k')::σ) ((id,G.cellsG (fim d))::(famD d G++H)))):callE P pin f [.own id n sz,.int .i64 k] (some t) K σ H:=by
 intro args ha
 have hne:∀ j,id≠fim d j:=fun j e=>by have:=Cfz d j;omega
 have hnd:(id::(List.range F.R).map (fim d)).Nodup:=by
  rw [List.nodup_cons]
  refine ⟨fun h=>?_,E5z (fun _ _=>Dpz) List.nodup_range⟩
  obtain ⟨j,_,e⟩:=List.mem_map.1 h
  exact hne j e.symm
 have hget:∀ j,j<F.R→(id::(List.range F.R).map (fim d))[j+1]?=some (fim d j):=fun j hj=>by
  rw [List.getElem?_cons_succ,List.getElem?_map,List.getElem?_range hj];rfl
 have hp0:posF (id::(List.range F.R).map (fim d)) id=some 0:=by unfold posF posL;exact if_pos rfl
 have hpj:∀ j,j<F.R→posF (id::(List.range F.R).map (fim d)) (fim d j)=some (j+1):=fun j hj=>by
  have:=Bzz (k:=0) hnd (hget j hj)
  rw [Nat.zero_add] at this
  exact this
 refine Chz (id::(List.range F.R).map (fim d)) false (F:=hk H) (fun _ _ h=>h) hc ?_ ?_ hnd fun res H' hq=>?_
 ·have:args.map (fun x=>((mkS σ H).ev x).down (id::(List.range F.R).map (fim d)) false (hk H))=(args.map fun x=>(mkS σ H).ev x).map (AV.down (id::(List.range F.R).map (fim d)) false (hk H)):=by rw [List.map_map];rfl
  rw [this,ha]
  have e:AV.down (id::(List.range F.R).map (fim d)) false (hk H) (.own id n sz)=.own 0 n sz:=by
   show AV.ren _ _ _ _ 5 _=_
   rw [Ezz,hp0,Dxz]
  simp only [List.map_cons,List.map_nil,e]
  rfl
 ·rw [List.map_cons,show (mkS σ H).H id=hk H id from rfl,h1,List.map_map]
  have e1:(F.cellsG (fim d)).map (AV.down (id::(List.range F.R).map (fim d)) false (hk H))=F.cellsG (· + 1):=by
   unfold Fam.cellsG
   rw [Cpz]
   exact Bkz fun p hp=>F.ren_at fun j hj=>hpj j (F.ok p j hp hj)
  have e2:(List.range F.R).map ((fun i=>((mkS σ H).H i).map (List.map (AV.down (id::(List.range F.R).map (fim d)) false (hk H)))) ∘ fim d)=F.conts.map some:=by
   unfold Fam.conts
   rw [List.map_map]
   refine List.map_congr_left fun j hj=>?_
   show (hk H (fim d j)).map _=_
   rw [h2 j (List.mem_range.1 hj)]
   show some ((IL (F.rows j)).map _)=_
   rw [show (IL (F.rows j)).map (AV.down (id::(List.range F.R).map (fim d)) false (hk H))=IL (F.rows j) from D9z _]
   rfl
  rw [e2,Option.map_some,e1]
  rfl
 ·obtain ⟨G,k',hpost,hlike,rfl,rfl⟩:=hq
  have hlen:(G.cellsG (· + 1)::G.conts).length-(F.cellsG (· + 1)::F.conts).length=0:=by simp [Byz,hlike.R]
  rw [hlen]
  refine ⟨⟨by rw [Bpz,Bpz,hlike.C];exact Nat.le_refl _,?_⟩,fun _ h=>by cases t<;>simp [news] at h,?_⟩
  ·have:∀ l:List Nat,(∀ j∈l,j<F.R)→lenOk (l.map fun j=>IL (F.rows j)) (l.map fun j=>IL (G.rows j)):=by
    intro l
    induction l with
    | nil=>intro _;exact trivial
    | cons a r ih =>
     intro h
     refine ⟨?_,ih fun j hj=>h j (by simp [hj])⟩
     have:=hlike.len a (h a (by simp))
     unfold IL
     simp [this]
   unfold Fam.conts
   rw [hlike.R]
   exact this _ fun j hj=>List.mem_range.1 hj
  ·rw [G1z]
   have e0:(news (some t) 0)=[]:=rfl
   rw [e0,List.append_nil]
   have e2:(G.cellsG (· + 1)).map (AV.up (id::(List.range F.R).map (fim d)) false)=G.cellsG (fim d):=by
    unfold Fam.cellsG
    rw [Cpz]
    exact Bkz fun p hp=>G.ren_at fun j hj=>hget j (hlike.R ▸ G.ok p j hp hj)
   have e3:G.conts.map (List.map (AV.up (id::(List.range F.R).map (fim d)) false))=G.conts:=by
    unfold Fam.conts
    rw [List.map_map]
    exact List.map_congr_left fun j _=>D9z _
   rw [List.map_cons,e2,e3]
   have e4:(id::(List.range F.R).map (fim d)).zip (G.cellsG (fim d)::G.conts)++H=(id,G.cellsG (fim d))::(famD d G++H):=by
    simp only [List.zip_cons_cons,List.cons_append]
    unfold Fam.conts famD
    rw [hlike.R,Erz]
   rw [e4]
   exact hK G k' hpost hlike
end
attribute [push_cast] G9z hk_famD_low0 freshD_famD0 noFam_fam0 hasFam_same0 Bpz plain_length Gfz ne_fim fim_div Fhz Ctz Doz Fmz noFam_nil noFam_cons noFam_fam hasFam_cons Fjz hasFam_oth rdx_true readF_eq
end Vw
namespace Vw
open Go VwM
variable [Inhabited GlobT]

def famR (d:Nat)(rows:Nat→List Int)(n:Nat):List (Nat×List AV):=(List.range n).map fun j=>(fim d j,IL (rows j))
theorem Efz (d:Nat)(rows:Nat→List Int)(n j:Nat)(h:j<n):hk (famR d rows n) (fim d j)=some (IL (rows j)):=by
 have:=Bjz (fim d) (fun _ _=>Dpz) (fun j=>IL (rows j)) [] j _ (List.mem_range.2 h)
 rw [List.append_nil] at this
 exact this
theorem hk_famR_out (d:Nat)(rows:Nat→List Int)(n id:Nat)(h:∀ j,j<n→fim d j≠id):hk (famR d rows n) id=none:=by
 have:=Bwz (fim d) (fun j=>IL (rows j)) [] id (List.range n) fun j hj=>h j (List.mem_range.1 hj)
 rw [List.append_nil] at this
 exact this
theorem hk_famR_low (d:Nat)(rows:Nat→List Int)(n id:Nat)(h:id<1099511627776):hk (famR d rows n) id=none :=
 hk_famR_out d rows n id fun j _ e=>by have:=Cfz d j;omega
theorem freshD_famR (d:Nat)(rows:Nat→List Int)(n k:Nat)(h:k<68719476736):freshD (famR d rows n) k=True:=by
 have:∀ l:List Nat,freshD (l.map (fun j=>(fim d j,IL (rows j)))) k=True:=by
  intro l
  induction l with
  | nil=>rfl
  | cons a l ih=>simp only [List.map_cons,freshD,fim_div _ _ _ h,not_false_eq_true,true_and,ih]
 exact this _
theorem famR_zero (d:Nat)(rows:Nat→List Int):famR d rows 0=[]:=rfl
theorem swL_map (a b:Nat):∀ cs:List AV,swL a b cs=cs.map (AV.sw a b)
 | []=>rfl
 | c::r=>by simp only [swL,List.map_cons,swL_map a b r]
theorem swL_IL (a b:Nat)(xs:List Int):swL a b (IL xs)=IL xs:=by rw [swL_map];unfold IL;rw [List.map_map];rfl

theorem SubW.fam1 {σ σ':List (Nat×AV)}{H:List (Nat×List AV)}{a d i id0:Nat}{rows:Nat→List Int}{c0 c1:List AV}
  (ha:hk H a=some (IL (rows i))) (h0:hk H id0=some c0) (hne:id0≠a∧id0<1099511627776∧a<1099511627776) (hf:∀ j,j<i→hk H (fim d j)=some (IL (rows j)))
  (hc:c0.map (AV.sw a (fim d i))=c1) (hσ:∀ p∈σ',(lk σ p.1).sw a (fim d i)=p.2)
  (h4:∀ p∈σ',p.2.inn (fun id=>(hk ((id0,c1)::famR d rows (i+1)) id).isSome)=true) (h5:innL (fun id=>(hk ((id0,c1)::famR d rows (i+1)) id).isSome) c1=true) :
  SubW 0 (mkS σ H) (mkS σ' ((id0,c1)::famR d rows (i+1))):=by
 refine SubW.sw a (fim d i) (Nat.zero_le _) (Nat.zero_le _) (SubW.of (Sub.of_lists hσ ?_ (fun id h=>absurd h (Nat.not_lt_zero _)) h4 ?_))
 ·intro p hp
  show (hk H (swp a (fim d i) p.1)).map (swL a (fim d i))=some p.2
  rcases List.mem_cons.1 hp with rfl|hp
  ·rw [Grz hne.1 (fun e=>by have:=Cfz d i;omega),h0]
   show some (swL _ _ c0)=_
   rw [swL_map,hc]
  ·obtain ⟨j,hj,rfl⟩:=List.mem_map.1 hp
   have hj':=List.mem_range.1 hj
   by_cases e:j=i
   ·subst e
    rw [swp_snd,ha]
    show some (swL _ _ _)=_
    rw [swL_IL]
   ·rw [Grz (fun e=>by have:=Cfz d j;omega) (fun e'=>e (Dpz e')),hf j (by omega)]
    show some (swL _ _ _)=_
    rw [swL_IL]
 ·intro p hp
  rcases List.mem_cons.1 hp with rfl|hp
  ·exact h5
  ·obtain ⟨j,_,rfl⟩:=List.mem_map.1 hp
   exact innL_IL _ _
theorem ret_fam {σ:List (Nat×AV)}{H:List (Nat×List AV)}{res:List ARes}{id0 n sz d:Nat}{F:Fam}(hl:aresL (mkS σ H) res=some [.own id0 n sz])(h0:hk H id0=some (F.cellsG (fim d)))(h2:∀ j,j<F.R→hk H (fim d j)=some (IL (F.rows j)))(hlow:id0<1099511627776) :
  ∃ (outs:List Nat) (nils:List (Nat×Nat)) (l:List AV),(([]++outs).Nodup∧∀ id∈outs,0≤id)∧aresL (mkS σ H) res=some l∧retOk [] outs nils (mkS σ H).H ∧
   ((((tupOf l).fixNil nils).1.can ([]++outs) (orNil (mkS σ H).H outs))=.own 0 n sz∧(([]++outs).map fun id=>(((mkS σ H).H id).getD []).map (AV.can ([]++outs) (orNil (mkS σ H).H outs)))=F.cellsG (· + 1)::F.conts):=by
 have hne:∀ j,id0≠fim d j:=fun j e=>by have:=Cfz d j;omega
 have hnd:(id0::(List.range F.R).map (fim d)).Nodup:=by
  rw [List.nodup_cons]
  refine ⟨fun h=>?_,E5z (fun _ _=>Dpz) List.nodup_range⟩
  obtain ⟨j,_,e⟩:=List.mem_map.1 h
  exact hne j e.symm
 have hget:∀ j,j<F.R→(id0::(List.range F.R).map (fim d))[j+1]?=some (fim d j):=fun j hj=>by
  rw [List.getElem?_cons_succ,List.getElem?_map,List.getElem?_range hj];rfl
 have hp0:posF (id0::(List.range F.R).map (fim d)) id0=some 0:=by unfold posF posL;exact if_pos rfl
 have hpj:∀ j,j<F.R→posF (id0::(List.range F.R).map (fim d)) (fim d j)=some (j+1):=fun j hj=>by
  have:=Bzz (k:=0) hnd (hget j hj)
  rw [Nat.zero_add] at this
  exact this
 refine ⟨id0::(List.range F.R).map (fim d),[],_,⟨hnd,fun _ _=>Nat.zero_le _⟩,hl,⟨(fun _ h=>by cases h),(fun _ h=>by cases h)⟩,?_,?_⟩
 ·show AV.ren _ _ _ _ 5 (.own id0 n sz)=_
  rw [Ezz,List.nil_append,hp0,Dxz]
 ·rw [List.nil_append,List.map_cons,List.map_map,show (mkS σ H).H id0=hk H id0 from rfl,h0]
  congr 1
  ·show (F.cellsG (fim d)).map _=_
   unfold Fam.cellsG
   rw [Cpz]
   exact Bkz fun p hp=>F.ren_at fun j hj=>hpj j (F.ok p j hp hj)
  ·unfold Fam.conts
   refine List.map_congr_left fun j hj=>?_
   show ((hk H (fim d j)).getD []).map _=_
   rw [h2 j (List.mem_range.1 hj)]
   exact D9z _

theorem inN_of:∀ {l:List Nat} {id:Nat},id∈l→inN l id
 | x::r,id,h=>by
  rcases List.mem_cons.1 h with h|h
  ·exact .inl h
  ·exact .inr (inN_of h)
theorem ret_famS {σ:List (Nat×AV)}{H:List (Nat×List AV)}{res:List ARes}{id0 n sz d:Nat}{F:Fam}(hl:aresL (mkS σ H) res=some [.own id0 n sz])(h0:hk H id0=some (F.cellsG (fim d)))(h2:∀ j,j<F.R→hk H (fim d j)=some (IL (F.rows j)))(hlow:id0<1099511627776) :
  ∃ (outs:List Nat) (nils:List (Nat×Nat)) (l:List AV),(outs.Nodup∧∀ id∈outs,True)∧aresL (mkS σ H) res=some l∧(∀ p∈nils,(mkS σ H).H p.1=none∧inN outs p.1) ∧
   AV.ren (posF outs) (orNil (mkS σ H).H outs) true some 5 (AV.fixNil nils (tupOf l)).1=.own 0 n sz∧List.map (fun id=>List.map (AV.ren (posF outs) (orNil (mkS σ H).H outs) true some 5) (((mkS σ H).H id).getD [])) outs=F.cellsG (· + 1)::F.conts:=by
 obtain ⟨outs,nils,l,⟨a,_⟩,b,⟨_,c⟩,e,f⟩:=ret_fam hl h0 h2 hlow
 rw [List.nil_append] at a e f
 exact ⟨outs,nils,l,⟨a,fun _ _=>trivial⟩,b,fun p hp=>⟨(c p hp).1,inN_of (c p hp).2⟩,e,f⟩

def pinR (rows:Nat→List Int)(n:Nat):List (Nat×List AV):=(List.range n).map fun j=>(j+1,IL (rows j))
theorem Ehz (f:Nat→List AV):∀ (n k:Nat),(((List.range n).map f).zipIdx k).map (fun p=>(p.2,p.1))=(List.range n).map fun j=>(j+k,f j)
 | 0,_=>rfl
 | n+1,k=>by
  rw [List.range_succ,List.map_append,List.zipIdx_append,List.map_append,Ehz f n k,List.map_append]
  simp [Nat.add_comm]
theorem initB_fam (args:List AV)(c0:List AV)(F:Fam):S.initB args (c0::F.conts)=mkS (args.zipIdx.map fun p=>(p.2,p.1)) ((0,c0)::pinR F.rows F.R):=by
 unfold S.initB
 congr 1
 rw [List.zipIdx_cons,List.map_cons]
 congr 1
 exact Ehz _ _ _
theorem Eez (rows:Nat→List Int)(n j:Nat)(h:j<n):hk (pinR rows n) (j+1)=some (IL (rows j)):=by
 have:=Bjz (fun j=>j+1) (fun i j e=>by omega) (fun j=>IL (rows j)) [] j _ (List.mem_range.2 h)
 rw [List.append_nil] at this
 exact this
theorem Fez (rows:Nat→List Int)(n id:Nat)(h:∀ j,j<n→j+1≠id):hk (pinR rows n) id=none:=by
 have:=Bwz (fun j=>j+1) (fun j=>IL (rows j)) [] id (List.range n) fun j hj=>h j (List.mem_range.1 hj)
 rw [List.append_nil] at this
 exact this
theorem pinR_upd {rows:Nat→List Int}{n j:Nat}{xs:List Int}{c0:List AV}(h:j<n)(id:Nat):hk ((0,c0)::pinR (upd rows j xs) n) id=hk ((j+1,IL xs)::(0,c0)::pinR rows n) id:=by
 simp only [hk]
 by_cases e0:id=0
 ·subst e0;rw [if_pos rfl,if_neg (by omega),if_pos rfl]
 ·rw [if_neg e0,if_neg e0]
  by_cases e1:id=j+1
  ·subst e1;rw [if_pos rfl,Eez _ _ _ h,Aqz]
  ·rw [if_neg e1]
   by_cases e2:∃ i,i<n∧i+1=id
   ·obtain ⟨i,hi,rfl⟩:=e2
    rw [Eez _ _ _ hi,Eez _ _ _ hi,Asz _ _ _ _ (by omega)]
   ·rw [Fez _ _ _ fun i hi e=>e2 ⟨i,hi,e⟩,Fez _ _ _ fun i hi e=>e2 ⟨i,hi,e⟩]
theorem SubW.slots {pin:Nat}{σ σ':List (Nat×AV)}{H:List (Nat×List AV)}(h:∀ p∈σ',lk σ p.1=p.2):SubW pin (mkS σ H) (mkS σ' H):=fun E M x w hp hst=>by
 refine ⟨M,hst.defers,hst.size,fun t=>?_,hst.hok,hst.old⟩
 show Den _ (lk σ' t) _
 rcases lk_mem σ' t with e|⟨p,hp,e1,e2⟩
 ·rw [e];simp [Den]
 ·rw [e2,← h p hp,e1];exact hst.slots t
theorem ret_pin {σ:List (Nat×AV)}{res:List ARes}{c0:List AV}{k:Int}{F:Fam}{R:Nat}(hR:R=F.R)(hl:∀ H,aresL (mkS σ H) res=some [.int .i64 k])(h0:c0=F.cellsG (· + 1)) :
  ∃ (outs:List Nat) (nils:List (Nat×Nat)) (l:List AV),((List.range (R+1)++outs).Nodup∧∀ id∈outs,R+1≤id)∧aresL (mkS σ ((0,c0)::pinR F.rows R)) res=some l∧retOk (List.range (R+1)) outs nils (mkS σ ((0,c0)::pinR F.rows R)).H ∧
   ((((tupOf l).fixNil nils).1.can (List.range (R+1)++outs) (orNil (mkS σ ((0,c0)::pinR F.rows R)).H outs))=.int .i64 k∧((List.range (R+1)++outs).map fun id=>(((mkS σ ((0,c0)::pinR F.rows R)).H id).getD []).map (AV.can (List.range (R+1)++outs) (orNil (mkS σ ((0,c0)::pinR F.rows R)).H outs)))=F.cellsG (· + 1)::F.conts):=by
 subst hR h0
 have hpj:∀ j,j<F.R+1→posF (List.range (F.R+1)) j=some j:=fun j hj=>by
  have:=Bzz (k:=0) (ids:=List.range (F.R+1)) (id:=j) (i:=j) List.nodup_range (List.getElem?_range hj)
  rw [Nat.zero_add] at this
  exact this
 refine ⟨[],[],_,⟨(by rw [List.append_nil];exact List.nodup_range),(fun _ h=>by cases h)⟩,hl _,⟨fun id hid=>?_,fun _ h=>by cases h⟩,rfl,?_⟩
 ·have:=List.mem_range.1 hid
  show (hk _ id).isSome=true
  simp only [hk]
  split
  ·rfl
  ·rename_i h0
   obtain ⟨j,rfl⟩:∃ j,id=j+1:=⟨id-1,by omega⟩
   rw [Eez _ _ _ (by omega)];rfl
 ·rw [List.append_nil,List.range_succ_eq_map,List.map_cons,List.map_map]
  rw [← List.range_succ_eq_map]
  congr 1
  ·show (F.cellsG (· + 1)).map _=_
   unfold Fam.cellsG
   rw [Cpz]
   exact Bkz fun p hp=>F.ren_at fun j hj=>hpj (j+1) (by have:=F.ok p j hp hj;omega)
  ·unfold Fam.conts
   refine List.map_congr_left fun j hj=>?_
   show ((hk _ (j+1)).getD []).map _=_
   simp only [hk]
   rw [if_neg (by omega),Eez _ _ _ (List.mem_range.1 hj)]
   exact D9z _

theorem ret_pinS {σ:List (Nat×AV)}{res:List ARes}{c0:List AV}{kk:Int}{F:Fam}{R:Nat}{rows:Nat→List Int}{Post:Int→Prop}(hl:∀ H,aresL (mkS σ H) res=some [.int .i64 kk])(hp:Post kk)(hret:∃ G:Fam,F.like G∧G.rows=rows∧G.R=R∧c0=G.cellsG (· + 1)) :
  ∃ (outs:List Nat) (nils:List (Nat×Nat)) (l:List AV),((List.range (R+1)++outs).Nodup∧∀ id∈outs,R+1≤id)∧aresL (mkS σ ((0,c0)::pinR rows R)) res=some l∧((∀ id∈List.range (R+1),((mkS σ ((0,c0)::pinR rows R)).H id).isSome=true)∧∀ p∈nils,(mkS σ ((0,c0)::pinR rows R)).H p.1=none∧inN outs p.1) ∧
   ∃ (G:Fam) (k':Int),Post k'∧F.like G∧AV.ren (posF (List.range (R+1)++outs)) (orNil (mkS σ ((0,c0)::pinR rows R)).H outs) true some 5 (AV.fixNil nils (tupOf l)).1=.int .i64 k' ∧
    List.map (fun id=>List.map (AV.ren (posF (List.range (R+1)++outs)) (orNil (mkS σ ((0,c0)::pinR rows R)).H outs) true some 5) (((mkS σ ((0,c0)::pinR rows R)).H id).getD [])) (List.range (R+1)++outs)=G.cellsG (· + 1)::G.conts:=by
 obtain ⟨G,h1,rfl,rfl,h4⟩:=hret
 obtain ⟨outs,nils,l,a,b,⟨c,c'⟩,e,f⟩:=ret_pin (F:=G) rfl hl h4
 exact ⟨outs,nils,l,a,b,⟨c,fun p hp=>⟨(c' p hp).1,inN_of (c' p hp).2⟩⟩,G,kk,hp,h1,e,f⟩

def lsF (ls:List (List Int)):Fam:=⟨ls.length,ls.length,fun p=>.inr p,fun j=>ls.getD j [],fun p j h e=>by injection e with e;omega,fun p a e=>by cases e⟩
theorem LL_map (b:Bool):∀ ls:List (List Int),LL b ls=ls.map fun l=>.rows b (IL l) l.length
 | []=>rfl
 | l::r=>by simp only [LL,List.map_cons,LL_map b r]
theorem lsF_plain (ls:List (List Int))(b:Bool):(lsF ls).plain b=LL b ls:=by
 symm
 refine row_ext (Baz b ls) fun p hp=>?_
 have hp':p<ls.length:=hp
 rw [LL_map,List.getElem?_map,List.getElem?_eq_getElem hp']
 simp [Fam.atP,lsF,List.getD,hp']
theorem lsF_C (ls:List (List Int)):(lsF ls).C=ls.length:=rfl
theorem lsF_R (ls:List (List Int)):(lsF ls).R=ls.length:=rfl
def tnRow (ts:List Tn)(j:Nat):List Int:=if j % 2=0 then (ts.getD (j / 2) ([],[])).1 else (ts.getD (j / 2) ([],[])).2
def tsF (ts:List Tn):Fam:=⟨ts.length*2,ts.length*2,fun p=>.inr p,tnRow ts,fun p j h e=>by injection e with e;omega,fun p a e=>by cases e⟩
theorem tsF_C (ts:List Tn):(tsF ts).C=ts.length*2:=rfl
theorem tsF_R (ts:List Tn):(tsF ts).R=ts.length*2:=rfl
theorem tnRow_0 {ts:List Tn}{i:Nat}{x y:List Int}(h:ts[i]?=some (x,y)):tnRow ts (i*2)=x∧tnRow ts (i*2+1)=y:=by
 unfold tnRow
 rw [if_pos (by omega),if_neg (by omega),show i*2 / 2=i by omega,show (i*2+1) / 2=i by omega]
 simp [List.getD,h]
theorem tsF_plain (ts:List Tn)(b:Bool):(tsF ts).plain b=TL b ts:=by
 symm
 refine row_ext (Fyz b ts) fun p hp=>?_
 have hp':p<ts.length*2:=hp
 obtain ⟨t,ht⟩:∃ t,ts[p / 2]?=some t:=⟨ts[p / 2]'(by omega),List.getElem?_eq_getElem _⟩
 have hd:=TL_drop b ts (p / 2) ht
 obtain ⟨h0,h1⟩:=tnRow_0 (x:=t.1) (y:=t.2) ht
 rcases Nat.mod_two_eq_zero_or_one p with e|e
 ·have:=congrArg (fun l=>l[0]?) hd
  simp only [List.getElem?_take,List.getElem?_drop] at this
  have e2:p / 2*2=p:=by omega
  rw [e2] at this h0
  simp at this
  rw [this]
  simp [Fam.atP,tsF,h0]
 ·have:=congrArg (fun l=>l[1]?) hd
  simp only [List.getElem?_take,List.getElem?_drop] at this
  have e2:p / 2*2+1=p:=by omega
  rw [e2] at this h1
  simp at this
  rw [this]
  simp [Fam.atP,tsF,h1]
attribute [push_cast] lsF_plain lsF_C lsF_R tsF_plain tsF_C tsF_R hk_famR_low freshD_famR
end Vw
