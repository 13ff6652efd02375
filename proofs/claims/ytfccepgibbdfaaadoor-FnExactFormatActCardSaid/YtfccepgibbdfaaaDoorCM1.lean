/- The mathematics of ranges,slices,shapes and indices that the contracts speak of. -/
import Derived.Test.YtfccepgibbdfaaaDoorCW3
import Derived.Lib.ItoaNum
set_option linter.unusedSimpArgs false
set_option linter.unusedSectionVars false
set_option linter.unusedVariables false
set_option maxRecDepth 4000
set_option linter.unnecessarySimpa false
namespace VwM
open Vw
open Go

abbrev IL (xs:List Int):List AV:=xs.map (AV.int .i64)
abbrev RI (xs:List Int):AV:=.rows false (IL xs) xs.length
abbrev OI (xs:List Int):AV → List (List AV) → Prop:=fun r H'=>r=.own 0 xs.length 1 ∧ H'=[IL xs]
theorem mkAV_ints0 (k:IntKind) (xs:List Int):mkAV false ((xs.map (AV.int k)).take 1)=if 0 < xs.length then some (.int k (xs.getD 0 0)) else none:=by
  haveI:Inhabited GlobT:=⟨⟨[]⟩⟩
  have:=D4z k xs 0
  rwa [List.drop_zero] at this
attribute [push_cast] D4z mkAV_ints0


theorem list_eq_of {xs ys:List Int} (hl:xs.length=ys.length) (h:∀ j:Nat,j < xs.length → xs.getD j 0=ys.getD j 0):xs=ys:=by
  refine List.ext_getElem hl fun i h1 h2=>?_
  have:=h i h1
  simpa [List.getD,h1,h2] using this


def upFrom (k:Int) (n:Nat):List Int:=(List.range n).map fun i:Nat=>k + (i:Int)
theorem C3z (k:Int) (n:Nat):(upFrom k n).length=n:=by simp [upFrom]
attribute [simp] C3z
attribute [push_cast] C3z
def marked (k:Int) (xs:List Int) (j:Nat):List Int:=upFrom k j ++ xs.drop j
def nums (a c:Int) (k:Nat):List Int:=(List.range k).map fun i:Nat=>a + (i:Int) * c
theorem D2z (a c:Int) (k:Nat):(nums a c k).length=k:=by simp [nums]
attribute [simp] D2z
attribute [push_cast] D2z
def filled (g:Nat → Int) (n j:Nat):List Int:=(List.range n).map fun i=>if i < j then g i else 0
theorem filled_zero (g:Nat → Int) (n:Nat):filled g n 0=List.replicate n 0:=by
  refine List.ext_getElem? fun i=>?_
  by_cases h:i < n<;>simp [filled,h]
theorem Dbz (g:Nat → Int) (n j:Nat):(filled g n j).length=n:=by simp [filled]
attribute [simp] Dbz
attribute [push_cast] Dbz
theorem filled_set (g:Nat → Int) (n j:Nat) (h:j < n):(filled g n j).set j (g j)=filled g n (j + 1):=by
  refine List.ext_getElem? fun i=>?_
  simp only [filled,List.getElem?_set,List.length_map,List.length_range,List.getElem?_map]
  by_cases h1:j=i
  · subst h1;simp [h]
  · by_cases h2:i < n
    · simp only [List.getElem?_range h2,Option.map_some,if_neg h1]
      congr 1
      by_cases h3:i < j
      · rw [if_pos h3,if_pos (by omega)]
      · rw [if_neg h3,if_neg (by omega)]
    · simp [h1,h2]
theorem filled_all (g:Nat → Int) (n:Nat):filled g n n=(List.range n).map g:=by
  refine List.map_congr_left fun i hi=>?_
  rw [if_pos (List.mem_range.1 hi)]
theorem IL_set (xs:List Int) (j:Nat) (v:Int):(IL xs).set j (.int .i64 v)=IL (xs.set j v):=by simp [IL,List.map_set]
theorem toNat_succ (k:Nat):((k:Int) + 1).toNat=k + 1:=by omega
theorem IL_tail (k:IntKind) (xs:List Int) (j:Nat):(((xs.map (AV.int k)).drop j).take (xs.length - j))=(xs.drop j).map (AV.int k):=by
  rw [← List.map_drop,← List.map_take]
  congr 1
  exact List.take_of_length_le (by simp)
attribute [push_cast] toNat_succ IL_tail
def pr (xs:List Int):Int:=xs.foldl (· * ·) 1
def allI (xs:List Int) (l h:Int):Bool:=xs.all fun x=>decide (l ≤ x) && decide (x ≤ h)
theorem Fwz {xs:List Int} {l h:Int}:allI xs l h=true ↔ ∀ x ∈ xs,l ≤ x ∧ x ≤ h:=by simp [allI]
theorem Bhz {xs:List Int} {l h:Int}:(∀ j:Nat,j < xs.length → l ≤ xs.getD j 0 ∧ xs.getD j 0 ≤ h) → allI xs l h=true:=by
  intro hj
  rw [Fwz]
  intro x hx
  obtain ⟨i,hi,rfl⟩:=List.getElem_of_mem hx
  have:=hj i hi
  simpa [List.getD,hi] using this
theorem Bcz {xs:List Int} {l h:Int} {j:Nat} (hj:j < xs.length) (hx:xs.getD j 0 < l ∨ h < xs.getD j 0):allI xs l h=false:=by
  rw [Bool.eq_false_iff]
  intro ht
  have:=(Fwz.1 ht) (xs.getD j 0) (by simp [List.getD,hj])
  omega
theorem filled_getD (xs:List Int):(List.range xs.length).map (fun i:Nat=>xs.getD i 0)=xs:=by
  refine List.ext_getElem (by simp) fun i h1 h2=>?_
  simp [List.getD,h2]



def rowS (sh:List Int):List Int:=(List.range sh.length).map fun i:Nat=>pr (sh.drop (i + 1))
def colS (sh:List Int):List Int:=(List.range sh.length).map fun i:Nat=>pr (sh.take i)
theorem Dxz (sh:List Int):(rowS sh).length=sh.length:=by simp [rowS]
theorem Elz (sh:List Int):(colS sh).length=sh.length:=by simp [colS]
attribute [simp] Dxz Elz
attribute [push_cast] Dxz Elz
def filledD (g:Nat → Int) (n k:Nat):List Int:=(List.range n).map fun i=>if n - k ≤ i then g i else 0
theorem Cqz (g:Nat → Int) (n k:Nat):(filledD g n k).length=n:=by simp [filledD]
attribute [simp] Cqz
attribute [push_cast] Cqz
def kS (sh:List Int) (k:Int):Nat → Int
  | 0=>k
  | j + 1=>(kS sh k j).tdiv (sh.getD (sh.length - 1 - j) 0)
def dig (sh:List Int) (k:Int) (i:Nat):Int:=(kS sh k (sh.length - 1 - i)).tmod (sh.getD i 0)
def unr (sh:List Int) (k:Int):List Int:=(List.range sh.length).map (dig sh k)
theorem Eyz (sh:List Int) (k:Int):(unr sh k).length=sh.length:=by simp [unr]
attribute [simp] Eyz
attribute [push_cast] Eyz
def pad4 (f:Nat → Int):List Int:=[f 0,f 1,f 2,f 3]
theorem D0z (f:Nat → Int):(pad4 f).length=4:=rfl
theorem Fhz (a b c d:AV) (f:Nat → Int):setRange [a,b,c,d] 0 ((pad4 f).map (AV.int .i64))=(pad4 f).map (AV.int .i64):=by simp [pad4,setRange]
theorem Etz (g f:Nat → Int):setRange ((pad4 g).map (AV.int .i64)) 0 ((pad4 f).map (AV.int .i64))=(pad4 f).map (AV.int .i64):=by simp [pad4,setRange]
theorem take_pad4 (f:Nat → Int):((pad4 f).map (AV.int .i64)).take 4=(pad4 f).map (AV.int .i64):=by simp [pad4]
attribute [simp] D0z
attribute [push_cast] D0z Fhz Etz take_pad4
def vIx (sh idx:List Int):Bool:=decide (idx.length=sh.length) && (List.range idx.length).all fun i=>decide (0 ≤ idx.getD i 0) && decide (idx.getD i 0 ≤ sh.getD i 0 - 1)
def idxP (sh idx:List Int) (i:Nat):Int:=if vIx sh idx=true ∧ i < sh.length then idx.getD i 0 else 0
end VwM
namespace VwM
open Vw
open Go

theorem mem_getD {xs:List Int} {x:Int}:x ∈ xs ↔ ∃ j,j < xs.length ∧ xs.getD j 0=x:=by
  constructor
  · intro h
    obtain ⟨i,hi,e⟩:=List.getElem_of_mem h
    exact ⟨i,hi,by simp [List.getD,hi,e]⟩
  · rintro ⟨j,hj,rfl⟩
    simp [List.getD,hj]
theorem getD_mem {xs:List Int} {j:Nat} (h:j < xs.length):xs.getD j 0 ∈ xs:=mem_getD.2 ⟨j,h,rfl⟩
end VwM
namespace VwM
open Vw
open Go

end VwM
namespace VwM
open Vw
open Go

theorem tmod_bound {x n:Int} (hx:0 ≤ x) (hn:0 < n):0 ≤ x.tmod n ∧ x.tmod n < n:=⟨Int.tmod_nonneg n hx,Int.tmod_lt_of_pos x hn⟩
def unI:List AV → List Int
  | []=>[]
  | .int _ n :: r=>n :: unI r
  | _ :: r=>0 :: unI r
theorem unI_nil:unI []=[]:=rfl
theorem unI_cons (k:IntKind) (n:Int) (r:List AV):unI (.int k n :: r)=n :: unI r:=rfl
theorem unI_IL (xs:List Int):unI (IL xs)=xs:=by
  induction xs with
  | nil=>rfl
  | cons x r ih=>show x :: unI (IL r)=_;rw [ih]
attribute [simp] unI_nil unI_cons unI_IL
end VwM
namespace VwM
open Vw
open Go

end VwM
namespace VwM
open Vw
open Go

end VwM
namespace VwM
open Vw
open Go

end VwM
namespace VwM
open Vw Go




end VwM
namespace Vw
open Go
variable [Inhabited GlobT]

def fid (i:Nat):Nat:=1099511627776 + i
theorem Fqz (i j:Nat):(fid i=fid j)=(i=j):=by unfold fid;exact propext ⟨fun h=>by omega,fun h=>by omega⟩
theorem fid_ne (i n:Nat) (h:n < 1099511627776):(fid i=n)=False:=by unfold fid;exact propext ⟨fun h=>by omega,False.elim⟩
theorem ne_fid (i n:Nat) (h:n < 1099511627776):(n=fid i)=False:=by unfold fid;exact propext ⟨fun h=>by omega,False.elim⟩
theorem fid_div (i d:Nat) (h:d < 68719476736):(fid i / 16=d)=False:=by unfold fid;exact propext ⟨fun h=>by omega,False.elim⟩
theorem fid_ge (i n:Nat) (h:n < 1099511627776):(n ≤ fid i)=True:=by unfold fid;exact propext ⟨fun _=>trivial,fun _=>by omega⟩

def famL (f:Nat → List AV):Nat → List (Nat × List AV)
  | 0=>[]
  | n + 1=>(fid n,f n) :: famL f n
theorem Ecz (f:Nat → List AV) (i:Nat):∀ n,hk (famL f n) (fid i)=if i < n then some (f i) else none
  | 0=>by simp [famL,hk]
  | n + 1=>by
    simp only [famL,hk,Fqz,Ecz f i n]
    by_cases h:i=n
    · subst h;simp
    · rw [if_neg h]
      by_cases h':i < n
      · rw [if_pos h',if_pos (by omega)]
      · rw [if_neg h',if_neg (by omega)]
theorem Ebz (f:Nat → List AV) (id:Nat) (h:id < 1099511627776):∀ n,hk (famL f n) id=none
  | 0=>rfl
  | n + 1=>by simp only [famL,hk,ne_fid n id h,if_false,Ebz f id h n]
theorem Egz (f:Nat → List AV) (d:Nat) (h:d < 68719476736):∀ n,freshD (famL f n) d=True
  | 0=>rfl
  | n + 1=>by simp only [famL,freshD,fid_div n d h,not_false_eq_true,Egz f d h n,and_self]
attribute [push_cast] Fqz fid_ne ne_fid fid_div fid_ge Ecz Ebz Egz
end Vw
namespace Vw
open Go VwM
variable [Inhabited GlobT]

def row (C:Nat) (h:Nat → AV):List AV:=(List.range C).map h
theorem E0z (C:Nat) (h:Nat → AV):(row C h).length=C:=by simp [row]
theorem row_map (C:Nat) (h:Nat → AV) (φ:AV → AV):(row C h).map φ=row C fun p=>φ (h p):=by simp [row,Function.comp_def]
theorem row_congr {C:Nat} {h g:Nat → AV} (e:∀ p,p < C → h p=g p):row C h=row C g:=by
  unfold row
  exact List.map_congr_left fun p hp=>e p (List.mem_range.1 hp)
theorem row_get (C:Nat) (h:Nat → AV) (p:Nat):(row C h)[p]?=if p < C then some (h p) else none:=by
  unfold row
  rw [List.getElem?_map]
  by_cases hp:p < C
  · rw [if_pos hp,List.getElem?_range hp];rfl
  · rw [if_neg hp,List.getElem?_eq_none (by simpa using hp)];rfl
theorem row_ext {C:Nat} {L:List AV} {h:Nat → AV} (hl:L.length=C) (e:∀ p,p < C → L[p]?=some (h p)):L=row C h:=by
  apply List.ext_getElem?
  intro q
  rw [row_get]
  by_cases hq:q < C
  · rw [if_pos hq,e q hq]
  · rw [if_neg hq,List.getElem?_eq_none (by omega)]
structure Fam where
  C:Nat
  R:Nat
  pat:Nat → AV ⊕ Nat
  rows:Nat → List Int
  ok:∀ p j,p < C → pat p=.inr j → j < R
  cell:∀ p a,pat p=.inl a → (∃ k x,a=.int k x) ∨ ∃ b,a=.bool b
def Fam.atG (F:Fam) (g:Nat → Nat) (p:Nat):AV:=match F.pat p with
  | .inl a=>a
  | .inr j=>.own (g j) (F.rows j).length 1
def Fam.atP (F:Fam) (b:Bool) (p:Nat):AV:=match F.pat p with
  | .inl a=>a
  | .inr j=>.rows b (IL (F.rows j)) (F.rows j).length
def Fam.cellsG (F:Fam) (g:Nat → Nat):List AV:=row F.C (F.atG g)
def Fam.plain (F:Fam) (b:Bool):List AV:=row F.C (F.atP b)
theorem Fsz (F:Fam) (g:Nat → Nat):(F.cellsG g).length=F.C:=E0z ..
theorem plain_length (F:Fam) (b:Bool):(F.plain b).length=F.C:=E0z ..
structure Fam.like (F G:Fam):Prop where
  C:G.C=F.C
  R:G.R=F.R
  len:∀ j,j < F.R → (G.rows j).length=(F.rows j).length

def fim (d j:Nat):Nat:=fid (65536 * j + d)
theorem fim_ne (d j n:Nat) (h:n < 1099511627776):(fim d j=n)=False:=fid_ne _ _ h
theorem ne_fim (d j n:Nat) (h:n < 1099511627776):(n=fim d j)=False:=ne_fid _ _ h
theorem fim_inj {d i j:Nat} (h:fim d i=fim d j):i=j:=by unfold fim at h;rw [Fqz] at h;omega
theorem fim_oth {d d' i j:Nat} (h1:d < 65536) (h2:d' < 65536) (h:fim d i=fim d' j):d=d':=by unfold fim at h;rw [Fqz] at h;omega
theorem Fpz (d j n:Nat) (h:n < 68719476736):(fim d j / 16=n)=False:=fid_div _ _ h
theorem fim_low (d j:Nat):1099511627776 ≤ fim d j:=by unfold fim fid;omega

def famD (d:Nat) (F:Fam):List (Nat × List AV):=(List.range F.R).map fun j=>(fim d j,IL (F.rows j))
theorem Bkz (g:Nat → Nat) (f:Nat → List AV) (r:List (Nat × List AV)) (id:Nat):∀ l:List Nat,(∀ j ∈ l,g j ≠ id) → hk (l.map (fun j=>(g j,f j)) ++ r) id=hk r id
  | [],_=>rfl
  | a :: l,h=>by
    simp only [List.map_cons,List.cons_append,hk]
    rw [if_neg (fun e=>h a (by simp) e.symm)]
    exact Bkz g f r id l fun j hj=>h j (by simp [hj])
theorem Bqz (g:Nat → Nat) (hg:∀ i j,g i=g j → i=j) (f:Nat → List AV) (r:List (Nat × List AV)) (i:Nat):∀ l:List Nat,i ∈ l → hk (l.map (fun j=>(g j,f j)) ++ r) (g i)=some (f i)
  | [],h=>by cases h
  | a :: l,h=>by
    simp only [List.map_cons,List.cons_append,hk]
    by_cases e:g i=g a
    · rw [if_pos e,hg _ _ e]
    · rw [if_neg e]
      rcases List.mem_cons.1 h with h|h
      · exact absurd (by rw [h]) e
      · exact Bqz g hg f r i l h
theorem Caz (d:Nat) (F:Fam) (r:List (Nat × List AV)) (j:Nat) (h:j < F.R):hk (famD d F ++ r) (fim d j)=some (IL (F.rows j)) :=
  Bqz (fim d) (fun _ _=>fim_inj) (fun j=>IL (F.rows j)) r j _ (List.mem_range.2 h)
theorem Edz (d:Nat) (F:Fam) (r:List (Nat × List AV)) (id:Nat) (h:id < 1099511627776):hk (famD d F ++ r) id=hk r id :=
  Bkz (fim d) (fun j=>IL (F.rows j)) r id _ fun j _ e=>by have:=fim_low d j;omega
theorem Cyz (d:Nat) (F:Fam) (r:List (Nat × List AV)) (d' j:Nat) (h1:d < 65536) (h2:d' < 65536) (hn:d ≠ d'):hk (famD d F ++ r) (fim d' j)=hk r (fim d' j) :=
  Bkz (fim d) (fun j=>IL (F.rows j)) r _ _ fun j _ e=>hn (fim_oth h1 h2 e)
theorem Ehz (d:Nat) (F:Fam) (r:List (Nat × List AV)) (n:Nat) (h:n < 68719476736):freshD (famD d F ++ r) n=freshD r n:=by
  unfold famD
  have:∀ l:List Nat,freshD (l.map (fun j=>(fim d j,IL (F.rows j))) ++ r) n=freshD r n:=by
    intro l
    induction l with
    | nil=>rfl
    | cons a l ih=>simp only [List.map_cons,List.cons_append,freshD,Fpz _ _ _ h,not_false_eq_true,true_and,ih]
  exact this _
def noFam (d:Nat) (H:List (Nat × List AV)):Prop:=∀ j,hk H (fim d j)=none
theorem noFam_nil (d:Nat):noFam d []=True:=propext ⟨fun _=>trivial,fun _ _=>rfl⟩
theorem noFam_cons (d t:Nat) (v:List AV) (r:List (Nat × List AV)) (h:t < 1099511627776):noFam d ((t,v) :: r)=noFam d r:=by
  unfold noFam
  simp only [hk,fim_ne _ _ t h,if_false]
theorem noFam_fam (d d':Nat) (F:Fam) (r:List (Nat × List AV)) (h:d < 65536 ∧ d' < 65536 ∧ d' ≠ d):noFam d (famD d' F ++ r)=noFam d r:=by
  unfold noFam
  simp only [Cyz d' F r d _ h.2.1 h.1 h.2.2]

theorem Dcz (d:Nat) (F:Fam):famD d F=famD d F ++ []:=(List.append_nil _).symm
theorem Fnz (d:Nat) (F:Fam) (j:Nat) (h:j < F.R):hk (famD d F) (fim d j)=some (IL (F.rows j)):=by rw [Dcz];exact Caz d F [] j h
theorem hk_famD_low0 (d:Nat) (F:Fam) (id:Nat) (h:id < 1099511627776):hk (famD d F) id=none:=by rw [Dcz];exact Edz d F [] id h
theorem freshD_famD0 (d:Nat) (F:Fam) (n:Nat) (h:n < 68719476736):freshD (famD d F) n=True:=by rw [Dcz];exact Ehz d F [] n h
theorem noFam_fam0 (d d':Nat) (F:Fam) (h:d < 65536 ∧ d' < 65536 ∧ d' ≠ d):noFam d (famD d' F)=True:=by rw [Dcz,noFam_fam d d' F [] h,noFam_nil]
theorem ren_IL2 {ρ:Nat → Option Nat} {Z:Nat → Option (List AV)} {b:Bool} {φ:Bool → Option Bool} {n:Nat} (xs:List Int):(IL xs).map (AV.ren ρ Z b φ (n + 1))=IL xs:=by unfold IL;rw [List.map_map];rfl
theorem Fam.ren_plain (F:Fam) {g:Nat → Nat} {ρ:Nat → Option Nat} {Z:Nat → Option (List AV)} {b:Bool} {φ:Bool → Option Bool} {n p:Nat} (h:∀ j,F.pat p=.inr j → ρ (g j)=none ∧ Z (g j)=some (IL (F.rows j))):(F.atG g p).ren ρ Z b φ (n + 2)=F.atP b p:=by
  unfold Fam.atG Fam.atP
  cases e:F.pat p with
  | inl a =>
    rcases F.cell p a e with ⟨k,x,rfl⟩|⟨c,rfl⟩<;>rfl
  | inr j =>
    obtain ⟨h1,h2⟩:=h j e
    simp only [ren_own,h1,h2,renO_none]
    have:(IL (F.rows j)).length=(F.rows j).length * 1:=by unfold IL;simp
    rw [if_pos this,ren_IL2]

def hasFam (d:Nat) (F:Fam) (H:List (Nat × List AV)):Prop:=∀ j,j < F.R → hk H (fim d j)=some (IL (F.rows j))
theorem hasFam_cons (d:Nat) (F:Fam) (t:Nat) (v:List AV) (H:List (Nat × List AV)) (h:t < 1099511627776):hasFam d F ((t,v) :: H)=hasFam d F H:=by
  unfold hasFam
  simp only [hk,fim_ne _ _ t h,if_false]
theorem Eez (d:Nat) (F:Fam) (r:List (Nat × List AV)):hasFam d F (famD d F ++ r)=True:=propext ⟨fun _=>trivial,fun _ j hj=>Caz d F r j hj⟩
theorem hasFam_oth (d d':Nat) (F G:Fam) (r:List (Nat × List AV)) (h:d < 65536 ∧ d' < 65536 ∧ d' ≠ d):hasFam d F (famD d' G ++ r)=hasFam d F r:=by
  unfold hasFam
  simp only [Cyz d' G r d _ h.2.1 h.1 h.2.2]
theorem hasFam_same0 (d:Nat) (F:Fam):hasFam d F (famD d F)=True:=by rw [Dcz];exact Eez d F []
open Classical in
noncomputable def rdx (p:Prop) (a b:List AV):List AV:=if p then a else b
theorem rdx_true (a b:List AV):rdx True a b=a:=by unfold rdx;exact if_pos trivial
theorem readF_eq (F:Fam) (d:Nat) {b:Bool} {φ:Bool → Option Bool} {n:Nat} (H:List (Nat × List AV)) :
    (F.cellsG (fim d)).map (AV.ren (posF []) (zF false (hk H)) b φ (n + 2))=rdx (hasFam d F H) (F.plain b) (row F.C fun p=>(F.atG (fim d) p).ren (posF []) (zF false (hk H)) b φ (n + 2)):=by
  unfold rdx
  split
  · rename_i h
    unfold Fam.cellsG Fam.plain
    rw [row_map]
    exact row_congr fun p hp=>F.ren_plain fun j hj=>⟨rfl,h j (F.ok p j hp hj)⟩
  · unfold Fam.cellsG
    rw [row_map]

section
variable {P:Program} {pin:Nat} {σ:List (Nat × AV)} {H:List (Nat × List AV)} {K:S → Prop}
end
attribute [push_cast] Fnz hk_famD_low0 freshD_famD0 noFam_fam0 hasFam_same0 Fsz plain_length fim_ne ne_fim Fpz Edz Caz Cyz Ehz noFam_nil noFam_cons noFam_fam hasFam_cons Eez hasFam_oth rdx_true readF_eq
end Vw
namespace VwM
open Vw
open Go

theorem mkAV_bools (bs:List Bool) (off:Nat):mkAV false (((bs.map AV.bool).drop off).take 1)=if off < bs.length then some (.bool (bs.getD off false)) else none:=by
  by_cases h:off < bs.length
  · rw [if_pos h,List.drop_eq_getElem_cons (by simpa using h)]
    simp [mkAV,h,List.getD]
  · rw [if_neg h,List.drop_eq_nil_of_le (by simp;omega)]
    rfl
attribute [push_cast] mkAV_bools
def met (xs:List Int) (k:Nat):List Bool:=(List.range 60).map fun c:Nat=>decide ((c:Int) ∈ xs.take k)
end VwM
namespace VwM
open Vw
open Go

end VwM
namespace VwM
open Vw
open Go

end VwM
namespace VwM
open Vw
open Go

end VwM
namespace VwM
open Vw
open Go

end VwM
namespace VwM
open Vw
open Go

end VwM
namespace VwM
open Vw
open Go

abbrev Vw3:=Int × List Int × List Int
def VLs:List Vw3 → List AV
  | []=>[]
  | v :: r=>.int .i64 v.1 :: RI v.2.1 :: RI v.2.2 :: VLs r
theorem ren_VLs {ρ:Nat → Option Nat} {Zh:Nat → Option (List AV)} {n:Nat}:∀ vs:List Vw3,(VLs vs).map (AV.ren ρ Zh false phiD (n + 2))=VLs vs
  | []=>rfl
  | v :: r=>by
    simp only [VLs,List.map_cons,ren_VLs r,List.cons.injEq,and_true]
    refine ⟨rfl,?_,?_⟩<;>simp [AV.ren,phiD]
attribute [push_cast] ren_VLs
end VwM
namespace VwM
open Go Vw

abbrev Tn:=List Int × List Int
def TL (b:Bool):List Tn → List AV
  | []=>[]
  | t :: r=>.rows b (IL t.1) t.1.length :: .rows b (IL t.2) t.2.length :: TL b r
def LL (b:Bool):List (List Int) → List AV
  | []=>[]
  | l :: r=>.rows b (IL l) l.length :: LL b r
theorem Epz (b:Bool):∀ ts:List Tn,(TL b ts).length=ts.length * 2
  | []=>rfl
  | t :: r=>by simp only [TL,List.length_cons,Epz b r];omega
theorem Eqz (b:Bool):∀ ls:List (List Int),(LL b ls).length=ls.length
  | []=>rfl
  | l :: r=>by simp only [LL,List.length_cons,Eqz b r]
theorem TL_drop (b:Bool):∀ (ts:List Tn) (i:Nat) {t:Tn},ts[i]?=some t → ((TL b ts).drop (i * 2)).take 2=[.rows b (IL t.1) t.1.length,.rows b (IL t.2) t.2.length]
  | [],_,_,h=>by simp at h
  | w :: r,0,v,h=>by simp at h;subst h;simp [TL]
  | w :: r,i + 1,v,h=>by
    rw [show (i + 1) * 2=i * 2 + 1 + 1 by omega]
    simp only [TL,List.drop_succ_cons]
    exact TL_drop b r i (by simpa using h)
section
variable {ρ:Nat → Option Nat} {Zh:Nat → Option (List AV)} {n:Nat} {b0:Bool} {φ:Bool → Option Bool}
theorem ren_IL (xs:List Int):(IL xs).map (AV.ren ρ Zh b0 φ (n + 1))=IL xs:=by unfold IL;rw [List.map_map];rfl
theorem ren_TL {b c:Bool} (h:φ b=some c):∀ ts:List Tn,(TL b ts).map (AV.ren ρ Zh b0 φ (n + 2))=TL c ts
  | []=>rfl
  | v :: r=>by
    simp only [TL,List.map_cons,ren_TL h r,List.cons.injEq,and_true]
    constructor<;>simp only [AV.ren,h,ren_IL]
theorem ren_LL {b c:Bool} (h:φ b=some c):∀ ls:List (List Int),(LL b ls).map (AV.ren ρ Zh b0 φ (n + 2))=LL c ls
  | []=>rfl
  | v :: r=>by
    simp only [LL,List.map_cons,ren_LL h r,List.cons.injEq,and_true]
    simp only [AV.ren,h,ren_IL]
theorem ren_TLD (b:Bool) (ts:List Tn):(TL b ts).map (AV.ren ρ Zh b0 phiD (n + 2))=TL false ts:=ren_TL (by cases b<;>rfl) ts
theorem ren_LLD (b:Bool) (ts:List (List Int)):(LL b ts).map (AV.ren ρ Zh b0 phiD (n + 2))=LL false ts:=ren_LL (by cases b<;>rfl) ts
theorem ren_TLU (sh:Bool) (ts:List Tn):(TL true ts).map (AV.ren ρ Zh b0 (phiU sh) (n + 2))=TL true ts:=ren_TL (by rfl) ts
theorem ren_LLU (sh:Bool) (ts:List (List Int)):(LL true ts).map (AV.ren ρ Zh b0 (phiU sh) (n + 2))=LL true ts:=ren_LL (by rfl) ts
theorem ren_TLV (b:Bool) (ts:List Tn):(TL b ts).map (AV.ren ρ Zh b0 (phiU true) (n + 2))=TL b ts:=ren_TL (by cases b<;>rfl) ts
theorem ren_LLV (b:Bool) (ts:List (List Int)):(LL b ts).map (AV.ren ρ Zh b0 (phiU true) (n + 2))=LL b ts:=ren_LL (by cases b<;>rfl) ts
theorem ren_TLs (b:Bool) (ts:List Tn):(TL b ts).map (AV.ren ρ Zh b0 some (n + 2))=TL b ts:=ren_TL (by rfl) ts
theorem ren_LLs (b:Bool) (ts:List (List Int)):(LL b ts).map (AV.ren ρ Zh b0 some (n + 2))=LL b ts:=ren_LL (by rfl) ts
end
attribute [push_cast] ren_TLD ren_LLD ren_TLU ren_LLU ren_TLV ren_LLV ren_TLs ren_LLs Epz Eqz

theorem fz_IL {H:Nat → Option (List AV)} {n:Nat} (xs:List Int):(IL xs).map (AV.fz H (n + 1))=IL xs:=by unfold IL;rw [List.map_map];rfl
theorem fz_TL {H:Nat → Option (List AV)} {n:Nat} (b:Bool):∀ ts:List Tn,(TL b ts).map (AV.fz H (n + 2))=TL b ts
  | []=>rfl
  | v :: r=>by
    simp only [TL,List.map_cons,fz_TL b r,List.cons.injEq,and_true]
    constructor<;>simp only [AV.fz,fz_IL]
theorem fz_LL {H:Nat → Option (List AV)} {n:Nat} (b:Bool):∀ ls:List (List Int),(LL b ls).map (AV.fz H (n + 2))=LL b ls
  | []=>rfl
  | v :: r=>by
    simp only [LL,List.map_cons,fz_LL b r,List.cons.injEq,and_true]
    simp only [AV.fz,fz_IL]
attribute [push_cast] fz_TL fz_LL

end VwM
namespace Vw
open Go VwM
variable [Inhabited GlobT]

def famR (d:Nat) (rows:Nat → List Int) (n:Nat):List (Nat × List AV):=(List.range n).map fun j=>(fim d j,IL (rows j))
theorem hk_famR_out (d:Nat) (rows:Nat → List Int) (n id:Nat) (h:∀ j,j < n → fim d j ≠ id):hk (famR d rows n) id=none:=by
  have:=Bkz (fim d) (fun j=>IL (rows j)) [] id (List.range n) fun j hj=>h j (List.mem_range.1 hj)
  rw [List.append_nil] at this
  exact this
theorem hk_famR_low (d:Nat) (rows:Nat → List Int) (n id:Nat) (h:id < 1099511627776):hk (famR d rows n) id=none :=
  hk_famR_out d rows n id fun j _ e=>by have:=fim_low d j;omega
theorem freshD_famR (d:Nat) (rows:Nat → List Int) (n k:Nat) (h:k < 68719476736):freshD (famR d rows n) k=True:=by
  have:∀ l:List Nat,freshD (l.map (fun j=>(fim d j,IL (rows j)))) k=True:=by
    intro l
    induction l with
    | nil=>rfl
    | cons a l ih=>simp only [List.map_cons,freshD,Fpz _ _ _ h,not_false_eq_true,true_and,ih]
  exact this _
def lsF (ls:List (List Int)):Fam:=⟨ls.length,ls.length,fun p=>.inr p,fun j=>ls.getD j [],fun p j h e=>by injection e with e;omega,fun p a e=>by cases e⟩
theorem LL_map (b:Bool):∀ ls:List (List Int),LL b ls=ls.map fun l=>.rows b (IL l) l.length
  | []=>rfl
  | l :: r=>by simp only [LL,List.map_cons,LL_map b r]
theorem lsF_plain (ls:List (List Int)) (b:Bool):(lsF ls).plain b=LL b ls:=by
  symm
  refine row_ext (Eqz b ls) fun p hp=>?_
  have hp':p < ls.length:=hp
  rw [LL_map,List.getElem?_map,List.getElem?_eq_getElem hp']
  simp [Fam.atP,lsF,List.getD,hp']
theorem lsF_C (ls:List (List Int)):(lsF ls).C=ls.length:=rfl
theorem lsF_R (ls:List (List Int)):(lsF ls).R=ls.length:=rfl
def tnRow (ts:List Tn) (j:Nat):List Int:=if j % 2=0 then (ts.getD (j / 2) ([],[])).1 else (ts.getD (j / 2) ([],[])).2
def tsF (ts:List Tn):Fam:=⟨ts.length * 2,ts.length * 2,fun p=>.inr p,tnRow ts,fun p j h e=>by injection e with e;omega,fun p a e=>by cases e⟩
theorem tsF_C (ts:List Tn):(tsF ts).C=ts.length * 2:=rfl
theorem tsF_R (ts:List Tn):(tsF ts).R=ts.length * 2:=rfl
theorem tnRow_0 {ts:List Tn} {i:Nat} {x y:List Int} (h:ts[i]?=some (x,y)):tnRow ts (i * 2)=x ∧ tnRow ts (i * 2 + 1)=y:=by
  unfold tnRow
  rw [if_pos (by omega),if_neg (by omega),show i * 2 / 2=i by omega,show (i * 2 + 1) / 2=i by omega]
  simp [List.getD,h]
theorem tsF_plain (ts:List Tn) (b:Bool):(tsF ts).plain b=TL b ts:=by
  symm
  refine row_ext (Epz b ts) fun p hp=>?_
  have hp':p < ts.length * 2:=hp
  obtain ⟨t,ht⟩:∃ t,ts[p / 2]?=some t:=⟨ts[p / 2]'(by omega),List.getElem?_eq_getElem _⟩
  have hd:=TL_drop b ts (p / 2) ht
  obtain ⟨h0,h1⟩:=tnRow_0 (x:=t.1) (y:=t.2) ht
  rcases Nat.mod_two_eq_zero_or_one p with e|e
  · have:=congrArg (fun l=>l[0]?) hd
    simp only [List.getElem?_take,List.getElem?_drop] at this
    have e2:p / 2 * 2=p:=by omega
    rw [e2] at this h0
    simp at this
    rw [this]
    simp [Fam.atP,tsF,h0]
  · have:=congrArg (fun l=>l[1]?) hd
    simp only [List.getElem?_take,List.getElem?_drop] at this
    have e2:p / 2 * 2 + 1=p:=by omega
    rw [e2] at this h1
    simp at this
    rw [this]
    simp [Fam.atP,tsF,h1]
attribute [push_cast] lsF_plain lsF_C lsF_R tsF_plain tsF_C tsF_R hk_famR_low freshD_famR
end Vw
namespace Vw
open Go VwM
variable [Inhabited GlobT]
end Vw
namespace VwM
open Go Vw
variable [Inhabited GlobT]

abbrev Ex:=Int × Vw3 × Bool
def EL (b:Bool):List Ex → List AV
  | []=>[]
  | e :: r=>.int .i64 e.1 :: .int .i64 e.2.1.1 :: .rows b (IL e.2.1.2.1) e.2.1.2.1.length :: .rows b (IL e.2.1.2.2) e.2.1.2.2.length :: .bool e.2.2 :: EL b r
theorem Erz (b:Bool):∀ es:List Ex,(EL b es).length=es.length * 5
  | []=>rfl
  | e :: r=>by simp only [EL,List.length_cons,Erz b r];omega
theorem EL_drop (b:Bool):∀ (es:List Ex) (i:Nat) {e:Ex},es[i]?=some e → ((EL b es).drop (i * 5)).take 5=[.int .i64 e.1,.int .i64 e.2.1.1,.rows b (IL e.2.1.2.1) e.2.1.2.1.length,.rows b (IL e.2.1.2.2) e.2.1.2.2.length,.bool e.2.2]
  | [],_,_,h=>by simp at h
  | w :: r,0,v,h=>by simp at h;subst h;simp [EL]
  | w :: r,i + 1,v,h=>by
    rw [show (i + 1) * 5=i * 5 + 1 + 1 + 1 + 1 + 1 by omega]
    simp only [EL,List.drop_succ_cons]
    exact EL_drop b r i (by simpa using h)
section
variable {ρ:Nat → Option Nat} {Zh:Nat → Option (List AV)} {n:Nat} {b0:Bool} {φ:Bool → Option Bool}
theorem ren_EL {b c:Bool} (h:φ b=some c):∀ es:List Ex,(EL b es).map (AV.ren ρ Zh b0 φ (n + 2))=EL c es
  | []=>rfl
  | v :: r=>by
    simp only [EL,List.map_cons,ren_EL h r,List.cons.injEq,and_true]
    refine ⟨rfl,rfl,?_,?_,rfl⟩<;>simp only [AV.ren,h,ren_IL]
theorem ren_ELD (b:Bool) (es:List Ex):(EL b es).map (AV.ren ρ Zh b0 phiD (n + 2))=EL false es:=ren_EL (by cases b<;>rfl) es
theorem ren_ELU (sh:Bool) (es:List Ex):(EL true es).map (AV.ren ρ Zh b0 (phiU sh) (n + 2))=EL true es:=ren_EL (by rfl) es
theorem ren_ELV (b:Bool) (es:List Ex):(EL b es).map (AV.ren ρ Zh b0 (phiU true) (n + 2))=EL b es:=ren_EL (by cases b<;>rfl) es
theorem ren_ELs (b:Bool) (es:List Ex):(EL b es).map (AV.ren ρ Zh b0 some (n + 2))=EL b es:=ren_EL (by rfl) es
end
attribute [push_cast] ren_ELD ren_ELU ren_ELV ren_ELs Erz

def gam (d:Nat) (f:Nat → List AV) (n:Nat):List (Nat × List AV):=(List.range n).map fun j=>(fim d j,f j)
theorem Eaz (d:Nat) (f:Nat → List AV) (n:Nat) (r:List (Nat × List AV)) (j:Nat) (h:j < n):hk (gam d f n ++ r) (fim d j)=some (f j) :=
  Bqz (fim d) (fun _ _=>fim_inj) f r j _ (List.mem_range.2 h)
theorem E7z (d:Nat) (f:Nat → List AV) (n:Nat) (r:List (Nat × List AV)) (id:Nat) (h:id < 1099511627776):hk (gam d f n ++ r) id=hk r id :=
  Bkz (fim d) f r id _ fun j _ e=>by have:=fim_low d j;omega
theorem E6z (d:Nat) (f:Nat → List AV) (n:Nat) (r:List (Nat × List AV)) (d' j:Nat) (h:d < 65536 ∧ d' < 65536 ∧ d ≠ d'):hk (gam d f n ++ r) (fim d' j)=hk r (fim d' j) :=
  Bkz (fim d) f r _ _ fun j _ e=>h.2.2 (fim_oth h.1 h.2.1 e)
theorem Foz (d:Nat) (f:Nat → List AV) (n:Nat):gam d f n=gam d f n ++ []:=(List.append_nil _).symm
theorem hk_gam_same0 (d:Nat) (f:Nat → List AV) (n j:Nat) (h:j < n):hk (gam d f n) (fim d j)=some (f j):=by rw [Foz];exact Eaz d f n [] j h
theorem hk_gam_low0 (d:Nat) (f:Nat → List AV) (n id:Nat) (h:id < 1099511627776):hk (gam d f n) id=none:=by rw [Foz,E7z d f n [] id h];rfl
theorem hk_gam_oth0 (d:Nat) (f:Nat → List AV) (n d' j:Nat) (h:d < 65536 ∧ d' < 65536 ∧ d ≠ d'):hk (gam d f n) (fim d' j)=none:=by rw [Foz,E6z d f n [] d' j h];rfl
theorem E8z (d:Nat) (f:Nat → List AV) (n:Nat) (r:List (Nat × List AV)) (k:Nat) (h:k < 68719476736):freshD (gam d f n ++ r) k=freshD r k:=by
  unfold gam
  have:∀ l:List Nat,freshD (l.map (fun j=>(fim d j,f j)) ++ r) k=freshD r k:=by
    intro l
    induction l with
    | nil=>rfl
    | cons a l ih=>simp only [List.map_cons,List.cons_append,freshD,Fpz _ _ _ h,not_false_eq_true,true_and,ih]
  exact this _
theorem freshD_gam0 (d:Nat) (f:Nat → List AV) (n k:Nat) (h:k < 68719476736):freshD (gam d f n) k=True:=by rw [Foz,E8z d f n [] k h];rfl
attribute [push_cast] E7z hk_gam_low0 E6z hk_gam_oth0 E8z freshD_gam0 Eaz hk_gam_same0
end VwM
namespace VwM
open Go Vw
variable [Inhabited GlobT]
def patE (ps bs:Nat → Int) (os:Nat → Bool) (p:Nat):AV ⊕ Nat :=
  if p % 5=0 then .inl (.int .i64 (ps (p / 5))) else if p % 5=1 then .inl (.int .i64 (bs (p / 5))) else if p % 5=4 then .inl (.bool (os (p / 5))) else .inr (p / 5 * 2 + (p % 5 - 2))
def eF (n:Nat) (ps bs:Nat → Int) (os:Nat → Bool) (rows:Nat → List Int):Fam:=⟨n * 5,n * 2,patE ps bs os,rows,
  fun p j h e=>by
    unfold patE at e
    split at e
    · cases e
    · split at e
      · cases e
      · split at e
        · cases e
        · injection e with e;omega,
  fun p a e=>by
    unfold patE at e
    split at e
    · injection e with e;exact .inl ⟨_,_,e.symm⟩
    · split at e
      · injection e with e;exact .inl ⟨_,_,e.symm⟩
      · split at e
        · injection e with e;exact .inr ⟨_,e.symm⟩
        · cases e⟩
theorem eF_C (n:Nat) (ps bs:Nat → Int) (os:Nat → Bool) (rows:Nat → List Int):(eF n ps bs os rows).C=n * 5:=rfl
theorem eF_R (n:Nat) (ps bs:Nat → Int) (os:Nat → Bool) (rows:Nat → List Int):(eF n ps bs os rows).R=n * 2:=rfl
def exPa (es:List Ex) (i:Nat):Int:=(es.getD i (0,(0,[],[]),false)).1
def exBs (es:List Ex) (i:Nat):Int:=(es.getD i (0,(0,[],[]),false)).2.1.1
def exOp (es:List Ex) (i:Nat):Bool:=(es.getD i (0,(0,[],[]),false)).2.2
def exR (es:List Ex) (j:Nat):List Int:=if j % 2=0 then (es.getD (j / 2) (0,(0,[],[]),false)).2.1.2.1 else (es.getD (j / 2) (0,(0,[],[]),false)).2.1.2.2
theorem ex_at {es:List Ex} {i:Nat} {p b:Int} {x y:List Int} {o:Bool} (h:es[i]?=some (p,(b,x,y),o)):exPa es i=p ∧ exBs es i=b ∧ exOp es i=o ∧ exR es (i * 2)=x ∧ exR es (i * 2 + 1)=y:=by
  unfold exPa exBs exOp exR
  rw [if_pos (by omega),if_neg (by omega),show i * 2 / 2=i by omega,show (i * 2 + 1) / 2=i by omega]
  simp [List.getD,h]
abbrev esF (es:List Ex):Fam:=eF es.length (exPa es) (exBs es) (exOp es) (exR es)
theorem esF_plain (es:List Ex) (c:Bool):(esF es).plain c=EL c es:=by
  symm
  refine row_ext (Erz c es) fun p hp=>?_
  have hp':p < es.length * 5:=hp
  obtain ⟨⟨q,⟨b,x,y⟩,o⟩,ht⟩:∃ t,es[p / 5]?=some t:=⟨es[p / 5]'(by omega),List.getElem?_eq_getElem _⟩
  have hd:=EL_drop c es (p / 5) ht
  obtain ⟨h0,h1,h2,h3,h4⟩:=ex_at ht
  have hm:p % 5=0 ∨ p % 5=1 ∨ p % 5=2 ∨ p % 5=3 ∨ p % 5=4:=by omega
  rcases hm with e|e|e|e|e
  · have:=congrArg (fun l=>l[0]?) hd
    simp only [List.getElem?_take,List.getElem?_drop] at this
    have e2:p / 5 * 5=p:=by omega
    rw [e2] at this
    simp at this
    rw [this]
    simp [Fam.atP,eF,patE,e,h0]
  · have:=congrArg (fun l=>l[1]?) hd
    simp only [List.getElem?_take,List.getElem?_drop] at this
    have e2:p / 5 * 5 + 1=p:=by omega
    rw [e2] at this
    simp at this
    rw [this]
    simp [Fam.atP,eF,patE,e,h1]
  · have:=congrArg (fun l=>l[2]?) hd
    simp only [List.getElem?_take,List.getElem?_drop] at this
    have e2:p / 5 * 5 + 2=p:=by omega
    rw [e2] at this
    simp at this
    rw [this]
    simp [Fam.atP,eF,patE,e,h3]
  · have:=congrArg (fun l=>l[3]?) hd
    simp only [List.getElem?_take,List.getElem?_drop] at this
    have e2:p / 5 * 5 + 3=p:=by omega
    rw [e2] at this
    simp at this
    rw [this]
    simp [Fam.atP,eF,patE,e,h4]
  · have:=congrArg (fun l=>l[4]?) hd
    simp only [List.getElem?_take,List.getElem?_drop] at this
    have e2:p / 5 * 5 + 4=p:=by omega
    rw [e2] at this
    simp at this
    rw [this]
    simp [Fam.atP,eF,patE,e,h2]
attribute [push_cast] eF_C eF_R esF_plain
end VwM
namespace Vw
open Go VwM
variable [Inhabited GlobT]
section
variable {P:Program} {pin:Nat} {σ:List (Nat × AV)} {H:List (Nat × List AV)} {K:S → Prop}
end
end Vw
namespace VwM
open Go Vw
variable [Inhabited GlobT]
section
variable (n:Nat) (ps bs:Nat → Int) (os:Nat → Bool) (rows:Nat → List Int) (g:Nat → Nat) (i:Nat)
end
end VwM
namespace Vw
open Go VwM
variable [Inhabited GlobT]
end Vw
namespace VwM
open Go Vw
variable [Inhabited GlobT]
end VwM
namespace Vw
open Go VwM
variable [Inhabited GlobT]
section
variable {P:Program} {pin:Nat} {σ:List (Nat × AV)} {H:List (Nat × List AV)} {K:S → Prop}
end
end Vw
namespace Vw
open Go VwM
variable [Inhabited GlobT]
end Vw
namespace VwM
open Go Vw
variable [Inhabited GlobT]
end VwM
namespace Vw
open Go
variable [Inhabited GlobT]
theorem arun_sliceS2 {s:S} {pin d:Nat} {t:ByteArray} {k k':IntKind} {l h:Int} {x lo hi:Operand} (hx:s.ev x=.str t) (hl:s.ev lo=.int k l) (hh:s.ev hi=.int k' h) (hr:(0 ≤ l ∧ l ≤ h) ∧ h ≤ (t.size:Int)):arun s pin d (.sliceS x (some lo) (some hi))=some (.str (t.extract l.toNat h.toNat),none):=by
  simp only [arun,hx,hl,hh,Option.map_some,bnd]
  rw [if_pos ⟨by omega,hr.2⟩]
  simp only
  rw [if_pos ⟨hr.1.1,by omega⟩]
theorem bsz (l:List UInt8):ByteArray.size { data:={ toList:=l } }=l.length:=rfl
theorem Dez (a b:ByteArray) (h:a.size + b.size ≤ 1099511627776):abin .add (.str a) (.str b)=some (.str (a ++ b)):=by
  simp only [abin]
  rw [if_pos h]
attribute [push_cast] Dez bsz
end Vw
namespace Vw
open Go Go.Lib
def itB (n:Int):ByteArray:=⟨(itoa n).toArray⟩
abbrev dig10:ByteArray:={ data:={ toList:=[48,49,50,51,52,53,54,55,56,57] } }
theorem B1z {u:Nat} (h:u < 10):decDigits u=[UInt8.ofNat (48 + u)]:=by rw [decDigits,dif_pos h]
theorem Ewz {u:Nat} (h:¬ u < 10):decDigits u=decDigits (u / 10) ++ decDigits (u % 10):=by
  rw [decDigits,dif_neg h,B1z (Nat.mod_lt u (by omega))]
theorem itB_one {n:Int} (h0:0 ≤ n) (h:n < 10):dig10.extract n.toNat (n + 1).toNat=itB n:=by
  obtain ⟨u,rfl⟩:∃ u:Nat,n=u:=⟨n.toNat,by omega⟩
  have hu:u < 10:=by omega
  match u,hu with
  | 0,_=>decide +kernel
  | 1,_=>decide +kernel
  | 2,_=>decide +kernel
  | 3,_=>decide +kernel
  | 4,_=>decide +kernel
  | 5,_=>decide +kernel
  | 6,_=>decide +kernel
  | 7,_=>decide +kernel
  | 8,_=>decide +kernel
  | 9,_=>decide +kernel
theorem itB_more {n:Int} (h:10 ≤ n):itB (n.tdiv 10) ++ itB (n.tmod 10)=itB n:=by
  obtain ⟨u,rfl⟩:∃ u:Nat,n=u:=⟨n.toNat,by omega⟩
  have e1:(u:Int).tdiv 10=((u / 10:Nat):Int):=by rw [Int.tdiv_eq_ediv_of_nonneg (by omega)];omega
  have e2:(u:Int).tmod 10=((u % 10:Nat):Int):=by rw [Int.tmod_eq_emod_of_nonneg (by omega)];omega
  rw [e1,e2]
  apply ByteArray.ext
  rw [ByteArray.data_append]
  unfold itB itoa
  rw [if_neg (by omega),if_neg (by omega),if_neg (by omega),Int.toNat_natCast,Int.toNat_natCast,Int.toNat_natCast,Ewz (u:=u) (by omega)]
  simp
theorem itB_neg {n:Int} (h:n < 0):({ data:={ toList:=[45] } }:ByteArray) ++ itB (-n)=itB n:=by
  apply ByteArray.ext
  rw [ByteArray.data_append]
  unfold itB itoa
  rw [if_neg (by omega),if_pos h]
  have:(-n).toNat=n.natAbs:=by omega
  rw [this]
  simp
theorem B2z:∀ (k u:Nat),u < 10 ^ (k + 1) → (decDigits u).length ≤ k + 1
  | 0,u,h=>by rw [B1z (by simpa using h)];exact Nat.le_refl _
  | k + 1,u,h=>by
    by_cases h1:u < 10
    · rw [B1z h1];simp
    · rw [decDigits,dif_neg h1,List.length_append,List.length_singleton]
      rw [Nat.pow_succ] at h
      have:=B2z k (u / 10) (by omega)
      omega
theorem Cjz {n:Int} (h:-9223372036854775808 ≤ n ∧ n ≤ 9223372036854775807):(itB n).size ≤ 20:=by
  show (itoa n).toArray.size ≤ 20
  rw [List.size_toArray]
  unfold itoa
  split
  · have:=B2z 18 n.natAbs (by simp;omega)
    simp;omega
  · have:=B2z 18 n.toNat (by simp;omega)
    omega
abbrev spB:ByteArray:={ data:={ toList:=[32] } }
def txB (w:ByteArray) (xs:List Int):ByteArray:=xs.foldl (fun s x=>s ++ spB ++ itB x) w
theorem txB_snoc (w:ByteArray) (xs:List Int) (x:Int):txB w (xs ++ [x])=txB w xs ++ spB ++ itB x:=by unfold txB;rw [List.foldl_append];rfl
theorem txB_pre (v:ByteArray):∀ (xs:List Int) (w:ByteArray),v ++ txB w xs=txB (v ++ w) xs
  | [],_=>rfl
  | x :: xs,w=>by
    have:=txB_pre v xs (w ++ spB ++ itB x)
    unfold txB at this ⊢
    simp only [List.foldl_cons]
    rw [this]
    simp only [ByteArray.append_assoc]
theorem txB_take {w:ByteArray} {xs:List Int} {i:Nat} (h:i < xs.length):txB w (xs.take i) ++ spB ++ itB (xs.getD i 0)=txB w (xs.take (i + 1)):=by
  rw [List.take_succ_eq_append_getElem h,txB_snoc,List.getD_eq_getElem?_getD,List.getElem?_eq_getElem h,Option.getD_some]
theorem Dqz:∀ (xs:List Int) (w:ByteArray),(∀ x ∈ xs,-9223372036854775808 ≤ x ∧ x ≤ 9223372036854775807) → (txB w xs).size ≤ w.size + xs.length * 21
  | [],w,_=>by simp [txB]
  | x :: xs,w,h=>by
    have h1:=Dqz xs (w ++ spB ++ itB x) fun y hy=>h y (List.mem_cons_of_mem _ hy)
    have h2:=Cjz (h x List.mem_cons_self)
    have e:txB w (x :: xs)=txB (w ++ spB ++ itB x) xs:=rfl
    have h3:spB.size=1:=rfl
    rw [e]
    rw [ByteArray.size_append,ByteArray.size_append,h3] at h1
    rw [List.length_cons]
    omega
end Vw
