/- The equations by which simp walks: regions that draw,and calls that speak of objects. -/
import Derived.Test.YtpicoecbbiiaoaaCW2
import Derived.ChangeArms
import Derived.DataReads
import Derived.Lib.AppendZeros
import Derived.Maps.RangeRun
import Derived.ChangeMaps4
import Derived.Carry
import Derived.Shelf.Sort.Plain
import Derived.Shelf.Slices.In.SortNone
set_option linter.unusedSectionVars false
set_option linter.unusedVariables false
set_option linter.unusedSimpArgs false
namespace Vw
open Go
variable [Inhabited GlobT]

section
variable {P:Program} {pin:Nat} {F:Nat → Option (List AV)} {Z:List Nat} {K:S → Prop} {s:S} {σ:List (Nat × AV)} {H HF:List (Nat × List AV)}

def notIn:List Nat → Nat → Prop
  | [],_=>True
  | z :: r,id=>¬ id=z ∧ notIn r id
theorem Fgz:∀ {Z:List Nat} {id:Nat},notIn Z id ↔ id ∉ Z
  | [],_=>by simp [notIn]
  | z :: r,id=>by simp [notIn,Fgz (Z:=r)]
theorem notIn_nil (id:Nat):notIn [] id=True:=rfl
theorem notIn_cons (z id:Nat) (r:List Nat):notIn (z :: r) id=(¬ id=z ∧ notIn r id):=rfl

def freshD:List (Nat × List AV) → Nat → Prop
  | [],_=>True
  | p :: r,d=>¬ p.1 / 16=d ∧ freshD r d
theorem freshD_nil (d:Nat):freshD [] d=True:=rfl
theorem freshD_cons (id d:Nat) (cs:List AV) (r:List (Nat × List AV)):freshD ((id,cs) :: r) d=(¬ id / 16=d ∧ freshD r d):=rfl
theorem Cwz:∀ {H:List (Nat × List AV)} {d:Nat},freshD H d → ∀ k,k < 16 → hk H (16 * d + k)=none
  | [],_,_,_,_=>rfl
  | p :: r,d,h,k,hk'=>by
    obtain ⟨h1,h2⟩:=h
    simp only [hk]
    rw [if_neg (fun he=>h1 (by omega))]
    exact Cwz h2 k hk'

theorem G5z (d:Nat) (v:AV) (us:List (Nat × List AV)):(mkS σ H).putL (some d) v us=mkS ((d,v) :: σ) (us ++ H):=by
  simp only [S.putL,mkS,upd_lk,S.mk.injEq,true_and]
  funext id
  induction us with
  | nil=>simp [updL,hk]
  | cons p r ih =>
    simp only [updL,hk,List.cons_append] at ih ⊢
    by_cases h:id=p.1
    · simp [h]
    · simp only [if_neg h];exact ih
theorem put_list' (v:AV) (us:List (Nat × List AV)):(mkS σ H).putL none v us=mkS σ (us ++ H):=by
  simp only [S.putL,mkS,S.mk.injEq,true_and]
  funext id
  induction us with
  | nil=>simp [updL,hk]
  | cons p r ih =>
    simp only [updL,hk,List.cons_append] at ih ⊢
    by_cases h:id=p.1
    · simp [h]
    · simp only [if_neg h];exact ih


def bindQ (P:Program) (pin:Nat) (F:Nat → Option (List AV)) (Z:List Nat) (K:S → Prop) (r:Res) (dst:Option Nat) (l:List AOper) (s:S):Prop:=match r with
  | some (v,none)=>qSeq P pin F Z l K (s.putL dst v [])
  | some (v,some (id,cs))=>(dst=some (id / 16) ∧ id % 16=0 ∧ (s.H id).isNone=true ∧ notIn Z id) ∧ qSeq P pin F Z l K (s.putL dst v [(id,cs)])
  | none=>False
theorem bindQ_some (v:AV) (dst:Option Nat) (l:List AOper) (s:S):bindQ P pin F Z K (some (v,none)) dst l s=qSeq P pin F Z l K (s.putL dst v []):=rfl
theorem bindQ_new (v:AV) (id:Nat) (cs:List AV) (dst:Option Nat) (l:List AOper) (s:S):bindQ P pin F Z K (some (v,some (id,cs))) dst l s =
  ((dst=some (id / 16) ∧ id % 16=0 ∧ (s.H id).isNone=true ∧ notIn Z id) ∧ qSeq P pin F Z l K (s.putL dst v [(id,cs)])):=rfl
def qIf (P:Program) (pin:Nat) (F:Nat → Option (List AV)) (Z:List Nat) (K:S → Prop) (g:Bool) (o:AOper) (l:List AOper) (s:S):Prop:=(g=true → qSeq P pin F Z (o :: l) K s) ∧ (g=false → qSeq P pin F Z l K (s.putL o.dst .und []))
theorem qIf_true (o:AOper) (l:List AOper) (s:S):qIf P pin F Z K true o l s=qSeq P pin F Z (o :: l) K s:=by simp [qIf]
theorem qIf_false (dst:Option Nat) (op:AOp) (gd:Option (Nat × Bool)) (af:List Nat) (l:List AOper) (s:S):qIf P pin F Z K false ⟨dst,op,gd,af⟩ l s=qSeq P pin F Z l K (s.putL dst .und []):=by simp [qIf]
theorem Acz {g:Bool} {o:AOper} {l:List AOper} {s:S} (h1:g=true → qSeq P pin F Z (o :: l) K s) (h2:g=false → qSeq P pin F Z l K (s.putL o.dst .und [])):qIf P pin F Z K g o l s:=⟨h1,h2⟩
def bindH (P:Program) (pin:Nat) (F:Nat → Option (List AV)) (Z:List Nat) (K:S → Prop) (r:Option Bool) (o:AOper) (l:List AOper) (s:S):Prop:=match r with|some g=>qIf P pin F Z K g o l s|none=>False
theorem bindH_some (g:Bool) (o:AOper) (l:List AOper) (s:S):bindH P pin F Z K (some g) o l s=qIf P pin F Z K g o l s:=rfl
theorem qSeq_nil (s:S):qSeq P pin F Z [] K s=K s:=rfl

theorem qSeq_guard (dst:Option Nat) (op:AOp) (t:Nat) (b:Bool) (af:List Nat) (r:List AOper) (s:S) :
    qSeq P pin F Z (⟨dst,op,some (t,b),af⟩ :: r) K s=bindH P pin F Z K (aguard s (some (t,b))) ⟨dst,op,none,af⟩ r s:=by
  have e:∀ X R,ocan P pin F Z ⟨dst,op,some (t,b),af⟩ s X R=ocan P pin F Z ⟨dst,op,none,af⟩ s X R:=fun X R=>rfl
  simp only [qSeq,qone,e]
  cases aguard s (some (t,b)) with
  | none=>rfl
  | some g=>simp [bindH,qIf,qSeq,qone,aguard]

def qCall (P:Program) (pin:Nat) (F:Nat → Option (List AV)) (Z:List Nat) (f:Nat) (args:List Operand) (dst:Option Nat) (r:List AOper) (K:S → Prop) (s:S):Prop :=
  qone P pin F Z ⟨dst,.call f args,none,[]⟩ (qSeq P pin F Z r K) s
theorem qSeq_call (dst:Option Nat) (f:Nat) (args:List Operand) (af:List Nat) (r:List AOper) (s:S) :
    qSeq P pin F Z (⟨dst,.call f args,none,af⟩ :: r) K s=qCall P pin F Z f args dst r K s:=rfl

theorem ocan_pure {o:AOper} {X:List (Nat × List AV)} {R:AV → List (Nat × List AV) → Prop} (hn:∀ f args,o.op ≠ .call f args):ocan P pin F Z o s X R ↔ ((∀ p ∈ X,s.H p.1=some p.2 ∧ p.1 ∈ Z) ∧ (∀ v u,R v u → ∀ p ∈ u,(o.callish Z=true ∧ p.1 ∈ Z ∧ s.H p.1 ≠ none) ∨ (inNew o.dst p.1 ∧ s.H p.1=none ∧ (o.callish Z=true ∨ p.1 ∉ Z))) ∧
    X=[] ∧ ∃ v u,arun ⟨s.σ,gv Z (o.callish Z) s.H F⟩ pin (o.dst.getD 0) o.op=some (v,u) ∧ (∀ id cs,u=some (id,cs) → s.H id=none → id=16 * o.dst.getD 0) ∧ R=fun v' u'=>v'=v ∧ u'=u.toList):=by
  obtain ⟨dst,op,gd,af⟩:=o
  cases op
  case call f args=>exact absurd rfl (hn f args)
  all_goals exact Iff.rfl

def inB:List Nat → Nat → Bool
  | [],_=>false
  | z :: r,id=>if id=z then true else inB r id
theorem inB_iff:∀ {Z:List Nat} {id:Nat},inB Z id=true ↔ id ∈ Z
  | [],_=>by simp [inB]
  | z :: r,id=>by
    simp only [inB,List.mem_cons]
    split
    · rename_i h;simp [h]
    · rename_i h;simp [h,inB_iff (Z:=r)]
theorem inB_nil (id:Nat):inB [] id=false:=rfl
theorem inB_cons (z id:Nat) (r:List Nat):inB (z :: r) id=if id=z then true else inB r id:=rfl
def okC (Z:List Nat) (id:Nat) (dst:Option Nat):Option (List AV) → Prop
  | some _=>inB Z id=true
  | none=>dst=some (id / 16) ∧ id % 16=0
theorem okC_some (id:Nat) (dst:Option Nat) (cs:List AV):okC Z id dst (some cs)=(inB Z id=true):=rfl
theorem okC_none (id:Nat) (dst:Option Nat):okC Z id dst none=(dst=some (id / 16) ∧ id % 16=0):=rfl
def bindC (P:Program) (pin:Nat) (F:Nat → Option (List AV)) (Z:List Nat) (K:S → Prop) (r:Res) (dst:Option Nat) (l:List AOper) (s:S):Prop:=match r with
  | some (v,none)=>qSeq P pin F Z l K (s.putL dst v [])
  | some (v,some (id,cs))=>okC Z id dst (s.H id) ∧ qSeq P pin F Z l K (s.putL dst v [(id,cs)])
  | none=>False
theorem bindC_some (v:AV) (dst:Option Nat) (l:List AOper) (s:S):bindC P pin F Z K (some (v,none)) dst l s=qSeq P pin F Z l K (s.putL dst v []):=rfl
theorem bindC_new (v:AV) (id:Nat) (cs:List AV) (dst:Option Nat) (l:List AOper) (s:S):bindC P pin F Z K (some (v,some (id,cs))) dst l s=(okC Z id dst (s.H id) ∧ qSeq P pin F Z l K (s.putL dst v [(id,cs)])):=rfl

theorem qone_pure (ao:AOp) (dst:Option Nat) (af:List Nat) (r:List AOper) (s:S) (hn:∀ f args,ao ≠ .call f args) :
    qSeq P pin F Z (⟨dst,ao,none,af⟩ :: r) K s ↔ ∃ v u,arun ⟨s.σ,gv Z (AOper.callish Z ⟨dst,ao,none,af⟩) s.H F⟩ pin (dst.getD 0) ao=some (v,u) ∧
      (∀ id cs,u=some (id,cs) → (AOper.callish Z ⟨dst,ao,none,af⟩=true ∧ id ∈ Z ∧ s.H id ≠ none) ∨ (dst=some (id / 16) ∧ id % 16=0 ∧ s.H id=none ∧ (AOper.callish Z ⟨dst,ao,none,af⟩=true ∨ id ∉ Z))) ∧ qSeq P pin F Z r K (s.putL dst v u.toList):=by
  simp only [qSeq,qone,aguard,forall_const,Bool.true_eq_false,false_implies,and_true]
  constructor
  · rintro ⟨X,R,hc,_,hk⟩
    obtain ⟨h1,h2,h3,v,u,h5,h6,h7⟩:=(ocan_pure hn).1 hc
    have hr:R v u.toList:=by rw [h7];exact ⟨rfl,rfl⟩
    refine ⟨v,u,h5,fun id cs hu=>?_,hk v _ hr⟩
    rcases h2 v _ hr (id,cs) (by rw [hu];simp) with h|⟨⟨d,k,hd,hk',he⟩,h8,h9⟩
    · exact .inl h
    · have hd':dst=some d:=hd
      subst hd'
      have:=h6 id cs hu h8
      simp only [Option.getD_some] at this
      exact .inr ⟨by rw [this];simp,by omega,h8,h9⟩
  · rintro ⟨v,u,h5,h6,hk⟩
    refine ⟨[],_,(ocan_pure hn).2 ⟨(fun p hp=>by cases hp),fun v' u' hr p hp=>?_,rfl,v,u,h5,fun id cs hu hn'=>?_,rfl⟩,⟨v,_,rfl,rfl⟩,fun v' u' hr=>by obtain ⟨rfl,rfl⟩:=hr;exact hk⟩
    · obtain ⟨rfl,rfl⟩:=hr
      cases u with
      | none=>simp at hp
      | some q =>
        simp only [Option.toList,List.mem_singleton] at hp
        subst hp
        rcases h6 p.1 p.2 rfl with h|⟨a,b,c,d⟩
        · exact .inl h
        · exact .inr ⟨⟨p.1 / 16,0,a,by omega,by omega⟩,c,d⟩
    · rcases h6 id cs hu with ⟨_,_,h⟩|⟨a,b,_,_⟩
      · exact absurd hn' h
      · subst a
        simp only [Option.getD_some]
        omega

theorem bindQ_eq (ao:AOp) (dst:Option Nat) (af:List Nat) (r:List AOper) (s:S) (hn:∀ f args,ao ≠ .call f args) (hc:AOper.callish Z ⟨dst,ao,none,af⟩=false) :
    qSeq P pin F Z (⟨dst,ao,none,af⟩ :: r) K s=bindQ P pin F Z K (arun ⟨s.σ,F⟩ pin (dst.getD 0) ao) dst r s:=by
  refine propext ((qone_pure ao dst af r s hn).trans ?_)
  rw [hc]
  simp only [gv,Bool.false_eq_true,if_false,false_and,false_or]
  generalize arun ⟨s.σ,F⟩ pin (dst.getD 0) ao=z
  unfold bindQ
  constructor
  · rintro ⟨v,u,rfl,h6,hk⟩
    cases u with
    | none=>exact hk
    | some p =>
      obtain ⟨id,cs⟩:=p
      obtain ⟨a,b,c,d⟩:=h6 id cs rfl
      exact ⟨⟨a,b,by rw [c];rfl,Fgz.2 d⟩,hk⟩
  · intro h
    split at h
    · rename_i v
      exact ⟨v,none,rfl,(fun _ _ h=>by cases h),h⟩
    · rename_i v id cs
      obtain ⟨⟨a,b,c,d⟩,h⟩:=h
      refine ⟨v,some (id,cs),rfl,fun id' cs' he=>?_,h⟩
      injection he with he
      injection he with he1 he2
      subst he1
      exact ⟨a,b,by simpa using c,Fgz.1 d⟩
    · exact h.elim

theorem bindC_eq (ao:AOp) (dst:Option Nat) (af:List Nat) (r:List AOper) (s:S) (hn:∀ f args,ao ≠ .call f args) (hc:AOper.callish Z ⟨dst,ao,none,af⟩=true) :
    qSeq P pin F Z (⟨dst,ao,none,af⟩ :: r) K s=bindC P pin F Z K (arun ⟨s.σ,mixH Z s.H F⟩ pin (dst.getD 0) ao) dst r s:=by
  refine propext ((qone_pure ao dst af r s hn).trans ?_)
  rw [hc]
  simp only [gv,if_true,true_and,true_or,and_true]
  generalize arun ⟨s.σ,mixH Z s.H F⟩ pin (dst.getD 0) ao=z
  unfold bindC
  constructor
  · rintro ⟨v,u,rfl,h6,hk⟩
    cases u with
    | none=>exact hk
    | some p =>
      obtain ⟨id,cs⟩:=p
      refine ⟨?_,hk⟩
      rcases h6 id cs rfl with ⟨a,b⟩|⟨a,b,c⟩
      · cases hh:s.H id with
        | none=>exact absurd hh b
        | some c=>exact inB_iff.2 a
      · rw [c];exact ⟨a,b⟩
  · intro h
    split at h
    · rename_i v
      exact ⟨v,none,rfl,(fun _ _ h=>by cases h),h⟩
    · rename_i v id cs
      obtain ⟨hok,h⟩:=h
      refine ⟨v,some (id,cs),rfl,fun id' cs' he=>?_,h⟩
      injection he with he
      injection he with he1 he2
      subst he1
      cases hh:s.H id with
      | none=>rw [hh] at hok;exact .inr ⟨hok.1,hok.2,rfl⟩
      | some c=>rw [hh] at hok;exact .inl ⟨inB_iff.1 hok,by simp⟩
    · exact h.elim

def keepL (Z:List Nat):List (Nat × List AV) → List (Nat × List AV)
  | []=>[]
  | p :: r=>if inB Z p.1=true then p :: keepL Z r else keepL Z r
def dropL (Z:List Nat):List (Nat × List AV) → List (Nat × List AV)
  | []=>[]
  | p :: r=>if inB Z p.1=true then dropL Z r else p :: dropL Z r
theorem keepL_nil:keepL Z []=[]:=rfl
theorem keepL_cons (i:Nat) (cs:List AV) (r:List (Nat × List AV)):keepL Z ((i,cs) :: r)=if inB Z i=true then (i,cs) :: keepL Z r else keepL Z r:=rfl
theorem dropL_nil:dropL Z []=[]:=rfl
theorem dropL_cons (i:Nat) (cs:List AV) (r:List (Nat × List AV)):dropL Z ((i,cs) :: r)=if inB Z i=true then dropL Z r else (i,cs) :: dropL Z r:=rfl
theorem hk_keepL:∀ (H:List (Nat × List AV)) (j:Nat),hk (keepL Z H) j=if j ∈ Z then hk H j else none
  | [],j=>by simp [keepL,hk]
  | p :: r,j=>by
    have ih:=hk_keepL r j
    simp only [keepL]
    by_cases h:inB Z p.1=true
    · rw [if_pos h]
      simp only [hk]
      by_cases hj:j=p.1
      · rw [if_pos hj,if_pos hj,if_pos (hj ▸ inB_iff.1 h)]
      · rw [if_neg hj,if_neg hj,ih]
    · rw [if_neg h,ih]
      simp only [hk]
      by_cases hj:j=p.1
      · rw [if_neg (fun hz=>h (inB_iff.2 (hj ▸ hz))),if_neg (fun hz=>h (inB_iff.2 (hj ▸ hz)))]
      · rw [if_neg hj]
theorem hk_dropL:∀ (H:List (Nat × List AV)) (j:Nat),hk (dropL Z H) j=if j ∈ Z then none else hk H j
  | [],j=>by simp [dropL,hk]
  | p :: r,j=>by
    have ih:=hk_dropL r j
    simp only [dropL]
    by_cases h:inB Z p.1=true
    · rw [if_pos h,ih]
      simp only [hk]
      by_cases hz:j ∈ Z
      · rw [if_pos hz,if_pos hz]
      · have hne:j ≠ p.1:=fun e=>hz (e ▸ inB_iff.1 h)
        rw [if_neg hz,if_neg hz,if_neg hne]
    · rw [if_neg h]
      simp only [hk]
      by_cases hj:j=p.1
      · rw [if_pos hj,if_pos hj,if_neg (fun hz=>h (inB_iff.2 (hj ▸ hz)))]
      · rw [if_neg hj,if_neg hj,ih]
def mixL (Z:List Nat) (H HF:List (Nat × List AV)):List (Nat × List AV):=keepL Z H ++ dropL Z HF
theorem mixL_eq:mixL Z H HF=keepL Z H ++ dropL Z HF:=rfl
theorem hk_app:∀ (H H':List (Nat × List AV)) (j:Nat),hk (H ++ H') j=match hk H j with|some cs=>some cs|none=>hk H' j
  | [],_,_=>rfl
  | p :: r,H',j=>by
    simp only [List.cons_append,hk]
    by_cases hj:j=p.1
    · rw [if_pos hj,if_pos hj]
    · rw [if_neg hj,if_neg hj];exact hk_app r H' j
theorem hk_mixL:hk (mixL Z H HF)=mixH Z (hk H) (hk HF):=by
  funext j
  unfold mixL mixH
  rw [hk_app,hk_keepL,hk_dropL]
  by_cases hj:j ∈ Z
  · simp only [if_pos hj]
    cases hk H j<;>rfl
  · simp only [if_neg hj]
def bindX (P:Program) (pin:Nat) (HF:List (Nat × List AV)) (Z:List Nat) (K:S → Prop) (b:Bool) (ao:AOp) (dst:Option Nat) (r:List AOper) (σ:List (Nat × AV)) (H:List (Nat × List AV)):Prop :=
  if b then bindC P pin (hk HF) Z K (arun (mkS σ (mixL Z H HF)) pin (dst.getD 0) ao) dst r (mkS σ H) else bindQ P pin (hk HF) Z K (arun (mkS σ HF) pin (dst.getD 0) ao) dst r (mkS σ H)
theorem bindX_true (ao:AOp) (dst:Option Nat) (r:List AOper):bindX P pin HF Z K true ao dst r σ H=bindC P pin (hk HF) Z K (arun (mkS σ (mixL Z H HF)) pin (dst.getD 0) ao) dst r (mkS σ H):=rfl
theorem bindX_false (ao:AOp) (dst:Option Nat) (r:List AOper):bindX P pin HF Z K false ao dst r σ H=bindQ P pin (hk HF) Z K (arun (mkS σ HF) pin (dst.getD 0) ao) dst r (mkS σ H):=rfl
theorem isMk_nil (d:Option Nat):isMk [] d=false:=rfl
theorem isMk_none:isMk Z none=false:=by cases Z<;>rfl
theorem isMk_cons (z d:Nat) (r:List Nat):isMk (z :: r) (some d)=if z=1000000000 + d then true else isMk r (some d):=rfl

theorem Dnz (ao:AOp) (dst:Option Nat) (af:List Nat) (r:List AOper) (hn:∀ f args,ao ≠ .call f args) (hc:AOper.callish Z ⟨dst,ao,none,af⟩=true) :
    qSeq P pin (hk HF) Z (⟨dst,ao,none,af⟩ :: r) K (mkS σ H)=bindC P pin (hk HF) Z K (arun (mkS σ (mixL Z H HF)) pin (dst.getD 0) ao) dst r (mkS σ H):=by
  rw [bindC_eq ao dst af r _ hn hc,show (mkS σ (mixL Z H HF))=⟨(mkS σ H).σ,mixH Z (mkS σ H).H (hk HF)⟩ from by unfold mkS;rw [hk_mixL]]
theorem Awz (ao:AOp) (dst:Option Nat) (af:List Nat) (r:List AOper) (hn:∀ f args,ao ≠ .call f args) (hi:ao.isCall=false) :
    qSeq P pin (hk HF) Z (⟨dst,ao,none,af⟩ :: r) K (mkS σ H)=bindX P pin HF Z K (isMk Z dst) ao dst r σ H:=by
  cases hm:isMk Z dst with
  | true=>exact Dnz ao dst af r hn (by simp [AOper.callish,hi,hm])
  | false=>exact bindQ_eq ao dst af r _ hn (by simp [AOper.callish,hi,hm])
theorem qSeq_mv (x:Operand) (dst:Option Nat) (af:List Nat) (r:List AOper):qSeq P pin (hk HF) Z (⟨dst,.mv x,none,af⟩ :: r) K (mkS σ H)=bindX P pin HF Z K (isMk Z dst) (.mv x) dst r σ H:=Awz _ _ _ _ (fun _ _ h=>by cases h) rfl
theorem qSeq_pick (c x y:Operand) (dst:Option Nat) (af:List Nat) (r:List AOper):qSeq P pin (hk HF) Z (⟨dst,.pick c x y,none,af⟩ :: r) K (mkS σ H)=bindX P pin HF Z K (isMk Z dst) (.pick c x y) dst r σ H:=Awz _ _ _ _ (fun _ _ h=>by cases h) rfl
theorem qSeq_alloc (zs:List Value) (dst:Option Nat) (af:List Nat) (r:List AOper):qSeq P pin (hk HF) Z (⟨dst,.alloc zs,none,af⟩ :: r) K (mkS σ H)=bindX P pin HF Z K (isMk Z dst) (.alloc zs) dst r σ H:=Awz _ _ _ _ (fun _ _ h=>by cases h) rfl
theorem qSeq_box (x:Operand) (dst:Option Nat) (af:List Nat) (r:List AOper):qSeq P pin (hk HF) Z (⟨dst,.box x,none,af⟩ :: r) K (mkS σ H)=bindX P pin HF Z K (isMk Z dst) (.box x) dst r σ H:=Awz _ _ _ _ (fun _ _ h=>by cases h) rfl
theorem qSeq_mkfn (fn:Fn) (us vs:List Operand) (dst:Option Nat) (af:List Nat) (r:List AOper):qSeq P pin (hk HF) Z (⟨dst,.mkfn fn us vs,none,af⟩ :: r) K (mkS σ H)=bindX P pin HF Z K (isMk Z dst) (.mkfn fn us vs) dst r σ H:=Awz _ _ _ _ (fun _ _ h=>by cases h) rfl
theorem qSeq_build (zs:List Value) (ps:List (Nat × Nat × Operand)) (dst:Option Nat) (af:List Nat) (r:List AOper):qSeq P pin (hk HF) Z (⟨dst,.build zs ps,none,af⟩ :: r) K (mkS σ H)=bindX P pin HF Z K (isMk Z dst) (.build zs ps) dst r σ H:=Awz _ _ _ _ (fun _ _ h=>by cases h) rfl
theorem qSeq_bslice (sz:Nat) (zs:List Value) (ps:List (Nat × Operand)) (n:Nat) (dst:Option Nat) (af:List Nat) (r:List AOper):qSeq P pin (hk HF) Z (⟨dst,.bslice sz zs ps (n + 1),none,af⟩ :: r) K (mkS σ H)=bindX P pin HF Z K (isMk Z dst) (.bslice sz zs ps (n + 1)) dst r σ H:=Awz _ _ _ _ (fun _ _ h=>by cases h) rfl
theorem qSeq_load (g:Bool) (sz:Nat) (x:Operand) (dst:Option Nat) (af:List Nat) (r:List AOper):qSeq P pin (hk HF) Z (⟨dst,.load g sz x,none,af⟩ :: r) K (mkS σ H)=bindX P pin HF Z K (isMk Z dst) (.load g sz x) dst r σ H:=Awz _ _ _ _ (fun _ _ h=>by cases h) rfl
theorem qSeq_bin (o:BinOp) (x y:Operand) (dst:Option Nat) (af:List Nat) (r:List AOper):qSeq P pin (hk HF) Z (⟨dst,.bin o x y,none,af⟩ :: r) K (mkS σ H)=bindX P pin HF Z K (isMk Z dst) (.bin o x y) dst r σ H:=Awz _ _ _ _ (fun _ _ h=>by cases h) rfl
theorem qSeq_binB (o:BinOp) (x y:Operand) (dst:Option Nat) (af:List Nat) (r:List AOper):qSeq P pin (hk HF) Z (⟨dst,.binB o x y,none,af⟩ :: r) K (mkS σ H)=bindX P pin HF Z K (isMk Z dst) (.binB o x y) dst r σ H:=Awz _ _ _ _ (fun _ _ h=>by cases h) rfl
theorem qSeq_un (o:UnOp) (x:Operand) (dst:Option Nat) (af:List Nat) (r:List AOper):qSeq P pin (hk HF) Z (⟨dst,.un o x,none,af⟩ :: r) K (mkS σ H)=bindX P pin HF Z K (isMk Z dst) (.un o x) dst r σ H:=Awz _ _ _ _ (fun _ _ h=>by cases h) rfl
theorem qSeq_conv (k:IntKind) (x:Operand) (dst:Option Nat) (af:List Nat) (r:List AOper):qSeq P pin (hk HF) Z (⟨dst,.conv k x,none,af⟩ :: r) K (mkS σ H)=bindX P pin HF Z K (isMk Z dst) (.conv k x) dst r σ H:=Awz _ _ _ _ (fun _ _ h=>by cases h) rfl
theorem qSeq_nilck (x:Operand) (dst:Option Nat) (af:List Nat) (r:List AOper):qSeq P pin (hk HF) Z (⟨dst,.nilck x,none,af⟩ :: r) K (mkS σ H)=bindX P pin HF Z K (isMk Z dst) (.nilck x) dst r σ H:=Awz _ _ _ _ (fun _ _ h=>by cases h) rfl
theorem qSeq_mkslice (sz:Nat) (zs:List Value) (l c:Operand) (dst:Option Nat) (af:List Nat) (r:List AOper):qSeq P pin (hk HF) Z (⟨dst,.mkslice sz zs l c,none,af⟩ :: r) K (mkS σ H)=bindX P pin HF Z K (isMk Z dst) (.mkslice sz zs l c) dst r σ H:=Awz _ _ _ _ (fun _ _ h=>by cases h) rfl
theorem qSeq_slice (sz:Nat) (x:Operand) (lo hi:Option Operand) (dst:Option Nat) (af:List Nat) (r:List AOper):qSeq P pin (hk HF) Z (⟨dst,.slice sz x lo hi,none,af⟩ :: r) K (mkS σ H)=bindX P pin HF Z K (isMk Z dst) (.slice sz x lo hi) dst r σ H:=Awz _ _ _ _ (fun _ _ h=>by cases h) rfl
theorem qSeq_sliceS (x:Operand) (lo hi:Option Operand) (dst:Option Nat) (af:List Nat) (r:List AOper):qSeq P pin (hk HF) Z (⟨dst,.sliceS x lo hi,none,af⟩ :: r) K (mkS σ H)=bindX P pin HF Z K (isMk Z dst) (.sliceS x lo hi) dst r σ H:=Awz _ _ _ _ (fun _ _ h=>by cases h) rfl
theorem qSeq_fld (o:Nat) (x:Operand) (dst:Option Nat) (af:List Nat) (r:List AOper):qSeq P pin (hk HF) Z (⟨dst,.fld o x,none,af⟩ :: r) K (mkS σ H)=bindX P pin HF Z K (isMk Z dst) (.fld o x) dst r σ H:=Awz _ _ _ _ (fun _ _ h=>by cases h) rfl
theorem qSeq_fldv (g:Bool) (o sz:Nat) (x:Operand) (dst:Option Nat) (af:List Nat) (r:List AOper):qSeq P pin (hk HF) Z (⟨dst,.fldv g o sz x,none,af⟩ :: r) K (mkS σ H)=bindX P pin HF Z K (isMk Z dst) (.fldv g o sz x) dst r σ H:=Awz _ _ _ _ (fun _ _ h=>by cases h) rfl
theorem qSeq_idxA (sz:Nat) (x i:Operand) (dst:Option Nat) (af:List Nat) (r:List AOper):qSeq P pin (hk HF) Z (⟨dst,.idxA sz x i,none,af⟩ :: r) K (mkS σ H)=bindX P pin HF Z K (isMk Z dst) (.idxA sz x i) dst r σ H:=Awz _ _ _ _ (fun _ _ h=>by cases h) rfl
theorem qSeq_idxP (sz n:Nat) (x i:Operand) (dst:Option Nat) (af:List Nat) (r:List AOper):qSeq P pin (hk HF) Z (⟨dst,.idxP sz n x i,none,af⟩ :: r) K (mkS σ H)=bindX P pin HF Z K (isMk Z dst) (.idxP sz n x i) dst r σ H:=Awz _ _ _ _ (fun _ _ h=>by cases h) rfl
theorem qSeq_idxS (x i:Operand) (dst:Option Nat) (af:List Nat) (r:List AOper):qSeq P pin (hk HF) Z (⟨dst,.idxS x i,none,af⟩ :: r) K (mkS σ H)=bindX P pin HF Z K (isMk Z dst) (.idxS x i) dst r σ H:=Awz _ _ _ _ (fun _ _ h=>by cases h) rfl
theorem qSeq_extract (x:Operand) (i:Nat) (dst:Option Nat) (af:List Nat) (r:List AOper):qSeq P pin (hk HF) Z (⟨dst,.extract x i,none,af⟩ :: r) K (mkS σ H)=bindX P pin HF Z K (isMk Z dst) (.extract x i) dst r σ H:=Awz _ _ _ _ (fun _ _ h=>by cases h) rfl
theorem qSeq_len (x:Operand) (dst:Option Nat) (af:List Nat) (r:List AOper):qSeq P pin (hk HF) Z (⟨dst,.len x,none,af⟩ :: r) K (mkS σ H)=bindX P pin HF Z K (isMk Z dst) (.len x) dst r σ H:=Awz _ _ _ _ (fun _ _ h=>by cases h) rfl
theorem qSeq_lenS (x:Operand) (dst:Option Nat) (af:List Nat) (r:List AOper):qSeq P pin (hk HF) Z (⟨dst,.lenS x,none,af⟩ :: r) K (mkS σ H)=bindX P pin HF Z K (isMk Z dst) (.lenS x) dst r σ H:=Awz _ _ _ _ (fun _ _ h=>by cases h) rfl
theorem qSeq_append (sz:Nat) (x y:Operand) (dst:Option Nat) (af:List Nat) (r:List AOper):qSeq P pin (hk HF) Z (⟨dst,.append sz x y,none,af⟩ :: r) K (mkS σ H)=bindC P pin (hk HF) Z K (arun (mkS σ (mixL Z H HF)) pin (dst.getD 0) (.append sz x y)) dst r (mkS σ H):=Dnz _ _ _ _ (fun _ _ h=>by cases h) rfl
theorem qSeq_store (sz:Nat) (x y:Operand) (dst:Option Nat) (af:List Nat) (r:List AOper):qSeq P pin (hk HF) Z (⟨dst,.store sz x y,none,af⟩ :: r) K (mkS σ H)=bindC P pin (hk HF) Z K (arun (mkS σ (mixL Z H HF)) pin (dst.getD 0) (.store sz x y)) dst r (mkS σ H):=Dnz _ _ _ _ (fun _ _ h=>by cases h) rfl
theorem qSeq_bslice0 (sz:Nat) (zs:List Value) (ps:List (Nat × Operand)) (dst:Option Nat) (af:List Nat) (r:List AOper):qSeq P pin (hk HF) Z (⟨dst,.bslice sz zs ps 0,none,af⟩ :: r) K (mkS σ H)=bindC P pin (hk HF) Z K (arun (mkS σ (mixL Z H HF)) pin (dst.getD 0) (.bslice sz zs ps 0)) dst r (mkS σ H):=Dnz _ _ _ _ (fun _ _ h=>by cases h) rfl
theorem qSeq_slice3 (sz:Nat) (x:Operand) (lo:Option Operand) (hi mx:Operand) (dst:Option Nat) (af:List Nat) (r:List AOper):qSeq P pin (hk HF) Z (⟨dst,.slice3 sz x lo hi mx,none,af⟩ :: r) K (mkS σ H)=bindX P pin HF Z K (isMk Z dst) (.slice3 sz x lo hi mx) dst r σ H:=Awz _ _ _ _ (fun _ _ h=>by cases h) rfl
theorem qSeq_clr (sz:Nat) (zs:List Value) (x:Operand) (dst:Option Nat) (af:List Nat) (r:List AOper):qSeq P pin (hk HF) Z (⟨dst,.clr sz zs x,none,af⟩ :: r) K (mkS σ H)=bindC P pin (hk HF) Z K (arun (mkS σ (mixL Z H HF)) pin (dst.getD 0) (.clr sz zs x)) dst r (mkS σ H):=Dnz _ _ _ _ (fun _ _ h=>by cases h) rfl
theorem qSeq_cpy (sz:Nat) (x y:Operand) (dst:Option Nat) (af:List Nat) (r:List AOper):qSeq P pin (hk HF) Z (⟨dst,.cpy sz x y,none,af⟩ :: r) K (mkS σ H)=bindC P pin (hk HF) Z K (arun (mkS σ (mixL Z H HF)) pin (dst.getD 0) (.cpy sz x y)) dst r (mkS σ H):=Dnz _ _ _ _ (fun _ _ h=>by cases h) rfl
theorem qSeq_minmax (mx:Bool) (x y:Operand) (dst:Option Nat) (af:List Nat) (r:List AOper):qSeq P pin (hk HF) Z (⟨dst,.minmax mx x y,none,af⟩ :: r) K (mkS σ H)=bindX P pin HF Z K (isMk Z dst) (.minmax mx x y) dst r σ H:=Awz _ _ _ _ (fun _ _ h=>by cases h) rfl
theorem qSeq_eqS (neg:Bool) (l:List (Nat × Option IntKind)) (x y:Operand) (dst:Option Nat) (af:List Nat) (r:List AOper):qSeq P pin (hk HF) Z (⟨dst,.eqS neg l x y,none,af⟩ :: r) K (mkS σ H)=bindX P pin HF Z K (isMk Z dst) (.eqS neg l x y) dst r σ H:=Awz _ _ _ _ (fun _ _ h=>by cases h) rfl
theorem qSeq_sliceP (sz n:Nat) (x:Operand) (lo hi:Option Operand) (dst:Option Nat) (af:List Nat) (r:List AOper):qSeq P pin (hk HF) Z (⟨dst,.sliceP sz n x lo hi,none,af⟩ :: r) K (mkS σ H)=bindX P pin HF Z K (isMk Z dst) (.sliceP sz n x lo hi) dst r σ H:=Awz _ _ _ _ (fun _ _ h=>by cases h) rfl


theorem BCall.ofP {f:Nat} {args:List AV} {Q:AV → Prop} (h:PCall P f args Q):BCall P f args [] (fun r H'=>Q r ∧ H'=[]):=by
  intro w M0 B vs hB hG hl hok hd
  have e0:nthH []=fun _=>none:=by funext i;simp [nthH]
  have hM:M0=fun _=>none:=by funext i;exact hok.no i (by show nthH [] i=none;rw [e0])
  subst hM
  have e1:∀ w',Ctx.cl w w' (fun _=>none) (nthH []) B=Ctx.callee w w' B:=fun w'=>by simp only [Ctx.cl,Ctx.callee,e0]
  rw [e1] at hd
  refine (h w B vs hB hG hl hd).mono fun e w' ⟨res,v,hq,he,hden,hb⟩=>⟨res,v,[],fun _=>none,⟨hq,rfl⟩,he,?_,by rw [e1];exact hden,⟨hb.os,hb.tape,hb.output,hb.size,fun g hg _=>hb.block g hg,fun _ _=>rfl,(fun _ _ _ h=>by cases h),(fun i _ hi=>absurd hi (Nat.not_lt_zero _)),fun i _ hi=>absurd hi (Nat.not_lt_zero _)⟩⟩
  rw [e1]
  exact ⟨(fun _ _ h=>by cases h),(fun _ _=>rfl),(fun _ _ _ h=>by cases h)⟩

theorem Glz {H:List (Nat × List AV)} {dst:Option Nat} {k:Nat} (h:k=0 ∨ (k ≤ 16 ∧ ∀ d,dst=some d → freshD H d ∧ pin ≤ 16 * d)):∀ id ∈ news dst k,(mkS σ H).H id=none ∧ pin ≤ id:=by
  intro id hid
  obtain ⟨d,j,rfl,hj,rfl⟩:=E3z hid
  rcases h with rfl|⟨hk',h⟩
  · omega
  · obtain ⟨h1,h2⟩:=h d rfl
    exact ⟨Cwz h1 j (by omega),by omega⟩

def after (ids:List Nat) (sh:Bool) (n:Nat) (dst:Option Nat) (r:AV) (H':List (List AV)) (s:S):S :=
  s.putL dst (r.up (ids ++ news dst (H'.length - n)) sh) ((ids ++ news dst (H'.length - n)).zip (H'.map (List.map (AV.up (ids ++ news dst (H'.length - n)) sh))))

def freshC (pin:Nat) (H:List (Nat × List AV)) (dst:Option Nat):Nat → Prop
  | 0=>True
  | k + 1=>k + 1 ≤ 16 ∧ ∀ d,dst=some d → freshD H d ∧ pin ≤ 16 * d

theorem freshC_or {H:List (Nat × List AV)} {dst:Option Nat} {k:Nat} (h:freshC pin H dst k):k=0 ∨ (k ≤ 16 ∧ ∀ d,dst=some d → freshD H d ∧ pin ≤ 16 * d):=by
  cases k with
  | zero=>exact .inl rfl
  | succ k=>exact .inr h
theorem freshC_zero (H:List (Nat × List AV)) (dst:Option Nat):freshC pin H dst 0=True:=rfl
theorem freshC_1 (H:List (Nat × List AV)) (d:Nat):freshC pin H (some d) 1=(freshD H d ∧ pin ≤ 16 * d):=by simp [freshC]
theorem freshC_2 (H:List (Nat × List AV)) (d:Nat):freshC pin H (some d) 2=(freshD H d ∧ pin ≤ 16 * d):=by simp [freshC]
theorem freshC_3 (H:List (Nat × List AV)) (d:Nat):freshC pin H (some d) 3=(freshD H d ∧ pin ≤ 16 * d):=by simp [freshC]
theorem call0 {f:Nat} {cargs:List AV} {Q:AV → List (List AV) → Prop} {args:List Operand} {dst:Option Nat} (sh:Bool) (hc:BCall P f cargs [] Q)
    (hargs:args.map (fun x=>((mkS σ H).ev x).down [] sh (hk H))=cargs) (hK:∀ res H',Q res H' → freshC pin H dst H'.length ∧ K (after [] sh 0 dst res H' (mkS σ H))):callOwed P pin f args dst K (mkS σ H):=by
  refine Cyz [] sh (F:=hk H) (fun _ _ h=>h) hc hargs rfl List.nodup_nil fun res H' hq=>?_
  obtain ⟨h1,h2⟩:=hK res H' hq
  exact ⟨trivial,Glz (freshC_or h1),h2⟩

theorem call1 {f:Nat} {cargs:List AV} {h0:List AV} {Q:AV → List (List AV) → Prop} {args:List Operand} {dst:Option Nat} (id:Nat) (sh:Bool) (hc:BCall P f cargs [h0] Q)
    (hargs:args.map (fun x=>((mkS σ H).ev x).down [id] sh (hk H))=cargs) (hH:(hk H id).map (List.map (AV.down [id] sh (hk H)))=some h0)
    (hK:∀ res H',Q res H' → lenOk [h0] H' ∧ freshC pin H dst (H'.length - 1) ∧ K (after [id] sh 1 dst res H' (mkS σ H))):callOwed P pin f args dst K (mkS σ H):=by
  refine Cyz [id] sh (F:=hk H) (fun _ _ h=>h) hc hargs (by simp only [List.map_cons,List.map_nil];rw [show (mkS σ H).H id=hk H id from rfl,hH]) (by simp) fun res H' hq=>?_
  obtain ⟨h0,h1,h2⟩:=hK res H' hq
  exact ⟨h0,Glz (freshC_or h1),h2⟩

theorem qcall_of {f:Nat} {cargs:List AV} {H0:List (List AV)} {Q:AV → List (List AV) → Prop} {args:List Operand} {dst:Option Nat} {r:List AOper} (ids:List Nat) (X:List (Nat × List AV)) (sh:Bool) (hc:BCall P f cargs H0 Q)
    (hids:ids=X.map (·.1)) (hargs:args.map (fun x=>(s.ev x).down ids sh F)=cargs) (hX:X.map (fun p=>p.2.map (AV.down ids sh F))=H0) (hnd:ids.Nodup) (hXs:∀ p ∈ X,s.H p.1=some p.2 ∧ p.1 ∈ Z ∧ isNw Z p.1=false)
    (hfr:∀ id,inNew dst id → s.H id=none ∧ id ∉ Z ∧ pin ≤ id) (hne:∃ v H',Q v H')
    (hK:∀ res H',Q res H' → lenOk H0 H' ∧ H'.length - H0.length ≤ 16 ∧ qSeq P pin F Z r K (after ids sh H0.length dst res H' s)):qCall P pin F Z f args dst r K s:=by
  unfold qCall qone
  simp only [aguard,forall_const,Bool.true_eq_false,false_implies,and_true]
  refine ⟨X,fun v u=>∃ res H',Q res H' ∧ lenOk H0 H' ∧ H'.length - H0.length ≤ 16 ∧ v=res.up (ids ++ news dst (H'.length - H0.length)) sh ∧ u=(ids ++ news dst (H'.length - H0.length)).zip (H'.map (List.map (AV.up (ids ++ news dst (H'.length - H0.length)) sh))),⟨fun p hp=>⟨(hXs p hp).1,(hXs p hp).2.1⟩,?_,?_⟩,?_,?_⟩
  · rintro v u ⟨res,H',hq,hl,h16,rfl,rfl⟩ p hp
    have hp1:p.1 ∈ ids ++ news dst (H'.length - H0.length):=(List.of_mem_zip hp).1
    rcases List.mem_append.1 hp1 with h|h
    · rw [hids] at h
      obtain ⟨q,hq',he⟩:=List.mem_map.1 h
      exact .inl ⟨Ddz rfl,he ▸ (hXs q hq').2.1,by rw [← he,(hXs q hq').1];simp⟩
    · obtain ⟨d,j,hd,hj,he⟩:=E3z h
      have hin:inNew dst p.1:=⟨d,j,hd,by omega,he⟩
      exact .inr ⟨hin,(hfr _ hin).1,.inr (hfr _ hin).2.1⟩
  · refine ⟨fun id hid=>(hfr id hid).1,⟨fun p hp=>(hXs p hp).2.2,?_⟩,?_⟩
    · rintro v u ⟨res,H',hq,hl,h16,rfl,rfl⟩ p hp hz
      have hp1:p.1 ∈ ids ++ news dst (H'.length - H0.length):=(List.of_mem_zip hp).1
      rcases List.mem_append.1 hp1 with h|h
      · rw [hids] at h
        obtain ⟨q,hq',he⟩:=List.mem_map.1 h
        rw [← he]
        exact (hXs q hq').2.2
      · obtain ⟨d,j,hd,hj,he⟩:=E3z h
        exact absurd hz (hfr _ ⟨d,j,hd,by omega,he⟩).2.1
    intro E M s1 a w args1 hp hdst hst hsees hX1 hnew1 hav
    have hcall:=Cyz (P:=P) (s:=s1) (pin:=pin) (args:=args1) (dst:=dst) (K:=fun s'=>∃ v u,(∃ res H',Q res H' ∧ lenOk H0 H' ∧ H'.length - H0.length ≤ 16 ∧ v=res.up (ids ++ news dst (H'.length - H0.length)) sh ∧ u=(ids ++ news dst (H'.length - H0.length)).zip (H'.map (List.map (AV.up (ids ++ news dst (H'.length - H0.length)) sh)))) ∧ s'=s1.putL dst v u)
      ids sh (F:=F) hsees hc (by rw [← hargs,show (args1.map fun x=>(s1.ev x).down ids sh F)=(args1.map s1.ev).map (fun a=>a.down ids sh F) by simp,hav];simp)
      (by
        rw [hids,← hX]
        simp only [List.map_map]
        refine List.map_congr_left fun p hp=>?_
        simp only [Function.comp,hX1 p hp,Option.map_some,hids]) hnd
      (fun res H' hq=>by
        obtain ⟨h1,h2,h3⟩:=hK res H' hq
        refine ⟨h1,fun id hid=>?_,_,_,⟨res,H',hq,h1,h2,rfl,rfl⟩,rfl⟩
        obtain ⟨d,j,hd,hj,he⟩:=E3z hid
        have hin:inNew dst id:=⟨d,j,hd,by omega,he⟩
        exact ⟨hnew1 id hin,(hfr id hin).2.2⟩)
    refine (hcall E M a w hp hdst hst).mono fun e w' ⟨M',s',v',⟨v,u,hr,hs'⟩,he,hst'⟩=>⟨M',v',v,u,hr,he,hs' ▸ hst'⟩
  · obtain ⟨v,H',hq⟩:=hne
    obtain ⟨h1,h2,_⟩:=hK v H' hq
    exact ⟨_,_,v,H',hq,h1,h2,rfl,rfl⟩
  · rintro v u ⟨res,H',hq,hl,h16,rfl,rfl⟩
    exact (hK res H' hq).2.2

theorem inNew_fresh {H:List (Nat × List AV)} {dst:Option Nat} (h:∀ d,dst=some d → freshD H d ∧ pin ≤ 16 * d ∧ ∀ z ∈ Z,¬ z / 16=d):∀ id,inNew dst id → (mkS σ H).H id=none ∧ id ∉ Z ∧ pin ≤ id:=by
  rintro id ⟨d,k,rfl,hk',rfl⟩
  obtain ⟨h1,h2,h3⟩:=h d rfl
  exact ⟨Cwz h1 k hk',fun hz=>h3 _ hz (by omega),by omega⟩

theorem qcall0 {f d:Nat} {cargs:List AV} {Q:AV → List (List AV) → Prop} {args:List Operand} {r:List AOper} (sh:Bool) (hc:BCall P f cargs [] Q) (hargs:args.map (fun x=>((mkS σ H).ev x).down [] sh (hk HF))=cargs)
    (hfr:freshD H d ∧ pin ≤ 16 * d ∧ ∀ z ∈ Z,¬ z / 16=d) (hne:∃ v H',Q v H') (hK:∀ res H',Q res H' → H'.length ≤ 16 ∧ qSeq P pin (hk HF) Z r K (after [] sh 0 (some d) res H' (mkS σ H))) :
    qCall P pin (hk HF) Z f args (some d) r K (mkS σ H) :=
  qcall_of [] [] sh hc rfl hargs rfl List.nodup_nil (fun p hp=>by cases hp) (inNew_fresh fun d' h=>by injection h with h;subst h;exact hfr) hne fun res H' hq=>⟨trivial,hK res H' hq⟩

theorem qcall1 {f d:Nat} {cargs:List AV} {c0 h0:List AV} {Q:AV → List (List AV) → Prop} {args:List Operand} {r:List AOper} (id:Nat) (sh:Bool) (hc:BCall P f cargs [h0] Q) (hargs:args.map (fun x=>((mkS σ H).ev x).down [id] sh (hk HF))=cargs)
    (hc0:hk H id=some c0) (hH:c0.map (AV.down [id] sh (hk HF))=h0) (hz:id ∈ Z ∧ isNw Z id=false)
    (hfr:freshD H d ∧ pin ≤ 16 * d ∧ ∀ z ∈ Z,¬ z / 16=d) (hne:∃ v H',Q v H') (hK:∀ res H',Q res H' → lenOk [h0] H' ∧ H'.length - 1 ≤ 16 ∧ qSeq P pin (hk HF) Z r K (after [id] sh 1 (some d) res H' (mkS σ H))) :
    qCall P pin (hk HF) Z f args (some d) r K (mkS σ H) :=
  qcall_of [id] [(id,c0)] sh hc rfl hargs (by simp [hH]) (by simp) (fun p hp=>by simp at hp;subst hp;exact ⟨hc0,hz⟩) (inNew_fresh fun d' h=>by injection h with h;subst h;exact hfr) hne hK


def renO (ρ:Nat → Option Nat) (Z:Nat → Option (List AV)) (b0:Bool) (φ:Bool → Option Bool) (n k sz:Nat):Option (List AV) → Option Nat → AV
  | _,some i=>.own i k sz
  | some cs,none=>if cs.length=k * sz then .rows b0 (cs.map (AV.ren ρ Z b0 φ n)) k else .unk
  | none,none=>.unk
def renOs (ρ:Nat → Option Nat) (Z:Nat → Option (List AV)) (b0:Bool) (φ:Bool → Option Bool) (n len off k sz c:Nat):Option (List AV) → Option Nat → AV
  | _,some i=>.osl i len off k sz c
  | some cs,none=>if cs.length=len then .rows b0 (((cs.drop off).take (k * sz)).map (AV.ren ρ Z b0 φ n)) k else .unk
  | none,none=>.unk
def renR (len off:Nat):Option Nat → AV
  | some i=>.ref i len off
  | none=>.unk
def renW (cs:List AV) (k:Nat):Option Bool → AV
  | some fr=>.rows fr cs k
  | none=>.unk
section
variable {ρ:Nat → Option Nat} {Zh:Nat → Option (List AV)} {b0:Bool} {φ:Bool → Option Bool} {n:Nat}
theorem D7z (z:Option (List AV)) (k sz i:Nat):renO ρ Zh b0 φ n k sz z (some i)=.own i k sz:=by cases z<;>rfl
theorem renO_none (cs:List AV) (k sz:Nat):renO ρ Zh b0 φ n k sz (some cs) none=if cs.length=k * sz then .rows b0 (cs.map (AV.ren ρ Zh b0 φ n)) k else .unk:=rfl
theorem renO_nn (k sz:Nat):renO ρ Zh b0 φ n k sz none none=.unk:=rfl
theorem renR_some (len off i:Nat):renR len off (some i)=.ref i len off:=rfl
theorem renR_none (len off:Nat):renR len off none=.unk:=rfl
theorem renW_some (cs:List AV) (k:Nat) (fr:Bool):renW cs k (some fr)=.rows fr cs k:=rfl
theorem renW_none (cs:List AV) (k:Nat):renW cs k none=.unk:=rfl
theorem Fbz (id k sz:Nat):AV.ren ρ Zh b0 φ (n + 1) (.own id k sz)=renO ρ Zh b0 φ n k sz (Zh id) (ρ id):=by
  simp only [AV.ren];cases ρ id<;>cases Zh id<;>rfl
theorem ren_osl (id len off k sz c:Nat):AV.ren ρ Zh b0 φ (n + 1) (.osl id len off k sz c)=renOs ρ Zh b0 φ n len off k sz c (Zh id) (ρ id):=by
  simp only [AV.ren];cases ρ id<;>cases Zh id<;>rfl
theorem renOs_some (z:Option (List AV)) (len off k sz c i:Nat):renOs ρ Zh b0 φ n len off k sz c z (some i)=.osl i len off k sz c:=by cases z<;>rfl
theorem renOs_none (cs:List AV) (len off k sz c:Nat):renOs ρ Zh b0 φ n len off k sz c (some cs) none=if cs.length=len then .rows b0 (((cs.drop off).take (k * sz)).map (AV.ren ρ Zh b0 φ n)) k else .unk:=rfl
theorem ren_ref (id len off:Nat):AV.ren ρ Zh b0 φ (n + 1) (.ref id len off)=renR len off (ρ id):=by
  simp only [AV.ren]<;>cases ρ id<;>rfl
theorem ren_rows (fr:Bool) (cs:List AV) (k:Nat):AV.ren ρ Zh b0 φ (n + 1) (.rows fr cs k)=renW (cs.map (AV.ren ρ Zh b0 φ n)) k (φ fr):=by
  simp only [AV.ren]<;>cases φ fr<;>rfl
theorem ren_agg (cs:List AV):AV.ren ρ Zh b0 φ (n + 1) (.agg cs)=.agg (cs.map (AV.ren ρ Zh b0 φ n)):=rfl
theorem ren_tup (cs:List AV):AV.ren ρ Zh b0 φ (n + 1) (.tup cs)=.tup (cs.map (AV.ren ρ Zh b0 φ n)):=rfl
theorem ren_int (k:IntKind) (x:Int):AV.ren ρ Zh b0 φ (n + 1) (.int k x)=.int k x:=rfl
theorem ren_bool (b:Bool):AV.ren ρ Zh b0 φ (n + 1) (.bool b)=.bool b:=rfl
theorem ren_str (b:ByteArray):AV.ren ρ Zh b0 φ (n + 1) (.str b)=.str b:=rfl
theorem ren_und:AV.ren ρ Zh b0 φ (n + 1) .und=.und:=rfl
theorem ren_unk:AV.ren ρ Zh b0 φ (n + 1) .unk=.unk:=rfl
theorem ren_nil:AV.ren ρ Zh b0 φ (n + 1) (.val (.slice none 0 0))=.rows b0 [] 0:=rfl
theorem ren_ints (k:IntKind) (xs:List Int):(xs.map (AV.int k)).map (AV.ren ρ Zh b0 φ (n + 1))=xs.map (AV.int k):=by rw [List.map_map];rfl
theorem ren_rep (k:IntKind) (v:Int) (m:Nat):(List.replicate m (AV.int k v)).map (AV.ren ρ Zh b0 φ (n + 1))=List.replicate m (AV.int k v):=by rw [List.map_replicate];rfl
theorem ren_bools (xs:List Bool):(xs.map AV.bool).map (AV.ren ρ Zh b0 φ (n + 1))=xs.map AV.bool:=by rw [List.map_map];rfl
end
theorem posF_eq (ids:List Nat) (id:Nat):posF ids id=posL ids id 0:=rfl
theorem posL_nil (id k:Nat):posL [] id k=none:=rfl
theorem posL_cons (x:Nat) (r:List Nat) (id k:Nat):posL (x :: r) id k=if id=x then some k else posL r id (k + 1):=rfl
theorem zF_false (H:Nat → Option (List AV)) (id:Nat):zF false H id=H id:=rfl
theorem zF_true (H:Nat → Option (List AV)) (id:Nat):zF true H id=none:=rfl
theorem noH_eq (id:Nat):noH id=none:=rfl
theorem phiD_eq (b:Bool):phiD b=some false:=rfl
theorem phiU_t (sh:Bool):phiU sh true=some true:=rfl
theorem phiU_ff:phiU false false=none:=rfl
theorem phiU_tf:phiU true false=some false:=rfl
theorem idxF_zero (x:Nat) (r:List Nat):idxF (x :: r) 0=some x:=rfl
theorem idxF_one (x y:Nat) (r:List Nat):idxF (x :: y :: r) 1=some y:=rfl
theorem idxF_two (x y z:Nat) (r:List Nat):idxF (x :: y :: z :: r) 2=some z:=rfl
theorem idxF_nil (i:Nat):idxF [] i=none:=by simp [idxF]
theorem down_eq (ids:List Nat) (sh:Bool) (H:Nat → Option (List AV)) (a:AV):a.down ids sh H=a.ren (posF ids) (zF sh H) false phiD 5:=rfl
theorem up_eq (ids:List Nat) (sh:Bool) (a:AV):a.up ids sh=a.ren (idxF ids) noH true (phiU sh) 5:=rfl
theorem can_eq (ids:List Nat) (H:Nat → Option (List AV)) (a:AV):a.can ids H=a.ren (posF ids) H true some 5:=rfl
theorem down_fun (ids:List Nat) (sh:Bool) (H:Nat → Option (List AV)) (l:List AV):l.map (AV.down ids sh H)=l.map (AV.ren (posF ids) (zF sh H) false phiD 5):=rfl
theorem up_fun (ids:List Nat) (sh:Bool) (l:List AV):l.map (AV.up ids sh)=l.map (AV.ren (idxF ids) noH true (phiU sh) 5):=rfl
theorem can_fun (ids:List Nat) (H:Nat → Option (List AV)) (l:List AV):l.map (AV.can ids H)=l.map (AV.ren (posF ids) H true some 5):=rfl
def orN (H:Nat → Option (List AV)) (id:Nat):List Nat → Option (List AV)
  | []=>H id
  | x :: r=>if id=x then some ((H id).getD []) else orN H id r
theorem orN_nil (H:Nat → Option (List AV)) (id:Nat):orN H id []=H id:=rfl
theorem orN_cons (H:Nat → Option (List AV)) (id x:Nat) (r:List Nat):orN H id (x :: r)=if id=x then some ((H id).getD []) else orN H id r:=rfl
theorem orNil_eq (H:Nat → Option (List AV)) (ids:List Nat) (id:Nat):orNil H ids id=orN H id ids:=by
  unfold orNil
  induction ids with
  | nil=>simp [orN]
  | cons x r ih =>
    simp only [orN,List.mem_cons]
    by_cases h:id=x
    · simp [h]
    · simp only [h,false_or,if_false];exact ih
def inN:List Nat → Nat → Prop
  | [],_=>False
  | x :: r,id=>id=x ∨ inN r id
theorem inN_nil (id:Nat):inN [] id=False:=rfl
theorem inN_cons (x id:Nat) (r:List Nat):inN (x :: r) id=(id=x ∨ inN r id):=rfl
theorem inN_mem:∀ {l:List Nat} {id:Nat},id ∈ l ↔ inN l id
  | [],_=>by simp [inN]
  | x :: r,id=>by simp [inN,inN_mem (l:=r)]
theorem after_eq (ids:List Nat) (sh:Bool) (n:Nat) (dst:Option Nat) (r:AV) (H':List (List AV)) (s:S):after ids sh n dst r H' s =
  s.putL dst (r.up (ids ++ news dst (H'.length - n)) sh) ((ids ++ news dst (H'.length - n)).zip (H'.map (List.map (AV.up (ids ++ news dst (H'.length - n)) sh)))):=rfl
theorem news_none (k:Nat):news none k=[]:=rfl
theorem news_zero (d:Nat):news (some d) 0=[]:=rfl
theorem news_1 (d:Nat):news (some d) 1=[16 * d]:=rfl
theorem news_2 (d:Nat):news (some d) 2=[16 * d,16 * d + 1]:=rfl
theorem news_3 (d:Nat):news (some d) 3=[16 * d,16 * d + 1,16 * d + 2]:=rfl
theorem lenOk_nil (H:List (List AV)):lenOk [] H=True:=rfl
theorem lenOk_cons (a b:List AV) (r s:List (List AV)):lenOk (a :: r) (b :: s)=(a.length ≤ b.length ∧ lenOk r s):=rfl
theorem initB_eq (args:List AV) (H0:List (List AV)):S.initB args H0=mkS (args.zipIdx.map fun p=>(p.2,p.1)) (H0.zipIdx.map fun p=>(p.2,p.1)):=rfl
theorem retOk_eq (pins outs:List Nat) (nils:List (Nat × Nat)) (H:Nat → Option (List AV)):retOk pins outs nils H=((∀ id ∈ pins,(H id).isSome=true) ∧ ∀ p ∈ nils,H p.1=none ∧ inN outs p.1):=by
  simp only [retOk,inN_mem]
theorem fixNil_nil (id sz:Nat) (r:List (Nat × Nat)):AV.fixNil ((id,sz) :: r) (.val (.slice none 0 0))=(.own id 0 sz,r):=rfl
theorem fixNil_none (a:AV):a.fixNil []=(a,[]):=by
  have h:∀ (n:Nat) (a:AV),sizeOf a < n → a.fixNil []=(a,[]):=by
    intro n
    induction n with
    | zero=>intro a h;omega
    | succ n ih =>
      have hl:∀ cs:List AV,sizeOf cs < n + 1 → fixNilL [] cs=(cs,[]):=by
        intro cs
        induction cs with
        | nil=>intro _;rfl
        | cons c r ihr =>
          intro h
          simp only [List.cons.sizeOf_spec] at h
          simp only [fixNilL,ih c (by omega),ihr (by omega)]
      intro a h
      cases a
      case agg cs=>simp only [AV.agg.sizeOf_spec] at h;simp only [AV.fixNil,hl cs (by omega)]
      case tup cs=>simp only [AV.tup.sizeOf_spec] at h;simp only [AV.fixNil,hl cs (by omega)]
      case val u=>unfold AV.fixNil;split<;>simp_all
      all_goals rfl
  exact h _ a (Nat.lt_succ_self _)
theorem fixNil_agg (L:List (Nat × Nat)) (cs:List AV):AV.fixNil L (.agg cs)=(.agg (fixNilL L cs).1,(fixNilL L cs).2):=rfl
theorem fixNil_tup (L:List (Nat × Nat)) (cs:List AV):AV.fixNil L (.tup cs)=(.tup (fixNilL L cs).1,(fixNilL L cs).2):=rfl
theorem fixNil_int (L:List (Nat × Nat)) (k:IntKind) (x:Int):AV.fixNil L (.int k x)=(.int k x,L):=rfl
theorem fixNil_bool (L:List (Nat × Nat)) (b:Bool):AV.fixNil L (.bool b)=(.bool b,L):=rfl
theorem fixNil_own (L:List (Nat × Nat)) (id n sz:Nat):AV.fixNil L (.own id n sz)=(.own id n sz,L):=rfl
theorem fixNil_rows (L:List (Nat × Nat)) (fr:Bool) (cs:List AV) (n:Nat):AV.fixNil L (.rows fr cs n)=(.rows fr cs n,L):=rfl
theorem fixNilL_nil (L:List (Nat × Nat)):fixNilL L []=([],L):=rfl
theorem fixNilL_cons (L:List (Nat × Nat)) (c:AV) (r:List AV):fixNilL L (c :: r)=((c.fixNil L).1 :: (fixNilL (c.fixNil L).2 r).1,(fixNilL (c.fixNil L).2 r).2):=rfl
theorem Aoz {α:Type} (p:α → Prop):(∀ x ∈ ([]:List α),p x)=True:=by simp
theorem Amz {α:Type} (p:α → Prop) (a:α) (l:List α):(∀ x ∈ a :: l,p x)=(p a ∧ ∀ x ∈ l,p x):=by simp


def callD (P:Program) (pin f:Nat) (ids:List Nat) (sh:Bool) (cargs:List AV) (dst:Option Nat) (K:S → Prop) (σ:List (Nat × AV)) (H:List (Nat × List AV)):Prop :=
  ∀ args:List Operand,args.map (fun x=>((mkS σ H).ev x).down ids sh (hk H))=cargs → callOwed P pin f args dst K (mkS σ H)
theorem Apz {f:Nat} {args:List Operand} {dst:Option Nat} (sh:Bool) (h:callD P pin f [] sh (args.map fun x=>((mkS σ H).ev x).down [] sh (hk H)) dst K σ H):callOwed P pin f args dst K (mkS σ H):=h args rfl
theorem callD_ids {f:Nat} {args:List Operand} {dst:Option Nat} (ids:List Nat) (sh:Bool) (h:callD P pin f ids sh (args.map fun x=>((mkS σ H).ev x).down ids sh (hk H)) dst K σ H):callOwed P pin f args dst K (mkS σ H):=h args rfl
theorem call0D {f:Nat} {sh:Bool} {cargs:List AV} {Q:AV → List (List AV) → Prop} {dst:Option Nat} (hc:BCall P f cargs [] Q) (hK:∀ res H',Q res H' → freshC pin H dst H'.length ∧ K (after [] sh 0 dst res H' (mkS σ H))):callD P pin f [] sh cargs dst K σ H :=
  fun _ ha=>call0 sh hc ha hK
theorem Bnz {f id:Nat} {sh:Bool} {cargs h0:List AV} {Q:AV → List (List AV) → Prop} {dst:Option Nat} (hc:BCall P f cargs [h0] Q) (hH:(hk H id).map (List.map (AV.down [id] sh (hk H)))=some h0)
    (hK:∀ res H',Q res H' → (lenOk [h0] H' ∧ freshC pin H dst (H'.length - 1)) ∧ K (after [id] sh 1 dst res H' (mkS σ H))):callD P pin f [id] sh cargs dst K σ H :=
  fun _ ha=>call1 id sh hc ha hH fun r H' hq=>let ⟨⟨a,b⟩,c⟩:=hK r H' hq;⟨a,b,c⟩
def qcallD (P:Program) (pin:Nat) (HF:List (Nat × List AV)) (Z:List Nat) (f:Nat) (sh:Bool) (cargs:List AV) (dst:Option Nat) (r:List AOper) (K:S → Prop) (σ:List (Nat × AV)) (H:List (Nat × List AV)):Prop :=
  ∀ args:List Operand,args.map (fun x=>((mkS σ H).ev x).down [] sh (hk HF))=cargs → qCall P pin (hk HF) Z f args dst r K (mkS σ H)
theorem Alz {f:Nat} {args:List Operand} {dst:Option Nat} {r:List AOper} (sh:Bool) (h:qcallD P pin HF Z f sh (args.map fun x=>((mkS σ H).ev x).down [] sh (hk HF)) dst r K σ H):qCall P pin (hk HF) Z f args dst r K (mkS σ H):=h args rfl
theorem qcall0D {f d:Nat} {sh:Bool} {cargs:List AV} {Q:AV → List (List AV) → Prop} {r:List AOper} (hc:BCall P f cargs [] Q) (hne:∃ v H',Q v H')
    (hK:∀ res H',Q res H' → (H'.length ≤ 16 ∧ freshD H d ∧ pin ≤ 16 * d ∧ ∀ z ∈ Z,¬ z / 16=d) ∧ qSeq P pin (hk HF) Z r K (after [] sh 0 (some d) res H' (mkS σ H))):qcallD P pin HF Z f sh cargs (some d) r K σ H:=by
  intro args ha
  obtain ⟨v,H',hq⟩:=hne
  have h1:=(hK v H' hq).1
  exact qcall0 sh hc ha h1.2 ⟨v,H',hq⟩ fun res H'' hq'=>⟨(hK res H'' hq').1.1,(hK res H'' hq').2⟩

def condB (P:Program) (pin:Nat) (v:AV) (t e:ACode) (Q:Exit → S → Prop) (s:S):Prop:=match v with
  | .bool b=>(b=true → awp P pin t Q s) ∧ (b=false → awp P pin e Q s)
  | _=>False
theorem Aez {Q:Exit → S → Prop} {c:Operand} {t e:ACode} (h:condB P pin (s.ev c) t e Q s):awp P pin (.cond c t e) Q s:=by
  generalize hv:s.ev c=v at h
  cases v<;>simp only [condB] at h<;>try exact h.elim
  exact awp_cond _ hv h.1 h.2
theorem condB_true {Q:Exit → S → Prop} (t e:ACode) (s:S):condB P pin (.bool true) t e Q s=awp P pin t Q s:=by simp [condB]
theorem condB_false {Q:Exit → S → Prop} (t e:ACode) (s:S):condB P pin (.bool false) t e Q s=awp P pin e Q s:=by simp [condB]
theorem Abz {Q:Exit → S → Prop} {b:Bool} {t e:ACode} {s:S} (h1:b=true → awp P pin t Q s) (h2:b=false → awp P pin e Q s):condB P pin (.bool b) t e Q s:=⟨h1,h2⟩

theorem Aqz (p:Nat → Bool) (k:IntKind) (xs:List Int):innL p (xs.map (AV.int k))=true:=by
  induction xs with
  | nil=>rfl
  | cons x r ih=>simp [innL,AV.inn,ih]

theorem Asz (p:Nat → Bool) (k:IntKind) (v:Int) (n:Nat):innL p (List.replicate n (AV.int k v))=true:=by
  induction n with
  | zero=>rfl
  | succ n ih=>simp [List.replicate_succ,innL,AV.inn,ih]

theorem Anz (p:Nat → Bool) (xs ys:List AV):innL p (xs ++ ys)=(innL p xs && innL p ys):=by
  induction xs with
  | nil=>simp [innL]
  | cons x r ih=>simp [innL,ih,Bool.and_assoc]

attribute [push_cast] Nat.le_refl inB_nil inB_cons okC_some okC_none bindC_some bindC_new keepL_nil keepL_cons dropL_nil dropL_cons mixL_eq bindX_true bindX_false isMk_nil isMk_none isMk_cons qSeq_slice3 qSeq_clr qSeq_cpy qSeq_store qSeq_bslice0 bindQ_some bindQ_new qIf_true qIf_false bindH_some qSeq_nil qSeq_guard qSeq_call qSeq_mv qSeq_pick qSeq_alloc qSeq_box qSeq_mkfn qSeq_build qSeq_bslice qSeq_load qSeq_bin qSeq_binB qSeq_un qSeq_conv qSeq_nilck qSeq_mkslice qSeq_slice qSeq_sliceS qSeq_fld qSeq_fldv qSeq_idxA qSeq_idxP qSeq_idxS qSeq_extract qSeq_len qSeq_lenS qSeq_append qSeq_minmax qSeq_eqS qSeq_sliceP notIn_nil notIn_cons freshD_nil freshD_cons G5z put_list' freshC_zero freshC_1 freshC_2 freshC_3 D7z renO_none renO_nn renR_some renR_none renW_some renW_none Fbz ren_osl renOs_some renOs_none ren_ref ren_rows ren_agg ren_tup ren_int ren_bool ren_str ren_und ren_unk ren_nil ren_ints ren_bools ren_rep posF_eq posL_nil posL_cons zF_false zF_true noH_eq phiD_eq phiU_t phiU_ff phiU_tf idxF_zero idxF_one idxF_two idxF_nil down_eq up_eq can_eq down_fun up_fun can_fun orNil_eq after_eq news_none news_zero news_1 news_2 news_3 lenOk_nil lenOk_cons initB_eq retOk_eq fixNil_nil fixNil_none fixNil_agg fixNil_tup fixNil_int fixNil_bool fixNil_own fixNil_rows fixNilL_nil fixNilL_cons Aoz Amz condB_true condB_false List.zip_cons_cons List.zip_nil_left List.zip_nil_right List.append_nil Option.isSome_some Option.isSome_none not_false_eq_true or_true or_false inN_nil inN_cons orN_nil orN_cons

end
end Vw
set_option linter.unusedSectionVars false
set_option linter.unusedVariables false
namespace Vw
open Go
variable [Inhabited GlobT]

variable {H:Type} {ec:TypeId × Value → H} {P:Program} {w:World} {spare:Nat → Bool} {held:Bool}

abbrev C0 (w:World):Ctx:=Ctx.callee w w fun _=>False

structure Opn (ec:TypeId × Value → H) (P:Program) (w:World) (spare:Nat → Bool) (held:Bool) (t:TypeId) (sz:Nat) {α:Type} (en:α → List AV) (good:α → Prop):Prop where
  cells:P.cellsOf t=sz
  len:∀ a,(en a).length=sz
  at_:∀ fuel cs x,DataW.trod ec P w 0 spare held fuel t cs=some x → cs.length=sz ∧ ∃ a,DenP (C0 w) (en a) cs ∧ good a

def enI (n:Int):List AV:=[.int .i64 n]
def goodI (n:Int):Prop:=-9223372036854775808 ≤ n ∧ n ≤ 9223372036854775807
def enB (b:Bool):List AV:=[.bool b]
def enS {α:Type} (en:α → List AV) (l:List α):List AV:=[.rows false (l.flatMap en) l.length]
def goodS {α:Type} (good:α → Prop) (l:List α):Prop:=(∀ a ∈ l,good a) ∧ l.length ≤ 9223372036854775807

theorem Opn.int {t:TypeId} (ht:P.underlying t=some (.int .i64)) (hc:P.cellsOf t=1):Opn ec P w spare held t 1 enI goodI:=by
  refine ⟨hc,fun _=>rfl,fun fuel cs x h=>?_⟩
  obtain ⟨n,rfl,_,hw⟩:=DataW.trod_int ht h
  refine ⟨rfl,n,by simp [enI,DenP,Den],?_⟩
  simpa [goodI,Lit.wf,IntKind.min,IntKind.max,IntKind.signed,IntKind.bits] using hw

theorem Opn.bool {t:TypeId} (ht:P.underlying t=some .bool) (hc:P.cellsOf t=1):Opn ec P w spare held t 1 enB (fun _=>True):=by
  refine ⟨hc,fun _=>rfl,fun fuel cs x h=>?_⟩
  obtain ⟨b,rfl,_⟩:=DataW.trod_bool ht h
  exact ⟨rfl,b,by simp [enB,DenP,Den],trivial⟩

theorem cell_lit {g o:Nat} {v:Value} {s:Option Nat} (h:w.cell? ⟨g,o,s⟩=some v):s=none ∧ ∃ cur e fz,w.heap[g]?=some (.cells cur e fz) ∧ cur[o]?=some v:=by
  unfold World.cell? at h
  simp only at h
  split at h
  · rename_i c e fz hg
    split at h
    · cases h
    · rename_i hs
      exact ⟨by simpa using hs,c,e,fz,hg,h⟩
  · cases h

theorem Opn.slice {t e:TypeId} {sz:Nat} {α:Type} {en:α → List AV} {good:α → Prop} (o:Opn ec P w spare held e sz en good) (hsz:0 < sz) (ht:P.underlying t=some (.slice e)) (hc:P.cellsOf t=1):Opn ec P w spare held t 1 (enS en) (goodS good):=by
  refine ⟨hc,fun _=>rfl,fun fuel cs x h=>?_⟩
  rcases DataW.trod_slice ht h with ⟨rfl,_⟩|⟨a,len,cap,elems,rest,n,_,rfl,_,_,hl,hm,hlen,hel,_⟩
  · exact ⟨rfl,[],by simp only [enS,DenP,Den];exact ⟨.inl ⟨.inl rfl,by simp,by simp⟩,trivial⟩,by simp [goodS]⟩
  · refine ⟨rfl,?_⟩
    by_cases h0:len=0
    · subst h0
      exact ⟨[],by simp only [enS,DenP,Den];exact ⟨.inl ⟨.inr ⟨a,cap,by simp⟩,by simp,by simp⟩,trivial⟩,by simp [goodS]⟩
    · -- each element's cells
      have hcell:∀ i,i < len → ∃ cs' y,w.cells? 0 (a.add (i * sz)) sz=some cs' ∧ DataW.trod ec P w 0 spare held n e cs'=some y:=by
        intro i hi
        have h1:=hel i hi
        rw [o.cells] at h1
        rw [List.getElem?_eq_getElem (by omega)] at h1
        simp only [Option.bind_eq_some_iff] at h1
        obtain ⟨cs',h2,h3⟩:=h1
        exact ⟨cs',_,h2,h3⟩
      obtain ⟨g,of,sp⟩:=a
      have hspot:sp=none ∧ ∃ cur et fz,w.heap[g]?=some (.cells cur et fz):=by
        obtain ⟨cs',y,h1,_⟩:=hcell 0 (by omega)
        have h2:=(World.cells?_some h1).2
        have hlen':cs'.length=sz:=h2.1
        have h3:=h2.2 0 (by omega)
        rw [List.getElem?_eq_getElem (by omega)] at h3
        have e0:((⟨g,of,sp⟩:Addr).add (0 * sz)).add 0=(⟨g,of,sp⟩:Addr):=by
          simp [Addr.add]
        rw [e0] at h3
        obtain ⟨h4,cur,et,fz,h5,_⟩:=cell_lit h3
        exact ⟨h4,cur,et,fz,h5⟩
      obtain ⟨rfl,cur,et,fz,hg⟩:=hspot
      have hat:∀ i,i < len → ∃ al,DenP (C0 w) (en al) (cur.toList.drop (of + i * sz)) ∧ good al:=by
        intro i hi
        obtain ⟨cs',y,h1,h2⟩:=hcell i hi
        obtain ⟨hl',al,h3,h4⟩:=o.at_ _ _ _ h2
        refine ⟨al,?_,h4⟩
        have h5:=(World.cells?_some h1).2.2
        rw [A3z] at h3 ⊢
        intro j b hb
        obtain ⟨v,hv,hd⟩:=h3 j b hb
        have hj:j < sz:=by rw [← o.len al];exact (List.getElem?_eq_some_iff.1 hb).1
        have h6:=h5 j hj
        rw [hv] at h6
        have e1:((⟨g,of,none⟩:Addr).add (i * sz)).add j=⟨g,of + i * sz + j,none⟩:=by rw [Addr.add_lit,Addr.add_lit]
        rw [e1] at h6
        obtain ⟨_,cur',et',fz',h7,h8⟩:=cell_lit h6
        rw [hg] at h7
        injection h7 with h7
        injection h7 with h7
        subst h7
        exact ⟨v,by rw [List.getElem?_drop];simpa using h8,hd⟩
      have hall:∀ k,k ≤ len → ∃ l:List α,l.length=k ∧ (∀ a ∈ l,good a) ∧ DenP (C0 w) (l.flatMap en) (cur.toList.drop of) ∧ (l.flatMap en).length=k * sz:=by
        intro k
        induction k with
        | zero=>exact fun _=>⟨[],rfl,by simp,by simp [DenP],by simp⟩
        | succ k ih =>
          intro hk
          obtain ⟨l,h1,h2,h3,h4⟩:=ih (by omega)
          obtain ⟨al,h5,h6⟩:=hat k (by omega)
          refine ⟨l ++ [al],by simp [h1],fun x hx=>?_,?_,by simp [List.flatMap_append,h4,o.len,Nat.add_mul]⟩
          · rcases List.mem_append.1 hx with hx|hx
            · exact h2 x hx
            · simp at hx;subst hx;exact h6
          · rw [List.flatMap_append]
            simp only [List.flatMap_cons,List.flatMap_nil,List.append_nil]
            rw [A3z] at h3 h5 ⊢
            intro j b hb
            rw [List.getElem?_append] at hb
            split at hb
            · exact h3 j b hb
            · rename_i hj
              obtain ⟨v,hv,hd⟩:=h5 _ b hb
              refine ⟨v,?_,hd⟩
              rw [List.getElem?_drop] at hv ⊢
              rw [h4] at hv hj
              rw [← hv]
              congr 1
              omega
      obtain ⟨l,h1,h2,h3,_⟩:=hall len (Nat.le_refl _)
      refine ⟨l,?_,h2,by rw [h1];have:maxLen=9223372036854775807:=rfl;omega⟩
      simp only [enS,DenP,Den,and_true]
      exact .inr ⟨g,of,cap,cur,et,fz,by rw [h1],hg,⟨(fun _ h=>by cases h),(fun h=>h),(fun h=>by cases h)⟩,by rw [h1];exact hl,h3⟩

inductive OpnL (ec:TypeId × Value → H) (P:Program) (w:World) (spare:Nat → Bool) (held:Bool):(o:Nat) → List Field → (α:Type) → (α → List AV) → (α → Prop) → Prop
  | nil {o:Nat}:OpnL ec P w spare held o [] Unit (fun _=>[]) (fun _=>True)
  | cons {o sz:Nat} {f:Field} {fs:List Field} {α β:Type} {en:α → List AV} {good:α → Prop} {en':β → List AV} {good':β → Prop} :
      Opn ec P w spare held f.type sz en good → f.offset=o → OpnL ec P w spare held (o + sz) fs β en' good' → OpnL ec P w spare held o (f :: fs) (α × β) (fun p=>en p.1 ++ en' p.2) (fun p=>good p.1 ∧ good' p.2)

theorem OpnL.at_ {o:Nat} {fs:List Field} {α:Type} {en:α → List AV} {good:α → Prop} (h:OpnL ec P w spare held o fs α en good) :
    ∃ total,(∀ a,(en a).length=total) ∧ ∀ (cs:List Value),(∀ f ∈ fs,∃ n x,DataW.trod ec P w 0 spare held n f.type ((cs.drop f.offset).take (P.cellsOf f.type))=some x) → ∃ a,DenP (C0 w) (en a) (cs.drop o) ∧ good a:=by
  induction h with
  | nil=>exact ⟨0,fun _=>rfl,fun cs _=>⟨(),by simp [DenP],trivial⟩⟩
  | @cons o sz f fs α β en good en' good' hf ho hr ih =>
    obtain ⟨total,h1,h2⟩:=ih
    refine ⟨sz + total,fun a=>by simp [hf.len,h1],fun cs hcs=>?_⟩
    obtain ⟨n,x,h3⟩:=hcs f (by simp)
    obtain ⟨h4,a,h5,h6⟩:=hf.at_ _ _ _ h3
    obtain ⟨b,h7,h8⟩:=h2 cs (fun f hf=>hcs f (by simp [hf]))
    refine ⟨(a,b),?_,h6,h8⟩
    rw [hf.cells] at h4 h5
    subst ho
    have hl:=hf.len a
    rw [A3z] at h5 h7 ⊢
    intro j c hc
    dsimp only at hc
    rw [List.getElem?_append] at hc
    split at hc
    · rename_i hj
      obtain ⟨v,hv,hd⟩:=h5 j c hc
      refine ⟨v,?_,hd⟩
      rw [List.getElem?_take,if_pos (by omega)] at hv
      exact hv
    · rename_i hj
      obtain ⟨v,hv,hd⟩:=h7 _ c hc
      refine ⟨v,?_,hd⟩
      rw [List.getElem?_drop] at hv ⊢
      rw [← hv]
      congr 1
      omega

theorem Opn.struct {t:TypeId} {sz:Nat} {fs:Array Field} {α:Type} {en:α → List AV} {good:α → Prop} (ht:P.underlying t=some (.struct fs)) (hl:OpnL ec P w spare held 0 fs.toList α en good) (hc:P.cellsOf t=sz) (hlen:∀ a,(en a).length=sz):Opn ec P w spare held t sz en good:=by
  refine ⟨hc,hlen,fun fuel cs x h=>?_⟩
  obtain ⟨xs,n,_,_,h1,h2,h3⟩:=DataW.trod_struct ht h
  obtain ⟨total,_,h4⟩:=hl.at_
  obtain ⟨a,h5,h6⟩:=h4 cs fun f hf=>by
    obtain ⟨i,hi⟩:=List.getElem?_of_mem hf
    have h7:=h3 i f (by simpa using hi)
    have hlt:i < xs.length:=by
      have:=(List.getElem?_eq_some_iff.1 hi).1
      simp at this
      omega
    rw [List.getElem?_eq_getElem hlt] at h7
    exact ⟨n,_,h7⟩
  exact ⟨h1.trans hc,a,by simpa using h5,h6⟩

theorem Opn.cell {t:TypeId} {α:Type} {en:α → List AV} {good:α → Prop} (o:Opn ec P w spare held t 1 en good) {v:Value} {d:DataW H} {ps:List MemPlace} (h:DataW.Trod ec P w 0 spare held t v d ps) (hv:∀ cs,v ≠ .agg cs):∃ a,DenP (C0 w) (en a) [v] ∧ good a:=by
  obtain ⟨n,hn⟩:=h
  obtain ⟨_,a,h1,h2⟩:=o.at_ _ _ _ hn
  have:v.cells.toList=[v]:=by cases v<;>first|rfl|exact absurd rfl (hv _)
  rw [this] at h1
  exact ⟨a,h1,h2⟩

theorem Opn.agg {t:TypeId} {sz:Nat} {α:Type} {en:α → List AV} {good:α → Prop} (o:Opn ec P w spare held t sz en good) {cs:Array Value} {d:DataW H} {ps:List MemPlace} (h:DataW.Trod ec P w 0 spare held t (.agg cs) d ps):∃ a,Den (C0 w) (.agg (en a)) (.agg cs) ∧ good a:=by
  obtain ⟨n,hn⟩:=h
  obtain ⟨hl,a,h1,h2⟩:=o.at_ _ _ _ hn
  refine ⟨a,?_,h2⟩
  simp only [Den]
  exact ⟨cs,rfl,by rw [o.len];simpa [Value.cells] using hl,h1⟩

theorem denP_mk {C:Ctx} {a:AV} {v:Value} {az:List AV} {vs:List Value} (h:Den C a v) (hr:DenP C az vs):DenP C (a :: az) (v :: vs):=by
  simp only [DenP];exact ⟨h,hr⟩
theorem denP_mk0 {C:Ctx} {vs:List Value}:DenP C [] vs:=by simp [DenP]

theorem den_of_cell {C:Ctx} {a:AV} {v:Value} (h:DenP C [a] [v]):Den C a v:=by
  simp only [DenP] at h;exact h.1

def enU (n:Int):List AV:=[.int .u8 n]
def goodU (n:Int):Prop:=0 ≤ n ∧ n ≤ 255
theorem Opn.u8 {t:TypeId} (ht:P.underlying t=some (.int .u8)) (hc:P.cellsOf t=1):Opn ec P w spare held t 1 enU goodU:=by
  refine ⟨hc,fun _=>rfl,fun fuel cs x h=>?_⟩
  obtain ⟨n,rfl,_,hw⟩:=DataW.trod_int ht h
  refine ⟨rfl,n,by simp [enU,DenP,Den],?_⟩
  simpa [goodU,Lit.wf,IntKind.min,IntKind.max,IntKind.signed,IntKind.bits] using hw
theorem flat_u8 (l:List Int):l.flatMap enU=l.map (AV.int .u8):=by
  induction l with
  | nil=>rfl
  | cons x r ih=>simp [List.flatMap_cons,enU,ih]
theorem flat_ints (l:List Int):l.flatMap enI=l.map (AV.int .i64):=by
  induction l with
  | nil=>rfl
  | cons x r ih=>simp [List.flatMap_cons,enI,ih]
end Vw
set_option linter.unusedSectionVars false
set_option linter.unusedVariables false
set_option linter.unusedSimpArgs false
namespace Vw
open Go
variable [Inhabited GlobT]

theorem litA_eq (d:Option Nat) (op:AOp) (g:Option (Nat × Bool)) (a:List Nat):litA ⟨d,op,g,a⟩=⟨d,litOp op,g,a⟩:=rfl
theorem litOp_bslice (sz:Nat) (zs:List Value) (ps:List (Nat × Operand)) (n:Nat):litOp (.bslice sz zs ps n)=if n=0 then .bslice sz zs ps n else .blit sz zs ps n:=rfl
theorem litOp_mv (x:Operand):litOp (.mv x)=.mv x:=rfl
theorem litOp_pick (c a b:Operand):litOp (.pick c a b)=.pick c a b:=rfl
theorem litOp_alloc (zs:List Value):litOp (.alloc zs)=.alloc zs:=rfl
theorem litOp_box (x:Operand):litOp (.box x)=.box x:=rfl
theorem litOp_mkfn (fn:Fn) (us vs:List Operand):litOp (.mkfn fn us vs)=.mkfn fn us vs:=rfl
theorem litOp_build (zs:List Value) (ps:List (Nat × Nat × Operand)):litOp (.build zs ps)=.build zs ps:=rfl
theorem litOp_load (agg:Bool) (sz:Nat) (x:Operand):litOp (.load agg sz x)=.load agg sz x:=rfl
theorem litOp_store (sz:Nat) (x v:Operand):litOp (.store sz x v)=.store sz x v:=rfl
theorem litOp_bin (op:BinOp) (x y:Operand):litOp (.bin op x y)=.bin op x y:=rfl
theorem litOp_binB (op:BinOp) (x y:Operand):litOp (.binB op x y)=.binB op x y:=rfl
theorem litOp_un (op:UnOp) (x:Operand):litOp (.un op x)=.un op x:=rfl
theorem litOp_conv (k:IntKind) (x:Operand):litOp (.conv k x)=.conv k x:=rfl
theorem litOp_nilck (x:Operand):litOp (.nilck x)=.nilck x:=rfl
theorem Haz (sz:Nat) (zs:List Value) (l c:Operand):litOp (.mkslice sz zs l c)=.mkslice sz zs l c:=rfl
theorem litOp_slice (sz:Nat) (x:Operand) (lo hi:Option Operand):litOp (.slice sz x lo hi)=.slice sz x lo hi:=rfl
theorem litOp_sliceS (x:Operand) (lo hi:Option Operand):litOp (.sliceS x lo hi)=.sliceS x lo hi:=rfl
theorem litOp_fld (off:Nat) (x:Operand):litOp (.fld off x)=.fld off x:=rfl
theorem litOp_fldv (agg:Bool) (off sz:Nat) (x:Operand):litOp (.fldv agg off sz x)=.fldv agg off sz x:=rfl
theorem litOp_idxA (sz:Nat) (x i:Operand):litOp (.idxA sz x i)=.idxA sz x i:=rfl
theorem litOp_idxP (sz n:Nat) (x i:Operand):litOp (.idxP sz n x i)=.idxP sz n x i:=rfl
theorem litOp_idxS (x i:Operand):litOp (.idxS x i)=.idxS x i:=rfl
theorem Hbz (x:Operand) (i:Nat):litOp (.extract x i)=.extract x i:=rfl
theorem litOp_len (x:Operand):litOp (.len x)=.len x:=rfl
theorem litOp_lenS (x:Operand):litOp (.lenS x)=.lenS x:=rfl
theorem litOp_append (sz:Nat) (x y:Operand):litOp (.append sz x y)=.append sz x y:=rfl
theorem litOp_slice3 (sz:Nat) (x:Operand) (lo:Option Operand) (hi mx:Operand):litOp (.slice3 sz x lo hi mx)=.slice3 sz x lo hi mx:=rfl
theorem litOp_clr (sz:Nat) (zs:List Value) (x:Operand):litOp (.clr sz zs x)=.clr sz zs x:=rfl
theorem litOp_cpy (sz:Nat) (x y:Operand):litOp (.cpy sz x y)=.cpy sz x y:=rfl
theorem litOp_minmax (mx:Bool) (x y:Operand):litOp (.minmax mx x y)=.minmax mx x y:=rfl
theorem litOp_eqS (neg:Bool) (l:List (Nat × Option IntKind)) (x y:Operand):litOp (.eqS neg l x y)=.eqS neg l x y:=rfl
theorem litOp_sliceP (sz n:Nat) (x:Operand) (lo hi:Option Operand):litOp (.sliceP sz n x lo hi)=.sliceP sz n x lo hi:=rfl
theorem litOp_isnil (neg:Bool) (x:Operand):litOp (.isnil neg x)=.isnil neg x:=rfl
theorem litOp_call (f:Nat) (args:List Operand):litOp (.call f args)=.call f args:=rfl

def dropK (id:Nat):List (Nat × List AV) → List (Nat × List AV)
  | []=>[]
  | p :: r=>if p.1=id then dropK id r else p :: dropK id r
theorem dropK_nil (id:Nat):dropK id []=[]:=rfl
theorem dropK_cons (id i:Nat) (cs:List AV) (r:List (Nat × List AV)):dropK id ((i,cs) :: r)=if i=id then dropK id r else (i,cs) :: dropK id r:=rfl
section
variable {P:Program} {pin:Nat} {σ:List (Nat × AV)} {H HF:List (Nat × List AV)} {Z:List Nat} {K:S → Prop}

theorem qSeq_blit (sz:Nat) (zs:List Value) (ps:List (Nat × Operand)) (n:Nat) (dst:Option Nat) (af:List Nat) (r:List AOper):qSeq P pin (hk HF) Z (⟨dst,.blit sz zs ps n,none,af⟩ :: r) K (mkS σ H)=bindX P pin HF Z K (isMk Z dst) (.blit sz zs ps n) dst r σ H:=Awz _ _ _ _ (fun _ _ h=>by cases h) rfl
theorem arun_blit {s:S} {d:Nat} (sz:Nat) (zs:List Value) (ps:List (Nat × Operand)) (n:Nat):arun s pin d (.blit sz zs ps n) =
    withO (fillR (zcells (zs.map ofCell) n) (ps.map fun p=>(p.1 * sz,sz,s.ev p.2))) fun cs=>some (.rows true cs n,none):=by
  simp only [arun,withO]
  cases fillR (zcells (zs.map ofCell) n) (ps.map fun p=>(p.1 * sz,sz,s.ev p.2))<;>rfl

def qcallI (P:Program) (pin:Nat) (HF:List (Nat × List AV)) (Z:List Nat) (f:Nat) (ids:List Nat) (sh:Bool) (cargs:List AV) (dst:Option Nat) (r:List AOper) (K:S → Prop) (σ:List (Nat × AV)) (H:List (Nat × List AV)):Prop :=
  ∀ args:List Operand,args.map (fun x=>((mkS σ H).ev x).down ids sh (hk HF))=cargs → qCall P pin (hk HF) Z f args dst r K (mkS σ H)
theorem qcallI_of {f:Nat} {args:List Operand} {dst:Option Nat} {r:List AOper} (ids:List Nat) (sh:Bool) (h:qcallI P pin HF Z f ids sh (args.map fun x=>((mkS σ H).ev x).down ids sh (hk HF)) dst r K σ H):qCall P pin (hk HF) Z f args dst r K (mkS σ H):=h args rfl
theorem Bhz {f d id:Nat} {sh:Bool} {cargs h0:List AV} {Q:AV → List (List AV) → Prop} {r:List AOper} (hc:BCall P f cargs [h0] Q) (hH:(hk H id).map (List.map (AV.down [id] sh (hk HF)))=some h0) (hz:id ∈ Z ∧ isNw Z id=false) (hne:∃ v H',Q v H')
    (hK:∀ res H',Q res H' → (lenOk [h0] H' ∧ H'.length - 1 ≤ 16 ∧ freshD H d ∧ pin ≤ 16 * d ∧ ∀ z ∈ Z,¬ z / 16=d) ∧ qSeq P pin (hk HF) Z r K (after [id] sh 1 (some d) res H' (mkS σ H))):qcallI P pin HF Z f [id] sh cargs (some d) r K σ H:=by
  intro args ha
  obtain ⟨v,H',hq⟩:=hne
  have h1:=(hK v H' hq).1
  cases hc0:hk H id with
  | none=>rw [hc0] at hH;cases hH
  | some c0 =>
    rw [hc0] at hH
    exact qcall1 id sh hc ha hc0 (by simpa using hH) hz h1.2.2 ⟨v,H',hq⟩ fun res H'' hq'=>⟨(hK res H'' hq').1.1,(hK res H'' hq').1.2.1,(hK res H'' hq').2⟩

end
attribute [push_cast] litA_eq litOp_bslice litOp_mv litOp_pick litOp_alloc litOp_box litOp_mkfn litOp_build litOp_load litOp_store litOp_bin litOp_binB litOp_un litOp_conv litOp_nilck Haz litOp_slice litOp_sliceS litOp_fld litOp_fldv litOp_idxA litOp_idxP litOp_idxS Hbz litOp_len litOp_lenS litOp_append litOp_slice3 litOp_clr litOp_cpy litOp_minmax litOp_eqS litOp_sliceP litOp_isnil litOp_call dropK_nil dropK_cons qSeq_blit arun_blit
end Vw
set_option linter.unusedSectionVars false
namespace Vw
open Go
variable [Inhabited GlobT]
structure Later (p:Prop):Prop where
  get:p
section
variable {P:Program} {pin:Nat}
end
end Vw
set_option linter.unusedSectionVars false
set_option linter.unusedVariables false
set_option linter.unusedSimpArgs false
namespace Vw
open Go
variable [Inhabited GlobT]

def swp (a b i:Nat):Nat:=if i=a then b else if i=b then a else i
theorem C1z (a b i:Nat):swp a b (swp a b i)=i:=by
  unfold swp
  by_cases h1:i=a<;>by_cases h2:i=b<;>by_cases h3:b=a<;>simp_all
theorem swp_inj {a b i j:Nat} (h:swp a b i=swp a b j):i=j:=by rw [← C1z a b i,h,C1z]

mutual
def AV.sw (a b:Nat):AV → AV
  | .ref id len off=>.ref (swp a b id) len off
  | .own id n sz=>.own (swp a b id) n sz
  | .osl id len off n sz c=>.osl (swp a b id) len off n sz c
  | .agg cs=>.agg (swL a b cs)
  | .tup cs=>.tup (swL a b cs)
  | .rows fr cs n=>.rows fr (swL a b cs) n
  | .prow fr cs off=>.prow fr (swL a b cs) off
  | .sref k id=>.sref k (swp a b id)
  | .clo fn az cs=>.clo fn (swL a b az) (swL a b cs)
  | .ifc t c=>.ifc t (c.sw a b)
  | .sp ids f=>.sp (ids.map (swp a b)) f
  | x=>x
def swL (a b:Nat):List AV → List AV
  | []=>[]
  | c :: r=>c.sw a b :: swL a b r
end
theorem Bdz (a b:Nat):∀ cs:List AV,(swL a b cs).length=cs.length
  | []=>rfl
  | c :: r=>by simp [swL,Bdz a b r]
theorem sw_isSp (a b:Nat) (x:AV):(x.sw a b).isSp=x.isSp:=by cases x<;>rfl
theorem Elz (a b:Nat):∀ cs:List AV,spL (swL a b cs)=spL cs
  | []=>rfl
  | c :: r=>by
    have:=Elz a b r
    simp only [spL] at this
    simp [spL,swL,sw_isSp,this]
def Ctx.sw (a b:Nat) (C:Ctx):Ctx:=⟨C.w,fun i=>C.M (swp a b i),fun i=>(C.H (swp a b i)).map (swL a b),C.A,C.B⟩

mutual
theorem Den.sw {a b:Nat} {C:Ctx}:∀ {x:AV} {v:Value},Den C x v → Den (C.sw a b) (x.sw a b) v
  | .unk,_,_=>by simp [Den,AV.sw]
  | .und,_,h=>by simpa [Den,AV.sw] using h
  | .int ..,_,h=>by simpa [Den,AV.sw] using h
  | .bool _,_,h=>by simpa [Den,AV.sw] using h
  | .str _,_,h=>by simpa [Den,AV.sw] using h
  | .val _,_,h=>by simpa [Den,AV.sw] using h
  | .agg cs,_,h=>by
    simp only [Den,AV.sw] at *
    obtain ⟨vs,h1,h2,h3⟩:=h
    exact ⟨vs,h1,by rw [Bdz];exact h2,DenP.sw h3⟩
  | .tup cs,_,h=>by
    simp only [Den,AV.sw] at *
    obtain ⟨vs,h1,h2,h3⟩:=h
    exact ⟨vs,h1,by rw [Bdz];exact h2,DenP.sw h3⟩
  | .rows fr cs n,_,h=>by
    simp only [Den,AV.sw] at *
    rcases h with ⟨h1,h2,h3⟩|⟨g,o,cap,cur,e,fz,h1,h2,h3,h4,h5⟩
    · exact .inl ⟨h1,by rw [h2];rfl,h3⟩
    · exact .inr ⟨g,o,cap,cur,e,fz,h1,h2,⟨fun id hc=>h3.1 (swp a b id) hc,h3.2.1,h3.2.2⟩,h4,DenP.sw h5⟩
  | .prow fr cs off,_,h=>by
    simp only [Den,AV.sw] at *
    obtain ⟨g,o,cur,e,fz,h1,h2,h3,h5⟩:=h
    exact ⟨g,o,cur,e,fz,h1,h2,⟨fun id hc=>h3.1 (swp a b id) hc,h3.2.1,h3.2.2⟩,DenP.sw h5⟩
  | .ref id len off,_,h=>by
    simp only [Den,AV.sw,Ctx.sw,C1z] at *
    obtain ⟨h0,cs,h1,h2,hs,h3⟩:=h
    exact ⟨h0,_,by rw [h1];rfl,by rw [Bdz];exact h2,(Elz a b _).trans hs,fun he=>h3 (by rw [Bdz] at he;exact he)⟩
  | .own id n sz,_,h=>by
    simp only [Den,AV.sw,Ctx.sw,C1z] at *
    obtain ⟨h0,cs,h1,h2,hs,h3⟩:=h
    exact ⟨h0,_,by rw [h1];rfl,by rw [Bdz];exact h2,(Elz a b _).trans hs,fun he=>h3 (by rw [Bdz] at he;exact he)⟩
  | .osl id len off n sz c,_,h=>by
    simp only [Den,AV.sw,Ctx.sw,C1z] at *
    obtain ⟨h0,cs,h1,h2,h4,hs,h3⟩:=h
    exact ⟨h0,_,by rw [h1];rfl,by rw [Bdz];exact h2,h4,(Elz a b _).trans hs,fun he=>h3 (by rw [Bdz] at he;exact he)⟩
  | .sref k id,_,h=>by
    simp only [Den,AV.sw,Ctx.sw,C1z] at *
    obtain ⟨h0,cs,h1,h3⟩:=h
    exact ⟨h0,_,by rw [h1];rfl,fun he=>h3 ((Elz a b _).symm.trans he)⟩
  | .clo fn az cs,_,h=>by
    simp only [Den,AV.sw] at *
    obtain ⟨us,vs,h1,h2,h3,h4,h5⟩:=h
    exact ⟨us,vs,h1,by rw [Bdz];exact h2,by rw [Bdz];exact h3,DenP.sw h4,DenP.sw h5⟩
  | .ifc t c,_,h=>by
    simp only [Den,AV.sw] at *
    obtain ⟨u,h1,h2⟩:=h
    exact ⟨u,h1,Den.sw h2⟩
  | .sp ..,_,h=>by simp [Den] at h
theorem DenP.sw {a b:Nat} {C:Ctx}:∀ {cs:List AV} {vs:List Value},DenP C cs vs → DenP (C.sw a b) (swL a b cs) vs
  | [],_,_=>by simp [DenP,swL]
  | _ :: _,[],h=>by simp [DenP] at h
  | _ :: _,_ :: _,h=>by
    simp only [DenP,swL] at *
    exact ⟨Den.sw h.1,DenP.sw h.2⟩
end

def S.sw (a b:Nat) (s:S):S:=⟨fun t=>(s.σ t).sw a b,fun i=>(s.H (swp a b i)).map (swL a b)⟩

theorem swp_low {a b p i:Nat} (ha:p ≤ a) (hb:p ≤ b) (hi:i < p):swp a b i=i:=by
  unfold swp
  rw [if_neg (by omega),if_neg (by omega)]
theorem swp_high {a b p i:Nat} (ha:p ≤ a) (hb:p ≤ b) (hi:p ≤ i):p ≤ swp a b i:=by
  unfold swp
  split
  · exact hb
  · split
    · exact ha
    · exact hi

theorem St.sw {E:Env} {M:Nat → Option Nat} {s:S} {x:Act} {w:World} (h:St E M s x w) {a b:Nat} (ha:E.pin ≤ a) (hb:E.pin ≤ b):St E (fun i=>M (swp a b i)) (s.sw a b) x w:=by
  have hC:E.C (fun i=>M (swp a b i)) (s.sw a b).H w=(E.C M s.H w).sw a b:=rfl
  refine ⟨h.defers.less (fun id g hg=>⟨_,hg⟩),h.size,fun t=>?_,⟨fun id cs hc=>?_,fun id hn=>?_,fun i j g hi hj=>?_⟩,⟨h.old.os,h.old.tape,h.old.output,h.old.size,h.old.block,fun id hi=>?_,fun id g hi hg=>h.old.new (swp a b id) g (swp_high ha hb hi) hg,h.old.psize,h.old.pkind⟩⟩
  · rw [hC];exact (h.slots t).sw
  · have hc':(s.H (swp a b id)).map (swL a b)=some cs:=hc
    cases hq:s.H (swp a b id) with
    | none=>rw [hq] at hc';cases hc'
    | some cs0 =>
      rw [hq] at hc'
      simp only [Option.map_some,Option.some.injEq] at hc'
      subst hc'
      rcases h.hok.hasX (swp a b id) cs0 hq with (⟨h1,h2⟩|⟨g,cur,e,h1,h2,h3⟩)|⟨g,is,f,o,he,h1,h2,h3,h4⟩
      · exact .inl (.inl ⟨h1,by rw [h2];rfl⟩)
      · exact .inl (.inr ⟨g,cur,e,h1,h2,by rw [hC];exact h3.sw⟩)
      · subst he
        refine .inr ⟨g,is.map (swp a b),f,o,rfl,h1,h2,h3,fun f0 hf=>?_⟩
        obtain ⟨⟨gs,h5,h6⟩,h7⟩:=h4 f0 hf
        refine ⟨⟨gs,?_,h6⟩,fun j hj=>?_⟩
        · rw [List.map_map]
          refine (Cdz fun j _=>?_).trans h5
          show M (swp a b (swp a b j))=M j
          rw [C1z]
        · obtain ⟨i,hi,rfl⟩:=List.mem_map.1 hj
          obtain ⟨cs',h8,h9⟩:=h7 i hi
          refine ⟨swL a b cs',?_,(Elz a b _).trans h9⟩
          show (s.H (swp a b (swp a b i))).map (swL a b)=_
          have h8':s.H i=some cs':=h8
          rw [C1z,h8'];rfl
  · have hn':(s.H (swp a b id)).map (swL a b)=none:=hn
    have hn2:s.H (swp a b id)=none:=by
      cases hq:s.H (swp a b id) with
      | none=>rfl
      | some cs=>rw [hq] at hn';cases hn'
    exact h.hok.no (swp a b id) hn2
  · exact swp_inj (h.hok.inj _ _ g hi hj)
  · show M (swp a b id)=_
    rw [swp_low ha hb hi]
    exact h.old.pinned id hi

def SubW (pin:Nat) (s s':S):Prop:=∀ E M x w,E.pin=pin → St E M s x w → ∃ M',St E M' s' x w
theorem SubW.of {pin:Nat} {s s':S} (h:Sub pin s s'):SubW pin s s':=fun E M x w hp hst=>by subst hp;exact hst.sub h
theorem SubW.sw {pin:Nat} {s s':S} (a b:Nat) (ha:pin ≤ a) (hb:pin ≤ b) (h:SubW pin (s.sw a b) s'):SubW pin s s':=fun E M x w hp hst=>by
  subst hp
  exact h E _ x w rfl (hst.sw ha hb)

section
variable {P:Program} {pin:Nat} {Q:Exit → S → Prop} {s:S}
theorem awp_subW {c:ACode} {s':S} (hs:SubW pin s s') (h:awp P pin c Q s'):awp P pin c Q s:=by
  intro E M a w cc hp hl hst
  obtain ⟨M',hst'⟩:=hs E M a w hp hst
  exact h E M' a w cc hp hl hst'

theorem F6z {b:ACode} {κ:Type} (I:κ → S) (Pre:κ → Prop) (μ:κ → Nat) (x0:κ) (h0:Pre x0) (hs:SubW pin s (I x0))
    (round:∀ x,Pre x → awp P pin b (athen (fun s'=>∃ x',Pre x' ∧ μ x' < μ x ∧ SubW pin s' (I x')) Q) (I x)):awp P pin (.loop b) Q s:=by
  refine awp_subW hs ?_
  intro E M a w cc hp hl hst
  subst hp
  cases cc<;>simp only [lowCode] at hl<;>first
    | (exfalso;first|(simp at hl;done)|((repeat' (split at hl))<;>simp at hl;done)|(simp only [Option.map_eq_some_iff] at hl;obtain ⟨_,_,hl⟩:=hl;(try split at hl)<;>simp at hl;done))
    | skip
  simp only [Option.map_eq_some_iff] at hl
  obtain ⟨l,hl1,hl2⟩:=hl
  simp only [ACode.loop.injEq] at hl2
  subst hl2
  refine C0z (fun n a w=>∃ x M,Pre x ∧ μ x=n ∧ St E M (I x) a w) (μ x0) ⟨x0,M,h0,rfl,hst⟩ ?_
  rintro n a w ⟨x,M,hx,hn,hst⟩
  refine Go.wpIn_mono (round x hx E M a w _ rfl hl1 hst) fun e a' w' ⟨M',s',h1,h2⟩=>?_
  cases e with
  | normal =>
    obtain ⟨x',hx',hlt,hsub⟩:=h2
    obtain ⟨M'',hst''⟩:=hsub E M' a' w' rfl h1
    exact ⟨μ x',by omega,x',M'',hx',rfl,hst''⟩
  | _=>exact ⟨M',s',h1,h2⟩

end
end Vw
set_option linter.unusedSectionVars false
set_option linter.unusedVariables false
set_option linter.unusedSimpArgs false
namespace Vw
open Go
variable [Inhabited GlobT]

section
variable {P:Program} {pin:Nat} {K:S → Prop} {s:S}

theorem Ckz {op:Op} {dst:Option Nat} {v':AV} {u:Option (Nat × List AV)} (h:∀ E M a w (o:Oper),E.pin=pin → o.op=op → o.dst=dst → St E M s a w → Owed P E M s a w o (v',u)) (hk:K (s.put dst v' u)):rawOwed P pin op dst K s:=by
  intro E M a w o K' Q hp hd ho hdst hst hK
  obtain ⟨M',w',v,ht,hrun,hden⟩:=h E M a w o hp ho hdst hst
  subst hdst
  have h2:=hst.put (dst:=o.dst) hd ht hden
  rcases hrun with hrun|⟨hrun,rfl⟩
  · exact E2z hrun (hK M' _ _ _ h2 hk)
  · exact Gvz hrun (hK M' _ _ _ h2 hk)

theorem raw_capnil {x:Operand} {t e:TypeId} {dst:Option Nat} (hu:P.underlying t=some (.slice e)) (hx:s.ev x=.val (.slice none 0 0)) (hk:K (s.put dst (.int .i64 0) none)) :
    rawOwed P pin (.call ⟨.builtin .cap,#[x],#[t]⟩) dst K s:=by
  refine Ckz (fun E M a w o hp ho hd h=>?_) hk
  have hv:=h.ev x
  rw [hx] at hv
  simp only [Den] at hv
  refine Arz h (v:=.int .i64 0) ?_ (by simp [Den])
  simp [execOp,ho,resolve,invoke,builtin,Builtin.cap_,run_underlying hu,hv,goInt]

theorem raw_appz {x y:Operand} {t tn e:TypeId} {i:TypeInfo} {z:Value} {kn:IntKind} {n:Int} {d:Nat} (hu:P.underlying t=some (.slice e)) (htn:P.underlying tn=some (.int kn)) (hi:P.info? e=some i) (hz:i.zero=some z)
    (hz1:z.cells.size=i.size ∧ 0 < i.size ∧ i.bytes ≤ 128) (hx:s.ev x=.val (.slice none 0 0)) (hy:s.ev y=.int .i64 n) (hn:0 < n ∧ n ≤ 1099511627776) (hfr:s.H (16 * d)=none ∧ pin ≤ 16 * d)
    (hk:K (s.put (some d) (.own (16 * d) n.toNat i.size) (some (16 * d,zcells (z.cells.toList.map ofCell) n.toNat)))) :
    rawOwed P pin (.call ⟨.builtin .append,#[x,y],#[t,tn]⟩) (some d) K s:=by
  refine Ckz (fun E M a w o hp ho hd h=>?_) hk
  obtain ⟨hzs,hz2,hz3⟩:=hz1
  obtain ⟨m,rfl⟩:∃ m:Nat,n=m:=⟨n.toNat,by omega⟩
  rw [Int.toNat_natCast]
  have hv:=h.ev x
  rw [hx] at hv
  have hw:=h.ev y
  rw [hy] at hw
  simp only [Den] at hv hw
  have hb:m * i.bytes ≤ 281474976710656:=by
    have:m * i.bytes ≤ 1099511627776 * 128:=Nat.mul_le_mul (by omega) hz3
    omega
  have hexec:∀ v w',(Builtin.append_ #[t,tn] o.type #[a.eval x,a.eval y]).run P w=.ok v w' → (execOp a.eval o).run P w=.ok (.value v) w':=by
    intro v w' hv
    simp [execOp,ho,resolve,invoke,builtin,hv]
  have hrun:=Lib.run_append_nil_zeros w t tn o.type e i z .i64 kn hu htn hi hz m (by omega) hz2 (by omega) hb
  have hge:=grownCap_ge w m 0 e
  have hcap:=grownCap_le_maxLen w m 0 e (by simp only [maxLen];omega)
  have hex:(execOp a.eval o).run P w=.ok (.value (.slice (some ⟨w.heap.size,0,none⟩) m (grownCap w m 0 e))) (w.drew.alloc (.cells (Builtin.zeroCells z.cells m ++ Builtin.zeroCells z.cells (grownCap w m 0 e - m)) e)):=by
    rw [← hv,← hw] at hrun
    exact hexec _ _ hrun
  refine ⟨upd M (16 * d) (some w.heap.size),_,_,Tr.alloc (w':=w.drew.alloc (.cells (Builtin.zeroCells z.cells m ++ Builtin.zeroCells z.cells (grownCap w m 0 e - m)) e)) (vs:=Builtin.zeroCells z.cells m ++ Builtin.zeroCells z.cells (grownCap w m 0 e - m)) (e:=e) h.hok h.old hfr.1 (by rw [hp];exact hfr.2) ?_ rfl rfl rfl ?_,.inl hex,?_⟩
  · rfl
  · simp only [Array.toList_append]
    exact Dcz (Ejz _ z.cells m (by omega))
  · simp only [Den,updO]
    have hzl:z.cells.toList.length=i.size:=by simpa using hzs
    refine ⟨rfl,_,Auz _ _ _,by simp [zcells,hzl],A6z (Ejz (E.C M s.H w) z.cells m (by omega)),fun _=>.inr ⟨w.heap.size,_,_,e,Auz _ _ _,rfl,hge,hcap,heap_alloc_new w.drew _,?_⟩⟩
    simp only [Array.size_append,size_zeroCells,hzs,← Nat.add_mul]
    congr 1;omega

theorem raw_idxV {t e:TypeId} {len:Nat} {x i:Operand} {cs:List AV} {k:Int} {v:AV} {dst:Option Nat} (hu:P.underlying t=some (.array len e)) (hg:isAggB P e=some false) (hz:sizeAt P e=some 1)
    (hx:s.ev x=.agg cs) (hi:s.ev i=.int .i64 k) (hk1:0 ≤ k ∧ k < len) (hv:cs[k.toNat]?=some v) (hk:K (s.put dst v none)):rawOwed P pin (.index t x i) dst K s:=by
  refine Ckz (fun E M a w o hp ho hd h=>?_) hk
  have h1:=h.ev x
  rw [hx] at h1
  have h2:=h.ev i
  rw [hi] at h2
  simp only [Den] at h1 h2
  obtain ⟨vs,e1,e2,e3⟩:=h1
  obtain ⟨u,hu1,hu2⟩:=(A3z.1 e3) _ _ hv
  rw [Array.getElem?_toList] at hu1
  refine Arz h (v:=u) ?_ hu2
  simp [execOp,ho,Instr.index,run_underlying hu,h2,e1,asIntOf,hk1,run_size hz,part,Ccz hg,hu1]

def arrE (P:Program) (t:TypeId):Option Nat:=match P.underlying t with
  | some (.array len e)=>if isAggB P e=some false ∧ sizeAt P e=some 1 then some len else none
  | _=>none
theorem Bzz {t:TypeId} {len:Nat} {x i:Operand} {cs:List AV} {k:Int} {v:AV} {dst:Option Nat} (hu:arrE P t=some len)
    (hx:s.ev x=.agg cs) (hi:s.ev i=.int .i64 k) (hk1:0 ≤ k ∧ k < len) (hv:cs[k.toNat]?=some v) (hk:K (s.put dst v none)):rawOwed P pin (.index t x i) dst K s:=by
  unfold arrE at hu
  split at hu
  · rename_i l e h1
    split at hu
    · rename_i h2
      injection hu with hu
      subst hu
      exact raw_idxV h1 h2.1 h2.2 hx hi hk1 hv hk
    · cases hu
  · cases hu

def isSl (P:Program) (t:TypeId):Bool:=match P.underlying t with|some (.slice _)=>true|_=>false
def appzInfo (P:Program) (t tn:TypeId):Option (Nat × List Value) :=
  match P.underlying t,P.underlying tn with
  | some (.slice e),some (.int _)=>match P.info? e with
    | some i=>match i.zero with
      | some z=>if z.cells.size=i.size ∧ 0 < i.size ∧ i.bytes ≤ 128 then some (i.size,z.cells.toList) else none
      | none=>none
    | none=>none
  | _,_=>none
def hasBody (P : Program) (f : Nat) : Bool := match P.funcs[f]? with | some fn => fn.body.isSome && !(fn.name == "runtime.NumGoroutine") | none => false
theorem Blz {x:Operand} {t:TypeId} {dst:Option Nat} (hu:isSl P t=true) (hx:s.ev x=.val (.slice none 0 0)) (hk:K (s.put dst (.int .i64 0) none)) :
    rawOwed P pin (.call ⟨.builtin .cap,⟨[x]⟩,⟨[t]⟩⟩) dst K s:=by
  unfold isSl at hu
  split at hu
  · rename_i e he;exact raw_capnil he hx hk
  · cases hu
theorem A9z {x y:Operand} {t tn:TypeId} {n:Int} {d sz:Nat} {zs:List Value} (hi:appzInfo P t tn=some (sz,zs)) (hx:s.ev x=.val (.slice none 0 0)) (hy:s.ev y=.int .i64 n) (hn:0 < n ∧ n ≤ 1099511627776) (hfr:s.H (16 * d)=none ∧ pin ≤ 16 * d)
    (hk:K (s.put (some d) (.own (16 * d) n.toNat sz) (some (16 * d,zcells (zs.map ofCell) n.toNat)))) :
    rawOwed P pin (.call ⟨.builtin .append,⟨[x,y]⟩,⟨[t,tn]⟩⟩) (some d) K s:=by
  unfold appzInfo at hi
  split at hi
  · rename_i e kn h1 h2
    split at hi
    · rename_i i h3
      split at hi
      · rename_i z h4
        split at hi
        · rename_i h5
          simp only [Option.some.injEq,Prod.mk.injEq] at hi
          obtain ⟨rfl,rfl⟩:=hi
          exact raw_appz h1 h2 h3 h4 h5 hx hy hn hfr hk
        · cases hi
      · cases hi
    · cases hi
  · cases hi
theorem ev_func (f:FuncId):s.ev (.func f)=.val (.func (.func f) #[] #[]):=rfl
end
section
variable {P:Program} {pin:Nat} {K:S → Prop} {σ:List (Nat × AV)} {H:List (Nat × List AV)}

def AV.downN (H:Nat → Option (List AV)):AV → AV
  | .val v=>.val v
  | a=>a.down [] false H
theorem downN_val (H:Nat → Option (List AV)) (v:Value):AV.downN H (.val v)=.val v:=rfl
theorem downN_int (H:Nat → Option (List AV)) (k:IntKind) (n:Int):AV.downN H (.int k n)=.int k n:=rfl
def callDN (P:Program) (pin f:Nat) (cargs:List AV) (dst:Option Nat) (K:S → Prop) (σ:List (Nat × AV)) (H:List (Nat × List AV)):Prop :=
  ∀ args:List Operand,args.map (fun x=>((mkS σ H).ev x).downN (hk H))=cargs → callOwed P pin f args dst K (mkS σ H)
end
attribute [push_cast] downN_val downN_int ev_func
end Vw
set_option linter.unusedSectionVars false
set_option linter.unusedVariables false
set_option linter.unusedSimpArgs false
namespace Vw
open Go
variable [Inhabited GlobT]

abbrev ME:=Int × Int × Nat
def mEnt (p:ME):MapEntry:={ key:=.int .i64 p.1,val:=.int .i64 p.2.1,born:=p.2.2 }
def mapO (L:List ME) (c:Nat):Obj:=.map (L.map mEnt).toArray c
def mapC (L:List ME) (c:Nat):AV:=.sp [] (some fun _=>mapO L c)
def itC (mid c:Nat) (seen:List Nat):AV:=.sp [mid] (some fun gs=>.mapIter gs.head? c seen.toArray c)
def mget:List ME → Int → Int
  | [],_=>0
  | p :: r,k=>if p.1=k then p.2.1 else mget r k
def mhas:List ME → Int → Bool
  | [],_=>false
  | p :: r,k=>if p.1=k then true else mhas r k
def mmod:List ME → Int → Int → List ME
  | [],_,_=>[]
  | p :: r,k,v=>if p.1=k then (k,v,p.2.2) :: r else p :: mmod r k v
def mput (L:List ME) (c:Nat) (k v:Int):List ME:=if mhas L k then mmod L k v else L ++ [(k,v,c)]
def mclk (L:List ME) (c:Nat) (k:Int):Nat:=if mhas L k then c else c + 1
def isMapII (P:Program) (t:TypeId):Bool:=match P.underlying t with
  | some (.map k e)=>match P.underlying k,P.info? e with
    | some (.int .i64),some i=>match i.zero with
      | some (.int .i64 0)=>true
      | _=>false
    | _,_=>false
  | _=>false
theorem C6z {P:Program} {t:TypeId} (h:isMapII P t=true):∃ k e i,P.underlying t=some (.map k e) ∧ P.underlying k=some (.int .i64) ∧ P.info? e=some i ∧ i.zero=some (.int .i64 0):=by
  unfold isMapII at h
  split at h
  · rename_i k e h1
    split at h
    · rename_i i h2 h3
      split at h
      · rename_i h4;exact ⟨k,e,i,h1,h2,h3,h4⟩
      · cases h
    · cases h
  · cases h

theorem Frz (n:Int):MapKept.IsKey (.int .i64) (.int .i64 n):=by simp [MapKept.IsKey]

theorem find_ent (n:Int):∀ (L:List ME) (i:Nat),(mhas L n=false ∧ Instr.findNow (.int .i64) (.int .i64 n) (L.map mEnt) i=some none ∧ mget L n=0) ∨
    ∃ (j:Nat) (p:ME),mhas L n=true ∧ Instr.findNow (.int .i64) (.int .i64 n) (L.map mEnt) i=some (some (i + j,.int .i64 p.2.1)) ∧ L[j]?=some p ∧ p.1=n ∧ mget L n=p.2.1 ∧ ∀ v,mmod L n v=L.modify j fun q=>(n,v,q.2.2)
  | [],_=>.inl ⟨rfl,rfl,rfl⟩
  | p :: r,i=>by
    by_cases h:p.1=n
    · refine .inr ⟨0,p,by simp [mhas,h],?_,rfl,h,by simp [mget,h],fun v=>by simp [mmod,h]⟩
      simp [Instr.findNow,Instr.sameNow,mEnt,h]
    · have hne:(n == p.1)=false:=by simpa using fun e=>h e.symm
      have hs:Instr.sameNow (.int .i64) (.int .i64 n) (mEnt p).key=some false:=by simp [Instr.sameNow,mEnt,hne]
      rcases find_ent n r (i + 1) with ⟨h1,h2,h3⟩|⟨j,q,h1,h2,h3,h4,h5,h6⟩
      · exact .inl ⟨by simp [mhas,h,h1],by simp only [List.map_cons,Instr.findNow,hs];exact h2,by simp [mget,h,h3]⟩
      · refine .inr ⟨j + 1,q,by simp [mhas,h,h1],?_,by simpa using h3,h4,by simp [mget,h,h5],fun v=>by simp [mmod,h,h6 v]⟩
        simp only [List.map_cons,Instr.findNow,hs]
        rw [h2]
        congr 3;omega

section
variable {P:Program} {pin:Nat} {K:S → Prop} {s:S}

theorem map_at {E:Env} {M:Nat → Option Nat} {a:Act} {w:World} (h:St E M s a w) {x:Operand} {id:Nat} {L:List ME} {c:Nat} (hx:s.ev x=.sref 0 id) (hH:s.H id=some [mapC L c]) :
    ∃ g,a.eval x=.map (some g) ∧ M id=some g ∧ w.heap[g]?=some (mapO L c):=by
  have hv:=h.ev x
  rw [hx] at hv
  simp only [Den] at hv
  obtain ⟨_,cs,h1,h2⟩:=hv
  have h1':s.H id=some cs:=h1
  rw [hH] at h1'
  injection h1' with h1'
  subst h1'
  obtain ⟨g,hg,hv⟩:=h2 rfl
  obtain ⟨g',ids,f,o,he,k1,k2,k3,k4⟩:=HOK.sp h.hok hH rfl
  have:some g'=some g:=k1.symm.trans hg
  injection this with this
  subst this
  simp only [mapC,List.cons.injEq,AV.sp.injEq,and_true] at he
  obtain ⟨rfl,rfl⟩:=he
  obtain ⟨⟨gs,_,k5⟩,_⟩:=k4 _ rfl
  subst k5
  exact ⟨g',hv,hg,k2⟩

theorem Cmz {t:TypeId} {d:Nat} (hfr:s.H (16 * d)=none ∧ pin ≤ 16 * d) (hk:K (s.put (some d) (.sref 0 (16 * d)) (some (16 * d,[mapC [] 0])))):rawOwed P pin (.makeMap t none) (some d) K s:=by
  refine Ckz (fun E M a w o hp ho hd h=>?_) hk
  have hrun:(execOp a.eval o).run P w=.ok (.value (.map (some w.heap.size))) (w.alloc (.map #[] 0)):=by
    have:(Instr.makeMap t none).run P w=.ok (.map (some w.heap.size)) (w.alloc (.map #[] 0)):=rfl
    simp [execOp,ho,this]
  refine ⟨upd M (16 * d) (some w.heap.size),w.alloc (.map #[] 0),_,Tr.allocSp (w':=w.alloc (.map #[] 0)) (ids:=[]) (f:=fun _=>mapO [] 0) (gs:=[]) h.hok h.old hfr.1 (hp ▸ hfr.2) rfl rfl rfl rfl rfl rfl (fun i hi=>by cases hi),.inl hrun,?_⟩
  simp only [Den,updO]
  exact ⟨rfl,_,Auz _ _ _,fun _=>⟨_,Auz _ _ _,rfl⟩⟩

theorem Boz {t:TypeId} {x y:Operand} {id:Nat} {L:List ME} {c:Nat} {n:Int} {dst:Option Nat} (ht:isMapII P t=true) (hx:s.ev x=.sref 0 id) (hH:s.H id=some [mapC L c]) (hy:s.ev y=.int .i64 n)
    (hk:K (s.put dst (.int .i64 (mget L n)) none)):rawOwed P pin (.lookup t x y false) dst K s:=by
  refine Ckz (fun E M a w o hp ho hd h=>?_) hk
  obtain ⟨g,hv,hg,hh⟩:=map_at h hx hH
  have hw:=h.ev y
  rw [hy] at hw
  simp only [Den] at hw
  obtain ⟨k,e,i,t1,t2,t3,t4⟩:=C6z ht
  refine Arz h (v:=.int .i64 (mget L n)) ?_ (by simp [Den])
  have hz:(zeroValue e).run P w=.ok (.int .i64 0) w:=by simp [zeroValue,typeInfo,t3,t4]
  have hck:∀ b,(Instr.checkKey b 10000 k (.int .i64 n)).run P w=.ok () w:=fun b=>MapKept.run_checkKey t2 (Frz n) b 9999
  unfold mapO at hh
  rcases find_ent n L 0 with ⟨_,h1,h2⟩|⟨j,p,_,h1,h3,h4,h5,_⟩
  · have hf:=MapKept.run_findKey (P:=P) (w:=w) (kt:=k) t2 h1
    simp [execOp,ho,hv,hw,Instr.lookup,run_underlying t1,MapKept.run_getObj_map hh,hck,hf,hz,h2,Result.andThen]
  · have hf:=MapKept.run_findKey (P:=P) (w:=w) (kt:=k) t2 h1
    simp [execOp,ho,hv,hw,Instr.lookup,run_underlying t1,MapKept.run_getObj_map hh,hck,hf,h5,Result.andThen]

theorem map_set {E:Env} {M:Nat → Option Nat} {a:Act} {w:World} (h:St E M s a w) {id g:Nat} {L L':List ME} {c c':Nat} (hH:s.H id=some [mapC L c]) (hM:M id=some g) (hh:w.heap[g]?=some (mapO L c)) :
    Tr E M s.H w M (upd s.H id (some [mapC L' c'])) { w with heap:=w.heap.setIfInBounds g (mapO L' c') }:=by
  have hs:=MapKept.heap_set (o':=mapO L' c') hh
  exact Tr.setSp (w':={ w with heap:=w.heap.setIfInBounds g (mapO L' c') }) (ids:=[]) (f:=fun _=>mapO L' c') (gs:=[]) h.hok h.old hH rfl hM hs.1 (fun k hk=>hs.2 k hk) (by simp) rfl rfl rfl rfl rfl (fun i hi=>by cases hi)

theorem Clz {t:TypeId} {x y z:Operand} {id:Nat} {L:List ME} {c:Nat} {n v:Int} {dst:Option Nat} (ht:isMapII P t=true) (hx:s.ev x=.sref 0 id) (hH:s.H id=some [mapC L c]) (hy:s.ev y=.int .i64 n) (hz:s.ev z=.int .i64 v)
    (hk:K (s.put dst .und (some (id,[mapC (mput L c n v) (mclk L c n)])))):rawOwed P pin (.mapUpdate t x y z) dst K s:=by
  refine Ckz (fun E M a w o hp ho hd h=>?_) hk
  obtain ⟨g,hv,hg,hh⟩:=map_at h hx hH
  have hw:=h.ev y
  rw [hy] at hw
  have hz':=h.ev z
  rw [hz] at hz'
  simp only [Den] at hw hz'
  obtain ⟨k,e,i,t1,t2,t3,t4⟩:=C6z ht
  have hck:∀ b,(Instr.checkKey b 10000 k (.int .i64 n)).run P w=.ok () w:=fun b=>MapKept.run_checkKey t2 (Frz n) b 9999
  refine ⟨M,_,undef,map_set (L':=mput L c n v) (c':=mclk L c n) h hH hg hh,.inr ⟨?_,rfl⟩,by simp [Den]⟩
  unfold mapO at hh
  rcases find_ent n L 0 with ⟨h0,h1,h2⟩|⟨j,p,h0,h1,h3,h4,h5,h6⟩
  · have hf:=MapKept.run_findKey (P:=P) (w:=w) (kt:=k) t2 h1
    simp [execOp,ho,hv,hw,hz',Instr.mapUpdate,run_underlying t1,MapKept.run_getObj_map hh,hck,hf,MapKept.run_setObj_map _ hh,mput,mclk,h0,mapO,mEnt,Result.andThen]
  · have hf:=MapKept.run_findKey (P:=P) (w:=w) (kt:=k) t2 h1
    have hj:(L.map mEnt)[j]?=some (mEnt p):=by simp [h3]
    have hkey:(mEnt p).key=.int .i64 n:=by simp [mEnt,h4]
    have hmod:(L.map mEnt).modify j (fun e=>{ e with key:=.int .i64 n,val:=.int .i64 v })=(mmod L n v).map mEnt:=by
      rw [h6 v]
      apply List.ext_getElem?
      intro q
      rw [List.getElem?_modify,List.getElem?_map,List.getElem?_map,List.getElem?_modify]
      cases L[q]? with
      | none=>rfl
      | some x=>by_cases hq:j=q<;>simp [hq,mEnt]
    simp [execOp,ho,hv,hw,hz',Instr.mapUpdate,run_underlying t1,MapKept.run_getObj_map hh,hck,hf,h3,Function.comp,mEnt,h4,MapKept.run_keyThatStays (Frz n),MapKept.run_setObj_map _ hh,mput,mclk,h0,mapO,Result.andThen]
    rw [← hmod]

theorem B1z {t ty:TypeId} {x:Operand} {id:Nat} {L:List ME} {c:Nat} {dst:Option Nat} (ht:isMapII P t=true) (hx:s.ev x=.sref 0 id) (hH:s.H id=some [mapC L c])
    (hk:K (s.put dst (.tup []) (some (id,[mapC [] c])))):rawOwed P pin (.call ⟨.builtin .clear,#[x],#[t]⟩) dst K s:=by
  refine Ckz (fun E M a w o hp ho hd h=>?_) hk
  obtain ⟨g,hv,hg,hh⟩:=map_at h hx hH
  obtain ⟨k,e,i,t1,t2,t3,t4⟩:=C6z ht
  refine ⟨M,_,.tuple #[],map_set (L':=[]) (c':=c) h hH hg hh,.inl ?_,by simp only [Den];exact ⟨#[],rfl,rfl,by simp [DenP]⟩⟩
  unfold mapO at hh
  simp [execOp,ho,hv,resolve,invoke,builtin,Builtin.clear_,run_underlying t1,MapKept.run_getObj_map hh,MapKept.run_setObj_map _ hh,mapO,Result.andThen]

end

section
variable {P:Program} {pin:Nat} {K:S → Prop} {s:S}
def callAD (P:Program) (pin f:Nat) (ids:List Nat) (sh:Bool) (cargs:List AV) (dst:Option Nat) (K:S → Prop) (σ:List (Nat × AV)) (H:List (Nat × List AV)):Prop :=
  ∀ avs:List AV,avs.map (AV.down ids sh (hk H))=cargs → callOwedA P pin f avs dst K (mkS σ H)
end

section
variable {ρ:Nat → Option Nat} {Zh:Nat → Option (List AV)} {b0:Bool} {φ:Bool → Option Bool} {n:Nat}
def renS (k:Nat):Option Nat → AV
  | some i=>.sref k i
  | none=>.unk
theorem renS_some (k i:Nat):renS k (some i)=.sref k i:=rfl
theorem ren_sref (k id:Nat):AV.ren ρ Zh b0 φ (n + 1) (.sref k id)=renS k (ρ id):=by simp only [AV.ren,renS]<;>cases ρ id<;>rfl
theorem ren_clo (fn:Fn) (az cs:List AV):AV.ren ρ Zh b0 φ (n + 1) (.clo fn az cs)=.clo fn (az.map (AV.ren ρ Zh b0 φ n)) (cs.map (AV.ren ρ Zh b0 φ n)):=rfl
theorem isCell_clo (fn:Fn) (az cs:List AV):(AV.clo fn az cs).isCell=true:=rfl
theorem fixNil_clo (L:List (Nat × Nat)) (fn:Fn) (az cs:List AV):AV.fixNil L (.clo fn az cs)=(.clo fn az cs,L):=rfl
theorem ren_mapC (L:List ME) (c:Nat):AV.ren ρ Zh b0 φ (n + 1) (mapC L c)=mapC L c:=by simp [mapC,AV.ren]
theorem fixNil_sref (L:List (Nat × Nat)) (k id:Nat):AV.fixNil L (.sref k id)=(.sref k id,L):=rfl
theorem isCell_sref (k id:Nat):(AV.sref k id).isCell=true:=rfl
end
@[simp] theorem inn_mapC (p:Nat → Bool) (L:List ME) (c:Nat):(mapC L c).inn p=true:=rfl
@[simp] theorem inn_itC (p:Nat → Bool) (m c:Nat) (seen:List Nat):(itC m c seen).inn p=p m:=by simp [itC,AV.inn]
attribute [push_cast] ren_clo isCell_clo fixNil_clo renS_some ren_sref ren_mapC fixNil_sref isCell_sref

theorem zcells_three (a b c:AV):zcells [a,b,c] 1=[a,b,c]:=rfl
attribute [push_cast] zcells_three List.set_cons_zero List.set_cons_succ

def adA (id sz:Nat):AV → AV
  | .val (.slice none 0 0)=>.own id 0 sz
  | a=>a
def adL (T:List Nat) (id sz:Nat) (σ:List (Nat × AV)):List (Nat × AV):=σ.map fun p=>if T.contains p.1 then (p.1,adA id sz p.2) else p
theorem lk_adL (T:List Nat) (id sz:Nat):∀ (σ:List (Nat × AV)) (t:Nat),lk (adL T id sz σ) t=lk σ t ∨ lk (adL T id sz σ) t=adA id sz (lk σ t)
  | [],_=>.inl rfl
  | p :: r,t=>by
    have ih:=lk_adL T id sz r t
    simp only [adL,List.map_cons] at ih ⊢
    by_cases hc:T.contains p.1=true
    · rw [if_pos hc]
      simp only [lk]
      by_cases ht:t=p.1
      · rw [if_pos ht,if_pos ht];exact .inr rfl
      · rw [if_neg ht,if_neg ht];exact ih
    · rw [if_neg hc]
      simp only [lk]
      by_cases ht:t=p.1
      · rw [if_pos ht,if_pos ht];exact .inl rfl
      · rw [if_neg ht,if_neg ht];exact ih
theorem SubW.adopt {pin:Nat} {σ:List (Nat × AV)} {H:List (Nat × List AV)} {s':S} (T:List Nat) (id sz:Nat) (hid:hk H id=none) (h:SubW pin (mkS (adL T id sz σ) ((id,[]) :: H)) s'):SubW pin (mkS σ H) s':=fun E M x w hp hst=>by
  have tr:=Tr.adopt (E:=E) (M:=M) (H:=hk H) (w:=w) hst.hok hst.old hid
  refine h E M x w hp ⟨hst.defers.keeps tr.keeps,hst.size,fun t=>?_,by rw [show (mkS (adL T id sz σ) ((id,[]) :: H)).H=upd (hk H) id (some []) from (upd_hk H id []).symm];exact tr.hok,tr.old⟩
  have h0:=Den.keeps tr.keeps (hst.slots t)
  rw [show (mkS (adL T id sz σ) ((id,[]) :: H)).H=upd (hk H) id (some []) from (upd_hk H id []).symm]
  show Den _ (lk (adL T id sz σ) t) _
  rcases lk_adL T id sz σ t with e|e
  · rw [e];exact h0
  · rw [e]
    have h0':Den (E.C M (upd (hk H) id (some [])) w) (lk σ t) (x.tmps.getD t undef):=h0
    generalize lk σ t=v at h0'
    unfold adA
    split
    · simp only [Den] at h0'
      rw [h0']
      exact D2z (Auz _ _ _) (hst.hok.no id hid)
    · exact h0'
end Vw
set_option linter.unusedSectionVars false
set_option linter.unusedVariables false
namespace Vw
open Go Go.Shelf Go.Sort Go.Proofs
variable [Inhabited GlobT]

def sorted (xs:List Int):List Int:=xs.mergeSort fun x y=>decide (x ≤ y)
end Vw
set_option linter.unusedSectionVars false
set_option linter.unusedVariables false
namespace Vw
open Go
variable [Inhabited GlobT]

def rhoF (F:List Nat):Nat → Option Nat:=fun id=>if F.contains id then none else some id
def frzA (F:List Nat) (H:Nat → Option (List AV)):AV → AV
  | .val v=>.val v
  | a=>a.ren (rhoF F) H true some 5
def frzH (F:List Nat) (H:Nat → Option (List AV)):List (Nat × List AV) → List (Nat × List AV)
  | []=>[]
  | p :: r=>if F.contains p.1 then frzH F H r else (p.1,p.2.map (AV.ren (rhoF F) H true some 5)) :: frzH F H r

end Vw
namespace Vw
open Go
variable [Inhabited GlobT]
def adHL (T:List Nat) (id sz:Nat) (H:List (Nat × List AV)):List (Nat × List AV):=H.map fun p=>if T.contains p.1 then (p.1,p.2.map (adA id sz)) else p
theorem Den.adA {C:Ctx} {id sz:Nat} (h1:C.H id=some []) (h2:C.M id=none) {a:AV} {v:Value} (h:Den C a v):Den C (adA id sz a) v:=by
  unfold Vw.adA
  split
  · simp only [Den] at h
    rw [h]
    exact D2z h1 h2
  · exact h
theorem SubW.trans {pin:Nat} {s s1 s2:S} (h1:SubW pin s s1) (h2:SubW pin s1 s2):SubW pin s s2:=fun E M x w hp hst=>by
  obtain ⟨M',hst'⟩:=h1 E M x w hp hst
  exact h2 E M' x w hp hst'
theorem idxF_three (a b c d:Nat) (l:List Nat):idxF (a :: b :: c :: d :: l) 3=some d:=rfl
theorem idxF_four (a b c d e:Nat) (l:List Nat):idxF (a :: b :: c :: d :: e :: l) 4=some e:=rfl
theorem idxF_five (a b c d e f:Nat) (l:List Nat):idxF (a :: b :: c :: d :: e :: f :: l) 5=some f:=rfl
attribute [push_cast] idxF_three idxF_four idxF_five
theorem zcells_pair (a b:AV):zcells [a,b] 1=[a,b]:=rfl
attribute [push_cast] zcells_pair
end Vw
