/- Regions that draw their order: one walk in the order of the text serves every order. Their operations read a heap that is fixed when the region begins;some make new objects;calls (which keep their order) may write the objects of a list. -/
import Derived.Test.YtjmcjjbhkiebkaaDoorCW2
import Derived.Orders
import Derived.ChangeArms
import Derived.DataReads
import Derived.Lib.AppendZeros
import Derived.Maps.RangeRun
import Derived.ChangeMaps4
import Derived.Carry
import Derived.Shelf.Sort.Plain
import Derived.Shelf.Slices.In.SortNone
set_option linter.unusedSimpArgs false
set_option linter.unusedSectionVars false
set_option linter.unusedVariables false
namespace Vw
open Go
variable [Inhabited GlobT]

def AOp.operands:AOp→List Operand
 | .mv x|.box x|.load _ _ x|.un _ x|.conv _ x|.nilck x|.fld _ x|.fldv _ _ _ x|.extract x _|.len x|.lenS x|.isnil _ x=>[x]
 | .pick c a b=>[c,a,b]
 | .alloc _=>[]
 | .build _ ps=>ps.map (·.2.2)
 | .mkfn _ us vs=>us++vs
 | .bslice _ _ ps _=>ps.map (·.2)
 | .blit _ _ ps _=>ps.map (·.2)
 | .store _ x v|.bin _ x v|.binB _ x v|.mkslice _ _ x v|.idxA _ x v|.idxP _ _ x v|.idxS x v|.append _ x v|.minmax _ x v|.eqS _ _ x v=>[x,v]
 | .slice _ x lo hi|.sliceS x lo hi|.sliceP _ _ x lo hi=>x::(lo.toList++hi.toList)
 | .slice3 _ x lo hi mx=>x::hi::mx::lo.toList
 | .clr _ _ x=>[x]
 | .cpy _ x y=>[x,y]
 | .call _ l=>l
 | .raw _=>[]

def AOp.isCall:AOp→Bool
 | .call ..=>true
 | .raw ..=>true
 | .store ..=>true
 | .append ..=>true
 | .clr ..=>true
 | .cpy ..=>true
 | .bslice _ _ _ 0=>true
 | _=>false

def mkB:Nat:=1000000000
def isMk:List Nat→Option Nat→Bool
 | [],_=>false
 | _::_,none=>false
 | z::r,some d=>if z=mkB+d then true else isMk r (some d)

def isNw:List Nat→Nat→Bool
 | [],_=>false
 | z::r,id=>if z=2000000000+id then true else isNw r id
def AOper.isCl (o:AOper):Bool:=match o.op with|.call ..=>true|_=>false
def AOper.crt (Z:List Nat)(o:AOper):Bool:=match o.op,o.dst with
 | .alloc _,some d=>isNw Z (16*d)
 | .box _,some d=>isNw Z (16*d)
 | _,_=>false
def AOper.fr (Z:List Nat)(o:AOper)(id:Nat):Bool:=match o.op with
 | .call ..=>isNw Z id
 | .alloc _=>16*o.dst.getD 0 != id
 | .box _=>16*o.dst.getD 0 != id
 | _=>false
def AOper.sep (Z:List Nat)(x y:AOper):Bool:=(x.isCl&&y.crt Z) || (x.crt Z&&y.isCl)
def AOp.isRd:AOp→Bool
 | .load ..|.fld ..|.fldv ..|.idxP ..|.idxA ..|.slice ..|.sliceP ..|.slice3 ..|.len ..|.nilck ..=>true
 | _=>false
def AOper.sep2 (Z:List Nat)(x y:AOper):Bool:=x.sep Z y || (x.op.isRd&&y.op.isRd)

def AOper.looks (o:AOper):List Nat :=
 (o.op.operands.filterMap fun|.tmp t=>some t|_=>none)++(match o.guard with|some (t,_)=>[t]|none=>[])

def AOper.callish (Z:List Nat)(o:AOper):Bool:=o.op.isCall || isMk Z o.dst

def AOper.apart (Z:List Nat)(x y:AOper):Bool :=
 (match x.dst with|some d=>!(y.looks.contains d)&&y.dst != some d|none=>true)&&(match y.dst with|some d=>!(x.looks.contains d)|none=>true)&&(!(x.callish Z&&y.callish Z) || x.sep2 Z y)

section
variable {P:Program} {pin:Nat} {F:Nat→Option (List AV)} {Z:List Nat} {K:S→Prop} {s s':S}

theorem Gmz {d:Nat}{ao:AOp}(hH:s'.H=s.H)(he:∀ x∈ao.operands,s'.ev x=s.ev x):arun s' pin d ao=arun s pin d ao:=by
 cases ao<;>simp only [AOp.operands] at he<;>simp only [arun,hH]
 case build zs ps =>
  rw [List.map_congr_left (l:=ps) (f:=fun p=>(p.1,p.2.1,s'.ev p.2.2)) (g:=fun p=>(p.1,p.2.1,s.ev p.2.2)) fun p hp=>by rw [he _ (List.mem_map.2 ⟨p,hp,rfl⟩)]]
 case mkfn fn us vs =>
  rw [List.map_congr_left (l:=us) (f:=s'.ev) (g:=s.ev) fun p hp=>he _ (List.mem_append_left _ hp),List.map_congr_left (l:=vs) (f:=s'.ev) (g:=s.ev) fun p hp=>he _ (List.mem_append_right _ hp)]
 case bslice sz zs ps n =>
  rw [List.map_congr_left (l:=ps) (f:=fun p=>(p.1*sz,sz,s'.ev p.2)) (g:=fun p=>(p.1*sz,sz,s.ev p.2)) fun p hp=>by rw [he _ (List.mem_map.2 ⟨p,hp,rfl⟩)]]
 case blit sz zs ps n =>
  rw [List.map_congr_left (l:=ps) (f:=fun p=>(p.1*sz,sz,s'.ev p.2)) (g:=fun p=>(p.1*sz,sz,s.ev p.2)) fun p hp=>by rw [he _ (List.mem_map.2 ⟨p,hp,rfl⟩)]]
 case slice sz x lo hi=>cases lo<;>cases hi<;>simp_all
 case sliceS x lo hi=>cases lo<;>cases hi<;>simp_all
 case sliceP sz n x lo hi=>cases lo<;>cases hi<;>simp_all
 case slice3 sz x lo hi mx=>cases lo<;>simp_all
 all_goals simp_all

theorem ev_H (σ:Nat→AV)(H H':Nat→Option (List AV))(x:Operand):S.ev ⟨σ,H⟩ x=S.ev ⟨σ,H'⟩ x:=by cases x<;>rfl

theorem loadAV_mono {F H:Nat→Option (List AV)}(h:∀ id cs,F id=some cs→H id=some cs){agg:Bool}{sz:Nat}{x y:AV}(hl:loadAV F agg sz x=some y):loadAV H agg sz x=some y:=by
 cases x<;>simp only [loadAV] at hl ⊢<;>try exact hl
 rename_i id len off
 cases hf:F id with
 | none=>rw [hf] at hl;cases hl
 | some cs=>rw [hf] at hl;rw [h id cs hf];exact hl

theorem rd_mono {F H:Nat→Option (List AV)}(h:∀ id cs,F id=some cs→H id=some cs){x:AV}{y:List AV×Nat}(hl:rd F x=some y):rd H x=some y:=by
 unfold rd at hl ⊢
 split at hl
 ·exact hl
 ·rename_i id n sz
  cases hf:F id with
  | none=>rw [hf] at hl;cases hl
  | some cs=>rw [hf] at hl;rw [h id cs hf];exact hl
 ·rename_i id len off n sz c0
  cases hf:F id with
  | none=>rw [hf] at hl;cases hl
  | some cs=>rw [hf] at hl;rw [h id cs hf];exact hl
 ·exact hl
 ·cases hl

theorem arun_mono {σ:Nat→AV}{F H:Nat→Option (List AV)}(h:∀ id cs,F id=some cs→H id=some cs){d:Nat}{ao:AOp}{v:AV}{u:Option (Nat×List AV)}
  (hr:arun ⟨σ,F⟩ pin d ao=some (v,u)) (hu:∀ id cs,u=some (id,cs)→H id=none∨F id≠none):arun ⟨σ,H⟩ pin d ao=some (v,u):=by
 have hev:∀ x,S.ev ⟨σ,F⟩ x=S.ev ⟨σ,H⟩ x:=ev_H σ F H
 cases ao<;>simp only [arun,hev] at hr ⊢<;>try exact hr
 case alloc zs =>
  split at hr
  ·rename_i hc
   simp only [Option.some.injEq,Prod.mk.injEq] at hr
   have h1:=(hu _ _ hr.2.symm).resolve_right (fun h=>h (by simpa using hc.1))
   rw [if_pos ⟨by rw [h1];rfl,hc.2⟩]
   simp [hr.1,hr.2]
  ·cases hr
 case box x =>
  split at hr
  ·split at hr
   ·rename_i hc
    simp only [Option.some.injEq,Prod.mk.injEq] at hr
    have h1:=(hu _ _ hr.2.symm).resolve_right (fun h=>h (by simpa using hc.1))
    rw [if_pos ⟨by rw [h1];rfl,hc.2⟩]
    simp [hr.1,hr.2]
   ·split at hr
    ·rename_i hl
     rw [if_neg (fun h=>absurd h.2 (Nat.not_le.mpr hl)),if_pos hl]
     exact hr
    ·cases hr
  ·cases hr
 case bslice sz zs ps n =>
  split at hr
  ·rename_i hc
   have hr':=hr
   simp only [Option.map_eq_some_iff,Prod.mk.injEq] at hr'
   obtain ⟨cs,h0,h2,h3⟩:=hr'
   have h1:=(hu _ _ h3.symm).resolve_right (fun h=>h (by simpa using hc.1))
   rw [if_pos ⟨by rw [h1];rfl,hc.2⟩]
   exact hr
  ·cases hr
 case load agg sz x =>
  unfold pureR at hr ⊢
  simp only [Option.map_eq_some_iff] at hr ⊢
  obtain ⟨y,h1,h2⟩:=hr
  exact ⟨y,loadAV_mono h h1,h2⟩
 case store sz x y =>
  split at hr
  ·rename_i id len off hx
   cases hf:F id with
   | none=>rw [hf] at hr;cases hr
   | some cs=>rw [hf] at hr;rw [h id cs hf];exact hr
  ·cases hr
 case nilck x =>
  split at hr
  ·rename_i id len off hx
   cases hf:F id with
   | none=>rw [hf] at hr;cases hr
   | some cs=>rw [hf] at hr;rw [h id cs hf];exact hr
  ·exact hr
  ·cases hr
 case mkslice sz zs l c =>
  split at hr
  ·split at hr
   ·rename_i hc
    simp only [Option.some.injEq,Prod.mk.injEq] at hr
    have h1:=(hu _ _ hr.2.symm).resolve_right (fun h=>h (by simpa using hc.1))
    rw [if_pos ⟨by rw [h1];rfl,hc.2⟩]
    simp [hr.1,hr.2]
   ·cases hr
  ·cases hr
 case fld off x =>
  split at hr
  ·rename_i id len o hx
   cases hf:F id with
   | none=>rw [hf] at hr;cases hr
   | some cs=>rw [hf] at hr;rw [h id cs hf];exact hr
  ·exact hr
  ·cases hr
 case idxA sz x i =>
  split at hr
  ·split at hr
   ·exact hr
   ·rename_i id n sz' hx
    cases hf:F id with
    | none=>rw [hf] at hr;cases hr
    | some cs=>rw [hf] at hr;rw [h id cs hf];exact hr
   ·rename_i id len off n sz' c0 hx
    cases hf:F id with
    | none=>rw [hf] at hr;cases hr
    | some cs=>rw [hf] at hr;rw [h id cs hf];exact hr
   ·cases hr
  ·cases hr
 case idxP sz n x i =>
  split at hr
  ·split at hr
   ·rename_i id len o hx
    cases hf:F id with
    | none=>rw [hf] at hr;cases hr
    | some cs=>rw [hf] at hr;rw [h id cs hf];exact hr
   ·exact hr
   ·cases hr
  ·cases hr
 case slice sz x lo hi =>
  have hm:∀ y:Option Operand,y.map (S.ev ⟨σ,F⟩)=y.map (S.ev ⟨σ,H⟩):=fun y=>by cases y<;>simp [hev]
  rw [hm lo,hm hi] at hr
  split at hr
  ·exact hr
  ·rename_i id n sz' hx
   cases hf:F id with
   | none=>rw [hf] at hr;cases hr
   | some cs=>rw [hf] at hr;rw [h id cs hf];exact hr
  ·rename_i id len off n sz' c0 hx
   cases hf:F id with
   | none=>rw [hf] at hr;cases hr
   | some cs=>rw [hf] at hr;rw [h id cs hf];exact hr
  ·exact hr
  ·cases hr
 case sliceP sz n x lo hi =>
  have hm:∀ y:Option Operand,y.map (S.ev ⟨σ,F⟩)=y.map (S.ev ⟨σ,H⟩):=fun y=>by cases y<;>simp [hev]
  rw [hm lo,hm hi] at hr
  split at hr
  ·rename_i id len off hx
   cases hf:F id with
   | none=>rw [hf] at hr;cases hr
   | some cs=>rw [hf] at hr;rw [h id cs hf];exact hr
  ·cases hr
 case len x =>
  simp only [Option.map_eq_some_iff] at hr ⊢
  obtain ⟨y,h1,h2⟩:=hr
  exact ⟨y,rd_mono h h1,h2⟩
 case slice3 sz x lo hi mx =>
  have hm:∀ y:Option Operand,y.map (S.ev ⟨σ,F⟩)=y.map (S.ev ⟨σ,H⟩):=fun y=>by cases y<;>simp [hev]
  rw [hm lo] at hr
  split at hr
  ·exact hr
  ·cases ht:(S.ev ⟨σ,H⟩ x).tgt with
   | none=>rw [ht] at hr;cases hr
   | some q =>
    obtain ⟨id,len,off,n,sz',c⟩:=q
    rw [ht] at hr
    dsimp only at hr ⊢
    cases hf:F id with
    | none=>rw [hf] at hr;cases hr
    | some cs=>rw [hf] at hr;rw [h id cs hf];exact hr
 case clr sz zs x =>
  cases ht:(S.ev ⟨σ,H⟩ x).tgt with
  | none=>rw [ht] at hr;cases hr
  | some q =>
   obtain ⟨id,len,off,n,sz',c⟩:=q
   rw [ht] at hr
   dsimp only at hr ⊢
   cases hf:F id with
   | none=>rw [hf] at hr;cases hr
   | some cs=>rw [hf] at hr;rw [h id cs hf];exact hr
 case cpy sz x y =>
  cases hy:rd F (S.ev ⟨σ,H⟩ y) with
  | none=>rw [hy] at hr;cases hr
  | some ys =>
   rw [hy] at hr
   rw [rd_mono h hy]
   obtain ⟨l,m⟩:=ys
   dsimp only at hr
   dsimp only
   split at hr
   ·rename_i hc
    rw [if_pos hc]
    cases ht:(S.ev ⟨σ,H⟩ x).tgt with
    | none=>rw [ht] at hr;cases hr
    | some q =>
     obtain ⟨id,len,off,n,sz',c⟩:=q
     rw [ht] at hr
     dsimp only at hr ⊢
     cases hf:F id with
     | none=>rw [hf] at hr;cases hr
     | some cs=>rw [hf] at hr;rw [h id cs hf];exact hr
   ·cases hr
 case append sz x y =>
  cases hy:rd F (S.ev ⟨σ,H⟩ y) with
  | none=>rw [hy] at hr;cases hr
  | some ys =>
   rw [hy] at hr
   rw [rd_mono h hy]
   obtain ⟨l,m⟩:=ys
   dsimp only at hr
   dsimp only
   split at hr
   ·rename_i hc
    rw [if_pos hc]
    split at hr
    ·rename_i id n sz' hx
     cases hf:F id with
     | none=>rw [hf] at hr;cases hr
     | some cs=>rw [hf] at hr;rw [h id cs hf];exact hr
    ·rename_i id len off n sz' c0 hx
     cases hf:F id with
     | none=>rw [hf] at hr;cases hr
     | some cs=>rw [hf] at hr;rw [h id cs hf];exact hr
    ·split at hr
     ·rename_i hc2
      have hr':=hr
      simp only [Option.some.injEq,Prod.mk.injEq] at hr'
      have h1:=(hu _ _ hr'.2.symm).resolve_right (fun h=>h (by simpa using hc2.1))
      rw [if_pos ⟨by rw [h1];rfl,hc2.2⟩]
      exact hr
     ·cases hr
    ·cases hr
   ·cases hr


def Sees (F:Nat→Option (List AV))(s:S):Prop:=∀ id cs,F id=some cs→s.H id=some cs

def inNew (dst:Option Nat)(id:Nat):Prop:=∃ d k,dst=some d∧k<16∧id=16*d+k

def callQ (P:Program)(pin:Nat)(F:Nat→Option (List AV))(X:List (Nat×List AV))(f:Nat)(avs:List AV)(dst:Option Nat)(R:AV→List (Nat×List AV)→Prop):Prop :=
 ∀ E M s a w (args:List Operand),E.pin=pin→dstOk E.nt dst=true→St E M s a w→Sees F s→(∀ p∈X,s.H p.1=some p.2)→(∀ id,inNew dst id→s.H id=none)→args.map s.ev=avs →
  Calls P f (args.map a.eval).toArray w fun e w'=>∃ M' v' v u,R v u∧e=.returned v'∧St E M' (s.putL dst v u) (a.put dst v') w'

def mixH (Z:List Nat)(H F:Nat→Option (List AV)):Nat→Option (List AV):=fun j=>if j∈Z then H j else F j
def gv (Z:List Nat)(c:Bool)(H F:Nat→Option (List AV)):Nat→Option (List AV):=if c then mixH Z H F else F

theorem gv_sees {c:Bool}{H:Nat→Option (List AV)}(h:∀ j cs,F j=some cs→H j=some cs):∀ j cs,gv Z c H F j=some cs→H j=some cs:=fun j cs hj=>by
 unfold gv mixH at hj
 cases c with
 | false=>exact h j cs hj
 | true =>
  simp only [if_true] at hj
  split at hj
  ·exact hj
  ·exact h j cs hj
theorem gv_updL {c:Bool}{H:Nat→Option (List AV)}{u:List (Nat×List AV)}(hu:c=true→∀ p∈u,p.1 ∉ Z)(hno:∀ j,(∀ p∈u,p.1≠j)→updL H u j=H j):gv Z c (updL H u) F=gv Z c H F:=by
 cases c with
 | false=>rfl
 | true =>
  funext j
  simp only [gv,mixH,if_true]
  split
  ·rename_i hj
   exact hno j fun p hp he=>hu rfl p hp (he ▸ hj)
  ·rfl

def ocan (P:Program)(pin:Nat)(F:Nat→Option (List AV))(Z:List Nat)(o:AOper)(s:S)(X:List (Nat×List AV))(R:AV→List (Nat×List AV)→Prop):Prop :=
 (∀ p∈X,s.H p.1=some p.2∧p.1∈Z)∧(∀ v u,R v u→∀ p∈u,(o.callish Z=true∧p.1∈Z∧s.H p.1≠none)∨(inNew o.dst p.1∧s.H p.1=none∧(o.callish Z=true∨p.1 ∉ Z))) ∧
 match o.op with
 | .call f args=>(∀ id,inNew o.dst id→s.H id=none)∧((∀ p∈X,isNw Z p.1=false)∧(∀ v u,R v u→∀ p∈u,p.1∈Z→isNw Z p.1=false))∧callQ P pin F X f (args.map s.ev) o.dst R
 | ao=>X=[]∧∃ v u,arun ⟨s.σ,gv Z (o.callish Z) s.H F⟩ pin (o.dst.getD 0) ao=some (v,u)∧(∀ id cs,u=some (id,cs)→s.H id=none→id=16*o.dst.getD 0)∧R=fun v' u'=>v'=v∧u'=u.toList

def qone (P:Program)(pin:Nat)(F:Nat→Option (List AV))(Z:List Nat)(o:AOper)(K:S→Prop)(s:S):Prop :=
 match aguard s o.guard with
 | some g=>(g=true→∃ X R,ocan P pin F Z o s X R∧(∃ v u,R v u)∧∀ v u,R v u→K (s.putL o.dst v u))∧(g=false→K (s.putL o.dst .und []))
 | none=>False

def qSeq (P:Program)(pin:Nat)(F:Nat→Option (List AV))(Z:List Nat):List AOper→(S→Prop)→S→Prop
 | [],K,s=>K s
 | o::r,K,s=>qone P pin F Z o (qSeq P pin F Z r K) s

theorem qone_mono {o:AOper}{K':S→Prop}(h:∀ s,K s→K' s)(hq:qone P pin F Z o K s):qone P pin F Z o K' s:=by
 unfold qone at *
 split at hq
 ·exact ⟨fun hg=>let ⟨X,R,h1,h2,h3⟩:=hq.1 hg;⟨X,R,h1,h2,fun v u hr=>h _ (h3 v u hr)⟩,fun hg=>h _ (hq.2 hg)⟩
 ·exact hq

theorem ev_putL {x:Operand}{dst:Option Nat}{v:AV}{u:List (Nat×List AV)}(h:∀ d,dst=some d→x≠.tmp d):(s.putL dst v u).ev x=s.ev x:=by
 cases dst with
 | none=>cases x<;>rfl
 | some d =>
  cases x with
  | tmp t =>
   have hne:t≠d:=fun e=>h d rfl (e ▸ rfl)
   simp [S.ev,S.putL,Asz _ _ _ _ hne]
  | _=>rfl

theorem Fxz {gd:Option (Nat×Bool)}{dst:Option Nat}{v:AV}{u:List (Nat×List AV)}(h:∀ d,dst=some d→∀ t b,gd=some (t,b)→t≠d):aguard (s.putL dst v u) gd=aguard s gd:=by
 cases gd with
 | none=>rfl
 | some tb =>
  obtain ⟨t,b⟩:=tb
  cases dst with
  | none=>rfl
  | some d =>
   have hne:=h d rfl t b rfl
   simp [aguard,S.putL,Asz _ _ _ _ hne]

theorem apart_spec {x y:AOper}(h:x.apart Z y=true):(∀ d,x.dst=some d→d ∉ y.looks)∧(∀ d,x.dst=some d→y.dst≠some d)∧(∀ d,y.dst=some d→d ∉ x.looks)∧(x.callish Z=true→y.callish Z=true→x.sep2 Z y=true):=by
 unfold AOper.apart at h
 simp only [Bool.and_eq_true,Bool.not_eq_true'] at h
 obtain ⟨⟨h1,h2⟩,h3⟩:=h
 refine ⟨fun d hd=>?_,fun d hd=>?_,fun d hd=>?_,fun hc hc'=>?_⟩
 ·rw [hd] at h1;simp at h1;exact h1.1
 ·rw [hd] at h1;simp at h1;exact h1.2
 ·rw [hd] at h2;simpa using h2
 ·simpa [hc,hc'] using h3

theorem looks_op {o:AOper}{t:Nat}(h:Operand.tmp t∈o.op.operands):t∈o.looks:=by
 unfold AOper.looks
 exact List.mem_append_left _ (List.mem_filterMap.2 ⟨_,h,rfl⟩)

theorem Faz {o:AOper}{t:Nat}{b:Bool}(h:o.guard=some (t,b)):t∈o.looks:=by
 unfold AOper.looks
 rw [h]
 exact List.mem_append_right _ (by simp)

theorem B2z {H:Nat→Option (List AV)}{u:List (Nat×List AV)}{id:Nat}(h:∀ p∈u,p.1≠id):updL H u id=H id:=by
 unfold updL
 cases hk1:hk u id with
 | none=>rfl
 | some cs =>
  obtain ⟨p,hp,h1,_⟩:=hk_mem u id cs hk1
  exact absurd h1 (h p hp)

theorem Etz {H:Nat→Option (List AV)}{u:List (Nat×List AV)}{id:Nat}(h:updL H u id=none):H id=none:=by
 unfold updL at h
 cases hk1:hk u id with
 | none=>rw [hk1] at h;exact h
 | some cs=>rw [hk1] at h;cases h

theorem Czz {o:AOper}{f:Nat}{args:List Operand}(h:o.op=.call f args):o.callish Z=true:=by simp [AOper.callish,h,AOp.isCall]

theorem arun_new {s:S}{d:Nat}{zs:List Value}{v:AV}{u:Option (Nat×List AV)}(h:arun s pin d (.alloc zs)=some (v,u)):∀ p∈u.toList,p.1=16*d:=by
 simp only [arun] at h
 split at h
 ·simp only [Option.some.injEq,Prod.mk.injEq] at h
  rw [← h.2]
  simp
 ·cases h
theorem arun_new' {s:S}{d:Nat}{x:Operand}{v:AV}{u:Option (Nat×List AV)}(h:arun s pin d (.box x)=some (v,u)):∀ p∈u.toList,p.1=16*d:=by
 simp only [arun] at h
 split at h
 ·split at h
  ·simp only [Option.some.injEq,Prod.mk.injEq] at h
   rw [← h.2]
   simp
  ·split at h
   ·simp only [Option.some.injEq,Prod.mk.injEq] at h
    rw [← h.2]
    simp
   ·cases h
 ·cases h
theorem fr_other {o:AOper}{id:Nat}(h1:∀ f args,o.op≠.call f args)(h2:∀ zs,o.op≠.alloc zs)(h3:∀ x,o.op≠.box x):o.fr Z id=false:=by
 unfold AOper.fr
 cases ho:o.op<;>simp_all
theorem C5z {o:AOper}{X:List (Nat×List AV)}{R:AV→List (Nat×List AV)→Prop}(h:ocan P pin F Z o s X R) :
  (∀ p∈X,o.callish Z=true∧o.fr Z p.1=false)∧(∀ v u,R v u→∀ p∈u,p.1∈Z→o.fr Z p.1=false):=by
 obtain ⟨h1,h2,h3⟩:=h
 cases ho:o.op
 case call f args =>
  rw [ho] at h3
  simp only at h3
  exact ⟨fun p hp=>⟨Czz ho,by simp only [AOper.fr,ho];exact h3.2.1.1 p hp⟩,fun v u hr p hp hz=>by simp only [AOper.fr,ho];exact h3.2.1.2 v u hr p hp hz⟩
 case alloc zs =>
  rw [ho] at h3
  simp only at h3
  obtain ⟨h4,v1,u1,h5,h6,h7⟩:=h3
  refine ⟨fun p hp=>(by rw [h4] at hp;cases hp),fun v u hr p hp hz=>?_⟩
  rw [h7] at hr
  obtain ⟨rfl,rfl⟩:=hr
  simp only [AOper.fr,ho,arun_new h5 p hp]
  simp
 case box x =>
  rw [ho] at h3
  simp only at h3
  obtain ⟨h4,v1,u1,h5,h6,h7⟩:=h3
  refine ⟨fun p hp=>(by rw [h4] at hp;cases hp),fun v u hr p hp hz=>?_⟩
  rw [h7] at hr
  obtain ⟨rfl,rfl⟩:=hr
  simp only [AOper.fr,ho,arun_new' h5 p hp]
  simp
 all_goals
  rw [ho] at h3
  simp only at h3
  obtain ⟨h4,_⟩:=h3
  exact ⟨fun p hp=>(by rw [h4] at hp;cases hp),fun v u hr p hp hz=>by simp only [AOper.fr,ho]⟩

theorem gv_at {c:Bool}{H H':Nat→Option (List AV)}{j:Nat}(h:c=true→j∈Z→H' j=H j):gv Z c H' F j=gv Z c H F j:=by
 unfold gv mixH
 cases c with
 | false=>rfl
 | true =>
  simp only [if_true]
  split
  ·rename_i hj;exact h rfl hj
  ·rfl
theorem arun_gv {o:AOper}{σ:Nat→AV}{H:Nat→Option (List AV)}{u:List (Nat×List AV)}(hz:o.callish Z=true→∀ p∈u,p.1∈Z→o.fr Z p.1=true)(hn:∀ f args,o.op≠.call f args) :
  arun ⟨σ,gv Z (o.callish Z) (updL H u) F⟩ pin (o.dst.getD 0) o.op=arun ⟨σ,gv Z (o.callish Z) H F⟩ pin (o.dst.getD 0) o.op:=by
 have hat:(∀ id,o.fr Z id=(16*o.dst.getD 0 != id))→gv Z (o.callish Z) (updL H u) F (16*o.dst.getD 0)=gv Z (o.callish Z) H F (16*o.dst.getD 0):=fun hf=>by
  refine gv_at fun hc hj=>B2z fun p hp he=>?_
  have:=hz hc p hp (he ▸ hj)
  rw [hf,he] at this
  simp at this
 by_cases h1:∃ zs,o.op=.alloc zs
 ·obtain ⟨zs,ho⟩:=h1
  have:=hat fun id=>by simp only [AOper.fr,ho]
  rw [ho]
  simp only [arun,this]
 ·by_cases h2:∃ x,o.op=.box x
  ·obtain ⟨x,ho⟩:=h2
   have:=hat fun id=>by simp only [AOper.fr,ho]
   rw [ho]
   simp only [arun,this]
   rw [ev_H σ (gv Z (o.callish Z) (updL H u) F) (gv Z (o.callish Z) H F) x]
  ·have hf:∀ id,o.fr Z id=false:=fun id=>fr_other hn (fun zs h=>h1 ⟨zs,h⟩) (fun x h=>h2 ⟨x,h⟩)
   rw [show gv Z (o.callish Z) (updL H u) F=gv Z (o.callish Z) H F from gv_updL (fun hc p hp hzz=>by have:=hz hc p hp hzz;rw [hf] at this;cases this) fun j hj=>B2z hj]

theorem E2z {o:AOper}{dst:Option Nat}{v:AV}{u:List (Nat×List AV)}{X:List (Nat×List AV)}{R:AV→List (Nat×List AV)→Prop}
  (h:∀ d,dst=some d→d ∉ o.looks) (hz:o.callish Z=true→∀ p∈u,p.1∈Z→o.fr Z p.1=true) (hq:ocan P pin F Z o (s.putL dst v u) X R):ocan P pin F Z o s X R:=by
 have he:∀ x∈o.op.operands,(s.putL dst v u).ev x=s.ev x:=fun x hx=>ev_putL fun d hd he=>h d hd (looks_op (he ▸ hx))
 have hzz:o.callish Z=true→∀ j∈Z,o.fr Z j=false→(s.putL dst v u).H j=s.H j:=fun hc j hj hf=>B2z fun q hq he=>by
  have:=hz hc q hq (he ▸ hj)
  rw [he,hf] at this
  cases this
 obtain ⟨t1,t2⟩:=C5z hq
 obtain ⟨h1,h2,h3⟩:=hq
 refine ⟨fun p hp=>⟨?_,(h1 p hp).2⟩,fun v' u' hr p hp=>?_,?_⟩
 ·rw [← hzz (t1 p hp).1 _ (h1 p hp).2 (t1 p hp).2]
  exact (h1 p hp).1
 ·rcases h2 v' u' hr p hp with ⟨h4,h5,h6⟩|⟨h4,h5,h6⟩
  ·exact .inl ⟨h4,h5,by rw [← hzz h4 _ h5 (t2 v' u' hr p hp h5)];exact h6⟩
  ·exact .inr ⟨h4,Etz h5,h6⟩
 ·have hg:=fun hn=>arun_gv (pin:=pin) (F:=F) (σ:=(s.putL dst v u).σ) (H:=s.H) hz hn
  cases ho:o.op
  case call f args =>
   rw [ho] at h3 he
   simp only at h3 ⊢
   refine ⟨fun id hid=>Etz (h3.1 id hid),h3.2.1,?_⟩
   have:args.map (s.putL dst v u).ev=args.map s.ev:=List.map_congr_left fun x hx=>he x hx
   rw [this] at h3
   exact h3.2.2
  all_goals
   rw [ho] at h3 he hg
   simp only at h3 ⊢
   obtain ⟨h4,v1,u1,h5,h6,h7⟩:=h3
   refine ⟨h4,v1,u1,?_,fun id cs hu hn=>?_,h7⟩
   ·rw [← h5]
    refine Eq.trans ?_ (hg (fun _ _ h=>by cases h)).symm
    exact (Gmz (s:=⟨(s.putL dst v u).σ,gv Z (o.callish Z) s.H F⟩) (s':=⟨s.σ,gv Z (o.callish Z) s.H F⟩) rfl fun x hx=>by rw [ev_H s.σ _ s.H,ev_H (s.putL dst v u).σ _ (s.putL dst v u).H];exact (he x hx).symm)
   ·refine h6 id cs hu ?_
    have hr1:R v1 u1.toList:=by rw [h7];exact ⟨rfl,rfl⟩
    have hm:(id,cs)∈u1.toList:=by rw [hu];simp
    rcases h2 v1 u1.toList hr1 (id,cs) hm with ⟨h8,h9,h10⟩|⟨_,h9,_⟩
    ·exact absurd hn (by rw [← hzz h8 _ h9 (t2 v1 _ hr1 _ hm h9)];exact h10)
    ·exact h9

theorem F9z {o:AOper}{dst:Option Nat}{v:AV}{u:List (Nat×List AV)}{X:List (Nat×List AV)}{R:AV→List (Nat×List AV)→Prop}
  (h:∀ d,dst=some d→d ∉ o.looks) (hz:o.callish Z=true→∀ p∈u,p.1∈Z→o.fr Z p.1=true) (hf:∀ p∈u,inNew o.dst p.1→s.H p.1≠none) (hq:ocan P pin F Z o s X R):ocan P pin F Z o (s.putL dst v u) X R:=by
 have he:∀ x∈o.op.operands,s.ev x=(s.putL dst v u).ev x:=fun x hx=>(ev_putL fun d hd he=>h d hd (looks_op (he ▸ hx))).symm
 have hzz:o.callish Z=true→∀ j∈Z,o.fr Z j=false→(s.putL dst v u).H j=s.H j:=fun hc j hj hf=>B2z fun q hq he=>by
  have:=hz hc q hq (he ▸ hj)
  rw [he,hf] at this
  cases this
 obtain ⟨t1,t2⟩:=C5z hq
 obtain ⟨h1,h2,h3⟩:=hq
 have hnew:∀ id,inNew o.dst id→s.H id=none→(s.putL dst v u).H id=s.H id:=fun id hid hno=>B2z fun q hq he=>hf q hq (he ▸ hid) (he ▸ hno)
 refine ⟨fun p hp=>⟨?_,(h1 p hp).2⟩,fun v' u' hr p hp=>?_,?_⟩
 ·rw [hzz (t1 p hp).1 _ (h1 p hp).2 (t1 p hp).2]
  exact (h1 p hp).1
 ·rcases h2 v' u' hr p hp with ⟨h4,h5,h6⟩|⟨h4,h5,h6⟩
  ·exact .inl ⟨h4,h5,by rw [hzz h4 _ h5 (t2 v' u' hr p hp h5)];exact h6⟩
  ·exact .inr ⟨h4,(hnew _ h4 h5).trans h5,h6⟩
 ·have hg:=fun hn=>arun_gv (pin:=pin) (F:=F) (σ:=(s.putL dst v u).σ) (H:=s.H) hz hn
  cases ho:o.op
  case call f args =>
   rw [ho] at h3 he
   simp only at h3 ⊢
   refine ⟨fun id hid=>(hnew id hid (h3.1 id hid)).trans (h3.1 id hid),h3.2.1,?_⟩
   have:args.map s.ev=args.map (s.putL dst v u).ev:=List.map_congr_left fun x hx=>he x hx
   rw [← this]
   exact h3.2.2
  all_goals
   rw [ho] at h3 he hg
   simp only at h3 ⊢
   obtain ⟨h4,v1,u1,h5,h6,h7⟩:=h3
   refine ⟨h4,v1,u1,?_,fun id cs hu hn=>h6 id cs hu (Etz hn),h7⟩
   rw [← h5]
   refine (hg (fun _ _ h=>by cases h)).trans ?_
   exact (Gmz (s:=⟨s.σ,gv Z (o.callish Z) s.H F⟩) (s':=⟨(s.putL dst v u).σ,gv Z (o.callish Z) s.H F⟩) rfl fun x hx=>by rw [ev_H s.σ _ s.H,ev_H (s.putL dst v u).σ _ (s.putL dst v u).H];exact (he x hx).symm)

theorem Dyz {x y:Option Nat}{v v':AV}{u u':List (Nat×List AV)}(h:∀ d,x=some d→y≠some d)(hu:∀ p∈u,∀ q∈u',p.1≠q.1):(s.putL x v u).putL y v' u'=(s.putL y v' u').putL x v u:=by
 have hH:updL (updL s.H u) u'=updL (updL s.H u') u:=by
  funext id
  unfold updL
  cases h1:hk u' id with
  | none=>rfl
  | some cs' =>
   cases h2:hk u id with
   | none=>rfl
   | some cs =>
    obtain ⟨p,hp,e1,_⟩:=hk_mem u id cs h2
    obtain ⟨q,hq,e2,_⟩:=hk_mem u' id cs' h1
    exact absurd (e1.trans e2.symm) (hu p hp q hq)
 unfold S.putL
 simp only [S.mk.injEq]
 refine ⟨?_,hH⟩
 cases x with
 | none=>rfl
 | some d =>
  cases y with
  | none=>rfl
  | some e =>
   have hne:d≠e:=fun he=>h d rfl (he ▸ rfl)
   funext t
   simp only [upd]
   by_cases h1:t=e<;>by_cases h2:t=d<;>simp_all

theorem Gez {x y:Option Nat}(h:∀ d,x=some d→y≠some d){id:Nat}(h1:inNew x id):¬ inNew y id:=by
 rintro ⟨e,j,he,hj,h2⟩
 obtain ⟨d,k,hd,hk,h3⟩:=h1
 have:d=e:=by omega
 exact h d hd (this ▸ he)

theorem ocan_single {o:AOper}{X:List (Nat×List AV)}{R:AV→List (Nat×List AV)→Prop}(hc:o.isCl=false)(h:ocan P pin F Z o s X R):∃ v u,(∀ v' u',R v' u'↔v'=v∧u'=u):=by
 obtain ⟨_,_,h3⟩:=h
 cases ho:o.op
 case call f args=>simp [AOper.isCl,ho] at hc
 all_goals
  rw [ho] at h3
  simp only at h3
  obtain ⟨_,v,u,_,_,h4⟩:=h3
  exact ⟨v,u.toList,fun v' u'=>by rw [h4]⟩

theorem ocan_det {o:AOper}{X X':List (Nat×List AV)}{R R':AV→List (Nat×List AV)→Prop}(hc:o.isCl=false)(h:ocan P pin F Z o s X R)(h':ocan P pin F Z o s X' R'):R=R':=by
 obtain ⟨_,_,h3⟩:=h
 obtain ⟨_,_,h3'⟩:=h'
 cases ho:o.op
 case call f args=>simp [AOper.isCl,ho] at hc
 all_goals
  rw [ho] at h3 h3'
  simp only at h3 h3'
  obtain ⟨_,v,u,h5,_,h4⟩:=h3
  obtain ⟨_,v',u',h5',_,h4'⟩:=h3'
  rw [h5] at h5'
  simp only [Option.some.injEq,Prod.mk.injEq] at h5'
  obtain ⟨rfl,rfl⟩:=h5'
  rw [h4,h4']

theorem ocan_ids {o:AOper}{X:List (Nat×List AV)}{R:AV→List (Nat×List AV)→Prop}(h:ocan P pin F Z o s X R){v:AV}{u:List (Nat×List AV)}(hr:R v u):∀ p∈u,(o.callish Z=true∧p.1∈Z∧s.H p.1≠none)∨(inNew o.dst p.1∧s.H p.1=none∧(o.callish Z=true∨p.1 ∉ Z)):=h.2.1 v u hr

theorem crt_spec {o:AOper}(h:o.crt Z=true):((∃ zs,o.op=.alloc zs)∨(∃ x,o.op=.box x))∧∃ d,o.dst=some d∧isNw Z (16*d)=true:=by
 unfold AOper.crt at h
 cases ho:o.op<;>cases hd:o.dst<;>simp [ho,hd] at h
 ·exact ⟨.inl ⟨_,rfl⟩,_,rfl,h⟩
 ·exact ⟨.inr ⟨_,rfl⟩,_,rfl,h⟩
theorem sep_symm {x y:AOper}(h:x.sep Z y=true):y.sep Z x=true:=by
 unfold AOper.sep at *
 simp only [Bool.or_eq_true,Bool.and_eq_true] at *
 rcases h with h|h
 ·exact .inr ⟨h.2,h.1⟩
 ·exact .inl ⟨h.2,h.1⟩
theorem sep2_symm {x y:AOper}(h:x.sep2 Z y=true):y.sep2 Z x=true:=by
 unfold AOper.sep2 at *
 simp only [Bool.or_eq_true,Bool.and_eq_true] at *
 exact h.imp sep_symm fun h=>⟨h.2,h.1⟩
theorem arun_rd {s:S}{pin d:Nat}{ao:AOp}{v:AV}{u:Option (Nat×List AV)}(hr:ao.isRd=true)(h:arun s pin d ao=some (v,u)):u=none:=by
 cases ao
 all_goals first
  | (simp [AOp.isRd] at hr;done)
  | skip
 all_goals
  clear hr
  simp only [arun,pureR] at h
 all_goals first
  | (simp only [Option.map_eq_some_iff,Prod.mk.injEq] at h;obtain ⟨_,_,_,h⟩:=h;exact h.symm)
  | ((repeat' (split at h))<;>first|(cases h;done)|(simp only [Option.some.injEq,Prod.mk.injEq,reduceCtorEq] at h;exact h.2.symm)|(simp only [Option.map_eq_some_iff,Prod.mk.injEq] at h;obtain ⟨_,_,_,h⟩:=h;exact h.symm)|(cases h;rfl))
theorem ocan_rd {o:AOper}{X:List (Nat×List AV)}{R:AV→List (Nat×List AV)→Prop}{v:AV}{u:List (Nat×List AV)}(hr:o.op.isRd=true)(h:ocan P pin F Z o s X R)(hR:R v u):u=[]:=by
  obtain ⟨_,_,h3⟩:=h
  cases ho:o.op
  all_goals
    rw [ho] at h3 hr
    first
      | (simp [AOp.isRd] at hr;done)
      | (simp only at h3
         obtain ⟨_,v1,u1,h5,_,h7⟩:=h3
         rw [h7] at hR
         obtain ⟨rfl,rfl⟩:=hR
         rw [arun_rd hr h5]
         rfl)
theorem Fnz {x y:AOper}{X:List (Nat×List AV)}{R:AV→List (Nat×List AV)→Prop}{v:AV}{u:List (Nat×List AV)}(h0:x.callish Z=true→y.callish Z=true→x.sep2 Z y=true)(hq:ocan P pin F Z x s X R)(hr:R v u) :
  y.callish Z=true→∀ p∈u,p.1∈Z→y.fr Z p.1=true:=by
 intro hc p hp hz
 have hxc:x.callish Z=true:=by
  rcases ocan_ids hq hr p hp with ⟨a,_⟩|⟨_,_,a|a⟩
  ·exact a
  ·exact a
  ·exact absurd hz a
 have hs:=h0 hxc hc
 unfold AOper.sep2 at hs
 rw [Bool.or_eq_true] at hs
 rcases hs with hs|hs
 case inr =>
  rw [Bool.and_eq_true] at hs
  rw [ocan_rd hs.1 hq hr] at hp
  cases hp
 unfold AOper.sep at hs
 simp only [Bool.or_eq_true,Bool.and_eq_true] at hs
 have ht:=(C5z hq).2 v u hr p hp hz
 rcases hs with ⟨h1,h2⟩|⟨h1,h2⟩
 ·obtain ⟨h3,d,hd,hn⟩:=crt_spec h2
  have hxf:x.fr Z p.1=isNw Z p.1:=by
   unfold AOper.isCl at h1
   cases ho:x.op<;>simp [ho] at h1
   simp only [AOper.fr,ho]
  rw [hxf] at ht
  have hne:¬ 16*d=p.1:=fun e=>by rw [e,ht] at hn;cases hn
  rcases h3 with ⟨_,ho⟩|⟨_,ho⟩<;>simp [AOper.fr,ho,hd,hne]
 ·obtain ⟨h3,d,hd,hn⟩:=crt_spec h1
  have hyf:y.fr Z p.1=isNw Z p.1:=by
   unfold AOper.isCl at h2
   cases ho:y.op<;>simp [ho] at h2
   simp only [AOper.fr,ho]
  rw [hyf]
  have he:16*d=p.1:=by
   rcases h3 with ⟨_,ho⟩|⟨_,ho⟩<;>(simp only [AOper.fr,ho,hd,Option.getD_some] at ht;simpa using ht)
  rw [← he]
  exact hn
theorem qone_swap {x y:AOper}(h:x.apart Z y=true)(hq:qone P pin F Z x (qone P pin F Z y K) s):qone P pin F Z y (qone P pin F Z x K) s:=by
 obtain ⟨h1,h2,h3,h0⟩:=apart_spec h
 have h2':∀ d,y.dst=some d→x.dst≠some d:=fun d hd he=>h2 d he hd
 have gy:∀ v u,aguard (s.putL x.dst v u) y.guard=aguard s y.guard:=fun v u=>Fxz fun d hd t b ht e=>h1 d hd (e ▸ Faz ht)
 have gx:∀ v u,aguard (s.putL y.dst v u) x.guard=aguard s x.guard:=fun v u=>Fxz fun d hd t b ht e=>h3 d hd (e ▸ Faz ht)
 unfold qone at hq
 cases hgx:aguard s x.guard with
 | none=>rw [hgx] at hq;exact hq.elim
 | some g =>
  rw [hgx] at hq
  cases g with
  | false =>
   have hk:=hq.2 rfl
   rw [gy] at hk
   unfold qone
   cases hgy:aguard s y.guard with
   | none=>rw [hgy] at hk;exact hk.elim
   | some g' =>
    rw [hgy] at hk
    refine ⟨fun e=>?_,fun e=>?_⟩
    ·obtain ⟨Y,T,hy,hne,hky⟩:=hk.1 e
     refine ⟨Y,T,E2z h1 (fun _ p hp _=>by cases hp) hy,hne,fun v' u' hr=>?_⟩
     rw [gx,hgx]
     exact ⟨fun e=>(by cases e),fun _=>(by rw [← Dyz h2 (fun p hp=>by cases hp)];exact hky v' u' hr)⟩
    ·rw [gx,hgx]
     exact ⟨fun e=>(by cases e),fun _=>(by rw [← Dyz h2 (fun p hp=>by cases hp)];exact hk.2 e)⟩
  | true =>
   obtain ⟨X,R,hx,⟨v0,u0,hr0⟩,hk⟩:=hq.1 rfl
   have hk0:=hk v0 u0 hr0
   rw [gy] at hk0
   unfold qone
   cases hgy:aguard s y.guard with
   | none=>rw [hgy] at hk0;exact hk0.elim
   | some g' =>
    rw [hgy] at hk0
    refine ⟨fun e=>?_,fun e=>?_⟩
    ·subst e
     obtain ⟨Y,T,hy,hne,hky⟩:=hk0.1 rfl
     have hzx:∀ v u,R v u→y.callish Z=true→∀ p∈u,p.1∈Z→y.fr Z p.1=true:=fun v u hr=>Fnz h0 hx hr
     have hys:ocan P pin F Z y s Y T:=E2z h1 (hzx v0 u0 hr0) hy
     refine ⟨Y,T,hys,hne,fun v' u' hr'=>?_⟩
     rw [gx,hgx]
     have hidy:=ocan_ids hys hr'
     refine ⟨fun _=>⟨X,R,?_,⟨v0,u0,hr0⟩,fun v u hr=>?_⟩,fun e=>(by cases e)⟩
     ·refine F9z h3 (Fnz (fun a b=>sep2_symm (h0 b a)) hys hr') (fun p hp hn=>?_) hx
      rcases hidy p hp with ⟨_,_,c⟩|⟨a,_,_⟩
      ·exact c
      ·exact absurd a (Gez h2 hn)
     ·have hcomm:(s.putL y.dst v' u').putL x.dst v u=(s.putL x.dst v u).putL y.dst v' u':=by
       refine (Dyz h2 fun p hp q hq' he=>?_).symm
       rcases ocan_ids hx hr p hp with ⟨a,b,e1⟩|⟨a,e1,b⟩<;>rcases hidy q hq' with ⟨c,d,e2⟩|⟨c,e2,d⟩
       ·have:=hzx v u hr c p hp b
        have h':=(C5z hys).2 v' u' hr' q hq' d
        rw [← he,this] at h'
        cases h'
       ·exact e1 (he ▸ e2)
       ·exact e2 (he ▸ e1)
       ·exact Gez h2 a (he ▸ c)
      rw [hcomm]
      cases hyc:y.isCl with
      | true =>
       have hxc:x.isCl=false:=by
        cases hb:x.isCl with
        | false=>rfl
        | true =>
         have cl:∀ o:AOper,o.isCl=true→o.callish Z=true∧o.crt Z=false:=fun o ho=>by
          unfold AOper.isCl at ho
          cases h':o.op<;>simp [h'] at ho
          exact ⟨Czz h',by simp [AOper.crt,h']⟩
         have:=h0 (cl x hb).1 (cl y hyc).1
         have hno:∀ o:AOper,o.isCl=true→o.op.isRd=false:=fun o ho=>by
          unfold AOper.isCl at ho
          cases h':o.op<;>simp [h'] at ho
          rfl
         simp [AOper.sep2,AOper.sep,(cl x hb).2,(cl y hyc).2,hno x hb] at this
       obtain ⟨v1,u1,h4⟩:=ocan_single hxc hx
       obtain ⟨rfl,rfl⟩:=(h4 _ _).1 hr
       obtain ⟨rfl,rfl⟩:=(h4 _ _).1 hr0
       exact hky v' u' hr'
      | false =>
       have hT:=hk v u hr
       rw [gy,hgy] at hT
       obtain ⟨Y',T',hy',_,hky'⟩:=hT.1 rfl
       have hT':T'=T:=ocan_det hyc (E2z h1 (hzx v u hr) hy') hys
       subst hT'
       exact hky' v' u' hr'
    ·subst e
     rw [gx,hgx]
     refine ⟨fun _=>⟨X,R,F9z h3 (fun _ p hp _=>by cases hp) (fun p hp=>by cases hp) hx,⟨v0,u0,hr0⟩,fun v u hr=>?_⟩,fun e=>(by cases e)⟩
     have hk1:=hk v u hr
     rw [gy,hgy] at hk1
     rw [← Dyz h2 (fun p _ q hq=>by cases hq)]
     exact hk1.2 rfl

theorem Cbz (s:S)(dst:Option Nat)(v:AV)(u:Option (Nat×List AV)):s.put dst v u=s.putL dst v u.toList:=by
 have h:updO s.H u=updL s.H u.toList:=by
  cases u with
  | none=>funext id;simp [updO,updL,hk]
  | some p =>
   obtain ⟨i,cs⟩:=p
   funext id
   simp only [updO,updL,Option.toList,hk,upd]
   by_cases hi:id=i<;>simp [hi]
 cases dst with
 | none=>exact congrArg (S.mk s.σ) h
 | some d=>exact congrArg (S.mk (upd s.σ d v)) h

theorem Sees.putL {dst:Option Nat}{v:AV}{u:List (Nat×List AV)}(h:Sees F s)(hu:∀ p∈u,F p.1=none):Sees F (s.putL dst v u):=by
 intro id cs hc
 refine (B2z fun p hp he=>?_).trans (h id cs hc)
 have:=hu p hp
 rw [he,hc] at this
 cases this

theorem qone_step {E:Env}{M:Nat→Option Nat}{a:Act}{w:World}{o:Oper}{ao:AOper}{ops:Array Oper}{K':Act→World→Prop}{Q:Exit→Act→World→Prop}{i:Nat}
  (hi:ops[i]?=some o) (h:St E M s a w) (hF:Sees F s) (hZ:∀ id∈Z,F id=none) (hl:lowOper P E.nt ops o=some ao)
  (hK:∀ a w M s,St E M s a w→Sees F s→K s→K' a w) (hs:qone P E.pin F Z ao K s):wpOpIn (FW E.nt.rnd) 3 P ops Q i K' a w:=by
 have hl':=hl
 unfold lowOper at hl
 split at hl
 ·rename_i op gd hop hgd hd
  simp only [Option.some.injEq] at hl
  subst hl
  unfold qone at hs
  split at hs
  ·rename_i g hg
   have hw:=Ciz h hgd hg
   unfold wpOpIn
   rw [hi]
   simp only [hw]
   cases g with
   | true =>
    simp only [if_true]
    obtain ⟨X,R,hcan,_,hk⟩:=hs.1 rfl
    have hnone:∀ v u,R v u→∀ p∈u,F p.1=none:=fun v u hr p hp=>by
     rcases ocan_ids hcan hr p hp with ⟨_,hz,_⟩|⟨_,hn,_⟩
     ·exact hZ _ hz
     ·cases hf:F p.1 with
      | none=>rfl
      | some cs=>rw [hF _ _ hf] at hn;cases hn
    refine Dqz (K:=fun s'=>Sees F s'∧K s') h hl' (fun a w ⟨M',s',h1,h2,h3⟩=>hK a w M' s' h1 h2 h3) ?_
    obtain ⟨hX,hR,h3⟩:=hcan
    cases op
    case call f args =>
     simp only at h3
     simp only [astep]
     intro E' M1 a1 w1 hp hdst hst
     refine (h3.2.2 E' M1 s a1 w1 args hp hdst hst hF (fun p hp=>(hX p hp).1) h3.1 rfl).mono fun e w' ⟨M',v',v,u,hr,he,hst'⟩=>?_
     exact ⟨M',_,v',⟨Sees.putL hF (hnone v u hr),hk v u hr⟩,he,hst'⟩
    case isnil neg x =>
     simp only at h3
     obtain ⟨_,v,u,h5,_⟩:=h3
     simp [arun] at h5
    case raw op =>
     simp only at h3
     obtain ⟨_,v,u,h5,_⟩:=h3
     simp [arun] at h5
    all_goals
     simp only at h3
     obtain ⟨_,v,u,h5,h6,rfl⟩:=h3
     have hr0:=hR v u.toList ⟨rfl,rfl⟩
     have h7:=arun_mono (pin:=E.pin) (H:=s.H) (gv_sees hF) h5 (fun id cs hu=>by
      subst hu
      rcases hr0 (id,cs) (by simp) with ⟨hc,hz,hn⟩|⟨_,hn,_⟩
      ·refine .inr ?_
       rw [hc]
       simp only [gv,mixH,if_true]
       rw [if_pos hz]
       exact hn
      ·exact .inl hn)
     simp only [astep]
     rw [show (arun s E.pin _ _)=some (v,u) from h7]
     show Sees F (s.put o.dst v u)∧K (s.put o.dst v u)
     rw [Cbz]
     exact ⟨Sees.putL hF (hnone _ _ ⟨rfl,rfl⟩),hk _ _ ⟨rfl,rfl⟩⟩
   | false =>
    simp only [Bool.false_eq_true,if_false]
    have:=hs.2 rfl
    have hst:=h.skip (dst:=o.dst) hd
    rw [Cbz] at hst
    exact ⟨fun _ _=>trivial,hK _ _ M _ hst (Sees.putL hF fun p hp=>by cases hp) this⟩
  ·exact hs.elim
 ·cases hl


def nth (al:List AOper)(i:Nat):AOper:=(al[i]?).getD ⟨none,.mv (.tmp 0),none,[]⟩

def maskOf (ms:List Nat):List Nat→Nat
 | []=>0
 | j::r=>(maskOf ms r) ||| (1 <<< j) ||| (ms.getD j 0)
def masksFrom (ms:List Nat):List AOper→List Nat
 | []=>ms
 | o::r=>masksFrom (ms++[maskOf ms o.after]) r

inductive Anc (al:List AOper):Nat→Nat→Prop
 | one {i j:Nat}:j∈(nth al i).after→Anc al i j
 | more {i k j:Nat}:k∈(nth al i).after→Anc al k j→Anc al i j

theorem E8z {al:List AOper}{ms:List Nat}(hm:∀ i j,(ms.getD i 0).testBit j=true→Anc al i j){i:Nat}:∀ {af:List Nat} {j:Nat},(∀ k∈af,k∈(nth al i).after)→(maskOf ms af).testBit j=true→Anc al i j
 | [],j,_,h=>by simp [maskOf] at h
 | k::r,j,ha,h=>by
  simp only [maskOf,Nat.testBit_or,Bool.or_eq_true] at h
  rcases h with (h|h)|h
  ·exact E8z hm (fun k hk=>ha k (by simp [hk])) h
  ·have:j=k:=by
    rw [Nat.one_shiftLeft,Nat.testBit_two_pow] at h
    exact (of_decide_eq_true h).symm
   subst this
   exact .one (ha j (by simp))
  ·exact .more (ha k (by simp)) (hm k j h)

theorem Dez {al:List AOper}:∀ {post pre:List AOper} {ms:List Nat},al=pre++post→ms.length=pre.length→(∀ i j,(ms.getD i 0).testBit j=true→Anc al i j)→∀ i j,((masksFrom ms post).getD i 0).testBit j=true→Anc al i j
 | [],_,ms,_,_,h=>h
 | o::r,pre,ms,hal,hl,h=>by
  refine Dez (post:=r) (pre:=pre++[o]) (by rw [hal];simp) (by simp [hl]) fun i j hij=>?_
  rcases Nat.lt_trichotomy i ms.length with hi|hi|hi
  ·refine h i j ?_
   simpa [List.getD,List.getElem?_append_left hi] using hij
  ·subst hi
   have ho:nth al ms.length=o:=by subst hal;simp [nth,hl]
   refine E8z h (fun k hk=>?_) (i:=ms.length) (af:=o.after) (by simpa [List.getD] using hij)
   rw [ho];exact hk
  ·have:(ms++[maskOf ms o.after]).getD i 0=0:=by
    simp only [List.getD]
    rw [List.getElem?_eq_none (by simp;omega)]
    rfl
   rw [this] at hij
   simp at hij

def drawOk (Z:List Nat)(n:Nat)(al:List AOper):Bool :=
 (List.range al.length).all fun i=>(nth al i).after.all (fun j=>decide (j<i))&&(List.range i).all fun j=>((masksFrom [] al).getD i 0).testBit j || (decide (i<n)&&(nth al j).apart Z (nth al i))

theorem Frz {n:Nat}{al:List AOper}(h:drawOk Z n al=true){i:Nat}(hi:i<al.length) :
  (∀ j∈(nth al i).after,j<i)∧∀ j,j<i→¬ Anc al i j→i<n∧(nth al j).apart Z (nth al i)=true:=by
 have:=List.all_eq_true.1 h i (List.mem_range.2 hi)
 rw [Bool.and_eq_true] at this
 refine ⟨fun j hj=>by simpa using List.all_eq_true.1 this.1 j hj,fun j hj hn=>?_⟩
 have:=List.all_eq_true.1 this.2 j (List.mem_range.2 hj)
 rw [Bool.or_eq_true] at this
 rcases this with h|h
 ·exact absurd (Dez (al:=al) (post:=al) (pre:=[]) rfl rfl (fun i j h=>by simp at h) i j h) hn
 ·simpa using h

theorem astep_mono {o:AOper}{K':S→Prop}(h:∀ s,K s→K' s)(hs:astep P pin o K s):astep P pin o K' s:=by
 unfold astep at *
 cases hop:o.op
 case call f args =>
  rw [hop] at hs
  intro E M a w hp hd hst
  exact (hs E M a w hp hd hst).mono fun e w' ⟨M',s',v,hk,he,h1⟩=>⟨M',s',v,h _ hk,he,h1⟩
 case isnil neg x =>
  rw [hop] at hs
  exact nilStep_mono h hs
 case raw op =>
  rw [hop] at hs
  exact rawOwed_mono h hs
 all_goals
  rw [hop] at hs
  simp only at hs ⊢
  split at hs
  ·rename_i r hr
   first|exact h _ hs|(rw [hr];exact h _ hs)
  ·exact hs.elim

def gstep (P:Program)(pin:Nat)(o:AOper)(K:S→Prop)(s:S):Prop :=
 match aguard s o.guard with
 | some g=>(g=true→astep P pin o K s)∧(g=false→K (s.put o.dst .und none))
 | none=>False

def qMix (P:Program)(pin:Nat)(F:Nat→Option (List AV))(Z:List Nat)(n:Nat)(al:List AOper):List Nat→(S→Prop)→S→Prop
 | [],K,s=>K s
 | i::r,K,s=>if i<n then qone P pin F Z (nth al i) (qMix P pin F Z n al r K) s else gstep P pin (nth al i) (qMix P pin F Z n al r K) s

theorem F7z {n:Nat}{al:List AOper}{i:Nat}(hin:i<n):∀ {l1 l2:List Nat} {s:S},(∀ j∈l1,j<n∧(nth al j).apart Z (nth al i)=true)→qMix P pin F Z n al (l1++i::l2) K s→qone P pin F Z (nth al i) (qMix P pin F Z n al (l1++l2) K) s
 | [],_,_,_,h=>by simpa [qMix,hin] using h
 | y::l1,l2,s,ha,h=>by
  have hy:=ha y (by simp)
  simp only [List.cons_append,qMix,if_pos hy.1] at h ⊢
  exact qone_swap hy.2 (qone_mono (fun s hs=>F7z hin (fun z hz=>ha z (by simp [hz])) hs) h)

theorem qMix_of {n:Nat}:∀ {post pre:List AOper} {s:S} {al:List AOper},al=pre++post→n≤pre.length→aSeq P pin post K s→qMix P pin F Z n al (List.range' pre.length post.length) K s
 | [],_,s,al,_,_,h=>h
 | o::r,pre,s,al,hal,hn,h=>by
  simp only [List.length_cons,List.range'_succ,qMix]
  rw [if_neg (by omega)]
  have ho:nth al pre.length=o:=by subst hal;simp [nth]
  rw [ho]
  have ih:∀ s,aSeq P pin r K s→qMix P pin F Z n al (List.range' (pre.length+1) r.length) K s:=fun s hs=>by
   have:=qMix_of (n:=n) (post:=r) (pre:=pre++[o]) (s:=s) (al:=al) (by rw [hal];simp) (by simp;omega) hs
   simpa using this
  simp only [aSeq] at h
  unfold gstep
  cases hg:aguard s o.guard with
  | none=>rw [hg] at h;exact h.elim
  | some g =>
   rw [hg] at h
   exact ⟨fun e=>astep_mono ih (h.1 e),fun e=>ih _ (h.2 e)⟩

theorem qMix_of' {n:Nat}:∀ {mid pre post:List AOper} {s:S} {al:List AOper},al=pre++mid++post→n=pre.length+mid.length→qSeq P pin F Z mid (aSeq P pin post K) s→qMix P pin F Z n al (List.range' pre.length (mid.length+post.length)) K s
 | [],pre,post,s,al,hal,hn,h=>by
  simpa using qMix_of (P:=P) (pin:=pin) (F:=F) (Z:=Z) (K:=K) (n:=n) (post:=post) (pre:=pre) (s:=s) (al:=al) (by simpa using hal) (by simp at hn;omega) h
 | o::r,pre,post,s,al,hal,hn,h=>by
  simp only [List.length_cons] at hn
  rw [List.length_cons,show r.length+1+post.length=(r.length+post.length)+1 by omega,List.range'_succ]
  simp only [qMix]
  rw [if_pos (by omega)]
  have ho:nth al pre.length=o:=by subst hal;simp [nth]
  rw [ho]
  refine qone_mono (fun s hs=>?_) h
  have:=qMix_of' (n:=n) (mid:=r) (pre:=pre++[o]) (post:=post) (s:=s) (al:=al) (by rw [hal];simp) (by simp;omega) hs
  simpa using this

theorem Ccz {nt:NT}{ops:Array Oper}:∀ {l:List Oper} {al:List AOper},lowOpers P nt ops l=some al→al.length=l.length∧∀ i o,l[i]?=some o→lowOper P nt ops o=some (nth al i)
 | [],al,h=>by simp [lowOpers] at h;subst h;simp
 | x::r,al,h=>by
  simp only [lowOpers] at h
  split at h
  ·rename_i y l' hy hl'
   simp only [Option.some.injEq] at h
   subst h
   obtain ⟨h1,h2⟩:=Ccz hl'
   refine ⟨by simp [h1],fun i o hi=>?_⟩
   cases i with
   | zero=>simp at hi;subst hi;simpa [nth] using hy
   | succ i=>simpa [nth] using h2 i o (by simpa using hi)
  ·cases h

def litOp:AOp→AOp
 | .bslice sz zs ps n=>if n=0 then .bslice sz zs ps n else .blit sz zs ps n
 | ao=>ao
def litA (o:AOper):AOper:=⟨o.dst,litOp o.op,o.guard,o.after⟩

theorem qone_blit {E:Env}{M:Nat→Option Nat}{a:Act}{w:World}{o:Oper}{dst:Option Nat}{gd:Option (Nat×Bool)}{af:List Nat}{sz n:Nat}{zs:List Value}{qs:List (Nat×Operand)}{ops:Array Oper}{K':Act→World→Prop}{Q:Exit→Act→World→Prop}{i:Nat}
  (hi:ops[i]?=some o) (h:St E M s a w) (hF:Sees F s) (hl:lowOper P E.nt ops o=some ⟨dst,.bslice sz zs qs n,gd,af⟩)
  (hK:∀ a w M s,St E M s a w→Sees F s→K s→K' a w) (hs:qone P E.pin F Z ⟨dst,.blit sz zs qs n,gd,af⟩ K s):wpOpIn (FW E.nt.rnd) 3 P ops Q i K' a w:=by
 unfold lowOper at hl
 split at hl
 ·rename_i op gd' hop hgd hd
  simp only [Option.some.injEq,AOper.mk.injEq] at hl
  obtain ⟨rfl,rfl,rfl,rfl⟩:=hl
  unfold qone at hs
  split at hs
  ·rename_i g hg
   have hw:=Ciz h hgd hg
   unfold wpOpIn
   rw [hi]
   simp only [hw]
   cases g with
   | true =>
    simp only [if_true]
    obtain ⟨X,R,hcan,_,hk⟩:=hs.1 rfl
    obtain ⟨hX,hR,h3⟩:=hcan
    simp only at h3
    obtain ⟨_,v,u,h5,h6,rfl⟩:=h3
    have h7:arun s E.pin (o.dst.getD 0) (.blit sz zs qs n)=some (v,u):=by
     have hev:∀ G x,S.ev ⟨s.σ,G⟩ x=s.ev x:=fun G x=>ev_H s.σ G s.H x
     simp only [arun,hev] at h5 ⊢
     exact h5
    have hu:u=none:=by
     simp only [arun,Option.map_eq_some_iff,Prod.mk.injEq] at h7
     obtain ⟨_,_,_,e⟩:=h7
     exact e.symm
    subst hu
    have hbs:∃ t ps,o.op=.buildSlice t n ps:=by
     revert hop
     cases o.op<;>intro hop<;>simp only [lowOp] at hop
     case buildSlice t m ps =>
      split at hop
      ·split at hop
       ·split at hop
        ·simp only [Option.some.injEq,AOp.bslice.injEq] at hop
         obtain ⟨_,_,_,rfl⟩:=hop
         exact ⟨_,_,rfl⟩
        ·cases hop
       ·cases hop
      ·cases hop
     case slice t x lo hi mx =>
      exfalso
      cases mx with
      | some mx =>
       cases hi with
       | none=>simp at hop
       | some hi =>
        simp only at hop
        split at hop
        ·cases hz:sizeAt P ‹_›<;>simp [hz] at hop
        ·cases hop
      | none =>
       simp only at hop
       split at hop
       ·simp at hop
       ·simp at hop
       ·obtain ⟨_,_,_,_,_,e⟩:=A6z hop
        cases e
     case call c =>
      exfalso
      have:=A9z (C7z hop (fun _ h=>by cases h)) (fun _ _ _ h=>by cases h)
      unfold lowCall0 at this
      (repeat' (split at this))<;>simp at this
     all_goals
      exfalso
      first
       | (simp at hop;done)
       | ((repeat' (split at hop))<;>simp at hop;done)
       | (simp only [lowBin,lowSliceP,Option.map_eq_some_iff] at hop;(repeat' (split at hop))<;>simp at hop;done)
       | (unfold lowBin at hop;(repeat' (split at hop))<;>simp at hop;done)
       | (obtain ⟨_,_,hop⟩:=Option.map_eq_some_iff.1 hop;simp at hop;done)
    obtain ⟨t,ps,hbop⟩:=hbs
    rw [hbop] at hop
    obtain ⟨M',w',v',ht,hrun,hden⟩:=sound_blit h hbop hop h7
    have hst:=h.put (dst:=o.dst) hd ht hden
    rcases hrun with hrun|⟨hrun,rfl⟩
    ·refine Enz hrun ?_
     have hsee:Sees F (s.put o.dst v none):=by rw [Cbz];exact Sees.putL hF fun p hp=>by cases hp
     exact hK _ _ M' _ hst hsee (by rw [Cbz];exact hk v [] ⟨rfl,rfl⟩)
    ·refine Goz hrun ?_
     have hsee:Sees F (s.put o.dst v none):=by rw [Cbz];exact Sees.putL hF fun p hp=>by cases hp
     exact hK _ _ M' _ hst hsee (by rw [Cbz];exact hk v [] ⟨rfl,rfl⟩)
   | false =>
    simp only [Bool.false_eq_true,if_false]
    have:=hs.2 rfl
    have hst:=h.skip (dst:=o.dst) hd
    rw [Cbz] at hst
    exact ⟨fun _ _=>trivial,hK _ _ M _ hst (Sees.putL hF fun p hp=>by cases hp) this⟩
  ·exact hs.elim
 ·cases hl

theorem qone_low {E:Env}{M:Nat→Option Nat}{a:Act}{w:World}{o:Oper}{ao ao0:AOper}{ops:Array Oper}{K':Act→World→Prop}{Q:Exit→Act→World→Prop}{i:Nat}
  (hi:ops[i]?=some o) (h:St E M s a w) (hF:Sees F s) (hZ:∀ id∈Z,F id=none) (hl:lowOper P E.nt ops o=some ao0) (hao:ao=ao0∨ao=litA ao0)
  (hK:∀ a w M s,St E M s a w→Sees F s→K s→K' a w) (hs:qone P E.pin F Z ao K s):wpOpIn (FW E.nt.rnd) 3 P ops Q i K' a w:=by
 rcases hao with rfl|rfl
 ·exact qone_step hi h hF hZ hl hK hs
 ·obtain ⟨dst,op,gd,af⟩:=ao0
  by_cases hb:∃ sz zs ps n,n≠0∧op=.bslice sz zs ps n
  ·obtain ⟨sz,zs,ps,n,hn,rfl⟩:=hb
   have e:litA ⟨dst,.bslice sz zs ps n,gd,af⟩=⟨dst,.blit sz zs ps n,gd,af⟩:=by simp [litA,litOp,hn]
   rw [e] at hs
   exact qone_blit hi h hF hl hK hs
  ·have e:litA ⟨dst,op,gd,af⟩=⟨dst,op,gd,af⟩:=by
    unfold litA
    have:litOp op=op:=by
     unfold litOp
     split
     ·split
      ·rfl
      ·rename_i hn
       exact absurd ⟨_,_,_,_,hn,rfl⟩ hb
     ·rfl
    rw [this]
   rw [e] at hs
   exact qone_step hi h hF hZ hl hK hs

structure Lows (P:Program) (nt:NT) (n:Nat) (ops:Array Oper) (al:List AOper):Prop where
 len:al.length=ops.toList.length
 each:∀ i o,ops.toList[i]?=some o→∃ ao0,lowOper P nt ops o=some ao0∧(nth al i).after=ao0.after∧(nth al i=ao0∨(i<n∧nth al i=litA ao0))

def left (n:Nat)(listed:Array Bool):List Nat:=(List.range n).filter fun i=>!listed.getD i true

theorem C6z {n:Nat}{listed:Array Bool}{i:Nat}:i∈left n listed↔i<n∧listed.getD i true=false:=by simp [left]

theorem Cdz {listed:Array Bool}{i j:Nat}(h:j≠i)(d:Bool):(listed.setIfInBounds i true).getD j d=listed.getD j d:=by
 simp only [Array.getD_eq_getD_getElem?,Array.getElem?_setIfInBounds,if_neg (Ne.symm h)]

theorem getD_set_eq {listed:Array Bool}{i:Nat}:(listed.setIfInBounds i true).getD i true=true:=by
 simp only [Array.getD_eq_getD_getElem?,Array.getElem?_setIfInBounds,if_pos]
 split<;>simp

theorem Fbz {n:Nat}{listed:Array Bool}{i:Nat}(h:i∈left n listed) :
  ∃ l1 l2,left n listed=l1++i::l2∧(∀ j∈l1,j<i∧listed.getD j true=false)∧left n (listed.setIfInBounds i true)=l1++l2∧∀ j∈l2,i<j:=by
 obtain ⟨hi,hf⟩:=C6z.1 h
 have hr:List.range n=List.range i++i::List.range' (i+1) (n-i-1):=by
  rw [List.range_eq_range',List.range_eq_range',show n=i+((n-i-1)+1) by omega,← List.range'_append_1,List.range'_succ]
  simp
 refine ⟨(List.range i).filter fun j=>!listed.getD j true,(List.range' (i+1) (n-i-1)).filter fun j=>!listed.getD j true,?_,fun j hj=>?_,?_,fun j hj=>by have:=(List.mem_range'_1.1 (List.mem_filter.1 hj).1).1;omega⟩
 ·unfold left
  rw [hr,List.filter_append,List.filter_cons,if_pos (by rw [hf];rfl)]
 ·simpa using hj
 ·unfold left
  rw [hr,List.filter_append,List.filter_cons,if_neg (by rw [getD_set_eq];simp)]
  congr 1
  ·exact List.filter_congr fun j hj=>by rw [Cdz (by have:=List.mem_range.1 hj;omega)]
  ·exact List.filter_congr fun j hj=>by rw [Cdz (by have:=(List.mem_range'_1.1 hj).1;omega)]

theorem E7z {n:Nat}{nt:NT}{ops:Array Oper}{al:List AOper}{listed:Array Bool}(hl:Lows P nt n ops al){i:Nat} :
  i∈Region.ready .any ops listed↔i∈left ops.size listed∧∀ j∈(nth al i).after,listed.getD j false=true:=by
 have h2:=hl.each
 simp only [Region.ready,left,List.mem_filter,List.mem_range,Bool.and_eq_true,Bool.not_eq_true']
 constructor
 ·rintro ⟨hi,hf,ha⟩
  refine ⟨⟨hi,hf⟩,fun j hj=>?_⟩
  have ho:ops.toList[i]?=some ops[i]:=by simp [hi]
  obtain ⟨ao0,hlo,haf,_⟩:=h2 i _ ho
  unfold lowOper at hlo
  split at hlo
  ·simp only [Option.some.injEq] at hlo
   rw [haf,← hlo] at hj
   simp only [List.mem_map,List.mem_filter] at hj
   obtain ⟨e,⟨he,hb⟩,rfl⟩:=hj
   rw [Array.getElem?_eq_getElem hi] at ha
   simp only [Option.map_some,Option.getD_some] at ha
   have:=Array.all_eq_true_iff_forall_mem.1 ha e (by simpa using he)
   simpa [hb] using this
  ·cases hlo
 ·rintro ⟨⟨hi,hf⟩,ha⟩
  refine ⟨hi,hf,?_⟩
  have ho:ops.toList[i]?=some ops[i]:=by simp [hi]
  obtain ⟨ao0,hlo,haf,_⟩:=h2 i _ ho
  unfold lowOper at hlo
  split at hlo
  ·simp only [Option.some.injEq] at hlo
   rw [Array.getElem?_eq_getElem hi]
   simp only [Option.map_some,Option.getD_some]
   refine Array.all_eq_true_iff_forall_mem.2 fun e he=>?_
   cases hb:Region.binds .any e with
   | false=>simp
   | true =>
    simp only [Bool.not_true,Bool.false_or]
    refine ha _ ?_
    rw [haf,← hlo]
    simp only [List.mem_map,List.mem_filter]
    exact ⟨e,⟨by simpa using he,hb⟩,rfl⟩
  ·cases hlo

theorem ready_none {n:Nat}{nt:NT}{ops:Array Oper}{al:List AOper}{listed:Array Bool}(hl:Lows P nt n ops al)(hok:drawOk Z n al=true)(hsz:listed.size=ops.size)
  (hr:Region.ready .any ops listed=[]):left ops.size listed=[]:=by
 have h1:=hl.len
 cases hc:left ops.size listed with
 | nil=>rfl
 | cons x r =>
  have hx:x∈left ops.size listed:=by rw [hc];simp
  obtain ⟨l1,l2,h3,h4,_,_⟩:=Fbz hx
  have hnil:∀ j,j<x→listed.getD j true=true:=by
   intro j hj
   cases hg:listed.getD j true with
   | true=>rfl
   | false =>
    have hm:j∈left ops.size listed:=C6z.2 ⟨by have:=(C6z.1 hx).1;omega,hg⟩
    obtain ⟨m1,m2,h5,h6,_,_⟩:=Fbz hm
    rw [hc] at h5
    cases m1 with
    | nil=>simp at h5;omega
    | cons y m1=>simp at h5;have:=(h6 y (by simp)).1;omega
  have:x∈Region.ready .any ops listed:=(E7z hl).2 ⟨hx,fun j hj=>by
   have hjx:=(Frz hok (by rw [h1];simpa using (C6z.1 hx).1)).1 j hj
   have:=hnil j hjx
   have hlt:j<listed.size:=by have:=(C6z.1 hx).1;omega
   simpa [Array.getD_eq_getD_getElem?,hlt] using this⟩
  rw [hr] at this
  cases this

theorem gstep_step {E:Env}{M:Nat→Option Nat}{a:Act}{w:World}{o:Oper}{ao:AOper}{ops:Array Oper}{K':Act→World→Prop}{Q:Exit→Act→World→Prop}{i:Nat}
  (hi:ops[i]?=some o) (h:St E M s a w) (hl:lowOper P E.nt ops o=some ao)
  (hK:∀ a w,Told E K a w→K' a w) (hs:gstep P E.pin ao K s):wpOpIn (FW E.nt.rnd) 3 P ops Q i K' a w:=by
 have hl':=hl
 unfold lowOper at hl
 split at hl
 ·rename_i op gd hop hgd hd
  simp only [Option.some.injEq] at hl
  subst hl
  unfold gstep at hs
  split at hs
  ·rename_i g hg
   have hw:=Ciz h hgd hg
   unfold wpOpIn
   rw [hi]
   simp only [hw]
   cases g with
   | true =>
    simp only [if_true]
    exact Dqz h hl' hK (hs.1 rfl)
   | false =>
    simp only [Bool.false_eq_true,if_false]
    exact ⟨fun _ _=>trivial,hK _ _ ⟨M,_,h.skip hd,hs.2 rfl⟩⟩
  ·exact hs.elim
 ·cases hl

theorem qAny {n:Nat}{E:Env}{ops:Array Oper}{al:List AOper}{Q:Exit→Act→World→Prop}(hl:Lows P E.nt n ops al)(hok:drawOk Z n al=true)(hZ:∀ id∈Z,F id=none)
  (hQ:∀ a w,Told E K a w→Q .normal a w):∀ (fuel:Nat) (listed:Array Bool) (M:Nat→Option Nat) (s:S) (a:Act) (w:World),listed.size=ops.size→(left ops.size listed).length≤fuel→St E M s a w→((∃ i∈left ops.size listed,i<n)→Sees F s)→(∀ i,i<ops.size→listed.getD i true=true→∀ j∈(nth al i).after,listed.getD j false=true) →
  qMix P E.pin F Z n al (left ops.size listed) K s→wpAnyIn (FW E.nt.rnd) 3 P .any ops Q fuel listed a w
 | 0,listed,M,s,a,w,hsz,hf,h,_,_,hs=>by
  have hnil:left ops.size listed=[]:=List.eq_nil_of_length_eq_zero (Nat.le_zero.1 hf)
  rw [hnil] at hs
  refine ⟨?_,hQ _ _ ⟨M,s,h,hs⟩⟩
  refine List.eq_nil_iff_forall_not_mem.2 fun i hi=>?_
  have:=((E7z hl).1 hi).1
  rw [hnil] at this
  cases this
 | fuel+1,listed,M,s,a,w,hsz,hf,h,hF,hcl,hs=>by
  refine ⟨fun hr=>?_,fun i hi=>?_⟩
  ·rw [ready_none hl hok hsz hr] at hs
   exact hQ _ _ ⟨M,s,h,hs⟩
  ·have h1:=hl.len
   have h2:=hl.each
   obtain ⟨hil,hia⟩:=(E7z hl).1 hi
   obtain ⟨l1,l2,h3,h4,h5,h8⟩:=Fbz hil
   have hin:=(C6z.1 hil).1
   have hap:∀ j∈l1,i<n∧(nth al j).apart Z (nth al i)=true:=fun j hj=>by
    refine (Frz hok (by rw [h1];simpa using hin)).2 j (h4 j hj).1 fun hja=>?_
    have hanc:∀ i j,Anc al i j→i<ops.size→(∀ k∈(nth al i).after,listed.getD k false=true)→listed.getD j false=true:=by
     intro i j hA
     induction hA with
     | one hm=>exact fun _ hk=>hk _ hm
     | more hm _ ih =>
      intro hi1 hk
      have hk1:=hk _ hm
      have hlt1:∀ k,listed.getD k false=true→k<ops.size:=fun k hk=>by
       rcases Nat.lt_or_ge k listed.size with h|h
       ·omega
       ·simp [Array.getD_eq_getD_getElem?,Array.getElem?_eq_none h] at hk
      have h9:=hlt1 _ hk1
      exact ih h9 (hcl _ h9 (by
       have hlt2:=h9
       rw [← hsz] at hlt2
       simpa [Array.getD_eq_getD_getElem?,hlt2] using hk1))
    have hja':=hanc i j hja hin hia
    have hlt:j<listed.size:=by have:=(h4 j hj).1;omega
    have h6:=(h4 j hj).2
    simp [Array.getD_eq_getD_getElem?,hlt] at hja' h6
    rw [hja'] at h6
    cases h6
   have ho:ops[i]?=some ops[i]:=by simp [hin]
   have next:∀ a' w' M' s',St E M' s' a' w'→((∃ i∈l1++l2,i<n)→Sees F s')→qMix P E.pin F Z n al (l1++l2) K s'→wpAnyIn (FW E.nt.rnd) 3 P .any ops Q fuel (listed.setIfInBounds i true) a' w':=fun a' w' M' s' hst hF' hk=>by
    refine qAny hl hok hZ hQ fuel _ M' s' a' w' (by simpa using hsz) ?_ hst ?_ ?_ ?_
    ·rw [h5]
     rw [h3] at hf
     simp at hf ⊢
     omega
    ·rw [h5]
     exact hF'
    ·intro k hk1 hk2 j hj
     have hmono:∀ q,listed.getD q false=true→(listed.setIfInBounds i true).getD q false=true:=fun q hq=>by
      by_cases hqi:q=i
      ·subst hqi
       have hlq:q<listed.size:=by omega
       simp [Array.getD_eq_getD_getElem?,hlq]
      ·rw [Cdz hqi];exact hq
     by_cases hki:k=i
     ·subst hki;exact hmono j (hia j hj)
     ·rw [Cdz hki] at hk2
      exact hmono j (hcl k hk1 hk2 j hj)
    ·rw [h5]
     exact hk
   rw [h3] at hs hF
   by_cases hn:i<n
   ·obtain ⟨ao0,hlo,_,hao⟩:=h2 i _ (show ops.toList[i]?=some ops[i] by simp [hin])
    exact qone_low ho h (hF ⟨i,by simp,hn⟩) hZ hlo (hao.imp id And.right) (fun a w M s a1 a2 a3=>next a w M s a1 (fun _=>a2) a3) (F7z hn (fun j hj=>⟨by have:=(h4 j hj).1;omega,(hap j hj).2⟩) hs)
   ·cases l1 with
    | cons j l1=>exact absurd (hap j (by simp)).1 hn
    | nil =>
     simp only [List.nil_append,qMix,if_neg hn] at hs
     obtain ⟨ao0,hlo,_,hao⟩:=h2 i _ (show ops.toList[i]?=some ops[i] by simp [hin])
     have hao:nth al i=ao0:=hao.resolve_right (fun h=>hn h.1)
     exact gstep_step ho h (hao ▸ hlo) (fun a w ⟨M,s,a1,a2⟩=>next a w M s a1 (fun ⟨j,hj,hjn⟩=>by have:=h8 j (by simpa using hj);omega) a2) hs

theorem St.drawn {E:Env}{M:Nat→Option Nat}{a:Act}{w:World}(h:St E M s a w)(n:Nat):St E M s a { w with drawn:=n }:=by
 have t:Tr E M s.H w M s.H { w with drawn:=n }:=Tr.same h.hok h.old rfl rfl rfl rfl
 exact ⟨h.defers.keeps t.keeps,h.size,fun t'=>Den.keeps t.keeps (h.slots t'),t.hok,t.old⟩

theorem left_all (n:Nat):left n (Array.replicate n false)=List.range n:=by
 unfold left
 rw [List.filter_eq_self]
 intro i hi
 have:i<n:=List.mem_range.1 hi
 simp [Array.getD_eq_getD_getElem?,this]

theorem Lows.plain {nt:NT}{n:Nat}{ops:Array Oper}{al:List AOper}(h:lowOpers P nt ops ops.toList=some al):Lows P nt n ops al:=by
 obtain ⟨h1,h2⟩:=Ccz h
 exact ⟨h1,fun i o ho=>⟨_,h2 i o ho,rfl,.inl rfl⟩⟩
theorem awp_drawF {Q:Exit→S→Prop}{mid post:List AOper}(F:Nat→Option (List AV))(Z:List Nat)(hm:P.follows .mixedOrders=true)(hok:drawOk Z mid.length (mid++post)=true)(hF:Sees F s)(hZ:∀ id∈Z,F id=none)
  (h:qSeq P pin F Z mid (aSeq P pin post (Q .normal)) s):awp P pin (.draw (mid++post)) Q s:=by
 intro E M a w cc hp hl hs
 subst hp
 cases cc<;>simp only [lowCode] at hl<;>first
  | (exfalso;first|(simp at hl;done)|((repeat' (split at hl))<;>simp at hl;done)|(simp only [Option.map_eq_some_iff] at hl;obtain ⟨_,_,hl⟩:=hl;(try split at hl)<;>simp at hl;done))
  | skip
 rename_i id os dr
 simp only [Option.map_eq_some_iff] at hl
 obtain ⟨l,hl1,hl2⟩:=hl
 cases dr with
 | false=>simp at hl2
 | true =>
  simp only [if_true,ACode.draw.injEq] at hl2
  subst hl2
  have hlen:mid.length+post.length=os.size:=by simpa using (Ccz hl1).1
  refine wpIn_region_any hm (qAny (F:=F) (Z:=Z) (Lows.plain hl1) hok hZ (fun a w h=>h) os.size _ M s a _ (by simp) (by simp [left_all]) (hs.drawn _) (fun _=>hF) (fun i hi hi2=>by simp [Array.getD_eq_getD_getElem?,hi] at hi2) ?_)
  rw [left_all,← hlen,List.range_eq_range']
  exact qMix_of' (pre:=[]) (mid:=mid) (post:=post) (by simp) (by simp) h

theorem A4z {Q:Exit→S→Prop}{mid post:List AOper}(hm:P.follows .mixedOrders=true)(hok:drawOk [] mid.length (mid++post)=true)(h:qSeq P pin s.H [] mid (aSeq P pin post (Q .normal)) s):awp P pin (.draw (mid++post)) Q s :=
 awp_drawF s.H [] hm hok (fun _ _ h=>h) (fun _ h=>by cases h) h
end
end Vw
namespace Vw
open Go
variable [Inhabited GlobT]

section
variable {P:Program} {pin:Nat} {F:Nat→Option (List AV)} {Z:List Nat} {K:S→Prop} {s:S} {σ:List (Nat×AV)} {H HF:List (Nat×List AV)}

def notIn:List Nat→Nat→Prop
 | [],_=>True
 | z::r,id=>¬ id=z∧notIn r id
theorem E4z:∀ {Z:List Nat} {id:Nat},notIn Z id↔id ∉ Z
 | [],_=>by simp [notIn]
 | z::r,id=>by simp [notIn,E4z (Z:=r)]
theorem notIn_nil (id:Nat):notIn [] id=True:=rfl
theorem notIn_cons (z id:Nat)(r:List Nat):notIn (z::r) id=(¬ id=z∧notIn r id):=rfl

def freshD:List (Nat×List AV)→Nat→Prop
 | [],_=>True
 | p::r,d=>¬ p.1 / 16=d∧freshD r d
theorem freshD_nil (d:Nat):freshD [] d=True:=rfl
theorem freshD_cons (id d:Nat)(cs:List AV)(r:List (Nat×List AV)):freshD ((id,cs)::r) d=(¬ id / 16=d∧freshD r d):=rfl
theorem Cez:∀ {H:List (Nat×List AV)} {d:Nat},freshD H d→∀ k,k<16→hk H (16*d+k)=none
 | [],_,_,_,_=>rfl
 | p::r,d,h,k,hk'=>by
  obtain ⟨h1,h2⟩:=h
  simp only [hk]
  rw [if_neg (fun he=>h1 (by omega))]
  exact Cez h2 k hk'

theorem G1z (d:Nat)(v:AV)(us:List (Nat×List AV)):(mkS σ H).putL (some d) v us=mkS ((d,v)::σ) (us++H):=by
 simp only [S.putL,mkS,upd_lk,S.mk.injEq,true_and]
 funext id
 induction us with
 | nil=>simp [updL,hk]
 | cons p r ih =>
  simp only [updL,hk,List.cons_append] at ih ⊢
  by_cases h:id=p.1
  ·simp [h]
  ·simp only [if_neg h];exact ih
theorem put_list' (v:AV)(us:List (Nat×List AV)):(mkS σ H).putL none v us=mkS σ (us++H):=by
 simp only [S.putL,mkS,S.mk.injEq,true_and]
 funext id
 induction us with
 | nil=>simp [updL,hk]
 | cons p r ih =>
  simp only [updL,hk,List.cons_append] at ih ⊢
  by_cases h:id=p.1
  ·simp [h]
  ·simp only [if_neg h];exact ih


def bindQ (P:Program)(pin:Nat)(F:Nat→Option (List AV))(Z:List Nat)(K:S→Prop)(r:Res)(dst:Option Nat)(l:List AOper)(s:S):Prop:=match r with
 | some (v,none)=>qSeq P pin F Z l K (s.putL dst v [])
 | some (v,some (id,cs))=>(dst=some (id / 16)∧id % 16=0∧(s.H id).isNone=true∧notIn Z id)∧qSeq P pin F Z l K (s.putL dst v [(id,cs)])
 | none=>False
theorem bindQ_some (v:AV)(dst:Option Nat)(l:List AOper)(s:S):bindQ P pin F Z K (some (v,none)) dst l s=qSeq P pin F Z l K (s.putL dst v []):=rfl
theorem bindQ_new (v:AV)(id:Nat)(cs:List AV)(dst:Option Nat)(l:List AOper)(s:S):bindQ P pin F Z K (some (v,some (id,cs))) dst l s =
 ((dst=some (id / 16)∧id % 16=0∧(s.H id).isNone=true∧notIn Z id)∧qSeq P pin F Z l K (s.putL dst v [(id,cs)])):=rfl
def qIf (P:Program)(pin:Nat)(F:Nat→Option (List AV))(Z:List Nat)(K:S→Prop)(g:Bool)(o:AOper)(l:List AOper)(s:S):Prop:=(g=true→qSeq P pin F Z (o::l) K s)∧(g=false→qSeq P pin F Z l K (s.putL o.dst .und []))
theorem qIf_true (o:AOper)(l:List AOper)(s:S):qIf P pin F Z K true o l s=qSeq P pin F Z (o::l) K s:=by simp [qIf]
theorem qIf_false (dst:Option Nat)(op:AOp)(gd:Option (Nat×Bool))(af:List Nat)(l:List AOper)(s:S):qIf P pin F Z K false ⟨dst,op,gd,af⟩ l s=qSeq P pin F Z l K (s.putL dst .und []):=by simp [qIf]
def bindH (P:Program)(pin:Nat)(F:Nat→Option (List AV))(Z:List Nat)(K:S→Prop)(r:Option Bool)(o:AOper)(l:List AOper)(s:S):Prop:=match r with|some g=>qIf P pin F Z K g o l s|none=>False
theorem bindH_some (g:Bool)(o:AOper)(l:List AOper)(s:S):bindH P pin F Z K (some g) o l s=qIf P pin F Z K g o l s:=rfl
theorem qSeq_nil (s:S):qSeq P pin F Z [] K s=K s:=rfl

theorem qSeq_guard (dst:Option Nat)(op:AOp)(t:Nat)(b:Bool)(af:List Nat)(r:List AOper)(s:S) :
  qSeq P pin F Z (⟨dst,op,some (t,b),af⟩::r) K s=bindH P pin F Z K (aguard s (some (t,b))) ⟨dst,op,none,af⟩ r s:=by
 have e:∀ X R,ocan P pin F Z ⟨dst,op,some (t,b),af⟩ s X R=ocan P pin F Z ⟨dst,op,none,af⟩ s X R:=fun X R=>rfl
 simp only [qSeq,qone,e]
 cases aguard s (some (t,b)) with
 | none=>rfl
 | some g=>simp [bindH,qIf,qSeq,qone,aguard]

def qCall (P:Program)(pin:Nat)(F:Nat→Option (List AV))(Z:List Nat)(f:Nat)(args:List Operand)(dst:Option Nat)(r:List AOper)(K:S→Prop)(s:S):Prop :=
 qone P pin F Z ⟨dst,.call f args,none,[]⟩ (qSeq P pin F Z r K) s
theorem qSeq_call (dst:Option Nat)(f:Nat)(args:List Operand)(af:List Nat)(r:List AOper)(s:S) :
  qSeq P pin F Z (⟨dst,.call f args,none,af⟩::r) K s=qCall P pin F Z f args dst r K s:=rfl

theorem ocan_pure {o:AOper}{X:List (Nat×List AV)}{R:AV→List (Nat×List AV)→Prop}(hn:∀ f args,o.op≠.call f args):ocan P pin F Z o s X R↔((∀ p∈X,s.H p.1=some p.2∧p.1∈Z)∧(∀ v u,R v u→∀ p∈u,(o.callish Z=true∧p.1∈Z∧s.H p.1≠none)∨(inNew o.dst p.1∧s.H p.1=none∧(o.callish Z=true∨p.1 ∉ Z))) ∧
  X=[]∧∃ v u,arun ⟨s.σ,gv Z (o.callish Z) s.H F⟩ pin (o.dst.getD 0) o.op=some (v,u)∧(∀ id cs,u=some (id,cs)→s.H id=none→id=16*o.dst.getD 0)∧R=fun v' u'=>v'=v∧u'=u.toList):=by
 obtain ⟨dst,op,gd,af⟩:=o
 cases op
 case call f args=>exact absurd rfl (hn f args)
 all_goals exact Iff.rfl

def inB:List Nat→Nat→Bool
 | [],_=>false
 | z::r,id=>if id=z then true else inB r id
theorem Csz:∀ {Z:List Nat} {id:Nat},inB Z id=true↔id∈Z
 | [],_=>by simp [inB]
 | z::r,id=>by
  simp only [inB,List.mem_cons]
  split
  ·rename_i h;simp [h]
  ·rename_i h;simp [h,Csz (Z:=r)]
theorem inB_nil (id:Nat):inB [] id=false:=rfl
theorem inB_cons (z id:Nat)(r:List Nat):inB (z::r) id=if id=z then true else inB r id:=rfl
def okC (Z:List Nat)(id:Nat)(dst:Option Nat):Option (List AV)→Prop
 | some _=>inB Z id=true
 | none=>dst=some (id / 16)∧id % 16=0
theorem okC_some (id:Nat)(dst:Option Nat)(cs:List AV):okC Z id dst (some cs)=(inB Z id=true):=rfl
theorem okC_none (id:Nat)(dst:Option Nat):okC Z id dst none=(dst=some (id / 16)∧id % 16=0):=rfl
def bindC (P:Program)(pin:Nat)(F:Nat→Option (List AV))(Z:List Nat)(K:S→Prop)(r:Res)(dst:Option Nat)(l:List AOper)(s:S):Prop:=match r with
 | some (v,none)=>qSeq P pin F Z l K (s.putL dst v [])
 | some (v,some (id,cs))=>okC Z id dst (s.H id)∧qSeq P pin F Z l K (s.putL dst v [(id,cs)])
 | none=>False
theorem bindC_some (v:AV)(dst:Option Nat)(l:List AOper)(s:S):bindC P pin F Z K (some (v,none)) dst l s=qSeq P pin F Z l K (s.putL dst v []):=rfl
theorem bindC_new (v:AV)(id:Nat)(cs:List AV)(dst:Option Nat)(l:List AOper)(s:S):bindC P pin F Z K (some (v,some (id,cs))) dst l s=(okC Z id dst (s.H id)∧qSeq P pin F Z l K (s.putL dst v [(id,cs)])):=rfl

theorem qone_pure (ao:AOp)(dst:Option Nat)(af:List Nat)(r:List AOper)(s:S)(hn:∀ f args,ao≠.call f args) :
  qSeq P pin F Z (⟨dst,ao,none,af⟩::r) K s↔∃ v u,arun ⟨s.σ,gv Z (AOper.callish Z ⟨dst,ao,none,af⟩) s.H F⟩ pin (dst.getD 0) ao=some (v,u) ∧
   (∀ id cs,u=some (id,cs)→(AOper.callish Z ⟨dst,ao,none,af⟩=true∧id∈Z∧s.H id≠none)∨(dst=some (id / 16)∧id % 16=0∧s.H id=none∧(AOper.callish Z ⟨dst,ao,none,af⟩=true∨id ∉ Z)))∧qSeq P pin F Z r K (s.putL dst v u.toList):=by
 simp only [qSeq,qone,aguard,forall_const,Bool.true_eq_false,false_implies,and_true]
 constructor
 ·rintro ⟨X,R,hc,_,hk⟩
  obtain ⟨h1,h2,h3,v,u,h5,h6,h7⟩:=(ocan_pure hn).1 hc
  have hr:R v u.toList:=by rw [h7];exact ⟨rfl,rfl⟩
  refine ⟨v,u,h5,fun id cs hu=>?_,hk v _ hr⟩
  rcases h2 v _ hr (id,cs) (by rw [hu];simp) with h|⟨⟨d,k,hd,hk',he⟩,h8,h9⟩
  ·exact .inl h
  ·have hd':dst=some d:=hd
   subst hd'
   have:=h6 id cs hu h8
   simp only [Option.getD_some] at this
   exact .inr ⟨by rw [this];simp,by omega,h8,h9⟩
 ·rintro ⟨v,u,h5,h6,hk⟩
  refine ⟨[],_,(ocan_pure hn).2 ⟨(fun p hp=>by cases hp),fun v' u' hr p hp=>?_,rfl,v,u,h5,fun id cs hu hn'=>?_,rfl⟩,⟨v,_,rfl,rfl⟩,fun v' u' hr=>by obtain ⟨rfl,rfl⟩:=hr;exact hk⟩
  ·obtain ⟨rfl,rfl⟩:=hr
   cases u with
   | none=>simp at hp
   | some q =>
    simp only [Option.toList,List.mem_singleton] at hp
    subst hp
    rcases h6 p.1 p.2 rfl with h|⟨a,b,c,d⟩
    ·exact .inl h
    ·exact .inr ⟨⟨p.1 / 16,0,a,by omega,by omega⟩,c,d⟩
  ·rcases h6 id cs hu with ⟨_,_,h⟩|⟨a,b,_,_⟩
   ·exact absurd hn' h
   ·subst a
    simp only [Option.getD_some]
    omega

theorem bindQ_eq (ao:AOp)(dst:Option Nat)(af:List Nat)(r:List AOper)(s:S)(hn:∀ f args,ao≠.call f args)(hc:AOper.callish Z ⟨dst,ao,none,af⟩=false) :
  qSeq P pin F Z (⟨dst,ao,none,af⟩::r) K s=bindQ P pin F Z K (arun ⟨s.σ,F⟩ pin (dst.getD 0) ao) dst r s:=by
 refine propext ((qone_pure ao dst af r s hn).trans ?_)
 rw [hc]
 simp only [gv,Bool.false_eq_true,if_false,false_and,false_or]
 generalize arun ⟨s.σ,F⟩ pin (dst.getD 0) ao=z
 unfold bindQ
 constructor
 ·rintro ⟨v,u,rfl,h6,hk⟩
  cases u with
  | none=>exact hk
  | some p =>
   obtain ⟨id,cs⟩:=p
   obtain ⟨a,b,c,d⟩:=h6 id cs rfl
   exact ⟨⟨a,b,by rw [c];rfl,E4z.2 d⟩,hk⟩
 ·intro h
  split at h
  ·rename_i v
   exact ⟨v,none,rfl,(fun _ _ h=>by cases h),h⟩
  ·rename_i v id cs
   obtain ⟨⟨a,b,c,d⟩,h⟩:=h
   refine ⟨v,some (id,cs),rfl,fun id' cs' he=>?_,h⟩
   injection he with he
   injection he with he1 he2
   subst he1
   exact ⟨a,b,by simpa using c,E4z.1 d⟩
  ·exact h.elim

theorem bindC_eq (ao:AOp)(dst:Option Nat)(af:List Nat)(r:List AOper)(s:S)(hn:∀ f args,ao≠.call f args)(hc:AOper.callish Z ⟨dst,ao,none,af⟩=true) :
  qSeq P pin F Z (⟨dst,ao,none,af⟩::r) K s=bindC P pin F Z K (arun ⟨s.σ,mixH Z s.H F⟩ pin (dst.getD 0) ao) dst r s:=by
 refine propext ((qone_pure ao dst af r s hn).trans ?_)
 rw [hc]
 simp only [gv,if_true,true_and,true_or,and_true]
 generalize arun ⟨s.σ,mixH Z s.H F⟩ pin (dst.getD 0) ao=z
 unfold bindC
 constructor
 ·rintro ⟨v,u,rfl,h6,hk⟩
  cases u with
  | none=>exact hk
  | some p =>
   obtain ⟨id,cs⟩:=p
   refine ⟨?_,hk⟩
   rcases h6 id cs rfl with ⟨a,b⟩|⟨a,b,c⟩
   ·cases hh:s.H id with
    | none=>exact absurd hh b
    | some c=>exact Csz.2 a
   ·rw [c];exact ⟨a,b⟩
 ·intro h
  split at h
  ·rename_i v
   exact ⟨v,none,rfl,(fun _ _ h=>by cases h),h⟩
  ·rename_i v id cs
   obtain ⟨hok,h⟩:=h
   refine ⟨v,some (id,cs),rfl,fun id' cs' he=>?_,h⟩
   injection he with he
   injection he with he1 he2
   subst he1
   cases hh:s.H id with
   | none=>rw [hh] at hok;exact .inr ⟨hok.1,hok.2,rfl⟩
   | some c=>rw [hh] at hok;exact .inl ⟨Csz.1 hok,by simp⟩
  ·exact h.elim

def keepL (Z:List Nat):List (Nat×List AV)→List (Nat×List AV)
 | []=>[]
 | p::r=>if inB Z p.1=true then p::keepL Z r else keepL Z r
def dropL (Z:List Nat):List (Nat×List AV)→List (Nat×List AV)
 | []=>[]
 | p::r=>if inB Z p.1=true then dropL Z r else p::dropL Z r
theorem keepL_nil:keepL Z []=[]:=rfl
theorem keepL_cons (i:Nat)(cs:List AV)(r:List (Nat×List AV)):keepL Z ((i,cs)::r)=if inB Z i=true then (i,cs)::keepL Z r else keepL Z r:=rfl
theorem dropL_nil:dropL Z []=[]:=rfl
theorem dropL_cons (i:Nat)(cs:List AV)(r:List (Nat×List AV)):dropL Z ((i,cs)::r)=if inB Z i=true then dropL Z r else (i,cs)::dropL Z r:=rfl
theorem hk_keepL:∀ (H:List (Nat×List AV)) (j:Nat),hk (keepL Z H) j=if j∈Z then hk H j else none
 | [],j=>by simp [keepL,hk]
 | p::r,j=>by
  have ih:=hk_keepL r j
  simp only [keepL]
  by_cases h:inB Z p.1=true
  ·rw [if_pos h]
   simp only [hk]
   by_cases hj:j=p.1
   ·rw [if_pos hj,if_pos hj,if_pos (hj ▸ Csz.1 h)]
   ·rw [if_neg hj,if_neg hj,ih]
  ·rw [if_neg h,ih]
   simp only [hk]
   by_cases hj:j=p.1
   ·rw [if_neg (fun hz=>h (Csz.2 (hj ▸ hz))),if_neg (fun hz=>h (Csz.2 (hj ▸ hz)))]
   ·rw [if_neg hj]
theorem hk_dropL:∀ (H:List (Nat×List AV)) (j:Nat),hk (dropL Z H) j=if j∈Z then none else hk H j
 | [],j=>by simp [dropL,hk]
 | p::r,j=>by
  have ih:=hk_dropL r j
  simp only [dropL]
  by_cases h:inB Z p.1=true
  ·rw [if_pos h,ih]
   simp only [hk]
   by_cases hz:j∈Z
   ·rw [if_pos hz,if_pos hz]
   ·have hne:j≠p.1:=fun e=>hz (e ▸ Csz.1 h)
    rw [if_neg hz,if_neg hz,if_neg hne]
  ·rw [if_neg h]
   simp only [hk]
   by_cases hj:j=p.1
   ·rw [if_pos hj,if_pos hj,if_neg (fun hz=>h (Csz.2 (hj ▸ hz)))]
   ·rw [if_neg hj,if_neg hj,ih]
def mixL (Z:List Nat)(H HF:List (Nat×List AV)):List (Nat×List AV):=keepL Z H++dropL Z HF
theorem mixL_eq:mixL Z H HF=keepL Z H++dropL Z HF:=rfl
theorem hk_app:∀ (H H':List (Nat×List AV)) (j:Nat),hk (H++H') j=match hk H j with|some cs=>some cs|none=>hk H' j
 | [],_,_=>rfl
 | p::r,H',j=>by
  simp only [List.cons_append,hk]
  by_cases hj:j=p.1
  ·rw [if_pos hj,if_pos hj]
  ·rw [if_neg hj,if_neg hj];exact hk_app r H' j
theorem hk_mixL:hk (mixL Z H HF)=mixH Z (hk H) (hk HF):=by
 funext j
 unfold mixL mixH
 rw [hk_app,hk_keepL,hk_dropL]
 by_cases hj:j∈Z
 ·simp only [if_pos hj]
  cases hk H j<;>rfl
 ·simp only [if_neg hj]
def bindX (P:Program)(pin:Nat)(HF:List (Nat×List AV))(Z:List Nat)(K:S→Prop)(b:Bool)(ao:AOp)(dst:Option Nat)(r:List AOper)(σ:List (Nat×AV))(H:List (Nat×List AV)):Prop :=
 if b then bindC P pin (hk HF) Z K (arun (mkS σ (mixL Z H HF)) pin (dst.getD 0) ao) dst r (mkS σ H) else bindQ P pin (hk HF) Z K (arun (mkS σ HF) pin (dst.getD 0) ao) dst r (mkS σ H)
theorem bindX_true (ao:AOp)(dst:Option Nat)(r:List AOper):bindX P pin HF Z K true ao dst r σ H=bindC P pin (hk HF) Z K (arun (mkS σ (mixL Z H HF)) pin (dst.getD 0) ao) dst r (mkS σ H):=rfl
theorem bindX_false (ao:AOp)(dst:Option Nat)(r:List AOper):bindX P pin HF Z K false ao dst r σ H=bindQ P pin (hk HF) Z K (arun (mkS σ HF) pin (dst.getD 0) ao) dst r (mkS σ H):=rfl
theorem isMk_nil (d:Option Nat):isMk [] d=false:=rfl
theorem isMk_none:isMk Z none=false:=by cases Z<;>rfl
theorem isMk_cons (z d:Nat)(r:List Nat):isMk (z::r) (some d)=if z=1000000000+d then true else isMk r (some d):=rfl

theorem Ddz (ao:AOp)(dst:Option Nat)(af:List Nat)(r:List AOper)(hn:∀ f args,ao≠.call f args)(hc:AOper.callish Z ⟨dst,ao,none,af⟩=true) :
  qSeq P pin (hk HF) Z (⟨dst,ao,none,af⟩::r) K (mkS σ H)=bindC P pin (hk HF) Z K (arun (mkS σ (mixL Z H HF)) pin (dst.getD 0) ao) dst r (mkS σ H):=by
 rw [bindC_eq ao dst af r _ hn hc,show (mkS σ (mixL Z H HF))=⟨(mkS σ H).σ,mixH Z (mkS σ H).H (hk HF)⟩ from by unfold mkS;rw [hk_mixL]]
theorem Auz (ao:AOp)(dst:Option Nat)(af:List Nat)(r:List AOper)(hn:∀ f args,ao≠.call f args)(hi:ao.isCall=false) :
  qSeq P pin (hk HF) Z (⟨dst,ao,none,af⟩::r) K (mkS σ H)=bindX P pin HF Z K (isMk Z dst) ao dst r σ H:=by
 cases hm:isMk Z dst with
 | true=>exact Ddz ao dst af r hn (by simp [AOper.callish,hi,hm])
 | false=>exact bindQ_eq ao dst af r _ hn (by simp [AOper.callish,hi,hm])
theorem qSeq_mv (x:Operand)(dst:Option Nat)(af:List Nat)(r:List AOper):qSeq P pin (hk HF) Z (⟨dst,.mv x,none,af⟩::r) K (mkS σ H)=bindX P pin HF Z K (isMk Z dst) (.mv x) dst r σ H:=Auz _ _ _ _ (fun _ _ h=>by cases h) rfl
theorem qSeq_pick (c x y:Operand)(dst:Option Nat)(af:List Nat)(r:List AOper):qSeq P pin (hk HF) Z (⟨dst,.pick c x y,none,af⟩::r) K (mkS σ H)=bindX P pin HF Z K (isMk Z dst) (.pick c x y) dst r σ H:=Auz _ _ _ _ (fun _ _ h=>by cases h) rfl
theorem qSeq_alloc (zs:List Value)(dst:Option Nat)(af:List Nat)(r:List AOper):qSeq P pin (hk HF) Z (⟨dst,.alloc zs,none,af⟩::r) K (mkS σ H)=bindX P pin HF Z K (isMk Z dst) (.alloc zs) dst r σ H:=Auz _ _ _ _ (fun _ _ h=>by cases h) rfl
theorem qSeq_box (x:Operand)(dst:Option Nat)(af:List Nat)(r:List AOper):qSeq P pin (hk HF) Z (⟨dst,.box x,none,af⟩::r) K (mkS σ H)=bindX P pin HF Z K (isMk Z dst) (.box x) dst r σ H:=Auz _ _ _ _ (fun _ _ h=>by cases h) rfl
theorem qSeq_mkfn (fn:Fn)(us vs:List Operand)(dst:Option Nat)(af:List Nat)(r:List AOper):qSeq P pin (hk HF) Z (⟨dst,.mkfn fn us vs,none,af⟩::r) K (mkS σ H)=bindX P pin HF Z K (isMk Z dst) (.mkfn fn us vs) dst r σ H:=Auz _ _ _ _ (fun _ _ h=>by cases h) rfl
theorem qSeq_build (zs:List Value)(ps:List (Nat×Nat×Operand))(dst:Option Nat)(af:List Nat)(r:List AOper):qSeq P pin (hk HF) Z (⟨dst,.build zs ps,none,af⟩::r) K (mkS σ H)=bindX P pin HF Z K (isMk Z dst) (.build zs ps) dst r σ H:=Auz _ _ _ _ (fun _ _ h=>by cases h) rfl
theorem qSeq_bslice (sz:Nat)(zs:List Value)(ps:List (Nat×Operand))(n:Nat)(dst:Option Nat)(af:List Nat)(r:List AOper):qSeq P pin (hk HF) Z (⟨dst,.bslice sz zs ps (n+1),none,af⟩::r) K (mkS σ H)=bindX P pin HF Z K (isMk Z dst) (.bslice sz zs ps (n+1)) dst r σ H:=Auz _ _ _ _ (fun _ _ h=>by cases h) rfl
theorem qSeq_load (g:Bool)(sz:Nat)(x:Operand)(dst:Option Nat)(af:List Nat)(r:List AOper):qSeq P pin (hk HF) Z (⟨dst,.load g sz x,none,af⟩::r) K (mkS σ H)=bindX P pin HF Z K (isMk Z dst) (.load g sz x) dst r σ H:=Auz _ _ _ _ (fun _ _ h=>by cases h) rfl
theorem qSeq_bin (o:BinOp)(x y:Operand)(dst:Option Nat)(af:List Nat)(r:List AOper):qSeq P pin (hk HF) Z (⟨dst,.bin o x y,none,af⟩::r) K (mkS σ H)=bindX P pin HF Z K (isMk Z dst) (.bin o x y) dst r σ H:=Auz _ _ _ _ (fun _ _ h=>by cases h) rfl
theorem qSeq_binB (o:BinOp)(x y:Operand)(dst:Option Nat)(af:List Nat)(r:List AOper):qSeq P pin (hk HF) Z (⟨dst,.binB o x y,none,af⟩::r) K (mkS σ H)=bindX P pin HF Z K (isMk Z dst) (.binB o x y) dst r σ H:=Auz _ _ _ _ (fun _ _ h=>by cases h) rfl
theorem qSeq_un (o:UnOp)(x:Operand)(dst:Option Nat)(af:List Nat)(r:List AOper):qSeq P pin (hk HF) Z (⟨dst,.un o x,none,af⟩::r) K (mkS σ H)=bindX P pin HF Z K (isMk Z dst) (.un o x) dst r σ H:=Auz _ _ _ _ (fun _ _ h=>by cases h) rfl
theorem qSeq_conv (k:IntKind)(x:Operand)(dst:Option Nat)(af:List Nat)(r:List AOper):qSeq P pin (hk HF) Z (⟨dst,.conv k x,none,af⟩::r) K (mkS σ H)=bindX P pin HF Z K (isMk Z dst) (.conv k x) dst r σ H:=Auz _ _ _ _ (fun _ _ h=>by cases h) rfl
theorem qSeq_nilck (x:Operand)(dst:Option Nat)(af:List Nat)(r:List AOper):qSeq P pin (hk HF) Z (⟨dst,.nilck x,none,af⟩::r) K (mkS σ H)=bindX P pin HF Z K (isMk Z dst) (.nilck x) dst r σ H:=Auz _ _ _ _ (fun _ _ h=>by cases h) rfl
theorem qSeq_mkslice (sz:Nat)(zs:List Value)(l c:Operand)(dst:Option Nat)(af:List Nat)(r:List AOper):qSeq P pin (hk HF) Z (⟨dst,.mkslice sz zs l c,none,af⟩::r) K (mkS σ H)=bindX P pin HF Z K (isMk Z dst) (.mkslice sz zs l c) dst r σ H:=Auz _ _ _ _ (fun _ _ h=>by cases h) rfl
theorem qSeq_slice (sz:Nat)(x:Operand)(lo hi:Option Operand)(dst:Option Nat)(af:List Nat)(r:List AOper):qSeq P pin (hk HF) Z (⟨dst,.slice sz x lo hi,none,af⟩::r) K (mkS σ H)=bindX P pin HF Z K (isMk Z dst) (.slice sz x lo hi) dst r σ H:=Auz _ _ _ _ (fun _ _ h=>by cases h) rfl
theorem qSeq_sliceS (x:Operand)(lo hi:Option Operand)(dst:Option Nat)(af:List Nat)(r:List AOper):qSeq P pin (hk HF) Z (⟨dst,.sliceS x lo hi,none,af⟩::r) K (mkS σ H)=bindX P pin HF Z K (isMk Z dst) (.sliceS x lo hi) dst r σ H:=Auz _ _ _ _ (fun _ _ h=>by cases h) rfl
theorem qSeq_fld (o:Nat)(x:Operand)(dst:Option Nat)(af:List Nat)(r:List AOper):qSeq P pin (hk HF) Z (⟨dst,.fld o x,none,af⟩::r) K (mkS σ H)=bindX P pin HF Z K (isMk Z dst) (.fld o x) dst r σ H:=Auz _ _ _ _ (fun _ _ h=>by cases h) rfl
theorem qSeq_fldv (g:Bool)(o sz:Nat)(x:Operand)(dst:Option Nat)(af:List Nat)(r:List AOper):qSeq P pin (hk HF) Z (⟨dst,.fldv g o sz x,none,af⟩::r) K (mkS σ H)=bindX P pin HF Z K (isMk Z dst) (.fldv g o sz x) dst r σ H:=Auz _ _ _ _ (fun _ _ h=>by cases h) rfl
theorem qSeq_idxA (sz:Nat)(x i:Operand)(dst:Option Nat)(af:List Nat)(r:List AOper):qSeq P pin (hk HF) Z (⟨dst,.idxA sz x i,none,af⟩::r) K (mkS σ H)=bindX P pin HF Z K (isMk Z dst) (.idxA sz x i) dst r σ H:=Auz _ _ _ _ (fun _ _ h=>by cases h) rfl
theorem qSeq_idxP (sz n:Nat)(x i:Operand)(dst:Option Nat)(af:List Nat)(r:List AOper):qSeq P pin (hk HF) Z (⟨dst,.idxP sz n x i,none,af⟩::r) K (mkS σ H)=bindX P pin HF Z K (isMk Z dst) (.idxP sz n x i) dst r σ H:=Auz _ _ _ _ (fun _ _ h=>by cases h) rfl
theorem qSeq_idxS (x i:Operand)(dst:Option Nat)(af:List Nat)(r:List AOper):qSeq P pin (hk HF) Z (⟨dst,.idxS x i,none,af⟩::r) K (mkS σ H)=bindX P pin HF Z K (isMk Z dst) (.idxS x i) dst r σ H:=Auz _ _ _ _ (fun _ _ h=>by cases h) rfl
theorem qSeq_extract (x:Operand)(i:Nat)(dst:Option Nat)(af:List Nat)(r:List AOper):qSeq P pin (hk HF) Z (⟨dst,.extract x i,none,af⟩::r) K (mkS σ H)=bindX P pin HF Z K (isMk Z dst) (.extract x i) dst r σ H:=Auz _ _ _ _ (fun _ _ h=>by cases h) rfl
theorem qSeq_len (x:Operand)(dst:Option Nat)(af:List Nat)(r:List AOper):qSeq P pin (hk HF) Z (⟨dst,.len x,none,af⟩::r) K (mkS σ H)=bindX P pin HF Z K (isMk Z dst) (.len x) dst r σ H:=Auz _ _ _ _ (fun _ _ h=>by cases h) rfl
theorem qSeq_lenS (x:Operand)(dst:Option Nat)(af:List Nat)(r:List AOper):qSeq P pin (hk HF) Z (⟨dst,.lenS x,none,af⟩::r) K (mkS σ H)=bindX P pin HF Z K (isMk Z dst) (.lenS x) dst r σ H:=Auz _ _ _ _ (fun _ _ h=>by cases h) rfl
theorem qSeq_append (sz:Nat)(x y:Operand)(dst:Option Nat)(af:List Nat)(r:List AOper):qSeq P pin (hk HF) Z (⟨dst,.append sz x y,none,af⟩::r) K (mkS σ H)=bindC P pin (hk HF) Z K (arun (mkS σ (mixL Z H HF)) pin (dst.getD 0) (.append sz x y)) dst r (mkS σ H):=Ddz _ _ _ _ (fun _ _ h=>by cases h) rfl
theorem qSeq_store (sz:Nat)(x y:Operand)(dst:Option Nat)(af:List Nat)(r:List AOper):qSeq P pin (hk HF) Z (⟨dst,.store sz x y,none,af⟩::r) K (mkS σ H)=bindC P pin (hk HF) Z K (arun (mkS σ (mixL Z H HF)) pin (dst.getD 0) (.store sz x y)) dst r (mkS σ H):=Ddz _ _ _ _ (fun _ _ h=>by cases h) rfl
theorem qSeq_bslice0 (sz:Nat)(zs:List Value)(ps:List (Nat×Operand))(dst:Option Nat)(af:List Nat)(r:List AOper):qSeq P pin (hk HF) Z (⟨dst,.bslice sz zs ps 0,none,af⟩::r) K (mkS σ H)=bindC P pin (hk HF) Z K (arun (mkS σ (mixL Z H HF)) pin (dst.getD 0) (.bslice sz zs ps 0)) dst r (mkS σ H):=Ddz _ _ _ _ (fun _ _ h=>by cases h) rfl
theorem qSeq_slice3 (sz:Nat)(x:Operand)(lo:Option Operand)(hi mx:Operand)(dst:Option Nat)(af:List Nat)(r:List AOper):qSeq P pin (hk HF) Z (⟨dst,.slice3 sz x lo hi mx,none,af⟩::r) K (mkS σ H)=bindX P pin HF Z K (isMk Z dst) (.slice3 sz x lo hi mx) dst r σ H:=Auz _ _ _ _ (fun _ _ h=>by cases h) rfl
theorem qSeq_clr (sz:Nat)(zs:List Value)(x:Operand)(dst:Option Nat)(af:List Nat)(r:List AOper):qSeq P pin (hk HF) Z (⟨dst,.clr sz zs x,none,af⟩::r) K (mkS σ H)=bindC P pin (hk HF) Z K (arun (mkS σ (mixL Z H HF)) pin (dst.getD 0) (.clr sz zs x)) dst r (mkS σ H):=Ddz _ _ _ _ (fun _ _ h=>by cases h) rfl
theorem qSeq_cpy (sz:Nat)(x y:Operand)(dst:Option Nat)(af:List Nat)(r:List AOper):qSeq P pin (hk HF) Z (⟨dst,.cpy sz x y,none,af⟩::r) K (mkS σ H)=bindC P pin (hk HF) Z K (arun (mkS σ (mixL Z H HF)) pin (dst.getD 0) (.cpy sz x y)) dst r (mkS σ H):=Ddz _ _ _ _ (fun _ _ h=>by cases h) rfl
theorem qSeq_minmax (mx:Bool)(x y:Operand)(dst:Option Nat)(af:List Nat)(r:List AOper):qSeq P pin (hk HF) Z (⟨dst,.minmax mx x y,none,af⟩::r) K (mkS σ H)=bindX P pin HF Z K (isMk Z dst) (.minmax mx x y) dst r σ H:=Auz _ _ _ _ (fun _ _ h=>by cases h) rfl
theorem qSeq_eqS (neg:Bool)(l:List (Nat×Option IntKind))(x y:Operand)(dst:Option Nat)(af:List Nat)(r:List AOper):qSeq P pin (hk HF) Z (⟨dst,.eqS neg l x y,none,af⟩::r) K (mkS σ H)=bindX P pin HF Z K (isMk Z dst) (.eqS neg l x y) dst r σ H:=Auz _ _ _ _ (fun _ _ h=>by cases h) rfl
theorem qSeq_sliceP (sz n:Nat)(x:Operand)(lo hi:Option Operand)(dst:Option Nat)(af:List Nat)(r:List AOper):qSeq P pin (hk HF) Z (⟨dst,.sliceP sz n x lo hi,none,af⟩::r) K (mkS σ H)=bindX P pin HF Z K (isMk Z dst) (.sliceP sz n x lo hi) dst r σ H:=Auz _ _ _ _ (fun _ _ h=>by cases h) rfl


theorem Atz {f:Nat}{args:List AV}{Q:AV→Prop}(h:PCall P f args Q):BCall P f args [] (fun r H'=>Q r∧H'=[]):=by
 intro w M0 B vs hB hG hl hok hd
 have e0:nthH []=fun _=>none:=by funext i;simp [nthH]
 have hM:M0=fun _=>none:=by funext i;exact hok.no i (by show nthH [] i=none;rw [e0])
 subst hM
 have e1:∀ w',Ctx.cl w w' (fun _=>none) (nthH []) B=Ctx.callee w w' B:=fun w'=>by simp only [Ctx.cl,Ctx.callee,e0]
 rw [e1] at hd
 refine (h w B vs hB hG hl hd).mono fun e w' ⟨res,v,hq,he,hden,hb⟩=>⟨res,v,[],fun _=>none,⟨hq,rfl⟩,he,?_,by rw [e1];exact hden,⟨hb.os,hb.tape,hb.output,hb.size,fun g hg _=>hb.block g hg,fun _ _=>rfl,(fun _ _ _ h=>by cases h),(fun i _ hi=>absurd hi (Nat.not_lt_zero _)),fun i _ hi=>absurd hi (Nat.not_lt_zero _)⟩⟩
 rw [e1]
 exact ⟨(fun _ _ h=>by cases h),(fun _ _=>rfl),(fun _ _ _ h=>by cases h)⟩

theorem Gaz {H:List (Nat×List AV)}{dst:Option Nat}{k:Nat}(h:k=0∨(k≤16∧∀ d,dst=some d→freshD H d∧pin≤16*d)):∀ id∈news dst k,(mkS σ H).H id=none∧pin≤id:=by
 intro id hid
 obtain ⟨d,j,rfl,hj,rfl⟩:=Eqz hid
 rcases h with rfl|⟨hk',h⟩
 ·omega
 ·obtain ⟨h1,h2⟩:=h d rfl
  exact ⟨Cez h1 j (by omega),by omega⟩

def after (ids:List Nat)(sh:Bool)(n:Nat)(dst:Option Nat)(r:AV)(H':List (List AV))(s:S):S :=
 s.putL dst (r.up (ids++news dst (H'.length-n)) sh) ((ids++news dst (H'.length-n)).zip (H'.map (List.map (AV.up (ids++news dst (H'.length-n)) sh))))

def freshC (pin:Nat)(H:List (Nat×List AV))(dst:Option Nat):Nat→Prop
 | 0=>True
 | k+1=>k+1≤16∧∀ d,dst=some d→freshD H d∧pin≤16*d

theorem freshC_or {H:List (Nat×List AV)}{dst:Option Nat}{k:Nat}(h:freshC pin H dst k):k=0∨(k≤16∧∀ d,dst=some d→freshD H d∧pin≤16*d):=by
 cases k with
 | zero=>exact .inl rfl
 | succ k=>exact .inr h
theorem freshC_zero (H:List (Nat×List AV))(dst:Option Nat):freshC pin H dst 0=True:=rfl
theorem freshC_1 (H:List (Nat×List AV))(d:Nat):freshC pin H (some d) 1=(freshD H d∧pin≤16*d):=by simp [freshC]
theorem freshC_2 (H:List (Nat×List AV))(d:Nat):freshC pin H (some d) 2=(freshD H d∧pin≤16*d):=by simp [freshC]
theorem freshC_3 (H:List (Nat×List AV))(d:Nat):freshC pin H (some d) 3=(freshD H d∧pin≤16*d):=by simp [freshC]
theorem call0 {f:Nat}{cargs:List AV}{Q:AV→List (List AV)→Prop}{args:List Operand}{dst:Option Nat}(sh:Bool)(hc:BCall P f cargs [] Q)
  (hargs:args.map (fun x=>((mkS σ H).ev x).down [] sh (hk H))=cargs) (hK:∀ res H',Q res H'→freshC pin H dst H'.length∧K (after [] sh 0 dst res H' (mkS σ H))):callOwed P pin f args dst K (mkS σ H):=by
 refine Chz [] sh (F:=hk H) (fun _ _ h=>h) hc hargs rfl List.nodup_nil fun res H' hq=>?_
 obtain ⟨h1,h2⟩:=hK res H' hq
 exact ⟨trivial,Gaz (freshC_or h1),h2⟩

theorem call1 {f:Nat}{cargs:List AV}{h0:List AV}{Q:AV→List (List AV)→Prop}{args:List Operand}{dst:Option Nat}(id:Nat)(sh:Bool)(hc:BCall P f cargs [h0] Q)
  (hargs:args.map (fun x=>((mkS σ H).ev x).down [id] sh (hk H))=cargs) (hH:(hk H id).map (List.map (AV.down [id] sh (hk H)))=some h0)
  (hK:∀ res H',Q res H'→lenOk [h0] H'∧freshC pin H dst (H'.length-1)∧K (after [id] sh 1 dst res H' (mkS σ H))):callOwed P pin f args dst K (mkS σ H):=by
 refine Chz [id] sh (F:=hk H) (fun _ _ h=>h) hc hargs (by simp only [List.map_cons,List.map_nil];rw [show (mkS σ H).H id=hk H id from rfl,hH]) (by simp) fun res H' hq=>?_
 obtain ⟨h0,h1,h2⟩:=hK res H' hq
 exact ⟨h0,Gaz (freshC_or h1),h2⟩

theorem qcall_of {f:Nat}{cargs:List AV}{H0:List (List AV)}{Q:AV→List (List AV)→Prop}{args:List Operand}{dst:Option Nat}{r:List AOper}(ids:List Nat)(X:List (Nat×List AV))(sh:Bool)(hc:BCall P f cargs H0 Q)
  (hids:ids=X.map (·.1)) (hargs:args.map (fun x=>(s.ev x).down ids sh F)=cargs) (hX:X.map (fun p=>p.2.map (AV.down ids sh F))=H0) (hnd:ids.Nodup) (hXs:∀ p∈X,s.H p.1=some p.2∧p.1∈Z∧isNw Z p.1=false)
  (hfr:∀ id,inNew dst id→s.H id=none∧id ∉ Z∧pin≤id) (hne:∃ v H',Q v H')
  (hK:∀ res H',Q res H'→lenOk H0 H'∧H'.length-H0.length≤16∧qSeq P pin F Z r K (after ids sh H0.length dst res H' s)):qCall P pin F Z f args dst r K s:=by
 unfold qCall qone
 simp only [aguard,forall_const,Bool.true_eq_false,false_implies,and_true]
 refine ⟨X,fun v u=>∃ res H',Q res H'∧lenOk H0 H'∧H'.length-H0.length≤16∧v=res.up (ids++news dst (H'.length-H0.length)) sh∧u=(ids++news dst (H'.length-H0.length)).zip (H'.map (List.map (AV.up (ids++news dst (H'.length-H0.length)) sh))),⟨fun p hp=>⟨(hXs p hp).1,(hXs p hp).2.1⟩,?_,?_⟩,?_,?_⟩
 ·rintro v u ⟨res,H',hq,hl,h16,rfl,rfl⟩ p hp
  have hp1:p.1∈ids++news dst (H'.length-H0.length):=(List.of_mem_zip hp).1
  rcases List.mem_append.1 hp1 with h|h
  ·rw [hids] at h
   obtain ⟨q,hq',he⟩:=List.mem_map.1 h
   exact .inl ⟨Czz rfl,he ▸ (hXs q hq').2.1,by rw [← he,(hXs q hq').1];simp⟩
  ·obtain ⟨d,j,hd,hj,he⟩:=Eqz h
   have hin:inNew dst p.1:=⟨d,j,hd,by omega,he⟩
   exact .inr ⟨hin,(hfr _ hin).1,.inr (hfr _ hin).2.1⟩
 ·refine ⟨fun id hid=>(hfr id hid).1,⟨fun p hp=>(hXs p hp).2.2,?_⟩,?_⟩
  ·rintro v u ⟨res,H',hq,hl,h16,rfl,rfl⟩ p hp hz
   have hp1:p.1∈ids++news dst (H'.length-H0.length):=(List.of_mem_zip hp).1
   rcases List.mem_append.1 hp1 with h|h
   ·rw [hids] at h
    obtain ⟨q,hq',he⟩:=List.mem_map.1 h
    rw [← he]
    exact (hXs q hq').2.2
   ·obtain ⟨d,j,hd,hj,he⟩:=Eqz h
    exact absurd hz (hfr _ ⟨d,j,hd,by omega,he⟩).2.1
  intro E M s1 a w args1 hp hdst hst hsees hX1 hnew1 hav
  have hcall:=Chz (P:=P) (s:=s1) (pin:=pin) (args:=args1) (dst:=dst) (K:=fun s'=>∃ v u,(∃ res H',Q res H'∧lenOk H0 H'∧H'.length-H0.length≤16∧v=res.up (ids++news dst (H'.length-H0.length)) sh∧u=(ids++news dst (H'.length-H0.length)).zip (H'.map (List.map (AV.up (ids++news dst (H'.length-H0.length)) sh))))∧s'=s1.putL dst v u)
   ids sh (F:=F) hsees hc (by rw [← hargs,show (args1.map fun x=>(s1.ev x).down ids sh F)=(args1.map s1.ev).map (fun a=>a.down ids sh F) by simp,hav];simp)
   (by
    rw [hids,← hX]
    simp only [List.map_map]
    refine List.map_congr_left fun p hp=>?_
    simp only [Function.comp,hX1 p hp,Option.map_some,hids]) hnd
   (fun res H' hq=>by
    obtain ⟨h1,h2,h3⟩:=hK res H' hq
    refine ⟨h1,fun id hid=>?_,_,_,⟨res,H',hq,h1,h2,rfl,rfl⟩,rfl⟩
    obtain ⟨d,j,hd,hj,he⟩:=Eqz hid
    have hin:inNew dst id:=⟨d,j,hd,by omega,he⟩
    exact ⟨hnew1 id hin,(hfr id hin).2.2⟩)
  refine (hcall E M a w hp hdst hst).mono fun e w' ⟨M',s',v',⟨v,u,hr,hs'⟩,he,hst'⟩=>⟨M',v',v,u,hr,he,hs' ▸ hst'⟩
 ·obtain ⟨v,H',hq⟩:=hne
  obtain ⟨h1,h2,_⟩:=hK v H' hq
  exact ⟨_,_,v,H',hq,h1,h2,rfl,rfl⟩
 ·rintro v u ⟨res,H',hq,hl,h16,rfl,rfl⟩
  exact (hK res H' hq).2.2

theorem inNew_fresh {H:List (Nat×List AV)}{dst:Option Nat}(h:∀ d,dst=some d→freshD H d∧pin≤16*d∧∀ z∈Z,¬ z / 16=d):∀ id,inNew dst id→(mkS σ H).H id=none∧id ∉ Z∧pin≤id:=by
 rintro id ⟨d,k,rfl,hk',rfl⟩
 obtain ⟨h1,h2,h3⟩:=h d rfl
 exact ⟨Cez h1 k hk',fun hz=>h3 _ hz (by omega),by omega⟩

theorem qcall0 {f d:Nat}{cargs:List AV}{Q:AV→List (List AV)→Prop}{args:List Operand}{r:List AOper}(sh:Bool)(hc:BCall P f cargs [] Q)(hargs:args.map (fun x=>((mkS σ H).ev x).down [] sh (hk HF))=cargs)
  (hfr:freshD H d∧pin≤16*d∧∀ z∈Z,¬ z / 16=d) (hne:∃ v H',Q v H') (hK:∀ res H',Q res H'→H'.length≤16∧qSeq P pin (hk HF) Z r K (after [] sh 0 (some d) res H' (mkS σ H))) :
  qCall P pin (hk HF) Z f args (some d) r K (mkS σ H) :=
 qcall_of [] [] sh hc rfl hargs rfl List.nodup_nil (fun p hp=>by cases hp) (inNew_fresh fun d' h=>by injection h with h;subst h;exact hfr) hne fun res H' hq=>⟨trivial,hK res H' hq⟩


def renO (ρ:Nat→Option Nat)(Z:Nat→Option (List AV))(b0:Bool)(φ:Bool→Option Bool)(n k sz:Nat):Option (List AV)→Option Nat→AV
 | _,some i=>.own i k sz
 | some cs,none=>if cs.length=k*sz then .rows b0 (cs.map (AV.ren ρ Z b0 φ n)) k else .unk
 | none,none=>.unk
def renOs (ρ:Nat→Option Nat)(Z:Nat→Option (List AV))(b0:Bool)(φ:Bool→Option Bool)(n len off k sz c:Nat):Option (List AV)→Option Nat→AV
 | _,some i=>.osl i len off k sz c
 | some cs,none=>if cs.length=len then .rows b0 (((cs.drop off).take (k*sz)).map (AV.ren ρ Z b0 φ n)) k else .unk
 | none,none=>.unk
def renR (ρ:Nat→Option Nat)(Z:Nat→Option (List AV))(b0:Bool)(φ:Bool→Option Bool)(n len off:Nat):Option (List AV)→Option Nat→AV
 | _,some i=>.ref i len off
 | some cs,none=>if cs.length=len then .prow b0 (cs.map (AV.ren ρ Z b0 φ n)) off else .unk
 | none,none=>.unk
def renPr (cs:List AV)(off:Nat):Option Bool→AV
 | some fr=>.prow fr cs off
 | none=>.unk
def renW (cs:List AV)(k:Nat):Option Bool→AV
 | some fr=>.rows fr cs k
 | none=>.unk
section
variable {ρ:Nat→Option Nat} {Zh:Nat→Option (List AV)} {b0:Bool} {φ:Bool→Option Bool} {n:Nat}
theorem Dxz (z:Option (List AV))(k sz i:Nat):renO ρ Zh b0 φ n k sz z (some i)=.own i k sz:=by cases z<;>rfl
theorem renO_none (cs:List AV)(k sz:Nat):renO ρ Zh b0 φ n k sz (some cs) none=if cs.length=k*sz then .rows b0 (cs.map (AV.ren ρ Zh b0 φ n)) k else .unk:=rfl
theorem renO_nn (k sz:Nat):renO ρ Zh b0 φ n k sz none none=.unk:=rfl
theorem renR_some (z:Option (List AV))(len off i:Nat):renR ρ Zh b0 φ n len off z (some i)=.ref i len off:=by cases z<;>rfl
theorem renR_none (cs:List AV)(len off:Nat):renR ρ Zh b0 φ n len off (some cs) none=if cs.length=len then .prow b0 (cs.map (AV.ren ρ Zh b0 φ n)) off else .unk:=rfl
theorem renR_nn (len off:Nat):renR ρ Zh b0 φ n len off none none=.unk:=rfl
theorem renPr_some (cs:List AV)(off:Nat)(fr:Bool):renPr cs off (some fr)=.prow fr cs off:=rfl
theorem renPr_none (cs:List AV)(off:Nat):renPr cs off none=.unk:=rfl
theorem renW_some (cs:List AV)(k:Nat)(fr:Bool):renW cs k (some fr)=.rows fr cs k:=rfl
theorem renW_none (cs:List AV)(k:Nat):renW cs k none=.unk:=rfl
theorem Ezz (id k sz:Nat):AV.ren ρ Zh b0 φ (n+1) (.own id k sz)=renO ρ Zh b0 φ n k sz (Zh id) (ρ id):=by
 simp only [AV.ren];cases ρ id<;>cases Zh id<;>rfl
theorem ren_osl (id len off k sz c:Nat):AV.ren ρ Zh b0 φ (n+1) (.osl id len off k sz c)=renOs ρ Zh b0 φ n len off k sz c (Zh id) (ρ id):=by
 simp only [AV.ren];cases ρ id<;>cases Zh id<;>rfl
theorem renOs_some (z:Option (List AV))(len off k sz c i:Nat):renOs ρ Zh b0 φ n len off k sz c z (some i)=.osl i len off k sz c:=by cases z<;>rfl
theorem renOs_none (cs:List AV)(len off k sz c:Nat):renOs ρ Zh b0 φ n len off k sz c (some cs) none=if cs.length=len then .rows b0 (((cs.drop off).take (k*sz)).map (AV.ren ρ Zh b0 φ n)) k else .unk:=rfl
theorem ren_ref (id len off:Nat):AV.ren ρ Zh b0 φ (n+1) (.ref id len off)=renR ρ Zh b0 φ n len off (Zh id) (ρ id):=by
 simp only [AV.ren];cases ρ id<;>cases Zh id<;>rfl
theorem ren_prow (fr:Bool)(cs:List AV)(off:Nat):AV.ren ρ Zh b0 φ (n+1) (.prow fr cs off)=renPr (cs.map (AV.ren ρ Zh b0 φ n)) off (φ fr):=by
 simp only [AV.ren]<;>cases φ fr<;>rfl
theorem ren_rows (fr:Bool)(cs:List AV)(k:Nat):AV.ren ρ Zh b0 φ (n+1) (.rows fr cs k)=renW (cs.map (AV.ren ρ Zh b0 φ n)) k (φ fr):=by
 simp only [AV.ren]<;>cases φ fr<;>rfl
theorem ren_agg (cs:List AV):AV.ren ρ Zh b0 φ (n+1) (.agg cs)=.agg (cs.map (AV.ren ρ Zh b0 φ n)):=rfl
theorem ren_tup (cs:List AV):AV.ren ρ Zh b0 φ (n+1) (.tup cs)=.tup (cs.map (AV.ren ρ Zh b0 φ n)):=rfl
theorem ren_int (k:IntKind)(x:Int):AV.ren ρ Zh b0 φ (n+1) (.int k x)=.int k x:=rfl
theorem ren_bool (b:Bool):AV.ren ρ Zh b0 φ (n+1) (.bool b)=.bool b:=rfl
theorem ren_str (b:ByteArray):AV.ren ρ Zh b0 φ (n+1) (.str b)=.str b:=rfl
theorem ren_und:AV.ren ρ Zh b0 φ (n+1) .und=.und:=rfl
theorem ren_unk:AV.ren ρ Zh b0 φ (n+1) .unk=.unk:=rfl
theorem ren_nil:AV.ren ρ Zh b0 φ (n+1) (.val (.slice none 0 0))=.rows b0 [] 0:=rfl
theorem ren_ints (k:IntKind)(xs:List Int):(xs.map (AV.int k)).map (AV.ren ρ Zh b0 φ (n+1))=xs.map (AV.int k):=by rw [List.map_map];rfl
theorem ren_rep (k:IntKind)(v:Int)(m:Nat):(List.replicate m (AV.int k v)).map (AV.ren ρ Zh b0 φ (n+1))=List.replicate m (AV.int k v):=by rw [List.map_replicate];rfl
theorem ren_bools (xs:List Bool):(xs.map AV.bool).map (AV.ren ρ Zh b0 φ (n+1))=xs.map AV.bool:=by rw [List.map_map];rfl
end
theorem posF_eq (ids:List Nat)(id:Nat):posF ids id=posL ids id 0:=rfl
theorem posL_nil (id k:Nat):posL [] id k=none:=rfl
theorem posL_cons (x:Nat)(r:List Nat)(id k:Nat):posL (x::r) id k=if id=x then some k else posL r id (k+1):=rfl
theorem zF_false (H:Nat→Option (List AV))(id:Nat):zF false H id=H id:=rfl
theorem zF_true (H:Nat→Option (List AV))(id:Nat):zF true H id=none:=rfl
theorem noH_eq (id:Nat):noH id=none:=rfl
theorem phiD_eq (b:Bool):phiD b=some false:=rfl
theorem phiU_t (sh:Bool):phiU sh true=some true:=rfl
theorem phiU_ff:phiU false false=none:=rfl
theorem phiU_tf:phiU true false=some false:=rfl
theorem idxF_zero (x:Nat)(r:List Nat):idxF (x::r) 0=some x:=rfl
theorem idxF_one (x y:Nat)(r:List Nat):idxF (x::y::r) 1=some y:=rfl
theorem idxF_two (x y z:Nat)(r:List Nat):idxF (x::y::z::r) 2=some z:=rfl
theorem idxF_nil (i:Nat):idxF [] i=none:=by simp [idxF]
theorem down_eq (ids:List Nat)(sh:Bool)(H:Nat→Option (List AV))(a:AV):a.down ids sh H=a.ren (posF ids) (zF sh H) false phiD 5:=rfl
theorem up_eq (ids:List Nat)(sh:Bool)(a:AV):a.up ids sh=a.ren (idxF ids) noH true (phiU sh) 5:=rfl
theorem can_eq (ids:List Nat)(H:Nat→Option (List AV))(a:AV):a.can ids H=a.ren (posF ids) H true some 5:=rfl
theorem down_fun (ids:List Nat)(sh:Bool)(H:Nat→Option (List AV))(l:List AV):l.map (AV.down ids sh H)=l.map (AV.ren (posF ids) (zF sh H) false phiD 5):=rfl
theorem up_fun (ids:List Nat)(sh:Bool)(l:List AV):l.map (AV.up ids sh)=l.map (AV.ren (idxF ids) noH true (phiU sh) 5):=rfl
theorem can_fun (ids:List Nat)(H:Nat→Option (List AV))(l:List AV):l.map (AV.can ids H)=l.map (AV.ren (posF ids) H true some 5):=rfl
def orN (H:Nat→Option (List AV))(id:Nat):List Nat→Option (List AV)
 | []=>H id
 | x::r=>if id=x then some ((H id).getD []) else orN H id r
theorem orN_nil (H:Nat→Option (List AV))(id:Nat):orN H id []=H id:=rfl
theorem orN_cons (H:Nat→Option (List AV))(id x:Nat)(r:List Nat):orN H id (x::r)=if id=x then some ((H id).getD []) else orN H id r:=rfl
theorem orNil_eq (H:Nat→Option (List AV))(ids:List Nat)(id:Nat):orNil H ids id=orN H id ids:=by
 unfold orNil
 induction ids with
 | nil=>simp [orN]
 | cons x r ih =>
  simp only [orN,List.mem_cons]
  by_cases h:id=x
  ·simp [h]
  ·simp only [h,false_or,if_false];exact ih
def inN:List Nat→Nat→Prop
 | [],_=>False
 | x::r,id=>id=x∨inN r id
theorem inN_nil (id:Nat):inN [] id=False:=rfl
theorem inN_cons (x id:Nat)(r:List Nat):inN (x::r) id=(id=x∨inN r id):=rfl
theorem inN_mem:∀ {l:List Nat} {id:Nat},id∈l↔inN l id
 | [],_=>by simp [inN]
 | x::r,id=>by simp [inN,inN_mem (l:=r)]
theorem after_eq (ids:List Nat)(sh:Bool)(n:Nat)(dst:Option Nat)(r:AV)(H':List (List AV))(s:S):after ids sh n dst r H' s =
 s.putL dst (r.up (ids++news dst (H'.length-n)) sh) ((ids++news dst (H'.length-n)).zip (H'.map (List.map (AV.up (ids++news dst (H'.length-n)) sh)))):=rfl
theorem news_none (k:Nat):news none k=[]:=rfl
theorem news_zero (d:Nat):news (some d) 0=[]:=rfl
theorem news_1 (d:Nat):news (some d) 1=[16*d]:=rfl
theorem news_2 (d:Nat):news (some d) 2=[16*d,16*d+1]:=rfl
theorem news_3 (d:Nat):news (some d) 3=[16*d,16*d+1,16*d+2]:=rfl
theorem lenOk_nil (H:List (List AV)):lenOk [] H=True:=rfl
theorem lenOk_cons (a b:List AV)(r s:List (List AV)):lenOk (a::r) (b::s)=(a.length≤b.length∧lenOk r s):=rfl
theorem initB_eq (args:List AV)(H0:List (List AV)):S.initB args H0=mkS (args.zipIdx.map fun p=>(p.2,p.1)) (H0.zipIdx.map fun p=>(p.2,p.1)):=rfl
theorem retOk_eq (pins outs:List Nat)(nils:List (Nat×Nat))(H:Nat→Option (List AV)):retOk pins outs nils H=((∀ id∈pins,(H id).isSome=true)∧∀ p∈nils,H p.1=none∧inN outs p.1):=by
 simp only [retOk,inN_mem]
theorem fixNil_nil (id sz:Nat)(r:List (Nat×Nat)):AV.fixNil ((id,sz)::r) (.val (.slice none 0 0))=(.own id 0 sz,r):=rfl
theorem fixNil_none (a:AV):a.fixNil []=(a,[]):=by
 have h:∀ (n:Nat) (a:AV),sizeOf a<n→a.fixNil []=(a,[]):=by
  intro n
  induction n with
  | zero=>intro a h;omega
  | succ n ih =>
   have hl:∀ cs:List AV,sizeOf cs<n+1→fixNilL [] cs=(cs,[]):=by
    intro cs
    induction cs with
    | nil=>intro _;rfl
    | cons c r ihr =>
     intro h
     simp only [List.cons.sizeOf_spec] at h
     simp only [fixNilL,ih c (by omega),ihr (by omega)]
   intro a h
   cases a
   case agg cs=>simp only [AV.agg.sizeOf_spec] at h;simp only [AV.fixNil,hl cs (by omega)]
   case tup cs=>simp only [AV.tup.sizeOf_spec] at h;simp only [AV.fixNil,hl cs (by omega)]
   case val u=>unfold AV.fixNil;split<;>simp_all
   all_goals rfl
 exact h _ a (Nat.lt_succ_self _)
theorem fixNil_agg (L:List (Nat×Nat))(cs:List AV):AV.fixNil L (.agg cs)=(.agg (fixNilL L cs).1,(fixNilL L cs).2):=rfl
theorem fixNil_tup (L:List (Nat×Nat))(cs:List AV):AV.fixNil L (.tup cs)=(.tup (fixNilL L cs).1,(fixNilL L cs).2):=rfl
theorem fixNil_int (L:List (Nat×Nat))(k:IntKind)(x:Int):AV.fixNil L (.int k x)=(.int k x,L):=rfl
theorem fixNil_bool (L:List (Nat×Nat))(b:Bool):AV.fixNil L (.bool b)=(.bool b,L):=rfl
theorem fixNil_own (L:List (Nat×Nat))(id n sz:Nat):AV.fixNil L (.own id n sz)=(.own id n sz,L):=rfl
theorem fixNil_rows (L:List (Nat×Nat))(fr:Bool)(cs:List AV)(n:Nat):AV.fixNil L (.rows fr cs n)=(.rows fr cs n,L):=rfl
theorem fixNilL_nil (L:List (Nat×Nat)):fixNilL L []=([],L):=rfl
theorem fixNilL_cons (L:List (Nat×Nat))(c:AV)(r:List AV):fixNilL L (c::r)=((c.fixNil L).1::(fixNilL (c.fixNil L).2 r).1,(fixNilL (c.fixNil L).2 r).2):=rfl
theorem Aiz {α:Type}(p:α→Prop):(∀ x∈([]:List α),p x)=True:=by simp
theorem Aez {α:Type}(p:α→Prop)(a:α)(l:List α):(∀ x∈a::l,p x)=(p a∧∀ x∈l,p x):=by simp


def callD (P:Program)(pin f:Nat)(ids:List Nat)(sh:Bool)(cargs:List AV)(dst:Option Nat)(K:S→Prop)(σ:List (Nat×AV))(H:List (Nat×List AV)):Prop :=
 ∀ args:List Operand,args.map (fun x=>((mkS σ H).ev x).down ids sh (hk H))=cargs→callOwed P pin f args dst K (mkS σ H)
theorem Aoz {f:Nat}{args:List Operand}{dst:Option Nat}(sh:Bool)(h:callD P pin f [] sh (args.map fun x=>((mkS σ H).ev x).down [] sh (hk H)) dst K σ H):callOwed P pin f args dst K (mkS σ H):=h args rfl
theorem B7z {f:Nat}{args:List Operand}{dst:Option Nat}(ids:List Nat)(sh:Bool)(h:callD P pin f ids sh (args.map fun x=>((mkS σ H).ev x).down ids sh (hk H)) dst K σ H):callOwed P pin f args dst K (mkS σ H):=h args rfl
theorem Apz {f:Nat}{sh:Bool}{cargs:List AV}{Q:AV→List (List AV)→Prop}{dst:Option Nat}(hc:BCall P f cargs [] Q)(hK:∀ res H',Q res H'→freshC pin H dst H'.length∧K (after [] sh 0 dst res H' (mkS σ H))):callD P pin f [] sh cargs dst K σ H :=
 fun _ ha=>call0 sh hc ha hK
theorem Glz {f id:Nat}{sh:Bool}{cargs h0:List AV}{Q:AV→List (List AV)→Prop}{dst:Option Nat}(hc:BCall P f cargs [h0] Q)(hH:(hk H id).map (List.map (AV.down [id] sh (hk H)))=some h0)
  (hK:∀ res H',Q res H'→(lenOk [h0] H'∧freshC pin H dst (H'.length-1))∧K (after [id] sh 1 dst res H' (mkS σ H))):callD P pin f [id] sh cargs dst K σ H :=
 fun _ ha=>call1 id sh hc ha hH fun r H' hq=>let ⟨⟨a,b⟩,c⟩:=hK r H' hq;⟨a,b,c⟩
def qcallD (P:Program)(pin:Nat)(HF:List (Nat×List AV))(Z:List Nat)(f:Nat)(sh:Bool)(cargs:List AV)(dst:Option Nat)(r:List AOper)(K:S→Prop)(σ:List (Nat×AV))(H:List (Nat×List AV)):Prop :=
 ∀ args:List Operand,args.map (fun x=>((mkS σ H).ev x).down [] sh (hk HF))=cargs→qCall P pin (hk HF) Z f args dst r K (mkS σ H)
theorem Bmz {f:Nat}{args:List Operand}{dst:Option Nat}{r:List AOper}(sh:Bool)(h:qcallD P pin HF Z f sh (args.map fun x=>((mkS σ H).ev x).down [] sh (hk HF)) dst r K σ H):qCall P pin (hk HF) Z f args dst r K (mkS σ H):=h args rfl
theorem Ayz {f d:Nat}{sh:Bool}{cargs:List AV}{Q:AV→List (List AV)→Prop}{r:List AOper}(hc:BCall P f cargs [] Q)(hne:∃ v H',Q v H')
  (hK:∀ res H',Q res H'→(H'.length≤16∧freshD H d∧pin≤16*d∧∀ z∈Z,¬ z / 16=d)∧qSeq P pin (hk HF) Z r K (after [] sh 0 (some d) res H' (mkS σ H))):qcallD P pin HF Z f sh cargs (some d) r K σ H:=by
 intro args ha
 obtain ⟨v,H',hq⟩:=hne
 have h1:=(hK v H' hq).1
 exact qcall0 sh hc ha h1.2 ⟨v,H',hq⟩ fun res H'' hq'=>⟨(hK res H'' hq').1.1,(hK res H'' hq').2⟩

def condB (P:Program)(pin:Nat)(v:AV)(t e:ACode)(Q:Exit→S→Prop)(s:S):Prop:=match v with
 | .bool b=>(b=true→awp P pin t Q s)∧(b=false→awp P pin e Q s)
 | _=>False
theorem Abz {Q:Exit→S→Prop}{c:Operand}{t e:ACode}(h:condB P pin (s.ev c) t e Q s):awp P pin (.cond c t e) Q s:=by
 generalize hv:s.ev c=v at h
 cases v<;>simp only [condB] at h<;>try exact h.elim
 exact awp_cond _ hv h.1 h.2
theorem condB_true {Q:Exit→S→Prop}(t e:ACode)(s:S):condB P pin (.bool true) t e Q s=awp P pin t Q s:=by simp [condB]
theorem condB_false {Q:Exit→S→Prop}(t e:ACode)(s:S):condB P pin (.bool false) t e Q s=awp P pin e Q s:=by simp [condB]
theorem Acz {Q:Exit→S→Prop}{b:Bool}{t e:ACode}{s:S}(h1:b=true→awp P pin t Q s)(h2:b=false→awp P pin e Q s):condB P pin (.bool b) t e Q s:=⟨h1,h2⟩

theorem Akz (p:Nat→Bool)(k:IntKind)(xs:List Int):innL p (xs.map (AV.int k))=true:=by
 induction xs with
 | nil=>rfl
 | cons x r ih=>simp [innL,AV.inn,ih]

theorem Amz (p:Nat→Bool)(k:IntKind)(v:Int)(n:Nat):innL p (List.replicate n (AV.int k v))=true:=by
 induction n with
 | zero=>rfl
 | succ n ih=>simp [List.replicate_succ,innL,AV.inn,ih]

theorem Ajz (p:Nat→Bool)(xs ys:List AV):innL p (xs++ys)=(innL p xs&&innL p ys):=by
 induction xs with
 | nil=>simp [innL]
 | cons x r ih=>simp [innL,ih,Bool.and_assoc]

attribute [push_cast] Nat.le_refl inB_nil inB_cons okC_some okC_none bindC_some bindC_new keepL_nil keepL_cons dropL_nil dropL_cons mixL_eq bindX_true bindX_false isMk_nil isMk_none isMk_cons qSeq_slice3 qSeq_clr qSeq_cpy qSeq_store qSeq_bslice0 bindQ_some bindQ_new qIf_true qIf_false bindH_some qSeq_nil qSeq_guard qSeq_call qSeq_mv qSeq_pick qSeq_alloc qSeq_box qSeq_mkfn qSeq_build qSeq_bslice qSeq_load qSeq_bin qSeq_binB qSeq_un qSeq_conv qSeq_nilck qSeq_mkslice qSeq_slice qSeq_sliceS qSeq_fld qSeq_fldv qSeq_idxA qSeq_idxP qSeq_idxS qSeq_extract qSeq_len qSeq_lenS qSeq_append qSeq_minmax qSeq_eqS qSeq_sliceP notIn_nil notIn_cons freshD_nil freshD_cons G1z put_list' freshC_zero freshC_1 freshC_2 freshC_3 Dxz renO_none renO_nn renR_some renR_none renR_nn renPr_some renPr_none ren_prow renW_some renW_none Ezz ren_osl renOs_some renOs_none ren_ref ren_rows ren_agg ren_tup ren_int ren_bool ren_str ren_und ren_unk ren_nil ren_ints ren_bools ren_rep posF_eq posL_nil posL_cons zF_false zF_true noH_eq phiD_eq phiU_t phiU_ff phiU_tf idxF_zero idxF_one idxF_two idxF_nil down_eq up_eq can_eq down_fun up_fun can_fun orNil_eq after_eq news_none news_zero news_1 news_2 news_3 lenOk_nil lenOk_cons initB_eq retOk_eq fixNil_nil fixNil_none fixNil_agg fixNil_tup fixNil_int fixNil_bool fixNil_own fixNil_rows fixNilL_nil fixNilL_cons Aiz Aez condB_true condB_false List.zip_cons_cons List.zip_nil_left List.zip_nil_right List.append_nil Option.isSome_some Option.isSome_none not_false_eq_true or_true or_false inN_nil inN_cons orN_nil orN_cons

end
end Vw
namespace Vw
open Go
variable [Inhabited GlobT]

variable {H:Type} {ec:TypeId×Value→H} {P:Program} {w:World} {spare:Nat→Bool} {held:Bool}

abbrev C0 (w:World):Ctx:=Ctx.callee w w fun _=>False

structure Opn (ec:TypeId×Value→H) (P:Program) (w:World) (spare:Nat→Bool) (held:Bool) (t:TypeId) (sz:Nat) {α:Type} (en:α→List AV) (good:α→Prop):Prop where
 cells:P.cellsOf t=sz
 len:∀ a,(en a).length=sz
 at_:∀ fuel cs x,DataW.trod ec P w 0 spare held fuel t cs=some x→cs.length=sz∧∃ a,DenP (C0 w) (en a) cs∧good a

def enI (n:Int):List AV:=[.int .i64 n]
def goodI (n:Int):Prop:=-9223372036854775808≤n∧n≤9223372036854775807
def enB (b:Bool):List AV:=[.bool b]
def enS {α:Type}(en:α→List AV)(l:List α):List AV:=[.rows false (l.flatMap en) l.length]
def goodS {α:Type}(good:α→Prop)(l:List α):Prop:=(∀ a∈l,good a)∧l.length≤9223372036854775807

theorem Opn.int {t:TypeId}(ht:P.underlying t=some (.int .i64))(hc:P.cellsOf t=1):Opn ec P w spare held t 1 enI goodI:=by
 refine ⟨hc,fun _=>rfl,fun fuel cs x h=>?_⟩
 obtain ⟨n,rfl,_,hw⟩:=DataW.trod_int ht h
 refine ⟨rfl,n,by simp [enI,DenP,Den],?_⟩
 simpa [goodI,Lit.wf,IntKind.min,IntKind.max,IntKind.signed,IntKind.bits] using hw

theorem Opn.bool {t:TypeId}(ht:P.underlying t=some .bool)(hc:P.cellsOf t=1):Opn ec P w spare held t 1 enB (fun _=>True):=by
 refine ⟨hc,fun _=>rfl,fun fuel cs x h=>?_⟩
 obtain ⟨b,rfl,_⟩:=DataW.trod_bool ht h
 exact ⟨rfl,b,by simp [enB,DenP,Den],trivial⟩

theorem cell_lit {g o:Nat}{v:Value}{s:Option Nat}(h:w.cell? ⟨g,o,s⟩=some v):s=none∧∃ cur e fz,w.heap[g]?=some (.cells cur e fz)∧cur[o]?=some v:=by
 unfold World.cell? at h
 simp only at h
 split at h
 ·rename_i c e fz hg
  split at h
  ·cases h
  ·rename_i hs
   exact ⟨by simpa using hs,c,e,fz,hg,h⟩
 ·cases h

theorem Opn.slice {t e:TypeId}{sz:Nat}{α:Type}{en:α→List AV}{good:α→Prop}(o:Opn ec P w spare held e sz en good)(hsz:0<sz)(ht:P.underlying t=some (.slice e))(hc:P.cellsOf t=1):Opn ec P w spare held t 1 (enS en) (goodS good):=by
 refine ⟨hc,fun _=>rfl,fun fuel cs x h=>?_⟩
 rcases DataW.trod_slice ht h with ⟨rfl,_⟩|⟨a,len,cap,elems,rest,n,_,rfl,_,_,hl,hm,hlen,hel,_⟩
 ·exact ⟨rfl,[],by simp only [enS,DenP,Den];exact ⟨.inl ⟨.inl rfl,by simp,by simp⟩,trivial⟩,by simp [goodS]⟩
 ·refine ⟨rfl,?_⟩
  by_cases h0:len=0
  ·subst h0
   exact ⟨[],by simp only [enS,DenP,Den];exact ⟨.inl ⟨.inr ⟨a,cap,by simp⟩,by simp,by simp⟩,trivial⟩,by simp [goodS]⟩
  ·-- each element's cells
   have hcell:∀ i,i<len→∃ cs' y,w.cells? 0 (a.add (i*sz)) sz=some cs'∧DataW.trod ec P w 0 spare held n e cs'=some y:=by
    intro i hi
    have h1:=hel i hi
    rw [o.cells] at h1
    rw [List.getElem?_eq_getElem (by omega)] at h1
    simp only [Option.bind_eq_some_iff] at h1
    obtain ⟨cs',h2,h3⟩:=h1
    exact ⟨cs',_,h2,h3⟩
   obtain ⟨g,of,sp⟩:=a
   have hspot:sp=none∧∃ cur et fz,w.heap[g]?=some (.cells cur et fz):=by
    obtain ⟨cs',y,h1,_⟩:=hcell 0 (by omega)
    have h2:=(World.cells?_some h1).2
    have hlen':cs'.length=sz:=h2.1
    have h3:=h2.2 0 (by omega)
    rw [List.getElem?_eq_getElem (by omega)] at h3
    have e0:((⟨g,of,sp⟩:Addr).add (0*sz)).add 0=(⟨g,of,sp⟩:Addr):=by
     simp [Addr.add]
    rw [e0] at h3
    obtain ⟨h4,cur,et,fz,h5,_⟩:=cell_lit h3
    exact ⟨h4,cur,et,fz,h5⟩
   obtain ⟨rfl,cur,et,fz,hg⟩:=hspot
   have hat:∀ i,i<len→∃ al,DenP (C0 w) (en al) (cur.toList.drop (of+i*sz))∧good al:=by
    intro i hi
    obtain ⟨cs',y,h1,h2⟩:=hcell i hi
    obtain ⟨hl',al,h3,h4⟩:=o.at_ _ _ _ h2
    refine ⟨al,?_,h4⟩
    have h5:=(World.cells?_some h1).2.2
    rw [Axz] at h3 ⊢
    intro j b hb
    obtain ⟨v,hv,hd⟩:=h3 j b hb
    have hj:j<sz:=by rw [← o.len al];exact (List.getElem?_eq_some_iff.1 hb).1
    have h6:=h5 j hj
    rw [hv] at h6
    have e1:((⟨g,of,none⟩:Addr).add (i*sz)).add j=⟨g,of+i*sz+j,none⟩:=by rw [Addr.add_lit,Addr.add_lit]
    rw [e1] at h6
    obtain ⟨_,cur',et',fz',h7,h8⟩:=cell_lit h6
    rw [hg] at h7
    injection h7 with h7
    injection h7 with h7
    subst h7
    exact ⟨v,by rw [List.getElem?_drop];simpa using h8,hd⟩
   have hall:∀ k,k≤len→∃ l:List α,l.length=k∧(∀ a∈l,good a)∧DenP (C0 w) (l.flatMap en) (cur.toList.drop of)∧(l.flatMap en).length=k*sz:=by
    intro k
    induction k with
    | zero=>exact fun _=>⟨[],rfl,by simp,by simp [DenP],by simp⟩
    | succ k ih =>
     intro hk
     obtain ⟨l,h1,h2,h3,h4⟩:=ih (by omega)
     obtain ⟨al,h5,h6⟩:=hat k (by omega)
     refine ⟨l++[al],by simp [h1],fun x hx=>?_,?_,by simp [List.flatMap_append,h4,o.len,Nat.add_mul]⟩
     ·rcases List.mem_append.1 hx with hx|hx
      ·exact h2 x hx
      ·simp at hx;subst hx;exact h6
     ·rw [List.flatMap_append]
      simp only [List.flatMap_cons,List.flatMap_nil,List.append_nil]
      rw [Axz] at h3 h5 ⊢
      intro j b hb
      rw [List.getElem?_append] at hb
      split at hb
      ·exact h3 j b hb
      ·rename_i hj
       obtain ⟨v,hv,hd⟩:=h5 _ b hb
       refine ⟨v,?_,hd⟩
       rw [List.getElem?_drop] at hv ⊢
       rw [h4] at hv hj
       rw [← hv]
       congr 1
       omega
   obtain ⟨l,h1,h2,h3,_⟩:=hall len (Nat.le_refl _)
   refine ⟨l,?_,h2,by rw [h1];have:maxLen=9223372036854775807:=rfl;omega⟩
   simp only [enS,DenP,Den,and_true]
   exact .inr ⟨g,of,cap,cur,et,fz,by rw [h1],hg,⟨(fun _ h=>by cases h),(fun h=>h),(fun h=>by cases h)⟩,by rw [h1];exact hl,h3⟩

inductive OpnL (ec:TypeId×Value→H) (P:Program) (w:World) (spare:Nat→Bool) (held:Bool):(o:Nat)→List Field→(α:Type)→(α→List AV)→(α→Prop)→Prop
 | nil {o:Nat}:OpnL ec P w spare held o [] Unit (fun _=>[]) (fun _=>True)
 | cons {o sz:Nat} {f:Field} {fs:List Field} {α β:Type} {en:α→List AV} {good:α→Prop} {en':β→List AV} {good':β→Prop} :
   Opn ec P w spare held f.type sz en good→f.offset=o→OpnL ec P w spare held (o+sz) fs β en' good'→OpnL ec P w spare held o (f::fs) (α×β) (fun p=>en p.1++en' p.2) (fun p=>good p.1∧good' p.2)

theorem OpnL.at_ {o:Nat}{fs:List Field}{α:Type}{en:α→List AV}{good:α→Prop}(h:OpnL ec P w spare held o fs α en good) :
  ∃ total,(∀ a,(en a).length=total)∧∀ (cs:List Value),(∀ f∈fs,∃ n x,DataW.trod ec P w 0 spare held n f.type ((cs.drop f.offset).take (P.cellsOf f.type))=some x)→∃ a,DenP (C0 w) (en a) (cs.drop o)∧good a:=by
 induction h with
 | nil=>exact ⟨0,fun _=>rfl,fun cs _=>⟨(),by simp [DenP],trivial⟩⟩
 | @cons o sz f fs α β en good en' good' hf ho hr ih =>
  obtain ⟨total,h1,h2⟩:=ih
  refine ⟨sz+total,fun a=>by simp [hf.len,h1],fun cs hcs=>?_⟩
  obtain ⟨n,x,h3⟩:=hcs f (by simp)
  obtain ⟨h4,a,h5,h6⟩:=hf.at_ _ _ _ h3
  obtain ⟨b,h7,h8⟩:=h2 cs (fun f hf=>hcs f (by simp [hf]))
  refine ⟨(a,b),?_,h6,h8⟩
  rw [hf.cells] at h4 h5
  subst ho
  have hl:=hf.len a
  rw [Axz] at h5 h7 ⊢
  intro j c hc
  dsimp only at hc
  rw [List.getElem?_append] at hc
  split at hc
  ·rename_i hj
   obtain ⟨v,hv,hd⟩:=h5 j c hc
   refine ⟨v,?_,hd⟩
   rw [List.getElem?_take,if_pos (by omega)] at hv
   exact hv
  ·rename_i hj
   obtain ⟨v,hv,hd⟩:=h7 _ c hc
   refine ⟨v,?_,hd⟩
   rw [List.getElem?_drop] at hv ⊢
   rw [← hv]
   congr 1
   omega

theorem Opn.struct {t:TypeId}{sz:Nat}{fs:Array Field}{α:Type}{en:α→List AV}{good:α→Prop}(ht:P.underlying t=some (.struct fs))(hl:OpnL ec P w spare held 0 fs.toList α en good)(hc:P.cellsOf t=sz)(hlen:∀ a,(en a).length=sz):Opn ec P w spare held t sz en good:=by
 refine ⟨hc,hlen,fun fuel cs x h=>?_⟩
 obtain ⟨xs,n,_,_,h1,h2,h3⟩:=DataW.trod_struct ht h
 obtain ⟨total,_,h4⟩:=hl.at_
 obtain ⟨a,h5,h6⟩:=h4 cs fun f hf=>by
  obtain ⟨i,hi⟩:=List.getElem?_of_mem hf
  have h7:=h3 i f (by simpa using hi)
  have hlt:i<xs.length:=by
   have:=(List.getElem?_eq_some_iff.1 hi).1
   simp at this
   omega
  rw [List.getElem?_eq_getElem hlt] at h7
  exact ⟨n,_,h7⟩
 exact ⟨h1.trans hc,a,by simpa using h5,h6⟩

theorem Opn.cell {t:TypeId}{α:Type}{en:α→List AV}{good:α→Prop}(o:Opn ec P w spare held t 1 en good){v:Value}{d:DataW H}{ps:List MemPlace}(h:DataW.Trod ec P w 0 spare held t v d ps)(hv:∀ cs,v≠.agg cs):∃ a,DenP (C0 w) (en a) [v]∧good a:=by
 obtain ⟨n,hn⟩:=h
 obtain ⟨_,a,h1,h2⟩:=o.at_ _ _ _ hn
 have:v.cells.toList=[v]:=by cases v<;>first|rfl|exact absurd rfl (hv _)
 rw [this] at h1
 exact ⟨a,h1,h2⟩

theorem Opn.agg {t:TypeId}{sz:Nat}{α:Type}{en:α→List AV}{good:α→Prop}(o:Opn ec P w spare held t sz en good){cs:Array Value}{d:DataW H}{ps:List MemPlace}(h:DataW.Trod ec P w 0 spare held t (.agg cs) d ps):∃ a,Den (C0 w) (.agg (en a)) (.agg cs)∧good a:=by
 obtain ⟨n,hn⟩:=h
 obtain ⟨hl,a,h1,h2⟩:=o.at_ _ _ _ hn
 refine ⟨a,?_,h2⟩
 simp only [Den]
 exact ⟨cs,rfl,by rw [o.len];simpa [Value.cells] using hl,h1⟩

theorem denP_mk {C:Ctx}{a:AV}{v:Value}{az:List AV}{vs:List Value}(h:Den C a v)(hr:DenP C az vs):DenP C (a::az) (v::vs):=by
 simp only [DenP];exact ⟨h,hr⟩
theorem denP_mk0 {C:Ctx}{vs:List Value}:DenP C [] vs:=by simp [DenP]

theorem den_of_cell {C:Ctx}{a:AV}{v:Value}(h:DenP C [a] [v]):Den C a v:=by
 simp only [DenP] at h;exact h.1

def enU (n:Int):List AV:=[.int .u8 n]
def goodU (n:Int):Prop:=0≤n∧n≤255
theorem Opn.u8 {t:TypeId}(ht:P.underlying t=some (.int .u8))(hc:P.cellsOf t=1):Opn ec P w spare held t 1 enU goodU:=by
 refine ⟨hc,fun _=>rfl,fun fuel cs x h=>?_⟩
 obtain ⟨n,rfl,_,hw⟩:=DataW.trod_int ht h
 refine ⟨rfl,n,by simp [enU,DenP,Den],?_⟩
 simpa [goodU,Lit.wf,IntKind.min,IntKind.max,IntKind.signed,IntKind.bits] using hw
theorem flat_u8 (l:List Int):l.flatMap enU=l.map (AV.int .u8):=by
 induction l with
 | nil=>rfl
 | cons x r ih=>simp [List.flatMap_cons,enU,ih]
theorem flat_ints (l:List Int):l.flatMap enI=l.map (AV.int .i64):=by
 induction l with
 | nil=>rfl
 | cons x r ih=>simp [List.flatMap_cons,enI,ih]
end Vw
namespace Vw
open Go
variable [Inhabited GlobT]

theorem litA_eq (d:Option Nat)(op:AOp)(g:Option (Nat×Bool))(a:List Nat):litA ⟨d,op,g,a⟩=⟨d,litOp op,g,a⟩:=rfl
theorem litOp_bslice (sz:Nat)(zs:List Value)(ps:List (Nat×Operand))(n:Nat):litOp (.bslice sz zs ps n)=if n=0 then .bslice sz zs ps n else .blit sz zs ps n:=rfl
theorem litOp_mv (x:Operand):litOp (.mv x)=.mv x:=rfl
theorem litOp_pick (c a b:Operand):litOp (.pick c a b)=.pick c a b:=rfl
theorem litOp_alloc (zs:List Value):litOp (.alloc zs)=.alloc zs:=rfl
theorem litOp_box (x:Operand):litOp (.box x)=.box x:=rfl
theorem litOp_mkfn (fn:Fn)(us vs:List Operand):litOp (.mkfn fn us vs)=.mkfn fn us vs:=rfl
theorem litOp_build (zs:List Value)(ps:List (Nat×Nat×Operand)):litOp (.build zs ps)=.build zs ps:=rfl
theorem litOp_load (agg:Bool)(sz:Nat)(x:Operand):litOp (.load agg sz x)=.load agg sz x:=rfl
theorem litOp_store (sz:Nat)(x v:Operand):litOp (.store sz x v)=.store sz x v:=rfl
theorem litOp_bin (op:BinOp)(x y:Operand):litOp (.bin op x y)=.bin op x y:=rfl
theorem litOp_binB (op:BinOp)(x y:Operand):litOp (.binB op x y)=.binB op x y:=rfl
theorem litOp_un (op:UnOp)(x:Operand):litOp (.un op x)=.un op x:=rfl
theorem litOp_conv (k:IntKind)(x:Operand):litOp (.conv k x)=.conv k x:=rfl
theorem litOp_nilck (x:Operand):litOp (.nilck x)=.nilck x:=rfl
theorem G7z (sz:Nat)(zs:List Value)(l c:Operand):litOp (.mkslice sz zs l c)=.mkslice sz zs l c:=rfl
theorem litOp_slice (sz:Nat)(x:Operand)(lo hi:Option Operand):litOp (.slice sz x lo hi)=.slice sz x lo hi:=rfl
theorem litOp_sliceS (x:Operand)(lo hi:Option Operand):litOp (.sliceS x lo hi)=.sliceS x lo hi:=rfl
theorem litOp_fld (off:Nat)(x:Operand):litOp (.fld off x)=.fld off x:=rfl
theorem litOp_fldv (agg:Bool)(off sz:Nat)(x:Operand):litOp (.fldv agg off sz x)=.fldv agg off sz x:=rfl
theorem litOp_idxA (sz:Nat)(x i:Operand):litOp (.idxA sz x i)=.idxA sz x i:=rfl
theorem litOp_idxP (sz n:Nat)(x i:Operand):litOp (.idxP sz n x i)=.idxP sz n x i:=rfl
theorem litOp_idxS (x i:Operand):litOp (.idxS x i)=.idxS x i:=rfl
theorem G8z (x:Operand)(i:Nat):litOp (.extract x i)=.extract x i:=rfl
theorem litOp_len (x:Operand):litOp (.len x)=.len x:=rfl
theorem litOp_lenS (x:Operand):litOp (.lenS x)=.lenS x:=rfl
theorem litOp_append (sz:Nat)(x y:Operand):litOp (.append sz x y)=.append sz x y:=rfl
theorem litOp_slice3 (sz:Nat)(x:Operand)(lo:Option Operand)(hi mx:Operand):litOp (.slice3 sz x lo hi mx)=.slice3 sz x lo hi mx:=rfl
theorem litOp_clr (sz:Nat)(zs:List Value)(x:Operand):litOp (.clr sz zs x)=.clr sz zs x:=rfl
theorem litOp_cpy (sz:Nat)(x y:Operand):litOp (.cpy sz x y)=.cpy sz x y:=rfl
theorem litOp_minmax (mx:Bool)(x y:Operand):litOp (.minmax mx x y)=.minmax mx x y:=rfl
theorem litOp_eqS (neg:Bool)(l:List (Nat×Option IntKind))(x y:Operand):litOp (.eqS neg l x y)=.eqS neg l x y:=rfl
theorem litOp_sliceP (sz n:Nat)(x:Operand)(lo hi:Option Operand):litOp (.sliceP sz n x lo hi)=.sliceP sz n x lo hi:=rfl
theorem litOp_isnil (neg:Bool)(x:Operand):litOp (.isnil neg x)=.isnil neg x:=rfl
theorem litOp_call (f:Nat)(args:List Operand):litOp (.call f args)=.call f args:=rfl

def dropK (id:Nat):List (Nat×List AV)→List (Nat×List AV)
 | []=>[]
 | p::r=>if p.1=id then dropK id r else p::dropK id r
theorem dropK_nil (id:Nat):dropK id []=[]:=rfl
theorem dropK_cons (id i:Nat)(cs:List AV)(r:List (Nat×List AV)):dropK id ((i,cs)::r)=if i=id then dropK id r else (i,cs)::dropK id r:=rfl
section
variable {P:Program} {pin:Nat} {σ:List (Nat×AV)} {H HF:List (Nat×List AV)} {Z:List Nat} {K:S→Prop}

theorem qSeq_blit (sz:Nat)(zs:List Value)(ps:List (Nat×Operand))(n:Nat)(dst:Option Nat)(af:List Nat)(r:List AOper):qSeq P pin (hk HF) Z (⟨dst,.blit sz zs ps n,none,af⟩::r) K (mkS σ H)=bindX P pin HF Z K (isMk Z dst) (.blit sz zs ps n) dst r σ H:=Auz _ _ _ _ (fun _ _ h=>by cases h) rfl
theorem arun_blit {s:S}{d:Nat}(sz:Nat)(zs:List Value)(ps:List (Nat×Operand))(n:Nat):arun s pin d (.blit sz zs ps n) =
  withO (fillR (zcells (zs.map ofCell) n) (ps.map fun p=>(p.1*sz,sz,s.ev p.2))) fun cs=>some (.rows true cs n,none):=by
 simp only [arun,withO]
 cases fillR (zcells (zs.map ofCell) n) (ps.map fun p=>(p.1*sz,sz,s.ev p.2))<;>rfl

end
attribute [push_cast] litA_eq litOp_bslice litOp_mv litOp_pick litOp_alloc litOp_box litOp_mkfn litOp_build litOp_load litOp_store litOp_bin litOp_binB litOp_un litOp_conv litOp_nilck G7z litOp_slice litOp_sliceS litOp_fld litOp_fldv litOp_idxA litOp_idxP litOp_idxS G8z litOp_len litOp_lenS litOp_append litOp_slice3 litOp_clr litOp_cpy litOp_minmax litOp_eqS litOp_sliceP litOp_isnil litOp_call dropK_nil dropK_cons qSeq_blit arun_blit
end Vw
namespace Vw
open Go
variable [Inhabited GlobT]
structure Later (p:Prop):Prop where
 get:p
section
variable {P:Program} {pin:Nat}
end
end Vw
namespace Vw
open Go
variable [Inhabited GlobT]

def swp (a b i:Nat):Nat:=if i=a then b else if i=b then a else i
theorem Clz (a b i:Nat):swp a b (swp a b i)=i:=by
 unfold swp
 by_cases h1:i=a<;>by_cases h2:i=b<;>by_cases h3:b=a<;>simp_all
theorem swp_inj {a b i j:Nat}(h:swp a b i=swp a b j):i=j:=by rw [← Clz a b i,h,Clz]

mutual
def AV.sw (a b:Nat):AV→AV
 | .ref id len off=>.ref (swp a b id) len off
 | .own id n sz=>.own (swp a b id) n sz
 | .osl id len off n sz c=>.osl (swp a b id) len off n sz c
 | .agg cs=>.agg (swL a b cs)
 | .tup cs=>.tup (swL a b cs)
 | .rows fr cs n=>.rows fr (swL a b cs) n
 | .prow fr cs off=>.prow fr (swL a b cs) off
 | .sref k id=>.sref k (swp a b id)
 | .clo fn az cs=>.clo fn (swL a b az) (swL a b cs)
 | .ifc t c=>.ifc t (c.sw a b)
 | .sp ids f=>.sp (ids.map (swp a b)) f
 | x=>x
def swL (a b:Nat):List AV→List AV
 | []=>[]
 | c::r=>c.sw a b::swL a b r
end
theorem A8z (a b:Nat):∀ cs:List AV,(swL a b cs).length=cs.length
 | []=>rfl
 | c::r=>by simp [swL,A8z a b r]
theorem sw_isSp (a b:Nat)(x:AV):(x.sw a b).isSp=x.isSp:=by cases x<;>rfl
theorem D7z (a b:Nat):∀ cs:List AV,spL (swL a b cs)=spL cs
 | []=>rfl
 | c::r=>by
  have:=D7z a b r
  simp only [spL] at this
  simp [spL,swL,sw_isSp,this]
def Ctx.sw (a b:Nat)(C:Ctx):Ctx:=⟨C.w,fun i=>C.M (swp a b i),fun i=>(C.H (swp a b i)).map (swL a b),C.A,C.B⟩

mutual
theorem Den.sw {a b:Nat}{C:Ctx}:∀ {x:AV} {v:Value},Den C x v→Den (C.sw a b) (x.sw a b) v
 | .unk,_,_=>by simp [Den,AV.sw]
 | .und,_,h=>by simpa [Den,AV.sw] using h
 | .int ..,_,h=>by simpa [Den,AV.sw] using h
 | .bool _,_,h=>by simpa [Den,AV.sw] using h
 | .str _,_,h=>by simpa [Den,AV.sw] using h
 | .val _,_,h=>by simpa [Den,AV.sw] using h
 | .agg cs,_,h=>by
  simp only [Den,AV.sw] at *
  obtain ⟨vs,h1,h2,h3⟩:=h
  exact ⟨vs,h1,by rw [A8z];exact h2,DenP.sw h3⟩
 | .tup cs,_,h=>by
  simp only [Den,AV.sw] at *
  obtain ⟨vs,h1,h2,h3⟩:=h
  exact ⟨vs,h1,by rw [A8z];exact h2,DenP.sw h3⟩
 | .rows fr cs n,_,h=>by
  simp only [Den,AV.sw] at *
  rcases h with ⟨h1,h2,h3⟩|⟨g,o,cap,cur,e,fz,h1,h2,h3,h4,h5⟩
  ·exact .inl ⟨h1,by rw [h2];rfl,h3⟩
  ·exact .inr ⟨g,o,cap,cur,e,fz,h1,h2,⟨fun id hc=>h3.1 (swp a b id) hc,h3.2.1,h3.2.2⟩,h4,DenP.sw h5⟩
 | .prow fr cs off,_,h=>by
  simp only [Den,AV.sw] at *
  obtain ⟨g,o,cur,e,fz,h1,h2,h3,h5⟩:=h
  exact ⟨g,o,cur,e,fz,h1,h2,⟨fun id hc=>h3.1 (swp a b id) hc,h3.2.1,h3.2.2⟩,DenP.sw h5⟩
 | .ref id len off,_,h=>by
  simp only [Den,AV.sw,Ctx.sw,Clz] at *
  obtain ⟨h0,cs,h1,h2,hs,h3⟩:=h
  exact ⟨h0,_,by rw [h1];rfl,by rw [A8z];exact h2,(D7z a b _).trans hs,fun he=>h3 (by rw [A8z] at he;exact he)⟩
 | .own id n sz,_,h=>by
  simp only [Den,AV.sw,Ctx.sw,Clz] at *
  obtain ⟨h0,cs,h1,h2,hs,h3⟩:=h
  exact ⟨h0,_,by rw [h1];rfl,by rw [A8z];exact h2,(D7z a b _).trans hs,fun he=>h3 (by rw [A8z] at he;exact he)⟩
 | .osl id len off n sz c,_,h=>by
  simp only [Den,AV.sw,Ctx.sw,Clz] at *
  obtain ⟨h0,cs,h1,h2,h4,hs,h3⟩:=h
  exact ⟨h0,_,by rw [h1];rfl,by rw [A8z];exact h2,h4,(D7z a b _).trans hs,fun he=>h3 (by rw [A8z] at he;exact he)⟩
 | .sref k id,_,h=>by
  simp only [Den,AV.sw,Ctx.sw,Clz] at *
  obtain ⟨h0,cs,h1,h3⟩:=h
  exact ⟨h0,_,by rw [h1];rfl,fun he=>h3 ((D7z a b _).symm.trans he)⟩
 | .clo fn az cs,_,h=>by
  simp only [Den,AV.sw] at *
  obtain ⟨us,vs,h1,h2,h3,h4,h5⟩:=h
  exact ⟨us,vs,h1,by rw [A8z];exact h2,by rw [A8z];exact h3,DenP.sw h4,DenP.sw h5⟩
 | .ifc t c,_,h=>by
  simp only [Den,AV.sw] at *
  obtain ⟨u,h1,h2⟩:=h
  exact ⟨u,h1,Den.sw h2⟩
 | .sp ..,_,h=>by simp [Den] at h
theorem DenP.sw {a b:Nat}{C:Ctx}:∀ {cs:List AV} {vs:List Value},DenP C cs vs→DenP (C.sw a b) (swL a b cs) vs
 | [],_,_=>by simp [DenP,swL]
 | _::_,[],h=>by simp [DenP] at h
 | _::_,_::_,h=>by
  simp only [DenP,swL] at *
  exact ⟨Den.sw h.1,DenP.sw h.2⟩
end

def S.sw (a b:Nat)(s:S):S:=⟨fun t=>(s.σ t).sw a b,fun i=>(s.H (swp a b i)).map (swL a b)⟩

theorem swp_low {a b p i:Nat}(ha:p≤a)(hb:p≤b)(hi:i<p):swp a b i=i:=by
 unfold swp
 rw [if_neg (by omega),if_neg (by omega)]
theorem swp_high {a b p i:Nat}(ha:p≤a)(hb:p≤b)(hi:p≤i):p≤swp a b i:=by
 unfold swp
 split
 ·exact hb
 ·split
  ·exact ha
  ·exact hi

theorem St.sw {E:Env}{M:Nat→Option Nat}{s:S}{x:Act}{w:World}(h:St E M s x w){a b:Nat}(ha:E.pin≤a)(hb:E.pin≤b):St E (fun i=>M (swp a b i)) (s.sw a b) x w:=by
 have hC:E.C (fun i=>M (swp a b i)) (s.sw a b).H w=(E.C M s.H w).sw a b:=rfl
 refine ⟨h.defers.less (fun id g hg=>⟨_,hg⟩),h.size,fun t=>?_,⟨fun id cs hc=>?_,fun id hn=>?_,fun i j g hi hj=>?_⟩,⟨h.old.os,h.old.tape,h.old.output,h.old.size,h.old.block,fun id hi=>?_,fun id g hi hg=>h.old.new (swp a b id) g (swp_high ha hb hi) hg,h.old.psize,h.old.pkind⟩⟩
 ·rw [hC];exact (h.slots t).sw
 ·have hc':(s.H (swp a b id)).map (swL a b)=some cs:=hc
  cases hq:s.H (swp a b id) with
  | none=>rw [hq] at hc';cases hc'
  | some cs0 =>
   rw [hq] at hc'
   simp only [Option.map_some,Option.some.injEq] at hc'
   subst hc'
   rcases h.hok.hasX (swp a b id) cs0 hq with (⟨h1,h2⟩|⟨g,cur,e,h1,h2,h3⟩)|⟨g,is,f,o,he,h1,h2,h3,h4⟩
   ·exact .inl (.inl ⟨h1,by rw [h2];rfl⟩)
   ·exact .inl (.inr ⟨g,cur,e,h1,h2,by rw [hC];exact h3.sw⟩)
   ·subst he
    refine .inr ⟨g,is.map (swp a b),f,o,rfl,h1,h2,h3,fun f0 hf=>?_⟩
    obtain ⟨⟨gs,h5,h6⟩,h7⟩:=h4 f0 hf
    refine ⟨⟨gs,?_,h6⟩,fun j hj=>?_⟩
    ·rw [List.map_map]
     refine (Crz fun j _=>?_).trans h5
     show M (swp a b (swp a b j))=M j
     rw [Clz]
    ·obtain ⟨i,hi,rfl⟩:=List.mem_map.1 hj
     obtain ⟨cs',h8,h9⟩:=h7 i hi
     refine ⟨swL a b cs',?_,(D7z a b _).trans h9⟩
     show (s.H (swp a b (swp a b i))).map (swL a b)=_
     have h8':s.H i=some cs':=h8
     rw [Clz,h8'];rfl
 ·have hn':(s.H (swp a b id)).map (swL a b)=none:=hn
  have hn2:s.H (swp a b id)=none:=by
   cases hq:s.H (swp a b id) with
   | none=>rfl
   | some cs=>rw [hq] at hn';cases hn'
  exact h.hok.no (swp a b id) hn2
 ·exact swp_inj (h.hok.inj _ _ g hi hj)
 ·show M (swp a b id)=_
  rw [swp_low ha hb hi]
  exact h.old.pinned id hi

def SubW (pin:Nat)(s s':S):Prop:=∀ E M x w,E.pin=pin→St E M s x w→∃ M',St E M' s' x w
theorem SubW.of {pin:Nat}{s s':S}(h:Sub pin s s'):SubW pin s s':=fun E M x w hp hst=>by subst hp;exact hst.sub h
theorem SubW.sw {pin:Nat}{s s':S}(a b:Nat)(ha:pin≤a)(hb:pin≤b)(h:SubW pin (s.sw a b) s'):SubW pin s s':=fun E M x w hp hst=>by
 subst hp
 exact h E _ x w rfl (hst.sw ha hb)

section
variable {P:Program} {pin:Nat} {Q:Exit→S→Prop} {s:S}
theorem awp_subW {c:ACode}{s':S}(hs:SubW pin s s')(h:awp P pin c Q s'):awp P pin c Q s:=by
 intro E M a w cc hp hl hst
 obtain ⟨M',hst'⟩:=hs E M a w hp hst
 exact h E M' a w cc hp hl hst'

theorem D5z {b:ACode}{κ:Type}(I:κ→S)(Pre:κ→Prop)(μ:κ→Nat)(x0:κ)(h0:Pre x0)(hs:SubW pin s (I x0))
  (round:∀ x,Pre x→awp P pin b (athen (fun s'=>∃ x',Pre x'∧μ x'<μ x∧SubW pin s' (I x')) Q) (I x)):awp P pin (.loop b) Q s:=by
 refine awp_subW hs ?_
 intro E M a w cc hp hl hst
 subst hp
 cases cc<;>simp only [lowCode] at hl<;>first
  | (exfalso;first|(simp at hl;done)|((repeat' (split at hl))<;>simp at hl;done)|(simp only [Option.map_eq_some_iff] at hl;obtain ⟨_,_,hl⟩:=hl;(try split at hl)<;>simp at hl;done))
  | skip
 simp only [Option.map_eq_some_iff] at hl
 obtain ⟨l,hl1,hl2⟩:=hl
 simp only [ACode.loop.injEq] at hl2
 subst hl2
 refine Ckz (fun n a w=>∃ x M,Pre x∧μ x=n∧St E M (I x) a w) (μ x0) ⟨x0,M,h0,rfl,hst⟩ ?_
 rintro n a w ⟨x,M,hx,hn,hst⟩
 refine Go.wpIn_mono (round x hx E M a w _ rfl hl1 hst) fun e a' w' ⟨M',s',h1,h2⟩=>?_
 cases e with
 | normal =>
  obtain ⟨x',hx',hlt,hsub⟩:=h2
  obtain ⟨M'',hst''⟩:=hsub E M' a' w' rfl h1
  exact ⟨μ x',by omega,x',M'',hx',rfl,hst''⟩
 | _=>exact ⟨M',s',h1,h2⟩

end
end Vw
namespace Vw
open Go
variable [Inhabited GlobT]

section
variable {P:Program} {pin:Nat} {K:S→Prop} {s:S}

theorem G0z {op:Op}{dst:Option Nat}{v':AV}{u:Option (Nat×List AV)}(h:∀ E M a w (o:Oper),E.pin=pin→o.op=op→o.dst=dst→St E M s a w→Owed P E M s a w o (v',u))(hk:K (s.put dst v' u)):rawOwed P pin op dst K s:=by
 intro E M a w o K' Q hp hd ho hdst hst hK
 obtain ⟨M',w',v,ht,hrun,hden⟩:=h E M a w o hp ho hdst hst
 subst hdst
 have h2:=hst.put (dst:=o.dst) hd ht hden
 rcases hrun with hrun|⟨hrun,rfl⟩
 ·exact Enz hrun (hK M' _ _ _ h2 hk)
 ·exact Goz hrun (hK M' _ _ _ h2 hk)

theorem raw_capnil {x:Operand}{t e:TypeId}{dst:Option Nat}(hu:P.underlying t=some (.slice e))(hx:s.ev x=.val (.slice none 0 0))(hk:K (s.put dst (.int .i64 0) none)) :
  rawOwed P pin (.call ⟨.builtin .cap,#[x],#[t]⟩) dst K s:=by
 refine G0z (fun E M a w o hp ho hd h=>?_) hk
 have hv:=h.ev x
 rw [hx] at hv
 simp only [Den] at hv
 refine Anz h (v:=.int .i64 0) ?_ (by simp [Den])
 simp [execOp,ho,resolve,invoke,builtin,Builtin.cap_,run_underlying hu,hv,goInt]

theorem raw_appz {x y:Operand}{t tn e:TypeId}{i:TypeInfo}{z:Value}{kn:IntKind}{n:Int}{d:Nat}(hu:P.underlying t=some (.slice e))(htn:P.underlying tn=some (.int kn))(hi:P.info? e=some i)(hz:i.zero=some z)
  (hz1:z.cells.size=i.size∧0<i.size∧i.bytes≤128) (hx:s.ev x=.val (.slice none 0 0)) (hy:s.ev y=.int .i64 n) (hn:0<n∧n≤1099511627776) (hfr:s.H (16*d)=none∧pin≤16*d)
  (hk:K (s.put (some d) (.own (16*d) n.toNat i.size) (some (16*d,zcells (z.cells.toList.map ofCell) n.toNat)))) :
  rawOwed P pin (.call ⟨.builtin .append,#[x,y],#[t,tn]⟩) (some d) K s:=by
 refine G0z (fun E M a w o hp ho hd h=>?_) hk
 obtain ⟨hzs,hz2,hz3⟩:=hz1
 obtain ⟨m,rfl⟩:∃ m:Nat,n=m:=⟨n.toNat,by omega⟩
 rw [Int.toNat_natCast]
 have hv:=h.ev x
 rw [hx] at hv
 have hw:=h.ev y
 rw [hy] at hw
 simp only [Den] at hv hw
 have hb:m*i.bytes≤281474976710656:=by
  have:m*i.bytes≤1099511627776*128:=Nat.mul_le_mul (by omega) hz3
  omega
 have hexec:∀ v w',(Builtin.append_ #[t,tn] o.type #[a.eval x,a.eval y]).run P w=.ok v w'→(execOp a.eval o).run P w=.ok (.value v) w':=by
  intro v w' hv
  simp [execOp,ho,resolve,invoke,builtin,hv]
 have hrun:=Lib.run_append_nil_zeros w t tn o.type e i z .i64 kn hu htn hi hz m (by omega) hz2 (by omega) hb
 have hge:=grownCap_ge w m 0 e
 have hcap:=grownCap_le_maxLen w m 0 e (by simp only [maxLen];omega)
 have hex:(execOp a.eval o).run P w=.ok (.value (.slice (some ⟨w.heap.size,0,none⟩) m (grownCap w m 0 e))) (w.drew.alloc (.cells (Builtin.zeroCells z.cells m++Builtin.zeroCells z.cells (grownCap w m 0 e-m)) e)):=by
  rw [← hv,← hw] at hrun
  exact hexec _ _ hrun
 refine ⟨upd M (16*d) (some w.heap.size),_,_,Tr.alloc (w':=w.drew.alloc (.cells (Builtin.zeroCells z.cells m++Builtin.zeroCells z.cells (grownCap w m 0 e-m)) e)) (vs:=Builtin.zeroCells z.cells m++Builtin.zeroCells z.cells (grownCap w m 0 e-m)) (e:=e) h.hok h.old hfr.1 (by rw [hp];exact hfr.2) ?_ rfl rfl rfl ?_,.inl hex,?_⟩
 ·rfl
 ·simp only [Array.toList_append]
  exact Cyz (D6z _ z.cells m (by omega))
 ·simp only [Den,updO]
  have hzl:z.cells.toList.length=i.size:=by simpa using hzs
  refine ⟨rfl,_,Aqz _ _ _,by simp [zcells,hzl],A2z (D6z (E.C M s.H w) z.cells m (by omega)),fun _=>.inr ⟨w.heap.size,_,_,e,Aqz _ _ _,rfl,hge,hcap,heap_alloc_new w.drew _,?_⟩⟩
  simp only [Array.size_append,size_zeroCells,hzs,← Nat.add_mul]
  congr 1;omega

theorem raw_idxV {t e:TypeId}{len:Nat}{x i:Operand}{cs:List AV}{k:Int}{v:AV}{dst:Option Nat}(hu:P.underlying t=some (.array len e))(hg:isAggB P e=some false)(hz:sizeAt P e=some 1)
  (hx:s.ev x=.agg cs) (hi:s.ev i=.int .i64 k) (hk1:0≤k∧k<len) (hv:cs[k.toNat]?=some v) (hk:K (s.put dst v none)):rawOwed P pin (.index t x i) dst K s:=by
 refine G0z (fun E M a w o hp ho hd h=>?_) hk
 have h1:=h.ev x
 rw [hx] at h1
 have h2:=h.ev i
 rw [hi] at h2
 simp only [Den] at h1 h2
 obtain ⟨vs,e1,e2,e3⟩:=h1
 obtain ⟨u,hu1,hu2⟩:=(Axz.1 e3) _ _ hv
 rw [Array.getElem?_toList] at hu1
 refine Anz h (v:=u) ?_ hu2
 simp [execOp,ho,Instr.index,run_underlying hu,h2,e1,asIntOf,hk1,A3z hz,part,B4z hg,hu1]

def arrE (P:Program)(t:TypeId):Option Nat:=match P.underlying t with
 | some (.array len e)=>if isAggB P e=some false∧sizeAt P e=some 1 then some len else none
 | _=>none
theorem Blz {t:TypeId}{len:Nat}{x i:Operand}{cs:List AV}{k:Int}{v:AV}{dst:Option Nat}(hu:arrE P t=some len)
  (hx:s.ev x=.agg cs) (hi:s.ev i=.int .i64 k) (hk1:0≤k∧k<len) (hv:cs[k.toNat]?=some v) (hk:K (s.put dst v none)):rawOwed P pin (.index t x i) dst K s:=by
 unfold arrE at hu
 split at hu
 ·rename_i l e h1
  split at hu
  ·rename_i h2
   injection hu with hu
   subst hu
   exact raw_idxV h1 h2.1 h2.2 hx hi hk1 hv hk
  ·cases hu
 ·cases hu

def isSl (P:Program)(t:TypeId):Bool:=match P.underlying t with|some (.slice _)=>true|_=>false
def appzInfo (P:Program)(t tn:TypeId):Option (Nat×List Value) :=
 match P.underlying t,P.underlying tn with
 | some (.slice e),some (.int _)=>match P.info? e with
  | some i=>match i.zero with
   | some z=>if z.cells.size=i.size∧0<i.size∧i.bytes≤128 then some (i.size,z.cells.toList) else none
   | none=>none
  | none=>none
 | _,_=>none
theorem Bbz {x:Operand}{t:TypeId}{dst:Option Nat}(hu:isSl P t=true)(hx:s.ev x=.val (.slice none 0 0))(hk:K (s.put dst (.int .i64 0) none)) :
  rawOwed P pin (.call ⟨.builtin .cap,⟨[x]⟩,⟨[t]⟩⟩) dst K s:=by
 unfold isSl at hu
 split at hu
 ·rename_i e he;exact raw_capnil he hx hk
 ·cases hu
theorem A1z {x y:Operand}{t tn:TypeId}{n:Int}{d sz:Nat}{zs:List Value}(hi:appzInfo P t tn=some (sz,zs))(hx:s.ev x=.val (.slice none 0 0))(hy:s.ev y=.int .i64 n)(hn:0<n∧n≤1099511627776)(hfr:s.H (16*d)=none∧pin≤16*d)
  (hk:K (s.put (some d) (.own (16*d) n.toNat sz) (some (16*d,zcells (zs.map ofCell) n.toNat)))) :
  rawOwed P pin (.call ⟨.builtin .append,⟨[x,y]⟩,⟨[t,tn]⟩⟩) (some d) K s:=by
 unfold appzInfo at hi
 split at hi
 ·rename_i e kn h1 h2
  split at hi
  ·rename_i i h3
   split at hi
   ·rename_i z h4
    split at hi
    ·rename_i h5
     simp only [Option.some.injEq,Prod.mk.injEq] at hi
     obtain ⟨rfl,rfl⟩:=hi
     exact raw_appz h1 h2 h3 h4 h5 hx hy hn hfr hk
    ·cases hi
   ·cases hi
  ·cases hi
 ·cases hi
theorem Fpz (f:FuncId):s.ev (.func f)=.val (.func (.func f) #[] #[]):=rfl
end
section
variable {P:Program} {pin:Nat} {K:S→Prop} {σ:List (Nat×AV)} {H:List (Nat×List AV)}

def AV.downN (H:Nat→Option (List AV)):AV→AV
 | .val v=>.val v
 | a=>a.down [] false H
theorem downN_val (H:Nat→Option (List AV))(v:Value):AV.downN H (.val v)=.val v:=rfl
theorem downN_int (H:Nat→Option (List AV))(k:IntKind)(n:Int):AV.downN H (.int k n)=.int k n:=rfl
end
attribute [push_cast] downN_val downN_int Fpz
end Vw
namespace Vw
open Go
variable [Inhabited GlobT]

abbrev ME:=Int×Int×Nat
def mEnt (p:ME):MapEntry:={ key:=.int .i64 p.1,val:=.int .i64 p.2.1,born:=p.2.2 }
def mapO (L:List ME)(c:Nat):Obj:=.map (L.map mEnt).toArray c
def mapC (L:List ME)(c:Nat):AV:=.sp [] (some fun _=>mapO L c)
def itC (mid c:Nat)(seen:List Nat):AV:=.sp [mid] (some fun gs=>.mapIter gs.head? c seen.toArray c)
section
variable {P:Program} {pin:Nat} {K:S→Prop} {s:S}

theorem map_set {E:Env}{M:Nat→Option Nat}{a:Act}{w:World}(h:St E M s a w){id g:Nat}{L L':List ME}{c c':Nat}(hH:s.H id=some [mapC L c])(hM:M id=some g)(hh:w.heap[g]?=some (mapO L c)) :
  Tr E M s.H w M (upd s.H id (some [mapC L' c'])) { w with heap:=w.heap.setIfInBounds g (mapO L' c') }:=by
 have hs:=MapKept.heap_set (o':=mapO L' c') hh
 exact Tr.setSp (w':={ w with heap:=w.heap.setIfInBounds g (mapO L' c') }) (ids:=[]) (f:=fun _=>mapO L' c') (gs:=[]) h.hok h.old hH rfl hM hs.1 (fun k hk=>hs.2 k hk) (by simp) rfl rfl rfl rfl rfl (fun i hi=>by cases hi)

end

section
variable {P:Program} {pin:Nat} {K:S→Prop} {s:S}
end

section
variable {ρ:Nat→Option Nat} {Zh:Nat→Option (List AV)} {b0:Bool} {φ:Bool→Option Bool} {n:Nat}
def renS (k:Nat):Option Nat→AV
 | some i=>.sref k i
 | none=>.unk
theorem renS_some (k i:Nat):renS k (some i)=.sref k i:=rfl
theorem ren_sref (k id:Nat):AV.ren ρ Zh b0 φ (n+1) (.sref k id)=renS k (ρ id):=by simp only [AV.ren,renS]<;>cases ρ id<;>rfl
theorem ren_clo (fn:Fn)(az cs:List AV):AV.ren ρ Zh b0 φ (n+1) (.clo fn az cs)=.clo fn (az.map (AV.ren ρ Zh b0 φ n)) (cs.map (AV.ren ρ Zh b0 φ n)):=rfl
theorem isCell_clo (fn:Fn)(az cs:List AV):(AV.clo fn az cs).isCell=true:=rfl
theorem fixNil_clo (L:List (Nat×Nat))(fn:Fn)(az cs:List AV):AV.fixNil L (.clo fn az cs)=(.clo fn az cs,L):=rfl
theorem ren_mapC (L:List ME)(c:Nat):AV.ren ρ Zh b0 φ (n+1) (mapC L c)=mapC L c:=by simp [mapC,AV.ren]
theorem fixNil_sref (L:List (Nat×Nat))(k id:Nat):AV.fixNil L (.sref k id)=(.sref k id,L):=rfl
theorem isCell_sref (k id:Nat):(AV.sref k id).isCell=true:=rfl
end
@[simp] theorem inn_mapC (p:Nat→Bool) (L:List ME) (c:Nat):(mapC L c).inn p=true:=rfl
@[simp] theorem inn_itC (p:Nat→Bool) (m c:Nat) (seen:List Nat):(itC m c seen).inn p=p m:=by simp [itC,AV.inn]
attribute [push_cast] ren_clo isCell_clo fixNil_clo renS_some ren_sref ren_mapC fixNil_sref isCell_sref

theorem zcells_three (a b c:AV):zcells [a,b,c] 1=[a,b,c]:=rfl
attribute [push_cast] zcells_three List.set_cons_zero List.set_cons_succ

def adA (id sz:Nat):AV→AV
 | .val (.slice none 0 0)=>.own id 0 sz
 | a=>a
def adL (T:List Nat)(id sz:Nat)(σ:List (Nat×AV)):List (Nat×AV):=σ.map fun p=>if T.contains p.1 then (p.1,adA id sz p.2) else p
theorem lk_adL (T:List Nat)(id sz:Nat):∀ (σ:List (Nat×AV)) (t:Nat),lk (adL T id sz σ) t=lk σ t∨lk (adL T id sz σ) t=adA id sz (lk σ t)
 | [],_=>.inl rfl
 | p::r,t=>by
  have ih:=lk_adL T id sz r t
  simp only [adL,List.map_cons] at ih ⊢
  by_cases hc:T.contains p.1=true
  ·rw [if_pos hc]
   simp only [lk]
   by_cases ht:t=p.1
   ·rw [if_pos ht,if_pos ht];exact .inr rfl
   ·rw [if_neg ht,if_neg ht];exact ih
  ·rw [if_neg hc]
   simp only [lk]
   by_cases ht:t=p.1
   ·rw [if_pos ht,if_pos ht];exact .inl rfl
   ·rw [if_neg ht,if_neg ht];exact ih
theorem SubW.adopt {pin:Nat}{σ:List (Nat×AV)}{H:List (Nat×List AV)}{s':S}(T:List Nat)(id sz:Nat)(hid:hk H id=none)(h:SubW pin (mkS (adL T id sz σ) ((id,[])::H)) s'):SubW pin (mkS σ H) s':=fun E M x w hp hst=>by
 have tr:=Tr.adopt (E:=E) (M:=M) (H:=hk H) (w:=w) hst.hok hst.old hid
 refine h E M x w hp ⟨hst.defers.keeps tr.keeps,hst.size,fun t=>?_,by rw [show (mkS (adL T id sz σ) ((id,[])::H)).H=upd (hk H) id (some []) from (upd_hk H id []).symm];exact tr.hok,tr.old⟩
 have h0:=Den.keeps tr.keeps (hst.slots t)
 rw [show (mkS (adL T id sz σ) ((id,[])::H)).H=upd (hk H) id (some []) from (upd_hk H id []).symm]
 show Den _ (lk (adL T id sz σ) t) _
 rcases lk_adL T id sz σ t with e|e
 ·rw [e];exact h0
 ·rw [e]
  have h0':Den (E.C M (upd (hk H) id (some [])) w) (lk σ t) (x.tmps.getD t undef):=h0
  generalize lk σ t=v at h0'
  unfold adA
  split
  ·simp only [Den] at h0'
   rw [h0']
   exact Dsz (Aqz _ _ _) (hst.hok.no id hid)
  ·exact h0'
end Vw
namespace Vw
open Go Go.Shelf Go.Sort Go.Proofs
variable [Inhabited GlobT]

end Vw
namespace Vw
open Go
variable [Inhabited GlobT]

end Vw
namespace Vw
open Go
variable [Inhabited GlobT]
theorem Den.adA {C:Ctx}{id sz:Nat}(h1:C.H id=some [])(h2:C.M id=none){a:AV}{v:Value}(h:Den C a v):Den C (adA id sz a) v:=by
 unfold Vw.adA
 split
 ·simp only [Den] at h
  rw [h]
  exact Dsz h1 h2
 ·exact h
theorem SubW.trans {pin:Nat}{s s1 s2:S}(h1:SubW pin s s1)(h2:SubW pin s1 s2):SubW pin s s2:=fun E M x w hp hst=>by
 obtain ⟨M',hst'⟩:=h1 E M x w hp hst
 exact h2 E M' x w hp hst'
theorem idxF_three (a b c d:Nat)(l:List Nat):idxF (a::b::c::d::l) 3=some d:=rfl
theorem idxF_four (a b c d e:Nat)(l:List Nat):idxF (a::b::c::d::e::l) 4=some e:=rfl
theorem idxF_five (a b c d e f:Nat)(l:List Nat):idxF (a::b::c::d::e::f::l) 5=some f:=rfl
attribute [push_cast] idxF_three idxF_four idxF_five
theorem zcells_pair (a b:AV):zcells [a,b] 1=[a,b]:=rfl
attribute [push_cast] zcells_pair
end Vw
