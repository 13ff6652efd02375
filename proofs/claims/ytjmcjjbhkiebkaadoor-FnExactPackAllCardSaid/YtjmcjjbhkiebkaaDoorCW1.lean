/- The abstract values of this verifier's own walk: what a slot may hold,told as data;and what it means that a concrete value is told so in a world. -/
import Derived.WalkKit
import Derived.Orders
import Derived.Laws.StructEq
import Derived.Lib.MinMax
import Derived.RangeFuncNested
import Derived.RangeFuncLeaves
import Derived.OrdersIn
import Derived.OwnWalkIn
set_option linter.unusedSimpArgs false
set_option linter.unusedSectionVars false
set_option linter.unusedVariables false
namespace Vw
open Go

inductive AV where
 | unk
 | und
 | int (k:IntKind) (n:Int)
 | bool (b:Bool)
 | str (s:ByteArray)
 | val (v:Value)
 | agg (cs:List AV)
 | tup (cs:List AV)
 | rows (fr:Bool) (cs:List AV) (n:Nat)
 | prow (fr:Bool) (cs:List AV) (off:Nat)
 | ref (id len off:Nat)
 | own (id n sz:Nat)
 | osl (id len off n sz c:Nat)
 | sref (k:Nat) (id:Nat)
 | clo (fn:Fn) (az cs:List AV)
 | ifc (t:TypeId) (c:AV)
 | sp (ids:List Nat) (f:Option (List Nat→Obj))

def AV.isSp:AV→Bool
 | .sp ..=>true
 | _=>false
def spL (cs:List AV):Bool:=cs.any AV.isSp
theorem D8z (a b:List AV):spL (a++b)=(spL a || spL b):=by simp [spL]
def spVal:Nat→Nat→Value
 | 0,g=>.map (some g)
 | _,g=>.pointer (some ⟨g,0,none⟩)
structure Ctx where
 w:World
 M:Nat→Option Nat
 H:Nat→Option (List AV)
 A:Nat→Prop
 B:Nat→Prop

def Ctx.ok (C:Ctx)(fr:Bool)(g:Nat):Prop:=(∀ id,C.M id≠some g)∧¬ C.B g∧(fr=true→¬ C.A g)

def EmptyS (v:Value):Prop:=v=.slice none 0 0∨∃ a c,v=.slice (some a) 0 c

theorem EmptyS.nil:EmptyS (.slice none 0 0):=.inl rfl
theorem EmptyS.one {v:Value}(h:EmptyS v):v.oneCell'=true:=by
 rcases h with rfl|⟨a,c,rfl⟩<;>rfl
theorem EmptyS.at {v:Value}(h:EmptyS v):∃ p c,v=.slice p 0 c:=by
 rcases h with rfl|⟨a,c,rfl⟩
 ·exact ⟨_,_,rfl⟩
 ·exact ⟨_,_,rfl⟩

mutual
def Den (C:Ctx):AV→Value→Prop
 | .unk,_=>True
 | .und,v=>v=undef
 | .int k n,v=>v=.int k n
 | .bool b,v=>v=.bool b
 | .str s,v=>v=.string s
 | .val u,v=>v=u
 | .agg cs,v=>∃ vs:Array Value,v=.agg vs∧vs.size=cs.length∧DenP C cs vs.toList
 | .tup cs,v=>∃ vs:Array Value,v=.tuple vs∧vs.size=cs.length∧DenP C cs vs.toList
 | .rows fr cs n,v=>(EmptyS v∧cs=[]∧n=0) ∨
   ∃ g o cap cur e fz,v=.slice (some ⟨g,o,none⟩) n cap∧C.w.heap[g]?=some (.cells cur e fz)∧C.ok fr g∧n≤cap∧DenP C cs (cur.toList.drop o)
 | .prow fr cs off,v=>∃ g o cur e fz,v=.pointer (some ⟨g,o+off,none⟩)∧C.w.heap[g]?=some (.cells cur e fz)∧C.ok fr g∧DenP C cs (cur.toList.drop o)
 | .ref id len off,v=>v.oneCell'=true∧∃ cs,C.H id=some cs∧len≤cs.length∧spL cs=false∧(cs.length=len→∃ g,C.M id=some g∧v=.pointer (some ⟨g,off,none⟩))
 | .own id n sz,v=>v.oneCell'=true∧∃ cs,C.H id=some cs∧n*sz≤cs.length∧spL cs=false∧(cs.length=n*sz→(v=.slice none 0 0∧n=0∧C.M id=none) ∨
   ∃ g cap cur e,C.M id=some g∧v=.slice (some ⟨g,0,none⟩) n cap∧n≤cap∧cap≤maxLen∧C.w.heap[g]?=some (.cells cur e (0,0))∧cur.size=cap*sz)
 | .osl id len off n sz c,v=>v.oneCell'=true∧∃ cs,C.H id=some cs∧len≤cs.length∧(off+c*sz≤len∧n≤c)∧spL cs=false∧(cs.length=len→(v=.slice none 0 0∧n=0∧c=0)∨∃ g o cap,C.M id=some g∧v=.slice (some ⟨g,o,none⟩) n cap∧c≤cap∧(c≠0→o=off))
 | .sref k id,v=>v.oneCell'=true∧∃ cs,C.H id=some cs∧(spL cs=true→∃ g,C.M id=some g∧v=spVal k g)
 | .clo fn az cs,v=>∃ us vs:Array Value,v=.func fn us vs∧us.size=az.length∧vs.size=cs.length∧DenP C az us.toList∧DenP C cs vs.toList
 | .ifc t c,v=>∃ u,v=.iface t u∧Den C c u
 | .sp ..,_=>False
def DenP (C:Ctx):List AV→List Value→Prop
 | [],_=>True
 | _::_,[]=>False
 | a::az,v::vs=>Den C a v∧DenP C az vs
end

theorem Axz {C:Ctx}:∀ {cs:List AV} {vs:List Value},DenP C cs vs↔∀ (j:Nat) (a:AV),cs[j]?=some a→∃ v,vs[j]?=some v∧Den C a v
 | [],vs=>by simp [DenP]
 | a::az,[]=>by
  simp only [DenP,false_iff]
  intro h
  obtain ⟨v,hv,_⟩:=h 0 a rfl
  simp at hv
 | a::az,v::vs=>by
  simp only [DenP]
  rw [Axz (cs:=az)]
  constructor
  ·rintro ⟨h0,h1⟩ j b hb
   cases j with
   | zero=>simp at hb;subst hb;exact ⟨v,rfl,h0⟩
   | succ j=>simpa using h1 j b (by simpa using hb)
  ·intro h
   refine ⟨?_,fun j b hb=>?_⟩
   ·obtain ⟨u,hu,hd⟩:=h 0 a rfl
    simp at hu
    subst hu
    exact hd
   ·simpa using h (j+1) b (by simpa using hb)

theorem A7z {C:Ctx}{cs:List AV}{vs:List Value}(h:DenP C cs vs):cs.length≤vs.length:=by
 rcases Nat.lt_or_ge vs.length cs.length with hl|hl
 ·have:=(Axz.1 h) vs.length cs[vs.length] (List.getElem?_eq_getElem hl)
  obtain ⟨v,hv,_⟩:=this
  simp at hv
 ·exact hl

theorem A2z {C:Ctx}:∀ {cs:List AV} {vs:List Value},DenP C cs vs→spL cs=false
 | [],_,_=>rfl
 | a::az,[],h=>by simp [DenP] at h
 | a::az,v::vs,h=>by
  simp only [DenP] at h
  have:=A2z h.2
  simp only [spL,List.any_cons,Bool.or_eq_false_iff] at this ⊢
  refine ⟨?_,this⟩
  cases a<;>first|rfl|(simp [Den] at h)

theorem Boz {C:Ctx}{cs:List AV}{vs:List Value}(h:DenP C cs vs)(k:Nat):DenP C (cs.drop k) (vs.drop k):=by
 rw [Axz] at *
 intro j a ha
 rw [List.getElem?_drop] at ha
 simpa [List.getElem?_drop] using h (k+j) a ha

theorem Cxz {C:Ctx}{cs:List AV}{vs:List Value}(h:DenP C cs vs)(k:Nat):DenP C (cs.take k) vs:=by
 rw [Axz] at *
 intro j a ha
 rw [List.getElem?_take] at ha
 split at ha
 ·exact h j a ha
 ·cases ha

theorem B6z {C:Ctx}{cs:List AV}{vs:List Value}(h:DenP C cs vs)(k:Nat):DenP C (cs.take k) (vs.take k):=by
 rw [Axz] at *
 intro j a ha
 rw [List.getElem?_take] at ha
 split at ha
 ·rename_i hj
  obtain ⟨v,hv,hd⟩:=h j a ha
  exact ⟨v,by rw [List.getElem?_take,if_pos hj];exact hv,hd⟩
 ·cases ha

theorem Fsz {C:Ctx}{cs ds:List AV}{vs us:List Value}(h:DenP C cs vs)(hl:vs.length=cs.length)(k:DenP C ds us):DenP C (cs++ds) (vs++us):=by
 rw [Axz] at *
 intro j a ha
 rw [List.getElem?_append] at ha ⊢
 split at ha
 ·rename_i hj
  rw [if_pos (by omega)]
  exact h j a ha
 ·rename_i hj
  rw [if_neg (by omega),hl]
  exact k _ a ha

theorem Cyz {C:Ctx}{cs:List AV}{vs us:List Value}(h:DenP C cs vs):DenP C cs (vs++us):=by
 rw [Axz] at *
 intro j a ha
 obtain ⟨v,hv,hd⟩:=h j a ha
 refine ⟨v,?_,hd⟩
 rw [List.getElem?_append_left (by exact (List.getElem?_eq_some_iff.1 hv).1)]
 exact hv

theorem denP_set {C:Ctx}{cs:List AV}{vs:List Value}(h:DenP C cs vs){a:AV}{v:Value}(k:Nat)(hd:Den C a v):DenP C (cs.set k a) (vs.set k v):=by
 have hl:=A7z h
 rw [Axz] at *
 intro j b hb
 rw [List.getElem?_set] at hb
 split at hb
 ·rename_i hj
  subst hj
  split at hb
  ·rename_i hk
   refine ⟨v,?_,?_⟩
   ·rw [List.getElem?_set];simp;omega
   ·injection hb with hb;subst hb;exact hd
  ·cases hb
 ·rename_i hj
  obtain ⟨u,hu,hdu⟩:=h j b hb
  exact ⟨u,by rw [List.getElem?_set,if_neg hj];exact hu,hdu⟩


structure Keeps (C C':Ctx):Prop where
 heap:∀ g,g<C.w.heap.size→(∀ id,C.M id≠some g)→C'.w.heap[g]?=C.w.heap[g]?
 obj:∀ g,g<C.w.heap.size→(∀ id,C.M id≠some g)→∀ id,C'.M id≠some g
 a:∀ g,g<C.w.heap.size→C'.A g→C.A g
 b:∀ g,g<C.w.heap.size→C'.B g→C.B g
 ref:∀ id cs,C.H id=some cs→∃ cs',C'.H id=some cs'∧cs.length≤cs'.length∧(cs'.length=cs.length→C'.M id=C.M id)
 own:∀ id cs cs',C.H id=some cs→C'.H id=some cs'→cs'.length=cs.length→∀ g,C.M id=some g→∀ cur e,C.w.heap[g]?=some (.cells cur e (0,0)) →
  ∃ cur' e',C'.w.heap[g]?=some (.cells cur' e' (0,0))∧cur'.size=cur.size
 sp:∀ id cs cs',C.H id=some cs→C'.H id=some cs'→spL cs'=spL cs∧(spL cs=true→C'.M id=C.M id)
 sz:C.w.heap.size≤C'.w.heap.size

theorem Keeps.ok {C C':Ctx}(k:Keeps C C'){fr:Bool}{g:Nat}(hg:g<C.w.heap.size)(h:C.ok fr g):C'.ok fr g :=
 ⟨k.obj g hg h.1,fun hb=>h.2.1 (k.b g hg hb),fun hf ha=>h.2.2 hf (k.a g hg ha)⟩

theorem lt_of_heap {w:World}{g:Nat}{o:Obj}(h:w.heap[g]?=some o):g<w.heap.size:=(Array.getElem?_eq_some_iff.1 h).1

mutual
theorem Den.keeps {C C':Ctx}(k:Keeps C C'):∀ {a:AV} {v:Value},Den C a v→Den C' a v
 | .unk,_,_=>by simp [Den]
 | .und,_,h=>by simpa [Den] using h
 | .int ..,_,h=>by simpa [Den] using h
 | .bool _,_,h=>by simpa [Den] using h
 | .str _,_,h=>by simpa [Den] using h
 | .val _,_,h=>by simpa [Den] using h
 | .agg cs,_,h=>by
  simp only [Den] at *
  obtain ⟨vs,h1,h2,h3⟩:=h
  exact ⟨vs,h1,h2,DenP.keeps k h3⟩
 | .tup cs,_,h=>by
  simp only [Den] at *
  obtain ⟨vs,h1,h2,h3⟩:=h
  exact ⟨vs,h1,h2,DenP.keeps k h3⟩
 | .rows fr cs n,_,h=>by
  simp only [Den] at *
  rcases h with h|⟨g,o,cap,cur,e,fz,h1,h2,h3,h4,h5⟩
  ·exact .inl h
  ·exact .inr ⟨g,o,cap,cur,e,fz,h1,(k.heap g (lt_of_heap h2) h3.1).trans h2,k.ok (lt_of_heap h2) h3,h4,DenP.keeps k h5⟩
 | .prow fr cs off,_,h=>by
  simp only [Den] at *
  obtain ⟨g,o,cur,e,fz,h1,h2,h3,h5⟩:=h
  exact ⟨g,o,cur,e,fz,h1,(k.heap g (lt_of_heap h2) h3.1).trans h2,k.ok (lt_of_heap h2) h3,DenP.keeps k h5⟩
 | .ref id len off,_,h=>by
  simp only [Den] at *
  obtain ⟨h0,cs,h1,h2,hs,h3⟩:=h
  obtain ⟨cs',k1,k2,k3⟩:=k.ref id cs h1
  refine ⟨h0,cs',k1,by omega,(k.sp id cs cs' h1 k1).1.trans hs,fun hl=>?_⟩
  obtain ⟨g,hg,hv⟩:=h3 (by omega)
  exact ⟨g,(k3 (by omega)).trans hg,hv⟩
 | .own id n sz,_,h=>by
  simp only [Den] at *
  obtain ⟨h0,cs,h1,h2,hs,h3⟩:=h
  obtain ⟨cs',k1,k2,k3⟩:=k.ref id cs h1
  refine ⟨h0,cs',k1,by omega,(k.sp id cs cs' h1 k1).1.trans hs,fun hl=>?_⟩
  rcases h3 (by omega) with ⟨e1,e2,e3⟩|⟨g,cap,cur,e,hg,hv,hn,hc,hh,hs⟩
  ·exact .inl ⟨e1,e2,(k3 (by omega)).trans e3⟩
  ·obtain ⟨cur',e',hh',hs'⟩:=k.own id cs cs' h1 k1 (by omega) g hg cur e hh
   exact .inr ⟨g,cap,cur',e',(k3 (by omega)).trans hg,hv,hn,hc,hh',by omega⟩
 | .osl id len off n sz c,_,h=>by
  simp only [Den] at *
  obtain ⟨h0,cs,h1,h2,h4,hs,h3⟩:=h
  obtain ⟨cs',k1,k2,k3⟩:=k.ref id cs h1
  refine ⟨h0,cs',k1,by omega,h4,(k.sp id cs cs' h1 k1).1.trans hs,fun hl=>?_⟩
  rcases h3 (by omega) with h|⟨g,o,cap,hg,hv⟩
  ·exact .inl h
  ·exact .inr ⟨g,o,cap,(k3 (by omega)).trans hg,hv⟩
 | .sref k0 id,_,h=>by
  simp only [Den] at *
  obtain ⟨h0,cs,h1,h2⟩:=h
  obtain ⟨cs',k1,_,_⟩:=k.ref id cs h1
  have hs:=k.sp id cs cs' h1 k1
  refine ⟨h0,cs',k1,fun hl=>?_⟩
  obtain ⟨g,hg,hv⟩:=h2 (hs.1.symm.trans hl)
  exact ⟨g,(hs.2 (hs.1.symm.trans hl)).trans hg,hv⟩
 | .clo fn az cs,_,h=>by
  simp only [Den] at *
  obtain ⟨us,vs,h1,h2,h3,h4,h5⟩:=h
  exact ⟨us,vs,h1,h2,h3,DenP.keeps k h4,DenP.keeps k h5⟩
 | .ifc t c,_,h=>by
  simp only [Den] at *
  obtain ⟨u,h1,h2⟩:=h
  exact ⟨u,h1,Den.keeps k h2⟩
 | .sp ..,_,h=>by simp [Den] at h
theorem DenP.keeps {C C':Ctx}(k:Keeps C C'):∀ {cs:List AV} {vs:List Value},DenP C cs vs→DenP C' cs vs
 | [],_,_=>by simp [DenP]
 | _::_,[],h=>by simp [DenP] at h
 | _::_,_::_,h=>by
  simp only [DenP] at *
  exact ⟨Den.keeps k h.1,DenP.keeps k h.2⟩
end

def AV.isCell:AV→Bool
 | .int ..|.bool _|.str _|.rows ..|.prow ..|.ref ..|.own ..|.osl ..|.sref ..|.clo ..|.ifc ..=>true
 | .val v=>v.oneCell'
 | _=>false

theorem Den.oneCell {C:Ctx}:∀ {a:AV} {v:Value},Den C a v→a.isCell=true→v.oneCell'=true
 | .unk,_,_,h=>by simp [AV.isCell] at h
 | .und,_,_,h=>by simp [AV.isCell] at h
 | .int ..,_,h,_=>by simp only [Den] at h;subst h;rfl
 | .bool _,_,h,_=>by simp only [Den] at h;subst h;rfl
 | .str _,_,h,_=>by simp only [Den] at h;subst h;rfl
 | .val _,_,h,hc=>by simp only [Den] at h;subst h;exact hc
 | .agg _,_,_,h=>by simp [AV.isCell] at h
 | .tup _,_,_,h=>by simp [AV.isCell] at h
 | .rows ..,_,h,_=>by
  simp only [Den] at h
  rcases h with ⟨h,_⟩|⟨_,_,_,_,_,_,h,_⟩
  ·exact h.one
  ·subst h;rfl
 | .prow ..,_,h,_=>by
  simp only [Den] at h
  obtain ⟨_,_,_,_,_,h,_⟩:=h
  subst h;rfl
 | .ref ..,_,h,_=>by simp only [Den] at h;exact h.1
 | .own ..,_,h,_=>by simp only [Den] at h;exact h.1
 | .osl ..,_,h,_=>by simp only [Den] at h;exact h.1
 | .sref ..,_,h,_=>by simp only [Den] at h;exact h.1
 | .clo ..,_,h,_=>by simp only [Den] at h;obtain ⟨_,_,h,_⟩:=h;subst h;rfl
 | .ifc ..,_,h,_=>by simp only [Den] at h;obtain ⟨_,h,_⟩:=h;subst h;rfl
 | .sp ..,_,_,h=>by simp [AV.isCell] at h

theorem Keeps.refl (C:Ctx):Keeps C C :=
 ⟨fun _ _ _=>rfl,fun _ _ h=>h,fun _ _ h=>h,fun _ _ h=>h,fun _ cs h=>⟨cs,h,Nat.le_refl _,fun _=>rfl⟩,fun id cs cs' h h' _ g _ cur e hh=>⟨cur,e,hh,rfl⟩,fun id cs cs' h h'=>by rw [h] at h';injection h' with h';subst h';exact ⟨rfl,fun _=>rfl⟩,Nat.le_refl _⟩

end Vw
namespace Vw
open Go

def isC:Option Obj→Bool
 | some (.cells ..)=>true
 | _=>false

def SpOk (C:Ctx)(id:Nat)(cs:List AV):Prop :=
 ∃ g ids f o,cs=[.sp ids f]∧C.M id=some g∧C.w.heap[g]?=some o∧isC (some o)=false∧∀ f0,f=some f0→(∃ gs,ids.map C.M=gs.map some∧o=f0 gs)∧∀ i∈ids,∃ cs',C.H i=some cs'∧spL cs'=true

structure HOK (C:Ctx):Prop where
 hasX:∀ id cs,C.H id=some cs→((C.M id=none∧cs=[])∨∃ g cur e,C.M id=some g∧C.w.heap[g]?=some (.cells cur e (0,0))∧DenP C cs cur.toList)∨SpOk C id cs
 no:∀ id,C.H id=none→C.M id=none
 inj:∀ i j g,C.M i=some g→C.M j=some g→i=j

theorem HOK.has {C:Ctx}(hk:HOK C)(id:Nat)(cs:List AV)(h:C.H id=some cs)(hs:spL cs=false):(C.M id=none∧cs=[])∨∃ g cur e,C.M id=some g∧C.w.heap[g]?=some (.cells cur e (0,0))∧DenP C cs cur.toList:=by
 rcases hk.hasX id cs h with h|⟨g,ids,f,o,he,_⟩
 ·exact h
 ·subst he;simp [spL,AV.isSp] at hs
theorem HOK.sp {C:Ctx}(hk:HOK C){id:Nat}{cs:List AV}(h:C.H id=some cs)(hs:spL cs=true):SpOk C id cs:=by
 rcases hk.hasX id cs h with (⟨_,h⟩|⟨g,cur,e,_,_,h⟩)|h
 ·subst h;simp [spL] at hs
 ·rw [A2z h] at hs;cases hs
 ·exact h
theorem SpOk.isSpL {C:Ctx}{id:Nat}{cs:List AV}(h:SpOk C id cs):spL cs=true:=by
 obtain ⟨g,ids,f,o,he,_⟩:=h
 subst he;rfl
theorem Crz {M M':Nat→Option Nat}:∀ {ids:List Nat},(∀ i∈ids,M' i=M i)→ids.map M'=ids.map M
 | [],_=>rfl
 | i::r,h=>by rw [List.map_cons,List.map_cons,h i (by simp),Crz fun j hj=>h j (by simp [hj])]
theorem SpOk.keeps {C C':Ctx}(k:Keeps C C'){id:Nat}{cs:List AV}(h:C.H id=some cs)(h':C'.H id=some cs)(hh:∀ g,C.M id=some g→C'.w.heap[g]?=C.w.heap[g]?)(hs:SpOk C id cs):SpOk C' id cs:=by
 have hl:=hs.isSpL
 obtain ⟨g,ids,f,o,he,h1,h3,h4,h6⟩:=hs
 refine ⟨g,ids,f,o,he,((k.sp id cs cs h h').2 hl).trans h1,(hh g h1).trans h3,h4,fun f0 hf=>?_⟩
 obtain ⟨⟨gs,h2,ho⟩,h5⟩:=h6 f0 hf
 refine ⟨⟨gs,?_,ho⟩,fun i hi=>?_⟩
 ·refine (Crz fun i hi=>?_).trans h2
  obtain ⟨cs',hc,hp⟩:=h5 i hi
  obtain ⟨cs'',k1,_⟩:=k.ref i cs' hc
  exact (k.sp i cs' cs'' hc k1).2 hp
 ·obtain ⟨cs',hc,hp⟩:=h5 i hi
  obtain ⟨cs'',k1,_⟩:=k.ref i cs' hc
  exact ⟨cs'',k1,(k.sp i cs' cs'' hc k1).1.trans hp⟩
theorem sp_refl {M:Nat→Option Nat}{H:Nat→Option (List AV)}(id:Nat)(cs cs':List AV)(h:H id=some cs)(h':H id=some cs'):spL cs'=spL cs∧(spL cs=true→M id=M id):=by
 rw [h] at h';injection h' with h';subst h';exact ⟨rfl,fun _=>rfl⟩

structure GlobT where
 tbl:List (Nat×List Value)
def gcells (l:List Value):Array Value:=l.toArray
variable [Inhabited GlobT]
def globOk (w:World)(M0:Nat→Option Nat)(B:Nat→Prop):Prop:=∀ p∈(default:GlobT).tbl,(∃ e fz,w.heap[p.1]?=some (.cells (gcells p.2) e fz))∧(∀ id,M0 id≠some p.1)∧¬ B p.1

structure NT where
 n:Nat
 fix:List Nat
 rnd:Option Nat

structure Env where
 w0:World
 A:Nat→Prop
 B:Nat→Prop
 M0:Nat→Option Nat
 pin:Nat
 nt:NT
 fixv:Nat→Value
 frz:Nat→Option Obj
 hsz:Nat
 hA:∀ g,A g→g<w0.heap.size
 hB:∀ g,B g→g<w0.heap.size
 hG:globOk w0 M0 B

def Env.C (E:Env)(M:Nat→Option Nat)(H:Nat→Option (List AV))(w:World):Ctx:=⟨w,M,H,E.A,E.B⟩

structure Old (E:Env) (M:Nat→Option Nat) (w:World):Prop where
 os:w.os=E.w0.os
 tape:w.tape=E.w0.tape
 output:w.output=E.w0.output
 size:E.w0.heap.size≤w.heap.size
 block:∀ g,g<E.w0.heap.size→(∀ id,id<E.pin→E.M0 id≠some g)→w.heap[g]?=E.w0.heap[g]?
 pinned:∀ id,id<E.pin→M id=E.M0 id
 new:∀ id g,E.pin≤id→M id=some g→E.w0.heap.size≤g
 psize:∀ id g,id<E.pin→E.M0 id=some g→∀ cur e,E.w0.heap[g]?=some (.cells cur e (0,0))→∃ cur' e',w.heap[g]?=some (.cells cur' e' (0,0))∧cur'.size=cur.size
 pkind:∀ id g,id<E.pin→E.M0 id=some g→isC E.w0.heap[g]?=false→isC w.heap[g]?=false

structure Tr (E:Env) (M:Nat→Option Nat) (H:Nat→Option (List AV)) (w:World) (M':Nat→Option Nat) (H':Nat→Option (List AV)) (w':World):Prop where
 keeps:Keeps (E.C M H w) (E.C M' H' w')
 hok:HOK (E.C M' H' w')
 old:Old E M' w'

def upd {α:Type}(f:Nat→α)(i:Nat)(x:α):Nat→α:=fun j=>if j=i then x else f j
theorem Aqz {α:Type}(f:Nat→α)(i:Nat)(x:α):upd f i x i=x:=by simp [upd]
theorem Asz {α:Type}(f:Nat→α)(i j:Nat)(x:α)(h:j≠i):upd f i x j=f j:=by simp [upd,h]

section
variable {E:Env} {M:Nat→Option Nat} {H:Nat→Option (List AV)} {w w':World}

theorem Old.glob (ho:Old E M w):globOk w M E.B:=fun p hp=>by
 obtain ⟨⟨e,fz,h1⟩,h2,h3⟩:=E.hG p hp
 have hl:=(Array.getElem?_eq_some_iff.1 h1).1
 refine ⟨⟨e,fz,(ho.block _ hl fun id _=>h2 id).trans h1⟩,fun id hid=>?_,h3⟩
 rcases Nat.lt_or_ge id E.pin with h|h
 ·rw [ho.pinned id h] at hid
  exact h2 id hid
 ·have:=ho.new id _ h hid
  omega

theorem Tr.same (hk:HOK (E.C M H w))(ho:Old E M w)(hh:w'.heap=w.heap)(h1:w'.os=w.os)(h2:w'.tape=w.tape)(h3:w'.output=w.output):Tr E M H w M H w':=by
 have k:Keeps (E.C M H w) (E.C M H w'):=by
  refine ⟨fun g _ _=>?_,fun _ _ h=>h,fun _ _ h=>h,fun _ _ h=>h,fun _ cs h=>⟨cs,h,Nat.le_refl _,fun _=>rfl⟩,fun id cs cs' _ _ _ g _ cur e hg=>⟨cur,e,?_,rfl⟩,sp_refl,Nat.le_of_eq (by show w.heap.size=w'.heap.size;rw [hh])⟩
  ·show w'.heap[g]?=w.heap[g]?;rw [hh]
  ·show w'.heap[g]?=_;rw [hh];exact hg
 refine ⟨k,⟨fun id cs h=>?_,hk.no,hk.inj⟩,⟨h1.trans ho.os,h2.trans ho.tape,h3.trans ho.output,by rw [hh];exact ho.size,fun g hg hn=>by rw [hh];exact ho.block g hg hn,ho.pinned,ho.new,fun id g a b cur e c=>by rw [hh];exact ho.psize id g a b cur e c,fun id g a b c=>by rw [hh];exact ho.pkind id g a b c⟩⟩
 rcases hk.hasX id cs h with (h|⟨g,cur,e,a,b,c⟩)|hs
 ·exact .inl (.inl h)
 ·exact .inl (.inr ⟨g,cur,e,a,by show w'.heap[g]?=_;rw [hh];exact b,DenP.keeps k c⟩)
 ·exact .inr (hs.keeps k h h fun g _=>by show w'.heap[g]?=_;rw [hh];rfl)

theorem HOK.lt (hk:HOK (E.C M H w)){id g:Nat}(h:M id=some g):g<w.heap.size:=by
 cases hH:H id with
 | none=>exact absurd ((hk.no id hH).symm.trans h) (by simp)
 | some cs =>
  rcases hk.hasX id cs hH with (⟨a,_⟩|⟨g',cur,e,a,b,_⟩)|⟨g',_,_,_,_,a,b,_⟩
  ·exact absurd (a.symm.trans h) (by simp)
  ·have:some g'=some g:=a.symm.trans h
   injection this with this
   subst this
   exact lt_of_heap b
  ·have:some g'=some g:=a.symm.trans h
   injection this with this
   subst this
   exact lt_of_heap b

theorem Tr.ext (hk:HOK (E.C M H w))(ho:Old E M w)(hh:∀ g,g<w.heap.size→w'.heap[g]?=w.heap[g]?)(hs:w.heap.size≤w'.heap.size)(h1:w'.os=w.os)(h2:w'.tape=w.tape)(h3:w'.output=w.output):Tr E M H w M H w':=by
 have k:Keeps (E.C M H w) (E.C M H w') :=
  ⟨fun g hg _=>hh g hg,fun _ _ h=>h,fun _ _ h=>h,fun _ _ h=>h,fun _ cs h=>⟨cs,h,Nat.le_refl _,fun _=>rfl⟩,fun id cs cs' _ _ _ g _ cur e hg=>⟨cur,e,(hh g (lt_of_heap hg)).trans hg,rfl⟩,sp_refl,hs⟩
 refine ⟨k,⟨fun id cs h=>?_,hk.no,hk.inj⟩,⟨h1.trans ho.os,h2.trans ho.tape,h3.trans ho.output,Nat.le_trans ho.size hs,fun g hg hn=>(hh g (Nat.lt_of_lt_of_le hg ho.size)).trans (ho.block g hg hn),ho.pinned,ho.new,fun id g a b cur e c=>let ⟨cur',e',h,hs'⟩:=ho.psize id g a b cur e c;⟨cur',e',(hh g (lt_of_heap h)).trans h,hs'⟩,fun id g a b c=>by rw [hh g (hk.lt ((ho.pinned id a).trans b))];exact ho.pkind id g a b c⟩⟩
 rcases hk.hasX id cs h with (h|⟨g,cur,e,a,b,c⟩)|hs'
 ·exact .inl (.inl h)
 ·exact .inl (.inr ⟨g,cur,e,a,(hh g (lt_of_heap b)).trans b,DenP.keeps k c⟩)
 ·exact .inr (hs'.keeps k h h fun g hg=>hh g (hk.lt hg))

theorem Tr.alloc (hk:HOK (E.C M H w))(ho:Old E M w){id:Nat}(hid:H id=none)(hpin:E.pin≤id){vs:Array Value}{e:TypeId}{cs:List AV}
  (hh:w'.heap=w.heap.push (.cells vs e (0,0))) (h1:w'.os=w.os) (h2:w'.tape=w.tape) (h3:w'.output=w.output) (hd:DenP (E.C M H w) cs vs.toList) :
  Tr E M H w (upd M id (some w.heap.size)) (upd H id (some cs)) w':=by
 have hM:M id=none:=hk.no id hid
 have hnew:w'.heap[w.heap.size]?=some (.cells vs e (0,0)):=by rw [hh];simp
 have hold:∀ g,g<w.heap.size→w'.heap[g]?=w.heap[g]?:=fun g hg=>by rw [hh,Array.getElem?_push,if_neg (by omega)]
 have k:Keeps (E.C M H w) (E.C (upd M id (some w.heap.size)) (upd H id (some cs)) w'):=by
  refine ⟨fun g hg _=>hold g hg,fun g hg hn j=>?_,fun _ _ h=>h,fun _ _ h=>h,fun j ds h=>?_,fun j ds ds' h h' hl g hg cur e' hb=>?_,fun j ds ds' h h'=>?_,by show w.heap.size≤w'.heap.size;rw [hh];simp⟩
  ·show upd M id (some w.heap.size) j≠some g
   by_cases hj:j=id
   ·subst hj;rw [Aqz];intro he;injection he with he;have:g<w.heap.size:=hg;omega
   ·rw [Asz _ _ _ _ hj];exact hn j
  ·have hj:j≠id:=fun he=>by subst he;exact absurd (hid.symm.trans h) (by simp)
   exact ⟨ds,(Asz _ _ _ _ hj).trans h,Nat.le_refl _,fun _=>Asz _ _ _ _ hj⟩
  ·exact ⟨cur,e',(hold g (lt_of_heap hb)).trans hb,rfl⟩
  ·have hj:j≠id:=fun he=>by subst he;exact absurd (hid.symm.trans h) (by simp)
   have h2:some ds'=some ds:=h'.symm.trans ((Asz H id j _ hj).trans h)
   injection h2 with h2
   subst h2
   exact ⟨rfl,fun _=>Asz _ _ _ _ hj⟩
 refine ⟨k,⟨fun j ds h=>?_,fun j h=>?_,fun i j g hi hj=>?_⟩,⟨h1.trans ho.os,h2.trans ho.tape,h3.trans ho.output,by rw [hh];simp;have:=ho.size;omega,fun g hg hn=>(hold g (by have:=ho.size;omega)).trans (ho.block g hg hn),fun j hj=>(Asz _ _ _ _ (by omega)).trans (ho.pinned j hj),fun j g hj hg=>?_,fun id g a b cur e c=>let ⟨cur',e',h,hs'⟩:=ho.psize id g a b cur e c;⟨cur',e',(hold g (lt_of_heap h)).trans h,hs'⟩,fun id g a b c=>by rw [hold g (hk.lt ((ho.pinned id a).trans b))];exact ho.pkind id g a b c⟩⟩
 ·by_cases hj:j=id
  ·subst hj
   have:some cs=some ds:=(Aqz H j (some cs)).symm.trans h
   injection this with this
   subst this
   exact .inl (.inr ⟨w.heap.size,vs,e,Aqz _ _ _,hnew,DenP.keeps k hd⟩)
  ·have h0:=(Asz H id j (some cs) hj).symm.trans h
   rcases hk.hasX j ds h0 with (⟨a,b⟩|⟨g,cur,e',a,b,c⟩)|hs
   ·exact .inl (.inl ⟨(Asz _ _ _ _ hj).trans a,b⟩)
   ·exact .inl (.inr ⟨g,cur,e',(Asz _ _ _ _ hj).trans a,(hold g (lt_of_heap b)).trans b,DenP.keeps k c⟩)
   ·exact .inr (hs.keeps k h0 h fun g hg=>hold g (hk.lt hg))
 ·by_cases hj:j=id
  ·subst hj;exact absurd ((Aqz H j (some cs)).symm.trans h) (by simp)
  ·exact (Asz _ _ _ _ hj).trans (hk.no j ((Asz H id j (some cs) hj).symm.trans h))
 ·change upd M id (some w.heap.size) i=some g at hi
  change upd M id (some w.heap.size) j=some g at hj
  by_cases hi':i=id<;>by_cases hj':j=id
  ·omega
  ·subst hi'
   rw [Aqz] at hi;rw [Asz _ _ _ _ hj'] at hj
   injection hi with hi
   have:=hk.lt hj;omega
  ·subst hj'
   rw [Aqz] at hj;rw [Asz _ _ _ _ hi'] at hi
   injection hj with hj
   have:=hk.lt hi;omega
  ·rw [Asz _ _ _ _ hi'] at hi;rw [Asz _ _ _ _ hj'] at hj
   exact hk.inj i j g hi hj
 ·by_cases hj':j=id
  ·subst hj';rw [Aqz] at hg;injection hg with hg;have:=ho.size;omega
  ·rw [Asz _ _ _ _ hj'] at hg;exact ho.new j g hj hg

theorem Tr.set (hk:HOK (E.C M H w))(ho:Old E M w){id g:Nat}{cs cs':List AV}(hid:H id=some cs)(hpl:spL cs=false)(hM:M id=some g){cur':Array Value}{e:TypeId}(hlen:cs'.length=cs.length)
  (hg:w'.heap[g]?=some (.cells cur' e (0,0))) (hsz:∀ cur e,w.heap[g]?=some (.cells cur e (0,0))→cur'.size=cur.size) (hoth:∀ k,k≠g→w'.heap[k]?=w.heap[k]?) (hs:w'.heap.size=w.heap.size)
  (h1:w'.os=w.os) (h2:w'.tape=w.tape) (h3:w'.output=w.output) (hd:DenP (E.C M H w) cs' cur'.toList) :
  Tr E M H w M (upd H id (some cs')) w':=by
 have hcell:∃ cur e,w.heap[g]?=some (.cells cur e (0,0)):=by
  rcases hk.has id cs hid hpl with ⟨a,_⟩|⟨g',cur,e,a,b,_⟩
  ·exact absurd (a.symm.trans hM) (by simp)
  ·have:some g'=some g:=a.symm.trans hM
   injection this with this
   subst this
   exact ⟨cur,e,b⟩
 have k:Keeps (E.C M H w) (E.C M (upd H id (some cs')) w'):=by
  refine ⟨fun x hx hn=>hoth x (fun he=>hn id (he ▸ hM)),fun _ _ h=>h,fun _ _ h=>h,fun _ _ h=>h,fun j ds h=>?_,fun j ds ds' h h' hl x hx cur e' hb=>?_,fun j ds ds' h h'=>?_,Nat.le_of_eq hs.symm⟩
  ·by_cases hj:j=id
   ·subst hj
    have:some cs=some ds:=hid.symm.trans h
    injection this with this
    subst this
    exact ⟨cs',Aqz _ _ _,by omega,fun _=>rfl⟩
   ·exact ⟨ds,(Asz _ _ _ _ hj).trans h,Nat.le_refl _,fun _=>rfl⟩
  ·by_cases hxg:x=g
   ·subst hxg;exact ⟨cur',e,hg,hsz cur e' hb⟩
   ·exact ⟨cur,e',(hoth x hxg).trans hb,rfl⟩
  ·refine ⟨?_,fun _=>rfl⟩
   by_cases hj:j=id
   ·subst hj
    have e1:some ds'=some cs':=h'.symm.trans (Aqz H j _)
    have e2:some ds=some cs:=h.symm.trans hid
    injection e1 with e1;injection e2 with e2
    subst e1 e2
    rw [A2z hd,hpl]
   ·have e1:some ds'=some ds:=h'.symm.trans ((Asz H id j _ hj).trans h)
    injection e1 with e1
    subst e1;rfl
 refine ⟨k,⟨fun j ds h=>?_,fun j h=>?_,hk.inj⟩,⟨h1.trans ho.os,h2.trans ho.tape,h3.trans ho.output,by rw [hs];exact ho.size,fun x hx hn=>?_,ho.pinned,ho.new,fun j x a b cur e c=>?_,fun j x a b c=>?_⟩⟩
 ·by_cases hj:j=id
  ·subst hj
   have:some cs'=some ds:=(Aqz H j (some cs')).symm.trans h
   injection this with this
   subst this
   exact .inl (.inr ⟨g,cur',e,hM,hg,DenP.keeps k hd⟩)
  ·have h0:=(Asz H id j (some cs') hj).symm.trans h
   rcases hk.hasX j ds h0 with (h|⟨x,cur,e',a,b,c⟩)|hs'
   ·exact .inl (.inl h)
   ·have hx:x≠g:=fun he=>hj (hk.inj j id g (he ▸ a) hM)
    exact .inl (.inr ⟨x,cur,e',a,(hoth x hx).trans b,DenP.keeps k c⟩)
   ·exact .inr (hs'.keeps k h0 h fun x hx=>hoth x fun he=>hj (hk.inj j id g (he ▸ hx) hM))
 ·by_cases hj:j=id
  ·subst hj;exact absurd ((Aqz H j (some cs')).symm.trans h) (by simp)
  ·exact hk.no j ((Asz H id j (some cs') hj).symm.trans h)
 ·by_cases hxg:x=g
  ·subst hxg
   exfalso
   rcases Nat.lt_or_ge id E.pin with hp|hp
   ·exact hn id hp ((ho.pinned id hp).symm.trans hM)
   ·have:=ho.new id x hp hM;omega
  ·exact (hoth x hxg).trans (ho.block x hx hn)
 ·obtain ⟨cur2,e2,h2,hs2⟩:=ho.psize j x a b cur e c
  by_cases hxg:x=g
  ·subst hxg
   exact ⟨cur',_,hg,(hsz cur2 e2 h2).trans hs2⟩
  ·exact ⟨cur2,e2,(hoth x hxg).trans h2,hs2⟩
 ·have:=ho.pkind j x a b c
  by_cases hxg:x=g
  ·subst hxg
   obtain ⟨cur,e,hc⟩:=hcell
   rw [hc] at this;cases this
  ·rw [hoth x hxg];exact this

theorem Tr.grow (hk:HOK (E.C M H w))(ho:Old E M w){id g':Nat}{cs cs':List AV}(hid:H id=some cs)(hpl:spL cs=false)(hpin:E.pin≤id){cur':Array Value}{e:TypeId}(hlen:cs.length<cs'.length)
  (hg:w'.heap[g']?=some (.cells cur' e (0,0))) (hnew:M id=some g'∨w.heap.size≤g') (hoth:∀ k,k<w.heap.size→M id≠some k→w'.heap[k]?=w.heap[k]?)
  (hkeep:∀ k,M id=some k→∀ cur e,w.heap[k]?=some (.cells cur e (0,0))→∃ cur' e',w'.heap[k]?=some (.cells cur' e' (0,0))∧cur'.size=cur.size)
  (hs:w.heap.size≤w'.heap.size) (h1:w'.os=w.os) (h2:w'.tape=w.tape) (h3:w'.output=w.output) (hd:DenP (E.C M H w) cs' cur'.toList) :
  Tr E M H w (upd M id (some g')) (upd H id (some cs')) w':=by
 have k:Keeps (E.C M H w) (E.C (upd M id (some g')) (upd H id (some cs')) w'):=by
  refine ⟨fun x hx hn=>hoth x hx (fun he=>hn id he),fun x hx hn j=>?_,fun _ _ h=>h,fun _ _ h=>h,fun j ds h=>?_,fun j ds ds' h h' hl x hx cur e' hb=>?_,fun j ds ds' h h'=>?_,hs⟩
  ·show upd M id (some g') j≠some x
   by_cases hj:j=id
   ·subst hj
    rw [Aqz];intro he;injection he with he;subst he
    rcases hnew with hn'|hn'
    ·exact hn j hn'
    ·have:g'<w.heap.size:=hx
     omega
   ·rw [Asz _ _ _ _ hj];exact hn j
  ·by_cases hj:j=id
   ·subst hj
    have:some cs=some ds:=hid.symm.trans h
    injection this with this
    subst this
    exact ⟨cs',Aqz _ _ _,by omega,fun hl=>by omega⟩
   ·exact ⟨ds,(Asz _ _ _ _ hj).trans h,Nat.le_refl _,fun _=>Asz _ _ _ _ hj⟩
  ·by_cases hj:j=id
   ·subst hj
    have a1:some cs=some ds:=hid.symm.trans h
    have a2:some cs'=some ds':=(Aqz H j (some cs')).symm.trans h'
    injection a1 with a1
    injection a2 with a2
    subst a1 a2
    omega
   ·have hx':M id≠some x:=fun he=>hj (hk.inj j id x hx he)
    exact ⟨cur,e',(hoth x (lt_of_heap hb) hx').trans hb,rfl⟩
  ·by_cases hj:j=id
   ·subst hj
    have e1:some ds'=some cs':=h'.symm.trans (Aqz H j _)
    have e2:some ds=some cs:=h.symm.trans hid
    injection e1 with e1;injection e2 with e2
    subst e1 e2
    refine ⟨by rw [A2z hd,hpl],fun hs=>?_⟩
    rw [hpl] at hs;cases hs
   ·have e1:some ds'=some ds:=h'.symm.trans ((Asz H id j _ hj).trans h)
    injection e1 with e1
    subst e1;exact ⟨rfl,fun _=>Asz _ _ _ _ hj⟩
 refine ⟨k,⟨fun j ds h=>?_,fun j h=>?_,fun i j x hi hj=>?_⟩,⟨h1.trans ho.os,h2.trans ho.tape,h3.trans ho.output,by have:=ho.size;omega,fun x hx hn=>?_,fun j hj=>(Asz _ _ _ _ (by omega)).trans (ho.pinned j hj),fun j x hj hx=>?_,fun j x a b cur e c=>?_,fun j x a b c=>?_⟩⟩
 ·by_cases hj:j=id
  ·subst hj
   have:some cs'=some ds:=(Aqz H j (some cs')).symm.trans h
   injection this with this
   subst this
   exact .inl (.inr ⟨g',cur',e,Aqz _ _ _,hg,DenP.keeps k hd⟩)
  ·have h0:=(Asz H id j (some cs') hj).symm.trans h
   rcases hk.hasX j ds h0 with (⟨a,b⟩|⟨x,cur,e',a,b,c⟩)|hs'
   ·exact .inl (.inl ⟨(Asz _ _ _ _ hj).trans a,b⟩)
   ·have hx':M id≠some x:=fun he=>hj (hk.inj j id x a he)
    exact .inl (.inr ⟨x,cur,e',(Asz _ _ _ _ hj).trans a,(hoth x (lt_of_heap b) hx').trans b,DenP.keeps k c⟩)
   ·exact .inr (hs'.keeps k h0 h fun x hx=>hoth x (hk.lt hx) fun he=>hj (hk.inj j id x hx he))
 ·by_cases hj:j=id
  ·subst hj;exact absurd ((Aqz H j (some cs')).symm.trans h) (by simp)
  ·exact (Asz _ _ _ _ hj).trans (hk.no j ((Asz H id j (some cs') hj).symm.trans h))
 ·change upd M id (some g') i=some x at hi
  change upd M id (some g') j=some x at hj
  by_cases hi':i=id<;>by_cases hj':j=id
  ·omega
  ·subst hi'
   rw [Aqz] at hi;rw [Asz _ _ _ _ hj'] at hj
   injection hi with hi
   subst hi
   rcases hnew with hn|hn
   ·exact (hk.inj j i g' hj hn).symm
   ·have:=hk.lt hj;omega
  ·subst hj'
   rw [Aqz] at hj;rw [Asz _ _ _ _ hi'] at hi
   injection hj with hj
   subst hj
   rcases hnew with hn|hn
   ·exact hk.inj i j g' hi hn
   ·have:=hk.lt hi;omega
  ·rw [Asz _ _ _ _ hi'] at hi;rw [Asz _ _ _ _ hj'] at hj
   exact hk.inj i j x hi hj
 ·refine (hoth x (by have:=ho.size;omega) (fun he=>?_)).trans (ho.block x hx hn)
  have:=ho.new id x hpin he
  omega
 ·by_cases hj':j=id
  ·subst hj'
   rw [Aqz] at hx
   injection hx with hx
   subst hx
   rcases hnew with hn|hn
   ·exact ho.new j g' hj hn
   ·have:=ho.size;omega
  ·rw [Asz _ _ _ _ hj'] at hx;exact ho.new j x hj hx
 ·obtain ⟨cur2,e2,h2,hs2⟩:=ho.psize j x a b cur e c
  by_cases hxg:M id=some x
  ·obtain ⟨cur3,e3,h3,hs3⟩:=hkeep x hxg cur2 e2 h2
   exact ⟨cur3,e3,h3,hs3.trans hs2⟩
  ·exact ⟨cur2,e2,(hoth x (lt_of_heap h2) hxg).trans h2,hs2⟩
 ·have hx:=(ho.pinned j a).trans b
  rw [hoth x (hk.lt hx) fun he=>by have:=hk.inj j id x hx he;omega]
  exact ho.pkind j x a b c

theorem Tr.setSp (hk:HOK (E.C M H w))(ho:Old E M w){id g:Nat}{cs:List AV}(hid:H id=some cs)(hsp:spL cs=true)(hM:M id=some g){ids:List Nat}{f:List Nat→Obj}{gs:List Nat}
  (hgs:w'.heap[g]?=some (f gs)) (hoth:∀ k,k≠g→w'.heap[k]?=w.heap[k]?) (hs:w'.heap.size=w.heap.size)
  (h1:w'.os=w.os) (h2:w'.tape=w.tape) (h3:w'.output=w.output) (hg:ids.map M=gs.map some) (hc:isC (some (f gs))=false) (hi:∀ i∈ids,∃ cs',H i=some cs'∧spL cs'=true) :
  Tr E M H w M (upd H id (some [.sp ids (some f)])) w':=by
 have hsp':=HOK.sp hk hid hsp
 obtain ⟨g',ids',f',o',he,hM',hcell,hcc,_⟩:=hsp'
 have:some g'=some g:=hM'.symm.trans hM
 injection this with this
 subst this
 subst he
 have hnc:∀ cur e,w.heap[g']?≠some (.cells cur e (0,0)):=fun cur e h=>by
  have h':some o'=some (.cells cur e (0,0)):=hcell.symm.trans h
  rw [h'] at hcc;cases hcc
 have k:Keeps (E.C M H w) (E.C M (upd H id (some [.sp ids (some f)])) w'):=by
  refine ⟨fun x hx hn=>hoth x (fun he=>hn id (he ▸ hM)),fun _ _ h=>h,fun _ _ h=>h,fun _ _ h=>h,fun j ds h=>?_,fun j ds ds' h h' hl x hx cur e' hb=>?_,fun j ds ds' h h'=>?_,Nat.le_of_eq hs.symm⟩
  ·by_cases hj:j=id
   ·subst hj
    have:some [AV.sp ids' f']=some ds:=hid.symm.trans h
    injection this with this
    subst this
    exact ⟨[.sp ids (some f)],Aqz _ _ _,by simp,fun _=>rfl⟩
   ·exact ⟨ds,(Asz _ _ _ _ hj).trans h,Nat.le_refl _,fun _=>rfl⟩
  ·by_cases hxg:x=g'
   ·subst hxg;exact absurd hb (hnc cur e')
   ·exact ⟨cur,e',(hoth x hxg).trans hb,rfl⟩
  ·refine ⟨?_,fun _=>rfl⟩
   by_cases hj:j=id
   ·subst hj
    have e1:some ds'=some [AV.sp ids (some f)]:=h'.symm.trans (Aqz H j _)
    have e2:some ds=some [AV.sp ids' f']:=h.symm.trans hid
    injection e1 with e1;injection e2 with e2
    subst e1 e2
    rfl
   ·have e1:some ds'=some ds:=h'.symm.trans ((Asz H id j _ hj).trans h)
    injection e1 with e1
    subst e1;rfl
 refine ⟨k,⟨fun j ds h=>?_,fun j h=>?_,hk.inj⟩,⟨h1.trans ho.os,h2.trans ho.tape,h3.trans ho.output,by rw [hs];exact ho.size,fun x hx hn=>?_,ho.pinned,ho.new,fun j x a b cur e c=>?_,fun j x a b c=>?_⟩⟩
 ·by_cases hj:j=id
  ·subst hj
   have:some [AV.sp ids (some f)]=some ds:=(Aqz H j (some _)).symm.trans h
   injection this with this
   subst this
   refine .inr ⟨g',ids,some f,_,rfl,hM,hgs,hc,fun f0 hf=>?_⟩
   injection hf with hf
   subst hf
   refine ⟨⟨gs,hg,rfl⟩,fun i hi'=>?_⟩
   obtain ⟨cs',h,h'⟩:=hi i hi'
   obtain ⟨cs'',k1,_⟩:=k.ref i cs' h
   exact ⟨cs'',k1,(k.sp i cs' cs'' h k1).1.trans h'⟩
  ·have h0:=(Asz H id j (some [AV.sp ids (some f)]) hj).symm.trans h
   rcases hk.hasX j ds h0 with (h|⟨x,cur,e',a,b,c⟩)|hs'
   ·exact .inl (.inl h)
   ·have hx:x≠g':=fun he=>hj (hk.inj j id g' (he ▸ a) hM)
    exact .inl (.inr ⟨x,cur,e',a,(hoth x hx).trans b,DenP.keeps k c⟩)
   ·exact .inr (hs'.keeps k h0 h fun x hx=>hoth x fun he=>hj (hk.inj j id g' (he ▸ hx) hM))
 ·by_cases hj:j=id
  ·subst hj;exact absurd ((Aqz H j (some [AV.sp ids (some f)])).symm.trans h) (by simp)
  ·exact hk.no j ((Asz H id j (some _) hj).symm.trans h)
 ·by_cases hxg:x=g'
  ·subst hxg
   exfalso
   rcases Nat.lt_or_ge id E.pin with hp|hp
   ·exact hn id hp ((ho.pinned id hp).symm.trans hM)
   ·have:=ho.new id x hp hM;omega
  ·exact (hoth x hxg).trans (ho.block x hx hn)
 ·obtain ⟨cur2,e2,h2,hs2⟩:=ho.psize j x a b cur e c
  by_cases hxg:x=g'
  ·subst hxg;exact absurd h2 (hnc _ _)
  ·exact ⟨cur2,e2,(hoth x hxg).trans h2,hs2⟩
 ·by_cases hxg:x=g'
  ·subst hxg;rw [hgs];exact hc
  ·rw [hoth x hxg];exact ho.pkind j x a b c

end
end Vw
namespace Vw
open Go

inductive AOp where
 | mv (x:Operand)
 | pick (c a b:Operand)
 | alloc (zs:List Value)
 | box (x:Operand)
 | build (zs:List Value) (ps:List (Nat×Nat×Operand))
 | bslice (sz:Nat) (zs:List Value) (ps:List (Nat×Operand)) (n:Nat)
 | load (agg:Bool) (sz:Nat) (x:Operand)
 | store (sz:Nat) (x v:Operand)
 | bin (op:BinOp) (x y:Operand)
 | binB (op:BinOp) (x y:Operand)
 | un (op:UnOp) (x:Operand)
 | conv (k:IntKind) (x:Operand)
 | nilck (x:Operand)
 | mkslice (sz:Nat) (zs:List Value) (l c:Operand)
 | slice (sz:Nat) (x:Operand) (lo hi:Option Operand)
 | sliceS (x:Operand) (lo hi:Option Operand)
 | fld (off:Nat) (x:Operand)
 | fldv (agg:Bool) (off sz:Nat) (x:Operand)
 | idxA (sz:Nat) (x i:Operand)
 | idxP (sz n:Nat) (x i:Operand)
 | idxS (x i:Operand)
 | extract (x:Operand) (i:Nat)
 | len (x:Operand)
 | lenS (x:Operand)
 | append (sz:Nat) (x y:Operand)
 | minmax (mx:Bool) (x y:Operand)
 | eqS (neg:Bool) (l:List (Nat×Option IntKind)) (x y:Operand)
 | sliceP (sz n:Nat) (x:Operand) (lo hi:Option Operand)
 | slice3 (sz:Nat) (x:Operand) (lo:Option Operand) (hi mx:Operand)
 | clr (sz:Nat) (zs:List Value) (x:Operand)
 | cpy (sz:Nat) (x y:Operand)
 | isnil (neg:Bool) (x:Operand)
 | blit (sz:Nat) (zs:List Value) (ps:List (Nat×Operand)) (n:Nat)
 | call (f:Nat) (args:List Operand)
 | raw (op:Op)
 | mkfn (fn:Fn) (us vs:List Operand)

def ofCell:Value→AV
 | .int k n=>.int k n
 | .bool b=>.bool b
 | .string s=>.str s
 | v=>.val v

def ofVal:Value→AV
 | .agg cs=>.agg (cs.toList.map ofCell)
 | v=>ofCell v

theorem Dbz (C:Ctx)(v:Value):Den C (ofCell v) v:=by cases v<;>simp [ofCell,Den]

theorem Bcz (C:Ctx):∀ l:List Value,DenP C (l.map ofCell) l
 | []=>by simp [DenP]
 | v::l=>by simp only [List.map_cons,DenP];exact ⟨Dbz C v,Bcz C l⟩

theorem den_ofVal (C:Ctx)(v:Value):Den C (ofVal v) v:=by
 cases v
 case agg cs=>simp only [ofVal,Den];exact ⟨cs,rfl,by simp,Bcz C _⟩
 all_goals (simp only [ofVal];exact Dbz C _)

structure S where
 σ:Nat→AV
 H:Nat→Option (List AV)

def globAV [Inhabited GlobT](g:Nat):AV:=match (default:GlobT).tbl.lookup g with
 | some l=>.prow false (l.map ofCell) 0
 | none=>.val (.pointer (some ⟨g,0,none⟩))
variable [Inhabited GlobT]
def S.ev (s:S):Operand→AV
 | .tmp t=>s.σ t
 | .const v=>ofVal v
 | .global g=>globAV g
 | .func f=>.val (.func (.func f) #[] #[])

def AV.cells:AV→Option (List AV)
 | .agg cs=>if cs.all AV.isCell then some cs else none
 | a=>if a.isCell then some [a] else none

def setRange (cs:List AV)(off:Nat):List AV→List AV
 | []=>cs
 | c::r=>setRange (cs.set off c) (off+1) r

def mkAV (agg:Bool)(cs:List AV):Option AV :=
 if agg then some (.agg cs) else match cs with|[c]=>some c|_=>none

def rd (H:Nat→Option (List AV)):AV→Option (List AV×Nat)
 | .rows _ cs n=>some (cs,n)
 | .own id n sz=>match H id with
  | some cs=>if cs.length=n*sz then some (cs,n) else none
  | none=>none
 | .osl id len off n sz _=>match H id with
  | some cs=>if cs.length=len then some ((cs.drop off).take (n*sz),n) else none
  | none=>none
 | .val (.slice none 0 0)=>some ([],0)
 | _=>none

def eqCells:List (Nat×Option IntKind)→List AV→List AV→Option Bool
 | [],_,_=>some true
 | (o,some k)::r,cs,ds=>match cs[o]?,ds[o]?,eqCells r cs ds with
  | some (.int k1 a),some (.int k2 b),some t=>if k1=k∧k2=k then some (decide (a=b)&&t) else none
  | _,_,_=>none
 | (o,none)::r,cs,ds=>match cs[o]?,ds[o]?,eqCells r cs ds with
  | some (.bool a),some (.bool b),some t=>some ((a==b)&&t)
  | _,_,_=>none

def AV.tgt:AV→Option (Nat×Nat×Nat×Nat×Nat×Nat)
 | .own id n sz=>some (id,n*sz,0,n,sz,n)
 | .osl id len off n sz c=>some (id,len,off,n,sz,c)
 | _=>none

def AOp.isWr:AOp→Bool
 | .clr ..=>true
 | .cpy ..=>true
 | _=>false

def abin (op:BinOp):AV→AV→Option AV
 | .int k a,.int k' b =>
  if k=k' then match op with
   | .add=>some (.int k (k.wrap (a+b)))
   | .sub=>some (.int k (k.wrap (a-b)))
   | .mul=>some (.int k (k.wrap (a*b)))
   | .quo=>if b=0 then none else some (.int k (k.wrap (a.tdiv b)))
   | .rem=>if b=0 then none else some (.int k (a.tmod b))
   | .and=>some (.int k (bits .and k a b))
   | .or=>some (.int k (bits .or k a b))
   | .xor=>some (.int k (bits .xor k a b))
   | .shr=>if 0≤b then some (.int k (a.fdiv (2 ^ (min b.toNat k.bits)))) else none
   | .andNot=>some (.int k (bits .andNot k a b))
   | .eql=>some (.bool (a==b))
   | .neq=>some (.bool (a != b))
   | .lss=>some (.bool (decide (a<b)))
   | .leq=>some (.bool (decide (a≤b)))
   | .gtr=>some (.bool (decide (a > b)))
   | .geq=>some (.bool (decide (a ≥ b)))
   | _=>none
  else none
 | .str a,.str b=>match op with
   | .add=>if a.size+b.size≤1099511627776 then some (.str (a++b)) else none
   | .eql=>some (.bool (a.toList==b.toList))
   | .neq=>some (.bool (!(a.toList==b.toList)))
   | .lss=>some (.bool (Op.bytesLess a.toList b.toList))
   | .leq=>some (.bool (Op.bytesLess a.toList b.toList || a.toList==b.toList))
   | .gtr=>some (.bool (!(Op.bytesLess a.toList b.toList || a.toList==b.toList)))
   | .geq=>some (.bool (!(Op.bytesLess a.toList b.toList)))
   | _=>none
 | _,_=>none

def abinB (op:BinOp):AV→AV→Option AV
 | .bool a,.bool b=>match op with
  | .eql=>some (.bool (a==b))
  | .neq=>some (.bool (!(a==b)))
  | _=>none
 | _,_=>none

def aun (op:UnOp):AV→Option AV
 | .int k n=>match op with|.neg=>some (.int k (k.wrap (0-n)))|_=>none
 | .bool b=>match op with|.not=>some (.bool (!b))|_=>none
 | _=>none

abbrev Res:=Option (AV×Option (Nat×List AV))
def pureR (a:Option AV):Res:=a.map fun v=>(v,none)

def bnd (m:Nat)(dflt:Nat):Option AV→Option Nat
 | none=>some dflt
 | some (.int _ i)=>if 0≤i∧i≤m then some i.toNat else none
 | some _=>none

def fillR:List AV→List (Nat×Nat×AV)→Option (List AV)
 | cs,[]=>some cs
 | cs,(off,sz,v)::r=>match v.cells with
  | some l=>if l.length=sz∧off+sz≤cs.length then fillR (setRange cs off l) r else none
  | none=>none

def zcells (zs:List AV)(n:Nat):List AV:=(List.range (n*zs.length)).map fun i=>zs.getD (i % zs.length) .unk

def loadAV (H:Nat→Option (List AV))(agg:Bool)(sz:Nat):AV→Option AV
 | .ref id len off=>match H id with
  | some cs=>if cs.length=len∧off+sz≤len then mkAV agg ((cs.drop off).take sz) else none
  | none=>none
 | .prow _ cs off=>if off+sz≤cs.length then mkAV agg ((cs.drop off).take sz) else none
 | _=>none

def arun (s:S)(pin d:Nat):AOp→Res
 | .mv x=>some (s.ev x,none)
 | .pick c a b=>match s.ev c with
  | .bool t=>match s.ev a,s.ev b with
   | .bool x,.bool y=>some (.bool (if t then x else y),none)
   | x,y=>some (if t then x else y,none)
  | _=>none
 | .alloc zs=>if (s.H (16*d)).isNone∧pin≤16*d then some (.ref (16*d) zs.length 0,some (16*d,zs.map ofCell)) else none
 | .box x=>match (s.ev x).cells with
  | some cs=>if (s.H (16*d)).isNone∧pin≤16*d then some (.ref (16*d) cs.length 0,some (16*d,cs)) else if 16*d<pin then some (.prow true cs 0,none) else none
  | none=>none
 | .mkfn fn us vs=>some (.clo fn (us.map s.ev) (vs.map s.ev),none)
 | .build zs ps=>(fillR (zs.map ofCell) (ps.map fun p=>(p.1,p.2.1,s.ev p.2.2))).map fun cs=>(.agg cs,none)
 | .bslice sz zs ps n=>if (s.H (16*d)).isNone∧pin≤16*d then
   (fillR (zcells (zs.map ofCell) n) (ps.map fun p=>(p.1*sz,sz,s.ev p.2))).map fun cs=>(.own (16*d) n sz,some (16*d,cs)) else none
 | .blit sz zs ps n=>(fillR (zcells (zs.map ofCell) n) (ps.map fun p=>(p.1*sz,sz,s.ev p.2))).map fun cs=>(.rows true cs n,none)
 | .load agg sz x=>pureR (loadAV s.H agg sz (s.ev x))
 | .store sz x v=>match s.ev x with
  | .ref id len off=>match s.H id,(s.ev v).cells with
   | some cs,some l=>if cs.length=len∧off+sz≤len∧l.length=sz then some (.und,some (id,setRange cs off l)) else none
   | _,_=>none
  | _=>none
 | .bin op x y=>pureR (abin op (s.ev x) (s.ev y))
 | .binB op x y=>pureR (abinB op (s.ev x) (s.ev y))
 | .un op x=>pureR (aun op (s.ev x))
 | .conv k x=>match s.ev x with
  | .int _ n=>some (.int k (k.wrap n),none)
  | _=>none
 | .nilck x=>match s.ev x with
  | .ref id len off=>match s.H id with
   | some cs=>if cs.length=len then some (.ref id len off,none) else none
   | none=>none
  | .prow fr cs off=>some (.prow fr cs off,none)
  | _=>none
 | .mkslice sz zs l c=>match s.ev l,s.ev c with
  | .int _ n,.int _ m=>if (s.H (16*d)).isNone∧pin≤16*d∧n=m∧0≤n∧n≤1099511627776 then
    some (.own (16*d) n.toNat sz,some (16*d,zcells (zs.map ofCell) n.toNat)) else none
  | _,_=>none
 | .slice sz x lo hi=>match s.ev x with
  | .rows fr cs n=>match bnd n n (hi.map s.ev) with
   | some h=>match bnd h 0 (lo.map s.ev) with
    | some l=>some (.rows fr ((cs.drop (l*sz)).take ((h-l)*sz)) (h-l),none)
    | none=>none
   | none=>none
  | .own id n sz'=>match s.H id,bnd n n (hi.map s.ev) with
   | some cs,some h=>match bnd h 0 (lo.map s.ev) with
    | some l=>if cs.length=n*sz∧sz'=sz then some (.osl id (n*sz) (l*sz) (h-l) sz (n-l),none) else none
    | none=>none
   | _,_=>none
  | .osl id len off n sz' c=>match s.H id,bnd c n (hi.map s.ev) with
   | some cs,some h=>match bnd h 0 (lo.map s.ev) with
    | some l=>if cs.length=len∧sz'=sz∧l≤c then some (.osl id len (off+l*sz) (h-l) sz (c-l),none) else none
    | none=>none
   | _,_=>none
  | .val (.slice none 0 0)=>match bnd 0 0 (hi.map s.ev) with
   | some h=>match bnd h 0 (lo.map s.ev) with
    | some _=>some (.val (.slice none 0 0),none)
    | none=>none
   | none=>none
  | _=>none
 | .sliceS x lo hi=>match s.ev x with
  | .str t=>match bnd t.size t.size (hi.map s.ev) with
   | some h=>match bnd h 0 (lo.map s.ev) with
    | some l=>some (.str (t.extract l h),none)
    | none=>none
   | none=>none
  | _=>none
 | .fld off x=>match s.ev x with
  | .ref id len o=>match s.H id with
   | some cs=>if cs.length=len then some (.ref id len (o+off),none) else none
   | none=>none
  | .prow fr cs o=>some (.prow fr cs (o+off),none)
  | _=>none
 | .fldv agg off sz x=>match s.ev x with
  | .agg cs=>if off+sz≤cs.length then pureR (mkAV agg ((cs.drop off).take sz)) else none
  | _=>none
 | .idxA sz x i=>match s.ev i with
  | .int _ j=>match s.ev x with
   | .rows fr cs n=>if 0≤j∧j<n then some (.prow fr cs (j.toNat*sz),none) else none
   | .own id n sz'=>match s.H id with
    | some cs=>if cs.length=n*sz'∧0≤j∧j<n then some (.ref id (n*sz') (j.toNat*sz),none) else none
    | none=>none
   | .osl id len off n sz' _=>match s.H id with
    | some cs=>if cs.length=len∧0≤j∧j<n then some (.ref id len (off+j.toNat*sz),none) else none
    | none=>none
   | _=>none
  | _=>none
 | .idxP sz n x i=>match s.ev i with
  | .int _ j=>match s.ev x with
   | .ref id len o=>match s.H id with
    | some cs=>if cs.length=len∧0≤j∧j<n then some (.ref id len (o+j.toNat*sz),none) else none
    | none=>none
   | .prow fr cs o=>if 0≤j∧j<n then some (.prow fr cs (o+j.toNat*sz),none) else none
   | _=>none
  | _=>none
 | .idxS x i=>match s.ev x,s.ev i with
  | .str t,.int _ j=>if h:0≤j∧j.toNat<t.size then some (.int .u8 (t[j.toNat]'h.2).toNat,none) else none
  | _,_=>none
 | .extract x i=>match s.ev x with
  | .tup vs=>pureR vs[i]?
  | _=>none
 | .len x=>(rd s.H (s.ev x)).map fun r=>(.int .i64 r.2,none)
 | .lenS x=>match s.ev x with
  | .str t=>some (.int .i64 t.size,none)
  | _=>none
 | .append sz x y=>match rd s.H (s.ev y) with
  | some (ys,m)=>if ys.length=m*sz∧ys.all AV.isCell then match s.ev x with
    | .own id n sz'=>match s.H id with
     | some cs=>if sz'=sz∧cs.length=n*sz∧pin≤id∧n+m≤1099511627776 then
       some (.own id (n+m) sz,some (id,cs++ys)) else none
     | none=>none
    | .osl id len off n sz' c=>match s.H id with
     | some cs=>if sz'=sz∧cs.length=len∧n+m≤c then some (.osl id len off (n+m) sz c,some (id,setRange cs (off+n*sz) ys)) else none
     | none=>none
    | .val (.slice none 0 0)=>if (s.H (16*d)).isNone∧pin≤16*d∧m≤1099511627776 then some (.own (16*d) m sz,some (16*d,ys)) else none
    | _=>none
   else none
  | none=>none
 | .minmax mx x y=>match s.ev x,s.ev y with
  | .int k a,.int _ b=>some (.int k (if mx then max a b else min a b),none)
  | _,_=>none
 | .eqS neg l x y=>match s.ev x,s.ev y with
  | .agg cs,.agg ds=>(eqCells l cs ds).map fun b=>(.bool (if neg then !b else b),none)
  | _,_=>none
 | .sliceP sz n x lo hi=>match s.ev x with
  | .ref id len off=>match s.H id,bnd n n (hi.map s.ev) with
   | some cs,some h=>match bnd h 0 (lo.map s.ev) with
    | some l=>if cs.length=len∧off+n*sz≤len then some (.osl id len (off+l*sz) (h-l) sz (n-l),none) else none
    | none=>none
   | _,_=>none
  | _=>none
 | .slice3 sz x lo hi mx=>match s.ev x with
  | .rows fr cs n=>match bnd n n (some (s.ev mx)) with
   | some m=>match bnd m m (some (s.ev hi)) with
    | some h=>match bnd h 0 (lo.map s.ev) with
     | some l=>some (.rows fr ((cs.drop (l*sz)).take ((h-l)*sz)) (h-l),none)
     | none=>none
    | none=>none
   | none=>none
  | y=>match y.tgt with
   | some (id,len,off,_,sz',c)=>match s.H id with
    | some cs=>if cs.length=len∧sz'=sz then match bnd c c (some (s.ev mx)) with
     | some m=>match bnd m m (some (s.ev hi)) with
      | some h=>match bnd h 0 (lo.map s.ev) with
       | some l=>some (.osl id len (off+l*sz) (h-l) sz (m-l),none)
       | none=>none
      | none=>none
     | none=>none else none
    | none=>none
   | none=>none
 | .clr sz zs x=>match (s.ev x).tgt with
  | some (id,len,off,n,sz',_)=>match s.H id with
   | some cs=>if sz'=sz∧cs.length=len then some (.tup [],some (id,setRange cs off (zcells (zs.map ofCell) n))) else none
   | none=>none
  | none=>none
 | .cpy sz x y=>match rd s.H (s.ev y) with
  | some (ys,m)=>if ys.length=m*sz∧ys.all AV.isCell then match (s.ev x).tgt with
   | some (id,len,off,n,sz',_)=>match s.H id with
    | some cs=>if sz'=sz∧cs.length=len then some (.int .i64 (min m n:Nat),some (id,setRange cs off (ys.take (min m n*sz)))) else none
    | none=>none
   | none=>none else none
  | none=>none
 | .isnil _ _=>none
 | .call _ _=>none
 | .raw _=>none

end Vw
namespace Vw
open Go
variable [Inhabited GlobT]

def isAggB (P:Program)(t:TypeId):Option Bool :=
 match P.underlying t with
 | some (.struct _)|some (.array _ _)=>some true
 | some _=>some false
 | none=>none

def zeroCells (P:Program)(t:TypeId):Option (List Value) :=
 match P.info? t with
 | some i=>match i.zero with
  | some z=>some z.cells.toList
  | none=>none
 | none=>none

def sizeAt (P:Program)(t:TypeId):Option Nat:=(P.info? t).map (·.size)

def placesOf (P:Program)(fields:Array Field):Option (List (Nat×Nat)):=fields.toList.mapM fun f=>(P.info? f.type).map fun i=>(f.offset,i.size)

def partsAt (places:List (Nat×Nat)):List (Nat×Operand)→Option (List (Nat×Nat×Operand))
 | []=>some []
 | (i,x)::r=>match places[i]? with
  | some q=>match partsAt places r with
   | some l=>some ((q.1,q.2,x)::l)
   | none=>none
  | none=>none

def lowCall0 (P:Program)(c:Call):Option AOp :=
 match c.callee,c.args.toList,c.argTypes.toList with
 | .builtin .len,[x],[t]=>match P.underlying t with
  | some .string=>some (.lenS x)
  | some (.slice _)=>some (.len x)
  | some (.array n _)=>some (.mv (.const (.int .i64 n)))
  | _=>none
 | .builtin .append,[x,y],[t,t']=>if t=t' then match P.underlying t with
  | some (.slice e)=>match P.info? e with
   | some i=>match i.zero with
    | some z=>if z.cells.size=i.size∧0<i.size∧i.bytes≤128 then some (.append i.size x y) else none
    | none=>none
   | none=>none
  | _=>none else none
 | .value (.func f),l,_=>match P.funcs[f]? with
  | some fn => if fn.body.isSome ∧ (fn.name == "runtime.NumGoroutine") = false then some (.call f l) else none
  | none=>none
 | _,_,_=>none

def isMinMax:Callee→Option Bool
 | .builtin .min=>some false
 | .builtin .max=>some true
 | _=>none

def lowMM (c:Call):Option AOp :=
 match isMinMax c.callee with
 | some mx=>match c.args.toList with
  | [x,y]=>some (.minmax mx x y)
  | _=>none
 | none=>none


theorem Ebz {c:Call}{a:AOp}(h:lowMM c=some a):∃ mx x y,isMinMax c.callee=some mx∧c.args.toList=[x,y]∧a=.minmax mx x y:=by
 unfold lowMM at h
 split at h
 ·rename_i mx hm
  split at h
  ·rename_i x y hxy
   simp only [Option.some.injEq] at h
   exact ⟨mx,x,y,hm,hxy,h.symm⟩
  ·cases h
 ·cases h

def isWrC:Callee→Option Bool
 | .builtin .clear=>some true
 | .builtin .copy=>some false
 | _=>none
def sliceAt' (P:Program)(t:TypeId):Option TypeId :=
 match P.underlying t with
 | some (.slice e)=>some e
 | _=>none
theorem B9z {P:Program}{t e:TypeId}(h:sliceAt' P t=some e):P.underlying t=some (.slice e):=by
 unfold sliceAt' at h
 split at h
 ·rename_i fs' hu;injection h with h;subst h;exact hu
 ·cases h
def lowClr (P:Program)(x:Operand)(t:TypeId):Option AOp :=
 match sliceAt' P t with
 | some e=>match P.info? e with
  | some i=>match i.zero with
   | some z=>if z.cells.size=i.size∧0<i.size∧z.cells.toList.all Value.oneCell' then some (.clr i.size z.cells.toList x) else none
   | none=>none
  | none=>none
 | none=>none
def lowCpy (P:Program)(x y:Operand)(t:TypeId):Option AOp :=
 match sliceAt' P t with
 | some e=>match sizeAt P e with
  | some sz=>if 0<sz then some (.cpy sz x y) else none
  | none=>none
 | none=>none
def lowWr (P:Program)(c:Call):Option AOp :=
 match isWrC c.callee,c.args.toList,c.argTypes.toList with
 | some true,[x],[t]=>lowClr P x t
 | some false,[x,y],[t,_]=>lowCpy P x y t
 | _,_,_=>none
theorem isWrC_true {k:Callee}(h:isWrC k=some true):k=.builtin .clear:=by
 unfold isWrC at h
 split at h
 ·rfl
 ·cases h
 ·cases h
theorem isWrC_false {k:Callee}(h:isWrC k=some false):k=.builtin .copy:=by
 unfold isWrC at h
 split at h
 ·cases h
 ·rfl
 ·cases h
theorem Dmz {P:Program}{x:Operand}{t:TypeId}{a:AOp}(h:lowClr P x t=some a):∃ e i z,P.underlying t=some (.slice e)∧P.info? e=some i∧i.zero=some z∧z.cells.size=i.size∧0<i.size∧z.cells.toList.all Value.oneCell'=true∧a=.clr i.size z.cells.toList x:=by
 unfold lowClr at h
 split at h
 ·rename_i e he
  split at h
  ·rename_i i hi
   split at h
   ·rename_i z hz
    split at h
    ·rename_i hc
     injection h with h
     exact ⟨e,i,z,B9z he,hi,hz,hc.1,hc.2.1,hc.2.2,h.symm⟩
    ·cases h
   ·cases h
  ·cases h
 ·cases h
theorem Dlz {P:Program}{x y:Operand}{t:TypeId}{a:AOp}(h:lowCpy P x y t=some a):∃ e sz,P.underlying t=some (.slice e)∧sizeAt P e=some sz∧0<sz∧a=.cpy sz x y:=by
 unfold lowCpy at h
 split at h
 ·rename_i e he
  split at h
  ·rename_i sz hs
   split at h
   ·rename_i hc
    injection h with h
    exact ⟨e,sz,B9z he,hs,hc,h.symm⟩
   ·cases h
  ·cases h
 ·cases h
theorem lowWr_some {P:Program}{c:Call}{a:AOp}(h:lowWr P c=some a) :
  (∃ x t,c.callee=.builtin .clear∧c.args=#[x]∧c.argTypes=#[t]∧lowClr P x t=some a)∨(∃ x y t t',c.callee=.builtin .copy∧c.args=#[x,y]∧c.argTypes=#[t,t']∧lowCpy P x y t=some a):=by
 unfold lowWr at h
 split at h
 ·rename_i x t h1 h2 h3
  exact .inl ⟨x,t,isWrC_true h1,Array.ext' h2,Array.ext' h3,h⟩
 ·rename_i x y t t' h1 h2 h3
  exact .inr ⟨x,y,t,t',isWrC_false h1,Array.ext' h2,Array.ext' h3,h⟩
 ·cases h
theorem Gbz {P:Program}{c:Call}{a:AOp}(h:lowWr P c=some a):a.isWr=true:=by
 rcases lowWr_some h with ⟨x,t,_,_,_,h⟩|⟨x,y,t,t',_,_,_,h⟩
 ·obtain ⟨e,i,z,_,_,_,_,_,_,rfl⟩:=Dmz h;rfl
 ·obtain ⟨e,sz,_,_,_,rfl⟩:=Dlz h;rfl

def lowCall (P:Program)(c:Call):Option AOp :=
 match lowCall0 P c with
 | some a=>some a
 | none=>match lowMM c with
  | some a=>some a
  | none=>lowWr P c

theorem A9z {P:Program}{c:Call}{a:AOp}(h:lowCall P c=some a)(hn:∀ mx x y,a≠.minmax mx x y)(hw:a.isWr=false:=by rfl):lowCall0 P c=some a:=by
 unfold lowCall at h
 split at h
 ·rename_i b hb;rw [hb];exact h
 ·split at h
  ·rename_i b hb
   injection h with h
   subst h
   obtain ⟨mx,x,y,_,_,e⟩:=Ebz hb
   exact absurd e (hn mx x y)
  ·rw [Gbz h] at hw;cases hw

theorem lowCall_mm {P:Program}{c:Call}{mx:Bool}{x y:Operand}(h:lowCall P c=some (.minmax mx x y))(h0:∀ b,lowCall0 P c=some b→b≠.minmax mx x y):lowMM c=some (.minmax mx x y):=by
 unfold lowCall at h
 split at h
 ·rename_i b hb
  injection h with h
  exact absurd h (h0 b hb)
 ·split at h
  ·rename_i b hb;rw [hb];exact h
  ·have:=Gbz h;cases this

theorem Gcz {P:Program}{c:Call}{a:AOp}(h:lowCall P c=some a)(h0:∀ b,lowCall0 P c=some b→b.isWr=false)(hw:a.isWr=true):lowWr P c=some a:=by
 unfold lowCall at h
 split at h
 ·rename_i b hb
  injection h with h
  subst h
  rw [h0 b hb] at hw;cases hw
 ·split at h
  ·rename_i b hb
   injection h with h
   subst h
   obtain ⟨mx,x,y,_,_,e⟩:=Ebz hb
   rw [e] at hw;cases hw
  ·exact h

theorem E9z {P:Program}{c:Call}{b:AOp}(h:lowCall0 P c=some b):b.isWr=false:=by
 cases b<;>first
  | rfl
  | (exfalso;unfold lowCall0 at h;(repeat' (split at h))<;>simp at h;done)

theorem lowCall_raw {P:Program}{c:Call}(op:Op):lowCall P c≠some (.raw op):=by
 intro h
 have:=A9z h (fun _ _ _ h=>by cases h)
 unfold lowCall0 at this
 (repeat' (split at this))<;>simp at this
def eqOffs (P:Program):List Field→Option (List (Nat×Option IntKind))
 | []=>some []
 | f :: r => if f.name = "_" then none else match P.underlying f.type, eqOffs P r with
  | some (.int k),some l=>some ((f.offset,some k)::l)
  | some .bool,some l=>some ((f.offset,none)::l)
  | _,_=>none

def structOf (P:Program)(t:TypeId):Option (Array Field) :=
 match P.underlying t with
 | some (.struct fs)=>some fs
 | _=>none
def sliceOf (P:Program)(t:TypeId):Option TypeId :=
 match P.underlying t with
 | some (.slice e)=>some e
 | _=>none
def arrAt (P:Program)(t:TypeId):Option (Nat×TypeId) :=
 match P.underlying t with
 | some (.array n e)=>some (n,e)
 | _=>none
def isEq:BinOp→Option Bool
 | .eql=>some false
 | .neq=>some true
 | _=>none
def isNilC:Operand→Bool
 | .const (.slice none 0 0)=>true
 | _=>false

def lowBin (P:Program)(op:BinOp)(t:TypeId)(x y:Operand):Option AOp :=
 match structOf P t with
 | some fs=>match isEq op,eqOffs P fs.toList with
  | some neg,some l=>if P.stoodInHeld t=false∧P.eqGuardType P.depth t=false then some (.eqS neg l x y) else none
  | _,_=>none
 | none=>match sliceOf P t with
  | some _=>match isEq op with
   | some neg=>if isNilC y then some (.isnil neg x) else none
   | none=>none
  | none=>some (.bin op x y)

def lowSliceP (P:Program)(t:TypeId)(x:Operand)(lo hi:Option Operand):Option AOp :=
 match arrAt P t with
 | some (n,e)=>(sizeAt P e).map fun sz=>.sliceP sz n x lo hi
 | none=>none

theorem Gsz {P:Program}{t:TypeId}{fs:Array Field}(h:structOf P t=some fs):P.underlying t=some (.struct fs):=by
 unfold structOf at h
 split at h
 ·rename_i fs' hu;injection h with h;subst h;exact hu
 ·cases h
theorem sliceOf_some {P:Program}{t e:TypeId}(h:sliceOf P t=some e):P.underlying t=some (.slice e):=by
 unfold sliceOf at h
 split at h
 ·rename_i fs' hu;injection h with h;subst h;exact hu
 ·cases h
theorem arrAt_some {P:Program}{t e:TypeId}{n:Nat}(h:arrAt P t=some (n,e)):P.underlying t=some (.array n e):=by
 unfold arrAt at h
 split at h
 ·rename_i n' e' hu'
  injection h with h
  injection h with h1 h2
  subst h1 h2
  exact hu'
 ·cases h
theorem isEq_some {op:BinOp}{neg:Bool}(h:isEq op=some neg):(op=.eql∧neg=false)∨(op=.neq∧neg=true):=by
 cases op<;>simp [isEq] at h<;>simp [h]
theorem isNilC_true {y:Operand}(h:isNilC y=true):y=.const (.slice none 0 0):=by
 unfold isNilC at h
 split at h
 ·rfl
 ·cases h
theorem A6z {P:Program}{t:TypeId}{x:Operand}{lo hi:Option Operand}{a:AOp}(h:lowSliceP P t x lo hi=some a):∃ n e sz,arrAt P t=some (n,e)∧sizeAt P e=some sz∧a=.sliceP sz n x lo hi:=by
 unfold lowSliceP at h
 split at h
 ·rename_i n e hu
  cases hs:sizeAt P e with
  | none=>simp [hs] at h
  | some sz=>simp [hs] at h;exact ⟨n,e,sz,hu,hs,h.symm⟩
 ·cases h

def lowOp (P:Program):Op→Option AOp
 | .move x|.assign x=>some (.mv x)
 | .pick c a b=>some (.pick c a b)
 | .alloc t=>(zeroCells P t).map .alloc
 | .box _ x=>some (.box x)
 | .makeFunc fn us vs=>some (.mkfn fn us.toList vs.toList)
 | .build t ps=>match zeroCells P t,P.underlying t with
  | some zs,some (.struct fields)=>match placesOf P fields with
   | some places=>(partsAt places ps.toList).map (.build zs)
   | none=>none
  | some zs,some (.array _ e)=>(sizeAt P e).map fun n=>.build zs (ps.toList.map fun p=>(p.1*n,n,p.2))
  | _,_=>none
 | .buildSlice t n ps=>match P.underlying t with
  | some (.slice e)=>match sizeAt P e,zeroCells P e with
   | some sz,some zs=>if zs.length=sz∧0<sz∧n*sz≤2 ^ 24 then some (.bslice sz zs ps.toList n) else none
   | _,_=>none
  | _=>none
 | .load t x=>match isAggB P t,sizeAt P t with
  | some true,some n=>some (.load true n x)
  | some false,some _=>some (.load false 1 x)
  | _,_=>none
 | .store t a v=>(sizeAt P t).map fun n=>.store n a v
 | .binOp op t x y _=>match P.underlying t with
  | some .bool=>some (.binB op x y)
  | _=>lowBin P op t x y
 | .unOp op _ x=>some (.un op x)
 | .convert src dst x=>match P.underlying src,P.underlying dst with
  | some _,some (.int k)=>some (.conv k x)
  | _,_=>none
 | .nilCheck x=>some (.nilck x)
 | .makeSlice t l c=>match P.underlying t with
  | some (.slice e)=>match P.info? e with
   | some i=>match i.zero with
    | some z=>if z.cells.size=i.size∧0<i.size∧i.bytes≤128 then some (.mkslice i.size z.cells.toList l c) else none
    | none=>none
   | none=>none
  | _=>none
 | .slice t x lo hi none=>match P.underlying t with
  | some (.slice e)=>(sizeAt P e).map fun n=>.slice n x lo hi
  | some .string=>some (.sliceS x lo hi)
  | _=>lowSliceP P t x lo hi
 | .slice t x lo (some hi) (some mx)=>match sliceAt' P t with
  | some e=>(sizeAt P e).map fun n=>.slice3 n x lo hi mx
  | none=>none
 | .fieldAddr s x f=>match P.underlying s with
  | some (.struct fields)=>match fields[f]? with
   | some fd=>match sizeAt P fd.type with
    | some n=>if n=0 then none else some (.fld fd.offset x)
    | none=>none
   | none=>none
  | _=>none
 | .field t x f=>match P.underlying t with
  | some (.struct fields)=>match fields[f]? with
   | some fd=>match isAggB P fd.type,sizeAt P fd.type with
    | some true,some n=>some (.fldv true fd.offset n x)
    | some false,some _=>some (.fldv false fd.offset 1 x)
    | _,_=>none
   | none=>none
  | _=>none
 | .indexAddr t x i=>match P.underlying t with
  | some (.slice e)=>(sizeAt P e).map fun n=>.idxA n x i
  | some (.array len e)=>(sizeAt P e).map fun n=>.idxP n len x i
  | _=>none
 | .index t x i=>match P.underlying t with
  | some .string=>some (.idxS x i)
  | _=>some (.raw (.index t x i))
 | .extract x i=>some (.extract x i)
 | .call c=>match lowCall P c with
  | some a=>some a
  | none=>some (.raw (.call c))
 | op=>some (.raw op)

theorem C7z {P:Program}{c:Call}{a:AOp}(h:lowOp P (.call c)=some a)(hn:∀ op,a≠.raw op):lowCall P c=some a:=by
 simp only [lowOp] at h
 split at h
 ·rename_i b hb;rw [hb];exact h
 ·simp only [Option.some.injEq] at h
  exact absurd h.symm (hn _)
def updO (H:Nat→Option (List AV)):Option (Nat×List AV)→Nat→Option (List AV)
 | none=>H
 | some (id,cs)=>upd H id (some cs)

def DefOk (E:Env)(M:Nat→Option Nat)(ds:List Deferred)(w:World):Prop :=
 ∃ Ds:List Nat,Ds.Nodup∧ds=Ds.map (fun D=>{ target:=.collected D,args:=#[] })∧∀ D∈Ds,E.w0.heap.size≤D∧w.heap[D]?=some (.deferred (some []))∧∀ id,M id≠some D

structure Aux (E:Env) (M:Nat→Option Nat) (a:Act) (w:World):Prop where
 defs:DefOk E M a.defers w
 still:∀ g o,E.frz g=some o→w.heap[g]?=some o∧∀ id,M id≠some g
 fixd:∀ t∈E.nt.fix,a.tmps.getD t undef=E.fixv t
 big:E.hsz≤w.heap.size

theorem Aux.keeps {E:Env}{M M':Nat→Option Nat}{H H':Nat→Option (List AV)}{a:Act}{w w':World}(h:Aux E M a w)(k:Keeps (E.C M H w) (E.C M' H' w')):Aux E M' a w':=by
 refine ⟨?_,fun g o hg=>?_,h.fixd,Nat.le_trans h.big k.sz⟩
 ·obtain ⟨Ds,h1,h2,h3⟩:=h.defs
  refine ⟨Ds,h1,h2,fun D hD=>?_⟩
  obtain ⟨a1,a2,a3⟩:=h3 D hD
  exact ⟨a1,(k.heap D (lt_of_heap a2) a3).trans a2,k.obj D (lt_of_heap a2) a3⟩
 ·obtain ⟨a2,a3⟩:=h.still g o hg
  exact ⟨(k.heap g (lt_of_heap a2) a3).trans a2,k.obj g (lt_of_heap a2) a3⟩
theorem Aux.less {E:Env}{M M':Nat→Option Nat}{a:Act}{w:World}(h:Aux E M a w)(hM:∀ id g,M' id=some g→∃ j,M j=some g):Aux E M' a w:=by
 refine ⟨?_,fun g o hg=>?_,h.fixd,h.big⟩
 ·obtain ⟨Ds,h1,h2,h3⟩:=h.defs
  refine ⟨Ds,h1,h2,fun D hD=>?_⟩
  obtain ⟨a1,a2,a3⟩:=h3 D hD
  exact ⟨a1,a2,fun id hid=>let ⟨j,hj⟩:=hM id D hid;a3 j hj⟩
 ·obtain ⟨a2,a3⟩:=h.still g o hg
  exact ⟨a2,fun id hid=>let ⟨j,hj⟩:=hM id g hid;a3 j hj⟩

structure St (E:Env) (M:Nat→Option Nat) (s:S) (a:Act) (w:World):Prop where
 defers:Aux E M a w
 size:a.tmps.size=E.nt.n
 slots:∀ t,Den (E.C M s.H w) (s.σ t) (a.tmps.getD t undef)
 hok:HOK (E.C M s.H w)
 old:Old E M w

theorem D0z {g:Nat}{l:List Value}:∀ {t:List (Nat×List Value)},t.lookup g=some l→(g,l)∈t
 | [],h=>by cases h
 | (k,x)::t,h=>by
  simp only [List.lookup] at h
  split at h
  ·rename_i hk
   injection h with h
   rw [beq_iff_eq] at hk
   subst hk h
   exact List.mem_cons_self
  ·exact List.mem_cons_of_mem _ (D0z h)
theorem St.ev {E:Env}{M:Nat→Option Nat}{s:S}{a:Act}{w:World}(h:St E M s a w)(x:Operand):Den (E.C M s.H w) (s.ev x) (a.eval x):=by
 cases x with
 | tmp t=>exact h.slots t
 | const v=>exact den_ofVal _ v
 | global g =>
  show Den _ (globAV g) (.pointer (some ⟨g,0,none⟩))
  unfold globAV
  cases hl:(default:GlobT).tbl.lookup g with
  | none=>simp [Den]
  | some l =>
   obtain ⟨⟨e,fz,h1⟩,h2,h3⟩:=h.old.glob _ (D0z hl)
   simp only [Den]
   refine ⟨g,0,_,e,fz,rfl,h1,⟨h2,h3,fun h=>by cases h⟩,?_⟩
   simp only [List.drop_zero,gcells]
   exact Bcz _ l
 | func f=>simp [S.ev,Act.eval,Den]

def Owed (P:Program)(E:Env)(M:Nat→Option Nat)(s:S)(a:Act)(w:World)(o:Oper)(r:AV×Option (Nat×List AV)):Prop :=
 ∃ M' w' v,Tr E M s.H w M' (updO s.H r.2) w'∧((execOp a.eval o).run P w=.ok (.value v) w'∨((execOp a.eval o).run P w=.ok .skip w'∧v=undef))∧Den (E.C M' (updO s.H r.2) w') r.1 v

section
variable {P:Program} {E:Env} {M:Nat→Option Nat} {s:S} {a:Act} {w:World} {o:Oper}

theorem Tr.refl (h:St E M s a w):Tr E M s.H w M s.H w:=Tr.same h.hok h.old rfl rfl rfl rfl

theorem Anz (h:St E M s a w){v':AV}{v:Value}(hr:(execOp a.eval o).run P w=.ok (.value v) w)(hd:Den (E.C M s.H w) v' v):Owed P E M s a w o (v',none) :=
 ⟨M,w,v,Tr.refl h,.inl hr,hd⟩

theorem Dcz {C:Ctx}{x:AV}{v:Value}{cs:List AV}(h:Den C x v)(hc:x.cells=some cs):v.cells.size=cs.length∧DenP C cs v.cells.toList∧∀ u∈v.cells.toList,u.oneCell'=true:=by
 have one:∀ y:AV,y=x→y.isCell=true→cs=[y]→v.cells.size=cs.length∧DenP C cs v.cells.toList∧∀ u∈v.cells.toList,u.oneCell'=true:=by
  rintro y rfl hy rfl
  have h1:=Den.oneCell h hy
  have hv:v.cells=#[v]:=by cases v<;>simp_all [Value.cells,Value.oneCell']
  rw [hv]
  simp [DenP,h,h1]
 cases x
 case agg ds =>
  simp only [AV.cells] at hc
  split at hc
  ·rename_i hall
   injection hc with hc
   subst hc
   simp only [Den] at h
   obtain ⟨vs,rfl,h2,h3⟩:=h
   refine ⟨h2,h3,fun u hu=>?_⟩
   obtain ⟨j,hj,rfl⟩:=List.getElem_of_mem hu
   have hj':j<ds.length:=by simpa [Value.cells,h2] using hj
   obtain ⟨v,hv,hd⟩:=(Axz.1 h3) j ds[j] (List.getElem?_eq_getElem hj')
   have:v=(Value.agg vs).cells.toList[j]:=by
    have h4:vs.toList[j]?=some v:=hv
    rw [List.getElem?_eq_getElem (by simpa [Value.cells] using hj)] at h4
    injection h4 with h4
    exact h4.symm
   rw [← this]
   exact Den.oneCell hd (by simpa using List.all_eq_true.1 hall ds[j] (List.getElem_mem hj'))
  ·cases hc
 all_goals
  simp only [AV.cells] at hc
  split at hc
  ·rename_i hy
   injection hc with hc
   exact one _ rfl hy hc.symm
  ·cases hc

theorem setRange_length:∀ (l:List AV) (cs:List AV) (off:Nat),(setRange cs off l).length=cs.length
 | [],_,_=>rfl
 | c::r,cs,off=>by rw [setRange,setRange_length r];simp

theorem Eiz:∀ (l:List AV) (cs:List AV) (off j:Nat),off+l.length≤cs.length →
  (setRange cs off l)[j]?=if off≤j∧j<off+l.length then l[j-off]? else cs[j]?
 | [],cs,off,j,_=>by simp [setRange];omega
 | c::r,cs,off,j,h=>by
  simp only [List.length_cons] at h
  rw [setRange,Eiz r _ _ _ (by simp;omega)]
  by_cases h1:off=j
  ·subst h1
   have:¬ (off+1≤off∧off<off+1+r.length):=by omega
   rw [if_neg this,if_pos (by simp),List.getElem?_set]
   simp;omega
  ·by_cases h2:off+1≤j∧j<off+1+r.length
   ·rw [if_pos h2,if_pos (by simp;omega)]
    have:j-off=(j-(off+1))+1:=by omega
    rw [this,List.getElem?_cons_succ]
   ·rw [if_neg h2,if_neg (by simp;omega),List.getElem?_set,if_neg h1]

theorem Cgz {C:Ctx}{cs l:List AV}{vs us:List Value}{off:Nat}(h:DenP C cs vs)(hl:DenP C l us)(hu:us.length=l.length)(ho:off+l.length≤cs.length) :
  DenP C (setRange cs off l) (vs.take off++us++vs.drop (off+l.length)):=by
 have hv:=A7z h
 rw [Axz] at *
 intro j b hb
 rw [Eiz _ _ _ _ ho] at hb
 have ht:(vs.take off).length=off:=by simp;omega
 split at hb
 ·rename_i hj
  obtain ⟨v,hv',hd⟩:=hl (j-off) b hb
  refine ⟨v,?_,hd⟩
  rw [List.getElem?_append_left (by simp;omega),List.getElem?_append_right (by omega),ht]
  exact hv'
 ·rename_i hj
  obtain ⟨v,hv',hd⟩:=h j b hb
  refine ⟨v,?_,hd⟩
  by_cases hlt:j<off
  ·rw [List.getElem?_append_left (by simp;omega),List.getElem?_append_left (by omega),List.getElem?_take,if_pos hlt]
   exact hv'
  ·rw [List.getElem?_append_right (by simp;omega),List.getElem?_drop]
   have:off+l.length+(j-(List.take off vs++us).length)=j:=by simp;omega
   rw [this]
   exact hv'

theorem den_mkAV {C:Ctx}{agg:Bool}{cs:List AV}{vs:List Value}{x:AV}(h:mkAV agg cs=some x)(hd:DenP C cs vs)(hl:vs.length=cs.length) :
  (agg=true∧Den C x (.agg vs.toArray))∨(agg=false∧∃ v,vs=[v]∧Den C x v):=by
 unfold mkAV at h
 cases agg with
 | true =>
  simp at h
  subst h
  exact .inl ⟨rfl,by simp only [Den];exact ⟨vs.toArray,rfl,by simpa using hl,by simpa using hd⟩⟩
 | false =>
  refine .inr ⟨rfl,?_⟩
  match cs,h with
  | [c],h =>
   simp at h
   subst h
   match vs,hl with
   | [v],_ =>
    simp only [DenP] at hd
    exact ⟨v,rfl,hd.1⟩

end
end Vw
namespace Vw
open Go
variable [Inhabited GlobT]

section
variable {P:Program} {E:Env} {M:Nat→Option Nat} {s:S} {a:Act} {w:World} {o:Oper} {pin d:Nat} {r:AV×Option (Nat×List AV)}

theorem Elz {t:TypeId}{n:Nat}(h:sizeAt P t=some n):∃ i,P.info? t=some i∧i.size=n:=by
 unfold sizeAt at h
 cases hi:P.info? t with
 | none=>simp [hi] at h
 | some i=>exact ⟨i,rfl,by simpa [hi] using h⟩

theorem A3z {t:TypeId}{n:Nat}(h:sizeAt P t=some n)(w:World):(Go.sizeOf t).run P w=.ok n w:=by
 obtain ⟨i,hi,hn⟩:=Elz h
 simp [Go.sizeOf,typeInfo,hi,hn]

theorem B4z {t:TypeId}{b:Bool}(h:isAggB P t=some b)(w:World):(isAgg t).run P w=.ok b w:=by
 unfold isAggB at h
 cases hu:P.underlying t with
 | none=>simp [hu] at h
 | some d=>cases d<;>simp [hu] at h<;>subst h<;>simp [isAgg,run_underlying hu]

theorem sound_mv (h:St E M s a w){x:Operand}(ho:o.op=.move x∨o.op=.assign x)(hr:arun s pin d (.mv x)=some r):Owed P E M s a w o r:=by
 simp only [arun,Option.some.injEq] at hr
 subst hr
 refine Anz h (v:=a.eval x) ?_ (h.ev x)
 rcases ho with ho|ho<;>simp [execOp,ho]

theorem sound_pick (h:St E M s a w){c x y:Operand}(ho:o.op=.pick c x y)(hr:arun s pin d (.pick c x y)=some r):Owed P E M s a w o r:=by
 have hc:=h.ev c
 have hx:=h.ev x
 have hy:=h.ev y
 simp only [arun] at hr
 split at hr
 ·rename_i t ht
  rw [ht] at hc
  simp only [Den] at hc
  have hrun:(execOp a.eval o).run P w=.ok (.value (if t then a.eval x else a.eval y)) w:=by simp [execOp,ho,hc,asBool]
  split at hr
  ·rename_i p q hp hq
   simp only [Option.some.injEq] at hr
   subst hr
   rw [hp] at hx;rw [hq] at hy
   simp only [Den] at hx hy
   refine Anz h hrun ?_
   simp only [Den,hx,hy]
   cases t<;>rfl
  ·simp only [Option.some.injEq] at hr
   subst hr
   refine Anz h hrun ?_
   cases t
   ·exact hy
   ·exact hx
 ·cases hr

theorem load_res (hk:HOK (E.C M s.H w)){t:TypeId}{agg:Bool}{n:Nat}(hty:(agg=true∧isAggB P t=some true∧sizeAt P t=some n)∨(agg=false∧isAggB P t=some false∧n=1)){xv v':AV}{v:Value}
  (hx:Den (E.C M s.H w) xv v) (hr:loadAV s.H agg n xv=some v'):∃ g off u,v=.pointer (some ⟨g,off,none⟩)∧(loadVar t ⟨g,off,none⟩).run P w=.ok u w∧Den (E.C M s.H w) v' u:=by
 have core:∀ (g off:Nat) (cur:Array Value) (e:TypeId) (fz:Nat×Nat) (cs:List AV),v=.pointer (some ⟨g,off,none⟩)→w.heap[g]?=some (.cells cur e fz)→DenP (E.C M s.H w) cs (cur.toList.drop off) →
   n≤cs.length→mkAV agg (cs.take n)=some v'→∃ g off u,v=.pointer (some ⟨g,off,none⟩)∧(loadVar t ⟨g,off,none⟩).run P w=.ok u w∧Den (E.C M s.H w) v' u:=by
  intro g off cur e fz cs hev hg hd hn hm
  have hd':=B6z hd n
  have hlen:(List.take n (cur.toList.drop off)).length=(cs.take n).length:=by
   have:=A7z hd
   simp only [List.length_take]
   omega
  have hcell:∀ j v,(List.take n (cur.toList.drop off))[j]?=some v→w.cell? ((⟨g,off,none⟩:Addr).add j)=some v:=by
   intro j v hv
   rw [Addr.add_lit]
   rw [List.getElem?_take] at hv
   split at hv
   ·rw [List.getElem?_drop] at hv
    simpa [World.cell?,hg] using hv
   ·cases hv
  have hnl:(List.take n (cur.toList.drop off)).length=n:=by rw [hlen];simp;omega
  rcases den_mkAV hm hd' hlen with ⟨ha,hv⟩|⟨ha,u,hvs,hv⟩
  ·rcases hty with ⟨_,h1,h2⟩|⟨hf,_⟩
   ·have hrow:=run_loadCells_list (P:=P) w ⟨g,off,none⟩ _ hcell
    rw [hnl] at hrow
    exact ⟨g,off,_,hev,by simp [loadVar,B4z h1,A3z h2,hrow],hv⟩
   ·rw [hf] at ha;cases ha
  ·rcases hty with ⟨hf,_⟩|⟨_,h1,h2⟩
   ·rw [hf] at ha;cases ha
   ·have h0:=hcell 0 u (by rw [hvs];rfl)
    simp only [Addr.add_zero'] at h0
    exact ⟨g,off,u,hev,by simp [loadVar,B4z h1,h0],hv⟩
 unfold loadAV at hr
 split at hr
 ·rename_i id len off
  simp only [Den] at hx
  obtain ⟨_,cs,hH,_,hsp,hval⟩:=hx
  have hH':s.H id=some cs:=hH
  simp only [hH'] at hr
  split at hr
  ·rename_i hc
   obtain ⟨g,hMg,hv⟩:=hval hc.1
   rcases hk.has id cs hH hsp with ⟨hnone,_⟩|⟨g',cur,e,hM',hg',hd⟩
   ·rw [hMg] at hnone;cases hnone
   ·rw [hMg] at hM'
    injection hM' with hM'
    subst hM'
    exact core g off cur e (0,0) (cs.drop off) hv hg' (Boz hd off) (by simp;omega) hr
  ·cases hr
 ·rename_i fr cs off
  simp only [Den] at hx
  obtain ⟨g,o',cur,e,fz,hv,hg,_,hd⟩:=hx
  split at hr
  ·rename_i hc
   have hd2:=Boz hd off
   rw [List.drop_drop] at hd2
   exact core g (o'+off) cur e fz (cs.drop off) hv hg hd2 (by simp;omega) hr
  ·cases hr
 ·cases hr

theorem low_load {t:TypeId}{agg:Bool}{n:Nat}{x:Operand}(hl:lowOp P (.load t x)=some (.load agg n x)):(agg=true∧isAggB P t=some true∧sizeAt P t=some n)∨(agg=false∧isAggB P t=some false∧n=1):=by
 simp only [lowOp] at hl
 split at hl
 ·rename_i n' h1 h2
  simp only [Option.some.injEq,AOp.load.injEq,and_true] at hl
  obtain ⟨rfl,rfl⟩:=hl
  exact .inl ⟨rfl,h1,h2⟩
 ·rename_i n' h1 h2
  simp only [Option.some.injEq,AOp.load.injEq,and_true] at hl
  obtain ⟨rfl,rfl⟩:=hl
  exact .inr ⟨rfl,h1,rfl⟩
 ·cases hl

theorem F6z (h:St E M s a w){t:TypeId}{agg:Bool}{n:Nat}{x:Operand}(ho:o.op=.load t x)(hl:lowOp P (.load t x)=some (.load agg n x))(hr:arun s pin d (.load agg n x)=some r):Owed P E M s a w o r:=by
 simp only [arun,pureR] at hr
 cases hr1:loadAV s.H agg n (s.ev x) with
 | none=>simp [hr1] at hr
 | some v' =>
  simp only [hr1,Option.map_some,Option.some.injEq] at hr
  subst hr
  obtain ⟨g,off,u,h1,h2,h3⟩:=load_res h.hok (low_load hl) (h.ev x) hr1
  exact Anz h (v:=u) (by simp [execOp,ho,Instr.loadAt,h1,Instr.sureAddr,h2]) h3

theorem sound_store (h:St E M s a w){t:TypeId}{n:Nat}{x v:Operand}(ho:o.op=.store t x v)(hl:lowOp P (.store t x v)=some (.store n x v))(hr:arun s pin d (.store n x v)=some r):Owed P E M s a w o r:=by
 have hx:=h.ev x
 have hv:=h.ev v
 simp only [lowOp] at hl
 have hn:sizeAt P t=some n:=by
  cases hs:sizeAt P t with
  | none=>simp [hs] at hl
  | some m=>simp [hs] at hl;rw [hl]
 simp only [arun] at hr
 split at hr
 ·rename_i id len off hx'
  rw [hx'] at hx
  simp only [Den] at hx
  obtain ⟨_,cs,hH,_,hsp,hval⟩:=hx
  have hH':s.H id=some cs:=hH
  split at hr
  ·rename_i cs2 l hH2 hl2
   have:cs=cs2:=by rw [hH'] at hH2;injection hH2
   subst this
   split at hr
   ·rename_i hc
    obtain ⟨hlen,hoff,hll⟩:=hc
    simp only [Option.some.injEq] at hr
    subst hr
    obtain ⟨g,hMg,hev⟩:=hval hlen
    obtain ⟨c1,c2,c3⟩:=Dcz hv hl2
    rcases h.hok.has id cs hH hsp with ⟨hnone,_⟩|⟨g',cur,e,hM',hg',hd⟩
    ·rw [hMg] at hnone;cases hnone
    ·rw [hMg] at hM'
     injection hM' with hM'
     subst hM'
     have hcur:=A7z hd
     have hg'':w.heap[g]?=some (.cells cur e (0,0)):=hg'
     have hsz:cur.toList.length=cur.size:=by simp
     have hst:=run_storeCells_at P g off e (a.eval v).cells.toList 0 cur w hg'' (by simp;omega) c3
     simp only [Nat.add_zero,Array.length_toList] at hst
     have hrun:(execOp a.eval o).run P w=.ok .skip (w.setRow g (cur.toList.take off++(a.eval v).cells.toList++cur.toList.drop (off+(a.eval v).cells.size)).toArray):=by
      simp [execOp,ho,Instr.storeAt,hev,Instr.sureAddr,storeVar,A3z hn,c1,hll,hst]
     refine ⟨M,_,undef,?_,.inr ⟨hrun,rfl⟩,by simp [Den]⟩
     refine Tr.set h.hok h.old hH hsp hMg (setRange_length _ _ _) (setRow_heap w g cur _ e _ hg'') (fun cur2 e2 hc2=>?_) (fun k hk=>setRow_other w g k _ hk) (by simp) rfl rfl rfl ?_
     ·rw [hg''] at hc2
      injection hc2 with hc2
      injection hc2 with hc2
      subst hc2
      simp;omega
     ·have:=Cgz (off:=off) hd c2 (by simpa using c1) (by omega)
      simpa [c1] using this
   ·cases hr
  ·cases hr
 ·cases hr

theorem sound_alloc (h:St E M s a w){t:TypeId}{zs:List Value}(ho:o.op=.alloc t)(hl:lowOp P (.alloc t)=some (.alloc zs))(hr:arun s E.pin d (.alloc zs)=some r):Owed P E M s a w o r:=by
 simp only [lowOp] at hl
 cases hz:zeroCells P t with
 | none=>simp [hz] at hl
 | some zs' =>
  simp [hz] at hl
  subst hl
  unfold zeroCells at hz
  split at hz
  ·rename_i i hi
   split at hz
   ·rename_i z hz'
    simp only [Option.some.injEq] at hz
    subst hz
    simp only [arun] at hr
    split at hr
    ·rename_i hc
     simp only [Option.some.injEq] at hr
     subst hr
     have hH:s.H (16*d)=none:=by simpa using hc.1
     have hrun:(execOp a.eval o).run P w=.ok (.value (.pointer (some ⟨w.heap.size,0,none⟩))) (w.alloc (.cells z.cells t)):=by
      simp [execOp,ho,Instr.alloc,zeroValue,typeInfo,hi,hz',newVar,newRow]
     refine ⟨upd M (16*d) (some w.heap.size),w.alloc (.cells z.cells t),_,Tr.alloc h.hok h.old hH hc.2 (e:=t) (vs:=z.cells) rfl rfl rfl rfl (Bcz _ _),.inl hrun,?_⟩
     simp only [Den,updO]
     exact ⟨rfl,z.cells.toList.map ofCell,Aqz _ _ _,by simp,A2z (Bcz (E.C M s.H w) _),fun _=>⟨_,Aqz _ _ _,rfl⟩⟩
    ·cases hr
   ·cases hz
  ·cases hz

theorem sound_box (h:St E M s a w){t:TypeId}{x:Operand}(ho:o.op=.box t x)(hr:arun s E.pin d (.box x)=some r):Owed P E M s a w o r:=by
 have hx:=h.ev x
 simp only [arun] at hr
 split at hr
 ·rename_i cs hcs
  split at hr
  ·rename_i hc
   simp only [Option.some.injEq] at hr
   subst hr
   have hH:s.H (16*d)=none:=by simpa using hc.1
   obtain ⟨c1,c2,c3⟩:=Dcz hx hcs
   have hrun:(execOp a.eval o).run P w=.ok (.value (.pointer (some ⟨w.heap.size,0,none⟩))) (w.alloc (.cells (a.eval x).cells t)):=by
    simp [execOp,ho,Instr.box,newVar,newRow]
   refine ⟨upd M (16*d) (some w.heap.size),w.alloc (.cells (a.eval x).cells t),_,Tr.alloc h.hok h.old hH hc.2 (e:=t) (vs:=(a.eval x).cells) rfl rfl rfl rfl c2,.inl hrun,?_⟩
   simp only [Den,updO]
   exact ⟨rfl,cs,Aqz _ _ _,by simp,A2z c2,fun _=>⟨_,Aqz _ _ _,rfl⟩⟩
  ·split at hr
   ·simp only [Option.some.injEq] at hr
    subst hr
    obtain ⟨c1,c2,c3⟩:=Dcz hx hcs
    have hrun:(execOp a.eval o).run P w=.ok (.value (.pointer (some ⟨w.heap.size,0,none⟩))) (w.alloc (.cells (a.eval x).cells t)):=by
     simp [execOp,ho,Instr.box,newVar,newRow]
    have hh:(w.alloc (.cells (a.eval x).cells t)).heap=w.heap.push (.cells (a.eval x).cells t):=rfl
    have hnew:(w.alloc (.cells (a.eval x).cells t)).heap[w.heap.size]?=some (.cells (a.eval x).cells t (0,0)):=by rw [hh,Array.getElem?_push_size]
    have tr:Tr E M s.H w M s.H (w.alloc (.cells (a.eval x).cells t)):=Tr.ext h.hok h.old (fun g hg=>by rw [hh,Array.getElem?_push,if_neg (by omega)]) (by rw [hh,Array.size_push];omega) rfl rfl rfl
    refine ⟨M,w.alloc (.cells (a.eval x).cells t),_,tr,.inl hrun,?_⟩
    simp only [Den,updO]
    refine ⟨w.heap.size,0,(a.eval x).cells,t,(0,0),rfl,hnew,⟨fun id hid=>?_,fun hb=>?_,fun _ ha=>?_⟩,?_⟩
    ·have:=h.hok.lt hid
     exact absurd this (Nat.lt_irrefl _)
    ·have:=E.hB _ hb
     have:=h.old.size
     omega
    ·have:=E.hA _ ha
     have:=h.old.size
     omega
    ·rw [List.drop_zero]
     exact DenP.keeps tr.keeps c2
   ·cases hr
 ·cases hr

theorem sound_un (h:St E M s a w){op:UnOp}{t:TypeId}{x:Operand}(ho:o.op=.unOp op t x)(hr:arun s pin d (.un op x)=some r):Owed P E M s a w o r:=by
 have hx:=h.ev x
 simp only [arun,pureR] at hr
 cases hs:s.ev x<;>rw [hs] at hx hr<;>simp only [aun,Option.map_none,reduceCtorEq] at hr
 ·rename_i k n
  cases op<;>simp at hr
  subst hr
  simp only [Den] at hx
  exact Anz h (v:=.int k (k.wrap (0-n))) (by simp [execOp,ho,hx,Op.unary,Op.intArith]) (by simp [Den])
 ·rename_i b
  cases op<;>simp at hr
  subst hr
  simp only [Den] at hx
  exact Anz h (v:=.bool (!b)) (by simp [execOp,ho,hx,Op.unary]) (by simp [Den])

theorem sound_conv (h:St E M s a w){src dst:TypeId}{k:IntKind}{x:Operand}(ho:o.op=.convert src dst x)(hl:lowOp P (.convert src dst x)=some (.conv k x))(hr:arun s pin d (.conv k x)=some r):Owed P E M s a w o r:=by
 have hx:=h.ev x
 simp only [lowOp] at hl
 split at hl
 ·rename_i ds k' h1 h2
  simp only [Option.some.injEq,AOp.conv.injEq,and_true] at hl
  subst hl
  simp only [arun] at hr
  split at hr
  ·rename_i k2 n hx'
   simp only [Option.some.injEq] at hr
   subst hr
   rw [hx'] at hx
   simp only [Den] at hx
   exact Anz h (v:=.int k' (k'.wrap n)) (by simp [execOp,ho,hx,convert,run_underlying h1,run_underlying h2,Conv.intToInt]) (by simp [Den])
  ·cases hr
 ·cases hl

theorem sound_nilck (h:St E M s a w){x:Operand}(ho:o.op=.nilCheck x)(hr:arun s pin d (.nilck x)=some r):Owed P E M s a w o r:=by
 have hx:=h.ev x
 simp only [arun] at hr
 split at hr
 ·rename_i id len off hx'
  rw [hx'] at hx
  have hx2:=hx
  simp only [Den] at hx
  obtain ⟨_,cs,hH,_,hsp,hval⟩:=hx
  have hH':s.H id=some cs:=hH
  simp only [hH'] at hr
  split at hr
  ·rename_i hc
   simp only [Option.some.injEq] at hr
   subst hr
   obtain ⟨g,hMg,hv⟩:=hval hc
   refine Anz h (v:=a.eval x) (by simp [execOp,ho,hv]) hx2
  ·cases hr
 ·rename_i fr cs off hx'
  rw [hx'] at hx
  have hx2:=hx
  simp only [Den] at hx
  simp only [Option.some.injEq] at hr
  subst hr
  obtain ⟨g,o',cur,e,fz,hv,hg,_,hd⟩:=hx
  refine Anz h (v:=a.eval x) (by simp [execOp,ho,hv]) hx2
 ·cases hr

theorem sound_fld (h:St E M s a w){t:TypeId}{f off:Nat}{x:Operand}(ho:o.op=.fieldAddr t x f)(hl:lowOp P (.fieldAddr t x f)=some (.fld off x))(hr:arun s pin d (.fld off x)=some r):Owed P E M s a w o r:=by
 have hx:=h.ev x
 simp only [lowOp] at hl
 split at hl
 ·rename_i fields hu
  split at hl
  ·rename_i fd hfd
   split at hl
   ·rename_i n hn
    split at hl
    ·cases hl
    ·rename_i hn0
     simp only [Option.some.injEq,AOp.fld.injEq,and_true] at hl
     subst hl
     have run:∀ g o',a.eval x=.pointer (some ⟨g,o',none⟩)→(execOp a.eval o).run P w=.ok (.value (.pointer (some ⟨g,o'+fd.offset,none⟩))) w:=by
      intro g o' hv
      simp [execOp,ho,Instr.fieldAt,run_underlying hu,hfd,hv,Instr.sureAddr,fieldPlace,A3z hn,hn0,Addr.add_lit]
     simp only [arun] at hr
     split at hr
     ·rename_i id len o' hx'
      rw [hx'] at hx
      simp only [Den] at hx
      obtain ⟨h0,cs,hH,hle,hsp,hval⟩:=hx
      have hH':s.H id=some cs:=hH
      simp only [hH'] at hr
      split at hr
      ·rename_i hc
       simp only [Option.some.injEq] at hr
       subst hr
       obtain ⟨g,hMg,hv⟩:=hval hc
       refine Anz h (run g o' hv) ?_
       simp only [Den]
       exact ⟨rfl,cs,hH,hle,hsp,fun _=>⟨g,hMg,rfl⟩⟩
      ·cases hr
     ·rename_i fr cs o' hx'
      simp only [Option.some.injEq] at hr
      subst hr
      rw [hx'] at hx
      simp only [Den] at hx
      obtain ⟨g,o2,cur,e,fz,hv,hg,hok,hd⟩:=hx
      refine Anz h (run g _ hv) ?_
      simp only [Den]
      exact ⟨g,o2,cur,e,fz,by rw [Nat.add_assoc],hg,hok,hd⟩
     ·cases hr
   ·cases hl
  ·cases hl
 ·cases hl

end
end Vw
namespace Vw
open Go
variable [Inhabited GlobT]

section
variable {P:Program} {E:Env} {M:Nat→Option Nat} {s:S} {a:Act} {w:World} {o:Oper} {pin d:Nat} {r:AV×Option (Nat×List AV)}

theorem Ewz {op:BinOp}{t:TypeId}{x y:Operand}{ta:TypeId}{u v:Value}(ho:o.op=.binOp op t x y ta)(hx:a.eval x=u)(hg:eqGuard op t x y u (a.eval y)=pure ())(hy:a.eval y=v)
  {z:Value} (hb:(binOp op t u v).run P w=.ok z w):(execOp a.eval o).run P w=.ok (.value z) w:=by
 subst hx hy
 simp [execOp,ho,hg,hb]

theorem sound_bin (h:St E M s a w){op:BinOp}{t ta:TypeId}{x y:Operand}(ho:o.op=.binOp op t x y ta)(hr:arun s pin d (.bin op x y)=some r):Owed P E M s a w o r:=by
 have hx:=h.ev x
 have hy:=h.ev y
 simp only [arun,pureR] at hr
 cases hr1:abin op (s.ev x) (s.ev y) with
 | none=>simp [hr1] at hr
 | some v' =>
  simp only [hr1,Option.map_some,Option.some.injEq] at hr
  subst hr
  unfold abin at hr1
  split at hr1
  ·rename_i k p k' q hxv hyv
   rw [hxv] at hx
   rw [hyv] at hy
   simp only [Den] at hx hy
   split at hr1
   ·rename_i hkk
    subst hkk
    have go:∀ z,(binOp op t (.int k p) (.int k q)).run P w=.ok z w→Den (E.C M s.H w) v' z→Owed P E M s a w o (v',none):=fun z hz hd=>Anz h (Ewz ho hx (eqGuard_at_int _ _ _ _ _ _ _) hy hz) hd
    cases op<;>simp only [Option.some.injEq,reduceCtorEq] at hr1
    case quo =>
     split at hr1
     ·cases hr1
     ·rename_i hq
      simp only [Option.some.injEq] at hr1
      subst hr1
      exact go _ (by simp only [binOp_quo,Op.intDiv,hq,if_false];rfl) (by simp [Den])
    case shr =>
     split at hr1
     ·rename_i hq
      simp only [Option.some.injEq] at hr1
      subst hr1
      exact go _ (by simp only [binOp,Op.shift];rw [if_neg (by omega)];rfl) (by simp [Den])
     ·cases hr1
    case rem =>
     split at hr1
     ·cases hr1
     ·rename_i hq
      simp only [Option.some.injEq] at hr1
      subst hr1
      exact go _ (by simp only [binOp_rem,Op.intDiv,hq,if_false];rfl) (by simp [Den])
    all_goals
     subst hr1
     exact go _ (by first|(simp only [binOp_add,binOp_sub,binOp_mul,binOp_and,binOp_or,binOp_xor,binOp_andNot,intBits_and,intBits_or,intBits_xor,intBits_andNot,Op.intArith,binOp_eql,binOp_neq,binOp_lss,binOp_leq,binOp_gtr,binOp_geq];rfl)) (by simp [Den])
   ·cases hr1
  ·rename_i p q hxv hyv
   rw [hxv] at hx
   rw [hyv] at hy
   simp only [Den] at hx hy
   have go:∀ z,(binOp op t (.string p) (.string q)).run P w=.ok z w→Den (E.C M s.H w) v' z→Owed P E M s a w o (v',none):=fun z hz hd=>Anz h (Ewz ho hx (eqGuard_at_string _ _ _ _ _ _) hy hz) hd
   cases op<;>simp only [Option.some.injEq,reduceCtorEq] at hr1
   case add =>
    split at hr1
    ·rename_i hs
     simp only [Option.some.injEq] at hr1
     subst hr1
     refine go (.string (p++q)) ?_ (by simp [Den])
     simp only [binOp,Op.stringOp]
     rw [if_neg (by simp only [IntKind.max_i64];omega)]
     rfl
    ·cases hr1
   all_goals
    subst hr1
    exact go _ (by simp only [binOp,Op.stringOp];rfl) (by simp [Den])
  ·cases hr1

theorem sound_binB (h:St E M s a w){op:BinOp}{t ta:TypeId}{x y:Operand}(ho:o.op=.binOp op t x y ta)(hu:P.underlying t=some .bool)(hr:arun s pin d (.binB op x y)=some r):Owed P E M s a w o r:=by
 have hx:=h.ev x
 have hy:=h.ev y
 simp only [arun,pureR] at hr
 cases hr1:abinB op (s.ev x) (s.ev y) with
 | none=>simp [hr1] at hr
 | some v' =>
  simp only [hr1,Option.map_some,Option.some.injEq] at hr
  subst hr
  unfold abinB at hr1
  split at hr1
  ·rename_i p q hxv hyv
   rw [hxv] at hx
   rw [hyv] at hy
   simp only [Den] at hx hy
   have e1:=run_eql_bool (P:=P) w t p q hu
   cases op<;>simp only [Option.some.injEq,reduceCtorEq] at hr1
   ·subst hr1
    exact Anz h (Ewz ho hx (eqGuard_at_bool _ _ _ _ _ _) hy e1) (by simp [Den])
   ·subst hr1
    refine Anz h (Ewz ho hx (eqGuard_at_bool _ _ _ _ _ _) hy (z:=.bool (!(p==q))) ?_) (by simp [Den])
    have e2:(Op.equalIn (9999+1) t (.bool p) (.bool q)).run P w=.ok (p==q) w:=run_equalIn_bool w 9999 t p q hu
    simp only [binOp,Op.equal,Op.maxDepth,Sem.run_bind]
    rw [e2]
    rfl
  ·cases hr1

theorem Cwz {C:Ctx}(w:World)(d:Nat):∀ {fs:List Field} {l:List (Nat×Option IntKind)} {cs ds:List AV} {us vs:Array Value} {b:Bool},eqOffs P fs=some l→DenP C cs us.toList→DenP C ds vs.toList→eqCells l cs ds=some b→(Op.eqFields (d+1) us vs fs).run P w=.ok b w
 | [],l,cs,ds,us,vs,b,hl,hc,hd,he=>by
  simp only [eqOffs,Option.some.injEq] at hl
  subst hl
  simp only [eqCells,Option.some.injEq] at he
  subst he
  simp [Op.eqFields]
 | f::r,l,cs,ds,us,vs,b,hl,hc,hd,he=>by
  simp only [eqOffs] at hl
  split at hl
  ·cases hl
  ·rename_i hname
   have atC:∀ {xs:List AV} {ys:Array Value} {x:AV},DenP C xs ys.toList→xs[f.offset]?=some x→∃ v,ys[f.offset]?=some v∧Den C x v:=fun h1 h2=>by
    obtain ⟨v,hv,hdv⟩:=(Axz.1 h1) _ _ h2
    exact ⟨v,by simpa using hv,hdv⟩
   have run1:∀ (z z':Value) (q:Bool),isAggB P f.type=some false→us[f.offset]?=some z→vs[f.offset]?=some z'→(Op.equalIn (d+1) f.type z z').run P w=.ok q w→(Op.eqFields (d+1) us vs (f::r)).run P w=if q then (Op.eqFields (d+1) us vs r).run P w else .ok false w:=by
    intro z z' q hagg h1 h2 h3
    have hp:∀ (xs:Array Value) (y:Value),xs[f.offset]?=some y→(part f.type xs f.offset).run P w=.ok y w:=fun xs y hy=>by simp [part,B4z hagg,hy]
    simp only [Op.eqFields,hname,ne_eq,not_false_eq_true,if_true,Sem.run_bind,hp us z h1,hp vs z' h2,Result.andThen_ok,h3]
    cases q<;>simp
   split at hl
   ·rename_i k l' hu hl'
    simp only [Option.some.injEq] at hl
    subst hl
    simp only [eqCells] at he
    split at he
    ·rename_i k1 p k2 q t h1 h2 h3
     split at he
     ·rename_i hk
      obtain ⟨rfl,rfl⟩:=hk
      simp only [Option.some.injEq] at he
      subst he
      obtain ⟨v,hv,hdv⟩:=atC hc h1
      obtain ⟨v',hv',hdv'⟩:=atC hd h2
      simp only [Den] at hdv hdv'
      subst hdv hdv'
      have ih:=Cwz w d hl' hc hd h3
      rw [run1 _ _ (p==q) (by simp [isAggB,hu]) hv hv' (run_equalIn_int w d f.type _ _ p q hu)]
      by_cases hpq:p=q
      ·subst hpq;simpa using ih
      ·have:(p==q)=false:=by simpa using hpq
       rw [this];simp [hpq]
     ·cases he
    ·cases he
   ·rename_i l' hu hl'
    simp only [Option.some.injEq] at hl
    subst hl
    simp only [eqCells] at he
    split at he
    ·rename_i p q t h1 h2 h3
     simp only [Option.some.injEq] at he
     subst he
     obtain ⟨v,hv,hdv⟩:=atC hc h1
     obtain ⟨v',hv',hdv'⟩:=atC hd h2
     simp only [Den] at hdv hdv'
     subst hdv hdv'
     have ih:=Cwz w d hl' hc hd h3
     rw [run1 _ _ (p==q) (by simp [isAggB,hu]) hv hv' (run_equalIn_bool' w d f.type p q hu)]
     cases hpq:(p==q)
     ·simp
     ·simpa using ih
    ·cases he
   ·cases hl

theorem sound_eqS (h:St E M s a w){op:BinOp}{t ta:TypeId}{fs:Array Field}{neg:Bool}{l:List (Nat×Option IntKind)}{x y:Operand}(ho:o.op=.binOp op t x y ta)(hu:P.underlying t=some (.struct fs))(hl:eqOffs P fs.toList=some l)
  (hop:(op=.eql∧neg=false)∨(op=.neq∧neg=true)) (hg:P.stoodInHeld t=false∧P.eqGuardType P.depth t=false) (hr:arun s pin d (.eqS neg l x y)=some r):Owed P E M s a w o r:=by
 have hx:=h.ev x
 have hy:=h.ev y
 simp only [arun] at hr
 split at hr
 ·rename_i cs ds hxv hyv
  rw [hxv] at hx
  rw [hyv] at hy
  simp only [Den] at hx hy
  obtain ⟨us,hux,_,hcs⟩:=hx
  obtain ⟨vs,hvy,_,hds⟩:=hy
  cases he:eqCells l cs ds with
  | none=>simp [he] at hr
  | some b =>
   simp only [he,Option.map_some,Option.some.injEq] at hr
   subst hr
   have hf:P.fieldsOf t=fs:=by simp [Program.fieldsOf,hu]
   have hrun:=Cwz w 9998 hl hcs hds he
   have heq:(Op.equalIn 10000 t (.agg us) (.agg vs)).run P w=.ok b w:=by
    rw [show (10000:Nat)=9999+1 from rfl,run_equalIn_struct w 9999 t us vs (by rw [hf];exact hu) hg.1,hf]
    exact hrun
   have hgd:=run_eqGuard_agg w op t x y us vs hg.2
   refine Anz h (v:=.bool (if neg then !b else b)) ?_ (by simp [Den])
   have hb:(binOp op t (.agg us) (.agg vs)).run P w=.ok (.bool (if neg then !b else b)) w:=by
    rcases hop with ⟨rfl,rfl⟩|⟨rfl,rfl⟩
    ·rw [run_eql_struct,heq];rfl
    ·rw [run_neq_struct,heq];rfl
   simp [execOp,ho,hux,hvy,hgd,hb]
 ·cases hr

theorem run_isnil (h:St E M s a w){op:BinOp}{t ta e:TypeId}{neg:Bool}{x:Operand}(ho:o.op=.binOp op t x (.const (.slice none 0 0)) ta)(hu:P.underlying t=some (.slice e))
  (hop:(op=.eql∧neg=false)∨(op=.neq∧neg=true)) {p:Option Addr} {n c:Nat} (hv:a.eval x=.slice p n c):(execOp a.eval o).run P w=.ok (.value (.bool (if neg then !p.isNone else p.isNone))) w:=by
 have heq0:∀ d,(Op.equalIn (d+1) t (.slice p n c) (.slice none 0 0)).run P w=.ok p.isNone w:=fun d=>by
  cases p<;>simp [Op.equalIn,run_underlying hu]
 have heq:(Op.equalIn (9999+1) t (.slice p n c) (.slice none 0 0)).run P w=.ok p.isNone w:=heq0 9999
 have hb:(binOp op t (.slice p n c) (.slice none 0 0)).run P w=.ok (.bool (if neg then !p.isNone else p.isNone)) w:=by
  rcases hop with ⟨rfl,rfl⟩|⟨rfl,rfl⟩
  ·simp only [binOp,Op.equal,Op.maxDepth,Sem.run_bind]
   rw [heq];rfl
  ·simp only [binOp,Op.equal,Op.maxDepth,Sem.run_bind]
   rw [heq];rfl
 refine Ewz ho hv ?_ rfl hb
 rcases hop with ⟨rfl,_⟩|⟨rfl,_⟩<;>rfl

theorem Gvz (h:St E M s a w){x:Operand}{i:Nat}(ho:o.op=.extract x i)(hr:arun s pin d (.extract x i)=some r):Owed P E M s a w o r:=by
 have hx:=h.ev x
 simp only [arun] at hr
 split at hr
 ·rename_i vs hxv
  rw [hxv] at hx
  simp only [Den] at hx
  obtain ⟨us,hv,hl,hd⟩:=hx
  unfold pureR at hr
  cases hi:vs[i]? with
  | none=>simp [hi] at hr
  | some b =>
   simp only [hi,Option.map_some,Option.some.injEq] at hr
   subst hr
   obtain ⟨u,hu,hd'⟩:=(Axz.1 hd) i b hi
   refine Anz h (v:=u) ?_ hd'
   have hu':us[i]?=some u:=by simpa using hu
   simp [execOp,ho,hv,Instr.extract,hu']
 ·cases hr

theorem sound_fldv (h:St E M s a w){t:TypeId}{f off n:Nat}{agg:Bool}{x:Operand}(ho:o.op=.field t x f)(hl:lowOp P (.field t x f)=some (.fldv agg off n x))(hr:arun s pin d (.fldv agg off n x)=some r):Owed P E M s a w o r:=by
 have hx:=h.ev x
 simp only [arun] at hr
 split at hr
 ·rename_i cs hxv
  rw [hxv] at hx
  simp only [Den] at hx
  obtain ⟨us,hv,hle,hd⟩:=hx
  split at hr
  ·rename_i hc
   unfold pureR at hr
   cases hm:mkAV agg ((cs.drop off).take n) with
   | none=>simp [hm] at hr
   | some v' =>
    simp only [hm,Option.map_some,Option.some.injEq] at hr
    subst hr
    have hd':=B6z (Boz hd off) n
    have hlen:(List.take n (us.toList.drop off)).length=(List.take n (cs.drop off)).length:=by simp;omega
    simp only [lowOp] at hl
    split at hl
    ·rename_i fields hu
     split at hl
     ·rename_i fd hfd
      split at hl
      ·rename_i n' h1 h2
       simp only [Option.some.injEq,AOp.fldv.injEq,and_true] at hl
       obtain ⟨ha,h3,h4⟩:=hl
       subst ha h3 h4
       rcases den_mkAV hm hd' hlen with ⟨_,hv'⟩|⟨ha,_⟩
       ·refine Anz h (v:=.agg (us.extract fd.offset (fd.offset+n'))) ?_ ?_
        ·simp [execOp,ho,Instr.field,run_underlying hu,hfd,hv,asAgg,part,B4z h1,A3z h2]
        ·have:(List.take n' (us.toList.drop fd.offset)).toArray=us.extract fd.offset (fd.offset+n'):=by
          apply Array.ext'
          simp [Array.toList_extract,List.extract]
         rw [← this]
         exact hv'
       ·cases ha
      ·rename_i n' h1 h2
       simp only [Option.some.injEq,AOp.fldv.injEq,and_true] at hl
       obtain ⟨ha,h3,h4⟩:=hl
       subst ha h3 h4
       rcases den_mkAV hm hd' hlen with ⟨ha,_⟩|⟨_,v,hvs,hv'⟩
       ·cases ha
       ·refine Anz h (v:=v) ?_ hv'
        have h0:us[fd.offset]?=some v:=by
         have:(List.take 1 (us.toList.drop fd.offset))[0]?=some v:=by rw [hvs];rfl
         rw [List.getElem?_take,if_pos (by omega),List.getElem?_drop] at this
         simpa using this
        simp [execOp,ho,Instr.field,run_underlying hu,hfd,hv,asAgg,part,B4z h1,h0]
      ·cases hl
     ·cases hl
    ·cases hl
  ·cases hr
 ·cases hr

theorem rd_spec {C:Ctx}(hk:HOK C){x:AV}{v:Value}{cs:List AV}{n:Nat}(h:Den C x v)(hr:rd C.H x=some (cs,n)) :
  (EmptyS v∧cs=[]∧n=0)∨∃ g o cap cur e fz,v=.slice (some ⟨g,o,none⟩) n cap∧C.w.heap[g]?=some (.cells cur e fz)∧n≤cap∧DenP C cs (cur.toList.drop o):=by
 unfold rd at hr
 split at hr
 ·simp only [Option.some.injEq,Prod.mk.injEq] at hr
  obtain ⟨rfl,rfl⟩:=hr
  simp only [Den] at h
  rcases h with h|⟨g,o,cap,cur,e,fz,a,b,c,d,f⟩
  ·exact .inl h
  ·exact .inr ⟨g,o,cap,cur,e,fz,a,b,d,f⟩
 ·rename_i id m sz
  simp only [Den] at h
  obtain ⟨_,ds,hH,_,hsp,hval⟩:=h
  simp only [hH] at hr
  split at hr
  ·rename_i hc
   simp only [Option.some.injEq,Prod.mk.injEq] at hr
   obtain ⟨rfl,rfl⟩:=hr
   rcases hk.has id ds hH hsp with ⟨hn,he⟩|⟨g,cur,e,hM,hg,hd⟩
   ·subst he
    rcases hval hc with ⟨a,b,_⟩|⟨g,cap,cur,e,a,_⟩
    ·exact .inl ⟨.inl a,rfl,b⟩
    ·rw [hn] at a;cases a
   ·rcases hval hc with ⟨_,_,c⟩|⟨g',cap,cur',e',a,b,c,_,f,_⟩
    ·rw [hM] at c;cases c
    ·rw [hM] at a
     injection a with a
     subst a
     exact .inr ⟨g,0,cap,cur,e,(0,0),b,hg,c,by simpa using hd⟩
  ·cases hr
 ·rename_i id len off m sz c
  simp only [Den] at h
  obtain ⟨_,ds,hH,_,⟨hof,hnc⟩,hsp,hval⟩:=h
  simp only [hH] at hr
  split at hr
  ·rename_i hc
   simp only [Option.some.injEq,Prod.mk.injEq] at hr
   obtain ⟨rfl,rfl⟩:=hr
   rcases hval hc with ⟨a,rfl,_⟩|⟨g,o',cap,hM,hv,hle,ho⟩
   ·exact .inl ⟨.inl a,by simp,rfl⟩
   ·rcases hk.has id ds hH hsp with ⟨hn,_⟩|⟨g',cur,e,hM',hg,hd⟩
    ·rw [hn] at hM;cases hM
    ·rw [hM'] at hM
     injection hM with hM
     subst hM
     refine .inr ⟨g',o',cap,cur,e,(0,0),hv,hg,by omega,?_⟩
     by_cases hm:m=0
     ·subst hm;simp [DenP]
     ·rw [ho (by omega)]
      exact Cxz (Boz hd off) _
  ·cases hr
 ·simp only [Option.some.injEq,Prod.mk.injEq] at hr
  obtain ⟨rfl,rfl⟩:=hr
  simp only [Den] at h
  exact .inl ⟨.inl h,rfl,rfl⟩
 ·cases hr

theorem sound_lenS (h:St E M s a w){c:Call}{x:Operand}(ho:o.op=.call c)(hl:lowCall P c=some (.lenS x))(hr:arun s pin d (.lenS x)=some r):Owed P E M s a w o r:=by
 have hx:=h.ev x
 simp only [arun] at hr
 split at hr
 ·rename_i t' hxv
  simp only [Option.some.injEq] at hr
  subst hr
  rw [hxv] at hx
  simp only [Den] at hx
  replace hl:=A9z hl (fun _ _ _ h=>by cases h)
  unfold lowCall0 at hl
  split at hl
  ·rename_i x' t hc1 hc2 hc3
   have hargs:c.args=#[x']:=Array.ext' hc2
   have htys:c.argTypes=#[t]:=Array.ext' hc3
   split at hl
   ·rename_i hu
    simp only [Option.some.injEq,AOp.lenS.injEq] at hl
    subst hl
    refine Anz h (v:=.int .i64 t'.size) ?_ (by simp [Den])
    simp [execOp,ho,resolve,hc1,hargs,htys,invoke,builtin,Builtin.len_,run_underlying hu,hx,goInt]
   all_goals simp at hl
  all_goals (first|(simp at hl;done)|((repeat (split at hl))<;>simp at hl))
 ·cases hr

theorem sound_len (h:St E M s a w){c:Call}{x:Operand}(ho:o.op=.call c)(hl:lowCall P c=some (.len x))(hr:arun s pin d (.len x)=some r):Owed P E M s a w o r:=by
 have hx:=h.ev x
 simp only [arun] at hr
 cases hrd:rd s.H (s.ev x) with
 | none=>simp [hrd] at hr
 | some q =>
  obtain ⟨cs,n⟩:=q
  simp only [hrd,Option.map_some,Option.some.injEq] at hr
  subst hr
  replace hl:=A9z hl (fun _ _ _ h=>by cases h)
  unfold lowCall0 at hl
  split at hl
  ·rename_i x' t hc1 hc2 hc3
   have hargs:c.args=#[x']:=Array.ext' hc2
   have htys:c.argTypes=#[t]:=Array.ext' hc3
   split at hl
   ·simp at hl
   ·rename_i e hu
    simp only [Option.some.injEq,AOp.len.injEq] at hl
    subst hl
    refine Anz h (v:=.int .i64 n) ?_ (by simp [Den])
    rcases rd_spec h.hok hx hrd with ⟨hv,_,rfl⟩|⟨g,o',cap,cur,e',fz,hv,_⟩
    ·obtain ⟨p,c',hv⟩:=hv.at
     simp [execOp,ho,resolve,hc1,hargs,htys,invoke,builtin,Builtin.len_,run_underlying hu,hv,goInt]
    ·simp [execOp,ho,resolve,hc1,hargs,htys,invoke,builtin,Builtin.len_,run_underlying hu,hv,goInt]
   all_goals simp at hl
  all_goals (first|(simp at hl;done)|((repeat (split at hl))<;>simp at hl))

theorem F0z (h:St E M s a w){c:Call}{x:Operand}(ho:o.op=.call c)(hl:lowCall P c=some (.mv x))(hr:arun s pin d (.mv x)=some r):Owed P E M s a w o r:=by
 simp only [arun,Option.some.injEq] at hr
 subst hr
 replace hl:=A9z hl (fun _ _ _ h=>by cases h)
 unfold lowCall0 at hl
 split at hl
 ·rename_i x' t hc1 hc2 hc3
  have hargs:c.args=#[x']:=Array.ext' hc2
  have htys:c.argTypes=#[t]:=Array.ext' hc3
  split at hl
  ·simp at hl
  ·simp at hl
  ·rename_i n e hu
   simp only [Option.some.injEq,AOp.mv.injEq] at hl
   subst hl
   refine Anz h (v:=.int .i64 n) ?_ (by simp [S.ev,ofVal,ofCell,Den])
   simp [execOp,ho,resolve,hc1,hargs,htys,invoke,builtin,Builtin.len_,run_underlying hu,goInt]
  ·simp at hl
 all_goals (first|(simp at hl;done)|((repeat (split at hl))<;>simp at hl))

theorem sound_idxS (h:St E M s a w){t:TypeId}{x i:Operand}(ho:o.op=.index t x i)(hl:lowOp P (.index t x i)=some (.idxS x i))(hr:arun s pin d (.idxS x i)=some r):Owed P E M s a w o r:=by
 have hx:=h.ev x
 have hi:=h.ev i
 simp only [lowOp] at hl
 split at hl
 ·rename_i hu
  simp only [arun] at hr
  split at hr
  ·rename_i t' k j hxv hiv
   rw [hxv] at hx
   rw [hiv] at hi
   simp only [Den] at hx hi
   split at hr
   ·rename_i hc
    simp only [Option.some.injEq] at hr
    subst hr
    refine Anz h (v:=.int .u8 (t'[j.toNat]'hc.2).toNat) ?_ (by simp [Den])
    simp [execOp,ho,Instr.index,hi,hx,asIntOf,run_underlying hu,hc]
   ·cases hr
  ·cases hr
 ·simp at hl

theorem sound_idxA (h:St E M s a w){t:TypeId}{n:Nat}{x i:Operand}(ho:o.op=.indexAddr t x i)(hl:lowOp P (.indexAddr t x i)=some (.idxA n x i))(hr:arun s pin d (.idxA n x i)=some r):Owed P E M s a w o r:=by
 have hx:=h.ev x
 have hi:=h.ev i
 simp only [lowOp] at hl
 split at hl
 ·rename_i e hu
  have hn:sizeAt P e=some n:=by
   cases hs:sizeAt P e with
   | none=>simp [hs] at hl
   | some m=>simp [hs] at hl;rw [hl]
  have run:∀ (k:IntKind) (j:Int) g o' len cap,a.eval i=.int k j→a.eval x=.slice (some ⟨g,o',none⟩) len cap→0≤j→j<len→(execOp a.eval o).run P w=.ok (.value (.pointer (some ⟨g,o'+j.toNat*n,none⟩))) w:=by
   intro k j g o' len cap h1 h2 h3 h4
   simp [execOp,ho,Instr.indexAt,run_underlying hu,h1,h2,asIntOf,A3z hn,h3,h4,Addr.add_lit]
  simp only [arun] at hr
  split at hr
  ·rename_i k j hiv
   rw [hiv] at hi
   simp only [Den] at hi
   split at hr
   ·rename_i fr cs m hxv
    rw [hxv] at hx
    simp only [Den] at hx
    split at hr
    ·rename_i hc
     simp only [Option.some.injEq] at hr
     subst hr
     rcases hx with ⟨_,_,rfl⟩|⟨g,o',cap,cur,e',fz,hv,hg,hok,hle,hd⟩
     ·omega
     ·refine Anz h (run k j g o' m cap hi hv hc.1 hc.2) ?_
      simp only [Den]
      exact ⟨g,o',cur,e',fz,rfl,hg,hok,hd⟩
    ·cases hr
   ·rename_i id m sz hxv
    rw [hxv] at hx
    simp only [Den] at hx
    obtain ⟨_,cs,hH,hle,hsp,hval⟩:=hx
    have hH':s.H id=some cs:=hH
    simp only [hH'] at hr
    split at hr
    ·rename_i hc
     simp only [Option.some.injEq] at hr
     subst hr
     rcases hval hc.1 with ⟨_,rfl,_⟩|⟨g,cap,cur,e',hMg,hv,_⟩
     ·omega
     ·refine Anz h (run k j g 0 m cap hi hv hc.2.1 hc.2.2) ?_
      simp only [Den]
      exact ⟨rfl,cs,hH,by omega,hsp,fun _=>⟨g,hMg,by simp⟩⟩
    ·cases hr
   ·rename_i id len off m sz cc hxv
    rw [hxv] at hx
    simp only [Den] at hx
    obtain ⟨_,cs,hH,hle,⟨hof,hmc⟩,hsp,hval⟩:=hx
    have hH':s.H id=some cs:=hH
    simp only [hH'] at hr
    split at hr
    ·rename_i hc
     simp only [Option.some.injEq] at hr
     subst hr
     rcases hval hc.1 with ⟨_,rfl,_⟩|⟨g,o',cap,hMg,hv,hcap,hoo⟩
     ·omega
     ·have e:o'=off:=hoo (by omega)
      subst e
      refine Anz h (run k j g o' m cap hi hv hc.2.1 hc.2.2) ?_
      simp only [Den]
      exact ⟨rfl,cs,hH,by omega,hsp,fun _=>⟨g,hMg,rfl⟩⟩
    ·cases hr
   ·cases hr
  ·cases hr
 ·cases hs:sizeAt P ‹_›<;>simp [hs] at hl
 ·cases hl

theorem sound_idxP (h:St E M s a w){t:TypeId}{n m:Nat}{x i:Operand}(ho:o.op=.indexAddr t x i)(hl:lowOp P (.indexAddr t x i)=some (.idxP n m x i))(hr:arun s pin d (.idxP n m x i)=some r):Owed P E M s a w o r:=by
 have hx:=h.ev x
 have hi:=h.ev i
 simp only [lowOp] at hl
 split at hl
 ·cases hs:sizeAt P ‹_›<;>simp [hs] at hl
 ·rename_i len e hu
  have hn:sizeAt P e=some n∧len=m:=by
   cases hs:sizeAt P e with
   | none=>simp [hs] at hl
   | some q=>simp [hs] at hl;rw [hl.1];exact ⟨rfl,hl.2⟩
  obtain ⟨hn,rfl⟩:=hn
  simp only [arun] at hr
  split at hr
  ·rename_i k j hiv
   rw [hiv] at hi
   simp only [Den] at hi
   split at hr
   ·rename_i id l off hxv
    rw [hxv] at hx
    simp only [Den] at hx
    obtain ⟨_,cs,hH,hle,hsp,hval⟩:=hx
    have hH':s.H id=some cs:=hH
    simp only [hH'] at hr
    split at hr
    ·rename_i hc
     simp only [Option.some.injEq] at hr
     subst hr
     obtain ⟨g,hMg,hv⟩:=hval hc.1
     refine Anz h (v:=.pointer (some ⟨g,off+j.toNat*n,none⟩)) ?_ ?_
     ·simp [execOp,ho,Instr.indexAt,run_underlying hu,hi,hv,asIntOf,Instr.sureAddr,A3z hn,hc.2.1,hc.2.2,Addr.add_lit]
     ·simp only [Den]
      exact ⟨rfl,cs,hH,hle,hsp,fun _=>⟨g,hMg,rfl⟩⟩
    ·cases hr
   ·rename_i fr cs off hxv
    rw [hxv] at hx
    simp only [Den] at hx
    obtain ⟨g,o',cur,e',fz,hv,hh,hok,hd⟩:=hx
    split at hr
    ·rename_i hc
     simp only [Option.some.injEq] at hr
     subst hr
     refine Anz h (v:=.pointer (some ⟨g,o'+off+j.toNat*n,none⟩)) ?_ ?_
     ·simp [execOp,ho,Instr.indexAt,run_underlying hu,hi,hv,asIntOf,Instr.sureAddr,A3z hn,hc.1,hc.2,Addr.add_lit]
     ·simp only [Den]
      exact ⟨g,o',cur,e',fz,by rw [Nat.add_assoc],hh,hok,hd⟩
    ·cases hr
   ·cases hr
  ·cases hr
 ·cases hl

end
end Vw
namespace Vw
open Go
variable [Inhabited GlobT]

section
variable {P:Program} {E:Env} {M:Nat→Option Nat} {H:Nat→Option (List AV)} {s:S} {a:Act} {w:World} {o:Oper} {pin d:Nat} {r:AV×Option (Nat×List AV)}

theorem old_alloc (w:World)(o:Obj){q:Nat}(h:q<w.heap.size):(w.alloc o).heap[q]?=w.heap[q]?:=by
 show (w.heap.push o)[q]?=_
 rw [Array.getElem?_push,if_neg (by omega)]

theorem bnd_spec {m dflt k:Nat}{x:Option Operand}(h:St E M s a w)(hb:bnd m dflt (x.map s.ev)=some k) :
  (x=none∧k=dflt)∨∃ y kk,x=some y∧a.eval y=.int kk (k:Int)∧k≤m:=by
 cases x with
 | none=>simp [bnd] at hb;exact .inl ⟨rfl,hb.symm⟩
 | some y =>
  refine .inr ?_
  have hy:=h.ev y
  simp only [Option.map_some,bnd] at hb
  split at hb
  ·rename_i he
   cases he
  ·rename_i kk i he
   simp only [Option.some.injEq] at he
   rw [he] at hy
   simp only [Den] at hy
   split at hb
   ·rename_i hc
    simp only [Option.some.injEq] at hb
    subst hb
    exact ⟨y,kk,rfl,by rw [hy,Int.toNat_of_nonneg hc.1],by omega⟩
   ·cases hb
  ·cases hb

theorem sound_sliceS (h:St E M s a w){t:TypeId}{x:Operand}{lo hi:Option Operand}(ho:o.op=.slice t x lo hi none)(hl:lowOp P (.slice t x lo hi none)=some (.sliceS x lo hi))(hr:arun s pin d (.sliceS x lo hi)=some r):Owed P E M s a w o r:=by
 have hx:=h.ev x
 simp only [lowOp] at hl
 split at hl
 ·cases hs:sizeAt P ‹_›<;>simp [hs] at hl
 ·rename_i hu
  simp only [arun] at hr
  split at hr
  ·rename_i t' hxv
   rw [hxv] at hx
   simp only [Den] at hx
   split at hr
   ·rename_i hb hhb
    split at hr
    ·rename_i lb hlb
     simp only [Option.some.injEq] at hr
     subst hr
     refine Anz h (v:=.string (t'.extract lb hb)) ?_ (by simp [Den])
     rcases bnd_spec h hhb with ⟨rfl,rfl⟩|⟨y,k1,rfl,hy,hle⟩<;>rcases bnd_spec h hlb with ⟨rfl,rfl⟩|⟨y',k2,rfl,hy',hle'⟩ <;>
      simp [execOp,ho,hx,Instr.sliceAt,Instr.slice,run_underlying hu,Instr.sliceBounds,Instr.sliceBound,asIntOf, *]
    ·cases hr
   ·cases hr
  ·cases hr
 ·obtain ⟨_,_,_,_,_,he⟩:=A6z hl;cases he

theorem Coz (h:St E M s a w){t e:TypeId}{n m K hb lb:Nat}{x:Operand}{lo hi:Option Operand}(ho:o.op=.slice t x lo hi none)(hu:P.underlying t=some (.slice e))(hn:sizeAt P e=some n)(ad:Option Addr)(cap:Nat)
  (hv:a.eval x=.slice ad m cap) (hmc:m≤K) (hKc:K≤cap) (hhb:bnd K m (hi.map s.ev)=some hb) (hlb:bnd hb 0 (lo.map s.ev)=some lb):(execOp a.eval o).run P w=.ok (.value (.slice (if cap=lb then ad else ad.map (·.add (lb*n))) (hb-lb) (cap-lb))) w:=by
 have hhm:hb≤K:=by rcases bnd_spec h hhb with ⟨_,rfl⟩|⟨_,_,_,_,hle⟩<;>omega
 have hlh:lb≤hb:=by rcases bnd_spec h hlb with ⟨_,rfl⟩|⟨_,_,_,_,hle⟩<;>omega
 have hh:(hb:Int)≤(cap:Int):=by omega
 have hh2:(lb:Int)≤(hb:Int):=by omega
 rcases bnd_spec h hhb with ⟨rfl,rfl⟩|⟨y,k1,rfl,hy,hle⟩<;>rcases bnd_spec h hlb with ⟨rfl,rfl⟩|⟨y',k2,rfl,hy',hle'⟩ <;>
  simp [execOp,ho,hv,Instr.sliceAt,Instr.slice,run_underlying hu,Instr.sliceBounds,Instr.sliceBound,asIntOf,A3z hn, *]<;>(try (intro hlt;omega))

theorem sound_sliceP (h:St E M s a w){t e:TypeId}{n k:Nat}{x:Operand}{lo hi:Option Operand}(ho:o.op=.slice t x lo hi none)(hua:P.underlying t=some (.array k e))(hn:sizeAt P e=some n)
  (hr:arun s pin d (.sliceP n k x lo hi)=some r):Owed P E M s a w o r:=by
 have hx:=h.ev x
 simp only [arun] at hr
 split at hr
 ·rename_i id len off hxv
  rw [hxv] at hx
  simp only [Den] at hx
  obtain ⟨_,cs,hH,hle,hsp,hval⟩:=hx
  have hH':s.H id=some cs:=hH
  simp only [hH'] at hr
  split at hr
  ·rename_i cs2 hb hcs2 hhb
   injection hcs2 with hcs2
   subst hcs2
   split at hr
   ·rename_i lb hlb
    split at hr
    ·rename_i hc
     obtain ⟨hc1,hc2⟩:=hc
     simp only [Option.some.injEq] at hr
     subst hr
     have hhm:hb≤k:=by rcases bnd_spec h hhb with ⟨_,rfl⟩|⟨_,_,_,_,hle⟩<;>omega
     have hlh:lb≤hb:=by rcases bnd_spec h hlb with ⟨_,rfl⟩|⟨_,_,_,_,hle⟩<;>omega
     have hfit:lb*n+(k-lb)*n≤k*n:=by rw [← Nat.add_mul];exact Nat.mul_le_mul_right _ (by omega)
     obtain ⟨g,hM,hv⟩:=hval hc1
     have hh:(hb:Int)≤(k:Int):=by omega
     have hh2:(lb:Int)≤(hb:Int):=by omega
     have run:(execOp a.eval o).run P w=.ok (.value (.slice (some (if k=lb then ⟨g,off,none⟩ else (⟨g,off,none⟩:Addr).add (lb*n))) (hb-lb) (k-lb))) w:=by
      rcases bnd_spec h hhb with ⟨rfl,rfl⟩|⟨y,k1,rfl,hy,hle⟩<;>rcases bnd_spec h hlb with ⟨rfl,rfl⟩|⟨y',k2,rfl,hy',hle'⟩ <;>
       simp [execOp,ho,hv,Instr.sliceAt,Instr.slice,run_underlying hua,Instr.sliceBounds,Instr.sliceBound,asIntOf,asAddr,Instr.sureAddr,A3z hn, *]<;>(try (intro hlt;omega))
     refine Anz h run ?_
     simp only [Den]
     refine ⟨by simp [Value.oneCell'],cs,hH,by omega,⟨by omega,by omega⟩,hsp,fun _=>.inr ?_⟩
     by_cases hcl:k=lb
     ·exact ⟨g,off,k-lb,hM,by simp [hcl],by omega,fun hne=>by omega⟩
     ·exact ⟨g,off+lb*n,k-lb,hM,by simp [hcl,Addr.add_lit],by omega,fun _=>rfl⟩
    ·cases hr
   ·cases hr
  ·cases hr
 ·cases hr

theorem sound_minmax (h:St E M s a w){c:Call}{mx:Bool}{x y:Operand}(ho:o.op=.call c)(hl:lowCall P c=some (.minmax mx x y))(hr:arun s pin d (.minmax mx x y)=some r):Owed P E M s a w o r:=by
 have hx:=h.ev x
 have hy:=h.ev y
 simp only [arun] at hr
 split at hr
 ·rename_i k p k' q hxv hyv
  rw [hxv] at hx
  rw [hyv] at hy
  simp only [Den] at hx hy
  simp only [Option.some.injEq] at hr
  subst hr
  have hl2:lowMM c=some (.minmax mx x y):=lowCall_mm hl fun b hb hbe=>by
   subst hbe
   unfold lowCall0 at hb
   (repeat' (split at hb))<;>simp at hb
  obtain ⟨mx',x',y',hm,hargs',he⟩:=Ebz hl2
  injection he with h1 h2 h3
  subst h1 h2 h3
  have hargs:c.args=#[x,y]:=Array.ext' hargs'
  have hcal:(mx=false∧c.callee=.builtin .min)∨(mx=true∧c.callee=.builtin .max):=by
   generalize c.callee=q at hm
   unfold isMinMax at hm
   split at hm
   ·injection hm with hm;exact .inl ⟨hm.symm,rfl⟩
   ·injection hm with hm;exact .inr ⟨hm.symm,rfl⟩
   ·cases hm
  rcases hcal with ⟨rfl,hc1⟩|⟨rfl,hc1⟩
  ·refine Anz h (v:=.int k (min p q)) ?_ (by simp [Den])
   simp [execOp,ho,resolve,hc1,hargs,invoke,builtin,hx,hy,Lib.run_min_ints]
  ·refine Anz h (v:=.int k (max p q)) ?_ (by simp [Den])
   simp [execOp,ho,resolve,hc1,hargs,invoke,builtin,hx,hy,Lib.run_max_ints]
 ·cases hr

theorem sound_slice (h:St E M s a w){t:TypeId}{n:Nat}{x:Operand}{lo hi:Option Operand}(ho:o.op=.slice t x lo hi none)(hl:lowOp P (.slice t x lo hi none)=some (.slice n x lo hi))(hr:arun s pin d (.slice n x lo hi)=some r):Owed P E M s a w o r:=by
  have hx:=h.ev x
  simp only [lowOp] at hl
  split at hl
  · rename_i e hu
    have hn:sizeAt P e=some n:=by
      cases hs:sizeAt P e with
      | none=>simp [hs] at hl
      | some m=>simp [hs] at hl;rw [hl]
    simp only [arun] at hr
    split at hr
    · rename_i fr cs m hxv
      rw [hxv] at hx
      simp only [Den] at hx
      split at hr
      · rename_i hb hhb
        split at hr
        · rename_i lb hlb
          simp only [Option.some.injEq] at hr
          subst hr
          have hhm:hb≤m:=by rcases bnd_spec h hhb with ⟨_,rfl⟩|⟨_,_,_,_,hle⟩<;>omega
          have hlh:lb≤hb:=by rcases bnd_spec h hlb with ⟨_,rfl⟩|⟨_,_,_,_,hle⟩<;>omega
          have run:∀ ad cap,a.eval x=.slice ad m cap→m≤cap→(execOp a.eval o).run P w=.ok (.value (.slice (if cap=lb then ad else ad.map (·.add (lb*n))) (hb-lb) (cap-lb))) w:=by
            intro ad cap hv hmc
            have hh:(hb:Int)≤(cap:Int):=by omega
            have hh2:(lb:Int)≤(hb:Int):=by omega
            rcases bnd_spec h hhb with ⟨rfl,rfl⟩|⟨y,k1,rfl,hy,hle⟩<;>rcases bnd_spec h hlb with ⟨rfl,rfl⟩|⟨y',k2,rfl,hy',hle'⟩ <;>
              simp [execOp,ho,hv,Instr.sliceAt,Instr.slice,run_underlying hu,Instr.sliceBounds,Instr.sliceBound,asIntOf,A3z hn, *]<;>(try (intro hlt;omega))
          rcases hx with ⟨hv,rfl,rfl⟩|⟨g,o',cap,cur,e',fz,hv,hg,hok,hle,hd⟩
          · have e1:hb=0:=by omega
            have e2:lb=0:=by omega
            subst e1 e2
            rcases hv with hv|⟨ad,c',hv⟩
            · refine Anz h (run none 0 hv (Nat.le_refl _)) ?_
              simp only [Den]
              exact .inl ⟨.inl (by simp),by simp,by simp⟩
            · refine Anz h (run (some ad) c' hv (Nat.zero_le _)) ?_
              simp only [Den]
              refine .inl ⟨.inr ?_,by simp,by simp⟩
              by_cases hc0:c'=0
              · exact ⟨ad,c',by simp [hc0]⟩
              · exact ⟨ad.add (0*n),c',by simp [hc0]⟩
          · refine Anz h (run _ cap hv hle) ?_
            simp only [Den]
            refine .inr ?_
            by_cases hcl:cap=lb
            · refine ⟨g,o',cap-lb,cur,e',fz,by simp [hcl],hg,hok,by omega,?_⟩
              have : (hb - lb) * n = 0 := by have : hb - lb = 0 := by omega
                                             rw [this];simp
              rw [this]
              simp [DenP]
            · refine ⟨g,o'+lb*n,cap-lb,cur,e',fz,by simp [hcl,Addr.add_lit],hg,hok,by omega,?_⟩
              have:=Cxz (Boz hd (lb*n)) ((hb-lb)*n)
              rwa [List.drop_drop] at this
        · cases hr
      · cases hr
    · rename_i id m sz' hxv
      rw [hxv] at hx
      simp only [Den] at hx
      obtain ⟨_,cs,hH,hle,hsp,hval⟩:=hx
      have hH':s.H id=some cs:=hH
      simp only [hH'] at hr
      split at hr
      · rename_i cs2 hb hcs2 hhb
        injection hcs2 with hcs2
        subst hcs2
        split at hr
        · rename_i lb hlb
          split at hr
          · rename_i hc
            obtain ⟨hc1,rfl⟩:=hc
            simp only [Option.some.injEq] at hr
            subst hr
            have hhm:hb≤m:=by rcases bnd_spec h hhb with ⟨_,rfl⟩|⟨_,_,_,_,hle⟩<;>omega
            have hlh:lb≤hb:=by rcases bnd_spec h hlb with ⟨_,rfl⟩|⟨_,_,_,_,hle⟩<;>omega
            have hfit:lb*sz'+(m-lb)*sz'≤m*sz':=by rw [← Nat.add_mul];exact Nat.mul_le_mul_right _ (by omega)
            rcases hval hc1 with ⟨hv,rfl,hMn⟩|⟨g,cap,cur,e',hM,hv,hcap,_⟩
            · have e1:hb=0:=by omega
              have e2:lb=0:=by omega
              subst e1 e2
              refine Anz h (Coz h ho hu hn none 0 hv (Nat.le_refl _) (Nat.le_refl _) hhb hlb) ?_
              simp only [Den]
              exact ⟨by simp [Value.oneCell'],cs,hH,by omega,⟨by omega,by omega⟩,hsp,fun _=>.inl ⟨by simp,by simp,by simp⟩⟩
            · refine Anz h (Coz h ho hu hn _ cap hv (Nat.le_refl _) hcap hhb hlb) ?_
              simp only [Den]
              refine ⟨by by_cases hcl:cap=lb<;>simp [Value.oneCell',hcl],cs,hH,by omega,⟨hfit,by omega⟩,hsp,fun _=>.inr ?_⟩
              by_cases hcl:cap=lb
              · exact ⟨g,0,cap-lb,hM,by simp [hcl],by omega,fun hne=>by omega⟩
              · exact ⟨g,lb*sz',cap-lb,hM,by simp [hcl,Addr.add_lit],by omega,fun _=>rfl⟩
          · cases hr
        · cases hr
      · cases hr
    · rename_i id len off m sz' cc hxv
      rw [hxv] at hx
      simp only [Den] at hx
      obtain ⟨_,cs,hH,hle,⟨hof,hmc⟩,hsp,hval⟩:=hx
      have hH':s.H id=some cs:=hH
      simp only [hH'] at hr
      split at hr
      · rename_i cs2 hb hcs2 hhb
        injection hcs2 with hcs2
        subst hcs2
        split at hr
        · rename_i lb hlb
          split at hr
          · rename_i hc
            obtain ⟨hc1,rfl,hlc⟩:=hc
            simp only [Option.some.injEq] at hr
            subst hr
            have hhm:hb≤cc:=by rcases bnd_spec h hhb with ⟨_,rfl⟩|⟨_,_,_,_,hle⟩<;>omega
            have hlh:lb≤hb:=by rcases bnd_spec h hlb with ⟨_,rfl⟩|⟨_,_,_,_,hle⟩<;>omega
            have hfit:lb*sz'+(cc-lb)*sz'≤cc*sz':=by rw [← Nat.add_mul];exact Nat.mul_le_mul_right _ (by omega)
            rcases hval hc1 with ⟨hv,rfl,rfl⟩|⟨g,o',cap,hM,hv,hcap,hoo⟩
            · have e1:hb=0:=by omega
              have e2:lb=0:=by omega
              subst e1 e2
              refine Anz h (Coz h ho hu hn none 0 hv (Nat.le_refl _) (Nat.le_refl _) hhb hlb) ?_
              simp only [Den]
              exact ⟨by simp [Value.oneCell'],cs,hH,by omega,⟨by omega,by omega⟩,hsp,fun _=>.inl ⟨by simp,by simp,by simp⟩⟩
            · refine Anz h (Coz h ho hu hn _ cap hv hmc hcap hhb hlb) ?_
              simp only [Den]
              refine ⟨by by_cases hcl:cap=lb<;>simp [Value.oneCell',hcl],cs,hH,by omega,⟨by omega,by omega⟩,hsp,fun _=>.inr ?_⟩
              by_cases hcl:cap=lb
              · exact ⟨g,o',cap-lb,hM,by simp [hcl],by omega,fun hne=>by omega⟩
              · exact ⟨g,o'+lb*sz',cap-lb,hM,by simp [hcl,Addr.add_lit],by omega,fun hne=>by rw [hoo (by omega)]⟩
          · cases hr
        · cases hr
      · cases hr
    · rename_i hxv
      rw [hxv] at hx
      simp only [Den] at hx
      split at hr
      · rename_i hb hhb
        split at hr
        · rename_i lb hlb
          simp only [Option.some.injEq] at hr
          subst hr
          have e1:hb=0:=by rcases bnd_spec h hhb with ⟨_,rfl⟩|⟨_,_,_,_,hle⟩<;>omega
          have e2:lb=0:=by rcases bnd_spec h hlb with ⟨_,rfl⟩|⟨_,_,_,_,hle⟩<;>omega
          subst e1 e2
          exact Anz h (Coz h ho hu hn none 0 hx (Nat.le_refl _) (Nat.le_refl _) hhb hlb) (by simp [Den])
        · cases hr
      · cases hr
    · cases hr
  · simp at hl
  · obtain ⟨_,_,_,_,_,he⟩:=A6z hl;cases he

theorem Dgz (C:Ctx)(zs:Array Value)(n:Nat)(h0:0<zs.size):DenP C (zcells (zs.toList.map ofCell) n) (madeCells zs (n*zs.size)).toList∧(zcells (zs.toList.map ofCell) n).length=n*zs.size:=by
 constructor
 ·rw [Axz]
  intro j b hb
  unfold zcells at hb
  simp only [List.length_map,Array.length_toList] at hb
  rw [List.getElem?_map] at hb
  by_cases hj:j<n*zs.size
  ·rw [List.getElem?_range hj] at hb
   simp only [Option.map_some,Option.some.injEq] at hb
   have hm:j % zs.size<zs.size:=Nat.mod_lt _ h0
   refine ⟨zs[j % zs.size],?_,?_⟩
   ·simp [madeCells,hj,getElem!_def,hm]
   ·rw [List.getD_eq_getElem?_getD,List.getElem?_map] at hb
    simp [hm] at hb
    subst hb
    exact Dbz C _
  ·rw [List.getElem?_eq_none (by simp;omega)] at hb
   simp at hb
 ·simp [zcells]

theorem Guz (h:St E M s a w){t:TypeId}{n:Nat}{zs:List Value}{l c:Operand}(ho:o.op=.makeSlice t l c)(hl:lowOp P (.makeSlice t l c)=some (.mkslice n zs l c))(hr:arun s E.pin d (.mkslice n zs l c)=some r):Owed P E M s a w o r:=by
 have hlv:=h.ev l
 have hcv:=h.ev c
 simp only [lowOp] at hl
 split at hl
 ·rename_i e hu
  split at hl
  ·rename_i i hi
   split at hl
   ·rename_i z hz
    split at hl
    ·rename_i hcond
     obtain ⟨hz1,hz2,hz3⟩:=hcond
     simp only [Option.some.injEq,AOp.mkslice.injEq,and_true] at hl
     obtain ⟨rfl,rfl⟩:=hl
     simp only [arun] at hr
     split at hr
     ·rename_i k1 n1 k2 n2 h1 h2
      rw [h1] at hlv
      rw [h2] at hcv
      simp only [Den] at hlv hcv
      split at hr
      ·rename_i hc
       obtain ⟨hc1,hc2,rfl,hc4,hc5⟩:=hc
       simp only [Option.some.injEq] at hr
       subst hr
       have hH:s.H (16*d)=none:=by simpa using hc1
       have hb:(i.bytes:Int)*n1≤281474976710656:=by
        have:(i.bytes:Int)*n1≤128*n1:=Int.mul_le_mul_of_nonneg_right (by omega) hc4
        omega
       have hrun0:=run_make (P:=P) w t e i z hu hi hz k1 k2 n1 n1 hc4 (Int.le_refl _) hb (by omega)
       have hrun:(execOp a.eval o).run P w=.ok (.value (.slice (some ⟨w.heap.size,0,none⟩) n1.toNat n1.toNat)) (w.alloc (.cells (madeCells z.cells (n1.toNat*i.size)) e)):=by
        simp [execOp,ho,hlv,hcv,hrun0]
       obtain ⟨zd,zl⟩:=Dgz (E.C M s.H w) z.cells n1.toNat (by omega)
       rw [hz1] at zd zl
       refine ⟨upd M (16*d) (some w.heap.size),w.alloc (.cells (madeCells z.cells (n1.toNat*i.size)) e),_,Tr.alloc h.hok h.old hH hc2 (e:=e) (vs:=madeCells z.cells (n1.toNat*i.size)) rfl rfl rfl rfl zd,.inl hrun,?_⟩
       simp only [Den,updO]
       refine ⟨rfl,_,Aqz _ _ _,by omega,A2z zd,fun _=>.inr ⟨_,n1.toNat,_,e,Aqz _ _ _,rfl,Nat.le_refl _,?_,heap_alloc_new w _,by rw [size_madeCells]⟩⟩
       simp only [maxLen];omega
      ·cases hr
     ·cases hr
    ·cases hl
   ·cases hl
  ·cases hl
 ·cases hl

theorem Tr.adopt (hk:HOK (E.C M H w))(ho:Old E M w){id:Nat}(hid:H id=none):Tr E M H w M (upd H id (some [])) w:=by
 have k:Keeps (E.C M H w) (E.C M (upd H id (some [])) w):=by
  refine ⟨fun _ _ _=>rfl,fun _ _ h=>h,fun _ _ h=>h,fun _ _ h=>h,fun j ds h=>?_,fun j ds ds' h h' hl g hg cur e hb=>⟨cur,e,hb,rfl⟩,fun j ds ds' h h'=>?_,Nat.le_refl _⟩
  all_goals have hj:j≠id:=fun he=>by subst he;exact absurd (hid.symm.trans h) (by simp)
  ·exact ⟨ds,(Asz _ _ _ _ hj).trans h,Nat.le_refl _,fun _=>rfl⟩
  ·have h2:some ds'=some ds:=h'.symm.trans ((Asz H id j _ hj).trans h)
   injection h2 with h2
   subst h2
   exact ⟨rfl,fun _=>rfl⟩
 refine ⟨k,⟨fun j ds h=>?_,fun j h=>?_,hk.inj⟩,ho⟩
 ·by_cases hj:j=id
  ·subst hj
   have:some []=some ds:=(Aqz H j (some [])).symm.trans h
   injection this with this
   exact .inl (.inl ⟨hk.no j hid,this.symm⟩)
  ·have h0:=(Asz H id j (some []) hj).symm.trans h
   rcases hk.hasX j ds h0 with (h|⟨g,cur,e,a,b,c⟩)|hs
   ·exact .inl (.inl h)
   ·exact .inl (.inr ⟨g,cur,e,a,b,DenP.keeps k c⟩)
   ·exact .inr (hs.keeps k h0 h fun _ _=>rfl)
 ·by_cases hj:j=id
  ·subst hj;exact hk.no j hid
  ·exact hk.no j ((Asz H id j (some []) hj).symm.trans h)

theorem B8z {α:Type}(f:Nat→α)(i:Nat)(x:α)(h:f i=x):upd f i x=f:=by
 funext j
 unfold upd
 split
 ·rename_i hj;rw [hj,h]
 ·rfl

section
variable {t ty e:TypeId} {i:TypeInfo}

theorem Buz (hu:P.underlying t=some (.slice e))(hi:P.info? e=some i)(base:Option Addr)(n cap:Nat)(hn:n≤cap)(y:Value)(hy:(y=.slice none 0 0)∨∃ b c,y=.slice (some b) 0 c) :
  (Builtin.append_ #[t,t] ty #[.slice base n cap,y]).run P w=.ok (.slice base n cap) w:=by
 rcases hy with rfl|⟨b,c,rfl⟩<;>cases base <;>
  simp [Builtin.append_,run_underlying hu,Go.sizeOf,typeInfo,hi,Builtin.lenOf,hn,Builtin.firstCells,loadCells,loadCellsFrom,storeCells]

theorem Emz (hu:P.underlying t=some (.slice e))(hi:P.info? e=some i)(g o' sLen sCap:Nat)(cur:Array Value)(e':TypeId)(hg:w.heap[g]?=some (.cells cur e' (0,0)))
  (b:Addr) (m c:Nat) (news:List Value) (hl:news.length=m*i.size) (hnews:∀ j u,news[j]?=some u→w.cell? (b.add j)=some u) (h1:∀ u∈news,u.oneCell'=true)
  (hroom:sLen+m≤sCap) (hfit:o'+sLen*i.size+news.length≤cur.size) :
  (Builtin.append_ #[t,t] ty #[.slice (some ⟨g,o',none⟩) sLen sCap,.slice (some b) m c]).run P w =
   .ok (.slice (some ⟨g,o',none⟩) (sLen+m) sCap) (w.setRow g (cur.toList.take (o'+sLen*i.size)++news++cur.toList.drop (o'+sLen*i.size+news.length)).toArray):=by
 have hf:=run_firstCells_some (P:=P) w i.size m b m c news hl hnews
 have hst:=run_storeCells_at P g (o'+sLen*i.size) e' news 0 cur w hg (by simpa using hfit) h1
 simp only [Nat.add_zero] at hst
 simp [Builtin.append_,run_underlying hu,Go.sizeOf,typeInfo,hi,Builtin.lenOf,hroom,hf,Addr.add_lit,hst]

theorem Dwz (hu:P.underlying t=some (.slice e))(hi:P.info? e=some i)(g sLen sCap:Nat)(cur:Array Value)(e':TypeId)(hg:w.heap[g]?=some (.cells cur e' (0,0)))
  (b:Addr) (m c:Nat) (news:List Value) (hl:news.length=m*i.size) (hnews:∀ j u,news[j]?=some u→w.cell? (b.add j)=some u) (h1:∀ u∈news,u.oneCell'=true)
  (hroom:sLen+m≤sCap) (hfit:sLen*i.size+news.length≤cur.size) :
  (Builtin.append_ #[t,t] ty #[.slice (some ⟨g,0,none⟩) sLen sCap,.slice (some b) m c]).run P w =
   .ok (.slice (some ⟨g,0,none⟩) (sLen+m) sCap) (w.setRow g (cur.toList.take (sLen*i.size)++news++cur.toList.drop (sLen*i.size+news.length)).toArray):=by
 have hf:=run_firstCells_some (P:=P) w i.size m b m c news hl hnews
 have hst:=run_storeCells_at P g (sLen*i.size) e' news 0 cur w hg (by simpa using hfit) h1
 simp only [Nat.add_zero] at hst
 simp [Builtin.append_,run_underlying hu,Go.sizeOf,typeInfo,hi,Builtin.lenOf,hroom,hf,Addr.add_lit,hst]

end

theorem G3z {C:Ctx}{ys:List AV}{g o':Nat}{cur:Array Value}{e:TypeId}{fz:Nat×Nat}(hg:C.w.heap[g]?=some (.cells cur e fz))(hd:DenP C ys (cur.toList.drop o'))(hall:ys.all AV.isCell=true) :
  ∃ news:List Value,news.length=ys.length∧DenP C ys news∧(∀ j u,news[j]?=some u→C.w.cell? ((⟨g,o',none⟩:Addr).add j)=some u)∧∀ u∈news,u.oneCell'=true:=by
 have hle:=A7z hd
 have hd':=B6z hd ys.length
 rw [List.take_length] at hd'
 have hnl:(List.take ys.length (cur.toList.drop o')).length=ys.length:=by rw [List.length_take];omega
 refine ⟨List.take ys.length (cur.toList.drop o'),hnl,hd',fun j u hu=>?_,fun u hu=>?_⟩
 ·rw [Addr.add_lit]
  rw [List.getElem?_take] at hu
  split at hu
  ·rw [List.getElem?_drop] at hu
   simpa [World.cell?,hg] using hu
  ·cases hu
 ·obtain ⟨j,hj,rfl⟩:=List.getElem_of_mem hu
  have hj':j<ys.length:=by omega
  obtain ⟨v,hv,hdv⟩:=(Axz.1 hd') j ys[j] (List.getElem?_eq_getElem hj')
  rw [List.getElem?_eq_getElem hj] at hv
  injection hv with hv
  rw [hv]
  exact Den.oneCell hdv (List.all_eq_true.1 hall _ (List.getElem_mem hj'))

theorem F4z {c:Call}{n:Nat}{x y:Operand}(hl:lowCall P c=some (.append n x y)) :
  ∃ t e i z,c.callee=.builtin .append∧c.args=#[x,y]∧c.argTypes=#[t,t]∧P.underlying t=some (.slice e)∧P.info? e=some i∧i.zero=some z∧z.cells.size=i.size∧0<i.size∧i.bytes≤128∧n=i.size:=by
 replace hl:=A9z hl (fun _ _ _ h=>by cases h)
 unfold lowCall0 at hl
 split at hl
 ·rename_i hc1 hc2 hc3
  (repeat' (split at hl))<;>simp at hl
 ·rename_i x' y' t t' hc1 hc2 hc3
  split at hl
  ·rename_i htt
   subst htt
   split at hl
   ·rename_i e hu
    split at hl
    ·rename_i i hi
     split at hl
     ·rename_i z hz
      split at hl
      ·rename_i hcond
       simp only [Option.some.injEq,AOp.append.injEq] at hl
       obtain ⟨rfl,rfl,rfl⟩:=hl
       exact ⟨t,e,i,z,hc1,Array.ext' hc2,Array.ext' hc3,hu,hi,hz,hcond.1,hcond.2.1,hcond.2.2,rfl⟩
      ·cases hl
     ·cases hl
    ·cases hl
   ·cases hl
  ·cases hl
 ·(repeat' (split at hl))<;>simp at hl
 ·cases hl

theorem take_of_den {C:Ctx}{cs:List AV}{cur:Array Value}(hd:DenP C cs cur.toList)(n:Nat)(hn:cs.length=n):DenP C cs (cur.toList.take n)∧(cur.toList.take n).length=n:=by
 have:=B6z hd n
 rw [← hn,List.take_length] at this
 have hl:=A7z hd
 exact ⟨by rw [← hn];exact this,by rw [List.length_take];omega⟩

theorem sound_append (h:St E M s a w){c:Call}{n:Nat}{x y:Operand}(ho:o.op=.call c)(hl:lowCall P c=some (.append n x y))(hr:arun s E.pin d (.append n x y)=some r):Owed P E M s a w o r:=by
 have hx:=h.ev x
 have hy:=h.ev y
 obtain ⟨t,e,i,z,hc1,hc2,hc3,hu,hi,hz,hz1,hz2,hz3,rfl⟩:=F4z hl
 have hexec:∀ v w',(Builtin.append_ #[t,t] o.type #[a.eval x,a.eval y]).run P w=.ok v w'→(execOp a.eval o).run P w=.ok (.value v) w':=by
  intro v w' hv
  simp [execOp,ho,resolve,hc1,hc2,hc3,invoke,builtin,hv]
 simp only [arun] at hr
 split at hr
 ·rename_i ys m hrd
  split at hr
  ·rename_i hys
   obtain ⟨hyl,hyc⟩:=hys
   have hyc':=hyc
   have hyv:=rd_spec h.hok hy hrd
   split at hr
   ·rename_i id k sz hxv
    rw [hxv] at hx
    simp only [Den] at hx
    obtain ⟨_,cs,hH,hle,hsp,hval⟩:=hx
    have hH':s.H id=some cs:=hH
    simp only [hH'] at hr
    split at hr
    ·rename_i hc
     obtain ⟨rfl,hcl,hpin,hbound⟩:=hc
     simp only [Option.some.injEq] at hr
     subst hr
     have hcase:=hval hcl
     by_cases hm:m=0
     ·-- nothing is appended
      subst hm
      have hys0:ys=[]:=List.eq_nil_of_length_eq_zero (by simpa using hyl)
      subst hys0
      have hyz:(a.eval y=.slice none 0 0)∨∃ b c,a.eval y=.slice (some b) 0 c:=by
       rcases hyv with ⟨q,_⟩|⟨g,o',cap,cur,e',fz,q,_⟩
       ·exact q
       ·exact .inr ⟨_,_,q⟩
      have hval2:∃ base cap,a.eval x=.slice base k cap∧k≤cap:=by
       rcases hcase with ⟨q,rfl,_⟩|⟨g,cap,cur,e',_,q,q2,_⟩
       ·exact ⟨none,0,q,Nat.le_refl _⟩
       ·exact ⟨_,_,q,q2⟩
      obtain ⟨base,cap,hv,hkc⟩:=hval2
      have hrun:=hexec _ _ (by rw [hv];exact Buz (ty:=o.type) hu hi base k cap hkc _ hyz)
      refine ⟨M,w,_,?_,.inl hrun,?_⟩
      ·simp only [updO,List.append_nil]
       rw [B8z _ _ _ hH']
       exact Tr.refl h
      ·simp only [updO,List.append_nil]
       rw [B8z _ _ _ hH']
       have hx:=h.ev x
       rw [hxv] at hx
       rw [← hv]
       exact hx
     ·rcases hyv with ⟨_,_,q⟩|⟨gy,oy,capy,cury,ey,fzy,hyev,hgy,_,hdy⟩
      ·omega
      ·obtain ⟨news,hnl,hnd,hncell,hn1⟩:=G3z hgy hdy hyc
       have hnm:news.length=m*i.size:=by omega
       have hpos:0<m*i.size:=Nat.mul_pos (by omega) hz2
       have hb47:(k+m)*i.bytes≤140737488355328:=by
        have:(k+m)*i.bytes≤1099511627776*128:=Nat.mul_le_mul hbound hz3
        omega
       rcases hcase with ⟨hv,rfl,hMn⟩|⟨g,cap,cur,e',hMg,hv,hkc,hcm,hg,hcs⟩
       ·-- a nil slice grows
        have hcs0:cs=[]:=List.eq_nil_of_length_eq_zero (by simpa using hcl)
        subst hcs0
        have hap:=run_append_nil (P:=P) w t o.type e i z hu hi hz ⟨gy,oy,none⟩ m capy news hnm hncell (by omega) (by omega) (by simp only [Nat.zero_add] at hb47;omega)
        have hrun:=hexec _ _ (by rw [hv,hyev];exact hap)
        have hge:=grownCap_ge w m 0 e
        have hcap:=grownCap_le_maxLen w m 0 e (by simp only [maxLen];omega)
        refine ⟨upd M id (some w.heap.size),_,_,Tr.grow (w':=w.drew.alloc (.cells (news.toArray++Builtin.zeroCells z.cells (grownCap w m 0 e-m)) e)) (g':=w.heap.size) h.hok h.old hH' hsp hpin (by simp;omega) (heap_alloc_new w.drew _) (.inr (Nat.le_refl _))
         (fun q hq _=>old_alloc w.drew _ hq) (fun q hq=>absurd (hMn.symm.trans hq) (by simp)) (by simp) rfl rfl rfl ?_,.inl hrun,?_⟩
        ·simp only [Array.toList_append,List.nil_append]
         exact Cyz (by simpa using hnd)
        ·simp only [Den,updO,Nat.zero_add]
         refine ⟨rfl,_,Aqz _ _ _,by simp;omega,by rw [D8z,hsp,A2z hdy];rfl,fun _=>.inr ⟨w.heap.size,_,_,e,Aqz _ _ _,rfl,hge,hcap,heap_alloc_new w.drew _,?_⟩⟩
         simp only [Array.size_append,List.size_toArray,size_zeroCells,hnm,hz1,← Nat.add_mul]
         congr 1;omega
       ·have hg':w.heap[g]?=some (.cells cur e' (0,0)):=hg
        rcases h.hok.has id cs hH hsp with ⟨hnone,_⟩|⟨g2,cur2,e2,hM2,hg2,hdc⟩
        ·rw [hMg] at hnone;cases hnone
        ·rw [hMg] at hM2
         injection hM2 with hM2
         subst hM2
         rw [hg] at hg2
         injection hg2 with hg2
         injection hg2 with hg2 hg3
         subst hg2 hg3
         obtain ⟨htd,htl⟩:=take_of_den hdc (k*i.size) hcl
         by_cases hroom:k+m≤cap
         ·-- there is room
          have hfit:k*i.size+news.length≤cur.size:=by rw [hnm,hcs,← Nat.add_mul];exact Nat.mul_le_mul_right _ hroom
          have hap:=Dwz (P:=P) (ty:=o.type) hu hi g k cap cur e' hg' ⟨gy,oy,none⟩ m capy news hnm hncell hn1 hroom hfit
          have hrun:=hexec _ _ (by rw [hv,hyev];exact hap)
          have hrow:=setRow_heap w g cur (cur.toList.take (k*i.size)++news++cur.toList.drop (k*i.size+news.length)).toArray e' _ hg'
          have hsz:(cur.toList.take (k*i.size)++news++cur.toList.drop (k*i.size+news.length)).toArray.size=cur.size:=by simp;omega
          have hMM:upd M id (some g)=M:=B8z _ _ _ hMg
          refine ⟨upd M id (some g),_,_,Tr.grow (w':=w.setRow g (cur.toList.take (k*i.size)++news++cur.toList.drop (k*i.size+news.length)).toArray) (g':=g) h.hok h.old hH' hsp hpin (by simp;omega) hrow (.inl hMg)
           (fun q hq hne=>setRow_other w g q _ (fun he=>hne (he ▸ hMg))) (fun q hq cur3 e3 hb3=>?_) (by simp) rfl rfl rfl ?_,.inl hrun,?_⟩
          ·have:q=g:=by
            have hq2:some g=some q:=hMg.symm.trans hq
            injection hq2 with hq2;exact hq2.symm
           subst this
           rw [hg'] at hb3
           injection hb3 with hb3
           injection hb3 with hb3 hb4
           subst hb3 hb4
           exact ⟨_,_,hrow,hsz⟩
          ·simp only
           rw [List.append_assoc]
           refine Fsz htd (by omega) (Cyz hnd)
          ·simp only [Den,updO]
           refine ⟨rfl,_,Aqz _ _ _,?_,by rw [D8z,hsp,A2z hdy];rfl,fun _=>.inr ⟨g,cap,_,e',Aqz _ _ _,rfl,hroom,hcm,hrow,by rw [hsz];exact hcs⟩⟩
           rw [List.length_append,Nat.add_mul];omega
         ·-- it moves
          have holds:∀ j u,(cur.toList.take (k*i.size))[j]?=some u→w.cell? ((⟨g,0,none⟩:Addr).add j)=some u:=by
           intro j u hu'
           rw [Addr.add_lit]
           rw [List.getElem?_take] at hu'
           split at hu'
           ·simpa [World.cell?,hg'] using hu'
           ·cases hu'
          have hap:=run_append_grow (P:=P) w t o.type e i z hu hi hz ⟨g,0,none⟩ k cap _ htl holds ⟨gy,oy,none⟩ m capy news hnm hncell (by omega) (by omega) (growslice_fits (by omega) hb47)
          have hrun:=hexec _ _ (by rw [hv,hyev];exact hap)
          have hge:=grownCap_ge w (k+m) cap e
          have hcap:=grownCap_le_maxLen w (k+m) cap e (by simp only [maxLen];omega)
          have hkeep:∀ q,q<w.heap.size→(w.drew.alloc (.cells ((cur.toList.take (k*i.size)).toArray++news.toArray++Builtin.zeroCells z.cells (grownCap w (k+m) cap e-(k+m))) e)).heap[q]?=w.heap[q]?:=fun q hq=>old_alloc w.drew _ hq
          refine ⟨upd M id (some w.heap.size),_,_,Tr.grow (w':=w.drew.alloc (.cells ((cur.toList.take (k*i.size)).toArray++news.toArray++Builtin.zeroCells z.cells (grownCap w (k+m) cap e-(k+m))) e)) (g':=w.heap.size) h.hok h.old hH' hsp hpin (by simp;omega) (heap_alloc_new w.drew _) (.inr (Nat.le_refl _))
           (fun q hq _=>hkeep q hq) (fun q hq cur3 e3 hb3=>⟨cur3,e3,(hkeep q (lt_of_heap hb3)).trans hb3,rfl⟩) (by simp) rfl rfl rfl ?_,.inl hrun,?_⟩
          ·simp only [Array.toList_append,List.append_assoc]
           exact Fsz htd (by omega) (Cyz hnd)
          ·simp only [Den,updO]
           refine ⟨rfl,_,Aqz _ _ _,by rw [List.length_append,Nat.add_mul];omega,by rw [D8z,hsp,A2z hdy];rfl,fun _=>.inr ⟨w.heap.size,_,_,e,Aqz _ _ _,rfl,hge,hcap,heap_alloc_new w.drew _,?_⟩⟩
           simp only [Array.size_append,List.size_toArray,size_zeroCells,hnm,hz1,htl,← Nat.add_mul]
           congr 1;omega
    ·cases hr
   ·rename_i id len off k sz cc hxv
    rw [hxv] at hx
    simp only [Den] at hx
    obtain ⟨h1x,cs,hH,hle,⟨hof,hkc⟩,hsp,hval⟩:=hx
    have hH':s.H id=some cs:=hH
    simp only [hH'] at hr
    split at hr
    ·rename_i hc
     obtain ⟨rfl,hcl,hroomc⟩:=hc
     simp only [Option.some.injEq] at hr
     subst hr
     have hcase:=hval hcl
     by_cases hm:m=0
     ·subst hm
      have hys0:ys=[]:=List.eq_nil_of_length_eq_zero (by simpa using hyl)
      subst hys0
      have hyz:(a.eval y=.slice none 0 0)∨∃ b c,a.eval y=.slice (some b) 0 c:=by
       rcases hyv with ⟨q,_⟩|⟨g,o',cap,cur,e',fz,q,_⟩
       ·exact q
       ·exact .inr ⟨_,_,q⟩
      have hval2:∃ base cap,a.eval x=.slice base k cap∧k≤cap:=by
       rcases hcase with ⟨q,rfl,_⟩|⟨g,o',cap,_,q,q2,_⟩
       ·exact ⟨none,0,q,Nat.le_refl _⟩
       ·exact ⟨_,_,q,by omega⟩
      obtain ⟨base,cap,hv,hkc'⟩:=hval2
      have hrun:=hexec _ _ (by rw [hv];exact Buz (ty:=o.type) hu hi base k cap hkc' _ hyz)
      refine ⟨M,w,_,?_,.inl hrun,?_⟩
      ·simp only [updO,setRange]
       rw [B8z _ _ _ hH']
       exact Tr.refl h
      ·simp only [updO,setRange,Nat.add_zero]
       rw [B8z _ _ _ hH']
       have hx:=h.ev x
       rw [hxv] at hx
       rw [← hv]
       exact hx
     ·rcases hyv with ⟨_,_,q⟩|⟨gy,oy,capy,cury,ey,fzy,hyev,hgy,_,hdy⟩
      ·omega
      ·obtain ⟨news,hnl,hnd,hncell,hn1⟩:=G3z hgy hdy hyc
       have hnm:news.length=m*i.size:=by omega
       have hfc:k*i.size+m*i.size≤cc*i.size:=by rw [← Nat.add_mul];exact Nat.mul_le_mul_right _ hroomc
       rcases hcase with ⟨hv,_,_⟩|⟨g,o',cap,hMg,hv,hcc,hoo⟩
       ·omega
       ·have ho':=hoo (by omega)
        subst ho'
        rcases h.hok.has id cs hH hsp with ⟨hnone,_⟩|⟨g2,cur,e',hM2,hg',hdc⟩
        ·rw [hMg] at hnone;cases hnone
        ·rw [hMg] at hM2
         injection hM2 with hM2
         subst hM2
         have hlc:=A7z hdc
         have hg'2:w.heap[g]?=some (.cells cur e' (0,0)):=hg'
         have hfit:o'+k*i.size+news.length≤cur.size:=by
          have:cs.length≤cur.size:=by simpa using hlc
          omega
         have hap:=Emz (P:=P) (ty:=o.type) hu hi g o' k cap cur e' hg' ⟨gy,oy,none⟩ m capy news hnm hncell hn1 (by omega) hfit
         have hrun:=hexec _ _ (by rw [hv,hyev];exact hap)
         have hrow:=setRow_heap w g cur (cur.toList.take (o'+k*i.size)++news++cur.toList.drop (o'+k*i.size+news.length)).toArray e' _ hg'
         have hsz:(cur.toList.take (o'+k*i.size)++news++cur.toList.drop (o'+k*i.size+news.length)).toArray.size=cur.size:=by simp;omega
         have tr:=Tr.set (w':=w.setRow g (cur.toList.take (o'+k*i.size)++news++cur.toList.drop (o'+k*i.size+news.length)).toArray) h.hok h.old hH' hsp hMg (cs':=setRange cs (o'+k*i.size) ys) (setRange_length _ _ _) hrow (fun cur3 e3 hb3=>by
           rw [hg'2] at hb3
           injection hb3 with hb3
           injection hb3 with hb3 hb4
           subst hb3
           exact hsz) (fun q hq=>setRow_other w g q _ hq) (by simp) rfl rfl rfl (by
           have:=Cgz hdc hnd hnl (off:=o'+k*i.size) (by omega)
           rw [← hnl] at this
           simpa using this)
         refine ⟨M,_,_,tr,.inl hrun,?_⟩
         simp only [Den,updO]
         exact ⟨rfl,_,Aqz _ _ _,by rw [setRange_length];omega,⟨by omega,by omega⟩,(tr.keeps.sp id cs _ hH' (Aqz _ _ _)).1.trans hsp,fun _=>.inr ⟨g,o',cap,hMg,rfl,hcc,fun _=>rfl⟩⟩
    ·cases hr
   ·rename_i hxv
    rw [hxv] at hx
    simp only [Den] at hx
    split at hr
    ·rename_i hc
     obtain ⟨hc1,hpin,hbound⟩:=hc
     simp only [Option.some.injEq] at hr
     subst hr
     have hH':s.H (16*d)=none:=by simpa using hc1
     by_cases hm:m=0
     ·subst hm
      have hys0:ys=[]:=List.eq_nil_of_length_eq_zero (by simpa using hyl)
      subst hys0
      have hyz:(a.eval y=.slice none 0 0)∨∃ b c,a.eval y=.slice (some b) 0 c:=by
       rcases hyv with ⟨q,_⟩|⟨g,o',cap,cur,e',fz,q,_⟩
       ·exact q
       ·exact .inr ⟨_,_,q⟩
      have hrun:=hexec _ _ (by rw [hx];exact Buz (ty:=o.type) hu hi none 0 0 (Nat.le_refl _) _ hyz)
      refine ⟨M,w,_,Tr.adopt h.hok h.old hH',.inl hrun,?_⟩
      simp only [Den,updO]
      exact ⟨rfl,[],Aqz _ _ _,by simp,rfl,fun _=>.inl ⟨by trivial,by trivial,h.hok.no _ hH'⟩⟩
     ·rcases hyv with ⟨_,_,q⟩|⟨gy,oy,capy,cury,ey,fzy,hyev,hgy,_,hdy⟩
      ·omega
      ·obtain ⟨news,hnl,hnd,hncell,hn1⟩:=G3z hgy hdy hyc
       have hnm:news.length=m*i.size:=by omega
       have hpos:0<m*i.size:=Nat.mul_pos (by omega) hz2
       have hb47:m*i.bytes≤140737488355328:=by
        have:m*i.bytes≤1099511627776*128:=Nat.mul_le_mul hbound hz3
        omega
       have hap:=run_append_nil (P:=P) w t o.type e i z hu hi hz ⟨gy,oy,none⟩ m capy news hnm hncell (by omega) (by omega) (by omega)
       have hrun:=hexec _ _ (by rw [hx,hyev];exact hap)
       have hge:=grownCap_ge w m 0 e
       have hcap:=grownCap_le_maxLen w m 0 e (by simp only [maxLen];omega)
       refine ⟨upd M (16*d) (some w.heap.size),_,_,Tr.alloc (w':=w.drew.alloc (.cells (news.toArray++Builtin.zeroCells z.cells (grownCap w m 0 e-m)) e)) (vs:=news.toArray++Builtin.zeroCells z.cells (grownCap w m 0 e-m)) (e:=e) h.hok h.old hH' hpin rfl rfl rfl rfl ?_,.inl hrun,?_⟩
       ·simp only [Array.toList_append]
        exact Cyz (by simpa using hnd)
       ·simp only [Den,updO]
        refine ⟨rfl,_,Aqz _ _ _,by omega,A2z hdy,fun _=>.inr ⟨w.heap.size,_,_,e,Aqz _ _ _,rfl,hge,hcap,heap_alloc_new w.drew _,?_⟩⟩
        simp only [Array.size_append,List.size_toArray,size_zeroCells,hnm,hz1,← Nat.add_mul]
        congr 1;omega
    ·cases hr
   ·cases hr
  ·cases hr
 ·cases hr

end
end Vw
namespace Vw
open Go
variable [Inhabited GlobT]

section
variable {P:Program} {E:Env} {M:Nat→Option Nat} {H:Nat→Option (List AV)} {s:S} {a:Act} {w:World} {o:Oper} {pin d:Nat} {r:AV×Option (Nat×List AV)}

theorem Gpz {C:Ctx}(hk:HOK C){x:AV}{v:Value}{id len off n sz c:Nat}{cs:List AV}(h:Den C x v)(ht:x.tgt=some (id,len,off,n,sz,c))(hH:C.H id=some cs)(hl:cs.length=len) :
  ((off+c*sz≤len∧n≤c)∧spL cs=false)∧((v=.slice none 0 0∧n=0∧c=0)∨∃ g o cap,C.M id=some g∧v=.slice (some ⟨g,o,none⟩) n cap∧c≤cap∧(c≠0→o=off)):=by
 unfold AV.tgt at ht
 split at ht
 ·rename_i id' n' sz'
  simp only [Option.some.injEq,Prod.mk.injEq] at ht
  obtain ⟨rfl,rfl,rfl,rfl,rfl,rfl⟩:=ht
  simp only [Den] at h
  obtain ⟨_,cs',hH',hle,hsp,hval⟩:=h
  rw [hH] at hH'
  injection hH' with hH'
  subst hH'
  refine ⟨⟨⟨by omega,Nat.le_refl _⟩,hsp⟩,?_⟩
  rcases hval hl with ⟨a,b,_⟩|⟨g,cap,cur,e,hM,hv,hn,_⟩
  ·exact .inl ⟨a,b,b⟩
  ·exact .inr ⟨g,0,cap,hM,hv,hn,fun _=>rfl⟩
 ·rename_i id' len' off' n' sz' c'
  simp only [Option.some.injEq,Prod.mk.injEq] at ht
  obtain ⟨rfl,rfl,rfl,rfl,rfl,rfl⟩:=ht
  simp only [Den] at h
  obtain ⟨_,cs',hH',hle,hof,hsp,hval⟩:=h
  rw [hH] at hH'
  injection hH' with hH'
  subst hH'
  exact ⟨⟨hof,hsp⟩,hval hl⟩
 ·cases ht

theorem Tr.store (h:St E M s a w){id g off:Nat}{cs l:List AV}{us:List Value}{cur:Array Value}{e:TypeId}(hH:s.H id=some cs)(hsp:spL cs=false)(hM:M id=some g)(hg:w.heap[g]?=some (.cells cur e (0,0)))(hd:DenP (E.C M s.H w) cs cur.toList)
  (hl:DenP (E.C M s.H w) l us) (hu:us.length=l.length) (ho:off+l.length≤cs.length) :
  Tr E M s.H w M (upd s.H id (some (setRange cs off l))) (w.setRow g (cur.toList.take off++us++cur.toList.drop (off+us.length)).toArray):=by
 have hlc:=A7z hd
 have hsz:(cur.toList.take off++us++cur.toList.drop (off+us.length)).toArray.size=cur.size:=by
  have:cs.length≤cur.size:=by simpa using hlc
  simp;omega
 refine Tr.set h.hok h.old hH hsp hM (setRange_length _ _ _) (setRow_heap w g cur _ e _ hg) (fun cur3 e3 hb3=>?_) (fun q hq=>setRow_other w g q _ hq) (by simp) rfl rfl rfl ?_
 ·rw [hg] at hb3
  injection hb3 with hb3
  injection hb3 with hb3 hb4
  subst hb3
  exact hsz
 ·have:=Cgz hd hl hu ho
  rw [hu]
  simpa using this

theorem D6z (C:Ctx)(zs:Array Value)(n:Nat)(h0:0<zs.size):DenP C (zcells (zs.toList.map ofCell) n) (Builtin.zeroCells zs n).toList:=by
 rw [Axz]
 intro j b hb
 unfold zcells at hb
 simp only [List.length_map,Array.length_toList] at hb
 rw [List.getElem?_map] at hb
 by_cases hj:j<n*zs.size
 ·rw [List.getElem?_range hj] at hb
  simp only [Option.map_some,Option.some.injEq] at hb
  have hm:j % zs.size<zs.size:=Nat.mod_lt _ h0
  refine ⟨zs[j % zs.size],?_,?_⟩
  ·simp [Builtin.zeroCells,hj,getElem!_def,hm]
  ·rw [List.getD_eq_getElem?_getD,List.getElem?_map] at hb
   simp [hm] at hb
   subst hb
   exact Dbz C _
 ·rw [List.getElem?_eq_none (by simp;omega)] at hb
  simp at hb

theorem sound_clr (h:St E M s a w){c:Call}{n:Nat}{zs:List Value}{x:Operand}(ho:o.op=.call c)(hl:lowCall P c=some (.clr n zs x))(hr:arun s E.pin d (.clr n zs x)=some r):Owed P E M s a w o r:=by
 have hx:=h.ev x
 have hl':=Gcz hl (fun b hb=>E9z hb) rfl
 rcases lowWr_some hl' with ⟨x',t,hc1,hc2,hc3,hlc⟩|⟨_,_,_,_,_,_,_,hlc⟩
 ·obtain ⟨e,i,z,hu,hi,hz,hz1,hz2,hz3,he⟩:=Dmz hlc
  injection he with h1 h2 h3
  subst h1 h2 h3
  have hexec:∀ v w',(Builtin.clear_ #[t] o.type #[a.eval x]).run P w=.ok v w'→(execOp a.eval o).run P w=.ok (.value v) w':=by
   intro v w' hv
   simp [execOp,ho,resolve,hc1,hc2,hc3,invoke,builtin,hv]
  simp only [arun] at hr
  split at hr
  ·rename_i id len off k sz' cap' ht
   split at hr
   ·rename_i cs hH
    split at hr
    ·rename_i hc
     obtain ⟨rfl,hcl⟩:=hc
     simp only [Option.some.injEq] at hr
     subst hr
     obtain ⟨⟨⟨hof,hkc⟩,hsp⟩,hcase⟩:=Gpz h.hok hx ht hH hcl
     have hzl:(zcells (z.cells.toList.map ofCell) k).length=k*z.cells.size:=by simp [zcells]
     by_cases hk0:k=0
     ·subst hk0
      have hval:∃ base cap,a.eval x=.slice base 0 cap:=by
       rcases hcase with ⟨q,_,_⟩|⟨g,o',cap,_,q,_⟩
       ·exact ⟨_,_,q⟩
       ·exact ⟨_,_,q⟩
      obtain ⟨base,cap,hv⟩:=hval
      have hrun:=hexec (.tuple #[]) w (by rw [hv];cases base<;>simp [Builtin.clear_,run_underlying hu])
      refine ⟨M,w,_,?_,.inl hrun,?_⟩
      ·have:zcells (z.cells.toList.map ofCell) 0=[]:=List.eq_nil_of_length_eq_zero (by rw [hzl];simp)
       simp only [updO,this,setRange]
       rw [B8z _ _ _ hH]
       exact Tr.refl h
      ·simp only [Den];exact ⟨#[],rfl,rfl,by simp [DenP]⟩
     ·rcases hcase with ⟨_,q,_⟩|⟨g,o',cap,hMg,hv,hcc,hoo⟩
      ·omega
      ·have ho':=hoo (by omega)
       subst ho'
       rcases h.hok.has id cs hH hsp with ⟨hnone,_⟩|⟨g2,cur,e',hM2,hg',hdc⟩
       ·rw [hMg] at hnone;cases hnone
       ·rw [hMg] at hM2
        injection hM2 with hM2
        subst hM2
        have hg2:w.heap[g]?=some (.cells cur e' (0,0)):=hg'
        have hlc:=A7z hdc
        have hfk:k*i.size≤cap'*i.size:=Nat.mul_le_mul_right _ hkc
        have hzs:(Builtin.zeroCells z.cells k).size=k*i.size:=by rw [size_zeroCells,hz1]
        have hmem:∀ q,q<z.cells.size→z.cells[q]!.oneCell'=true:=fun q hq=>by
         rw [getElem!_pos z.cells q hq]
         exact List.all_eq_true.1 hz3 _ (by simp)
        have hst:=run_storeCells_at P g o' e' (Builtin.zeroCells z.cells k).toList 0 cur w hg2 (by
          have:cs.length≤cur.size:=by simpa using hlc
          simp [hzs];omega) (fun v hv=>by
          obtain ⟨j,hj,rfl⟩:=List.getElem_of_mem hv
          simp only [Builtin.zeroCells,Array.toList_map,List.getElem_map]
          exact hmem _ (Nat.mod_lt _ (by omega)))
        simp only [Nat.add_zero] at hst
        obtain ⟨k',rfl⟩:∃ k',k=k'+1:=⟨k-1,by omega⟩
        generalize hW:w.setRow g (cur.toList.take o'++(Builtin.zeroCells z.cells (k'+1)).toList++cur.toList.drop (o'+(Builtin.zeroCells z.cells (k'+1)).toList.length)).toArray=W at hst
        have hrun:=hexec (.tuple #[]) W (by
          rw [hv]
          simp [Builtin.clear_,run_underlying hu,zeroValue,typeInfo,hi,hz,hst])
        refine ⟨M,W,_,by rw [← hW];exact Tr.store (off:=o') h hH hsp hMg hg2 hdc (D6z _ z.cells (k'+1) (by omega)) (by simp [zcells,hzs,hz1]) (by rw [hzl,hz1];omega),.inl hrun,?_⟩
        simp only [Den];exact ⟨#[],rfl,rfl,by simp [DenP]⟩
    ·cases hr
   ·cases hr
  ·cases hr
 ·obtain ⟨_,_,_,_,_,he⟩:=Dlz hlc;cases he

theorem C2z (h:St E M s a w){t e:TypeId}{n m K mb hb lb:Nat}{x hi mx:Operand}{lo:Option Operand}(ho:o.op=.slice t x lo (some hi) (some mx))(hu:P.underlying t=some (.slice e))(hn:sizeAt P e=some n)(ad:Option Addr)(cap:Nat)
  (hv:a.eval x=.slice ad m cap) (hKc:K≤cap) (hmb:bnd K K (some (s.ev mx))=some mb) (hhb:bnd mb mb (some (s.ev hi))=some hb) (hlb:bnd hb 0 (lo.map s.ev)=some lb) :
  (execOp a.eval o).run P w=.ok (.value (.slice (if mb=lb then ad else ad.map (·.add (lb*n))) (hb-lb) (mb-lb))) w∧mb≤K∧hb≤mb∧lb≤hb:=by
 have hlh:lb≤hb:=by rcases bnd_spec h hlb with ⟨_,rfl⟩|⟨_,_,_,_,hle⟩<;>omega
 rcases bnd_spec (x:=some mx) h hmb with ⟨q,_⟩|⟨ym,km,qm,hym,hmle⟩
 ·cases q
 rcases bnd_spec (x:=some hi) h hhb with ⟨q,_⟩|⟨yh,kh,qh,hyh,hhle⟩
 ·cases q
 injection qm with qm
 injection qh with qh
 subst qm qh
 refine ⟨?_,hmle,hhle,hlh⟩
 have h1:(mb:Int)≤(cap:Int):=by omega
 have h2:(hb:Int)≤(mb:Int):=by omega
 have h3:(lb:Int)≤(hb:Int):=by omega
 rcases bnd_spec h hlb with ⟨rfl,rfl⟩|⟨y',k2,rfl,hy',hle'⟩ <;>
  simp [execOp,ho,hv,Instr.sliceAt,Instr.slice,run_underlying hu,Instr.sliceBounds,Instr.sliceBound,asIntOf,A3z hn, *]<;>(try (intro hlt;omega))

theorem sound_slice3 (h:St E M s a w){t e:TypeId}{n:Nat}{x hi mx:Operand}{lo:Option Operand}(ho:o.op=.slice t x lo (some hi) (some mx))(hu:P.underlying t=some (.slice e))(hn:sizeAt P e=some n)
    (hr:arun s pin d (.slice3 n x lo hi mx)=some r):Owed P E M s a w o r:=by
  have hx:=h.ev x
  simp only [arun] at hr
  split at hr
  · rename_i fr cs m hxv
    rw [hxv] at hx
    simp only [Den] at hx
    split at hr
    · rename_i mb hmb
      split at hr
      · rename_i hb hhb
        split at hr
        · rename_i lb hlb
          simp only [Option.some.injEq] at hr
          subst hr
          rcases hx with ⟨hv,rfl,rfl⟩|⟨g,o',cap,cur,e',fz,hv,hg,hok,hle,hd⟩
          · obtain ⟨ad,c',hv⟩:=hv.at
            obtain ⟨run,q1,q2,q3⟩:=C2z h ho hu hn ad c' hv (Nat.zero_le _) hmb hhb hlb
            have e0:mb=0:=by omega
            have e1:hb=0:=by omega
            have e2:lb=0:=by omega
            subst e0 e1 e2
            refine Anz h run ?_
            simp only [Den]
            refine .inl ⟨?_,by simp,by simp⟩
            cases ad with
            | none=>exact .inl (by simp)
            | some ad=>exact .inr ⟨ad,0,by simp⟩
          · obtain ⟨run,q1,q2,q3⟩:=C2z h ho hu hn _ cap hv hle hmb hhb hlb
            refine Anz h run ?_
            simp only [Den]
            refine .inr ?_
            by_cases hcl:mb=lb
            · refine ⟨g,o',mb-lb,cur,e',fz,by simp [hcl],hg,hok,by omega,?_⟩
              have : (hb - lb) * n = 0 := by have : hb - lb = 0 := by omega
                                             rw [this];simp
              rw [this]
              simp [DenP]
            · refine ⟨g,o'+lb*n,mb-lb,cur,e',fz,by simp [hcl,Addr.add_lit],hg,hok,by omega,?_⟩
              have:=Cxz (Boz hd (lb*n)) ((hb-lb)*n)
              rwa [List.drop_drop] at this
        · cases hr
      · cases hr
    · cases hr
  · split at hr
    · rename_i id len off k sz' cc ht
      split at hr
      · rename_i cs hH
        split at hr
        · rename_i hc
          obtain ⟨hcl,rfl⟩:=hc
          split at hr
          · rename_i mb hmb
            split at hr
            · rename_i hb hhb
              split at hr
              · rename_i lb hlb
                simp only [Option.some.injEq] at hr
                subst hr
                obtain ⟨⟨⟨hof,hkc⟩,hsp⟩,hcase⟩:=Gpz h.hok hx ht hH hcl
                rcases hcase with ⟨hv,rfl,rfl⟩|⟨g,o',cap,hM,hv,hcap,hoo⟩
                · obtain ⟨run,q1,q2,q3⟩:=C2z h ho hu hn none 0 hv (Nat.le_refl _) hmb hhb hlb
                  have e0:mb=0:=by omega
                  have e1:hb=0:=by omega
                  have e2:lb=0:=by omega
                  subst e0 e1 e2
                  refine Anz h run ?_
                  simp only [Den]
                  exact ⟨by simp [Value.oneCell'],cs,hH,by omega,⟨by omega,by omega⟩,hsp,fun _=>.inl ⟨by simp,by simp,by simp⟩⟩
                · obtain ⟨run,q1,q2,q3⟩:=C2z h ho hu hn _ cap hv hcap hmb hhb hlb
                  have hfit:lb*sz'+(mb-lb)*sz'≤cc*sz':=by rw [← Nat.add_mul];exact Nat.mul_le_mul_right _ (by omega)
                  refine Anz h run ?_
                  simp only [Den]
                  refine ⟨by by_cases hcl:mb=lb<;>simp [Value.oneCell',hcl],cs,hH,by omega,⟨by omega,by omega⟩,hsp,fun _=>.inr ?_⟩
                  by_cases hcl:mb=lb
                  · exact ⟨g,o',mb-lb,hM,by simp [hcl],by omega,fun hne=>by omega⟩
                  · exact ⟨g,o'+lb*sz',mb-lb,hM,by simp [hcl,Addr.add_lit],by omega,fun hne=>by rw [hoo (by omega)]⟩
              · cases hr
            · cases hr
          · cases hr
        · cases hr
      · cases hr
    · cases hr

theorem sound_cpy (h:St E M s a w){c:Call}{n:Nat}{x y:Operand}(ho:o.op=.call c)(hl:lowCall P c=some (.cpy n x y))(hr:arun s E.pin d (.cpy n x y)=some r):Owed P E M s a w o r:=by
 have hx:=h.ev x
 have hy:=h.ev y
 have hl':=Gcz hl (fun b hb=>E9z hb) rfl
 rcases lowWr_some hl' with ⟨_,_,_,_,_,hlc⟩|⟨x',y',t,t',hc1,hc2,hc3,hlc⟩
 ·obtain ⟨_,_,_,_,_,_,_,_,_,he⟩:=Dmz hlc;cases he
 ·obtain ⟨e,sz,hu,hsz,hpos,he⟩:=Dlz hlc
  injection he with h1 h2 h3
  subst h1 h2 h3
  have hexec:∀ v w',(Builtin.copy_ #[t,t'] o.type #[a.eval x,a.eval y]).run P w=.ok v w'→(execOp a.eval o).run P w=.ok (.value v) w':=by
   intro v w' hv
   simp [execOp,ho,resolve,hc1,hc2,hc3,invoke,builtin,hv]
  simp only [arun] at hr
  split at hr
  ·rename_i ys m hrd
   split at hr
   ·rename_i hys
    obtain ⟨hyl,hyc⟩:=hys
    have hyv:=rd_spec h.hok hy hrd
    split at hr
    ·rename_i id len off k sz' cap' ht
     split at hr
     ·rename_i cs hH
      split at hr
      ·rename_i hc
       obtain ⟨rfl,hcl⟩:=hc
       simp only [Option.some.injEq] at hr
       subst hr
       obtain ⟨⟨⟨hof,hkc⟩,hsp⟩,hcase⟩:=Gpz h.hok hx ht hH hcl
       by_cases hk0:min m k=0
       ·have hval:∃ base cap,a.eval x=.slice base k cap:=by
         rcases hcase with ⟨q,rfl,_⟩|⟨g,o',cap,_,q,_⟩
         ·exact ⟨_,_,q⟩
         ·exact ⟨_,_,q⟩
        obtain ⟨base,cap,hv⟩:=hval
        have hyval:∃ base cap,a.eval y=.slice base m cap:=by
         rcases hyv with ⟨q,_,rfl⟩|⟨g,o',cap,cur,e',fz,q,_⟩
         ·obtain ⟨p,c,q⟩:=q.at;exact ⟨_,_,q⟩
         ·exact ⟨_,_,q⟩
        obtain ⟨base2,cap2,hv2⟩:=hyval
        have hk0':Nat.min m k=0:=hk0
        have hrun:=hexec (.int .i64 0) w (by rw [hv,hv2];cases base<;>cases base2<;>simp [Builtin.copy_,run_underlying hu,A3z hsz,Builtin.lenOf,hk0',Builtin.firstCells,loadCells,loadCellsFrom,storeCells,goInt])
        refine ⟨M,w,_,?_,.inl hrun,?_⟩
        ·simp only [updO,hk0,Nat.zero_mul,List.take_zero,setRange]
         rw [B8z _ _ _ hH]
         exact Tr.refl h
        ·simp [Den,hk0]
       ·rcases hcase with ⟨_,q,_⟩|⟨g,o',cap,hMg,hv,hcc,hoo⟩
        ·omega
        ·have ho':=hoo (by omega)
         subst ho'
         rcases hyv with ⟨_,_,q⟩|⟨gy,oy,capy,cury,ey,fzy,hyev,hgy,_,hdy⟩
         ·omega
         ·obtain ⟨news,hnl,hnd,hncell,hn1⟩:=G3z hgy hdy hyc
          rcases h.hok.has id cs hH hsp with ⟨hnone,_⟩|⟨g2,cur,e',hM2,hg',hdc⟩
          ·rw [hMg] at hnone;cases hnone
          ·rw [hMg] at hM2
           injection hM2 with hM2
           subst hM2
           have hg2:w.heap[g]?=some (.cells cur e' (0,0)):=hg'
           have hlc:=A7z hdc
           have hfk:k*sz'≤cap'*sz':=Nat.mul_le_mul_right _ hkc
           have hmk:min m k*sz'≤k*sz':=Nat.mul_le_mul_right _ (Nat.min_le_right _ _)
           have hmm:min m k*sz'≤m*sz':=Nat.mul_le_mul_right _ (Nat.min_le_left _ _)
           have hnt:(news.take (min m k*sz')).length=min m k*sz':=by rw [List.length_take];omega
           have hf:=run_firstCells_some (P:=P) w sz' (min m k) ⟨gy,oy,none⟩ m capy (news.take (min m k*sz')) hnt (fun j v hj=>by
            rw [List.getElem?_take] at hj
            split at hj
            ·exact hncell j v hj
            ·cases hj)
           have hst:=run_storeCells_at P g o' e' (news.take (min m k*sz')) 0 cur w hg2 (by
             have:cs.length≤cur.size:=by simpa using hlc
             omega) (fun v hv=>hn1 v (List.mem_of_mem_take hv))
           simp only [Nat.add_zero] at hst
           generalize hW:w.setRow g (cur.toList.take o'++news.take (min m k*sz')++cur.toList.drop (o'+(news.take (min m k*sz')).length)).toArray=W at hst
           have hrun:=hexec (.int .i64 (min m k:Nat)) W (by
             rw [hv,hyev]
             have hf':(Builtin.firstCells sz' (Nat.min m k) (.slice (some ⟨gy,oy,none⟩) m capy)).run P w=.ok (news.take (min m k*sz')).toArray w:=hf
             simp [Builtin.copy_,run_underlying hu,A3z hsz,Builtin.lenOf,hf',hst,goInt])
           refine ⟨M,W,_,by rw [← hW];exact Tr.store (off:=o') h hH hsp hMg hg2 hdc (B6z hnd (min m k*sz')) (by rw [hnt,List.length_take];omega) (by rw [List.length_take];omega),.inl hrun,?_⟩
           simp [Den]
      ·cases hr
     ·cases hr
    ·cases hr
   ·cases hr
  ·cases hr

def setRV (vs:List Value)(off:Nat):List Value→List Value
 | []=>vs
 | u::r=>setRV (vs.set off u) (off+1) r

theorem Gjz {C:Ctx}:∀ {l:List AV} {us:List Value} {cs:List AV} {vs:List Value} {off:Nat},DenP C cs vs→DenP C l us→us.length=l.length→DenP C (setRange cs off l) (setRV vs off us)
 | [],[],_,_,_,h,_,_=>h
 | c::l,u::us,cs,vs,off,h,hl,hu=>by
  simp only [setRange,setRV]
  simp only [DenP] at hl
  exact Gjz (denP_set h off hl.1) hl.2 (by simpa using hu)
 | [],_::_,_,_,_,_,_,hu=>by simp at hu
 | _::_,[],_,_,_,_,_,hu=>by simp at hu

theorem Ejz:∀ (us vs:List Value) (off:Nat),(setRV vs off us).length=vs.length
 | [],_,_=>rfl
 | u::us,vs,off=>by rw [setRV,Ejz us];simp

theorem foldl_zip:∀ (us:List Value) (off k:Nat) (cells:Array Value),
  ((us.zipIdx k).foldl (fun cs (x:Value×Nat)=>cs.setIfInBounds (off+x.2) x.1) cells).toList=setRV cells.toList (off+k) us
 | [],_,_,_=>rfl
 | u::us,off,k,cells=>by
  rw [List.zipIdx_cons,List.foldl_cons,foldl_zip us off (k+1),setRV,Array.toList_setIfInBounds]
  rfl

theorem Cuz {C:Ctx}(ρ:Operand→Value)(ev:Operand→AV)(hev:∀ x,Den C (ev x) (ρ x))(place:Nat→Option (Nat×Nat)) :
  ∀ (ps:List (Nat×Operand)) (qs:List (Nat×Nat×Operand)) (cs cs':List AV) (cells:Array Value),qs.map (fun q=>(some (q.1,q.2.1),q.2.2))=ps.map (fun p=>(place p.1,p.2))→DenP C cs cells.toList→cs.length=cells.size →
   fillR cs (qs.map fun p=>(p.1,p.2.1,ev p.2.2))=some cs'→∃ cells',Instr.fill place cells (ps.map fun p=>(p.1,ρ p.2))=some cells'∧DenP C cs' cells'.toList∧cs'.length=cells'.size∧cells'.size=cells.size
 | [],[],cs,cs',cells,_,hd,hl,hf=>by
  simp only [List.map_nil,fillR,Option.some.injEq] at hf
  subst hf
  exact ⟨cells,rfl,hd,hl,rfl⟩
 | [],_::_,_,_,_,hq,_,_,_=>by simp at hq
 | _::_,[],_,_,_,hq,_,_,_=>by simp at hq
 | (i,x)::ps,(off,sz,y)::qs,cs,cs',cells,hq,hd,hl,hf=>by
  simp only [List.map_cons,List.cons.injEq,Prod.mk.injEq] at hq
  obtain ⟨⟨hpl,rfl⟩,hq⟩:=hq
  simp only [List.map_cons,fillR] at hf
  split at hf
  ·rename_i l hl'
   split at hf
   ·rename_i hc
    obtain ⟨c1,c2,c3⟩:=Dcz (hev y) hl'
    have hfold:((ρ y).cells.zipIdx.foldl (fun cs (x:Value×Nat)=>cs.setIfInBounds (off+x.2) x.1) cells).toList=setRV cells.toList off (ρ y).cells.toList:=by
     rw [← Array.foldl_toList,Array.toList_zipIdx]
     simpa using foldl_zip (ρ y).cells.toList off 0 cells
    have hsz:((ρ y).cells.zipIdx.foldl (fun cs (x:Value×Nat)=>cs.setIfInBounds (off+x.2) x.1) cells).size=cells.size:=by
     have:=congrArg List.length hfold
     simpa [Ejz] using this
    have ih:=Cuz ρ ev hev place ps qs (setRange cs off l) cs' _ hq (by rw [hfold];exact Gjz hd c2 (by simpa using c1)) (by rw [setRange_length,hsz,hl]) hf
    obtain ⟨cells',h1,h2,h3,h4⟩:=ih
    refine ⟨cells',?_,h2,h3,h4.trans hsz⟩
    simp only [List.map_cons,Instr.fill,← hpl]
    rw [if_neg (by simp;omega)]
    exact h1
   ·cases hf
  ·cases hf

theorem Ekz {places:List (Nat×Nat)}:∀ {ps:List (Nat×Operand)} {qs:List (Nat×Nat×Operand)},partsAt places ps=some qs→qs.map (fun q=>(some (q.1,q.2.1),q.2.2))=ps.map (fun p=>(places[p.1]?,p.2))
 | [],qs,h=>by simp [partsAt] at h;subst h;rfl
 | (i,x)::ps,qs,h=>by
  simp only [partsAt] at h
  split at h
  ·rename_i q hq
   split at h
   ·rename_i l hl
    simp only [Option.some.injEq] at h
    subst h
    simp [hq,Ekz hl]
   ·cases h
  ·cases h

theorem Biz {t:TypeId}{zs:List Value}(hz:zeroCells P t=some zs):∃ i z,P.info? t=some i∧i.zero=some z∧zs=z.cells.toList:=by
 unfold zeroCells at hz
 split at hz
 ·rename_i i hi
  split at hz
  ·rename_i z hz'
   simp only [Option.some.injEq] at hz
   exact ⟨i,z,hi,hz',hz.symm⟩
  ·cases hz
 ·cases hz

theorem Hcz (h:St E M s a w):∀ l:List Operand,DenP (E.C M s.H w) (l.map s.ev) (l.map a.eval)
 | []=>by simp [DenP]
 | x::l=>by simp only [List.map_cons,DenP];exact ⟨h.ev x,Hcz h l⟩
theorem sound_mkfn (h:St E M s a w){fn:Fn}{us vs:Array Operand}(ho:o.op=.makeFunc fn us vs)(hr:arun s E.pin d (.mkfn fn us.toList vs.toList)=some r):Owed P E M s a w o r:=by
 simp only [arun,Option.some.injEq] at hr
 subst hr
 refine Anz h (v:=.func fn (us.map a.eval) (vs.map a.eval)) ?_ ?_
 ·simp [execOp,ho,Instr.makeFunc]
 ·simp only [Den]
  refine ⟨_,_,rfl,by simp,by simp,?_,?_⟩
  ·rw [Array.toList_map];exact Hcz h us.toList
  ·rw [Array.toList_map];exact Hcz h vs.toList
theorem sound_build (h:St E M s a w){t:TypeId}{ps:Array (Nat×Operand)}{zs:List Value}{qs:List (Nat×Nat×Operand)}(ho:o.op=.build t ps)(hl:lowOp P (.build t ps)=some (.build zs qs))(hr:arun s pin d (.build zs qs)=some r):Owed P E M s a w o r:=by
 simp only [arun] at hr
 cases hf:fillR (zs.map ofCell) (qs.map fun p=>(p.1,p.2.1,s.ev p.2.2)) with
 | none=>simp [hf] at hr
 | some cs' =>
  simp only [hf,Option.map_some,Option.some.injEq] at hr
  subst hr
  have fin:∀ (cells:Array Value),P.built t (ps.toList.map fun p=>(p.1,a.eval p.2))=some cells→DenP (E.C M s.H w) cs' cells.toList→cs'.length=cells.size→Owed P E M s a w o (.agg cs',none):=by
   intro cells hb hd hlen
   refine Anz h (v:=.agg cells) ?_ (by simp only [Den];exact ⟨cells,rfl,hlen.symm,hd⟩)
   have hb':P.built t (ps.map fun (p:Nat×Operand)=>(p.1,a.eval p.2)).toList=some cells:=by rw [Array.toList_map];exact hb
   simp [execOp,ho,run_build w t _ cells hb']
  simp only [lowOp] at hl
  split at hl
  ·rename_i zs' fields hz hu
   obtain ⟨i,z,hi,hz',rfl⟩:=Biz hz
   split at hl
   ·rename_i places hp
    cases hpa:partsAt places ps.toList with
    | none=>simp [hpa] at hl
    | some qs' =>
     simp only [hpa,Option.map_some,Option.some.injEq,AOp.build.injEq] at hl
     obtain ⟨rfl,rfl⟩:=hl
     have hp':fields.toList.mapM (fun f=>(P.info? f.type).map fun i=>(f.offset,i.size))=some places:=hp
     obtain ⟨cells',h1,h2,h3,_⟩:=Cuz (C:=E.C M s.H w) a.eval s.ev h.ev (fun k=>places.toArray[k]?) ps.toList qs' _ cs' z.cells (by simpa using Ekz hpa) (Bcz _ _) (by simp) hf
     refine fin cells' ?_ h2 h3
     simp only [Program.built,hi,hu,hz',hp']
     exact h1
   ·cases hl
  ·rename_i zs' len e hz hu
   obtain ⟨i,z,hi,hz',rfl⟩:=Biz hz
   cases hn:sizeAt P e with
   | none=>simp [hn] at hl
   | some n =>
    simp only [hn,Option.map_some,Option.some.injEq,AOp.build.injEq] at hl
    obtain ⟨rfl,rfl⟩:=hl
    obtain ⟨ie,hie,hsz⟩:=Elz hn
    obtain ⟨cells',h1,h2,h3,_⟩:=Cuz (C:=E.C M s.H w) a.eval s.ev h.ev (fun k=>some (k*n,n)) ps.toList (ps.toList.map fun p=>(p.1*n,n,p.2)) _ cs' z.cells (by simp) (Bcz _ _) (by simp) hf
    refine fin cells' ?_ h2 h3
    simp only [Program.built,hi,hu,hz',hie,hsz]
    exact h1
  ·cases hl

theorem sound_bslice (h:St E M s a w){t:TypeId}{ps:Array (Nat×Operand)}{sz n:Nat}{zs:List Value}{qs:List (Nat×Operand)}(ho:o.op=.buildSlice t n ps)(hl:lowOp P (.buildSlice t n ps)=some (.bslice sz zs qs n))(hr:arun s E.pin d (.bslice sz zs qs n)=some r):Owed P E M s a w o r:=by
 simp only [lowOp] at hl
 split at hl
 ·rename_i e hu
  split at hl
  ·rename_i sz' zs' hsz hz
   split at hl
   ·rename_i hc
    obtain ⟨hc1,hc2,hc3⟩:=hc
    simp only [Option.some.injEq,AOp.bslice.injEq,and_true] at hl
    obtain ⟨rfl,rfl,rfl⟩:=hl
    obtain ⟨i,z,hi,hz',rfl⟩:=Biz hz
    have hzs:z.cells.size=sz':=by simpa using hc1
    simp only [arun] at hr
    split at hr
    ·rename_i hcc
     have hH:s.H (16*d)=none:=by simpa using hcc.1
     cases hf:fillR (zcells (z.cells.toList.map ofCell) n) (ps.toList.map fun p=>(p.1*sz',sz',s.ev p.2)) with
     | none=>simp [hf] at hr
     | some cs' =>
      simp only [hf,Option.map_some,Option.some.injEq] at hr
      subst hr
      obtain ⟨zd,zl⟩:=Dgz (E.C M s.H w) z.cells n (by omega)
      rw [hzs] at zd zl
      obtain ⟨cells',h1,h2,h3,h4⟩:=Cuz (C:=E.C M s.H w) a.eval s.ev h.ev (fun k=>some (k*sz',sz')) ps.toList (ps.toList.map fun p=>(p.1*sz',sz',p.2)) _ cs' (madeCells z.cells (n*sz')) (by simp) zd (by rw [zl,size_madeCells]) (by simpa [Function.comp_def] using hf)
      rw [size_madeCells] at h4
      have h1':Instr.fill (fun k=>some (k*sz',sz')) ((Array.range (n*sz')).map fun x=>z.cells[x % z.cells.size]!) (ps.toList.map fun p=>(p.1,a.eval p.2))=some cells':=h1
      have hrun:(execOp a.eval o).run P w=.ok (.value (.slice (some ⟨w.heap.size,0,none⟩) n n)) (w.alloc (.cells cells' e)):=by
       by_cases hn:n*sz'=0
       ·have hn':n=0:=by
         rcases Nat.mul_eq_zero.1 hn with hn|hn
         ·exact hn
         ·omega
        subst hn'
        simp only [Nat.zero_mul,Array.range_zero',List.map_toArray,List.map_nil] at h1'
        simp only [execOp,ho,Instr.buildSlice]
        simp [run_underlying hu,A3z hsz,newRow,Array.range_zero',h1']
       ·have hbig:¬ (2 ^ 24<n*sz'):=by omega
        simp only [execOp,ho,Instr.buildSlice]
        simp [run_underlying hu,A3z hsz,hn,newRow,zeroValue,typeInfo,hi,hz']
        rw [if_neg (by omega)]
        simp [h1']
      refine ⟨upd M (16*d) (some w.heap.size),w.alloc (.cells cells' e),_,Tr.alloc (w':=w.alloc (.cells cells' e)) h.hok h.old hH hcc.2 (e:=e) (vs:=cells') rfl rfl rfl rfl h2,.inl hrun,?_⟩
      simp only [Den,updO]
      refine ⟨rfl,_,Aqz _ _ _,by omega,A2z h2,fun _=>.inr ⟨_,n,_,e,Aqz _ _ _,rfl,Nat.le_refl _,?_,heap_alloc_new w _,h4⟩⟩
      have:n≤n*sz':=Nat.le_mul_of_pos_right n hc2
      simp only [maxLen];omega
    ·cases hr
   ·cases hl
  ·cases hl
 ·cases hl

theorem sound_blit (h:St E M s a w){t:TypeId}{ps:Array (Nat×Operand)}{sz n:Nat}{zs:List Value}{qs:List (Nat×Operand)}(ho:o.op=.buildSlice t n ps)(hl:lowOp P (.buildSlice t n ps)=some (.bslice sz zs qs n))(hr:arun s E.pin d (.blit sz zs qs n)=some r):Owed P E M s a w o r:=by
 simp only [lowOp] at hl
 split at hl
 ·rename_i e hu
  split at hl
  ·rename_i sz' zs' hsz hz
   split at hl
   ·rename_i hc
    obtain ⟨hc1,hc2,hc3⟩:=hc
    simp only [Option.some.injEq,AOp.bslice.injEq,and_true] at hl
    obtain ⟨rfl,rfl,rfl⟩:=hl
    obtain ⟨i,z,hi,hz',rfl⟩:=Biz hz
    have hzs:z.cells.size=sz':=by simpa using hc1
    simp only [arun] at hr
    ·cases hf:fillR (zcells (z.cells.toList.map ofCell) n) (ps.toList.map fun p=>(p.1*sz',sz',s.ev p.2)) with
     | none=>simp [hf] at hr
     | some cs' =>
      simp only [hf,Option.map_some,Option.some.injEq] at hr
      subst hr
      obtain ⟨zd,zl⟩:=Dgz (E.C M s.H w) z.cells n (by omega)
      rw [hzs] at zd zl
      obtain ⟨cells',h1,h2,h3,h4⟩:=Cuz (C:=E.C M s.H w) a.eval s.ev h.ev (fun k=>some (k*sz',sz')) ps.toList (ps.toList.map fun p=>(p.1*sz',sz',p.2)) _ cs' (madeCells z.cells (n*sz')) (by simp) zd (by rw [zl,size_madeCells]) (by simpa [Function.comp_def] using hf)
      rw [size_madeCells] at h4
      have h1':Instr.fill (fun k=>some (k*sz',sz')) ((Array.range (n*sz')).map fun x=>z.cells[x % z.cells.size]!) (ps.toList.map fun p=>(p.1,a.eval p.2))=some cells':=h1
      have hrun:(execOp a.eval o).run P w=.ok (.value (.slice (some ⟨w.heap.size,0,none⟩) n n)) (w.alloc (.cells cells' e)):=by
       by_cases hn:n*sz'=0
       ·have hn':n=0:=by
         rcases Nat.mul_eq_zero.1 hn with hn|hn
         ·exact hn
         ·omega
        subst hn'
        simp only [Nat.zero_mul,Array.range_zero',List.map_toArray,List.map_nil] at h1'
        simp only [execOp,ho,Instr.buildSlice]
        simp [run_underlying hu,A3z hsz,newRow,Array.range_zero',h1']
       ·have hbig:¬ (2 ^ 24<n*sz'):=by omega
        simp only [execOp,ho,Instr.buildSlice]
        simp [run_underlying hu,A3z hsz,hn,newRow,zeroValue,typeInfo,hi,hz']
        rw [if_neg (by omega)]
        simp [h1']
      have ht:Tr E M s.H w M s.H (w.alloc (.cells cells' e)):=Tr.ext h.hok h.old (fun g hg=>heap_alloc_old w _ hg) (by show _≤(w.heap.push _).size;rw [Array.size_push];exact Nat.le_succ _) rfl rfl rfl
      refine ⟨M,w.alloc (.cells cells' e),_,ht,.inl hrun,?_⟩
      simp only [Den,updO]
      refine .inr ⟨w.heap.size,0,n,cells',e,(0,0),rfl,heap_alloc_new w _,⟨fun id hid=>?_,fun hb=>?_,fun _ ha=>?_⟩,Nat.le_refl _,?_⟩
      ·have:=h.hok.lt hid
       exact absurd this (Nat.lt_irrefl _)
      ·exact absurd (Nat.lt_of_lt_of_le (E.hB _ hb) h.old.size) (Nat.lt_irrefl _)
      ·exact absurd (Nat.lt_of_lt_of_le (E.hA _ ha) h.old.size) (Nat.lt_irrefl _)
      ·rw [List.drop_zero]
       exact DenP.keeps ht.keeps h2
   ·cases hl
  ·cases hl
 ·cases hl

theorem arun_sound (h:St E M s a w){ao:AOp}(hl:lowOp P o.op=some ao)(hr:arun s E.pin d ao=some r):Owed P E M s a w o r:=by
 cases hop:o.op with
 | move x=>rw [hop] at hl;simp [lowOp] at hl;subst hl;exact sound_mv h (.inl hop) hr
 | assign x=>rw [hop] at hl;simp [lowOp] at hl;subst hl;exact sound_mv h (.inr hop) hr
 | pick c x y=>rw [hop] at hl;simp [lowOp] at hl;subst hl;exact sound_pick h hop hr
 | alloc t =>
  rw [hop] at hl
  have hl':=hl
  simp only [lowOp] at hl
  cases hz:zeroCells P t with
  | none=>simp [hz] at hl
  | some zs=>simp [hz] at hl;subst hl;exact sound_alloc h hop hl' hr
 | box t x=>rw [hop] at hl;simp [lowOp] at hl;subst hl;exact sound_box h hop hr
 | build t ps =>
  rw [hop] at hl
  have hl':=hl
  cases ao<;>first|exact sound_build h hop hl' hr|(exfalso;simp only [lowOp] at hl;(repeat' (split at hl))<;>simp at hl)
 | makeFunc fn us vs=>rw [hop] at hl;simp only [lowOp,Option.some.injEq] at hl;subst hl;exact sound_mkfn h hop hr
 | buildSlice t n ps =>
  rw [hop] at hl
  have hl':=hl
  simp only [lowOp] at hl
  split at hl
  ·split at hl
   ·split at hl
    ·simp only [Option.some.injEq] at hl
     subst hl
     exact sound_bslice h hop hl' hr
    ·cases hl
   ·cases hl
  ·cases hl
 | load t x =>
  rw [hop] at hl
  have hl':=hl
  simp only [lowOp] at hl
  split at hl
  ·simp only [Option.some.injEq] at hl;subst hl;exact F6z h hop hl' hr
  ·simp only [Option.some.injEq] at hl;subst hl;exact F6z h hop hl' hr
  ·cases hl
 | store t x v =>
  rw [hop] at hl
  have hl':=hl
  simp only [lowOp] at hl
  cases hs:sizeAt P t with
  | none=>simp [hs] at hl
  | some n=>simp [hs] at hl;subst hl;exact sound_store h hop hl' hr
 | binOp op t x y ta =>
  rw [hop] at hl
  simp only [lowOp] at hl
  split at hl
  ·rename_i hu;simp only [Option.some.injEq] at hl;subst hl;exact sound_binB h hop hu hr
  ·unfold lowBin at hl
   split at hl
   ·rename_i fs hst
    split at hl
    ·rename_i neg l hneg hl2
     split at hl
     ·rename_i hg;simp only [Option.some.injEq] at hl;subst hl;exact sound_eqS h hop (Gsz hst) hl2 (isEq_some hneg) hg hr
     ·cases hl
    ·cases hl
   ·split at hl
    ·split at hl
     ·split at hl
      ·simp only [Option.some.injEq] at hl;subst hl;simp [arun] at hr
      ·cases hl
     ·cases hl
    ·simp only [Option.some.injEq] at hl;subst hl;exact sound_bin h hop hr
 | unOp op t x=>rw [hop] at hl;simp [lowOp] at hl;subst hl;exact sound_un h hop hr
 | convert src dst x =>
  rw [hop] at hl
  have hl':=hl
  simp only [lowOp] at hl
  split at hl
  ·simp only [Option.some.injEq] at hl;subst hl;exact sound_conv h hop hl' hr
  ·cases hl
 | nilCheck x=>rw [hop] at hl;simp [lowOp] at hl;subst hl;exact sound_nilck h hop hr
 | makeSlice t l c =>
  rw [hop] at hl
  have hl':=hl
  simp only [lowOp] at hl
  (repeat' (split at hl))<;>(cases hl<;>exact Guz h hop hl' hr)
 | slice t x lo hi mx =>
  rw [hop] at hl
  cases mx with
  | some mx =>
   cases hi with
   | none=>simp [lowOp] at hl;subst hl;simp [arun] at hr
   | some hi =>
    simp only [lowOp] at hl
    split at hl
    ·rename_i e hu
     cases hs:sizeAt P e with
     | none=>simp [hs] at hl
     | some n=>simp [hs] at hl;subst hl;exact sound_slice3 h hop (B9z hu) hs hr
    ·cases hl
  | none =>
   have hl':=hl
   simp only [lowOp] at hl
   split at hl
   ·rename_i e hu
    cases hs:sizeAt P e with
    | none=>simp [hs] at hl
    | some n=>simp [hs] at hl;subst hl;exact sound_slice h hop hl' hr
   ·simp only [Option.some.injEq] at hl;subst hl;exact sound_sliceS h hop hl' hr
   ·obtain ⟨n,e,sz,h1,h2,rfl⟩:=A6z hl
    exact sound_sliceP h hop (arrAt_some h1) h2 hr
 | fieldAddr t x f =>
  rw [hop] at hl
  have hl':=hl
  simp only [lowOp] at hl
  (repeat' (split at hl))<;>(cases hl<;>exact sound_fld h hop hl' hr)
 | field t x f =>
  rw [hop] at hl
  have hl':=hl
  simp only [lowOp] at hl
  (repeat' (split at hl))<;>(cases hl<;>exact sound_fldv h hop hl' hr)
 | indexAddr t x i =>
  rw [hop] at hl
  have hl':=hl
  simp only [lowOp] at hl
  split at hl
  ·rename_i e hu
   cases hs:sizeAt P e with
   | none=>simp [hs] at hl
   | some n=>simp [hs] at hl;subst hl;exact sound_idxA h hop hl' hr
  ·rename_i len e hu
   cases hs:sizeAt P e with
   | none=>simp [hs] at hl
   | some n=>simp [hs] at hl;subst hl;exact sound_idxP h hop hl' hr
  ·cases hl
 | index t x i =>
  rw [hop] at hl
  have hl':=hl
  simp only [lowOp] at hl
  split at hl
  ·simp only [Option.some.injEq] at hl;subst hl;exact sound_idxS h hop hl' hr
  ·simp only [Option.some.injEq] at hl;subst hl;simp only [arun] at hr;cases hr
 | extract x i=>rw [hop] at hl;simp [lowOp] at hl;subst hl;exact Gvz h hop hr
 | call c =>
  rw [hop] at hl
  by_cases hraw:∃ op,ao=.raw op
  ·obtain ⟨op,rfl⟩:=hraw
   simp only [arun] at hr
   cases hr
  have hl':lowCall P c=some ao:=C7z hl fun op e=>hraw ⟨op,e⟩
  cases ao<;>first
   | exact sound_lenS h hop hl' hr
   | exact sound_len h hop hl' hr
   | exact F0z h hop hl' hr
   | exact sound_append h hop hl' hr
   | exact sound_minmax h hop hl' hr
   | exact sound_clr h hop hl' hr
   | exact sound_cpy h hop hl' hr
   | (exfalso;simp only [arun] at hr;cases hr;done)
   | (exfalso;replace hl':=A9z hl' (fun _ _ _ h=>by cases h);unfold lowCall0 at hl';(repeat' (split at hl'))<;>simp at hl';done)
 | _=>rw [hop] at hl;simp only [lowOp,Option.some.injEq] at hl;subst hl;simp only [arun] at hr;cases hr

end
end Vw
namespace Vw
open Go
variable [Inhabited GlobT]

structure AOper where
 dst:Option Nat
 op:AOp
 guard:Option (Nat×Bool)
 after:List Nat

inductive ACode where
 | skip
 | reg (ops:List AOper)
 | draw (ops:List AOper)
 | seq (a b:ACode)
 | cond (c:Operand) (t e:ACode)
 | block (id:Nat) (b:ACode)
 | loop (b:ACode)
 | exit (id:Nat)
 | ret
 | rf (g:Operand) (ps:List Nat) (asg body:ACode)

def lowGuard (nt:NT)(ops:Array Oper):Option (Nat×Bool)→Option (Option (Nat×Bool))
 | none=>some none
 | some (j,b)=>match (ops[j]?).bind (·.dst) with
  | some t=>if t<nt.n then some (some (t,b)) else none
  | none=>none

def dstOk (nt:NT):Option Nat→Bool
 | none=>true
 | some d=>decide (d<nt.n)&&!nt.fix.contains d

def lowOper (P:Program)(nt:NT)(ops:Array Oper)(o:Oper):Option AOper :=
 match lowOp P o.op,lowGuard nt ops o.guard,dstOk nt o.dst with
 | some ao,some g,true=>some ⟨o.dst,ao,g,(o.after.toList.filter (Region.binds .any)).map (·.on)⟩
 | _,_,_=>none

def lowOpers (P:Program)(nt:NT)(ops:Array Oper):List Oper→Option (List AOper)
 | []=>some []
 | o::r=>match lowOper P nt ops o,lowOpers P nt ops r with
  | some x,some l=>some (x::l)
  | _,_=>none

def lowCode (P:Program)(nt:NT):Code→Option ACode
 | .skip=>some .skip
 | .region _ ops dr=>(lowOpers P nt ops ops.toList).map fun l=>if dr then .draw l else .reg l
 | .seq a b=>match lowCode P nt a,lowCode P nt b with
  | some x,some y=>some (.seq x y)
  | _,_=>none
 | .cond c t e=>match lowCode P nt t,lowCode P nt e with
  | some x,some y=>some (.cond c x y)
  | _,_=>none
 | .block id b=>(lowCode P nt b).map (.block id)
 | .loop b=>(lowCode P nt b).map .loop
 | .exit id=>some (.exit id)
 | .ret=>some .ret
 | .rangeFunc g ps a b=>if nt.rnd=none∧ps.toList.all (fun t=>dstOk nt (some t))=true then match lowCode P nt a,lowCode P nt b with
  | some x,some y=>some (.rf g ps.toList x y)
  | _,_=>none
  else none
 | _=>none


def FW (r:Option Nat):Fence:={ Fence.wide with round:=r }
theorem nodefer {P:Program}{ρ:Operand→Value}{o:Oper}{w w':World}{x:Next}(h:(execOp ρ o).run P w=.ok x w')(hx:∀ d,x≠.defer d):∀ c,o.op≠.defer c:=by
 intro c hc
 simp only [execOp,hc,Sem.run_bind] at h
 cases hr:(resolve ρ c o.type).run P w with
 | ok d w1 =>
  rw [hr] at h
  simp only [Result.andThen_ok,Sem.run_pure] at h
  injection h with h1 h2
  exact hx _ h1.symm
 | halt r w1=>rw [hr] at h;simp [Result.andThen] at h
theorem Enz {P:Program}{r:Option Nat}{n:Nat}{a:Act}{o:Oper}{w w':World}{v:Value}{K:Act→World→Prop}{Q:Exit→Act→World→Prop}(h:(execOp a.eval o).run P w=.ok (.value v) w')(hk:K (a.put o.dst v) w'):o.wpIn (FW r) n P a w K Q :=
 ⟨fun _ _=>trivial,by rw [Oper.semAt_plain _ _ _ (nodefer h (fun d=>by simp)),h];exact hk⟩
theorem Goz {P:Program}{r:Option Nat}{n:Nat}{a:Act}{o:Oper}{w w':World}{K:Act→World→Prop}{Q:Exit→Act→World→Prop}(h:(execOp a.eval o).run P w=.ok .skip w')(hk:K (a.put o.dst undef) w'):o.wpIn (FW r) n P a w K Q :=
 ⟨fun _ _=>trivial,by rw [Oper.semAt_plain _ _ _ (nodefer h (fun d=>by simp)),h];exact hk⟩
theorem wpIn_ent {P:Program}{r:Option Nat}{n:Nat}{a:Act}{o:Oper}{w w':World}{f:FuncId}{args:Array Value}{K:Act→World→Prop}{Q:Exit→Act→World→Prop}(h:(execOp a.eval o).run P w=.ok (.enter f args) w')
  (hc:Calls P f args w' fun e w''=>∃ v,e=.returned v∧K (a.put o.dst v) w''):o.wpIn (FW r) n P a w K Q:=by
 refine ⟨fun _ _=>trivial,?_⟩
 rw [Oper.semAt_plain _ _ _ (nodefer h (fun d=>by simp)),h,Oper.uponIn_enter]
 refine ⟨fun h=>by simp [FW,Fence.wide] at h,?_⟩
 have h1:CallsIn Fence.wide (n-1) P f args w' _:=callsIn_wide.2 hc
 have h2:CallsIn (FW r) (n-1) P f args w' _:=h1
 refine h2.mono ?_
 rintro e w'' ⟨v,rfl,hk⟩
 exact hk
theorem getD_put' (a:Act)(d:Nat)(v:Value)(t:Nat)(hd:t≠d):(a.put (some d) v).tmps.getD t undef=a.tmps.getD t undef:=by
 simp only [Act.put,Array.getD_eq_getD_getElem?,Array.getElem?_setIfInBounds]
 rw [if_neg (Ne.symm hd)]
theorem Aux.put {E:Env}{M:Nat→Option Nat}{a:Act}{w:World}(h:Aux E M a w){dst:Option Nat}(hd:dstOk E.nt dst=true)(v:Value):Aux E M (a.put dst v) w:=by
 cases dst with
 | none=>exact h
 | some d =>
  refine ⟨h.defs,h.still,fun t ht=>?_,h.big⟩
  have hne:t≠d:=fun e=>by subst e;simp [dstOk,ht] at hd
  rw [getD_put' a d v t hne]
  exact h.fixd t ht
theorem dstOk_lt {nt:NT}{d:Nat}(h:dstOk nt (some d)=true):d<nt.n:=by simp [dstOk] at h;exact h.1

def S.put (s:S)(dst:Option Nat)(v:AV)(u:Option (Nat×List AV)):S :=
 ⟨match dst with|some d=>upd s.σ d v|none=>s.σ,updO s.H u⟩

def aguard (s:S):Option (Nat×Bool)→Option Bool
 | none=>some true
 | some (t,b)=>match s.σ t with
  | .bool c=>some (c==b)
  | .und=>some false
  | _=>none

def callOwed (P:Program)(pin:Nat)(f:Nat)(args:List Operand)(dst:Option Nat)(K:S→Prop)(s:S):Prop :=
 ∀ E M a w,E.pin=pin→dstOk E.nt dst=true→St E M s a w→Calls P f (args.map a.eval).toArray w fun e w'=>∃ M' s' v,K s'∧e=.returned v∧St E M' s' (a.put dst v) w'

def callOwedA (P:Program)(pin:Nat)(f:Nat)(avs:List AV)(dst:Option Nat)(K:S→Prop)(s:S):Prop :=
 ∀ E M a w (vs:List Value),E.pin=pin→dstOk E.nt dst=true→St E M s a w→vs.length=avs.length→DenP (E.C M s.H w) avs vs→Calls P f vs.toArray w fun e w'=>∃ M' s' v,K s'∧e=.returned v∧St E M' s' (a.put dst v) w'
theorem denP_evs {E:Env}{M:Nat→Option Nat}{s:S}{a:Act}{w:World}(h:St E M s a w):∀ args:List Operand,DenP (E.C M s.H w) (args.map s.ev) (args.map a.eval)
 | []=>by simp [DenP]
 | x::r=>by simp only [List.map_cons,DenP];exact ⟨h.ev x,denP_evs h r⟩
theorem D4z {P:Program}{pin f:Nat}{args:List Operand}{dst:Option Nat}{K:S→Prop}{s:S}(h:callOwedA P pin f (args.map s.ev) dst K s):callOwed P pin f args dst K s :=
 fun E M a w hp hd hst=>h E M a w _ hp hd hst (by simp) (denP_evs hst args)

def nilStep (neg:Bool)(dst:Option Nat)(K:S→Prop)(s:S):AV→Prop
 | .val (.slice none 0 0)=>K (s.put dst (.bool (if neg then false else true)) none)
 | .rows _ _ n=>∀ b:Bool,(b=true→n=0)→K (s.put dst (.bool (if neg then !b else b)) none)
 | .own id n sz=>(∃ cs,s.H id=some cs∧cs.length=n*sz)∧∀ b:Bool,(b=true→n=0)→K (s.put dst (.bool (if neg then !b else b)) none)
 | _=>False

theorem nilStep_mono {neg:Bool}{dst:Option Nat}{K K':S→Prop}{s:S}(h:∀ s,K s→K' s):∀ {a:AV},nilStep neg dst K s a→nilStep neg dst K' s a:=by
 intro a
 unfold nilStep
 split
 ·exact h _
 ·exact fun hh b hb=>h _ (hh b hb)
 ·exact fun ⟨h1,hh⟩=>⟨h1,fun b hb=>h _ (hh b hb)⟩
 ·exact id

def rawOwed (P:Program)(pin:Nat)(op:Op)(dst:Option Nat)(K:S→Prop)(s:S):Prop :=
 ∀ E M a w (o:Oper) (K':Act→World→Prop) (Q:Exit→Act→World→Prop),E.pin=pin→dstOk E.nt dst=true→o.op=op→o.dst=dst→St E M s a w →
  (∀ M' s' a' w',St E M' s' a' w'→K s'→K' a' w')→o.wpIn (FW E.nt.rnd) 3 P a w K' Q
theorem rawOwed_mono {P:Program}{pin:Nat}{op:Op}{dst:Option Nat}{K K':S→Prop}{s:S}(h:∀ s,K s→K' s)(hr:rawOwed P pin op dst K s):rawOwed P pin op dst K' s :=
 fun E M a w o K2 Q h1 h2 h3 h4 h5 h6=>hr E M a w o K2 Q h1 h2 h3 h4 h5 fun M' s' a' w' a1 a2=>h6 M' s' a' w' a1 (h _ a2)
def astep (P:Program)(pin:Nat)(o:AOper)(K:S→Prop)(s:S):Prop :=
 match o.op with
 | .call f args=>callOwed P pin f args o.dst K s
 | .isnil neg x=>nilStep neg o.dst K s (s.ev x)
 | .raw op=>rawOwed P pin op o.dst K s
 | ao=>match arun s pin (o.dst.getD 0) ao with
  | some r=>K (s.put o.dst r.1 r.2)
  | none=>False

def aSeq (P:Program)(pin:Nat):List AOper→(S→Prop)→S→Prop
 | [],K,s=>K s
 | o::r,K,s=>match aguard s o.guard with
  | some g=>(g=true→astep P pin o (aSeq P pin r K) s)∧(g=false→aSeq P pin r K (s.put o.dst .und none))
  | none=>False

def Told (E:Env)(K:S→Prop):Act→World→Prop:=fun a w=>∃ M s,St E M s a w∧K s

section
variable {P:Program} {E:Env} {M:Nat→Option Nat} {s:S} {a:Act} {w:World}

theorem getD_put (a:Act)(d:Nat)(v:Value)(t:Nat)(hd:d<a.tmps.size):(a.put (some d) v).tmps.getD t undef=if t=d then v else a.tmps.getD t undef:=by
 simp only [Act.put,Array.getD_eq_getD_getElem?,Array.getElem?_setIfInBounds]
 by_cases h:d=t
 ·subst h;simp [hd]
 ·rw [if_neg h,if_neg (Ne.symm h)]

theorem St.put (h:St E M s a w){M':Nat→Option Nat}{w':World}{dst:Option Nat}{v':AV}{v:Value}{u:Option (Nat×List AV)}(hd:dstOk E.nt dst=true)
  (ht:Tr E M s.H w M' (updO s.H u) w') (hv:Den (E.C M' (updO s.H u) w') v' v):St E M' (s.put dst v' u) (a.put dst v) w':=by
 cases dst with
 | none=>exact ⟨h.defers.keeps ht.keeps,h.size,fun t=>Den.keeps ht.keeps (h.slots t),ht.hok,ht.old⟩
 | some d =>
  have hd':d<a.tmps.size:=by rw [h.size];exact dstOk_lt hd
  refine ⟨(h.defers.keeps ht.keeps).put hd v,by simp [Act.put,h.size],fun t=>?_,ht.hok,ht.old⟩
  rw [getD_put a d v t hd']
  by_cases htd:t=d
  ·subst htd;simp only [S.put,Aqz,if_true];exact hv
  ·simp only [S.put,Asz _ _ _ _ htd,if_neg htd];exact Den.keeps ht.keeps (h.slots t)

theorem St.skip (h:St E M s a w){dst:Option Nat}(hd:dstOk E.nt dst=true):St E M (s.put dst .und none) (a.put dst undef) w :=
 h.put (u:=none) hd (Tr.refl h) (by simp [Den])

theorem Ciz (h:St E M s a w){ops:Array Oper}{o:Oper}{gd:Option (Nat×Bool)}(hl:lowGuard E.nt ops o.guard=some gd){g:Bool}(hg:aguard s gd=some g):Region.wanted o (yielded ops a.tmps)=g:=by
 unfold lowGuard at hl
 split at hl
 ·rename_i hn
  simp only [Option.some.injEq] at hl
  subst hl
  simp only [aguard,Option.some.injEq] at hg
  subst hg
  simp [Region.wanted,hn]
 ·rename_i j b hgd
  split at hl
  ·rename_i t ht
   split at hl
   ·rename_i hlt
    simp only [Option.some.injEq] at hl
    subst hl
    have htl:t<a.tmps.size:=by rw [h.size];exact hlt
    have hden:=h.slots t
    simp only [aguard] at hg
    have hy:yielded ops a.tmps j=match a.tmps.getD t undef with|.bool b=>some b|_=>none:=by
     simp only [yielded,ht,Option.bind_some,Array.getD_eq_getD_getElem?,Array.getElem?_eq_getElem htl,Option.getD_some]
     cases a.tmps[t]<;>rfl
    split at hg
    ·rename_i c hc
     rw [hc] at hden
     simp only [Den] at hden
     simp only [Option.some.injEq] at hg
     subst hg
     simp only [Region.wanted,hgd,hy,hden]
     cases c<;>cases b<;>rfl
    ·rename_i hc
     rw [hc] at hden
     simp only [Den] at hden
     simp only [Option.some.injEq] at hg
     subst hg
     simp only [Region.wanted,hgd,hy,hden]
     cases b<;>rfl
    ·cases hg
   ·cases hl
  ·cases hl

theorem Hdz {c:Call}{f:Nat}{args:List Operand}(hl:lowCall P c=some (.call f args)) :
  c.callee = .value (.func f) ∧ c.args.toList = args ∧ ∃ fn, P.funcs[f]? = some fn ∧ fn.body.isSome = true ∧ (fn.name == "runtime.NumGoroutine") = false := by
 replace hl:=A9z hl (fun _ _ _ h=>by cases h)
 unfold lowCall0 at hl
 split at hl
 ·(repeat' (split at hl))<;>simp at hl
 ·(repeat' (split at hl))<;>simp at hl
 ·rename_i f' hc1
  split at hl
  ·rename_i fn hfn
   split at hl
   ·rename_i hb
    simp only [Option.some.injEq,AOp.call.injEq] at hl
    obtain ⟨rfl,rfl⟩:=hl
    exact ⟨hc1,rfl,fn,hfn,hb.1,hb.2⟩
   ·cases hl
  ·cases hl
 ·cases hl

theorem run_call {o:Oper}{c:Call}{f:Nat}{args:List Operand}(ho:o.op=.call c)(hl:lowCall P c=some (.call f args)):(execOp a.eval o).run P w=.ok (.enter f (args.map a.eval).toArray) w:=by
 obtain ⟨h1,h2,fn,h3,h4,h5⟩:=Hdz hl
 have hargs:c.args.map a.eval=(args.map a.eval).toArray:=by
  apply Array.ext'
  simp [h2]
 have hn:¬ fn.body=none:=by intro hb;rw [hb] at h4;cases h4
 have h6 : ¬ fn.name = "runtime.NumGoroutine" := by simpa using h5
 simp [execOp,ho,resolve,h1,Act.eval,Deferred.ofValue,invoke,callFunc,h3,h6,hn,hargs]

theorem call_of_low {op:Op}{f:Nat}{args:List Operand}(hl:lowOp P op=some (.call f args)):∃ c,op=.call c∧lowCall P c=some (.call f args):=by
 cases op
 case call c=>exact ⟨c,rfl,C7z hl (fun _ h=>by cases h)⟩
 case slice t x lo hi mx =>
  exfalso
  cases mx with
  | some mx =>
   cases hi with
   | none=>simp [lowOp] at hl
   | some hi =>
    simp only [lowOp] at hl
    split at hl
    ·cases hz:sizeAt P ‹_›<;>simp [hz] at hl
    ·cases hl
  | none =>
   simp only [lowOp] at hl
   split at hl
   ·cases hz:sizeAt P ‹_›<;>simp [hz] at hl
   ·simp at hl
   ·obtain ⟨_,_,_,_,_,he⟩:=A6z hl;cases he
 case build t ps =>
  exfalso
  simp only [lowOp] at hl
  split at hl
  ·split at hl
   ·rename_i places hp
    cases hpa:partsAt places ps.toList<;>simp [hpa] at hl
   ·cases hl
  ·cases hz:sizeAt P ‹_›<;>simp [hz] at hl
  ·cases hl
 case alloc t=>exfalso;simp only [lowOp] at hl;cases hz:zeroCells P t<;>simp [hz] at hl
 case store t x v=>exfalso;simp only [lowOp] at hl;cases hz:sizeAt P t<;>simp [hz] at hl
 case indexAddr t x i =>
  exfalso
  simp only [lowOp] at hl
  split at hl
  ·cases hz:sizeAt P ‹_›<;>simp [hz] at hl
  ·cases hz:sizeAt P ‹_›<;>simp [hz] at hl
  ·cases hl
 case binOp op t x y yt =>
  exfalso
  simp only [lowOp] at hl
  split at hl
  ·simp at hl
  ·unfold lowBin at hl
   (repeat' (split at hl))<;>simp at hl
 all_goals
  exfalso
  simp only [lowOp] at hl
  first
   | (simp at hl;done)
   | ((repeat' (split at hl))<;>simp at hl;done)

theorem isnil_of_low {op:Op}{neg:Bool}{x:Operand}(hl:lowOp P op=some (.isnil neg x)):∃ t e bop yt,op=.binOp bop t x (.const (.slice none 0 0)) yt∧P.underlying t=some (.slice e)∧((bop=.eql∧neg=false)∨(bop=.neq∧neg=true)):=by
 cases op
 case binOp bop t x' y yt =>
  simp only [lowOp] at hl
  split at hl
  ·simp at hl
  ·unfold lowBin at hl
   split at hl
   ·(repeat' (split at hl))<;>simp at hl
   ·split at hl
    ·rename_i e he
     split at hl
     ·rename_i neg' hneg
      split at hl
      ·rename_i hy
       simp only [Option.some.injEq,AOp.isnil.injEq] at hl
       obtain ⟨rfl,rfl⟩:=hl
       rw [isNilC_true hy]
       exact ⟨t,e,bop,yt,rfl,sliceOf_some he,isEq_some hneg⟩
      ·cases hl
     ·cases hl
    ·simp at hl
 case call c =>
  exfalso
  have hl':lowCall P c=some (.isnil neg x):=C7z hl (fun _ h=>by cases h)
  replace hl':=A9z hl' (fun _ _ _ h=>by cases h)
  unfold lowCall0 at hl'
  (repeat' (split at hl'))<;>simp at hl'
 case slice t x' lo hi mx =>
  exfalso
  cases mx with
  | some mx =>
   cases hi with
   | none=>simp [lowOp] at hl
   | some hi =>
    simp only [lowOp] at hl
    split at hl
    ·cases hz:sizeAt P ‹_›<;>simp [hz] at hl
    ·cases hl
  | none =>
   simp only [lowOp] at hl
   split at hl
   ·cases hz:sizeAt P ‹_›<;>simp [hz] at hl
   ·simp at hl
   ·obtain ⟨_,_,_,_,_,he⟩:=A6z hl;cases he
 case build t ps =>
  exfalso
  simp only [lowOp] at hl
  split at hl
  ·split at hl
   ·rename_i places hp
    cases hpa:partsAt places ps.toList<;>simp [hpa] at hl
   ·cases hl
  ·cases hz:sizeAt P ‹_›<;>simp [hz] at hl
  ·cases hl
 case alloc t=>exfalso;simp only [lowOp] at hl;cases hz:zeroCells P t<;>simp [hz] at hl
 case store t x' v=>exfalso;simp only [lowOp] at hl;cases hz:sizeAt P t<;>simp [hz] at hl
 case indexAddr t x' i =>
  exfalso
  simp only [lowOp] at hl
  split at hl
  ·cases hz:sizeAt P ‹_›<;>simp [hz] at hl
  ·cases hz:sizeAt P ‹_›<;>simp [hz] at hl
  ·cases hl
 all_goals
  exfalso
  simp only [lowOp] at hl
  first
   | (simp at hl;done)
   | ((repeat' (split at hl))<;>simp at hl;done)

theorem raw_of_low {op op':Op}(hl:lowOp P op=some (.raw op')):op=op':=by
 cases op
 case call c =>
  simp only [lowOp] at hl
  split at hl
  ·rename_i b hb
   simp only [Option.some.injEq] at hl
   subst hl
   exact absurd hb (lowCall_raw _)
  ·simp only [Option.some.injEq,AOp.raw.injEq] at hl
   exact hl
 case slice t x lo hi mx =>
  cases mx with
  | some mx =>
   cases hi with
   | none=>simp only [lowOp,Option.some.injEq,AOp.raw.injEq] at hl;exact hl
   | some hi =>
    exfalso
    simp only [lowOp] at hl
    split at hl
    ·cases hz:sizeAt P ‹_›<;>simp [hz] at hl
    ·cases hl
  | none =>
   exfalso
   simp only [lowOp] at hl
   split at hl
   ·cases hz:sizeAt P ‹_›<;>simp [hz] at hl
   ·simp at hl
   ·obtain ⟨_,_,_,_,_,he⟩:=A6z hl;cases he
 case index t x i =>
  simp only [lowOp] at hl
  split at hl
  ·simp at hl
  ·simp only [Option.some.injEq,AOp.raw.injEq] at hl;exact hl
 case build t ps =>
  exfalso
  simp only [lowOp] at hl
  split at hl
  ·split at hl
   ·rename_i places hp
    cases hpa:partsAt places ps.toList<;>simp [hpa] at hl
   ·cases hl
  ·cases hz:sizeAt P ‹_›<;>simp [hz] at hl
  ·cases hl
 case alloc t=>exfalso;simp only [lowOp] at hl;cases hz:zeroCells P t<;>simp [hz] at hl
 case store t x v=>exfalso;simp only [lowOp] at hl;cases hz:sizeAt P t<;>simp [hz] at hl
 case indexAddr t x i =>
  exfalso
  simp only [lowOp] at hl
  split at hl
  ·cases hz:sizeAt P ‹_›<;>simp [hz] at hl
  ·cases hz:sizeAt P ‹_›<;>simp [hz] at hl
  ·cases hl
 case binOp op t x y yt =>
  exfalso
  simp only [lowOp] at hl
  split at hl
  ·simp at hl
  ·unfold lowBin at hl
   (repeat' (split at hl))<;>simp at hl
 all_goals
  simp only [lowOp] at hl
  first
   | (simp only [Option.some.injEq,AOp.raw.injEq] at hl;exact hl)
   | (exfalso;simp at hl;done)
   | (exfalso;(repeat' (split at hl))<;>simp at hl;done)

theorem Dqz (h:St E M s a w){o:Oper}{ao:AOper}{ops:Array Oper}{K:S→Prop}{K':Act→World→Prop}{Q:Exit→Act→World→Prop}(hl:lowOper P E.nt ops o=some ao)
  (hK:∀ a w,Told E K a w→K' a w) (hs:astep P E.pin ao K s):o.wpIn (FW E.nt.rnd) 3 P a w K' Q:=by
 unfold lowOper at hl
 split at hl
 ·rename_i op g hop hg hd
  simp only [Option.some.injEq] at hl
  subst hl
  have base:∀ r,arun s E.pin (o.dst.getD 0) op=some r→K (s.put o.dst r.1 r.2)→o.wpIn (FW E.nt.rnd) 3 P a w K' Q:=by
   intro r hr hk
   obtain ⟨M',w',v,ht,hrun,hden⟩:=arun_sound h hop hr
   have hst:=h.put (dst:=o.dst) hd ht hden
   rcases hrun with hrun|⟨hrun,rfl⟩
   ·exact Enz hrun (hK _ _ ⟨M',_,hst,hk⟩)
   ·exact Goz hrun (hK _ _ ⟨M',_,hst,hk⟩)
  simp only [astep] at hs
  cases op
  case isnil neg x =>
   simp only at hs
   obtain ⟨t,e,bop,yt,ho,hu,hbop⟩:=isnil_of_low hop
   have hx:=h.ev x
   have fin:∀ p n c,a.eval x=.slice p n c→K (s.put o.dst (.bool (if neg then !p.isNone else p.isNone)) none)→o.wpIn (FW E.nt.rnd) 3 P a w K' Q:=fun p n c hv hk=>by
    have hrun:=run_isnil h ho hu hbop hv
    have hst:=h.put (dst:=o.dst) (u:=none) hd (Tr.refl h) (v:=.bool (if neg then !p.isNone else p.isNone)) (v':=.bool (if neg then !p.isNone else p.isNone)) (by simp [Den])
    exact Enz hrun (hK _ _ ⟨M,_,hst,hk⟩)
   unfold nilStep at hs
   split at hs
   ·rename_i hxv
    rw [hxv] at hx
    simp only [Den] at hx
    exact fin none 0 0 hx (by simpa using hs)
   ·rename_i fr cs n hxv
    rw [hxv] at hx
    simp only [Den] at hx
    rcases hx with ⟨h1,_,h3⟩|⟨g,o',cap,cur,e',fz,h1,_⟩
    ·subst h3;obtain ⟨p,c',h1⟩:=h1.at;exact fin p 0 c' h1 (hs p.isNone fun _=>rfl)
    ·exact fin _ _ _ h1 (hs false fun h=>by cases h)
   ·rename_i id n sz hxv
    rw [hxv] at hx
    simp only [Den] at hx
    obtain ⟨⟨cs,hc1,hc2⟩,hs⟩:=hs
    obtain ⟨_,cs',h3,_,hsp,hval⟩:=hx
    have h3':s.H id=some cs':=h3
    rw [hc1] at h3'
    injection h3' with h3'
    subst h3'
    rcases hval hc2 with ⟨a1,b1,_⟩|⟨g,cap,cur,e',_,b1,_⟩
    ·exact fin none 0 0 a1 (hs true fun _=>b1)
    ·exact fin _ _ _ b1 (hs false fun h=>by cases h)
   ·exact hs.elim
  case call f args =>
   simp only at hs
   have hc:=hs E M a w rfl hd h
   obtain ⟨c,hop',hop2⟩:=call_of_low hop
   refine wpIn_ent (run_call hop' hop2) (hc.mono fun e w' ⟨M',s',v,hk,he,hst⟩=>?_)
   exact ⟨v,he,hK _ _ ⟨M',s',hst,hk⟩⟩
  case raw op =>
   simp only at hs
   have hop':o.op=op:=raw_of_low hop
   exact hs E M a w o K' Q rfl hd hop' rfl h fun M' s' a' w' h1 h2=>hK _ _ ⟨M',s',h1,h2⟩
  all_goals
   simp only at hs
   split at hs
   ·rename_i r hr
    exact base r hr hs
   ·exact hs.elim
 ·cases hl

theorem Egz {ops:Array Oper}{Q:Exit→Act→World→Prop}{K:S→Prop}(hK:∀ a w,Told E K a w→Q .normal a w) :
  ∀ (l:List Oper) (al:List AOper) (M:Nat→Option Nat) (s:S) (a:Act) (w:World),lowOpers P E.nt ops l=some al→St E M s a w→aSeq P E.pin al K s→wpListIn (FW E.nt.rnd) 3 P ops Q l a w
 | [],al,M,s,a,w,hl,h,hs=>by
  simp [lowOpers] at hl
  subst hl
  exact hK a w ⟨M,s,h,hs⟩
 | o::r,al,M,s,a,w,hl,h,hs=>by
  simp only [lowOpers] at hl
  split at hl
  ·rename_i x l' hx hl'
   simp only [Option.some.injEq] at hl
   subst hl
   simp only [aSeq] at hs
   split at hs
   ·rename_i g hg
    have hx':=hx
    unfold lowOper at hx
    split at hx
    ·rename_i op gd hop hgd hd
     simp only [Option.some.injEq] at hx
     subst hx
     have hw:=Ciz h hgd hg
     unfold wpListIn
     rw [hw]
     cases g with
     | true =>
      simp only [if_true]
      refine Dqz h hx' (fun a' w' ⟨M',s',hst,hk⟩=>?_) (hs.1 rfl)
      exact Egz hK r l' M' s' a' w' hl' hst hk
     | false =>
      simp only [Bool.false_eq_true,if_false]
      exact ⟨fun _ _=>trivial,Egz hK r l' M _ _ w hl' (h.skip hd) (hs.2 rfl)⟩
    ·cases hx
   ·exact hs.elim
  ·cases hl

end


def awp (P:Program)(pin:Nat)(c:ACode)(Q:Exit→S→Prop)(s:S):Prop :=
 ∀ E M a w (cc:Code),E.pin=pin→lowCode P E.nt cc=some c→St E M s a w→cc.wpIn (FW E.nt.rnd) 3 P (fun e a' w'=>Told E (Q e) a' w') a w

section
variable {P:Program} {pin:Nat} {Q:Exit→S→Prop} {s:S}

theorem Alz (h:Q .normal s):awp P pin .skip Q s:=by
 intro E M a w cc hp hl hs
 cases cc<;>simp only [lowCode] at hl<;>first
  | exact wpIn_skip ⟨M,s,hs,h⟩
  | (exfalso;first|(simp at hl;done)|((repeat' (split at hl))<;>simp at hl;done)|(simp only [Option.map_eq_some_iff] at hl;obtain ⟨_,_,hl⟩:=hl;(try split at hl)<;>simp at hl;done))

theorem Adz (h:Q .ret s):awp P pin .ret Q s:=by
 intro E M a w cc hp hl hs
 cases cc<;>simp only [lowCode] at hl<;>first
  | exact wpIn_ret ⟨M,s,hs,h⟩
  | (exfalso;first|(simp at hl;done)|((repeat' (split at hl))<;>simp at hl;done)|(simp only [Option.map_eq_some_iff] at hl;obtain ⟨_,_,hl⟩:=hl;(try split at hl)<;>simp at hl;done))

theorem Arz {id:Nat}(h:Q (.exit id) s):awp P pin (.exit id) Q s:=by
 intro E M a w cc hp hl hs
 cases cc<;>simp only [lowCode] at hl<;>first
  | (simp only [Option.some.injEq,ACode.exit.injEq] at hl;subst hl;exact wpIn_exit ⟨M,s,hs,h⟩)
  | (exfalso;first|(simp at hl;done)|((repeat' (split at hl))<;>simp at hl;done)|(simp only [Option.map_eq_some_iff] at hl;obtain ⟨_,_,hl⟩:=hl;(try split at hl)<;>simp at hl;done))

theorem Ahz {ops:List AOper}(h:aSeq P pin ops (Q .normal) s):awp P pin (.reg ops) Q s:=by
 intro E M a w cc hp hl hs
 subst hp
 cases cc<;>simp only [lowCode] at hl<;>first
  | (exfalso;first|(simp at hl;done)|((repeat' (split at hl))<;>simp at hl;done)|(simp only [Option.map_eq_some_iff] at hl;obtain ⟨_,_,hl⟩:=hl;(try split at hl)<;>simp at hl;done))
  | skip
 rename_i id os dr
 simp only [Option.map_eq_some_iff] at hl
 obtain ⟨l,hl1,hl2⟩:=hl
 cases dr with
 | true=>simp at hl2
 | false =>
  simp only [Bool.false_eq_true,if_false,ACode.reg.injEq] at hl2
  subst hl2
  exact wpIn_region_list (Egz (fun a w h=>h) os.toList l M s a w hl1 hs h)

def athen (next:S→Prop)(Q:Exit→S→Prop):Exit→S→Prop
 | .normal,s=>next s
 | e,s=>Q e s

theorem Agz {x y:ACode}(h:awp P pin x (athen (awp P pin y Q) Q) s):awp P pin (.seq x y) Q s:=by
 intro E M a w cc hp hl hs
 cases cc<;>simp only [lowCode] at hl<;>first
  | (exfalso;first|(simp at hl;done)|(simp only [Option.map_eq_some_iff] at hl;obtain ⟨_,_,hl⟩:=hl;(try split at hl)<;>simp at hl;done)|((repeat' (split at hl))<;>simp at hl;done))
  | skip
 rename_i cx cy
 split at hl
 ·rename_i x' y' hx hy
  simp only [Option.some.injEq,ACode.seq.injEq] at hl
  obtain ⟨rfl,rfl⟩:=hl
  refine wpIn_seq (Go.wpIn_mono (h E M a w cx hp hx hs) fun e a' w' ⟨M',s',h1,h2⟩=>?_)
  cases e with
  | normal=>exact h2 E M' a' w' cy hp hy h1
  | _=>exact ⟨M',s',h1,h2⟩
 ·cases hl

theorem awp_cond {c:Operand}{t e:ACode}(b:Bool)(hb:s.ev c=.bool b)(ht:b=true→awp P pin t Q s)(he:b=false→awp P pin e Q s):awp P pin (.cond c t e) Q s:=by
 intro E M a w cc hp hl hs
 cases cc<;>simp only [lowCode] at hl<;>first
  | (exfalso;first|(simp at hl;done)|(simp only [Option.map_eq_some_iff] at hl;obtain ⟨_,_,hl⟩:=hl;(try split at hl)<;>simp at hl;done)|((repeat' (split at hl))<;>simp at hl;done))
  | skip
 split at hl
 ·rename_i x' y' hx hy
  simp only [Option.some.injEq,ACode.cond.injEq] at hl
  obtain ⟨rfl,rfl,rfl⟩:=hl
  have hd:=hs.ev ‹Operand›
  rw [hb] at hd
  simp only [Den] at hd
  cases b with
  | true=>exact wpIn_cond_true hd (ht rfl E M a w _ hp hx hs)
  | false=>exact wpIn_cond_false hd (he rfl E M a w _ hp hy hs)
 ·cases hl

def ablock (id:Nat)(Q:Exit→S→Prop):Exit→S→Prop
 | .exit id',s=>if id'=id then Q .normal s else Q (.exit id') s
 | e,s=>Q e s

theorem Aaz {id:Nat}{b:ACode}(h:awp P pin b (ablock id Q) s):awp P pin (.block id b) Q s:=by
 intro E M a w cc hp hl hs
 cases cc<;>simp only [lowCode] at hl<;>first
  | (exfalso;first|(simp at hl;done)|((repeat' (split at hl))<;>simp at hl;done)|(simp only [Option.map_eq_some_iff] at hl;obtain ⟨_,_,hl⟩:=hl;(try split at hl)<;>simp at hl;done))
  | skip
 simp only [Option.map_eq_some_iff] at hl
 obtain ⟨l,hl1,hl2⟩:=hl
 simp only [ACode.block.injEq] at hl2
 obtain ⟨rfl,rfl⟩:=hl2
 refine wpIn_block (Go.wpIn_mono (h E M a w _ hp hl1 hs) fun e a' w' ⟨M',s',h1,h2⟩=>?_)
 cases e with
 | exit id' =>
  simp only [Exit.inBlock,ablock] at *
  split
  ·rename_i hid;rw [if_pos hid] at h2;exact ⟨M',s',h1,h2⟩
  ·rename_i hid;rw [if_neg hid] at h2;exact ⟨M',s',h1,h2⟩
 | _=>exact ⟨M',s',h1,h2⟩

end
end Vw
