/- Loops,weaker states,a function's body,a call by the callee's contract. -/
import Derived.Test.YtjmcjjbhkiebkaaDoorCW1
import Derived.Deep.LoopGhost
import Derived.IntWalk
set_option linter.unusedSimpArgs false
set_option linter.unusedSectionVars false
set_option linter.unusedVariables false
namespace Vw
open Go
variable [Inhabited GlobT]


mutual
def AV.inn (p:Nat→Bool):AV→Bool
 | .ref id _ _=>p id
 | .own id _ _=>p id
 | .osl id _ _ _ _ _=>p id
 | .agg cs=>innL p cs
 | .tup cs=>innL p cs
 | .rows _ cs _=>innL p cs
 | .prow _ cs _=>innL p cs
 | .sref _ id=>p id
 | .clo _ az cs=>innL p az&&innL p cs
 | .ifc _ c=>c.inn p
 | .sp ids _=>ids.all p
 | _=>true
def innL (p:Nat→Bool):List AV→Bool
 | []=>true
 | c::r=>c.inn p&&innL p r
end

mutual
theorem Den.drop {C C':Ctx}{p:Nat→Bool}(hw:C'.w=C.w)(hA:C'.A=C.A)(hB:C'.B=C.B)(hH:∀ id,p id=true→C'.H id=C.H id)(hM:∀ id,p id=true→C'.M id=C.M id)(hM':∀ id g,C'.M id=some g→C.M id=some g) :
  ∀ {a:AV} {v:Value},a.inn p=true→Den C a v→Den C' a v
 | .unk,_,_,_=>by simp [Den]
 | .und,_,_,h=>by simpa [Den] using h
 | .int ..,_,_,h=>by simpa [Den] using h
 | .bool _,_,_,h=>by simpa [Den] using h
 | .str _,_,_,h=>by simpa [Den] using h
 | .val _,_,_,h=>by simpa [Den] using h
 | .agg cs,_,hp,h=>by
  simp only [Den,AV.inn] at *
  obtain ⟨vs,h1,h2,h3⟩:=h
  exact ⟨vs,h1,h2,DenP.drop hw hA hB hH hM hM' hp h3⟩
 | .tup cs,_,hp,h=>by
  simp only [Den,AV.inn] at *
  obtain ⟨vs,h1,h2,h3⟩:=h
  exact ⟨vs,h1,h2,DenP.drop hw hA hB hH hM hM' hp h3⟩
 | .rows fr cs n,_,hp,h=>by
  simp only [Den,AV.inn] at *
  rcases h with h|⟨g,o,cap,cur,e,fz,h1,h2,h3,h4,h5⟩
  ·exact .inl h
  ·exact .inr ⟨g,o,cap,cur,e,fz,h1,by rw [hw];exact h2,⟨fun id hc=>h3.1 id (hM' id g hc),by rw [hB];exact h3.2.1,by rw [hA];exact h3.2.2⟩,h4,DenP.drop hw hA hB hH hM hM' hp h5⟩
 | .prow fr cs off,_,hp,h=>by
  simp only [Den,AV.inn] at *
  obtain ⟨g,o,cur,e,fz,h1,h2,h3,h5⟩:=h
  exact ⟨g,o,cur,e,fz,h1,by rw [hw];exact h2,⟨fun id hc=>h3.1 id (hM' id g hc),by rw [hB];exact h3.2.1,by rw [hA];exact h3.2.2⟩,DenP.drop hw hA hB hH hM hM' hp h5⟩
 | .ref id len off,_,hp,h=>by
  simp only [Den,AV.inn] at *
  rw [hH id hp,hM id hp]
  exact h
 | .own id n sz,_,hp,h=>by
  simp only [Den,AV.inn] at *
  rw [hH id hp,hM id hp,hw]
  exact h
 | .osl id len off n sz c,_,hp,h=>by
  simp only [Den,AV.inn] at *
  rw [hH id hp,hM id hp]
  exact h
 | .sref _ id,_,hp,h=>by
  simp only [Den,AV.inn] at *
  rw [hH id hp,hM id hp]
  exact h
 | .clo fn az cs,_,hp,h=>by
  simp only [Den,AV.inn,Bool.and_eq_true] at *
  obtain ⟨us,vs,h1,h2,h3,h4,h5⟩:=h
  exact ⟨us,vs,h1,h2,h3,DenP.drop hw hA hB hH hM hM' hp.1 h4,DenP.drop hw hA hB hH hM hM' hp.2 h5⟩
 | .ifc t c,_,hp,h=>by
  simp only [Den,AV.inn] at *
  obtain ⟨u,h1,h2⟩:=h
  exact ⟨u,h1,Den.drop hw hA hB hH hM hM' hp h2⟩
 | .sp ..,_,_,h=>by simp [Den] at h
theorem DenP.drop {C C':Ctx}{p:Nat→Bool}(hw:C'.w=C.w)(hA:C'.A=C.A)(hB:C'.B=C.B)(hH:∀ id,p id=true→C'.H id=C.H id)(hM:∀ id,p id=true→C'.M id=C.M id)(hM':∀ id g,C'.M id=some g→C.M id=some g) :
  ∀ {cs:List AV} {vs:List Value},innL p cs=true→DenP C cs vs→DenP C' cs vs
 | [],_,_,_=>by simp [DenP]
 | _::_,[],_,h=>by simp [DenP] at h
 | _::_,_::_,hp,h=>by
  simp only [DenP,innL,Bool.and_eq_true] at *
  exact ⟨Den.drop hw hA hB hH hM hM' hp.1 h.1,DenP.drop hw hA hB hH hM hM' hp.2 h.2⟩
end

def lk:List (Nat×AV)→Nat→AV
 | [],_=>.unk
 | (t,v)::r,n=>if n=t then v else lk r n
def hk:List (Nat×List AV)→Nat→Option (List AV)
 | [],_=>none
 | (t,v)::r,n=>if n=t then some v else hk r n
def mkS (σ:List (Nat×AV))(H:List (Nat×List AV)):S:=⟨lk σ,hk H⟩

theorem upd_lk (σ:List (Nat×AV))(t:Nat)(v:AV):upd (lk σ) t v=lk ((t,v)::σ):=by funext n;simp [upd,lk]
theorem upd_hk (H:List (Nat×List AV))(t:Nat)(v:List AV):upd (hk H) t (some v)=hk ((t,v)::H):=by funext n;simp [upd,hk]

structure Sub (pin:Nat) (s s':S):Prop where
 slot:∀ t,s'.σ t=s.σ t∨s'.σ t=.unk
 obj:∀ id cs,s'.H id=some cs→s.H id=some cs
 pinned:∀ id,id<pin→s'.H id=none→s.H id=none
 inn:∀ t,(s'.σ t).inn (fun id=>(s'.H id).isSome)=true
 innH:∀ id cs,s'.H id=some cs→innL (fun id=>(s'.H id).isSome) cs=true

mutual
theorem Den.cellsKept {C C':Ctx}(hM:C'.M=C.M)(hH:C'.H=C.H)(hA:C'.A=C.A)(hB:C'.B=C.B)(hc:∀ (g:Nat) (cur:Array Value) (e:TypeId) (fz:Nat×Nat),C.w.heap[g]?=some (Obj.cells cur e fz)→C'.w.heap[g]?=C.w.heap[g]?) :
  ∀ {a:AV} {v:Value},Den C a v→Den C' a v
 | .unk,_,_=>by simp [Den]
 | .und,_,h=>by simpa [Den] using h
 | .int ..,_,h=>by simpa [Den] using h
 | .bool _,_,h=>by simpa [Den] using h
 | .str _,_,h=>by simpa [Den] using h
 | .val _,_,h=>by simpa [Den] using h
 | .agg cs,_,h=>by
  simp only [Den] at *
  obtain ⟨vs,h1,h2,h3⟩:=h
  exact ⟨vs,h1,h2,DenP.cellsKept hM hH hA hB hc h3⟩
 | .tup cs,_,h=>by
  simp only [Den] at *
  obtain ⟨vs,h1,h2,h3⟩:=h
  exact ⟨vs,h1,h2,DenP.cellsKept hM hH hA hB hc h3⟩
 | .rows fr cs n,_,h=>by
  simp only [Den] at *
  rcases h with h|⟨g,o,cap,cur,e,fz,h1,h2,h3,h4,h5⟩
  ·exact .inl h
  ·exact .inr ⟨g,o,cap,cur,e,fz,h1,(hc g cur e fz h2).trans h2,by unfold Ctx.ok at h3 ⊢;rw [hM,hB,hA];exact h3,h4,DenP.cellsKept hM hH hA hB hc h5⟩
 | .prow fr cs off,_,h=>by
  simp only [Den] at *
  obtain ⟨g,o,cur,e,fz,h1,h2,h3,h5⟩:=h
  exact ⟨g,o,cur,e,fz,h1,(hc g cur e fz h2).trans h2,by unfold Ctx.ok at h3 ⊢;rw [hM,hB,hA];exact h3,DenP.cellsKept hM hH hA hB hc h5⟩
 | .ref id len off,_,h=>by
  simp only [Den] at *
  rw [hM,hH]
  exact h
 | .own id n sz,_,h=>by
  simp only [Den] at *
  rw [hM,hH]
  obtain ⟨h0,cs,h1,h2,hs,h3⟩:=h
  refine ⟨h0,cs,h1,h2,hs,fun hl=>?_⟩
  rcases h3 hl with h|⟨g,cap,cur,e,hg,hv,hn,hc',hh,hs⟩
  ·exact .inl h
  ·exact .inr ⟨g,cap,cur,e,hg,hv,hn,hc',(hc g _ _ _ hh).trans hh,hs⟩
 | .osl id len off n sz c,_,h=>by
  simp only [Den] at *
  rw [hM,hH]
  exact h
 | .sref k0 id,_,h=>by
  simp only [Den] at *
  rw [hM,hH]
  exact h
 | .clo fn az cs,_,h=>by
  simp only [Den] at *
  obtain ⟨us,vs,h1,h2,h3,h4,h5⟩:=h
  exact ⟨us,vs,h1,h2,h3,DenP.cellsKept hM hH hA hB hc h4,DenP.cellsKept hM hH hA hB hc h5⟩
 | .ifc t c,_,h=>by
  simp only [Den] at *
  obtain ⟨u,h1,h2⟩:=h
  exact ⟨u,h1,Den.cellsKept hM hH hA hB hc h2⟩
 | .sp ..,_,h=>by simp [Den] at h
theorem DenP.cellsKept {C C':Ctx}(hM:C'.M=C.M)(hH:C'.H=C.H)(hA:C'.A=C.A)(hB:C'.B=C.B)(hc:∀ (g:Nat) (cur:Array Value) (e:TypeId) (fz:Nat×Nat),C.w.heap[g]?=some (Obj.cells cur e fz)→C'.w.heap[g]?=C.w.heap[g]?) :
  ∀ {cs:List AV} {vs:List Value},DenP C cs vs→DenP C' cs vs
 | [],_,_=>by simp [DenP]
 | _::_,[],h=>by simp [DenP] at h
 | _::_,_::_,h=>by
  simp only [DenP] at *
  exact ⟨Den.cellsKept hM hH hA hB hc h.1,DenP.cellsKept hM hH hA hB hc h.2⟩
end

theorem St.others {E:Env}{M:Nat→Option Nat}{s:S}{a:Act}{w w':World}(h:St E M s a w)(h1:w'.os=w.os)(h2:w'.tape=w.tape)(h3:w'.output=w.output)(hs:w.heap.size≤w'.heap.size)
  (hh:∀ g,g<w.heap.size→w'.heap[g]?=w.heap[g]?∨(isC w.heap[g]?=false∧E.w0.heap.size≤g∧(∀ id,M id≠some g)∧E.frz g=none∧({ target:=.collected g,args:=#[] }:Deferred) ∉ a.defers)):St E M s a w':=by
 have hc:∀ (g:Nat) (cur:Array Value) (e:TypeId) (fz:Nat×Nat),w.heap[g]?=some (Obj.cells cur e fz)→w'.heap[g]?=w.heap[g]?:=fun g cur e fz hg=>by
  rcases hh g (lt_of_heap hg) with h|⟨h,_⟩
  ·exact h
  ·rw [hg] at h;cases h
 have hobj:∀ id g,M id=some g→w'.heap[g]?=w.heap[g]?:=fun id g hg=>by
  rcases hh g (h.hok.lt hg) with h|⟨_,_,h,_⟩
  ·exact h
  ·exact absurd hg (h id)
 have hden:∀ {a:AV} {v:Value},Den (E.C M s.H w) a v→Den (E.C M s.H w') a v:=fun hd=>Den.cellsKept (C:=E.C M s.H w) (C':=E.C M s.H w') rfl rfl rfl rfl hc hd
 have hdenP:∀ {cs:List AV} {vs:List Value},DenP (E.C M s.H w) cs vs→DenP (E.C M s.H w') cs vs:=fun hd=>DenP.cellsKept (C:=E.C M s.H w) (C':=E.C M s.H w') rfl rfl rfl rfl hc hd
 refine ⟨⟨?_,fun g o hg=>?_,h.defers.fixd,Nat.le_trans h.defers.big hs⟩,h.size,fun t=>hden (h.slots t),⟨fun id cs hcs=>?_,h.hok.no,h.hok.inj⟩,⟨h1.trans h.old.os,h2.trans h.old.tape,h3.trans h.old.output,Nat.le_trans h.old.size hs,fun g hg hn=>?_,h.old.pinned,h.old.new,fun id g a1 a2 cur e a3=>?_,fun id g a1 a2 a3=>?_⟩⟩
 ·obtain ⟨Ds,d1,d2,d3⟩:=h.defers.defs
  refine ⟨Ds,d1,d2,fun D hD=>?_⟩
  obtain ⟨b1,b2,b3⟩:=d3 D hD
  refine ⟨b1,?_,b3⟩
  rcases hh D (lt_of_heap b2) with h|⟨_,_,_,_,h⟩
  ·exact h.trans b2
  ·exact absurd (by rw [d2];exact List.mem_map.2 ⟨D,hD,rfl⟩) h
 ·obtain ⟨b1,b2⟩:=h.defers.still g o hg
  refine ⟨?_,b2⟩
  rcases hh g (lt_of_heap b1) with h|⟨_,_,_,h,_⟩
  ·exact h.trans b1
  ·rw [hg] at h;cases h
 ·have hcs':(E.C M s.H w).H id=some cs:=hcs
  rcases h.hok.hasX id cs hcs' with (b|⟨g,cur,e,b1,b2,b3⟩)|⟨g,ids,f,o,b1,b2,b3,b4,b5⟩
  ·exact .inl (.inl b)
  ·exact .inl (.inr ⟨g,cur,e,b1,(hobj id g b1).trans b2,hdenP b3⟩)
  ·exact .inr ⟨g,ids,f,o,b1,b2,(hobj id g b2).trans b3,b4,b5⟩
 ·rcases hh g (Nat.lt_of_lt_of_le hg h.old.size) with h'|⟨_,h',_⟩
  ·exact h'.trans (h.old.block g hg hn)
  ·omega
 ·obtain ⟨cur',e',c1,c2⟩:=h.old.psize id g a1 a2 cur e a3
  exact ⟨cur',e',(hobj id g ((h.old.pinned id a1).trans a2)).trans c1,c2⟩
 ·rw [hobj id g ((h.old.pinned id a1).trans a2)]
  exact h.old.pkind id g a1 a2 a3

theorem St.leaves {E:Env}{M:Nat→Option Nat}{s:S}{P:Program}{F:Fence}{n:Nat}{fn:Func}{R:Ending→World→Prop}(hz:E.frz=fun _=>none):∀ (Ds:List Nat) (a:Act) (w:World),St E M s a w→Ds.Nodup→a.defers=Ds.map (fun D=>{ target:=.collected D,args:=#[] }) →
  (∀ w',St E M s { a with defers:=[] } w'→∃ v,(results fn a.tmps).run P w'=.ok v w'∧R (.returned v) w')→LeavesInM F n P fn a.tmps R a.defers .returning w
 | [],a,w,h,_,he,hR=>by
  rw [he]
  show LeavesIn F n P fn a.tmps R [] .returning w
  have e:a={ a with defers:=[] }:=by cases a;simp at he;subst he;rfl
  rw [e] at h
  exact hR w h
 | D::Ds,a,w,h,hn,he,hR=>by
  rw [List.nodup_cons] at hn
  obtain ⟨Ds',d1,d2,d3⟩:=h.defers.defs
  have hds:Ds'=D::Ds:=by
   have e:Ds'.map (fun D=>({ target:=.collected D,args:=#[] }:Deferred))=(D::Ds).map (fun D=>({ target:=.collected D,args:=#[] }:Deferred)):=d2.symm.trans he
   exact List.map_inj_right (fun x y hxy=>by simpa using hxy) |>.1 e
  subst hds
  obtain ⟨b1,b2,b3⟩:=d3 D (by simp)
  rw [he]
  refine ⟨by simp,.inl ⟨D,_,rfl,run_takeDeferred b2,?_⟩⟩
  have h0:St E M s { a with defers:=Ds.map (fun D=>{ target:=.collected D,args:=#[] }) } w :=
   ⟨⟨⟨Ds,hn.2,rfl,fun D' hD'=>d3 D' (by simp [hD'])⟩,h.defers.still,h.defers.fixd,h.defers.big⟩,h.size,h.slots,h.hok,h.old⟩
  have h1:St E M s { a with defers:=Ds.map (fun D=>{ target:=.collected D,args:=#[] }) } (w.putObj D (.deferred none)):=by
   refine h0.others rfl rfl rfl (by simp [World.putObj]) fun g hg=>?_
   by_cases hgD:g=D
   ·subst hgD
    refine .inr ⟨by rw [b2];rfl,b1,b3,by rw [hz],?_⟩
    simp only [List.mem_map,Deferred.mk.injEq,Target.collected.injEq,and_true]
    rintro ⟨x,hx,rfl⟩
    exact hn.1 hx
   ·exact .inl (World.putObj_heap_other hgD)
  exact St.leaves hz Ds _ _ h1 hn.2 rfl hR

theorem Ckz {P:Program}{F:Fence}{n:Nat}{Q:Exit→Act→World→Prop}{a:Act}{w:World}{c:Code}(I:Nat→Act→World→Prop)(n₀:Nat)(h₀:I n₀ a w)
  (round:∀ k a w,I k a w→c.wpIn F n P (Exit.then (fun a' w'=>∃ n',n'<k∧I n' a' w') Q) a w):(Code.loop c).wpIn F n P Q a w:=by
 refine wpIn_loop (fun a w=>∃ n,I n a w) (fun a w=>leastOf (fun n=>I n a w)) ⟨n₀,h₀⟩ ?_
 intro a w hI
 refine Go.wpIn_mono (round _ a w (leastOf_spec hI).1) ?_
 intro e a' w' hq
 cases e with
 | normal =>
  obtain ⟨n',hlt,hI'⟩:=hq
  exact show (∃ n,I n a' w')∧leastOf (fun n=>I n a' w')<leastOf (fun n=>I n a w) from ⟨⟨n',hI'⟩,Nat.lt_of_le_of_lt ((leastOf_spec ⟨n',hI'⟩).2 n' hI') hlt⟩
 | _=>exact hq

theorem St.subM {E:Env}{M:Nat→Option Nat}{s s':S}{a:Act}{w:World}(h:St E M s a w)(hs:Sub E.pin s s'):St E (fun id=>if (s'.H id).isSome then M id else none) s' a w:=by
 let M':Nat→Option Nat:=fun id=>if (s'.H id).isSome then M id else none
 have hH:∀ id,(s'.H id).isSome=true→s'.H id=s.H id:=fun id hi=>by
  obtain ⟨cs,hc⟩:=Option.isSome_iff_exists.1 hi
  rw [hc,hs.obj id cs hc]
 have hM:∀ id,(s'.H id).isSome=true→M' id=M id:=fun id hi=>by simp [M',hi]
 have hM':∀ id g,M' id=some g→M id=some g:=fun id g hg=>by
  simp only [M'] at hg
  split at hg
  ·exact hg
  ·cases hg
 show St E M' s' a w
 refine ⟨h.defers.less (fun id g hg=>⟨id,hM' id g hg⟩),h.size,fun t=>?_,⟨fun id cs hc=>?_,fun id hn=>by show M' id=none;have hx:s'.H id=none:=hn;simp [M',hx],fun i j g hi hj=>h.hok.inj i j g (hM' i g hi) (hM' j g hj)⟩,⟨h.old.os,h.old.tape,h.old.output,h.old.size,h.old.block,fun id hi=>?_,fun id g hi hg=>h.old.new id g hi (hM' id g hg),h.old.psize,h.old.pkind⟩⟩
 ·rcases hs.slot t with he|he
  ·have hi:=hs.inn t
   rw [he] at hi ⊢
   exact Den.drop (C:=E.C M s.H w) (C':=E.C M' s'.H w) rfl rfl rfl hH hM hM' hi (h.slots t)
  ·rw [he];simp [Den]
 ·have hc':s'.H id=some cs:=hc
  have hsome:(s'.H id).isSome=true:=by rw [hc'];rfl
  rcases h.hok.hasX id cs (hs.obj id cs hc) with (⟨a,b⟩|⟨g,cur,e,a,b,c⟩)|⟨g,ids,f,o,he,a,b,hc1,hc2⟩
  ·exact .inl (.inl ⟨(hM id hsome).trans a,b⟩)
  ·exact .inl (.inr ⟨g,cur,e,(hM id hsome).trans a,b,DenP.drop (C:=E.C M s.H w) (C':=E.C M' s'.H w) rfl rfl rfl hH hM hM' (hs.innH id cs hc) c⟩)
  ·refine .inr ⟨g,ids,f,o,he,(hM id hsome).trans a,b,hc1,fun f0 hf=>?_⟩
   obtain ⟨⟨gs,h2,ho⟩,h5⟩:=hc2 f0 hf
   have hin:=hs.innH id cs hc
   rw [he] at hin
   simp only [innL,AV.inn,Bool.and_true,List.all_eq_true] at hin
   refine ⟨⟨gs,(Crz fun i hi=>hM i (hin i hi)).trans h2,ho⟩,fun i hi=>?_⟩
   obtain ⟨cs',h6,h7⟩:=h5 i hi
   exact ⟨cs',(hH i (hin i hi)).trans h6,h7⟩
 ·by_cases hx:(s'.H id).isSome=true
  ·rw [hM id hx];exact h.old.pinned id hi
  ·have hn:s'.H id=none:=by simpa using hx
   have:M id=none:=h.hok.no id (hs.pinned id hi hn)
   rw [← h.old.pinned id hi,this]
   simp [M',hn]
theorem St.sub {E:Env}{M:Nat→Option Nat}{s s':S}{a:Act}{w:World}(h:St E M s a w)(hs:Sub E.pin s s'):∃ M',St E M' s' a w:=⟨_,h.subM hs⟩

theorem lk_mem (σ:List (Nat×AV))(t:Nat):lk σ t=.unk∨∃ p∈σ,p.1=t∧lk σ t=p.2:=by
 induction σ with
 | nil=>exact .inl rfl
 | cons p r ih =>
  simp only [lk]
  split
  ·rename_i h;exact .inr ⟨p,by simp,h.symm,rfl⟩
  ·rcases ih with h|⟨q,hq,h1,h2⟩
   ·exact .inl h
   ·exact .inr ⟨q,by simp [hq],h1,h2⟩

theorem hk_mem (H:List (Nat×List AV))(t:Nat)(cs:List AV)(h:hk H t=some cs):∃ p∈H,p.1=t∧cs=p.2:=by
 induction H with
 | nil=>simp [hk] at h
 | cons p r ih =>
  simp only [hk] at h
  split at h
  ·rename_i ht;exact ⟨p,by simp,ht.symm,by simpa using h.symm⟩
  ·obtain ⟨q,hq,h1⟩:=ih h
   exact ⟨q,by simp [hq],h1⟩

theorem Sub.of_lists {pin:Nat}{s:S}{σ:List (Nat×AV)}{H:List (Nat×List AV)}(h1:∀ p∈σ,s.σ p.1=p.2)(h2:∀ p∈H,s.H p.1=some p.2)(h3:∀ id,id<pin→hk H id=none→s.H id=none)
  (h4:∀ p∈σ,p.2.inn (fun id=>(hk H id).isSome)=true) (h5:∀ p∈H,innL (fun id=>(hk H id).isSome) p.2=true):Sub pin s (mkS σ H):=by
 refine ⟨fun t=>?_,fun id cs h=>?_,h3,fun t=>?_,fun id cs h=>?_⟩
 ·rcases lk_mem σ t with h|⟨p,hp,h,h'⟩
  ·exact .inr h
  ·exact .inl (by show lk σ t=_;rw [h',← h];exact (h1 p hp).symm)
 ·obtain ⟨p,hp,e1,e2⟩:=hk_mem H id cs h
  rw [e2,← e1];exact h2 p hp
 ·show (lk σ t).inn _=true
  rcases lk_mem σ t with h|⟨p,hp,h,h'⟩
  ·rw [h];rfl
  ·rw [h'];exact h4 p hp
 ·obtain ⟨p,hp,e1,e2⟩:=hk_mem H id cs h
  rw [e2];exact h5 p hp

section
variable {P:Program} {pin:Nat} {Q:Exit→S→Prop} {s:S}

theorem awp_sub {c:ACode}{s':S}(hs:Sub pin s s')(h:awp P pin c Q s'):awp P pin c Q s:=by
 intro E M a w cc hp hl hst
 subst hp
 obtain ⟨M',hst'⟩:=hst.sub hs
 exact h E M' a w cc rfl hl hst'

theorem Avz {b:ACode}{κ:Type}(I:κ→S)(Pre:κ→Prop)(μ:κ→Nat)(x0:κ)(h0:Pre x0)(hs:Sub pin s (I x0))
  (round:∀ x,Pre x→awp P pin b (athen (fun s'=>∃ x',Pre x'∧μ x'<μ x∧Sub pin s' (I x')) Q) (I x)):awp P pin (.loop b) Q s:=by
 refine awp_sub hs ?_
 intro E M a w cc hp hl hst
 subst hp
 cases cc<;>simp only [lowCode] at hl<;>first
  | (exfalso;first|(simp at hl;done)|((repeat' (split at hl))<;>simp at hl;done)|(simp only [Option.map_eq_some_iff] at hl;obtain ⟨_,_,hl⟩:=hl;(try split at hl)<;>simp at hl;done))
  | skip
 simp only [Option.map_eq_some_iff] at hl
 obtain ⟨l,hl1,hl2⟩:=hl
 simp only [ACode.loop.injEq] at hl2
 subst hl2
 refine Ckz (fun n a w=>∃ x M,Pre x∧μ x=n∧St E M (I x) a w) (μ x0) ⟨x0,M,h0,rfl,hst⟩ ?_
 rintro n a w ⟨x,M,hx,hn,hst⟩
 refine Go.wpIn_mono (round x hx E M a w _ rfl hl1 hst) fun e a' w' ⟨M',s',h1,h2⟩=>?_
 cases e with
 | normal =>
  obtain ⟨x',hx',hlt,hsub⟩:=h2
  obtain ⟨M'',hst''⟩:=h1.sub hsub
  exact ⟨μ x',by omega,x',M'',hx',rfl,hst''⟩
 | _=>exact ⟨M',s',h1,h2⟩

end


mutual
def AV.pass1:AV→AV
 | .rows _ cs n=>.rows false (pass1L cs) n
 | .agg cs=>.agg (pass1L cs)
 | .tup cs=>.tup (pass1L cs)
 | .val (.slice none 0 0)=>.rows false [] 0
 | .ref ..=>.unk
 | .own ..=>.unk
 | .osl ..=>.unk
 | .prow ..=>.unk
 | .sref ..=>.unk
 | .clo fn az cs=>.clo fn (pass1L az) (pass1L cs)
 | .ifc t c=>.ifc t c.pass1
 | a=>a
def pass1L:List AV→List AV
 | []=>[]
 | c::r=>c.pass1::pass1L r
end

mutual
def AV.pass (H:Nat→Option (List AV)):AV→AV
 | .own id n sz=>match H id with
  | some cs=>if cs.length=n*sz then .rows false (pass1L cs) n else .unk
  | none=>.unk
 | .osl id len off n sz _=>match H id with
  | some cs=>if cs.length=len then .rows false (pass1L ((cs.drop off).take (n*sz))) n else .unk
  | none=>.unk
 | .rows _ cs n=>.rows false (passL H cs) n
 | .agg cs=>.agg (passL H cs)
 | .tup cs=>.tup (passL H cs)
 | .val (.slice none 0 0)=>.rows false [] 0
 | .ref ..=>.unk
 | .prow ..=>.unk
 | .sref ..=>.unk
 | .clo fn az cs=>.clo fn (passL H az) (passL H cs)
 | .ifc t c=>.ifc t (c.pass H)
 | a=>a
def passL (H:Nat→Option (List AV)):List AV→List AV
 | []=>[]
 | c::r=>c.pass H::passL H r
end

mutual
def AV.tk (sh:Bool):AV→AV
 | .rows fr cs n=>if fr then .rows true (tkL sh cs) n else if sh then .rows false (tkL sh cs) n else .unk
 | .agg cs=>.agg (tkL sh cs)
 | .tup cs=>.tup (tkL sh cs)
 | .ref ..=>.unk
 | .own ..=>.unk
 | .osl ..=>.unk
 | .prow ..=>.unk
 | .sref ..=>.unk
 | .clo fn az cs=>.clo fn (tkL sh az) (tkL sh cs)
 | .ifc t c=>.ifc t (c.tk sh)
 | a=>a
def tkL (sh:Bool):List AV→List AV
 | []=>[]
 | c::r=>c.tk sh::tkL sh r
end

theorem Bgz:∀ l:List AV,(pass1L l).length=l.length
 | []=>rfl
 | c::r=>by simp [pass1L,Bgz r]
theorem Bnz (H:Nat→Option (List AV)):∀ l:List AV,(passL H l).length=l.length
 | []=>rfl
 | c::r=>by simp [passL,Bnz H r]
theorem B3z (sh:Bool):∀ l:List AV,(tkL sh l).length=l.length
 | []=>rfl
 | c::r=>by simp [tkL,B3z sh r]

def Ctx.callee (w w':World)(Bc:Nat→Prop):Ctx:=⟨w',fun _=>none,fun _=>none,fun g=>g<w.heap.size,Bc⟩

mutual
theorem Den.pass1 {C:Ctx}{Bc:Nat→Prop}(hB:∀ g,Bc g→C.B g∨∃ id,C.M id=some g):∀ {a:AV} {v:Value},Den C a v→Den (Ctx.callee C.w C.w Bc) a.pass1 v
 | .unk,_,_=>by simp [AV.pass1,Den]
 | .und,_,h=>by simpa [AV.pass1,Den] using h
 | .int ..,_,h=>by simpa [AV.pass1,Den] using h
 | .bool _,_,h=>by simpa [AV.pass1,Den] using h
 | .str _,_,h=>by simpa [AV.pass1,Den] using h
 | .val u,_,h=>by
  simp only [Den] at h
  subst h
  unfold AV.pass1
  split<;>simp_all [Den,EmptyS.nil]
 | .agg cs,_,h=>by
  simp only [AV.pass1,Den] at *
  obtain ⟨vs,h1,h2,h3⟩:=h
  exact ⟨vs,h1,by rw [Bgz];exact h2,DenP.pass1 hB h3⟩
 | .tup cs,_,h=>by
  simp only [AV.pass1,Den] at *
  obtain ⟨vs,h1,h2,h3⟩:=h
  exact ⟨vs,h1,by rw [Bgz];exact h2,DenP.pass1 hB h3⟩
 | .rows fr cs n,_,h=>by
  simp only [AV.pass1,Den] at *
  rcases h with ⟨h1,rfl,h3⟩|⟨g,o,cap,cur,e,fz,h1,h2,h3,h4,h5⟩
  ·exact .inl ⟨h1,rfl,h3⟩
  ·refine .inr ⟨g,o,cap,cur,e,fz,h1,h2,⟨(fun _ h=>by cases h),fun hb=>?_,(fun h=>by cases h)⟩,h4,DenP.pass1 hB h5⟩
   rcases hB g hb with hb|⟨id,hid⟩
   ·exact h3.2.1 hb
   ·exact h3.1 id hid
 | .prow ..,_,_=>by simp [AV.pass1,Den]
 | .ref ..,_,_=>by simp [AV.pass1,Den]
 | .own ..,_,_=>by simp [AV.pass1,Den]
 | .osl ..,_,_=>by simp [AV.pass1,Den]
 | .sref ..,_,_=>by simp [AV.pass1,Den]
 | .clo fn az cs,_,h=>by
  simp only [AV.pass1,Den] at *
  obtain ⟨us,vs,h1,h2,h3,h4,h5⟩:=h
  exact ⟨us,vs,h1,by rw [Bgz];exact h2,by rw [Bgz];exact h3,DenP.pass1 hB h4,DenP.pass1 hB h5⟩
 | .ifc t c,_,h=>by
  simp only [AV.pass1,Den] at *
  obtain ⟨u,h1,h2⟩:=h
  exact ⟨u,h1,Den.pass1 hB h2⟩
 | .sp ..,_,h=>by simp [Den] at h
theorem DenP.pass1 {C:Ctx}{Bc:Nat→Prop}(hB:∀ g,Bc g→C.B g∨∃ id,C.M id=some g):∀ {cs:List AV} {vs:List Value},DenP C cs vs→DenP (Ctx.callee C.w C.w Bc) (pass1L cs) vs
 | [],_,_=>by simp [pass1L,DenP]
 | _::_,[],h=>by simp [DenP] at h
 | _::_,_::_,h=>by
  simp only [pass1L,DenP] at *
  exact ⟨Den.pass1 hB h.1,DenP.pass1 hB h.2⟩
end

mutual
theorem Den.pass {C:Ctx}(hk:HOK C):∀ {a:AV} {v:Value},Den C a v→Den (Ctx.callee C.w C.w (fun _=>False)) (a.pass C.H) v
 | .unk,_,_=>by simp [AV.pass,Den]
 | .und,_,h=>by simpa [AV.pass,Den] using h
 | .int ..,_,h=>by simpa [AV.pass,Den] using h
 | .bool _,_,h=>by simpa [AV.pass,Den] using h
 | .str _,_,h=>by simpa [AV.pass,Den] using h
 | .val u,_,h=>by
  simp only [Den] at h
  subst h
  unfold AV.pass
  split<;>simp_all [Den,EmptyS.nil]
 | .agg cs,_,h=>by
  simp only [AV.pass,Den] at *
  obtain ⟨vs,h1,h2,h3⟩:=h
  exact ⟨vs,h1,by rw [Bnz];exact h2,DenP.pass hk h3⟩
 | .tup cs,_,h=>by
  simp only [AV.pass,Den] at *
  obtain ⟨vs,h1,h2,h3⟩:=h
  exact ⟨vs,h1,by rw [Bnz];exact h2,DenP.pass hk h3⟩
 | .rows fr cs n,_,h=>by
  simp only [AV.pass,Den] at *
  rcases h with ⟨h1,rfl,h3⟩|⟨g,o,cap,cur,e,fz,h1,h2,h3,h4,h5⟩
  ·exact .inl ⟨h1,rfl,h3⟩
  ·exact .inr ⟨g,o,cap,cur,e,fz,h1,h2,⟨(fun _ h=>by cases h),fun hb=>hb,(fun h=>by cases h)⟩,h4,DenP.pass hk h5⟩
 | .prow ..,_,_=>by simp [AV.pass,Den]
 | .ref ..,_,_=>by simp [AV.pass,Den]
 | .own id n sz,_,h=>by
  simp only [Den] at h
  obtain ⟨_,cs,hH,_,hsp,hval⟩:=h
  simp only [AV.pass,hH]
  split
  ·rename_i hc
   simp only [Den]
   rcases hval hc with ⟨h1,h2,h3⟩|⟨g,cap,cur,e,hM,hv,hn,_,hg,_⟩
   ·rcases hk.has id cs hH hsp with ⟨_,rfl⟩|⟨g,_,_,a,_⟩
    ·exact .inl ⟨.inl h1,rfl,h2⟩
    ·rw [h3] at a;cases a
   ·rcases hk.has id cs hH hsp with ⟨a,_⟩|⟨g',cur',e',a,b,c⟩
    ·rw [hM] at a;cases a
    ·rw [hM] at a
     injection a with a
     subst a
     exact .inr ⟨g,0,cap,cur',e',(0,0),hv,b,⟨(fun _ h=>by cases h),fun hb=>hb,(fun h=>by cases h)⟩,hn,by simpa using DenP.pass1 (Bc:=fun _=>False) (fun _ h=>h.elim) c⟩
  ·simp [Den]
 | .osl id len off n sz c,_,h=>by
  simp only [Den] at h
  obtain ⟨_,cs,hH,_,⟨_,hnc⟩,hsp,hval⟩:=h
  simp only [AV.pass,hH]
  split
  ·rename_i hc
   simp only [Den]
   rcases hval hc with ⟨h1,rfl,_⟩|⟨g,o,cap,hM,hv,hn,ho⟩
   ·exact .inl ⟨.inl h1,by simp [pass1L],rfl⟩
   ·rcases hk.has id cs hH hsp with ⟨a,_⟩|⟨g',cur',e',a,b,c⟩
    ·rw [hM] at a;cases a
    ·rw [hM] at a
     injection a with a
     subst a
     refine .inr ⟨g,o,cap,cur',e',(0,0),hv,b,⟨(fun _ h=>by cases h),fun hb=>hb,(fun h=>by cases h)⟩,Nat.le_trans hnc hn,?_⟩
     by_cases hn0:n=0
     ·subst hn0;simp [pass1L,DenP]
     ·rw [ho (by omega)]
      exact DenP.pass1 (C:=C) (Bc:=fun _=>False) (fun _ h=>h.elim) (Cxz (Boz c off) _)
  ·simp [Den]
 | .sref ..,_,_=>by simp [AV.pass,Den]
 | .clo fn az cs,_,h=>by
  simp only [AV.pass,Den] at *
  obtain ⟨us,vs,h1,h2,h3,h4,h5⟩:=h
  exact ⟨us,vs,h1,by rw [Bnz];exact h2,by rw [Bnz];exact h3,DenP.pass hk h4,DenP.pass hk h5⟩
 | .ifc t c,_,h=>by
  simp only [AV.pass,Den] at *
  obtain ⟨u,h1,h2⟩:=h
  exact ⟨u,h1,Den.pass hk h2⟩
 | .sp ..,_,h=>by simp [Den] at h
theorem DenP.pass {C:Ctx}(hk:HOK C):∀ {cs:List AV} {vs:List Value},DenP C cs vs→DenP (Ctx.callee C.w C.w (fun _=>False)) (passL C.H cs) vs
 | [],_,_=>by simp [passL,DenP]
 | _::_,[],h=>by simp [DenP] at h
 | _::_,_::_,h=>by
  simp only [passL,DenP] at *
  exact ⟨Den.pass hk h.1,DenP.pass hk h.2⟩
end

mutual
theorem Den.tk {C:Ctx}{w:World}{Bc:Nat→Prop}{sh:Bool}(hM:∀ id g,C.M id=some g→g<w.heap.size)(hA:∀ g,C.A g→g<w.heap.size)(hB:∀ g,C.B g→g<w.heap.size)
  (hs:sh=true→∀ g,g<w.heap.size→¬ Bc g→¬ C.B g∧∀ id,C.M id≠some g):∀ {a:AV} {v:Value},Den (Ctx.callee w C.w Bc) a v→Den C (a.tk sh) v
 | .unk,_,_=>by simp [AV.tk,Den]
 | .und,_,h=>by simpa [AV.tk,Den] using h
 | .int ..,_,h=>by simpa [AV.tk,Den] using h
 | .bool _,_,h=>by simpa [AV.tk,Den] using h
 | .str _,_,h=>by simpa [AV.tk,Den] using h
 | .val u,_,h=>by simpa [AV.tk,Den] using h
 | .agg cs,_,h=>by
  simp only [AV.tk,Den] at *
  obtain ⟨vs,h1,h2,h3⟩:=h
  exact ⟨vs,h1,by rw [B3z];exact h2,DenP.tk hM hA hB hs h3⟩
 | .tup cs,_,h=>by
  simp only [AV.tk,Den] at *
  obtain ⟨vs,h1,h2,h3⟩:=h
  exact ⟨vs,h1,by rw [B3z];exact h2,DenP.tk hM hA hB hs h3⟩
 | .rows fr cs n,_,h=>by
  simp only [AV.tk]
  simp only [Den] at h
  split
  ·rename_i hf
   simp only [Den]
   rcases h with ⟨h1,rfl,h3⟩|⟨g,o,cap,cur,e,fz,h1,h2,h3,h4,h5⟩
   ·exact .inl ⟨h1,rfl,h3⟩
   ·have hge:¬ g<w.heap.size:=h3.2.2 hf
    exact .inr ⟨g,o,cap,cur,e,fz,h1,h2,⟨fun id hid=>hge (hM id g hid),fun hb=>hge (hB g hb),fun _ ha=>hge (hA g ha)⟩,h4,DenP.tk hM hA hB hs h5⟩
  ·split
   ·rename_i hsh
    simp only [Den]
    rcases h with ⟨h1,rfl,h3⟩|⟨g,o,cap,cur,e,fz,h1,h2,h3,h4,h5⟩
    ·exact .inl ⟨h1,rfl,h3⟩
    ·refine .inr ⟨g,o,cap,cur,e,fz,h1,h2,⟨fun id hid=>?_,fun hb=>?_,(fun h=>by cases h)⟩,h4,DenP.tk hM hA hB hs h5⟩
     ·exact (hs hsh g (hM id g hid) h3.2.1).2 id hid
     ·exact (hs hsh g (hB g hb) h3.2.1).1 hb
   ·simp [Den]
 | .prow ..,_,_=>by simp [AV.tk,Den]
 | .ref ..,_,_=>by simp [AV.tk,Den]
 | .own ..,_,_=>by simp [AV.tk,Den]
 | .osl ..,_,_=>by simp [AV.tk,Den]
 | .sref ..,_,_=>by simp [AV.tk,Den]
 | .clo fn az cs,_,h=>by
  simp only [AV.tk,Den] at *
  obtain ⟨us,vs,h1,h2,h3,h4,h5⟩:=h
  exact ⟨us,vs,h1,by rw [B3z];exact h2,by rw [B3z];exact h3,DenP.tk hM hA hB hs h4,DenP.tk hM hA hB hs h5⟩
 | .ifc t c,_,h=>by
  simp only [AV.tk,Den] at *
  obtain ⟨u,h1,h2⟩:=h
  exact ⟨u,h1,Den.tk hM hA hB hs h2⟩
 | .sp ..,_,h=>by simp [Den] at h
theorem DenP.tk {C:Ctx}{w:World}{Bc:Nat→Prop}{sh:Bool}(hM:∀ id g,C.M id=some g→g<w.heap.size)(hA:∀ g,C.A g→g<w.heap.size)(hB:∀ g,C.B g→g<w.heap.size)
  (hs:sh=true→∀ g,g<w.heap.size→¬ Bc g→¬ C.B g∧∀ id,C.M id≠some g):∀ {cs:List AV} {vs:List Value},DenP (Ctx.callee w C.w Bc) cs vs→DenP C (tkL sh cs) vs
 | [],_,_=>by simp [tkL,DenP]
 | _::_,[],h=>by simp [DenP] at h
 | _::_,_::_,h=>by
  simp only [tkL,DenP] at *
  exact ⟨Den.tk hM hA hB hs h.1,DenP.tk hM hA hB hs h.2⟩
end


def PCall (P:Program)(f:Nat)(args:List AV)(Q:AV→Prop):Prop :=
 ∀ (w:World) (B:Nat→Prop) (vs:List Value),(∀ g,B g→g<w.heap.size)→globOk w (fun _=>none) B→vs.length=args.length→DenP (Ctx.callee w w B) args vs →
  Calls P f vs.toArray w fun e w'=>∃ res v,Q res∧e=.returned v∧Den (Ctx.callee w w' B) res v∧Go.RowKit.Below w.heap.size w w'

inductive ARes where
 | tmp (t:Nat)
 | cell (t:Nat) (agg:Bool) (sz:Nat)

def lowRes (P:Program):List ResultVar→Option (List ARes)
 | []=>some []
 | .tmp t::r=>(lowRes P r).map fun l=>.tmp t::l
 | .cell t ty::r=>match isAggB P ty,sizeAt P ty,lowRes P r with
  | some true,some n,some l=>some (.cell t true n::l)
  | some false,some _,some l=>some (.cell t false 1::l)
  | _,_,_=>none

structure AFn where
 nt:Nat
 np:Nat
 body:ACode
 res:List ARes

def lowFn (P:Program)(f:Nat):Option AFn :=
 match P.funcs[f]? with
 | some fn=>match fn.body with
  | some c=>match lowCode P ⟨fn.ntmps,[],none⟩ c,lowRes P fn.results.toList with
   | some b,some r=>if fn.params.size≤fn.ntmps then some ⟨fn.ntmps,fn.params.size,b,r⟩ else none
   | _,_=>none
  | none=>none
 | none=>none

def ares (s:S):ARes→Option AV
 | .tmp t=>some (s.σ t)
 | .cell t agg sz=>loadAV s.H agg sz (s.σ t)

def aresL (s:S):List ARes→Option (List AV)
 | []=>some []
 | r::l=>match ares s r,aresL s l with
  | some x,some xs=>some (x::xs)
  | _,_=>none

def tupOf:List AV→AV
 | [x]=>x
 | l=>.tup l

end Vw
namespace Vw
open Go
variable [Inhabited GlobT]

theorem A0z {C C':Ctx}{f:AV→AV}(h:∀ a v,Den C a v→Den C' (f a) v):∀ {cs:List AV} {vs:List Value},DenP C cs vs→DenP C' (cs.map f) vs
 | [],_,_=>by simp [DenP]
 | _::_,[],hd=>by simp [DenP] at hd
 | _::_,_::_,hd=>by
  simp only [DenP,List.map_cons] at *
  exact ⟨h _ _ hd.1,A0z h hd.2⟩

def AV.fz (H:Nat→Option (List AV)):Nat→AV→AV
 | 0,_=>.unk
 | n+1,.own id k sz=>match H id with
  | some cs=>if cs.length=k*sz then .rows true (cs.map (AV.fz H n)) k else .unk
  | none=>.unk
 | _+1,.osl ..=>.unk
 | n+1,.rows fr cs k=>.rows fr (cs.map (AV.fz H n)) k
 | n+1,.agg cs=>.agg (cs.map (AV.fz H n))
 | n+1,.tup cs=>.tup (cs.map (AV.fz H n))
 | _+1,.ref ..=>.unk
 | _+1,.prow ..=>.unk
 | _+1,.sref ..=>.unk
 | n+1,.clo fn az cs=>.clo fn (az.map (AV.fz H n)) (cs.map (AV.fz H n))
 | n+1,.ifc t c=>.ifc t (c.fz H n)
 | _+1,a=>a

theorem Den.fz {C:Ctx}{w0:World}(hk:HOK C)(hnew:∀ id g,C.M id=some g→w0.heap.size≤g)(hA:∀ g,g<w0.heap.size→C.A g)(hB:∀ g,C.B g→g<w0.heap.size) :
  ∀ (n:Nat) (a:AV) (v:Value),Den C a v→Den (Ctx.callee w0 C.w C.B) (a.fz C.H n) v
 | 0,_,_,_=>by simp [AV.fz,Den]
 | n+1,a,v,h=>by
  have ih:=Den.fz hk hnew hA hB n
  cases a with
  | own id k sz =>
   simp only [Den] at h
   obtain ⟨_,cs,hH,_,hsp,hval⟩:=h
   simp only [AV.fz,hH]
   split
   ·rename_i hc
    simp only [Den]
    rcases hval hc with ⟨h1,h2,h3⟩|⟨g,cap,cur,e,hM,hv,hn,_,hg,_⟩
    ·rcases hk.has id cs hH hsp with ⟨_,rfl⟩|⟨g,_,_,a,_⟩
     ·exact .inl ⟨.inl h1,rfl,h2⟩
     ·rw [h3] at a;cases a
    ·rcases hk.has id cs hH hsp with ⟨a,_⟩|⟨g',cur',e',a,b,c⟩
     ·rw [hM] at a;cases a
     ·rw [hM] at a
      injection a with a
      subst a
      have hge:=hnew id g hM
      exact .inr ⟨g,0,cap,cur',e',(0,0),hv,b,⟨(fun _ h=>by cases h),fun hb=>by have:=hB g hb;omega,fun _ (ha:g<w0.heap.size)=>by omega⟩,hn,by rw [List.drop_zero];exact A0z ih c⟩
   ·simp [Den]
  | rows fr cs k =>
   simp only [AV.fz,Den] at *
   rcases h with ⟨h1,rfl,h3⟩|⟨g,o,cap,cur,e,fz,h1,h2,h3,h4,h5⟩
   ·exact .inl ⟨h1,rfl,h3⟩
   ·exact .inr ⟨g,o,cap,cur,e,fz,h1,h2,⟨(fun _ h=>by cases h),h3.2.1,fun hf (ha:g<w0.heap.size)=>h3.2.2 hf (hA g ha)⟩,h4,A0z ih h5⟩
  | agg cs =>
   simp only [AV.fz,Den] at *
   obtain ⟨vs,h1,h2,h3⟩:=h
   exact ⟨vs,h1,by simpa using h2,A0z ih h3⟩
  | tup cs =>
   simp only [AV.fz,Den] at *
   obtain ⟨vs,h1,h2,h3⟩:=h
   exact ⟨vs,h1,by simpa using h2,A0z ih h3⟩
  | ref=>simp [AV.fz,Den]
  | osl=>simp [AV.fz,Den]
  | prow=>simp [AV.fz,Den]
  | sref=>simp [AV.fz,Den]
  | clo fn az cs =>
   simp only [AV.fz,Den] at *
   obtain ⟨us,vs,h1,h2,h3,h4,h5⟩:=h
   exact ⟨us,vs,h1,by simpa using h2,by simpa using h3,A0z ih h4,A0z ih h5⟩
  | ifc t c =>
   simp only [AV.fz,Den] at *
   obtain ⟨u,h1,h2⟩:=h
   exact ⟨u,h1,ih c u h2⟩
  | sp=>simp [Den] at h
  | unk=>simp [AV.fz,Den]
  | _=>simpa [AV.fz,Den] using h

section
variable {P:Program} {E:Env} {M:Nat→Option Nat} {s:S} {a:Act} {w:World}

def resSem (tmps:Array Value):ResultVar→Sem Value
 | .tmp t=>pure (tmps.getD t undef)
 | .cell ad t=>do loadVar t (← asAddr (tmps.getD ad undef))

theorem Djz (h:St E M s a w):∀ {rs:List ResultVar} {xs:List ARes} {avs:List AV},lowRes P rs=some xs→aresL s xs=some avs →
  ∃ us:List Value,(rs.mapM (resSem a.tmps)).run P w=.ok us w∧us.length=avs.length∧DenP (E.C M s.H w) avs us
 | [],xs,avs,hl,hr=>by
  simp [lowRes] at hl
  subst hl
  simp [aresL] at hr
  subst hr
  exact ⟨[],by simp,rfl,by simp [DenP]⟩
 | .tmp t::rs,xs,avs,hl,hr=>by
  simp only [lowRes] at hl
  cases hl1:lowRes P rs with
  | none=>simp [hl1] at hl
  | some l =>
   simp [hl1] at hl
   subst hl
   simp only [aresL,ares] at hr
   cases hr1:aresL s l with
   | none=>simp [hr1] at hr
   | some ys =>
    simp [hr1] at hr
    subst hr
    obtain ⟨us,h1,h2,h3⟩:=Djz h hl1 hr1
    refine ⟨a.tmps.getD t undef::us,?_,by simp [h2],by simp only [DenP];exact ⟨h.slots t,h3⟩⟩
    simp only [List.mapM_cons,Sem.run_bind,Sem.run_pure,Result.andThen_ok,h1,resSem]
 | .cell t ty::rs,xs,avs,hl,hr=>by
  have fin:∀ (agg:Bool) (n:Nat) (l:List ARes),((agg=true∧isAggB P ty=some true∧sizeAt P ty=some n)∨(agg=false∧isAggB P ty=some false∧n=1))→lowRes P rs=some l→xs=.cell t agg n::l →
    ∃ us:List Value,((ResultVar.cell t ty::rs).mapM (resSem a.tmps)).run P w=.ok us w∧us.length=avs.length∧DenP (E.C M s.H w) avs us:=by
   intro agg n l hty hl1 hxs
   subst hxs
   simp only [aresL,ares] at hr
   cases hr0:loadAV s.H agg n (s.σ t) with
   | none=>simp [hr0] at hr
   | some y =>
    cases hr1:aresL s l with
    | none=>simp [hr0,hr1] at hr
    | some ys =>
     simp [hr0,hr1] at hr
     subst hr
     obtain ⟨us,h1,h2,h3⟩:=Djz h hl1 hr1
     obtain ⟨g,off,u,e1,e2,e3⟩:=load_res h.hok hty (h.slots t) hr0
     refine ⟨u::us,?_,by simp [h2],by simp only [DenP];exact ⟨e3,h3⟩⟩
     have hA:(asAddr (a.tmps.getD t undef)).run P w=.ok ⟨g,off,none⟩ w:=by rw [e1];rfl
     have hB:(resSem a.tmps (.cell t ty)).run P w=.ok u w:=by simp only [resSem,Sem.run_bind,hA,Result.andThen_ok,e2]
     simp only [List.mapM_cons,Sem.run_bind,Sem.run_pure,Result.andThen_ok,hB,h1]
  simp only [lowRes] at hl
  split at hl
  ·rename_i n l h1 h2 h3
   simp only [Option.some.injEq] at hl
   exact fin true n l (.inl ⟨rfl,h1,h2⟩) h3 hl.symm
  ·rename_i n l h1 h2 h3
   simp only [Option.some.injEq] at hl
   exact fin false 1 l (.inr ⟨rfl,h1,rfl⟩) h3 hl.symm
  ·cases hl

theorem Eyz (h:St E M s a w){fn:Func}{xs:List ARes}{avs:List AV}(hl:lowRes P fn.results.toList=some xs)(hr:aresL s xs=some avs) :
  ∃ v,(results fn a.tmps).run P w=.ok v w∧Den (E.C M s.H w) (tupOf avs) v:=by
 obtain ⟨us,h1,h2,h3⟩:=Djz h hl hr
 have hm:(results fn a.tmps).run P w=.ok (if h:us.toArray.size=1 then us.toArray[0] else .tuple us.toArray) w:=by
  have hf:(fun (r:ResultVar)=>(match r with|.tmp t=>(pure (a.tmps.getD t undef):Sem Value)|.cell ad t=>do loadVar t (← asAddr (a.tmps.getD ad undef))))=resSem a.tmps:=by funext r;cases r<;>rfl
  unfold results
  rw [Array.mapM_eq_mapM_toList]
  simp only [Sem.run_bind,Sem.run_map]
  erw [hf]
  simp only [h1,Result.andThen_ok]
  rfl
 refine ⟨_,hm,?_⟩
 match avs,us,h2,h3 with
 | [],[],_,_=>simp [tupOf,Den,DenP]
 | [x],[u],_,hd =>
  simp only [DenP] at hd
  simpa [tupOf] using hd.1
 | x::y::l,u::v::r,hlen,hd =>
  simp only [tupOf,Den]
  simp only [List.length_cons] at hlen
  exact ⟨(u::v::r).toArray,by simp,by simpa using hlen,by simpa using hd⟩

def S.init (args:List AV):S:=mkS (args.zipIdx.map fun p=>(p.2,p.1)) []

theorem lk_zip:∀ (args:List AV) (k t:Nat),lk ((args.zipIdx k).map fun p=>(p.2,p.1)) t=if k≤t then (args[t-k]?).getD .unk else .unk
 | [],k,t=>by simp [lk]
 | x::r,k,t=>by
  simp only [List.zipIdx_cons,List.map_cons,lk,lk_zip r (k+1) t]
  by_cases h:t=k
  ·subst h;simp
  ·rw [if_neg h]
   by_cases h1:k≤t
   ·rw [if_pos (by omega),if_pos h1]
    have:t-k=(t-(k+1))+1:=by omega
    rw [this];rfl
   ·rw [if_neg (by omega),if_neg h1]

theorem Awz {f:Nat}{af:AFn}{args:List AV}{Q:AV→Prop}(hf:lowFn P f=some af)(hn:args.length=af.np)
  (h:awp P 0 af.body (fun e s=>(e=.normal∨e=.ret)∧∃ l,aresL s af.res=some l∧Q ((tupOf l).fz s.H 5)) (S.init args)):PCall P f args Q:=by
 intro w B vs hB hG hlen hd
 unfold lowFn at hf
 split at hf
 ·rename_i fn hfn
  split at hf
  ·rename_i c hb
   split at hf
   ·rename_i b r hlb hlr
    split at hf
    ·rename_i hps
     simp only [Option.some.injEq] at hf
     subst hf
     simp only at hn h
     refine (callsIn_wide (n:=3)).1 (callsIn_of_wp_marks hfn hb trivial ?_)
     let E:Env:=⟨w,fun g=>g<w.heap.size,B,fun _=>none,0,⟨fn.ntmps,[],none⟩,fun _=>undef,fun _=>none,0,fun _ h=>h,hB,hG⟩
     have hst:St E (fun _=>none) (S.init args) { tmps:=vs.toArray++Array.replicate (fn.ntmps-vs.toArray.size) undef,defers:=[] } w:=by
      refine ⟨⟨⟨[],List.nodup_nil,rfl,fun _ h=>by cases h⟩,(fun _ _ h=>by cases h),(fun _ h=>by cases h),Nat.zero_le _⟩,by simp [E];omega,fun t=>?_,⟨fun id cs hc=>by simp [S.init,mkS,hk,Env.C] at hc,fun _ _=>rfl,fun _ _ _ h=>by cases h⟩,⟨rfl,rfl,rfl,Nat.le_refl _,fun _ _ _=>rfl,fun _ h=>absurd h (Nat.not_lt_zero _),(fun _ _ _ h=>by cases h),(fun _ _ h=>absurd h (Nat.not_lt_zero _)),fun _ _ h=>absurd h (Nat.not_lt_zero _)⟩⟩
      show Den _ (lk _ t) _
      rw [lk_zip]
      simp only [Nat.zero_le,if_true,Nat.sub_zero]
      cases ha:args[t]? with
      | none=>simp [Den]
      | some x =>
       obtain ⟨v,hv,hdv⟩:=(Axz.1 hd) t x ha
       have:(vs.toArray++Array.replicate (fn.ntmps-vs.toArray.size) undef).getD t undef=v:=by
        have ht:t<vs.length:=(List.getElem?_eq_some_iff.1 hv).1
        rw [Array.getD_eq_getD_getElem?,Array.getElem?_append_left (by simpa using ht)]
        simp [hv]
       rw [this]
       simpa [S.init,mkS,E,Env.C,Ctx.callee,hk] using hdv
     refine Go.wpIn_mono (h E _ _ w c rfl hlb hst) fun e a' w1 ⟨M',s',h1,he,l,hl,hq⟩=>?_
     have hall:∀ w',St E M' s' { a' with defers:=[] } w'→∃ v,(results fn a'.tmps).run P w'=.ok v w'∧∃ res u,Q res∧Ending.returned v=.returned u∧Den (Ctx.callee w w' B) res u∧Go.RowKit.Below w.heap.size w w':=fun w' h1=>by
      obtain ⟨v,hrun,hden⟩:=Eyz h1 hlr hl
      have hold:=h1.old
      have hfz:=Den.fz (w0:=w) h1.hok (fun id g hg=>hold.new id g (Nat.zero_le _) hg) (fun g hg=>hg) (fun g hg=>hB g hg) 5 _ _ hden
      have hbelow:Go.RowKit.Below w.heap.size w w':=⟨hold.os,hold.tape,hold.output,hold.size,fun g hg=>hold.block g hg (fun id hi=>absurd hi (Nat.not_lt_zero _))⟩
      exact ⟨v,hrun,_,v,hq,rfl,hfz,hbelow⟩
     obtain ⟨Ds,hd1,hd2,_⟩:=h1.defers.defs
     have hfin:=St.leaves (P:=P) (F:=Fence.wide) (n:=3) (fn:=fn) (R:=fun e w'=>∃ res v,Q res∧e=.returned v∧Den (Ctx.callee w w' B) res v∧Go.RowKit.Below w.heap.size w w') rfl Ds a' w1 h1 hd1 hd2 hall
     rcases he with rfl|rfl
     ·exact hfin
     ·exact hfin
    ·cases hf
   ·cases hf
  ·cases hf
 ·cases hf

end
end Vw
namespace Vw
open Go
variable [Inhabited GlobT]

section
variable (P:Program) (pin:Nat) (K:S→Prop) (σ:List (Nat×AV)) (H:List (Nat×List AV))

theorem ev_tmp (t:Nat):(mkS σ H).ev (.tmp t)=lk σ t:=rfl
theorem ev_const (v:Value):(mkS σ H).ev (.const v)=ofVal v:=rfl
theorem mkS_σ (t:Nat):(mkS σ H).σ t=lk σ t:=rfl
theorem mkS_H (t:Nat):(mkS σ H).H t=hk H t:=rfl
theorem mkS_H':(mkS σ H).H=hk H:=rfl
theorem put_some (d:Nat)(v:AV):(mkS σ H).put (some d) v none=mkS ((d,v)::σ) H:=by
 simp only [S.put,mkS,updO,upd_lk]
theorem put_some' (d:Nat)(v:AV)(id:Nat)(cs:List AV):(mkS σ H).put (some d) v (some (id,cs))=mkS ((d,v)::σ) ((id,cs)::H):=by
 simp only [S.put,mkS,updO,upd_lk,upd_hk]
theorem put_none' (v:AV)(id:Nat)(cs:List AV):(mkS σ H).put none v (some (id,cs))=mkS σ ((id,cs)::H):=by
 simp only [S.put,mkS,updO,upd_hk]
theorem put_none (v:AV):(mkS σ H).put none v none=mkS σ H:=by
 simp only [S.put,mkS,updO]

theorem aSeq_nil (s:S):aSeq P pin [] K s=K s:=rfl
def bindS (P:Program)(pin:Nat)(K:S→Prop)(r:Res)(dst:Option Nat)(l:List AOper)(s:S):Prop:=match r with|some x=>aSeq P pin l K (s.put dst x.1 x.2)|none=>False
theorem bindS_some (v:AV)(u:Option (Nat×List AV))(dst:Option Nat)(l:List AOper)(s:S):bindS P pin K (some (v,u)) dst l s=aSeq P pin l K (s.put dst v u):=rfl
def gIf (P:Program)(pin:Nat)(K:S→Prop)(g:Bool)(o:AOper)(l:List AOper)(s:S):Prop:=(g=true→aSeq P pin (o::l) K s)∧(g=false→aSeq P pin l K (s.put o.dst .und none))
theorem gIf_true (o:AOper)(l:List AOper)(s:S):gIf P pin K true o l s=aSeq P pin (o::l) K s:=by simp [gIf]
theorem gIf_false (dst:Option Nat)(op:AOp)(gd:Option (Nat×Bool))(af:List Nat)(l:List AOper)(s:S):gIf P pin K false ⟨dst,op,gd,af⟩ l s=aSeq P pin l K (s.put dst .und none):=by simp [gIf]
variable {P pin K} in
theorem Fkz {g:Bool}{o:AOper}{l:List AOper}{s:S}(h1:g=true→aSeq P pin (o::l) K s)(h2:g=false→aSeq P pin l K (s.put o.dst .und none)):gIf P pin K g o l s:=⟨h1,h2⟩
def bindG (P:Program)(pin:Nat)(K:S→Prop)(r:Option Bool)(o:AOper)(l:List AOper)(s:S):Prop:=match r with|some g=>gIf P pin K g o l s|none=>False
theorem bindG_some (g:Bool)(o:AOper)(l:List AOper)(s:S):bindG P pin K (some g) o l s=gIf P pin K g o l s:=rfl

theorem aSeq_guard (dst:Option Nat)(op:AOp)(t:Nat)(b:Bool)(af:List Nat)(r:List AOper)(s:S) :
  aSeq P pin (⟨dst,op,some (t,b),af⟩::r) K s=bindG P pin K (aguard s (some (t,b))) ⟨dst,op,none,af⟩ r s:=by
 have h1:aSeq P pin (⟨dst,op,none,af⟩::r) K s=astep P pin ⟨dst,op,some (t,b),af⟩ (aSeq P pin r K) s:=by
  show (match (some true:Option Bool) with|some g=>(g=true→astep P pin ⟨dst,op,none,af⟩ (aSeq P pin r K) s)∧(g=false→aSeq P pin r K (s.put dst .und none))|none=>False)=_
  simp only [forall_const,Bool.true_eq_false,false_implies,and_true]
  try rfl
 show (match aguard s (some (t,b)) with|some g=>(g=true→astep P pin ⟨dst,op,some (t,b),af⟩ (aSeq P pin r K) s)∧(g=false→aSeq P pin r K (s.put dst .und none))|none=>False)=_
 cases aguard s (some (t,b)) with
 | none=>rfl
 | some g=>simp only [bindG,gIf,h1]
theorem aSeq_call (dst:Option Nat)(f:Nat)(args:List Operand)(af:List Nat)(r:List AOper)(s:S) :
  aSeq P pin (⟨dst,.call f args,none,af⟩::r) K s=callOwed P pin f args dst (aSeq P pin r K) s:=by
 simp [aSeq,aguard,astep]
theorem aSeq_mv (x:Operand)(dst:Option Nat)(af:List Nat)(r:List AOper)(s:S) :
  aSeq P pin (⟨dst,.mv x,none,af⟩::r) K s=bindS P pin K (arun s pin (dst.getD 0) (.mv x)) dst r s:=by
 simp only [aSeq,aguard,astep,bindS,forall_const,Bool.true_eq_false,false_implies,and_true]<;>(generalize arun s pin (dst.getD 0) (AOp.mv x)=z;cases z<;>rfl)
theorem aSeq_pick (c x y:Operand)(dst:Option Nat)(af:List Nat)(r:List AOper)(s:S) :
  aSeq P pin (⟨dst,.pick c x y,none,af⟩::r) K s=bindS P pin K (arun s pin (dst.getD 0) (.pick c x y)) dst r s:=by
 simp only [aSeq,aguard,astep,bindS,forall_const,Bool.true_eq_false,false_implies,and_true]<;>(generalize arun s pin (dst.getD 0) (AOp.pick c x y)=z;cases z<;>rfl)
theorem aSeq_alloc (zs:List Value)(dst:Option Nat)(af:List Nat)(r:List AOper)(s:S) :
  aSeq P pin (⟨dst,.alloc zs,none,af⟩::r) K s=bindS P pin K (arun s pin (dst.getD 0) (.alloc zs)) dst r s:=by
 simp only [aSeq,aguard,astep,bindS,forall_const,Bool.true_eq_false,false_implies,and_true]<;>(generalize arun s pin (dst.getD 0) (AOp.alloc zs)=z;cases z<;>rfl)
theorem aSeq_box (x:Operand)(dst:Option Nat)(af:List Nat)(r:List AOper)(s:S) :
  aSeq P pin (⟨dst,.box x,none,af⟩::r) K s=bindS P pin K (arun s pin (dst.getD 0) (.box x)) dst r s:=by
 simp only [aSeq,aguard,astep,bindS,forall_const,Bool.true_eq_false,false_implies,and_true]<;>(generalize arun s pin (dst.getD 0) (AOp.box x)=z;cases z<;>rfl)
theorem aSeq_mkfn (fn:Fn)(us vs:List Operand)(dst:Option Nat)(af:List Nat)(r:List AOper)(s:S) :
  aSeq P pin (⟨dst,.mkfn fn us vs,none,af⟩::r) K s=bindS P pin K (arun s pin (dst.getD 0) (.mkfn fn us vs)) dst r s:=by
 simp only [aSeq,aguard,astep,bindS,forall_const,Bool.true_eq_false,false_implies,and_true]<;>(generalize arun s pin (dst.getD 0) (AOp.mkfn fn us vs)=z;cases z<;>rfl)
theorem aSeq_build (zs:List Value)(ps:List (Nat×Nat×Operand))(dst:Option Nat)(af:List Nat)(r:List AOper)(s:S) :
  aSeq P pin (⟨dst,.build zs ps,none,af⟩::r) K s=bindS P pin K (arun s pin (dst.getD 0) (.build zs ps)) dst r s:=by
 simp only [aSeq,aguard,astep,bindS,forall_const,Bool.true_eq_false,false_implies,and_true]<;>(generalize arun s pin (dst.getD 0) (AOp.build zs ps)=z;cases z<;>rfl)
theorem aSeq_bslice (sz:Nat)(zs:List Value)(ps:List (Nat×Operand))(n:Nat)(dst:Option Nat)(af:List Nat)(r:List AOper)(s:S) :
  aSeq P pin (⟨dst,.bslice sz zs ps n,none,af⟩::r) K s=bindS P pin K (arun s pin (dst.getD 0) (.bslice sz zs ps n)) dst r s:=by
 simp only [aSeq,aguard,astep,bindS,forall_const,Bool.true_eq_false,false_implies,and_true]<;>(generalize arun s pin (dst.getD 0) (AOp.bslice sz zs ps n)=z;cases z<;>rfl)
theorem aSeq_load (g:Bool)(sz:Nat)(x:Operand)(dst:Option Nat)(af:List Nat)(r:List AOper)(s:S) :
  aSeq P pin (⟨dst,.load g sz x,none,af⟩::r) K s=bindS P pin K (arun s pin (dst.getD 0) (.load g sz x)) dst r s:=by
 simp only [aSeq,aguard,astep,bindS,forall_const,Bool.true_eq_false,false_implies,and_true]<;>(generalize arun s pin (dst.getD 0) (AOp.load g sz x)=z;cases z<;>rfl)
theorem aSeq_store (sz:Nat)(x v:Operand)(dst:Option Nat)(af:List Nat)(r:List AOper)(s:S) :
  aSeq P pin (⟨dst,.store sz x v,none,af⟩::r) K s=bindS P pin K (arun s pin (dst.getD 0) (.store sz x v)) dst r s:=by
 simp only [aSeq,aguard,astep,bindS,forall_const,Bool.true_eq_false,false_implies,and_true]<;>(generalize arun s pin (dst.getD 0) (AOp.store sz x v)=z;cases z<;>rfl)
theorem aSeq_bin (o:BinOp)(x y:Operand)(dst:Option Nat)(af:List Nat)(r:List AOper)(s:S) :
  aSeq P pin (⟨dst,.bin o x y,none,af⟩::r) K s=bindS P pin K (arun s pin (dst.getD 0) (.bin o x y)) dst r s:=by
 simp only [aSeq,aguard,astep,bindS,forall_const,Bool.true_eq_false,false_implies,and_true]<;>(generalize arun s pin (dst.getD 0) (AOp.bin o x y)=z;cases z<;>rfl)
theorem aSeq_binB (o:BinOp)(x y:Operand)(dst:Option Nat)(af:List Nat)(r:List AOper)(s:S) :
  aSeq P pin (⟨dst,.binB o x y,none,af⟩::r) K s=bindS P pin K (arun s pin (dst.getD 0) (.binB o x y)) dst r s:=by
 simp only [aSeq,aguard,astep,bindS,forall_const,Bool.true_eq_false,false_implies,and_true]<;>(generalize arun s pin (dst.getD 0) (AOp.binB o x y)=z;cases z<;>rfl)
theorem aSeq_un (o:UnOp)(x:Operand)(dst:Option Nat)(af:List Nat)(r:List AOper)(s:S) :
  aSeq P pin (⟨dst,.un o x,none,af⟩::r) K s=bindS P pin K (arun s pin (dst.getD 0) (.un o x)) dst r s:=by
 simp only [aSeq,aguard,astep,bindS,forall_const,Bool.true_eq_false,false_implies,and_true]<;>(generalize arun s pin (dst.getD 0) (AOp.un o x)=z;cases z<;>rfl)
theorem aSeq_conv (k:IntKind)(x:Operand)(dst:Option Nat)(af:List Nat)(r:List AOper)(s:S) :
  aSeq P pin (⟨dst,.conv k x,none,af⟩::r) K s=bindS P pin K (arun s pin (dst.getD 0) (.conv k x)) dst r s:=by
 simp only [aSeq,aguard,astep,bindS,forall_const,Bool.true_eq_false,false_implies,and_true]<;>(generalize arun s pin (dst.getD 0) (AOp.conv k x)=z;cases z<;>rfl)
theorem aSeq_nilck (x:Operand)(dst:Option Nat)(af:List Nat)(r:List AOper)(s:S) :
  aSeq P pin (⟨dst,.nilck x,none,af⟩::r) K s=bindS P pin K (arun s pin (dst.getD 0) (.nilck x)) dst r s:=by
 simp only [aSeq,aguard,astep,bindS,forall_const,Bool.true_eq_false,false_implies,and_true]<;>(generalize arun s pin (dst.getD 0) (AOp.nilck x)=z;cases z<;>rfl)
theorem aSeq_mkslice (sz:Nat)(zs:List Value)(l c:Operand)(dst:Option Nat)(af:List Nat)(r:List AOper)(s:S) :
  aSeq P pin (⟨dst,.mkslice sz zs l c,none,af⟩::r) K s=bindS P pin K (arun s pin (dst.getD 0) (.mkslice sz zs l c)) dst r s:=by
 simp only [aSeq,aguard,astep,bindS,forall_const,Bool.true_eq_false,false_implies,and_true]<;>(generalize arun s pin (dst.getD 0) (AOp.mkslice sz zs l c)=z;cases z<;>rfl)
theorem aSeq_slice (sz:Nat)(x:Operand)(lo hi:Option Operand)(dst:Option Nat)(af:List Nat)(r:List AOper)(s:S) :
  aSeq P pin (⟨dst,.slice sz x lo hi,none,af⟩::r) K s=bindS P pin K (arun s pin (dst.getD 0) (.slice sz x lo hi)) dst r s:=by
 simp only [aSeq,aguard,astep,bindS,forall_const,Bool.true_eq_false,false_implies,and_true]<;>(generalize arun s pin (dst.getD 0) (AOp.slice sz x lo hi)=z;cases z<;>rfl)
theorem aSeq_sliceS (x:Operand)(lo hi:Option Operand)(dst:Option Nat)(af:List Nat)(r:List AOper)(s:S) :
  aSeq P pin (⟨dst,.sliceS x lo hi,none,af⟩::r) K s=bindS P pin K (arun s pin (dst.getD 0) (.sliceS x lo hi)) dst r s:=by
 simp only [aSeq,aguard,astep,bindS,forall_const,Bool.true_eq_false,false_implies,and_true]<;>(generalize arun s pin (dst.getD 0) (AOp.sliceS x lo hi)=z;cases z<;>rfl)
theorem aSeq_fld (o:Nat)(x:Operand)(dst:Option Nat)(af:List Nat)(r:List AOper)(s:S) :
  aSeq P pin (⟨dst,.fld o x,none,af⟩::r) K s=bindS P pin K (arun s pin (dst.getD 0) (.fld o x)) dst r s:=by
 simp only [aSeq,aguard,astep,bindS,forall_const,Bool.true_eq_false,false_implies,and_true]<;>(generalize arun s pin (dst.getD 0) (AOp.fld o x)=z;cases z<;>rfl)
theorem aSeq_fldv (g:Bool)(o sz:Nat)(x:Operand)(dst:Option Nat)(af:List Nat)(r:List AOper)(s:S) :
  aSeq P pin (⟨dst,.fldv g o sz x,none,af⟩::r) K s=bindS P pin K (arun s pin (dst.getD 0) (.fldv g o sz x)) dst r s:=by
 simp only [aSeq,aguard,astep,bindS,forall_const,Bool.true_eq_false,false_implies,and_true]<;>(generalize arun s pin (dst.getD 0) (AOp.fldv g o sz x)=z;cases z<;>rfl)
theorem aSeq_idxA (sz:Nat)(x i:Operand)(dst:Option Nat)(af:List Nat)(r:List AOper)(s:S) :
  aSeq P pin (⟨dst,.idxA sz x i,none,af⟩::r) K s=bindS P pin K (arun s pin (dst.getD 0) (.idxA sz x i)) dst r s:=by
 simp only [aSeq,aguard,astep,bindS,forall_const,Bool.true_eq_false,false_implies,and_true]<;>(generalize arun s pin (dst.getD 0) (AOp.idxA sz x i)=z;cases z<;>rfl)
theorem aSeq_idxP (sz n:Nat)(x i:Operand)(dst:Option Nat)(af:List Nat)(r:List AOper)(s:S) :
  aSeq P pin (⟨dst,.idxP sz n x i,none,af⟩::r) K s=bindS P pin K (arun s pin (dst.getD 0) (.idxP sz n x i)) dst r s:=by
 simp only [aSeq,aguard,astep,bindS,forall_const,Bool.true_eq_false,false_implies,and_true]<;>(generalize arun s pin (dst.getD 0) (AOp.idxP sz n x i)=z;cases z<;>rfl)
theorem aSeq_idxS (x i:Operand)(dst:Option Nat)(af:List Nat)(r:List AOper)(s:S) :
  aSeq P pin (⟨dst,.idxS x i,none,af⟩::r) K s=bindS P pin K (arun s pin (dst.getD 0) (.idxS x i)) dst r s:=by
 simp only [aSeq,aguard,astep,bindS,forall_const,Bool.true_eq_false,false_implies,and_true]<;>(generalize arun s pin (dst.getD 0) (AOp.idxS x i)=z;cases z<;>rfl)
theorem aSeq_extract (x:Operand)(i:Nat)(dst:Option Nat)(af:List Nat)(r:List AOper)(s:S) :
  aSeq P pin (⟨dst,.extract x i,none,af⟩::r) K s=bindS P pin K (arun s pin (dst.getD 0) (.extract x i)) dst r s:=by
 simp only [aSeq,aguard,astep,bindS,forall_const,Bool.true_eq_false,false_implies,and_true]<;>(generalize arun s pin (dst.getD 0) (AOp.extract x i)=z;cases z<;>rfl)
theorem aSeq_len (x:Operand)(dst:Option Nat)(af:List Nat)(r:List AOper)(s:S) :
  aSeq P pin (⟨dst,.len x,none,af⟩::r) K s=bindS P pin K (arun s pin (dst.getD 0) (.len x)) dst r s:=by
 simp only [aSeq,aguard,astep,bindS,forall_const,Bool.true_eq_false,false_implies,and_true]<;>(generalize arun s pin (dst.getD 0) (AOp.len x)=z;cases z<;>rfl)
theorem aSeq_lenS (x:Operand)(dst:Option Nat)(af:List Nat)(r:List AOper)(s:S) :
  aSeq P pin (⟨dst,.lenS x,none,af⟩::r) K s=bindS P pin K (arun s pin (dst.getD 0) (.lenS x)) dst r s:=by
 simp only [aSeq,aguard,astep,bindS,forall_const,Bool.true_eq_false,false_implies,and_true]<;>(generalize arun s pin (dst.getD 0) (AOp.lenS x)=z;cases z<;>rfl)
theorem aSeq_slice3 (sz:Nat)(x:Operand)(lo:Option Operand)(hi mx:Operand)(dst:Option Nat)(af:List Nat)(r:List AOper)(s:S) :
  aSeq P pin (⟨dst,.slice3 sz x lo hi mx,none,af⟩::r) K s=bindS P pin K (arun s pin (dst.getD 0) (.slice3 sz x lo hi mx)) dst r s:=by
 simp only [aSeq,aguard,astep,bindS,forall_const,Bool.true_eq_false,false_implies,and_true]<;>(generalize arun s pin (dst.getD 0) (AOp.slice3 sz x lo hi mx)=z;cases z<;>rfl)
theorem aSeq_clr (sz:Nat)(zs:List Value)(x:Operand)(dst:Option Nat)(af:List Nat)(r:List AOper)(s:S) :
  aSeq P pin (⟨dst,.clr sz zs x,none,af⟩::r) K s=bindS P pin K (arun s pin (dst.getD 0) (.clr sz zs x)) dst r s:=by
 simp only [aSeq,aguard,astep,bindS,forall_const,Bool.true_eq_false,false_implies,and_true]<;>(generalize arun s pin (dst.getD 0) (AOp.clr sz zs x)=z;cases z<;>rfl)
theorem aSeq_cpy (sz:Nat)(x y:Operand)(dst:Option Nat)(af:List Nat)(r:List AOper)(s:S) :
  aSeq P pin (⟨dst,.cpy sz x y,none,af⟩::r) K s=bindS P pin K (arun s pin (dst.getD 0) (.cpy sz x y)) dst r s:=by
 simp only [aSeq,aguard,astep,bindS,forall_const,Bool.true_eq_false,false_implies,and_true]<;>(generalize arun s pin (dst.getD 0) (AOp.cpy sz x y)=z;cases z<;>rfl)
theorem aSeq_append (sz:Nat)(x y:Operand)(dst:Option Nat)(af:List Nat)(r:List AOper)(s:S) :
  aSeq P pin (⟨dst,.append sz x y,none,af⟩::r) K s=bindS P pin K (arun s pin (dst.getD 0) (.append sz x y)) dst r s:=by
 simp only [aSeq,aguard,astep,bindS,forall_const,Bool.true_eq_false,false_implies,and_true]<;>(generalize arun s pin (dst.getD 0) (AOp.append sz x y)=z;cases z<;>rfl)
theorem lk_cons (t n:Nat)(v:AV)(r:List (Nat×AV)):lk ((t,v)::r) n=if n=t then v else lk r n:=rfl
theorem hk_cons (t n:Nat)(v:List AV)(r:List (Nat×List AV)):hk ((t,v)::r) n=if n=t then some v else hk r n:=rfl
theorem hk_nil (n:Nat):hk [] n=none:=rfl



def pickR:AV→AV→AV→Res
 | .bool t,.bool x,.bool y=>some (.bool (if t then x else y),none)
 | .bool t,x,y=>some (if t then x else y,none)
 | _,_,_=>none
theorem pickR_true (x y:AV):pickR (.bool true) x y=some (x,none):=by cases x<;>cases y<;>rfl
theorem pickR_false (x y:AV):pickR (.bool false) x y=some (y,none):=by cases x<;>cases y<;>rfl
theorem pickR_bool (t x y:Bool):pickR (.bool t) (.bool x) (.bool y)=some (.bool (if t then x else y),none):=rfl
def gOf:AV→Bool→Option Bool
 | .bool c,b=>some (c==b)
 | .und,_=>some false
 | _,_=>none
theorem gOf_t (c:Bool):gOf (.bool c) true=some c:=by cases c<;>rfl
theorem gOf_f (c:Bool):gOf (.bool c) false=some (!c):=by cases c<;>rfl
theorem gOf_und (b:Bool):gOf .und b=some false:=rfl
theorem aguard_some (s:S)(t:Nat)(b:Bool):aguard s (some (t,b))=gOf (s.σ t) b:=by
 show (match s.σ t with|.bool c=>some (c==b)|.und=>some false|_=>none)=_
 generalize s.σ t=x
 cases x<;>rfl

def newR (free:Bool)(v:AV)(id:Nat)(cs:List AV):Res:=if free then some (v,some (id,cs)) else none
theorem newR_true (v:AV)(id:Nat)(cs:List AV):newR true v id cs=some (v,some (id,cs)):=rfl
def freeB (H:Nat→Option (List AV))(pin id:Nat):Bool:=(H id).isNone&&decide (pin≤id)
theorem freeB_eq (H:Nat→Option (List AV))(pin id:Nat):freeB H pin id=((H id).isNone&&decide (pin≤id)):=rfl

def boxN (free low:Bool)(id:Nat)(cs:List AV):Res:=if free then some (.ref id cs.length 0,some (id,cs)) else if low then some (.prow true cs 0,none) else none
theorem boxN_true (low:Bool)(id:Nat)(cs:List AV):boxN true low id cs=some (.ref id cs.length 0,some (id,cs)):=rfl
theorem boxN_low (id:Nat)(cs:List AV):boxN false true id cs=some (.prow true cs 0,none):=rfl
def boxR (free low:Bool)(id:Nat):Option (List AV)→Res
 | some cs=>boxN free low id cs
 | none=>none
theorem boxR_some (free low:Bool)(id:Nat)(cs:List AV):boxR free low id (some cs)=boxN free low id cs:=rfl

def withO {α:Type}(o:Option α)(k:α→Res):Res:=match o with|some x=>k x|none=>none
theorem withO_some {α:Type}(x:α)(k:α→Res):withO (some x) k=k x:=rfl
@[congr] theorem withO_congr {α:Type} {o o':Option α} {k:α→Res} (h:o=o'):withO o k=withO o' k:=by rw [h]
def ifR (c:Prop)[Decidable c](x:Res):Res:=if c then x else none
theorem ifR_eq (c:Prop)[Decidable c](x:Res):ifR c x=if c then x else none:=rfl

theorem cells_agg (cs:List AV):(AV.agg cs).cells=if cs.all AV.isCell=true then some cs else none:=rfl
theorem cells_int (k:IntKind)(n:Int):(AV.int k n).cells=some [.int k n]:=rfl
theorem cells_bool (b:Bool):(AV.bool b).cells=some [.bool b]:=rfl
theorem cells_str (b:ByteArray):(AV.str b).cells=some [.str b]:=rfl
theorem cells_rows (fr:Bool)(cs:List AV)(n:Nat):(AV.rows fr cs n).cells=some [.rows fr cs n]:=rfl
theorem cells_own (i n sz:Nat):(AV.own i n sz).cells=some [.own i n sz]:=rfl
theorem cells_ref (i n o:Nat):(AV.ref i n o).cells=some [.ref i n o]:=rfl
theorem cells_nil:(AV.val (.slice none 0 0)).cells=some [.val (.slice none 0 0)]:=rfl
theorem cells_ptr (a:Option Addr):(AV.val (.pointer a)).cells=some [.val (.pointer a)]:=rfl
theorem isCell_int (k:IntKind)(n:Int):(AV.int k n).isCell=true:=rfl
theorem isCell_bool (b:Bool):(AV.bool b).isCell=true:=rfl
theorem isCell_str (b:ByteArray):(AV.str b).isCell=true:=rfl
theorem isCell_rows (fr:Bool)(cs:List AV)(n:Nat):(AV.rows fr cs n).isCell=true:=rfl
theorem isCell_osl (id len off n sz c:Nat):AV.isCell (.osl id len off n sz c)=true:=rfl
theorem isCell_own (i n sz:Nat):(AV.own i n sz).isCell=true:=rfl
theorem isCell_ref (i n o:Nat):(AV.ref i n o).isCell=true:=rfl
theorem isCell_nil:(AV.val (.slice none 0 0)).isCell=true:=rfl
theorem Fwz (k:IntKind)(xs:List Int):(xs.map (AV.int k)).all AV.isCell=true:=by
 rw [List.all_eq_true];intro x hx;obtain ⟨y,_,rfl⟩:=List.mem_map.1 hx;rfl

theorem ofVal_int (k:IntKind)(n:Int):ofVal (.int k n)=.int k n:=rfl
theorem ofVal_bool (b:Bool):ofVal (.bool b)=.bool b:=rfl
theorem ofVal_str (b:ByteArray):ofVal (.string b)=.str b:=rfl
theorem ofVal_slice (a:Option Addr)(n c:Nat):ofVal (.slice a n c)=.val (.slice a n c):=rfl
theorem G2z (a:Option Addr):ofVal (.pointer a)=.val (.pointer a):=rfl
theorem ofVal_agg (l:List Value):ofVal (.agg l.toArray)=.agg (l.map ofCell):=rfl
theorem ofCell_int (k:IntKind)(n:Int):ofCell (.int k n)=.int k n:=rfl
theorem ofCell_bool (b:Bool):ofCell (.bool b)=.bool b:=rfl
theorem ofCell_str (b:ByteArray):ofCell (.string b)=.str b:=rfl
theorem ofCell_slice (a:Option Addr)(n c:Nat):ofCell (.slice a n c)=.val (.slice a n c):=rfl
theorem F2z (a:Option Addr):ofCell (.pointer a)=.val (.pointer a):=rfl

section
variable (s:S) (d:Nat)
theorem arun_mv (x:Operand):arun s pin d (.mv x)=some (s.ev x,none):=rfl
theorem arun_pick (c a b:Operand):arun s pin d (.pick c a b)=pickR (s.ev c) (s.ev a) (s.ev b):=by
 simp only [arun,pickR]
 cases s.ev c<;>try rfl
 cases s.ev a<;>cases s.ev b<;>rfl
theorem arun_alloc (zs:List Value):arun s pin d (.alloc zs)=newR (freeB s.H pin (16*d)) (.ref (16*d) zs.length 0) (16*d) (zs.map ofCell):=by
 simp only [arun,newR,freeB,Bool.and_eq_true,decide_eq_true_eq]
theorem arun_box (x:Operand):arun s pin d (.box x)=boxR (freeB s.H pin (16*d)) (decide (16*d<pin)) (16*d) (s.ev x).cells:=by
 simp only [arun]
 cases (s.ev x).cells with
 | none=>rfl
 | some cs=>simp only [boxR,boxN,freeB,Bool.and_eq_true,decide_eq_true_eq]
theorem arun_mkfn (fn:Fn)(us vs:List Operand):arun s pin d (.mkfn fn us vs)=some (.clo fn (us.map s.ev) (vs.map s.ev),none):=rfl
theorem arun_build (zs:List Value)(ps:List (Nat×Nat×Operand)):arun s pin d (.build zs ps)=(fillR (zs.map ofCell) (ps.map fun p=>(p.1,p.2.1,s.ev p.2.2))).map fun cs=>(.agg cs,none):=rfl
theorem arun_bslice (sz:Nat)(zs:List Value)(ps:List (Nat×Operand))(n:Nat):arun s pin d (.bslice sz zs ps n) =
  withO (fillR (zcells (zs.map ofCell) n) (ps.map fun p=>(p.1*sz,sz,s.ev p.2))) fun cs=>newR (freeB s.H pin (16*d)) (.own (16*d) n sz) (16*d) cs:=by
 simp only [arun,withO,newR,freeB,Bool.and_eq_true,decide_eq_true_eq]
 cases fillR (zcells (zs.map ofCell) n) (ps.map fun p=>(p.1*sz,sz,s.ev p.2))<;>simp
theorem arun_load (agg:Bool)(sz:Nat)(x:Operand):arun s pin d (.load agg sz x)=pureR (loadAV s.H agg sz (s.ev x)):=rfl
def storeR (H:Nat→Option (List AV))(sz:Nat)(x:AV)(l:Option (List AV)):Res :=
 match x with
 | .ref id len off=>withO (H id) fun cs=>withO l fun l=>ifR (cs.length=len∧off+sz≤len∧l.length=sz) (some (.und,some (id,setRange cs off l)))
 | _=>none
theorem storeR_ref (H:Nat→Option (List AV))(sz id len off:Nat)(l:Option (List AV)):storeR H sz (.ref id len off) l=withO (H id) fun cs=>withO l fun l=>ifR (cs.length=len∧off+sz≤len∧l.length=sz) (some (.und,some (id,setRange cs off l))):=rfl
theorem arun_store (sz:Nat)(x v:Operand):arun s pin d (.store sz x v)=storeR s.H sz (s.ev x) (s.ev v).cells:=by
 simp only [arun,storeR,withO,ifR]
 generalize s.ev x=y
 generalize (s.ev v).cells=l
 cases y<;>try rfl
 rename_i id len off
 simp only
 generalize s.H id=q
 cases q<;>cases l<;>rfl
theorem arun_bin (op:BinOp)(x y:Operand):arun s pin d (.bin op x y)=pureR (abin op (s.ev x) (s.ev y)):=rfl
theorem arun_binB (op:BinOp)(x y:Operand):arun s pin d (.binB op x y)=pureR (abinB op (s.ev x) (s.ev y)):=rfl
theorem arun_un (op:UnOp)(x:Operand):arun s pin d (.un op x)=pureR (aun op (s.ev x)):=rfl
def convR (k:IntKind):AV→Res
 | .int _ n=>some (.int k (k.wrap n),none)
 | _=>none
theorem convR_int (k k':IntKind)(n:Int):convR k (.int k' n)=some (.int k (k.wrap n),none):=rfl
theorem arun_conv (k:IntKind)(x:Operand):arun s pin d (.conv k x)=convR k (s.ev x):=by simp only [arun,convR]<;>cases s.ev x<;>rfl
def nilR (H:Nat→Option (List AV)):AV→Res
 | .ref id len off=>withO (H id) fun cs=>ifR (cs.length=len) (some (.ref id len off,none))
 | .prow fr cs off=>some (.prow fr cs off,none)
 | _=>none
theorem nilR_ref (H:Nat→Option (List AV))(id len off:Nat):nilR H (.ref id len off)=withO (H id) fun cs=>ifR (cs.length=len) (some (.ref id len off,none)):=rfl
theorem nilR_prow (H:Nat→Option (List AV))(fr:Bool)(cs:List AV)(off:Nat):nilR H (.prow fr cs off)=some (.prow fr cs off,none):=rfl
theorem arun_nilck (x:Operand):arun s pin d (.nilck x)=nilR s.H (s.ev x):=by
 simp only [arun,nilR,withO,ifR]
 cases s.ev x<;>first|rfl|(simp only [];generalize s.H _=q;cases q<;>rfl)
def mksR (free:Bool)(id sz:Nat)(zs:List AV):AV→AV→Res
 | .int _ n,.int _ m=>ifR (n=m∧0≤n∧n≤1099511627776) (newR free (.own id n.toNat sz) id (zcells zs n.toNat))
 | _,_=>none
theorem mksR_int (free:Bool)(id sz:Nat)(zs:List AV)(k k':IntKind)(n m:Int):mksR free id sz zs (.int k n) (.int k' m)=ifR (n=m∧0≤n∧n≤1099511627776) (newR free (.own id n.toNat sz) id (zcells zs n.toNat)):=rfl
theorem arun_mkslice (sz:Nat)(zs:List Value)(l c:Operand):arun s pin d (.mkslice sz zs l c)=mksR (freeB s.H pin (16*d)) (16*d) sz (zs.map ofCell) (s.ev l) (s.ev c):=by
 simp only [arun,mksR]
 cases s.ev l<;>cases s.ev c<;>try rfl
 simp only [ifR,newR,freeB,Bool.and_eq_true,decide_eq_true_eq]
 rename_i k1 n1 k2 n2
 by_cases h1:(s.H (16*d)).isNone=true<;>by_cases h2:pin≤16*d<;>by_cases h3:n1=n2<;>by_cases h4:0≤n1<;>by_cases h5:n1≤1099511627776<;>simp [h1,h2,h3,h4,h5]
def fldR (H:Nat→Option (List AV))(off:Nat):AV→Res
 | .ref id len o=>withO (H id) fun cs=>ifR (cs.length=len) (some (.ref id len (o+off),none))
 | .prow fr cs o=>some (.prow fr cs (o+off),none)
 | _=>none
theorem fldR_ref (H:Nat→Option (List AV))(off id len o:Nat):fldR H off (.ref id len o)=withO (H id) fun cs=>ifR (cs.length=len) (some (.ref id len (o+off),none)):=rfl
theorem fldR_prow (H:Nat→Option (List AV))(off:Nat)(fr:Bool)(cs:List AV)(o:Nat):fldR H off (.prow fr cs o)=some (.prow fr cs (o+off),none):=rfl
theorem arun_fld (off:Nat)(x:Operand):arun s pin d (.fld off x)=fldR s.H off (s.ev x):=by
 simp only [arun,fldR,withO,ifR]
 cases s.ev x<;>first|rfl|(simp only [];generalize s.H _=q;cases q<;>rfl)
def fldvR (agg:Bool)(off sz:Nat):AV→Res
 | .agg cs=>ifR (off+sz≤cs.length) (pureR (mkAV agg ((cs.drop off).take sz)))
 | _=>none
theorem fldvR_agg (agg:Bool)(off sz:Nat)(cs:List AV):fldvR agg off sz (.agg cs)=ifR (off+sz≤cs.length) (pureR (mkAV agg ((cs.drop off).take sz))):=rfl
theorem arun_fldv (agg:Bool)(off sz:Nat)(x:Operand):arun s pin d (.fldv agg off sz x)=fldvR agg off sz (s.ev x):=by
 simp only [arun,fldvR,ifR]
 cases s.ev x<;>rfl
def withO' {β:Type}(o:Option (List AV))(f:List AV→Option β):Option β:=match o with|some cs=>f cs|none=>none
theorem withO'_some {β:Type}(cs:List AV)(f:List AV→Option β):withO' (some cs) f=f cs:=rfl
def idxR (H:Nat→Option (List AV))(sz:Nat):AV→AV→Res
 | .int _ j,.rows fr cs n=>ifR (0≤j∧j<n) (some (.prow fr cs (j.toNat*sz),none))
 | .int _ j,.own id n sz'=>withO (H id) fun cs=>ifR (cs.length=n*sz'∧0≤j∧j<n) (some (.ref id (n*sz') (j.toNat*sz),none))
 | .int _ j,.osl id len off n sz' _=>withO (H id) fun cs=>ifR (cs.length=len∧0≤j∧j<n) (some (.ref id len (off+j.toNat*sz),none))
 | _,_=>none
theorem idxR_osl (H:Nat→Option (List AV))(sz:Nat)(k:IntKind)(j:Int)(id len off n sz' c:Nat):idxR H sz (.int k j) (.osl id len off n sz' c)=withO (H id) fun cs=>ifR (cs.length=len∧0≤j∧j<n) (some (.ref id len (off+j.toNat*sz),none)):=rfl
theorem idxR_rows (H:Nat→Option (List AV))(sz:Nat)(k:IntKind)(j:Int)(fr:Bool)(cs:List AV)(n:Nat):idxR H sz (.int k j) (.rows fr cs n)=ifR (0≤j∧j<n) (some (.prow fr cs (j.toNat*sz),none)):=rfl
theorem idxR_own (H:Nat→Option (List AV))(sz:Nat)(k:IntKind)(j:Int)(id n sz':Nat):idxR H sz (.int k j) (.own id n sz')=withO (H id) fun cs=>ifR (cs.length=n*sz'∧0≤j∧j<n) (some (.ref id (n*sz') (j.toNat*sz),none)):=rfl
theorem arun_idxA (sz:Nat)(x i:Operand):arun s pin d (.idxA sz x i)=idxR s.H sz (s.ev i) (s.ev x):=by
 simp only [arun,idxR,withO,ifR]
 cases s.ev i<;>cases s.ev x<;>first|rfl|(simp only [];generalize s.H _=q;cases q<;>rfl)
def idxPR (H:Nat→Option (List AV))(sz n:Nat):AV→AV→Res
 | .int _ j,.ref id len o=>withO (H id) fun cs=>ifR (cs.length=len∧0≤j∧j<n) (some (.ref id len (o+j.toNat*sz),none))
 | .int _ j,.prow fr cs o=>ifR (0≤j∧j<n) (some (.prow fr cs (o+j.toNat*sz),none))
 | _,_=>none
theorem idxPR_prow (H:Nat→Option (List AV))(sz n:Nat)(k:IntKind)(j:Int)(fr:Bool)(cs:List AV)(o:Nat):idxPR H sz n (.int k j) (.prow fr cs o)=ifR (0≤j∧j<n) (some (.prow fr cs (o+j.toNat*sz),none)):=rfl
theorem idxPR_ref (H:Nat→Option (List AV))(sz n:Nat)(k:IntKind)(j:Int)(id len o:Nat):idxPR H sz n (.int k j) (.ref id len o)=withO (H id) fun cs=>ifR (cs.length=len∧0≤j∧j<n) (some (.ref id len (o+j.toNat*sz),none)):=rfl
theorem arun_idxP (sz n:Nat)(x i:Operand):arun s pin d (.idxP sz n x i)=idxPR s.H sz n (s.ev i) (s.ev x):=by
 simp only [arun,idxPR,withO,ifR]
 cases s.ev i<;>cases s.ev x<;>first|rfl|(simp only [];generalize s.H _=q;cases q<;>rfl)
def minR (mx:Bool):AV→AV→Res
 | .int k a,.int _ b=>some (.int k (if mx then max a b else min a b),none)
 | _,_=>none
theorem minR_min (k k':IntKind)(a b:Int):minR false (.int k a) (.int k' b)=some (.int k (min a b),none):=rfl
theorem minR_max (k k':IntKind)(a b:Int):minR true (.int k a) (.int k' b)=some (.int k (max a b),none):=rfl
theorem arun_minmax (mx:Bool)(x y:Operand):arun s pin d (.minmax mx x y)=minR mx (s.ev x) (s.ev y):=by
 simp only [arun,minR]
 cases s.ev x<;>cases s.ev y<;>rfl
def eqSR (neg:Bool)(l:List (Nat×Option IntKind)):AV→AV→Res
 | .agg cs,.agg ds=>(eqCells l cs ds).map fun b=>(.bool (if neg then !b else b),none)
 | _,_=>none
theorem eqSR_agg (neg:Bool)(l:List (Nat×Option IntKind))(cs ds:List AV):eqSR neg l (.agg cs) (.agg ds)=(eqCells l cs ds).map fun b=>(.bool (if neg then !b else b),none):=rfl
theorem arun_eqS (neg:Bool)(l:List (Nat×Option IntKind))(x y:Operand):arun s pin d (.eqS neg l x y)=eqSR neg l (s.ev x) (s.ev y):=by
 simp only [arun,eqSR]
 cases s.ev x<;>cases s.ev y<;>rfl
def eqI (k:IntKind):Option AV→Option AV→Option Bool→Option Bool
 | some (.int k1 a),some (.int k2 b),some t=>if k1=k∧k2=k then some (decide (a=b)&&t) else none
 | _,_,_=>none
def eqB:Option AV→Option AV→Option Bool→Option Bool
 | some (.bool a),some (.bool b),some t=>some ((a==b)&&t)
 | _,_,_=>none
theorem eqI_int (k:IntKind)(a b:Int)(t:Bool):eqI k (some (.int k a)) (some (.int k b)) (some t)=some (decide (a=b)&&t):=by simp [eqI]
theorem eqB_bool (a b t:Bool):eqB (some (.bool a)) (some (.bool b)) (some t)=some ((a==b)&&t):=rfl
theorem eqCells_nil (cs ds:List AV):eqCells [] cs ds=some true:=rfl
theorem eqCells_int (o:Nat)(k:IntKind)(r:List (Nat×Option IntKind))(cs ds:List AV):eqCells ((o,some k)::r) cs ds=eqI k cs[o]? ds[o]? (eqCells r cs ds):=rfl
theorem eqCells_bool (o:Nat)(r:List (Nat×Option IntKind))(cs ds:List AV):eqCells ((o,none)::r) cs ds=eqB cs[o]? ds[o]? (eqCells r cs ds):=rfl
def slR (H:Nat→Option (List AV))(sz:Nat)(lo hi:Option AV):AV→Res
 | .rows fr cs n=>match bnd n n hi with
  | some h=>match bnd h 0 lo with
   | some l=>some (.rows fr ((cs.drop (l*sz)).take ((h-l)*sz)) (h-l),none)
   | none=>none
  | none=>none
 | .own id n sz'=>match H id,bnd n n hi with
  | some cs,some h=>match bnd h 0 lo with
   | some l=>if cs.length=n*sz∧sz'=sz then some (.osl id (n*sz) (l*sz) (h-l) sz (n-l),none) else none
   | none=>none
  | _,_=>none
 | .osl id len off n sz' c=>match H id,bnd c n hi with
  | some cs,some h=>match bnd h 0 lo with
   | some l=>if cs.length=len∧sz'=sz∧l≤c then some (.osl id len (off+l*sz) (h-l) sz (c-l),none) else none
   | none=>none
  | _,_=>none
 | .val (.slice none 0 0)=>match bnd 0 0 hi with
  | some h=>match bnd h 0 lo with
   | some _=>some (.val (.slice none 0 0),none)
   | none=>none
  | none=>none
 | _=>none
theorem arun_slice (sz:Nat)(x:Operand)(lo hi:Option Operand):arun s pin d (.slice sz x lo hi)=slR s.H sz (lo.map s.ev) (hi.map s.ev) (s.ev x):=by
 simp only [arun,slR]
 cases s.ev x<;>first|rfl|(split<;>rfl)
def slNil2:Option Nat→Res
 | some _=>some (.val (.slice none 0 0),none)
 | none=>none
def slNil (lo:Option AV):Option Nat→Res
 | some h=>slNil2 (bnd h 0 lo)
 | none=>none
theorem slR_nil (H:Nat→Option (List AV))(sz:Nat)(lo hi:Option AV):slR H sz lo hi (.val (.slice none 0 0))=slNil lo (bnd 0 0 hi):=by
 simp only [slR,slNil]
 cases bnd 0 0 hi with
 | none=>rfl
 | some h=>simp only [slNil2]<;>cases bnd h 0 lo<;>rfl
theorem slNil_some (lo:Option AV)(h:Nat):slNil lo (some h)=slNil2 (bnd h 0 lo):=rfl
theorem slNil2_some (h:Nat):slNil2 (some h)=some (.val (.slice none 0 0),none):=rfl
def slRows (fr:Bool)(cs:List AV)(sz:Nat)(lo:Option AV):Option Nat→Res
 | some h=>match bnd h 0 lo with
  | some l=>some (.rows fr ((cs.drop (l*sz)).take ((h-l)*sz)) (h-l),none)
  | none=>none
 | none=>none
def slRows2 (fr:Bool)(cs:List AV)(sz h:Nat):Option Nat→Res
 | some l=>some (.rows fr ((cs.drop (l*sz)).take ((h-l)*sz)) (h-l),none)
 | none=>none
theorem slR_rows (H:Nat→Option (List AV))(sz:Nat)(lo hi:Option AV)(fr:Bool)(cs:List AV)(n:Nat):slR H sz lo hi (.rows fr cs n)=slRows fr cs sz lo (bnd n n hi):=rfl
theorem slRows_some (fr:Bool)(cs:List AV)(sz h:Nat)(lo:Option AV):slRows fr cs sz lo (some h)=slRows2 fr cs sz h (bnd h 0 lo):=rfl
theorem slRows2_some (fr:Bool)(cs:List AV)(sz h l:Nat):slRows2 fr cs sz h (some l)=some (.rows fr ((cs.drop (l*sz)).take ((h-l)*sz)) (h-l),none):=rfl
def slOwn (id len off sz c:Nat)(lo:Option AV):Option Nat→Res
 | some h=>match bnd h 0 lo with
  | some l=>some (.osl id len (off+l*sz) (h-l) sz (c-l),none)
  | none=>none
 | none=>none
def slOwn2 (id len off sz c h:Nat):Option Nat→Res
 | some l=>some (.osl id len (off+l*sz) (h-l) sz (c-l),none)
 | none=>none
def slOsl (id len off sz c:Nat)(lo:Option AV):Option Nat→Res
 | some h=>match bnd h 0 lo with
  | some l=>ifR (l≤c) (some (.osl id len (off+l*sz) (h-l) sz (c-l),none))
  | none=>none
 | none=>none
def slOsl2 (id len off sz c h:Nat):Option Nat→Res
 | some l=>ifR (l≤c) (some (.osl id len (off+l*sz) (h-l) sz (c-l),none))
 | none=>none
theorem slR_own (H:Nat→Option (List AV))(sz:Nat)(lo hi:Option AV)(id n:Nat):slR H sz lo hi (.own id n sz)=withO (H id) fun cs=>ifR (cs.length=n*sz) (slOwn id (n*sz) 0 sz n lo (bnd n n hi)):=by
 simp only [slR,withO,ifR]
 cases H id with
 | none=>rfl
 | some cs =>
  cases hb:bnd n n hi with
  | none=>simp [slOwn]
  | some h =>
   cases hl:bnd h 0 lo with
   | none=>simp [slOwn,hl]
   | some l=>simp [slOwn,hl]
theorem slR_osl (H:Nat→Option (List AV))(sz:Nat)(lo hi:Option AV)(id len off n c:Nat):slR H sz lo hi (.osl id len off n sz c)=withO (H id) fun cs=>ifR (cs.length=len) (slOsl id len off sz c lo (bnd c n hi)):=by
 simp only [slR,withO,ifR]
 cases H id with
 | none=>rfl
 | some cs =>
  cases hb:bnd c n hi with
  | none=>simp [slOsl]
  | some h =>
   cases hl:bnd h 0 lo with
   | none=>simp [slOsl,hl]
   | some l =>
    by_cases h1:cs.length=len<;>by_cases h2:l≤c<;>simp [slOsl,hl,ifR,h1,h2]
theorem slOwn_some (id len off sz c h:Nat)(lo:Option AV):slOwn id len off sz c lo (some h)=slOwn2 id len off sz c h (bnd h 0 lo):=rfl
theorem slOwn2_some (id len off sz c h l:Nat):slOwn2 id len off sz c h (some l)=some (.osl id len (off+l*sz) (h-l) sz (c-l),none):=rfl
theorem slOsl_some (id len off sz c h:Nat)(lo:Option AV):slOsl id len off sz c lo (some h)=slOsl2 id len off sz c h (bnd h 0 lo):=rfl
theorem slOsl2_some (id len off sz c h l:Nat):slOsl2 id len off sz c h (some l)=ifR (l≤c) (some (.osl id len (off+l*sz) (h-l) sz (c-l),none)):=rfl
def s3Rows (fr:Bool)(cs:List AV)(sz:Nat)(lo:Option AV)(hi:AV):Option Nat→Res
 | some m=>slRows fr cs sz lo (bnd m m (some hi))
 | none=>none
def s3Own (id len off sz:Nat)(lo:Option AV)(hi:AV):Option Nat→Res
 | some m=>slOwn id len off sz m lo (bnd m m (some hi))
 | none=>none
def s3R (H:Nat→Option (List AV))(sz:Nat)(lo:Option AV)(hi mx:AV)(x:AV):Res:=match x with
  | .rows fr cs n=>match bnd n n (some mx) with
   | some m=>match bnd m m (some hi) with
    | some h=>match bnd h 0 lo with
     | some l=>some (.rows fr ((cs.drop (l*sz)).take ((h-l)*sz)) (h-l),none)
     | none=>none
    | none=>none
   | none=>none
  | y=>match y.tgt with
   | some (id,len,off,_,sz',c)=>match H id with
    | some cs=>if cs.length=len∧sz'=sz then match bnd c c (some mx) with
     | some m=>match bnd m m (some hi) with
      | some h=>match bnd h 0 lo with
       | some l=>some (.osl id len (off+l*sz) (h-l) sz (m-l),none)
       | none=>none
      | none=>none
     | none=>none else none
    | none=>none
   | none=>none
theorem arun_slice3 (sz:Nat)(x:Operand)(lo:Option Operand)(hi mx:Operand):arun s pin d (.slice3 sz x lo hi mx)=s3R s.H sz (lo.map s.ev) (s.ev hi) (s.ev mx) (s.ev x):=by
 simp only [arun,s3R]
 cases s.ev x<;>rfl
theorem s3R_rows (H:Nat→Option (List AV))(sz:Nat)(lo:Option AV)(hi mx:AV)(fr:Bool)(cs:List AV)(n:Nat):s3R H sz lo hi mx (.rows fr cs n)=s3Rows fr cs sz lo hi (bnd n n (some mx)):=rfl
theorem s3R_own (H:Nat→Option (List AV))(sz:Nat)(lo:Option AV)(hi mx:AV)(id n:Nat):s3R H sz lo hi mx (.own id n sz)=withO (H id) fun cs=>ifR (cs.length=n*sz) (s3Own id (n*sz) 0 sz lo hi (bnd n n (some mx))):=by
 simp only [s3R,AV.tgt,withO,ifR]
 cases H id with
 | none=>rfl
 | some cs=>simp only [and_true];rfl
theorem s3R_osl (H:Nat→Option (List AV))(sz:Nat)(lo:Option AV)(hi mx:AV)(id len off n c:Nat):s3R H sz lo hi mx (.osl id len off n sz c)=withO (H id) fun cs=>ifR (cs.length=len) (s3Own id len off sz lo hi (bnd c c (some mx))):=by
 simp only [s3R,AV.tgt,withO,ifR]
 cases H id with
 | none=>rfl
 | some cs=>simp only [and_true];rfl
theorem s3Rows_some (fr:Bool)(cs:List AV)(sz m:Nat)(lo:Option AV)(hi:AV):s3Rows fr cs sz lo hi (some m)=slRows fr cs sz lo (bnd m m (some hi)):=rfl
theorem s3Own_some (id len off sz m:Nat)(lo:Option AV)(hi:AV):s3Own id len off sz lo hi (some m)=slOwn id len off sz m lo (bnd m m (some hi)):=rfl
def clrR (H:Nat→Option (List AV))(sz:Nat)(zs:List AV)(x:AV):Res:=match x.tgt with
  | some (id,len,off,n,sz',_)=>match H id with
   | some cs=>if sz'=sz∧cs.length=len then some (.tup [],some (id,setRange cs off (zcells zs n))) else none
   | none=>none
  | none=>none
theorem arun_clr (sz:Nat)(zs:List Value)(x:Operand):arun s pin d (.clr sz zs x)=clrR s.H sz (zs.map ofCell) (s.ev x):=by
 simp only [arun,clrR]
 cases (s.ev x).tgt with
 | none=>rfl
 | some q=>obtain ⟨i1,i2,i3,i4,i5,i6⟩:=q;simp only []<;>cases s.H i1<;>rfl
theorem clrR_own (H:Nat→Option (List AV))(sz:Nat)(zs:List AV)(id n:Nat):clrR H sz zs (.own id n sz)=withO (H id) fun cs=>ifR (cs.length=n*sz) (some (.tup [],some (id,setRange cs 0 (zcells zs n)))):=by
 simp only [clrR,AV.tgt,withO,ifR,true_and]
 cases H id<;>rfl
theorem clrR_osl (H:Nat→Option (List AV))(sz:Nat)(zs:List AV)(id len off n c:Nat):clrR H sz zs (.osl id len off n sz c)=withO (H id) fun cs=>ifR (cs.length=len) (some (.tup [],some (id,setRange cs off (zcells zs n)))):=by
 simp only [clrR,AV.tgt,withO,ifR,true_and]
 cases H id<;>rfl
def cpyR (H:Nat→Option (List AV))(sz:Nat)(ys:List AV)(m:Nat)(x:AV):Res :=
 if ys.length=m*sz∧ys.all AV.isCell then match x.tgt with
   | some (id,len,off,n,sz',_)=>match H id with
    | some cs=>if sz'=sz∧cs.length=len then some (.int .i64 (min m n:Nat),some (id,setRange cs off (ys.take (min m n*sz)))) else none
    | none=>none
   | none=>none else none
theorem arun_cpy (sz:Nat)(x y:Operand):arun s pin d (.cpy sz x y)=withO (rd s.H (s.ev y)) fun q=>cpyR s.H sz q.1 q.2 (s.ev x):=by
 simp only [arun,withO,cpyR]
 cases rd s.H (s.ev y) with
 | none=>rfl
 | some q =>
  obtain ⟨ys,m⟩:=q
  simp only []
  split
  ·cases (s.ev x).tgt with
   | none=>rfl
   | some q=>obtain ⟨i1,i2,i3,i4,i5,i6⟩:=q;simp only []<;>cases s.H i1<;>rfl
  ·rfl
theorem cpyR_own (H:Nat→Option (List AV))(sz:Nat)(ys:List AV)(m id n:Nat):cpyR H sz ys m (.own id n sz)=if ys.length=m*sz∧ys.all AV.isCell=true then withO (H id) fun cs=>ifR (cs.length=n*sz) (some (.int .i64 (min m n:Nat),some (id,setRange cs 0 (ys.take (min m n*sz))))) else none:=by
 simp only [cpyR,AV.tgt,withO,ifR,true_and]
 cases H id<;>rfl
theorem cpyR_osl (H:Nat→Option (List AV))(sz:Nat)(ys:List AV)(m id len off n c:Nat):cpyR H sz ys m (.osl id len off n sz c)=if ys.length=m*sz∧ys.all AV.isCell=true then withO (H id) fun cs=>ifR (cs.length=len) (some (.int .i64 (min m n:Nat),some (id,setRange cs off (ys.take (min m n*sz))))) else none:=by
 simp only [cpyR,AV.tgt,withO,ifR,true_and]
 cases H id<;>rfl
theorem bnd_none (m k:Nat):bnd m k none=some k:=rfl
theorem bnd_int (m k:Nat)(ik:IntKind)(i:Int):bnd m k (some (.int ik i))=if 0≤i∧i≤m then some i.toNat else none:=rfl
def slP (H:Nat→Option (List AV))(sz n:Nat)(lo hi:Option AV):AV→Res
 | .ref id len off=>withO (H id) fun cs=>ifR (cs.length=len∧off+n*sz≤len) (slOwn id len off sz n lo (bnd n n hi))
 | _=>none
theorem slP_ref (H:Nat→Option (List AV))(sz n:Nat)(lo hi:Option AV)(id len off:Nat):slP H sz n lo hi (.ref id len off)=withO (H id) fun cs=>ifR (cs.length=len∧off+n*sz≤len) (slOwn id len off sz n lo (bnd n n hi)):=rfl
theorem arun_sliceP (sz n:Nat)(x:Operand)(lo hi:Option Operand):arun s pin d (.sliceP sz n x lo hi)=slP s.H sz n (lo.map s.ev) (hi.map s.ev) (s.ev x):=by
 simp only [arun,slP,withO,ifR]
 cases s.ev x<;>try rfl
 rename_i id len off
 simp only []
 cases s.H id with
 | none=>rfl
 | some cs =>
  cases hb:bnd n n (hi.map s.ev) with
  | none=>simp [slOwn]
  | some h =>
   cases hl:bnd h 0 (lo.map s.ev) with
   | none=>simp [slOwn,hl]
   | some l=>simp [slOwn,hl]
theorem rd_osl (H:Nat→Option (List AV))(id len off n sz c:Nat):rd H (.osl id len off n sz c)=(withO' (H id) fun cs=>if cs.length=len then some ((cs.drop off).take (n*sz),n) else none):=by
 simp only [rd,withO']<;>cases H id<;>rfl
def extR (i:Nat):AV→Res
 | .tup vs=>pureR vs[i]?
 | _=>none
theorem extR_tup (i:Nat)(vs:List AV):extR i (.tup vs)=pureR vs[i]?:=rfl
theorem arun_extract (x:Operand)(i:Nat):arun s pin d (.extract x i)=extR i (s.ev x):=by
 simp only [arun,extR]
 cases s.ev x<;>rfl
theorem arun_len (x:Operand):arun s pin d (.len x)=withO (rd s.H (s.ev x)) fun r=>some (.int .i64 r.2,none):=by
 simp only [arun,withO]
 cases rd s.H (s.ev x)<;>rfl
theorem rd_rows (H:Nat→Option (List AV))(fr:Bool)(cs:List AV)(n:Nat):rd H (.rows fr cs n)=some (cs,n):=rfl
def rdO (o:Option (List AV))(n sz:Nat):Option (List AV×Nat):=match o with|some cs=>if cs.length=n*sz then some (cs,n) else none|none=>none
theorem rdO_some (cs:List AV)(n sz:Nat):rdO (some cs) n sz=if cs.length=n*sz then some (cs,n) else none:=rfl
theorem rd_own (H:Nat→Option (List AV))(id n sz:Nat):rd H (.own id n sz)=rdO (H id) n sz:=rfl
theorem rd_nil (H:Nat→Option (List AV)):rd H (.val (.slice none 0 0))=some ([],0):=rfl
def lenSR:AV→Res
 | .str t=>some (.int .i64 t.size,none)
 | _=>none
theorem lenSR_str (t:ByteArray):lenSR (.str t)=some (.int .i64 t.size,none):=rfl
theorem arun_lenS (x:Operand):arun s pin d (.lenS x)=lenSR (s.ev x):=by simp only [arun,lenSR]<;>cases s.ev x<;>rfl
def appR (H:Nat→Option (List AV))(pin id0 sz:Nat)(ys:List AV)(m:Nat)(x:AV):Res :=
 if ys.length=m*sz∧ys.all AV.isCell then match x with
    | .own id n sz'=>match H id with
     | some cs=>if sz'=sz∧cs.length=n*sz∧pin≤id∧n+m≤1099511627776 then
       some (.own id (n+m) sz,some (id,cs++ys)) else none
     | none=>none
    | .osl id len off n sz' c=>match H id with
     | some cs=>if sz'=sz∧cs.length=len∧n+m≤c then some (.osl id len off (n+m) sz c,some (id,setRange cs (off+n*sz) ys)) else none
     | none=>none
    | .val (.slice none 0 0)=>if (H id0).isNone∧pin≤id0∧m≤1099511627776 then some (.own id0 m sz,some (id0,ys)) else none
    | _=>none
   else none
theorem appR_own (H:Nat→Option (List AV))(pin id0 sz id n:Nat)(ys:List AV)(m:Nat) :
  appR H pin id0 sz ys m (.own id n sz)=if ys.length=m*sz∧ys.all AV.isCell=true then withO (H id) fun cs=>if cs.length=n*sz∧pin≤id∧n+m≤1099511627776 then some (.own id (n+m) sz,some (id,cs++ys)) else none else none:=by
 by_cases h1:ys.length=m*sz∧ys.all AV.isCell=true
 ·simp only [appR,h1,and_self,if_true,true_and,withO]
  cases H id<;>rfl
 ·simp only [appR];rw [if_neg h1,if_neg h1]
theorem appR_osl (H:Nat→Option (List AV))(pin id0 sz id len off n c:Nat)(ys:List AV)(m:Nat) :
  appR H pin id0 sz ys m (.osl id len off n sz c)=if ys.length=m*sz∧ys.all AV.isCell=true then withO (H id) fun cs=>if cs.length=len∧n+m≤c then some (.osl id len off (n+m) sz c,some (id,setRange cs (off+n*sz) ys)) else none else none:=by
 by_cases h1:ys.length=m*sz∧ys.all AV.isCell=true
 ·simp only [appR,h1,and_self,if_true,true_and,withO]
  cases H id<;>rfl
 ·simp only [appR];rw [if_neg h1,if_neg h1]
theorem appR_nil (H:Nat→Option (List AV))(pin id0 sz:Nat)(ys:List AV)(m:Nat) :
  appR H pin id0 sz ys m (.val (.slice none 0 0))=if (ys.length=m*sz∧ys.all AV.isCell=true)∧m≤1099511627776 then newR (freeB H pin id0) (.own id0 m sz) id0 ys else none:=by
 by_cases h1:ys.length=m*sz∧ys.all AV.isCell=true<;>by_cases h2:m≤1099511627776 <;>
  simp [appR,h1,h2,newR,freeB]
theorem arun_append (sz:Nat)(x y:Operand):arun s pin d (.append sz x y)=withO (rd s.H (s.ev y)) fun q=>appR s.H pin (16*d) sz q.1 q.2 (s.ev x):=by
 simp only [arun,withO]
 cases rd s.H (s.ev y)<;>rfl
end
def lrefO (agg:Bool)(sz len off:Nat):Option (List AV)→Option AV
 | some cs=>if cs.length=len∧off+sz≤len then mkAV agg ((cs.drop off).take sz) else none
 | none=>none
theorem lrefO_some (agg:Bool)(sz len off:Nat)(cs:List AV):lrefO agg sz len off (some cs)=if cs.length=len∧off+sz≤len then mkAV agg ((cs.drop off).take sz) else none:=rfl
theorem loadAV_ref (F:Nat→Option (List AV))(agg:Bool)(sz id len off:Nat):loadAV F agg sz (.ref id len off)=lrefO agg sz len off (F id):=by
 simp only [loadAV,lrefO]<;>cases F id<;>rfl
theorem loadAV_prow (F:Nat→Option (List AV))(agg:Bool)(sz:Nat)(fr:Bool)(cs:List AV)(off:Nat):loadAV F agg sz (.prow fr cs off)=if off+sz≤cs.length then mkAV agg ((cs.drop off).take sz) else none:=rfl
theorem mkAV_agg (cs:List AV):mkAV true cs=some (.agg cs):=rfl
theorem mkAV_one (c:AV):mkAV false [c]=some c:=rfl
theorem E6z (k:IntKind)(xs:List Int)(off:Nat):mkAV false (((xs.map (AV.int k)).drop off).take 1)=if off<xs.length then some (.int k (xs.getD off 0)) else none:=by
 by_cases h:off<xs.length
 ·rw [if_pos h,List.drop_eq_getElem_cons (by simpa using h)]
  simp [mkAV,h]
 ·rw [if_neg h,List.drop_eq_nil_of_le (by simp;omega)]
  rfl
theorem pureR_some (v:AV):pureR (some v)=some (v,none):=rfl

section
variable (k:IntKind) (a b:Int)
theorem abin_add:abin .add (.int k a) (.int k b)=some (.int k (k.wrap (a+b))):=by simp [abin]
theorem abin_sub:abin .sub (.int k a) (.int k b)=some (.int k (k.wrap (a-b))):=by simp [abin]
theorem abin_mul:abin .mul (.int k a) (.int k b)=some (.int k (k.wrap (a*b))):=by simp [abin]
theorem abin_quo (h:¬ b=0):abin .quo (.int k a) (.int k b)=some (.int k (k.wrap (a.tdiv b))):=by simp [abin,h]
theorem abin_rem (h:¬ b=0):abin .rem (.int k a) (.int k b)=some (.int k (a.tmod b)):=by simp [abin,h]
theorem abin_and:abin .and (.int k a) (.int k b)=some (.int k (bits .and k a b)):=by simp [abin]
theorem abin_or:abin .or (.int k a) (.int k b)=some (.int k (bits .or k a b)):=by simp [abin]
theorem abin_xor:abin .xor (.int k a) (.int k b)=some (.int k (bits .xor k a b)):=by simp [abin]
theorem abin_shr (h:0≤b):abin .shr (.int k a) (.int k b)=some (.int k (a.fdiv (2 ^ (min b.toNat k.bits)))):=by simp [abin,h]
theorem abin_eql:abin .eql (.int k a) (.int k b)=some (.bool (decide (a=b))):=by
 have:(a==b)=decide (a=b):=by by_cases h:a=b<;>simp [h]
 simp [abin,this]
theorem abin_neq:abin .neq (.int k a) (.int k b)=some (.bool (!decide (a=b))):=by
 have:(a != b)=!decide (a=b):=by by_cases h:a=b<;>simp [h]
 simp [abin,this]
theorem abin_lss:abin .lss (.int k a) (.int k b)=some (.bool (decide (a<b))):=by simp [abin]
theorem abin_leq:abin .leq (.int k a) (.int k b)=some (.bool (decide (a≤b))):=by simp [abin]
theorem abin_gtr:abin .gtr (.int k a) (.int k b)=some (.bool (decide (b<a))):=by simp [abin]
theorem abin_geq:abin .geq (.int k a) (.int k b)=some (.bool (decide (b≤a))):=by simp [abin]
theorem abinB_eql (p q:Bool):abinB .eql (.bool p) (.bool q)=some (.bool (p==q)):=rfl
theorem abinB_neq (p q:Bool):abinB .neq (.bool p) (.bool q)=some (.bool (!(p==q))):=rfl
theorem aun_neg:aun .neg (.int k a)=some (.int k (k.wrap (0-a))):=rfl
theorem aun_not (c:Bool):aun .not (.bool c)=some (.bool (!c)):=rfl
end

theorem fillR_nil (cs:List AV):fillR cs []=some cs:=rfl
def fillO (cs:List AV)(off sz:Nat)(r:List (Nat×Nat×AV)):Option (List AV)→Option (List AV)
 | some l=>if l.length=sz∧off+sz≤cs.length then fillR (setRange cs off l) r else none
 | none=>none
theorem fillR_cons (cs:List AV)(off sz:Nat)(v:AV)(r:List (Nat×Nat×AV)):fillR cs ((off,sz,v)::r)=fillO cs off sz r v.cells:=by
 simp only [fillR,fillO]<;>cases v.cells<;>rfl
theorem fillO_some (cs:List AV)(off sz:Nat)(r:List (Nat×Nat×AV))(l:List AV):fillO cs off sz r (some l)=if l.length=sz∧off+sz≤cs.length then fillR (setRange cs off l) r else none:=rfl
theorem zcells_zero (zs:List AV):zcells zs 0=[]:=by simp [zcells]
theorem zcells_one (z:AV)(n:Nat):zcells [z] n=List.replicate n z:=by
 apply List.ext_getElem?
 intro i
 simp only [zcells,List.length_cons,List.length_nil,Nat.zero_add,Nat.mul_one,List.getElem?_map,Nat.mod_one,List.getElem?_replicate]
 by_cases h:i<n
 ·rw [List.getElem?_range h,if_pos h];rfl
 ·rw [List.getElem?_eq_none (by simpa using h),if_neg h];rfl
theorem setRange_nil (cs:List AV)(off:Nat):setRange cs off []=cs:=rfl
theorem Gxz (cs:List AV)(off:Nat)(c:AV)(r:List AV):setRange cs off (c::r)=setRange (cs.set off c) (off+1) r:=rfl

theorem athen_normal (next:S→Prop)(Q:Exit→S→Prop)(s:S):athen next Q .normal s=next s:=rfl
theorem athen_ret (next:S→Prop)(Q:Exit→S→Prop)(s:S):athen next Q .ret s=Q .ret s:=rfl
theorem athen_exit (next:S→Prop)(Q:Exit→S→Prop)(s:S)(i:Nat):athen next Q (.exit i) s=Q (.exit i) s:=rfl
theorem Hez (i:Nat)(Q:Exit→S→Prop)(s:S):ablock i Q .normal s=Q .normal s:=rfl
theorem ablock_ret (i:Nat)(Q:Exit→S→Prop)(s:S):ablock i Q .ret s=Q .ret s:=rfl
theorem ablock_exit (i j:Nat)(Q:Exit→S→Prop)(s:S):ablock i Q (.exit j) s=if j=i then Q .normal s else Q (.exit j) s:=rfl

end

def fzO (F:Nat→Option (List AV))(d k sz:Nat):Option (List AV)→AV
 | some cs=>if cs.length=k*sz then .rows true (cs.map (AV.fz F d)) k else .unk
 | none=>.unk
theorem fzO_some (F:Nat→Option (List AV))(d k sz:Nat)(cs:List AV):fzO F d k sz (some cs)=if cs.length=k*sz then .rows true (cs.map (AV.fz F d)) k else .unk:=rfl
theorem fz5_bool (F:Nat→Option (List AV))(b:Bool):AV.fz F 5 (.bool b)=.bool b:=rfl
theorem fz5_int (F:Nat→Option (List AV))(k:IntKind)(n:Int):AV.fz F 5 (.int k n)=.int k n:=rfl
theorem fz5_str (F:Nat→Option (List AV))(b:ByteArray):AV.fz F 5 (.str b)=.str b:=rfl
theorem fz5_val (F:Nat→Option (List AV))(v:Value):AV.fz F 5 (.val v)=.val v:=rfl
theorem fz5_agg (F:Nat→Option (List AV))(cs:List AV):AV.fz F 5 (.agg cs)=.agg (cs.map (AV.fz F 4)):=rfl
theorem fz5_tup (F:Nat→Option (List AV))(cs:List AV):AV.fz F 5 (.tup cs)=.tup (cs.map (AV.fz F 4)):=rfl
theorem fz5_rows (F:Nat→Option (List AV))(fr:Bool)(cs:List AV)(k:Nat):AV.fz F 5 (.rows fr cs k)=.rows fr (cs.map (AV.fz F 4)) k:=rfl
theorem fz5_ints (F:Nat→Option (List AV))(k:IntKind)(xs:List Int):(xs.map (AV.int k)).map (AV.fz F 5)=xs.map (AV.int k):=by rw [List.map_map];rfl
theorem fz5_own (F:Nat→Option (List AV))(id k sz:Nat):AV.fz F 5 (.own id k sz)=fzO F 4 k sz (F id):=by (simp only [AV.fz,fzO]<;>cases F id<;>rfl)
theorem fz4_bool (F:Nat→Option (List AV))(b:Bool):AV.fz F 4 (.bool b)=.bool b:=rfl
theorem fz4_int (F:Nat→Option (List AV))(k:IntKind)(n:Int):AV.fz F 4 (.int k n)=.int k n:=rfl
theorem fz4_str (F:Nat→Option (List AV))(b:ByteArray):AV.fz F 4 (.str b)=.str b:=rfl
theorem fz4_val (F:Nat→Option (List AV))(v:Value):AV.fz F 4 (.val v)=.val v:=rfl
theorem fz4_agg (F:Nat→Option (List AV))(cs:List AV):AV.fz F 4 (.agg cs)=.agg (cs.map (AV.fz F 3)):=rfl
theorem fz4_tup (F:Nat→Option (List AV))(cs:List AV):AV.fz F 4 (.tup cs)=.tup (cs.map (AV.fz F 3)):=rfl
theorem fz4_rows (F:Nat→Option (List AV))(fr:Bool)(cs:List AV)(k:Nat):AV.fz F 4 (.rows fr cs k)=.rows fr (cs.map (AV.fz F 3)) k:=rfl
theorem fz4_ints (F:Nat→Option (List AV))(k:IntKind)(xs:List Int):(xs.map (AV.int k)).map (AV.fz F 4)=xs.map (AV.int k):=by rw [List.map_map];rfl
theorem fz4_own (F:Nat→Option (List AV))(id k sz:Nat):AV.fz F 4 (.own id k sz)=fzO F 3 k sz (F id):=by (simp only [AV.fz,fzO]<;>cases F id<;>rfl)
theorem fz3_bool (F:Nat→Option (List AV))(b:Bool):AV.fz F 3 (.bool b)=.bool b:=rfl
theorem fz3_int (F:Nat→Option (List AV))(k:IntKind)(n:Int):AV.fz F 3 (.int k n)=.int k n:=rfl
theorem fz3_str (F:Nat→Option (List AV))(b:ByteArray):AV.fz F 3 (.str b)=.str b:=rfl
theorem fz3_val (F:Nat→Option (List AV))(v:Value):AV.fz F 3 (.val v)=.val v:=rfl
theorem fz3_agg (F:Nat→Option (List AV))(cs:List AV):AV.fz F 3 (.agg cs)=.agg (cs.map (AV.fz F 2)):=rfl
theorem fz3_tup (F:Nat→Option (List AV))(cs:List AV):AV.fz F 3 (.tup cs)=.tup (cs.map (AV.fz F 2)):=rfl
theorem fz3_rows (F:Nat→Option (List AV))(fr:Bool)(cs:List AV)(k:Nat):AV.fz F 3 (.rows fr cs k)=.rows fr (cs.map (AV.fz F 2)) k:=rfl
theorem fz3_ints (F:Nat→Option (List AV))(k:IntKind)(xs:List Int):(xs.map (AV.int k)).map (AV.fz F 3)=xs.map (AV.int k):=by rw [List.map_map];rfl
theorem fz3_own (F:Nat→Option (List AV))(id k sz:Nat):AV.fz F 3 (.own id k sz)=fzO F 2 k sz (F id):=by (simp only [AV.fz,fzO]<;>cases F id<;>rfl)
theorem fz2_bool (F:Nat→Option (List AV))(b:Bool):AV.fz F 2 (.bool b)=.bool b:=rfl
theorem fz2_int (F:Nat→Option (List AV))(k:IntKind)(n:Int):AV.fz F 2 (.int k n)=.int k n:=rfl
theorem fz2_str (F:Nat→Option (List AV))(b:ByteArray):AV.fz F 2 (.str b)=.str b:=rfl
theorem fz2_val (F:Nat→Option (List AV))(v:Value):AV.fz F 2 (.val v)=.val v:=rfl
theorem fz2_agg (F:Nat→Option (List AV))(cs:List AV):AV.fz F 2 (.agg cs)=.agg (cs.map (AV.fz F 1)):=rfl
theorem fz2_tup (F:Nat→Option (List AV))(cs:List AV):AV.fz F 2 (.tup cs)=.tup (cs.map (AV.fz F 1)):=rfl
theorem fz2_rows (F:Nat→Option (List AV))(fr:Bool)(cs:List AV)(k:Nat):AV.fz F 2 (.rows fr cs k)=.rows fr (cs.map (AV.fz F 1)) k:=rfl
theorem fz2_ints (F:Nat→Option (List AV))(k:IntKind)(xs:List Int):(xs.map (AV.int k)).map (AV.fz F 2)=xs.map (AV.int k):=by rw [List.map_map];rfl
theorem fz2_own (F:Nat→Option (List AV))(id k sz:Nat):AV.fz F 2 (.own id k sz)=fzO F 1 k sz (F id):=by (simp only [AV.fz,fzO]<;>cases F id<;>rfl)

theorem tupOf_one (x:AV):tupOf [x]=x:=rfl
theorem tupOf_two (x y:AV):tupOf [x,y]=.tup [x,y]:=rfl
theorem tupOf_three (x y z:AV):tupOf [x,y,z]=.tup [x,y,z]:=rfl
theorem pass1L_ints (k:IntKind)(xs:List Int):pass1L (xs.map (AV.int k))=xs.map (AV.int k):=by
 induction xs with
 | nil=>rfl
 | cons x r ih=>simp [pass1L,AV.pass1,ih]
theorem passL_ints (F:Nat→Option (List AV))(k:IntKind)(xs:List Int):passL F (xs.map (AV.int k))=xs.map (AV.int k):=by
 induction xs with
 | nil=>rfl
 | cons x r ih=>simp [passL,AV.pass,ih]
theorem tkL_ints (sh:Bool)(k:IntKind)(xs:List Int):tkL sh (xs.map (AV.int k))=xs.map (AV.int k):=by
 induction xs with
 | nil=>rfl
 | cons x r ih=>simp [tkL,AV.tk,ih]
def passO (n sz:Nat):Option (List AV)→AV
 | some cs=>if cs.length=n*sz then .rows false (pass1L cs) n else .unk
 | none=>.unk
theorem passO_some (n sz:Nat)(cs:List AV):passO n sz (some cs)=if cs.length=n*sz then .rows false (pass1L cs) n else .unk:=rfl
theorem pass_own (F:Nat→Option (List AV))(id n sz:Nat):AV.pass F (.own id n sz)=passO n sz (F id):=by simp only [AV.pass,passO]<;>cases F id<;>rfl
theorem pass_rows (F:Nat→Option (List AV))(fr:Bool)(cs:List AV)(n:Nat):AV.pass F (.rows fr cs n)=.rows false (passL F cs) n:=rfl
theorem pass_int (F:Nat→Option (List AV))(k:IntKind)(n:Int):AV.pass F (.int k n)=.int k n:=rfl
theorem pass_bool (F:Nat→Option (List AV))(b:Bool):AV.pass F (.bool b)=.bool b:=rfl
theorem pass_str (F:Nat→Option (List AV))(b:ByteArray):AV.pass F (.str b)=.str b:=rfl
theorem pass_agg (F:Nat→Option (List AV))(cs:List AV):AV.pass F (.agg cs)=.agg (passL F cs):=rfl
theorem pass_nil (F:Nat→Option (List AV)):AV.pass F (.val (.slice none 0 0))=.rows false [] 0:=rfl
theorem passL_nil (F:Nat→Option (List AV)):passL F []=[]:=rfl
theorem passL_cons (F:Nat→Option (List AV))(c:AV)(r:List AV):passL F (c::r)=c.pass F::passL F r:=rfl
theorem tk_rowsT (sh:Bool)(cs:List AV)(n:Nat):AV.tk sh (.rows true cs n)=.rows true (tkL sh cs) n:=rfl
theorem tk_rowsF (cs:List AV)(n:Nat):AV.tk true (.rows false cs n)=.rows false (tkL true cs) n:=rfl
theorem tk_int (sh:Bool)(k:IntKind)(n:Int):AV.tk sh (.int k n)=.int k n:=rfl
theorem tk_bool (sh:Bool)(b:Bool):AV.tk sh (.bool b)=.bool b:=rfl
theorem tk_str (sh:Bool)(b:ByteArray):AV.tk sh (.str b)=.str b:=rfl
theorem tk_val (sh:Bool)(v:Value):AV.tk sh (.val v)=.val v:=rfl
theorem tk_agg (sh:Bool)(cs:List AV):AV.tk sh (.agg cs)=.agg (tkL sh cs):=rfl
theorem tk_tup (sh:Bool)(cs:List AV):AV.tk sh (.tup cs)=.tup (tkL sh cs):=rfl
theorem tkL_nil (sh:Bool):tkL sh []=[]:=rfl
theorem tkL_cons (sh:Bool)(c:AV)(r:List AV):tkL sh (c::r)=c.tk sh::tkL sh r:=rfl


theorem init_eq (args:List AV):S.init args=mkS (args.zipIdx.map fun p=>(p.2,p.1)) []:=rfl
section
variable {P:Program} {pin:Nat} {K:S→Prop}
theorem aSeq_minmax (mx:Bool)(x y:Operand)(dst:Option Nat)(af:List Nat)(r:List AOper)(s:S) :
  aSeq P pin (⟨dst,.minmax mx x y,none,af⟩::r) K s=bindS P pin K (arun s pin (dst.getD 0) (.minmax mx x y)) dst r s:=by
 simp only [aSeq,aguard,astep,bindS,forall_const,Bool.true_eq_false,false_implies,and_true]<;>(generalize arun s pin (dst.getD 0) (AOp.minmax mx x y)=z;cases z<;>rfl)
theorem aSeq_eqS (neg:Bool)(l:List (Nat×Option IntKind))(x y:Operand)(dst:Option Nat)(af:List Nat)(r:List AOper)(s:S) :
  aSeq P pin (⟨dst,.eqS neg l x y,none,af⟩::r) K s=bindS P pin K (arun s pin (dst.getD 0) (.eqS neg l x y)) dst r s:=by
 simp only [aSeq,aguard,astep,bindS,forall_const,Bool.true_eq_false,false_implies,and_true]<;>(generalize arun s pin (dst.getD 0) (AOp.eqS neg l x y)=z;cases z<;>rfl)
theorem aSeq_sliceP (sz n:Nat)(x:Operand)(lo hi:Option Operand)(dst:Option Nat)(af:List Nat)(r:List AOper)(s:S) :
  aSeq P pin (⟨dst,.sliceP sz n x lo hi,none,af⟩::r) K s=bindS P pin K (arun s pin (dst.getD 0) (.sliceP sz n x lo hi)) dst r s:=by
 simp only [aSeq,aguard,astep,bindS,forall_const,Bool.true_eq_false,false_implies,and_true]<;>(generalize arun s pin (dst.getD 0) (AOp.sliceP sz n x lo hi)=z;cases z<;>rfl)
theorem aSeq_isnil (neg:Bool)(x:Operand)(dst:Option Nat)(af:List Nat)(r:List AOper)(s:S) :
  aSeq P pin (⟨dst,.isnil neg x,none,af⟩::r) K s=nilStep neg dst (aSeq P pin r K) s (s.ev x):=by
 simp only [aSeq,aguard,astep,forall_const,Bool.true_eq_false,false_implies,and_true]
theorem aSeq_raw (op:Op)(dst:Option Nat)(af:List Nat)(r:List AOper)(s:S) :
  aSeq P pin (⟨dst,.raw op,none,af⟩::r) K s=rawOwed P pin op dst (aSeq P pin r K) s:=by
 simp only [aSeq,aguard,astep,forall_const,Bool.true_eq_false,false_implies,and_true]
theorem nilStep_nil (neg:Bool)(dst:Option Nat)(s:S):nilStep neg dst K s (.val (.slice none 0 0))=K (s.put dst (.bool (if neg then false else true)) none):=rfl
theorem nilStep_rows (neg:Bool)(dst:Option Nat)(s:S)(fr:Bool)(cs:List AV)(n:Nat):nilStep neg dst K s (.rows fr cs n)=∀ b:Bool,(b=true→n=0)→K (s.put dst (.bool (if neg then !b else b)) none):=rfl
theorem nilStep_own (neg:Bool)(dst:Option Nat)(s:S)(id n sz:Nat):nilStep neg dst K s (.own id n sz)=((∃ cs,s.H id=some cs∧cs.length=n*sz)∧∀ b:Bool,(b=true→n=0)→K (s.put dst (.bool (if neg then !b else b)) none)):=rfl
end
attribute [push_cast] slR_nil slNil_some slNil2_some aSeq_raw abin_shr aSeq_minmax aSeq_eqS aSeq_sliceP aSeq_isnil nilStep_nil nilStep_rows nilStep_own arun_minmax minR_min minR_max arun_eqS eqSR_agg eqI_int eqB_bool eqCells_nil eqCells_int eqCells_bool arun_slice slR_rows slRows_some slRows2_some slR_own slR_osl slOwn_some aSeq_slice3 aSeq_clr aSeq_cpy arun_slice3 s3R_rows s3R_own s3R_osl s3Rows_some s3Own_some arun_clr clrR_own clrR_osl arun_cpy cpyR_own cpyR_osl slOwn2_some slOsl_some slOsl2_some bnd_none bnd_int arun_sliceP slP_ref rd_osl withO'_some idxR_osl isCell_osl Int.toNat_zero
attribute [push_cast] init_eq if_pos Int.toNat_natCast aSeq_binB arun_binB abinB_eql abinB_neq beq_self_eq_true ev_tmp ev_const mkS_σ mkS_H mkS_H' put_some put_some' put_none' put_none aSeq_nil bindS_some gIf_true gIf_false bindG_some aSeq_guard aSeq_call aSeq_mv aSeq_pick aSeq_alloc aSeq_box aSeq_mkfn aSeq_build aSeq_bslice aSeq_load aSeq_store aSeq_bin aSeq_un aSeq_conv aSeq_nilck aSeq_mkslice aSeq_slice aSeq_sliceS aSeq_fld aSeq_fldv aSeq_idxA aSeq_idxP aSeq_idxS aSeq_extract aSeq_len aSeq_lenS aSeq_append lk_cons hk_cons hk_nil pickR_true pickR_false pickR_bool gOf_t gOf_f gOf_und aguard_some newR_true freeB_eq boxR_some boxN_true boxN_low withO_some ifR_eq cells_agg cells_int cells_bool cells_str cells_rows cells_own cells_ref cells_nil cells_ptr isCell_int isCell_bool isCell_str isCell_rows isCell_own isCell_ref isCell_nil Fwz ofVal_int ofVal_bool ofVal_str ofVal_slice G2z ofVal_agg ofCell_int ofCell_bool ofCell_str ofCell_slice F2z arun_mv arun_pick arun_alloc arun_box arun_mkfn arun_build arun_bslice arun_load storeR_ref arun_store arun_bin arun_un convR_int arun_conv nilR_ref nilR_prow arun_nilck mksR_int arun_mkslice fldR_ref fldR_prow arun_fld fldvR_agg arun_fldv idxR_rows idxR_own arun_idxA idxPR_ref idxPR_prow arun_idxP extR_tup arun_extract arun_len rd_rows rdO_some rd_own rd_nil lenSR_str arun_lenS appR_own appR_osl appR_nil arun_append lrefO_some loadAV_ref loadAV_prow mkAV_agg mkAV_one E6z pureR_some abin_add abin_sub abin_mul abin_quo abin_rem abin_and abin_or abin_xor abin_eql abin_neq abin_lss abin_leq abin_gtr abin_geq aun_neg aun_not fillR_nil fillR_cons fillO_some zcells_zero zcells_one setRange_nil Gxz athen_normal athen_ret athen_exit Hez ablock_ret ablock_exit fzO_some fz5_bool fz5_int fz5_str fz5_val fz5_agg fz5_tup fz5_rows fz5_ints fz5_own fz4_bool fz4_int fz4_str fz4_val fz4_agg fz4_tup fz4_rows fz4_ints fz4_own fz3_bool fz3_int fz3_str fz3_val fz3_agg fz3_tup fz3_rows fz3_ints fz3_own fz2_bool fz2_int fz2_str fz2_val fz2_agg fz2_tup fz2_rows fz2_ints fz2_own tupOf_one tupOf_two tupOf_three pass1L_ints passL_ints tkL_ints passO_some pass_own pass_rows pass_int pass_bool pass_str pass_agg pass_nil passL_nil passL_cons tk_rowsT tk_rowsF tk_int tk_bool tk_str tk_val tk_agg tk_tup tkL_nil tkL_cons List.zipIdx_cons List.zipIdx_nil List.map_cons List.map_nil Option.getD_some Option.getD_none Option.map_some Option.map_none Nat.zero_add Nat.add_zero Nat.zero_mul Nat.mul_zero Nat.mul_one Nat.one_mul Nat.zero_le Nat.le_refl Bool.not_true Bool.not_false Bool.and_true Bool.true_and Bool.and_self Bool.and_false Bool.false_and Bool.if_true_right Bool.if_false_right Bool.or_false Bool.or_true true_and and_true and_self decide_true decide_false IntWalk.i64_in List.all_cons List.all_nil List.length_cons List.length_nil List.length_map List.drop_zero List.drop_succ_cons List.take_succ_cons List.take_zero List.take_nil List.drop_nil Option.isNone_none Option.isNone_some List.set_cons_zero List.set_cons_succ List.getElem?_cons_zero List.getElem?_cons_succ List.nil_append List.cons_append eq_self
end Vw
namespace Vw
open Go
variable [Inhabited GlobT]


def posL:List Nat→Nat→Nat→Option Nat
 | [],_,_=>none
 | x::r,id,k=>if id=x then some k else posL r id (k+1)

theorem E0z:∀ {ids:List Nat} {id k j:Nat},posL ids id k=some j→∃ i,j=k+i∧ids[i]?=some id
 | [],_,_,_,h=>by simp [posL] at h
 | x::r,id,k,j,h=>by
  simp only [posL] at h
  split at h
  ·rename_i hx;injection h with h;exact ⟨0,by omega,by simp [hx]⟩
  ·obtain ⟨i,h1,h2⟩:=E0z h;exact ⟨i+1,by omega,by simpa using h2⟩

theorem Azz {ids:List Nat}{id i:Nat}(h:posL ids id 0=some i):ids[i]?=some id:=by
 obtain ⟨j,h1,h2⟩:=E0z h
 have:i=j:=by omega
 rw [this];exact h2

theorem Bvz:∀ {ids:List Nat} {id k:Nat},posL ids id k=none→id ∉ ids
 | [],_,_,_=>by simp
 | x::r,id,k,h=>by
  simp only [posL] at h
  split at h
  ·cases h
  ·rename_i hx;simp [hx,Bvz h]

theorem Bzz:∀ {ids:List Nat} {id i k:Nat},ids.Nodup→ids[i]?=some id→posL ids id k=some (k+i)
 | [],_,_,_,_,h=>by simp at h
 | x::r,id,i,k,hn,h=>by
  simp only [posL]
  rw [List.nodup_cons] at hn
  cases i with
  | zero=>simp at h;rw [if_pos h.symm];rfl
  | succ i =>
   have h':r[i]?=some id:=by simpa using h
   have hne:id≠x:=fun he=>hn.1 (he ▸ List.mem_of_getElem? h')
   rw [if_neg hne,Bzz hn.2 h']
   congr 1;omega

def AV.ren (ρ:Nat→Option Nat)(Z:Nat→Option (List AV))(b0:Bool)(φ:Bool→Option Bool):Nat→AV→AV
 | 0,_=>.unk
 | n+1,.own id k sz=>match ρ id with
  | some i=>.own i k sz
  | none=>match Z id with
   | some cs=>if cs.length=k*sz then .rows b0 (cs.map (AV.ren ρ Z b0 φ n)) k else .unk
   | none=>.unk
 | n+1,.ref id len off=>match ρ id with
  | some i=>.ref i len off
  | none=>match Z id with
   | some cs=>if cs.length=len then .prow b0 (cs.map (AV.ren ρ Z b0 φ n)) off else .unk
   | none=>.unk
 | n+1,.osl id len off k sz c=>match ρ id with
  | some i=>.osl i len off k sz c
  | none=>match Z id with
   | some cs=>if cs.length=len then .rows b0 (((cs.drop off).take (k*sz)).map (AV.ren ρ Z b0 φ n)) k else .unk
   | none=>.unk
 | n+1,.rows fr cs k=>match φ fr with
  | some fr'=>.rows fr' (cs.map (AV.ren ρ Z b0 φ n)) k
  | none=>.unk
 | n+1,.agg cs=>.agg (cs.map (AV.ren ρ Z b0 φ n))
 | n+1,.tup cs=>.tup (cs.map (AV.ren ρ Z b0 φ n))
 | n+1,.prow fr cs off=>match φ fr with
  | some fr'=>.prow fr' (cs.map (AV.ren ρ Z b0 φ n)) off
  | none=>.unk
 | _+1,.sref k id=>match ρ id with
  | some i=>.sref k i
  | none=>.unk
 | n+1,.clo fn az cs=>.clo fn (az.map (AV.ren ρ Z b0 φ n)) (cs.map (AV.ren ρ Z b0 φ n))
 | n+1,.ifc t c=>.ifc t (c.ren ρ Z b0 φ n)
 | _+1,.sp ids f=>if ids.all fun i=>(ρ i).isSome then .sp (ids.map fun i=>(ρ i).getD 0) f else .sp [] none
 | _+1,.val (.slice none 0 0)=>.rows b0 [] 0
 | _+1,a=>a

theorem ren_isSp {ρ:Nat→Option Nat}{Z:Nat→Option (List AV)}{b0:Bool}{φ:Bool→Option Bool}{n:Nat}:∀ a:AV,(a.ren ρ Z b0 φ (n+1)).isSp=a.isSp:=by
 intro a
 cases a with
 | sp ids f=>simp only [AV.ren];split<;>rfl
 | val v=>unfold AV.ren;split<;>first|rfl|simp_all [AV.isSp]
 | _=>simp only [AV.ren]<;>(repeat' split)<;>rfl
theorem Diz {ρ:Nat→Option Nat}{Z:Nat→Option (List AV)}{b0:Bool}{φ:Bool→Option Bool}{n:Nat}(cs:List AV):spL (cs.map (AV.ren ρ Z b0 φ (n+1)))=spL cs:=by
 unfold spL
 rw [List.any_map]
 congr 1
 funext a
 exact ren_isSp a
theorem SpOk.ren {C C':Ctx}{ρ:Nat→Option Nat}{Z:Nat→Option (List AV)}{b0:Bool}{φ:Bool→Option Bool}{n:Nat}(hw:C'.w=C.w)
  (hρ:∀ id i,ρ id=some i→C'.M i=C.M id∧∀ cs,C.H id=some cs→∃ cs',C'.H i=some cs'∧spL cs'=spL cs) {id i:Nat} {cs:List AV} (hs:SpOk C id cs) (hM:C'.M i=C.M id) :
  SpOk C' i (cs.map (AV.ren ρ Z b0 φ (n+1))):=by
 obtain ⟨g,is,f,o,he,h1,h2,h3,h4⟩:=hs
 subst he
 simp only [List.map_cons,List.map_nil,AV.ren]
 split
 ·rename_i hall
  rw [List.all_eq_true] at hall
  refine ⟨g,_,f,o,rfl,hM.trans h1,by rw [hw];exact h2,h3,fun f0 hf=>?_⟩
  obtain ⟨⟨gs,h5,h6⟩,h7⟩:=h4 f0 hf
  refine ⟨⟨gs,?_,h6⟩,fun j hj=>?_⟩
  ·rw [List.map_map]
   refine (Crz fun j hj=>?_).trans h5
   obtain ⟨k,hk⟩:=Option.isSome_iff_exists.1 (hall j hj)
   simp only [Function.comp,hk,Option.getD_some]
   exact (hρ j k hk).1
  ·obtain ⟨j',hj',rfl⟩:=List.mem_map.1 hj
   obtain ⟨k,hk⟩:=Option.isSome_iff_exists.1 (hall j' hj')
   obtain ⟨cs',h8,h9⟩:=h7 j' hj'
   obtain ⟨cs'',h10,h11⟩:=(hρ j' k hk).2 cs' h8
   rw [hk,Option.getD_some]
   exact ⟨cs'',h10,h11.trans h9⟩
 ·exact ⟨g,[],none,o,rfl,hM.trans h1,by rw [hw];exact h2,h3,fun f0 hf=>by cases hf⟩

theorem Den.ren {C C':Ctx}{ρ:Nat→Option Nat}{Z:Nat→Option (List AV)}{b0:Bool}{φ:Bool→Option Bool}(hk:HOK C)(hw:C'.w=C.w)
  (hρ:∀ id i,ρ id=some i→C'.M i=C.M id∧∀ cs,C.H id=some cs→∃ cs',C'.H i=some cs'∧cs'.length=cs.length∧spL cs'=spL cs)
  (hZ:∀ id cs,ρ id=none→Z id=some cs→C.H id=some cs∧∀ g,C.M id=some g→C'.ok b0 g)
  (hφ:∀ fr fr' g,φ fr=some fr'→g<C.w.heap.size→C.ok fr g→C'.ok fr' g) :
  ∀ (n:Nat) (a:AV) (v:Value),Den C a v→Den C' (a.ren ρ Z b0 φ n) v
 | 0,_,_,_=>by simp [AV.ren,Den]
 | n+1,a,v,h=>by
  have ih:=Den.ren hk hw hρ hZ hφ n
  cases a with
  | own id k sz =>
   simp only [Den] at h
   obtain ⟨h0,cs,hH,hle,hsp,hval⟩:=h
   simp only [AV.ren]
   cases hr:ρ id with
   | some i =>
    obtain ⟨hM,hHi⟩:=hρ id i hr
    obtain ⟨cs',hcs',hl,hsl⟩:=hHi cs hH
    simp only [Den]
    refine ⟨h0,cs',hcs',by omega,hsl.trans hsp,fun he=>?_⟩
    rcases hval (by omega) with ⟨e1,e2,e3⟩|⟨g,cap,cur,e,hg,hv,hn,hc,hh,hs⟩
    ·exact .inl ⟨e1,e2,hM.trans e3⟩
    ·exact .inr ⟨g,cap,cur,e,hM.trans hg,hv,hn,hc,by rw [hw];exact hh,hs⟩
   | none =>
    cases hz:Z id with
    | none=>simp [Den]
    | some cs1 =>
     obtain ⟨hz1,hz2⟩:=hZ id cs1 hr hz
     rw [hH] at hz1
     injection hz1 with hz1
     subst hz1
     simp only
     split
     ·rename_i hc
      simp only [Den]
      rcases hval hc with ⟨h1,h2,h3⟩|⟨g,cap,cur,e,hM,hv,hn,_,hg,_⟩
      ·rcases hk.has id cs hH hsp with ⟨_,rfl⟩|⟨g,_,_,a,_⟩
       ·exact .inl ⟨.inl h1,rfl,h2⟩
       ·rw [h3] at a;cases a
      ·rcases hk.has id cs hH hsp with ⟨a,_⟩|⟨g',cur',e',a,b,c⟩
       ·rw [hM] at a;cases a
       ·rw [hM] at a
        injection a with a
        subst a
        exact .inr ⟨g,0,cap,cur',e',(0,0),hv,by rw [hw];exact b,hz2 g hM,hn,by rw [List.drop_zero];exact A0z ih c⟩
     ·simp [Den]
  | ref id len off =>
   simp only [Den] at h
   obtain ⟨h0,cs,hH,hle,hsp,hval⟩:=h
   simp only [AV.ren]
   cases hr:ρ id with
   | some i =>
    obtain ⟨hM,hHi⟩:=hρ id i hr
    obtain ⟨cs',hcs',hl,hsl⟩:=hHi cs hH
    simp only [Den]
    refine ⟨h0,cs',hcs',by omega,hsl.trans hsp,fun he=>?_⟩
    obtain ⟨g,hg,hv⟩:=hval (by omega)
    exact ⟨g,hM.trans hg,hv⟩
   | none =>
    cases hz:Z id with
    | none=>simp [Den]
    | some cs1 =>
     obtain ⟨hz1,hz2⟩:=hZ id cs1 hr hz
     rw [hH] at hz1
     injection hz1 with hz1
     subst hz1
     simp only
     split
     ·rename_i hc
      obtain ⟨g,hM,hv⟩:=hval hc
      rcases hk.has id cs hH hsp with ⟨a,_⟩|⟨g',cur',e',a,b,c⟩
      ·rw [hM] at a;cases a
      ·rw [hM] at a
       injection a with a
       subst a
       simp only [Den]
       exact ⟨g,0,cur',e',(0,0),by rw [Nat.zero_add];exact hv,by rw [hw];exact b,hz2 g hM,by rw [List.drop_zero];exact A0z ih c⟩
     ·simp [Den]
  | osl id len off k sz c =>
   simp only [Den] at h
   obtain ⟨h0,cs,hH,hle,hof,hsp,hval⟩:=h
   simp only [AV.ren]
   cases hr:ρ id with
   | some i =>
    obtain ⟨hM,hHi⟩:=hρ id i hr
    obtain ⟨cs',hcs',hl,hsl⟩:=hHi cs hH
    simp only [Den]
    refine ⟨h0,cs',hcs',by omega,hof,hsl.trans hsp,fun he=>?_⟩
    rcases hval (by omega) with h|⟨g,o,cap,hg,hv⟩
    ·exact .inl h
    ·exact .inr ⟨g,o,cap,hM.trans hg,hv⟩
   | none =>
    cases hz:Z id with
    | none=>simp [Den]
    | some cs1 =>
     obtain ⟨hz1,hz2⟩:=hZ id cs1 hr hz
     rw [hH] at hz1
     injection hz1 with hz1
     subst hz1
     simp only
     split
     ·rename_i hc
      simp only [Den]
      rcases hval hc with ⟨h1,rfl,_⟩|⟨g,o,cap,hM,hv,hn,ho⟩
      ·exact .inl ⟨.inl h1,by simp,rfl⟩
      ·rcases hk.has id cs hH hsp with ⟨a,_⟩|⟨g',cur',e',a,b,c⟩
       ·rw [hM] at a;cases a
       ·rw [hM] at a
        injection a with a
        subst a
        refine .inr ⟨g,o,cap,cur',e',(0,0),hv,by rw [hw];exact b,hz2 g hM,Nat.le_trans hof.2 hn,?_⟩
        by_cases hk0:k=0
        ·subst hk0;simp [DenP]
        ·rw [ho (by have:=hof.2;omega)]
         exact A0z ih (Cxz (Boz c off) _)
     ·simp [Den]
  | rows fr cs k =>
   simp only [Den] at h
   simp only [AV.ren]
   cases hf:φ fr with
   | none=>simp [Den]
   | some fr' =>
    simp only [Den]
    rcases h with ⟨h1,rfl,h3⟩|⟨g,o,cap,cur,e,fz,h1,h2,h3,h4,h5⟩
    ·exact .inl ⟨h1,rfl,h3⟩
    ·exact .inr ⟨g,o,cap,cur,e,fz,h1,by rw [hw];exact h2,hφ fr fr' g hf (lt_of_heap h2) h3,h4,A0z ih h5⟩
  | agg cs =>
   simp only [AV.ren,Den] at *
   obtain ⟨vs,h1,h2,h3⟩:=h
   exact ⟨vs,h1,by simpa using h2,A0z ih h3⟩
  | tup cs =>
   simp only [AV.ren,Den] at *
   obtain ⟨vs,h1,h2,h3⟩:=h
   exact ⟨vs,h1,by simpa using h2,A0z ih h3⟩
  | prow fr cs off =>
   simp only [Den] at h
   simp only [AV.ren]
   cases hf:φ fr with
   | none=>simp [Den]
   | some fr' =>
    simp only [Den]
    obtain ⟨g,o,cur,e,fz,h1,h2,h3,h5⟩:=h
    exact ⟨g,o,cur,e,fz,h1,by rw [hw];exact h2,hφ fr fr' g hf (lt_of_heap h2) h3,A0z ih h5⟩
  | sref k0 id =>
   simp only [Den] at h
   obtain ⟨h0,cs,hH,hval⟩:=h
   simp only [AV.ren]
   cases hr:ρ id with
   | none=>simp [Den]
   | some i =>
    obtain ⟨hM,hHi⟩:=hρ id i hr
    obtain ⟨cs',hcs',_,hsl⟩:=hHi cs hH
    simp only [Den]
    refine ⟨h0,cs',hcs',fun hs=>?_⟩
    obtain ⟨g,hg,hv⟩:=hval (hsl.symm.trans hs)
    exact ⟨g,hM.trans hg,hv⟩
  | clo fn az cs =>
   simp only [AV.ren,Den] at *
   obtain ⟨us,vs,h1,h2,h3,h4,h5⟩:=h
   exact ⟨us,vs,h1,by simpa using h2,by simpa using h3,A0z ih h4,A0z ih h5⟩
  | ifc t c =>
   simp only [AV.ren,Den] at *
   obtain ⟨u,h1,h2⟩:=h
   exact ⟨u,h1,ih c u h2⟩
  | sp=>simp [Den] at h
  | unk=>simp [AV.ren,Den]
  | val u =>
   simp only [Den] at h
   subst h
   unfold AV.ren
   split<;>simp_all [Den,EmptyS.nil]
  | _=>simpa [AV.ren,Den] using h


def nthH (H:List (List AV)):Nat→Option (List AV):=fun i=>H[i]?

def Ctx.cl (w w':World)(M:Nat→Option Nat)(H:Nat→Option (List AV))(B:Nat→Prop):Ctx:=⟨w',M,H,fun g=>g<w.heap.size,B⟩

structure Back (w:World) (k:Nat) (M0 M':Nat→Option Nat) (w':World):Prop where
 os:w'.os=w.os
 tape:w'.tape=w.tape
 output:w'.output=w.output
 size:w.heap.size≤w'.heap.size
 block:∀ g,g<w.heap.size→(∀ i,i<k→M0 i≠some g)→w'.heap[g]?=w.heap[g]?
 pinned:∀ i,i<k→M' i=M0 i
 new:∀ i g,k≤i→M' i=some g→w.heap.size≤g
 psize:∀ i g,i<k→M0 i=some g→∀ cur e,w.heap[g]?=some (.cells cur e (0,0))→∃ cur' e',w'.heap[g]?=some (.cells cur' e' (0,0))∧cur'.size=cur.size
 pkind:∀ i g,i<k→M0 i=some g→isC w.heap[g]?=false→isC w'.heap[g]?=false

def BCall (P:Program)(f:Nat)(args:List AV)(H0:List (List AV))(Q:AV→List (List AV)→Prop):Prop :=
 ∀ (w:World) (M0:Nat→Option Nat) (B:Nat→Prop) (vs:List Value),(∀ g,B g→g<w.heap.size)→globOk w M0 B→vs.length=args.length→HOK (Ctx.cl w w M0 (nthH H0) B)→DenP (Ctx.cl w w M0 (nthH H0) B) args vs →
  Calls P f vs.toArray w fun e w'=>∃ res v H' M',Q res H'∧e=.returned v∧HOK (Ctx.cl w w' M' (nthH H') B)∧Den (Ctx.cl w w' M' (nthH H') B) res v∧Back w H0.length M0 M' w'

theorem BCall.mono {P:Program}{f:Nat}{args:List AV}{H0:List (List AV)}{Q Q':AV→List (List AV)→Prop}(h:BCall P f args H0 Q)(hq:∀ r H,Q r H→Q' r H):BCall P f args H0 Q' :=
 fun w M0 B vs hB hG hl hk hd=>(h w M0 B vs hB hG hl hk hd).mono fun _ _ ⟨res,v,H',M',a,b⟩=>⟨res,v,H',M',hq _ _ a,b⟩

theorem PCall.mono {P:Program}{f:Nat}{args:List AV}{Q Q':AV→Prop}(h:PCall P f args Q)(hq:∀ r,Q r→Q' r):PCall P f args Q' :=
 fun w B vs hB hG hl hd=>(h w B vs hB hG hl hd).mono fun _ _ ⟨res,v,a,b⟩=>⟨res,v,hq _ a,b⟩

theorem BCall.plain {P:Program}{f:Nat}{args:List AV}{Q:AV→List (List AV)→Prop}(h:BCall P f args [] Q):PCall P f args (fun r=>∃ r0 H',Q r0 H'∧r=r0.ren (fun _=>none) (nthH H') true some 5):=by
 intro w B vs hB hG hl hd
 have e0:nthH []=fun _=>none:=by funext i;simp [nthH]
 have e1:Ctx.cl w w (fun _=>none) (nthH []) B=Ctx.callee w w B:=by simp only [Ctx.cl,Ctx.callee,e0]
 refine (h w (fun _=>none) B vs hB hG hl (by rw [e1];exact ⟨(fun _ _ h=>by cases h),(fun _ _=>rfl),(fun _ _ _ h=>by cases h)⟩) (by rw [e1];exact hd)).mono fun e w' ⟨res,v,H',M',hq,he,hok,hden,hb⟩=>?_
 refine ⟨_,v,⟨res,H',hq,rfl⟩,he,?_,hb.os,hb.tape,hb.output,hb.size,fun g hg=>hb.block g hg (fun i hi=>absurd hi (Nat.not_lt_zero _))⟩
 refine Den.ren (C:=Ctx.cl w w' M' (nthH H') B) (C':=Ctx.callee w w' B) hok rfl (fun _ _ h=>by cases h) (fun id cs _ hz=>⟨hz,fun g hg=>?_⟩) (fun fr fr' g hf hg ho=>?_) 5 _ _ hden
 ·have hge:=hb.new id g (Nat.zero_le _) hg
  exact ⟨fun _ h=>(by cases h),fun hb'=>(by have:=hB g hb';omega),fun _ (ha:g<w.heap.size)=>(by omega)⟩
 ·injection hf with hf
  subst hf
  exact ⟨fun _ h=>(by cases h),ho.2.1,ho.2.2⟩


mutual
def AV.fixNil (L:List (Nat×Nat)):AV→AV×List (Nat×Nat)
 | .val (.slice none 0 0)=>match L with
  | (id,sz)::r=>(.own id 0 sz,r)
  | []=>(.val (.slice none 0 0),[])
 | .agg cs=>(.agg (fixNilL L cs).1,(fixNilL L cs).2)
 | .tup cs=>(.tup (fixNilL L cs).1,(fixNilL L cs).2)
 | a=>(a,L)
def fixNilL (L:List (Nat×Nat)):List AV→List AV×List (Nat×Nat)
 | []=>([],L)
 | c::r=>((c.fixNil L).1::(fixNilL (c.fixNil L).2 r).1,(fixNilL (c.fixNil L).2 r).2)
end

def orNil (H:Nat→Option (List AV))(ids:List Nat):Nat→Option (List AV):=fun id=>if id∈ids then some ((H id).getD []) else H id

mutual
theorem D1z:∀ (a:AV) (L:List (Nat×Nat)),∃ k,(a.fixNil L).2=L.drop k
 | .val v,L=>by
  unfold AV.fixNil
  split
  ·rename_i he
   cases L with
   | nil=>exact ⟨0,rfl⟩
   | cons p r=>exact ⟨1,rfl⟩
  ·rename_i he;cases he
  ·rename_i he;cases he
  ·exact ⟨0,rfl⟩
 | .agg cs,L=>B0z cs L
 | .tup cs,L=>B0z cs L
 | .unk,L=>⟨0,rfl⟩
 | .und,L=>⟨0,rfl⟩
 | .int ..,L=>⟨0,rfl⟩
 | .bool _,L=>⟨0,rfl⟩
 | .str _,L=>⟨0,rfl⟩
 | .rows ..,L=>⟨0,rfl⟩
 | .prow ..,L=>⟨0,rfl⟩
 | .ref ..,L=>⟨0,rfl⟩
 | .own ..,L=>⟨0,rfl⟩
 | .osl ..,L=>⟨0,rfl⟩
 | .sref ..,L=>⟨0,rfl⟩
 | .clo ..,L=>⟨0,rfl⟩
 | .ifc ..,L=>⟨0,rfl⟩
 | .sp ..,L=>⟨0,rfl⟩
theorem B0z:∀ (cs:List AV) (L:List (Nat×Nat)),∃ k,(fixNilL L cs).2=L.drop k
 | [],L=>⟨0,rfl⟩
 | c::r,L=>by
  obtain ⟨k,hk⟩:=D1z c L
  obtain ⟨j,hj⟩:=B0z r (c.fixNil L).2
  exact ⟨k+j,by simp only [fixNilL];rw [hj,hk,List.drop_drop]⟩
end

theorem B1z:∀ (cs:List AV) (L:List (Nat×Nat)),(fixNilL L cs).1.length=cs.length
 | [],L=>rfl
 | c::r,L=>by simp only [fixNilL,List.length_cons,B1z r]

theorem Dsz {C:Ctx}{id sz:Nat}(h1:C.H id=some [])(h2:C.M id=none):Den C (.own id 0 sz) (.slice none 0 0):=by
 unfold Den
 exact ⟨rfl,[],h1,by simp,rfl,fun _=>.inl ⟨rfl,rfl,h2⟩⟩

mutual
theorem Den.fixNil {C:Ctx}:∀ (a:AV) (L:List (Nat×Nat)) (v:Value),(∀ p∈L,C.H p.1=some []∧C.M p.1=none)→Den C a v→Den C (a.fixNil L).1 v
 | .val u,L,v,hL,h=>by
  unfold AV.fixNil
  split
  ·rename_i he
   injection he with he
   subst he
   cases L with
   | nil=>exact h
   | cons p r =>
    obtain ⟨h1,h2⟩:=hL p (by simp)
    simp only [Den] at h
    subst h
    exact Dsz h1 h2
  ·rename_i he;cases he
  ·rename_i he;cases he
  ·exact h
 | .agg cs,L,v,hL,h=>by
  simp only [AV.fixNil,Den] at *
  obtain ⟨vs,h1,h2,h3⟩:=h
  exact ⟨vs,h1,by rw [B1z];exact h2,DenP.fixNil cs L _ hL h3⟩
 | .tup cs,L,v,hL,h=>by
  simp only [AV.fixNil,Den] at *
  obtain ⟨vs,h1,h2,h3⟩:=h
  exact ⟨vs,h1,by rw [B1z];exact h2,DenP.fixNil cs L _ hL h3⟩
 | .unk,_,_,_,h=>h
 | .und,_,_,_,h=>h
 | .int ..,_,_,_,h=>h
 | .bool _,_,_,_,h=>h
 | .str _,_,_,_,h=>h
 | .rows ..,_,_,_,h=>h
 | .prow ..,_,_,_,h=>h
 | .ref ..,_,_,_,h=>h
 | .own ..,_,_,_,h=>h
 | .osl ..,_,_,_,h=>h
 | .sref ..,_,_,_,h=>h
 | .clo ..,_,_,_,h=>h
 | .ifc ..,_,_,_,h=>h
 | .sp ..,_,_,_,h=>h
theorem DenP.fixNil {C:Ctx}:∀ (cs:List AV) (L:List (Nat×Nat)) (vs:List Value),(∀ p∈L,C.H p.1=some []∧C.M p.1=none)→DenP C cs vs→DenP C (fixNilL L cs).1 vs
 | [],_,_,_,h=>h
 | _::_,_,[],_,h=>by simp [DenP] at h
 | c::r,L,v::vs,hL,h=>by
  simp only [fixNilL,DenP] at *
  obtain ⟨k,hk⟩:=D1z c L
  exact ⟨Den.fixNil c L v hL h.1,DenP.fixNil r _ vs (fun p hp=>hL p (by rw [hk] at hp;exact List.mem_of_mem_drop hp)) h.2⟩
end

def S.initB (args:List AV)(H0:List (List AV)):S:=mkS (args.zipIdx.map fun p=>(p.2,p.1)) (H0.zipIdx.map fun p=>(p.2,p.1))

theorem hk_zip:∀ (H0:List (List AV)) (k t:Nat),hk ((H0.zipIdx k).map fun p=>(p.2,p.1)) t=if k≤t then H0[t-k]? else none
 | [],k,t=>by simp [hk]
 | x::r,k,t=>by
  simp only [List.zipIdx_cons,List.map_cons,hk,hk_zip r (k+1) t]
  by_cases h:t=k
  ·subst h;simp
  ·rw [if_neg h]
   by_cases h1:k≤t
   ·rw [if_pos (by omega),if_pos h1]
    have:t-k=(t-(k+1))+1:=by omega
    rw [this];rfl
   ·rw [if_neg (by omega),if_neg h1]

theorem St.adopt {E:Env}{M:Nat→Option Nat}{s:S}{a:Act}{w:World}(h:St E M s a w):∀ (ids:List Nat),St E M ⟨s.σ,orNil s.H ids⟩ a w
 | []=>by
  have:orNil s.H []=s.H:=by funext id;simp [orNil]
  rw [this];exact h
 | id::r=>by
  have ih:=St.adopt h r
  by_cases hn:orNil s.H r id=none
  ·have e:orNil s.H (id::r)=upd (orNil s.H r) id (some []):=by
    funext j
    unfold orNil upd
    by_cases hj:j=id
    ·subst hj
     have:s.H j=none:=by
      unfold orNil at hn
      split at hn
      ·cases hn
      ·exact hn
     simp [this]
    ·by_cases hr:j∈r<;>simp [hj,hr]
   rw [e]
   have t:=Tr.adopt (E:=E) (M:=M) (H:=orNil s.H r) (w:=w) ih.hok ih.old hn
   exact ⟨ih.defers.keeps t.keeps,h.size,fun t'=>Den.keeps t.keeps (ih.slots t'),t.hok,t.old⟩
  ·have e:orNil s.H (id::r)=orNil s.H r:=by
    funext j
    unfold orNil at hn ⊢
    by_cases hj:j=id
    ·subst hj
     by_cases hr:j∈r
     ·simp [hr]
     ·rw [if_neg hr] at hn
      obtain ⟨cs,hc⟩:=Option.ne_none_iff_exists'.1 hn
      simp [hc]
    ·simp [hj]
   rw [e]
   exact ih

def posF (ids:List Nat)(id:Nat):Option Nat:=posL ids id 0

def AV.can (ids:List Nat)(H:Nat→Option (List AV))(a:AV):AV:=a.ren (posF ids) H true some 5

def retOk (pins outs:List Nat)(nils:List (Nat×Nat))(H:Nat→Option (List AV)):Prop :=
 (∀ id∈pins,(H id).isSome=true)∧∀ p∈nils,H p.1=none∧p.1∈outs

theorem bcall_ofC {P:Program}{f:Nat}{af:AFn}{args:List AV}{H0:List (List AV)}{Q:AV→List (List AV)→Prop}{pins:List Nat}{pin:Nat}(hf:lowFn P f=some af)(hn:args.length≤af.nt)(hpins:pins=List.range H0.length)(hpn:pin=H0.length)
  (h:awp P pin af.body (fun e s=>(e=.normal∨e=.ret)∧∃ (outs:List Nat) (nils:List (Nat×Nat)) (l:List AV),((pins++outs).Nodup∧∀ id∈outs,pin≤id)∧aresL s af.res=some l∧retOk pins outs nils s.H ∧
   Q (((tupOf l).fixNil nils).1.can (pins++outs) (orNil s.H outs)) ((pins++outs).map fun id=>((s.H id).getD []).map (AV.can (pins++outs) (orNil s.H outs)))) (S.initB args H0)):BCall P f args H0 Q:=by
 subst hpins hpn
 intro w M0 B vs hB hG hlen hk0 hd
 unfold lowFn at hf
 split at hf
 ·rename_i fn hfn
  split at hf
  ·rename_i c hb
   split at hf
   ·rename_i b r hlb hlr
    split at hf
    ·rename_i hps
     simp only [Option.some.injEq] at hf
     subst hf
     simp only at hn h
     refine (callsIn_wide (n:=3)).1 (callsIn_of_wp_marks hfn hb trivial ?_)
     let E:Env:=⟨w,fun g=>g<w.heap.size,B,M0,H0.length,⟨fn.ntmps,[],none⟩,fun _=>undef,fun _=>none,0,fun _ h=>h,hB,hG⟩
     have hH:(S.initB args H0).H=nthH H0:=by
      funext i
      show hk _ i=_
      rw [hk_zip]
      simp [nthH]
     have hC:E.C M0 (S.initB args H0).H w=Ctx.cl w w M0 (nthH H0) B:=by rw [hH];rfl
     have hst:St E M0 (S.initB args H0) { tmps:=vs.toArray++Array.replicate (fn.ntmps-vs.toArray.size) undef,defers:=[] } w:=by
      refine ⟨⟨⟨[],List.nodup_nil,rfl,fun _ h=>by cases h⟩,(fun _ _ h=>by cases h),(fun _ h=>by cases h),Nat.zero_le _⟩,by simp [E];omega,fun t=>?_,by rw [hC];exact hk0,⟨rfl,rfl,rfl,Nat.le_refl _,fun _ _ _=>rfl,fun _ _=>rfl,fun id g hid hg=>?_,(fun _ _ _ _ cur e h=>⟨cur,e,h,rfl⟩),fun _ _ _ _ h=>h⟩⟩
      ·rw [hC]
       show Den _ (lk _ t) _
       rw [lk_zip]
       simp only [Nat.zero_le,if_true,Nat.sub_zero]
       cases ha:args[t]? with
       | none=>simp [Den]
       | some x =>
        obtain ⟨v,hv,hdv⟩:=(Axz.1 hd) t x ha
        have:(vs.toArray++Array.replicate (fn.ntmps-vs.toArray.size) undef).getD t undef=v:=by
         have ht:t<vs.length:=(List.getElem?_eq_some_iff.1 hv).1
         rw [Array.getD_eq_getD_getElem?,Array.getElem?_append_left (by simpa using ht)]
         simp [hv]
        rw [this]
        exact hdv
      ·have:nthH H0 id=none:=by have:E.pin=H0.length:=rfl;simp [nthH];omega
       have:=hk0.no id this
       rw [show M0 id=none from this] at hg
       cases hg
     refine Go.wpIn_mono (h E _ _ w c rfl hlb hst) fun e a' w1 ⟨M',s',h1,he,outs,nils,l,⟨hnd,hout⟩,hl,⟨hpin,hnil⟩,hq⟩=>?_
     have hall:∀ w',St E M' s' { a' with defers:=[] } w'→∃ v,(results fn a'.tmps).run P w'=.ok v w'∧∃ res u H' M',Q res H'∧Ending.returned v=.returned u∧HOK (Ctx.cl w w' M' (nthH H') B)∧Den (Ctx.cl w w' M' (nthH H') B) res u∧Back w H0.length M0 M' w':=fun w' h1=>by
      obtain ⟨v,hrun,hden⟩:=Eyz h1 hlr hl
      have hold:=h1.old
      have h2:=St.adopt h1 outs
      have hH2:∀ id,id∈outs→orNil s'.H outs id=some ((s'.H id).getD []):=fun id hi=>by simp [orNil,hi]
      have hH3:∀ id,id∈List.range H0.length++outs→orNil s'.H outs id=some ((s'.H id).getD []):=fun id hi=>by
       rcases List.mem_append.1 hi with hi|hi
       ·obtain ⟨cs,hc⟩:=Option.isSome_iff_exists.1 (hpin id hi)
        unfold orNil
        split
        ·rfl
        ·rw [hc];rfl
       ·exact hH2 id hi
      have hden2:Den (E.C M' (orNil s'.H outs) w') ((tupOf l).fixNil nils).1 v:=by
       refine Den.fixNil _ nils v (fun p hp=>?_) ?_
       ·obtain ⟨hp1,hp2⟩:=hnil p hp
        refine ⟨?_,h1.hok.no _ hp1⟩
        show orNil s'.H outs p.1=_
        rw [hH2 _ hp2,hp1];rfl
       ·have:∀ (ids:List Nat),Den (E.C M' (orNil s'.H ids) w') (tupOf l) v:=by
         intro ids
         induction ids with
         | nil =>
          have:orNil s'.H []=s'.H:=by funext id;simp [orNil]
          rw [this];exact hden
         | cons id r ih =>
          have ihs:=St.adopt h1 r
          by_cases hn:orNil s'.H r id=none
          ·have e:orNil s'.H (id::r)=upd (orNil s'.H r) id (some []):=by
            funext j
            unfold orNil upd
            by_cases hj:j=id
            ·subst hj
             have:s'.H j=none:=by
              unfold orNil at hn
              split at hn
              ·cases hn
              ·exact hn
             simp [this]
            ·by_cases hr:j∈r<;>simp [hj,hr]
           rw [e]
           exact Den.keeps (Tr.adopt (E:=E) (M:=M') (H:=orNil s'.H r) (w:=w') ihs.hok ihs.old hn).keeps ih
          ·have e:orNil s'.H (id::r)=orNil s'.H r:=by
            funext j
            unfold orNil at hn ⊢
            by_cases hj:j=id
            ·subst hj
             by_cases hr:j∈r
             ·simp [hr]
             ·rw [if_neg hr] at hn
              obtain ⟨cs,hc⟩:=Option.ne_none_iff_exists'.1 hn
              simp [hc]
            ·simp [hj]
           rw [e]
           exact ih
        exact this outs
      let ids:=List.range H0.length++outs
      let Mo:Nat→Option Nat:=fun i=>match ids[i]? with|some id=>M' id|none=>none
      let Ho:List (List AV):=ids.map fun id=>((s'.H id).getD []).map (AV.can ids (orNil s'.H outs))
      have hlow:∀ i,i<H0.length→ids[i]?=some i:=fun i hi=>by
       show (List.range H0.length++outs)[i]?=_
       rw [List.getElem?_append_left (by simpa using hi),List.getElem?_range hi]
      have hMo:∀ i,i<H0.length→Mo i=M0 i:=fun i hi=>by
       show (match ids[i]? with|some id=>M' id|none=>none)=_
       rw [hlow i hi];exact hold.pinned i hi
      have hge:∀ i id,H0.length≤i→ids[i]?=some id→H0.length≤id:=fun i id hi h=>by
       have h':(List.range H0.length++outs)[i]?=some id:=h
       rw [List.getElem?_append_right (by simpa using hi)] at h'
       exact hout id (List.mem_of_getElem? h')
      have hren:∀ a u,Den (E.C M' (orNil s'.H outs) w') a u→Den (Ctx.cl w w' Mo (nthH Ho) B) (a.can ids (orNil s'.H outs)) u:=by
       intro a u hau
       have hMo':∀ id i,posL ids id 0=some i→Mo i=M' id:=fun id i hp=>by
        show (match ids[i]? with|some id=>M' id|none=>none)=_
        rw [Azz hp]
       refine Den.ren (C:=E.C M' (orNil s'.H outs) w') (C':=Ctx.cl w w' Mo (nthH Ho) B) h2.hok rfl (fun id i hp=>⟨hMo' id i hp,fun cs hcs=>?_⟩) (fun id cs hp hz=>⟨hz,fun g hg=>?_⟩) (fun fr fr' g hf hg ho=>?_) 5 a u hau
       ·have hi:=Azz hp
        have hc:orNil s'.H outs id=some ((s'.H id).getD []):=hH3 id (List.mem_of_getElem? hi)
        have hcs':orNil s'.H outs id=some cs:=hcs
        rw [hc] at hcs'
        injection hcs' with hcs'
        refine ⟨((s'.H id).getD []).map (AV.can ids (orNil s'.H outs)),?_,by rw [List.length_map,hcs'],by rw [hcs'];exact Diz _⟩
        show Ho[i]?=_
        simp [Ho,List.getElem?_map,hi]
       ·have hnot:id ∉ ids:=Bvz hp
        have hid:H0.length≤id:=by
         rcases Nat.lt_or_ge id H0.length with hlt|hge
         ·exact absurd (List.mem_append_left outs (List.mem_range.2 hlt)) hnot
         ·exact hge
        have hgnew:w.heap.size≤g:=hold.new id g hid hg
        refine ⟨fun i hi=>?_,fun hb=>?_,fun _ (ha:g<w.heap.size)=>by omega⟩
        ·have hi':(match ids[i]? with|some id=>M' id|none=>none)=some g:=hi
         cases hx:ids[i]? with
         | none=>rw [hx] at hi';cases hi'
         | some id' =>
          rw [hx] at hi'
          have:id'=id:=h1.hok.inj id' id g hi' hg
          subst this
          exact hnot (List.mem_of_getElem? hx)
        ·have:=hB g hb;omega
       ·injection hf with hf
        subst hf
        refine ⟨fun i hi=>?_,ho.2.1,ho.2.2⟩
        have hi':(match ids[i]? with|some id=>M' id|none=>none)=some g:=hi
        cases hx:ids[i]? with
        | none=>rw [hx] at hi';cases hi'
        | some id'=>rw [hx] at hi';exact ho.1 id' hi'
      have hokf:HOK (Ctx.cl w w' Mo (nthH Ho) B):=by
       refine ⟨fun i cs hc=>?_,fun i hc=>?_,fun i j g hi hj=>?_⟩
       ·have hc':Ho[i]?=some cs:=hc
        simp only [Ho,List.getElem?_map,Option.map_eq_some_iff] at hc'
        obtain ⟨id,hid,rfl⟩:=hc'
        have hMi:Mo i=M' id:=by
         show (match ids[i]? with|some id=>M' id|none=>none)=_
         rw [hid]
        rcases h2.hok.hasX id _ (hH3 id (List.mem_of_getElem? hid)) with (⟨a,b⟩|⟨g,cur,e',a,b,c⟩)|hsp
        ·exact .inl (.inl ⟨hMi.trans a,by rw [b];rfl⟩)
        ·exact .inl (.inr ⟨g,cur,e',hMi.trans a,b,A0z hren c⟩)
        ·refine .inr (SpOk.ren (C:=E.C M' (orNil s'.H outs) w') (C':=Ctx.cl w w' Mo (nthH Ho) B) rfl (fun id i hp=>⟨?_,fun cs hcs=>?_⟩) hsp hMi)
         ·have hi:=Azz hp
          show (match ids[i]? with|some id=>M' id|none=>none)=_
          rw [hi]
          rfl
         ·have hi:=Azz hp
          have hc:orNil s'.H outs id=some ((s'.H id).getD []):=hH3 id (List.mem_of_getElem? hi)
          have hcs':orNil s'.H outs id=some cs:=hcs
          rw [hc] at hcs'
          injection hcs' with hcs'
          refine ⟨((s'.H id).getD []).map (AV.can ids (orNil s'.H outs)),?_,by rw [hcs'];exact Diz _⟩
          show Ho[i]?=_
          simp [Ho,List.getElem?_map,hi]
       ·have hc':Ho[i]?=none:=hc
        simp only [Ho,List.getElem?_map,Option.map_eq_none_iff] at hc'
        show (match ids[i]? with|some id=>M' id|none=>none)=none
        rw [hc']
       ·have hi':(match ids[i]? with|some id=>M' id|none=>none)=some g:=hi
        have hj':(match ids[j]? with|some id=>M' id|none=>none)=some g:=hj
        cases hx:ids[i]? with
        | none=>rw [hx] at hi';cases hi'
        | some x =>
         cases hy:ids[j]? with
         | none=>rw [hy] at hj';cases hj'
         | some y =>
          rw [hx] at hi'
          rw [hy] at hj'
          have hxy:x=y:=h1.hok.inj x y g hi' hj'
          subst hxy
          have e1:=Bzz (k:=0) hnd hx
          have e2:=Bzz (k:=0) hnd hy
          rw [e1] at e2
          injection e2 with e2
          omega
      have hback:Back w H0.length M0 Mo w':=by
       refine ⟨hold.os,hold.tape,hold.output,hold.size,hold.block,hMo,fun i g hi hg=>?_,(fun i g hi hg=>hold.psize i g hi hg),fun i g hi hg=>hold.pkind i g hi hg⟩
       have hg':(match ids[i]? with|some id=>M' id|none=>none)=some g:=hg
       cases hx:ids[i]? with
       | none=>rw [hx] at hg';cases hg'
       | some id=>rw [hx] at hg';exact hold.new id g (hge i id hi hx) hg'
      exact ⟨v,hrun,_,v,Ho,Mo,hq,rfl,hokf,hren _ _ hden2,hback⟩
     obtain ⟨Ds,hd1,hd2,_⟩:=h1.defers.defs
     have hfin:=St.leaves (P:=P) (F:=Fence.wide) (n:=3) (fn:=fn) (R:=fun e w'=>∃ res v H' M',Q res H'∧e=.returned v∧HOK (Ctx.cl w w' M' (nthH H') B)∧Den (Ctx.cl w w' M' (nthH H') B) res v∧Back w H0.length M0 M' w') rfl Ds a' w1 h1 hd1 hd2 hall
     rcases he with rfl|rfl
     ·exact hfin
     ·exact hfin
    ·cases hf
   ·cases hf
  ·cases hf
 ·cases hf
theorem lowFn_np {P:Program}{f:Nat}{af:AFn}(hf:lowFn P f=some af):af.np≤af.nt:=by
 unfold lowFn at hf
 split at hf
 ·split at hf
  ·split at hf
   ·split at hf
    ·rename_i hps
     simp only [Option.some.injEq] at hf
     subst hf
     exact hps
    ·cases hf
   ·cases hf
  ·cases hf
 ·cases hf
theorem A5z {P:Program}{f:Nat}{af:AFn}{args:List AV}{H0:List (List AV)}{Q:AV→List (List AV)→Prop}{pins:List Nat}{pin:Nat}(hf:lowFn P f=some af)(hn:args.length=af.np)(hpins:pins=List.range H0.length)(hpn:pin=H0.length)
  (h:awp P pin af.body (fun e s=>(e=.normal∨e=.ret)∧∃ (outs:List Nat) (nils:List (Nat×Nat)) (l:List AV),((pins++outs).Nodup∧∀ id∈outs,pin≤id)∧aresL s af.res=some l∧retOk pins outs nils s.H ∧
   Q (((tupOf l).fixNil nils).1.can (pins++outs) (orNil s.H outs)) ((pins++outs).map fun id=>((s.H id).getD []).map (AV.can (pins++outs) (orNil s.H outs)))) (S.initB args H0)):BCall P f args H0 Q :=
 bcall_ofC hf (hn ▸ lowFn_np hf) hpins hpn h
end Vw
namespace Vw
open Go
variable [Inhabited GlobT]

def zF (sh:Bool)(H:Nat→Option (List AV))(id:Nat):Option (List AV):=if sh then none else H id
def noH (_:Nat):Option (List AV):=none
def phiD (_:Bool):Option Bool:=some false
def phiU (sh b:Bool):Option Bool:=if b then some true else if sh then some false else none
def idxF (ids:List Nat)(i:Nat):Option Nat:=ids[i]?

def AV.down (ids:List Nat)(sh:Bool)(H:Nat→Option (List AV))(a:AV):AV :=
 a.ren (posF ids) (zF sh H) false phiD 5

def AV.up (ids:List Nat)(sh:Bool)(a:AV):AV :=
 a.ren (idxF ids) noH true (phiU sh) 5

def updL (H:Nat→Option (List AV))(us:List (Nat×List AV)):Nat→Option (List AV):=fun id=>match hk us id with
 | some cs=>some cs
 | none=>H id

def S.putL (s:S)(dst:Option Nat)(v:AV)(us:List (Nat×List AV)):S :=
 ⟨match dst with|some d=>upd s.σ d v|none=>s.σ,updL s.H us⟩

def news:Option Nat→Nat→List Nat
 | some d,k=>(List.range k).map (16*d + ·)
 | none,_=>[]

theorem Eqz {dst:Option Nat}{k id:Nat}(h:id∈news dst k):∃ d j,dst=some d∧j<k∧id=16*d+j:=by
 cases dst with
 | none=>simp [news] at h
 | some d =>
  simp only [news,List.mem_map,List.mem_range] at h
  obtain ⟨j,h1,h2⟩:=h
  exact ⟨d,j,rfl,h1,h2.symm⟩

theorem news_nodup (dst:Option Nat)(k:Nat):(news dst k).Nodup:=by
 cases dst with
 | none=>simp [news]
 | some d =>
  simp only [news]
  refine List.Pairwise.map _ (fun a b hab he=>hab ?_) List.nodup_range
  have:16*d+a=16*d+b:=he
  omega

theorem news_len (dst:Option Nat)(k:Nat):(news dst k).length≤k:=by
 cases dst<;>simp [news]

def lenOk:List (List AV)→List (List AV)→Prop
 | [],_=>True
 | _::_,[]=>False
 | a::r,b::s=>a.length≤b.length∧lenOk r s

theorem Edz:∀ {H0 H':List (List AV)},lenOk H0 H'→∀ (i:Nat) (cs:List AV),H0[i]?=some cs→∃ cs':List AV,H'[i]?=some cs'∧cs.length≤cs'.length
 | [],_,_,i,cs,h=>by simp at h
 | a::r,[],hl,_,_,_=>by simp [lenOk] at hl
 | a::r,b::s,hl,i,cs,h=>by
  cases i with
  | zero=>simp at h;subst h;exact ⟨b,by simp,hl.1⟩
  | succ i=>simpa using Edz hl.2 i cs (by simpa using h)

theorem Dnz:∀ (ids:List Nat) (cs:List (List AV)) (id k:Nat),ids.length≤cs.length →
  hk (ids.zip cs) id=(posL ids id k).bind fun j=>cs[j-k]?
 | [],cs,id,k,_=>by simp [hk,posL]
 | x::r,[],id,k,h=>by simp at h
 | x::r,c::s,id,k,h=>by
  simp only [List.length_cons] at h
  simp only [List.zip_cons_cons,hk,posL]
  by_cases hx:id=x
  ·simp [hx]
  ·rw [if_neg hx,if_neg hx,Dnz r s id (k+1) (by omega)]
   cases hp:posL r id (k+1) with
   | none=>rfl
   | some j =>
    obtain ⟨i,h1,_⟩:=E0z hp
    simp only [Option.bind_some]
    have:j-k=(j-(k+1))+1:=by omega
    rw [this,List.getElem?_cons_succ]

section
variable {P:Program} {s:S}

theorem Fvz {pin f:Nat}{cargs:List AV}{H0:List (List AV)}{Q:AV→List (List AV)→Prop}{avs:List AV}{dst:Option Nat}{K:S→Prop}(ids:List Nat)(sh:Bool)
  {F:Nat→Option (List AV)} (hF:∀ id cs,F id=some cs→s.H id=some cs) (φ:AV→AV) (hφ:∀ x,φ x=x.down ids sh F∨∃ v,x=.val v∧φ x=.val v)
  (hc:BCall P f cargs H0 Q) (hargs:avs.map φ=cargs) (hH0:ids.map (fun id=>(s.H id).map (List.map (AV.down ids sh F)))=H0.map some) (hids:ids.Nodup)
  (hK:∀ res H',Q res H'→∃ N:List Nat,lenOk H0 H'∧(N.length≤H'.length-H0.length∧N.Nodup∧∀ id∈N,s.H id=none∧pin≤id) ∧
   K (s.putL dst (res.up (ids++N) sh) ((ids++N).zip (H'.map (List.map (AV.up (ids++N) sh)))))) :
  callOwedA P pin f avs dst K s:=by
 intro E M a w vs hp hdst hst hlv hdv
 have hok:=hst.hok
 have hold:=hst.old
 have hlen:ids.length=H0.length:=by have:=congrArg List.length hH0;simpa using this
 have hobj:∀ (i:Nat) (cs:List AV),H0[i]?=some cs→∃ id cs0,ids[i]?=some id∧s.H id=some cs0∧cs=cs0.map (AV.down ids sh F):=by
  intro i cs hi
  have:=congrArg (fun l=>l[i]?) hH0
  simp only [List.getElem?_map,hi,Option.map_some] at this
  cases hx:ids[i]? with
  | none=>simp [hx] at this
  | some id =>
   simp only [hx,Option.map_some,Option.some.injEq] at this
   cases hy:s.H id with
   | none=>simp [hy] at this
   | some cs0 =>
    simp only [hy,Option.map_some,Option.some.injEq] at this
    exact ⟨id,cs0,rfl,hy,this.symm⟩
 have hobj':∀ (i id:Nat),ids[i]?=some id→∃ cs0,s.H id=some cs0∧H0[i]?=some (cs0.map (AV.down ids sh F)):=by
  intro i id hi
  have hlt:i<H0.length:=by rw [← hlen];exact (List.getElem?_eq_some_iff.1 hi).1
  obtain ⟨id',cs0,h1,h2,h3⟩:=hobj i _ (List.getElem?_eq_getElem hlt)
  rw [hi] at h1
  injection h1 with h1
  subst h1
  exact ⟨cs0,h2,by rw [List.getElem?_eq_getElem hlt,h3]⟩
 let M0:Nat→Option Nat:=fun i=>match ids[i]? with|some id=>M id|none=>none
 let Bc:Nat→Prop:=fun g=>if sh then E.B g∨∃ id,id ∉ ids∧M id=some g else False
 have hM0:∀ i g,M0 i=some g→∃ id,ids[i]?=some id∧M id=some g:=by
  intro i g hi
  have hi':(match ids[i]? with|some id=>M id|none=>none)=some g:=hi
  cases hx:ids[i]? with
  | none=>rw [hx] at hi';cases hi'
  | some id=>rw [hx] at hi';exact ⟨id,rfl,hi'⟩
 have hM0':∀ i id,ids[i]?=some id→M0 i=M id:=by
  intro i id hi
  show (match ids[i]? with|some id=>M id|none=>none)=_
  rw [hi]
 have hBc:∀ g,Bc g→g<w.heap.size:=by
  intro g hg
  cases sh with
  | false=>exact absurd hg (by simp [Bc])
  | true =>
   simp only [Bc,if_true] at hg
   rcases hg with hg|⟨id,_,hid⟩
   ·exact Nat.lt_of_lt_of_le (E.hB g hg) hold.size
   ·exact hok.lt hid
 have hdn:∀ x u,Den (E.C M s.H w) x u→Den (Ctx.cl w w M0 (nthH H0) Bc) (x.down ids sh F) u:=by
  intro x u hxu
  refine Den.ren (C:=E.C M s.H w) (C':=Ctx.cl w w M0 (nthH H0) Bc) hok rfl (fun id i hi=>?_) (fun id cs hi hz=>?_) (fun fr fr' g hf hlt ho=>?_) 5 x u hxu
  ·have hi':=Azz hi
   refine ⟨hM0' i id hi',fun cs hcs=>?_⟩
   obtain ⟨cs0,h1,h2⟩:=hobj' i id hi'
   have:some cs=some cs0:=hcs.symm.trans h1
   injection this with this
   subst this
   exact ⟨_,h2,by simp,Diz _⟩
  ·cases sh with
   | true=>simp [zF] at hz
   | false =>
    simp only [zF,Bool.false_eq_true,if_false] at hz
    refine ⟨hF _ _ hz,fun g hg=>⟨fun i hi1=>?_,fun hb=>?_,fun h=>by cases h⟩⟩
    ·obtain ⟨id',h1,h2⟩:=hM0 i g hi1
     have:id'=id:=hok.inj id' id g h2 hg
     subst this
     exact Bvz hi (List.mem_of_getElem? h1)
    ·have hb':Bc g:=hb
     simp [Bc] at hb'
  ·injection hf with hf
   subst hf
   refine ⟨fun i hi=>?_,fun hb=>?_,fun h=>by cases h⟩
   ·obtain ⟨id',h1,h2⟩:=hM0 i g hi
    exact ho.1 id' h2
   ·have hb':Bc g:=hb
    cases sh with
    | false=>simp [Bc] at hb'
    | true =>
     simp only [Bc,if_true] at hb'
     rcases hb' with hb|⟨id,_,hid⟩
     ·exact ho.2.1 hb
     ·exact ho.1 id hid
 have hk0:HOK (Ctx.cl w w M0 (nthH H0) Bc):=by
  refine ⟨fun i cs hc=>?_,fun i hc=>?_,fun i j g hi hj=>?_⟩
  ·obtain ⟨id,cs0,h1,h2,rfl⟩:=hobj i cs hc
   rcases hok.hasX id cs0 h2 with (⟨a,b⟩|⟨g,cur,e,a,b,c⟩)|hsp
   ·exact .inl (.inl ⟨(hM0' i id h1).trans a,by rw [b];rfl⟩)
   ·exact .inl (.inr ⟨g,cur,e,(hM0' i id h1).trans a,b,A0z hdn c⟩)
   ·refine .inr (SpOk.ren (C:=E.C M s.H w) (C':=Ctx.cl w w M0 (nthH H0) Bc) rfl (fun id i hi=>?_) hsp (hM0' i id h1))
    have hi':=Azz hi
    refine ⟨hM0' i id hi',fun cs hcs=>?_⟩
    obtain ⟨cs0,h1,h2⟩:=hobj' i id hi'
    have:some cs=some cs0:=hcs.symm.trans h1
    injection this with this
    subst this
    exact ⟨_,h2,Diz _⟩
  ·have hc':H0[i]?=none:=hc
   show (match ids[i]? with|some id=>M id|none=>none)=none
   have:ids[i]?=none:=by
    rw [List.getElem?_eq_none_iff] at hc' ⊢
    omega
   rw [this]
  ·obtain ⟨x,h1,h2⟩:=hM0 i g hi
   obtain ⟨y,h3,h4⟩:=hM0 j g hj
   have:x=y:=hok.inj x y g h2 h4
   subst this
   have e1:=Bzz (k:=0) hids h1
   have e2:=Bzz (k:=0) hids h3
   rw [e1] at e2
   injection e2 with e2
   omega
 have hd:DenP (Ctx.cl w w M0 (nthH H0) Bc) cargs vs:=by
  rw [← hargs]
  refine A0z (C:=E.C M s.H w) (f:=φ) (fun x u h1=>?_) hdv
  rcases hφ x with e|⟨v,e1,e2⟩
  ·rw [e];exact hdn _ _ h1
  ·rw [e1] at h1
   rw [e2]
   simpa [Den] using h1
 have hGc:globOk w M0 Bc:=fun p hp=>by
  obtain ⟨h1,h2,h3⟩:=hold.glob p hp
  refine ⟨h1,fun i hi=>?_,fun hb=>?_⟩
  ·obtain ⟨id,_,hid⟩:=hM0 i _ hi
   exact h2 id hid
  ·cases sh with
   | false=>simp [Bc] at hb
   | true =>
    simp only [Bc,if_true] at hb
    rcases hb with hb|⟨id,_,hid⟩
    ·exact h3 hb
    ·exact h2 id hid
 refine (hc w M0 Bc vs hBc hGc (by rw [← hargs,List.length_map];exact hlv) hk0 hd).mono fun e w' ⟨res,v,H',M',hq,he,hok',hden,hb⟩=>?_
 obtain ⟨N,hl,⟨hNl0,hNn,hfresh⟩,hkk⟩:=hK res H' hq
 have hNl:(ids++N).length≤H'.length:=by
  have h1:=hNl0
  have h2:H0.length≤H'.length:=by
   rcases Nat.lt_or_ge H'.length H0.length with h|h
   ·obtain ⟨cs',h3,_⟩:=Edz hl H'.length _ (List.getElem?_eq_getElem h)
    rw [List.getElem?_eq_none (Nat.le_refl _)] at h3
    cases h3
   ·exact h
  simp only [List.length_append]
  omega
 have hnd:(ids++N).Nodup:=by
  rw [List.nodup_append]
  refine ⟨hids,hNn,fun x hx y hy hxy=>?_⟩
  subst hxy
  obtain ⟨i,hi⟩:=List.getElem?_of_mem hx
  obtain ⟨cs0,h1,_⟩:=hobj' i x hi
  rw [(hfresh x hy).1] at h1
  cases h1
 have hsplit:∀ (i id:Nat),(ids++N)[i]?=some id→(i<H0.length∧ids[i]?=some id)∨(H0.length≤i∧id∈N):=by
  intro i id hi
  rcases Nat.lt_or_ge i ids.length with h|h
  ·rw [List.getElem?_append_left h] at hi
   exact .inl ⟨by omega,hi⟩
  ·rw [List.getElem?_append_right h] at hi
   exact .inr ⟨by omega,List.mem_of_getElem? hi⟩
 let M'':Nat→Option Nat:=fun id=>match posL (ids++N) id 0 with|some i=>M' i|none=>M id
 have hMs:∀ (id i:Nat),(ids++N)[i]?=some id→M'' id=M' i:=by
  intro id i hi
  have:=Bzz (k:=0) hnd hi
  show (match posL (ids++N) id 0 with|some i=>M' i|none=>M id)=_
  rw [this];simp
 have hMn:∀ id,posL (ids++N) id 0=none→M'' id=M id:=by
  intro id hi
  show (match posL (ids++N) id 0 with|some i=>M' i|none=>M id)=_
  rw [hi]
 let us:=(ids++N).zip (H'.map (List.map (AV.up (ids++N) sh)))
 have hHs:∀ (id i:Nat),(ids++N)[i]?=some id→∃ cs:List AV,H'[i]?=some cs∧updL s.H us id=some (cs.map (AV.up (ids++N) sh)):=by
  intro id i hi
  have hp:=Bzz (k:=0) hnd hi
  have hlt:i<H'.length:=Nat.lt_of_lt_of_le (List.getElem?_eq_some_iff.1 hi).1 hNl
  refine ⟨_,List.getElem?_eq_getElem hlt,?_⟩
  show (match hk us id with|some cs=>some cs|none=>s.H id)=_
  rw [Dnz _ _ id 0 (by simpa using hNl),hp]
  simp [hlt]
 have hHn:∀ id,posL (ids++N) id 0=none→updL s.H us id=s.H id:=by
  intro id hi
  show (match hk us id with|some cs=>some cs|none=>s.H id)=_
  rw [Dnz _ _ id 0 (by simpa using hNl),hi]
  rfl
 have hpinM:∀ (i id:Nat),ids[i]?=some id→M' i=M id:=fun i id hi=>by
  have hlt:i<H0.length:=by rw [← hlen];exact (List.getElem?_eq_some_iff.1 hi).1
  exact (hb.pinned i hlt).trans (hM0' i id hi)
 have hsame:∀ g,g<w.heap.size→(∀ id,id∈ids→M id≠some g)→w'.heap[g]?=w.heap[g]?:=by
  intro g hg hn
  refine hb.block g hg fun i hi hM=>?_
  obtain ⟨id,h1,h2⟩:=hM0 i g hM
  exact hn id (List.mem_of_getElem? h1) h2
 have hsz:∀ (g:Nat) (cur:Array Value) (e:TypeId),w.heap[g]?=some (.cells cur e (0,0))→∃ (cur':Array Value) (e':TypeId),w'.heap[g]?=some (.cells cur' e' (0,0))∧cur'.size=cur.size:=by
  intro g cur e hg
  by_cases hx:∃ i,i<H0.length∧M0 i=some g
  ·obtain ⟨i,hi,hM⟩:=hx
   exact hb.psize i g hi hM cur e hg
  ·refine ⟨cur,e,(hb.block g (lt_of_heap hg) fun i hi hM=>hx ⟨i,hi,hM⟩).trans hg,rfl⟩
 have hkd:∀ (g:Nat),g<w.heap.size→isC w.heap[g]?=false→isC w'.heap[g]?=false:=by
  intro g hgl hg
  by_cases hx:∃ i,i<H0.length∧M0 i=some g
  ·obtain ⟨i,hi,hM⟩:=hx
   exact hb.pkind i g hi hM hg
  ·rw [hb.block g hgl fun i hi hM=>hx ⟨i,hi,hM⟩]
   exact hg
 have hkind:∀ (i id:Nat) (cs cs1:List AV),ids[i]?=some id→s.H id=some cs→H'[i]?=some cs1→spL cs1=spL cs:=by
  intro i id cs cs1 hi hcs hc1
  have hM1:=hpinM i id hi
  cases hb1:spL cs with
  | true =>
   obtain ⟨g,_,_,o,_,a1,a2,a3,_⟩:=HOK.sp hok hcs hb1
   have a2':w.heap[g]?=some o:=a2
   have h3:=hkd g (lt_of_heap a2') (by rw [a2'];exact a3)
   cases hb2:spL cs1 with
   | true=>rfl
   | false =>
    rcases hok'.has i cs1 hc1 hb2 with ⟨h4,_⟩|⟨g',cur,e,h4,h5,_⟩
    ·exact absurd (((hM1.trans a1).symm.trans h4)) (by simp)
    ·have:some g'=some g:=h4.symm.trans (hM1.trans a1)
     injection this with this
     subst this
     have h5':w'.heap[g']?=some (.cells cur e (0,0)):=h5
     rw [h5'] at h3;cases h3
  | false =>
   cases hb2:spL cs1 with
   | false=>rfl
   | true =>
    obtain ⟨g,_,_,o,_,a1,a2,a3,_⟩:=HOK.sp hok' hc1 hb2
    have a2':w'.heap[g]?=some o:=a2
    have a1':M' i=some g:=a1
    rcases hok.has id cs hcs hb1 with ⟨h4,_⟩|⟨g',cur,e,h4,h5,_⟩
    ·exact absurd (a1'.symm.trans (hM1.trans h4)) (by simp)
    ·have:some g'=some g:=h4.symm.trans (hM1.symm.trans a1')
     injection this with this
     subst this
     obtain ⟨cur',e',h6,_⟩:=hsz g' cur e h5
     have h6':some o=some (.cells cur' e' (0,0)):=a2'.symm.trans h6
     rw [h6'] at a3;cases a3
 have hkeeps:Keeps (E.C M s.H w) (E.C M'' (updL s.H us) w'):=by
  refine ⟨fun g hg hn=>hsame g hg fun id _=>hn id,fun g hg hn id hid=>?_,fun _ _ h=>h,fun _ _ h=>h,fun id cs hcs=>?_,fun id cs cs' hcs hcs' hll g hg cur e hcur=>hsz g cur e hcur,fun id cs cs' hcs hcs'=>?_,hb.size⟩
  ·have hid':M'' id=some g:=hid
   cases hp:posL (ids++N) id 0 with
   | none=>rw [hMn id hp] at hid';exact hn id hid'
   | some i =>
    have hi:=Azz hp
    rw [hMs id i hi] at hid'
    rcases hsplit i id hi with ⟨h1,h2⟩|⟨h1,h2⟩
    ·rw [hpinM i id h2] at hid';exact hn id hid'
    ·have:=hb.new i g h1 hid'
     have hg':g<w.heap.size:=hg
     omega
  ·have hcs':s.H id=some cs:=hcs
   cases hp:posL (ids++N) id 0 with
   | none=>exact ⟨cs,(hHn id hp).trans hcs',Nat.le_refl _,fun _=>hMn id hp⟩
   | some i =>
    have hi:=Azz hp
    rcases hsplit i id hi with ⟨h1,h2⟩|⟨h1,h2⟩
    ·obtain ⟨cs1,h3,h4⟩:=hHs id i hi
     obtain ⟨cs0,h5,h6⟩:=hobj' i id h2
     rw [hcs'] at h5
     injection h5 with h5
     subst h5
     obtain ⟨cs2,h7,h8⟩:=Edz hl i _ h6
     rw [h3] at h7
     injection h7 with h7
     subst h7
     refine ⟨_,h4,by simp only [List.length_map] at h8 ⊢;exact h8,fun _=>?_⟩
     show M'' id=M id
     rw [hMs id i hi,hpinM i id h2]
    ·rw [(hfresh id h2).1] at hcs'
     cases hcs'
  ·have hcs2:s.H id=some cs:=hcs
   have hcs3:updL s.H us id=some cs':=hcs'
   cases hp:posL (ids++N) id 0 with
   | none =>
    rw [hHn id hp,hcs2] at hcs3
    injection hcs3 with hcs3
    subst hcs3
    exact ⟨rfl,fun _=>hMn id hp⟩
   | some i =>
    have hi:=Azz hp
    rcases hsplit i id hi with ⟨h1,h2⟩|⟨h1,h2⟩
    ·obtain ⟨cs1,h3,h4⟩:=hHs id i hi
     rw [hcs3] at h4
     injection h4 with h4
     subst h4
     refine ⟨(Diz _).trans (hkind i id cs cs1 h2 hcs2 h3),fun _=>?_⟩
     show M'' id=M id
     rw [hMs id i hi,hpinM i id h2]
    ·rw [(hfresh id h2).1] at hcs2
     cases hcs2
 have hup:∀ x u,Den (Ctx.cl w w' M' (nthH H') Bc) x u→Den (E.C M'' (updL s.H us) w') (x.up (ids++N) sh) u:=by
  intro x u hxu
  refine Den.ren (C:=Ctx.cl w w' M' (nthH H') Bc) (C':=E.C M'' (updL s.H us) w') hok' rfl (fun i id hi=>⟨hMs id i hi,fun cs hcs=>?_⟩) (fun id cs hi hz=>by cases hz) (fun fr fr' g hf hlt ho=>?_) 5 x u hxu
  ·obtain ⟨cs1,h1,h2⟩:=hHs id i hi
   have hcs':H'[i]?=some cs:=hcs
   rw [hcs'] at h1
   injection h1 with h1
   subst h1
   exact ⟨_,h2,by simp,Diz _⟩
  ·have hnone:fr'=true∨(fr'=false∧fr=false∧sh=true):=by
    cases fr<;>cases sh<;>simp [phiU] at hf<;>simp [← hf]
   have htrue:fr'=true→fr=true:=fun h=>by cases fr<;>cases sh<;>simp_all [phiU]
   refine ⟨fun id hid=>?_,fun hbb=>?_,fun hfr ha=>?_⟩
   ·have hid':M'' id=some g:=hid
    cases hp:posL (ids++N) id 0 with
    | some i =>
     rw [hMs id i (Azz hp)] at hid'
     exact ho.1 i hid'
    | none =>
     rw [hMn id hp] at hid'
     rcases hnone with h|⟨h1,h2,h3⟩
     ·exact ho.2.2 (htrue h) (hok.lt hid')
     ·refine ho.2.1 ?_
      show (if sh then E.B g∨∃ id,id ∉ ids∧M id=some g else False)
      rw [if_pos h3]
      exact .inr ⟨id,fun hm=>Bvz hp (List.mem_append_left _ hm),hid'⟩
   ·rcases hnone with h|⟨h1,h2,h3⟩
    ·have h4:g<w.heap.size:=Nat.lt_of_lt_of_le (E.hB g hbb) hold.size
     exact ho.2.2 (htrue h) h4
    ·refine ho.2.1 ?_
     show (if sh then E.B g∨∃ id,id ∉ ids∧M id=some g else False)
     rw [if_pos h3]
     exact .inl hbb
   ·have h4:g<w.heap.size:=Nat.lt_of_lt_of_le (E.hA g ha) hold.size
    exact ho.2.2 (htrue hfr) h4
 have hokN:HOK (E.C M'' (updL s.H us) w'):=by
  refine ⟨fun id cs hcs=>?_,fun id hn=>?_,fun i j g hi hj=>?_⟩
  ·have hcs':updL s.H us id=some cs:=hcs
   cases hp:posL (ids++N) id 0 with
   | some i =>
    have hi:=Azz hp
    obtain ⟨cs1,h1,h2⟩:=hHs id i hi
    rw [hcs'] at h2
    injection h2 with h2
    subst h2
    rcases hok'.hasX i cs1 h1 with (⟨a,b⟩|⟨g,cur,e,a,b,c⟩)|hsp
    ·exact .inl (.inl ⟨(hMs id i hi).trans a,by rw [b];rfl⟩)
    ·exact .inl (.inr ⟨g,cur,e,(hMs id i hi).trans a,b,A0z hup c⟩)
    ·refine .inr (SpOk.ren (C:=Ctx.cl w w' M' (nthH H') Bc) (C':=E.C M'' (updL s.H us) w') rfl (fun i id hi=>⟨hMs id i hi,fun cs hcs=>?_⟩) hsp (hMs id i hi))
     obtain ⟨cs1,h1,h2⟩:=hHs id i hi
     have hcs':H'[i]?=some cs:=hcs
     rw [hcs'] at h1
     injection h1 with h1
     subst h1
     exact ⟨_,h2,Diz _⟩
   | none =>
    have hcsN:=hcs'
    rw [hHn id hp] at hcs'
    rcases hok.hasX id cs hcs' with (⟨a,b⟩|⟨g,cur,e,a,b,c⟩)|hsp
    ·exact .inl (.inl ⟨(hMn id hp).trans a,b⟩)
    ·refine .inl (.inr ⟨g,cur,e,(hMn id hp).trans a,(hsame g (lt_of_heap b) fun id' hm hid'=>?_).trans b,DenP.keeps hkeeps c⟩)
     have:id'=id:=hok.inj id' id g hid' a
     subst this
     exact Bvz hp (List.mem_append_left _ hm)
    ·refine .inr (hsp.keeps hkeeps hcs' hcsN fun g hg=>hsame g (hok.lt hg) fun id' hm hid'=>?_)
     have:id'=id:=hok.inj id' id g hid' hg
     subst this
     exact Bvz hp (List.mem_append_left _ hm)
  ·have hn':updL s.H us id=none:=hn
   cases hp:posL (ids++N) id 0 with
   | some i =>
    obtain ⟨cs1,h1,h2⟩:=hHs id i (Azz hp)
    rw [hn'] at h2
    cases h2
   | none =>
    rw [hHn id hp] at hn'
    exact (hMn id hp).trans (hok.no id hn')
  ·have hi':M'' i=some g:=hi
   have hj':M'' j=some g:=hj
   have cross:∀ x y k,(ids++N)[k]?=some x→M' k=some g→posL (ids++N) y 0=none→M y=some g→False:=by
    intro x y k hk hMk hpy hMy
    rcases hsplit k x hk with ⟨h1,h2⟩|⟨h1,h2⟩
    ·rw [hpinM k x h2] at hMk
     have:x=y:=hok.inj x y g hMk hMy
     subst this
     exact Bvz hpy (List.mem_of_getElem? hk)
    ·have:=hb.new k g h1 hMk
     have:=hok.lt hMy
     omega
   cases hp:posL (ids++N) i 0 with
   | some x =>
    have hx:=Azz hp
    rw [hMs i x hx] at hi'
    cases hq':posL (ids++N) j 0 with
    | some y =>
     have hy:=Azz hq'
     rw [hMs j y hy] at hj'
     have:x=y:=hok'.inj x y g hi' hj'
     subst this
     rw [hx] at hy
     injection hy
    | none =>
     rw [hMn j hq'] at hj'
     exact (cross i j x hx hi' hq' hj').elim
   | none =>
    rw [hMn i hp] at hi'
    cases hq':posL (ids++N) j 0 with
    | some y =>
     have hy:=Azz hq'
     rw [hMs j y hy] at hj'
     exact (cross j i y hy hj' hp hi').elim
    | none =>
     rw [hMn j hq'] at hj'
     exact hok.inj i j g hi' hj'
 have holdN:Old E M'' w':=by
  refine ⟨hb.os.trans hold.os,hb.tape.trans hold.tape,hb.output.trans hold.output,Nat.le_trans hold.size hb.size,fun g hg hn=>?_,fun id hid=>?_,fun id g hid hg=>?_,fun id g hid hg cur e hcur=>?_,fun id g hid hg hc=>hkd g (hok.lt ((hold.pinned id hid).trans hg)) (hold.pkind id g hid hg hc)⟩
  ·refine (hsame g (Nat.lt_of_lt_of_le hg hold.size) fun id hm hid=>?_).trans (hold.block g hg hn)
   rcases Nat.lt_or_ge id E.pin with hpi|hpi
   ·exact hn id hpi ((hold.pinned id hpi).symm.trans hid)
   ·have:=hold.new id g hpi hid;omega
  ·cases hp':posL (ids++N) id 0 with
   | none=>exact (hMn id hp').trans (hold.pinned id hid)
   | some i =>
    have hi:=Azz hp'
    rcases hsplit i id hi with ⟨h1,h2⟩|⟨h1,h2⟩
    ·rw [hMs id i hi,hpinM i id h2];exact hold.pinned id hid
    ·have:=(hfresh id h2).2;omega
  ·cases hp':posL (ids++N) id 0 with
   | none=>rw [hMn id hp'] at hg;exact hold.new id g hid hg
   | some i =>
    have hi:=Azz hp'
    rw [hMs id i hi] at hg
    rcases hsplit i id hi with ⟨h1,h2⟩|⟨h1,h2⟩
    ·rw [hpinM i id h2] at hg;exact hold.new id g hid hg
    ·have:=hb.new i g h1 hg
     have:=hold.size
     omega
  ·obtain ⟨cur',e',h1,h2⟩:=hold.psize id g hid hg cur e hcur
   obtain ⟨cur2,e2,h3,h4⟩:=hsz g cur' e' h1
   exact ⟨cur2,e2,h3,h4.trans h2⟩
 have hfin:St E M'' (s.putL dst (res.up (ids++N) sh) us) (a.put dst v) w':=by
  have hv:=hup _ _ hden
  cases dst with
  | none=>exact ⟨hst.defers.keeps hkeeps,hst.size,fun t=>Den.keeps hkeeps (hst.slots t),hokN,holdN⟩
  | some d =>
   have hd':d<a.tmps.size:=by rw [hst.size];exact dstOk_lt hdst
   refine ⟨(hst.defers.keeps hkeeps).put hdst v,by simp [Act.put,hst.size],fun t=>?_,hokN,holdN⟩
   rw [getD_put a d v t hd']
   by_cases htd:t=d
   ·subst htd;simp only [S.putL,Aqz,if_true];exact hv
   ·simp only [S.putL,Asz _ _ _ _ htd,if_neg htd];exact Den.keeps hkeeps (hst.slots t)
 exact ⟨M'',_,v,hkk,he,hfin⟩

theorem bcall_stepA {pin f:Nat}{cargs:List AV}{H0:List (List AV)}{Q:AV→List (List AV)→Prop}{avs:List AV}{dst:Option Nat}{K:S→Prop}(ids:List Nat)(sh:Bool)
  {F:Nat→Option (List AV)} (hF:∀ id cs,F id=some cs→s.H id=some cs) (φ:AV→AV) (hφ:∀ x,φ x=x.down ids sh F∨∃ v,x=.val v∧φ x=.val v)
  (hc:BCall P f cargs H0 Q) (hargs:avs.map φ=cargs) (hH0:ids.map (fun id=>(s.H id).map (List.map (AV.down ids sh F)))=H0.map some) (hids:ids.Nodup)
  (hK:∀ res H',Q res H'→lenOk H0 H'∧(∀ id∈news dst (H'.length-H0.length),s.H id=none∧pin≤id) ∧
   K (s.putL dst (res.up (ids++news dst (H'.length-H0.length)) sh) ((ids++news dst (H'.length-H0.length)).zip (H'.map (List.map (AV.up (ids++news dst (H'.length-H0.length)) sh)))))) :
  callOwedA P pin f avs dst K s :=
 Fvz ids sh hF φ hφ hc hargs hH0 hids fun res H' hq=>let ⟨a,b,c⟩:=hK res H' hq;⟨news dst (H'.length-H0.length),a,⟨news_len _ _,news_nodup _ _,b⟩,c⟩

theorem bcall_stepG {pin f:Nat}{cargs:List AV}{H0:List (List AV)}{Q:AV→List (List AV)→Prop}{args:List Operand}{dst:Option Nat}{K:S→Prop}(ids:List Nat)(sh:Bool)
  {F:Nat→Option (List AV)} (hF:∀ id cs,F id=some cs→s.H id=some cs) (φ:AV→AV) (hφ:∀ x,φ x=x.down ids sh F∨∃ v,x=.val v∧φ x=.val v)
  (hc:BCall P f cargs H0 Q) (hargs:args.map (fun x=>φ (s.ev x))=cargs) (hH0:ids.map (fun id=>(s.H id).map (List.map (AV.down ids sh F)))=H0.map some) (hids:ids.Nodup)
  (hK:∀ res H',Q res H'→lenOk H0 H'∧(∀ id∈news dst (H'.length-H0.length),s.H id=none∧pin≤id) ∧
   K (s.putL dst (res.up (ids++news dst (H'.length-H0.length)) sh) ((ids++news dst (H'.length-H0.length)).zip (H'.map (List.map (AV.up (ids++news dst (H'.length-H0.length)) sh)))))) :
  callOwed P pin f args dst K s:=D4z (bcall_stepA ids sh hF φ hφ hc (by rw [List.map_map];exact hargs) hH0 hids hK)

theorem Chz {pin f:Nat}{cargs:List AV}{H0:List (List AV)}{Q:AV→List (List AV)→Prop}{args:List Operand}{dst:Option Nat}{K:S→Prop}(ids:List Nat)(sh:Bool)
  {F:Nat→Option (List AV)} (hF:∀ id cs,F id=some cs→s.H id=some cs)
  (hc:BCall P f cargs H0 Q) (hargs:args.map (fun x=>(s.ev x).down ids sh F)=cargs) (hH0:ids.map (fun id=>(s.H id).map (List.map (AV.down ids sh F)))=H0.map some) (hids:ids.Nodup)
  (hK:∀ res H',Q res H'→lenOk H0 H'∧(∀ id∈news dst (H'.length-H0.length),s.H id=none∧pin≤id) ∧
   K (s.putL dst (res.up (ids++news dst (H'.length-H0.length)) sh) ((ids++news dst (H'.length-H0.length)).zip (H'.map (List.map (AV.up (ids++news dst (H'.length-H0.length)) sh)))))) :
  callOwed P pin f args dst K s:=bcall_stepG ids sh hF (fun x=>x.down ids sh F) (fun _=>.inl rfl) hc hargs hH0 hids hK

end
end Vw
