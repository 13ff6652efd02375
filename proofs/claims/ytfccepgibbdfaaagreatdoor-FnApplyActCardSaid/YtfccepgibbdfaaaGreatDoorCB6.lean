/- Texts of this verifier. -/
import Derived.Test.YtfccepgibbdfaaaGreatDoorCB5
import Derived.Test.YtfccepgibbdfaaaGreatDoorCM1
import Derived.Test.YtfccepgibbdfaaaGreatDoorCW3
set_option maxHeartbeats 4000000
set_option linter.unusedSimpArgs false
set_option linter.unusedSectionVars false
set_option linter.unusedVariables false
set_option maxRecDepth 4000
namespace Go.Proofs.YtfccepgibbdfaaaGreatDoor
open VwM Vw Go
variable [SentA]
variable [PowA]

theorem hang_false {d id kid n:Nat}{k:Int}{ks:List Int}{σ:List (Nat×AV)}{H:List (Nat×List AV)}{K:S→Prop}(h0:hk H id=some [.own kid n 1])(h1:hk H kid=some (IL ks))(hf:hk H 224=none∧hk H 304=none)
  (hK:K (mkS ((d,.ref 304 1 0)::σ) ((304,[.val (.slice none 0 0)])::H))):callE Tryz.prog 0 87 [.ref id 1 0,.int .i64 k,.bool false] (some d) K σ H:=by
 obtain ⟨hf1,hf2⟩:=hf
 intro args ha
 refine Chz ?_
 rw [ha]
 refine Kmz l87_eq rfl ?_
 show awpK Tryz.prog 0 _ _ (mkS [(0,.ref id 1 0),(1,.int .i64 k),(2,.bool false)] H)
 repeat' (first
  | (refine awpK_seq ?_)
  | (refine awpK_reg rfl ?_;simp (disch:=omega) only [push_cast,seval,h0,h1,hf1,hf2])
  | (refine awpK_cond false rfl (fun h=>by cases h) (fun _=>?_))
  | (refine awpK_skip ?_;simp (disch:=omega) only [push_cast,seval])
  | (refine awpK_ret ⟨.inr rfl,_,rfl,?_⟩))
 all_goals (show K ⟨upd (lk σ) d (.ref 304 1 0),hk ((304,[.val (.slice none 0 0)])::H)⟩;rw [upd_lk];exact hK)
theorem hang_true {d id kid n:Nat}{k:Int}{ks:List Int}{σ:List (Nat×AV)}{H:List (Nat×List AV)}{K:S→Prop}(h0:hk H id=some [.own kid n 1])(h1:hk H kid=some (IL ks))(hn:ks.length=n)(hb:n≤1000)(hi:id≠kid)(hf:hk H 224=none∧hk H 304=none)
  (hK:K (mkS ((d,.ref 304 1 0)::σ) ((304,[.val (.slice none 0 0)])::(id,[.own kid (n+1) 1])::(kid,IL ks++[.int .i64 k])::(224,[.int .i64 k])::H))):callE Tryz.prog 0 87 [.ref id 1 0,.int .i64 k,.bool true] (some d) K σ H:=by
 obtain ⟨hf1,hf2⟩:=hf
 have e1:(id=224)=False:=propext ⟨fun e=>by rw [e,hf1] at h0;exact (by cases h0),False.elim⟩
 have e2:(kid=224)=False:=propext ⟨fun e=>by rw [e,hf1] at h1;exact (by cases h1),False.elim⟩
 have e3:(id=kid)=False:=propext ⟨fun e=>hi e,False.elim⟩
 have e4:(304=id)=False:=propext ⟨fun e=>by rw [← e,hf2] at h0;exact (by cases h0),False.elim⟩
 have e5:(304=kid)=False:=propext ⟨fun e=>by rw [← e,hf2] at h1;exact (by cases h1),False.elim⟩
 have hil:(IL ks).length=n:=by unfold IL;simpa using hn
 intro args ha
 refine Chz ?_
 rw [ha]
 refine Kmz l87_eq rfl ?_
 show awpK Tryz.prog 0 _ _ (mkS [(0,.ref id 1 0),(1,.int .i64 k),(2,.bool true)] H)
 repeat' (first
  | (refine awpK_seq ?_)
  | (refine awpK_reg rfl ?_;simp (disch:=omega) only [push_cast,seval,h0,h1,hf1,hf2,e1,e2,e3,e4,e5,hil])
  | (refine awpK_cond true rfl (fun _=>?_) (fun h=>by cases h))
  | (refine awpK_skip ?_;simp (disch:=omega) only [push_cast,seval])
  | (refine awpK_ret ⟨.inr rfl,_,rfl,?_⟩))
 all_goals (show K ⟨upd (lk σ) d (.ref 304 1 0),_⟩;rw [upd_lk];exact hK)

end Go.Proofs.YtfccepgibbdfaaaGreatDoor
namespace Go.Proofs.YtfccepgibbdfaaaGreatDoor
open VwM Vw Go
variable [SentA]
variable [PowA]

theorem SubW.rfl' {pin:Nat}{s:S}:SubW pin s s:=fun E M x w _ h=>⟨M,h⟩
theorem Lkz {P:Program}{pin f:Nat}{avs:List AV}{dst:Option Nat}{K:S→Prop}{σ:List (Nat×AV)}{H:List (Nat×List AV)}(h:callE P pin f avs dst (fun s'=>∃ s1,SubW pin s' s1∧K s1) σ H):callE P pin f avs dst K σ H:=fun args ha E M a w hp hd hst=>by
 refine (h args ha E M a w hp hd hst).mono fun e w' ⟨M',s',v,⟨s1,hsub,hk⟩,he,hst'⟩=>?_
 obtain ⟨M'',h1⟩:=hsub E M' _ w' hp hst'
 exact ⟨M'',s1,v,hk,he,h1⟩
theorem adHL_id (t id sz:Nat):∀ H:List (Nat×List AV),hk H t=none→adHL [t] id sz H=H
 | [],_=>rfl
 | p::r,h=>by
  simp only [hk] at h
  split at h
  ·cases h
  ·rename_i hne
   simp only [adHL,List.map_cons]
   have ih:=adHL_id t id sz r h
   simp only [adHL] at ih
   rw [ih]
   have:([t].contains p.1)=false:=by simp;exact fun e=>hne e.symm
   rw [this];rfl


theorem hang_no {d id kid n:Nat}{k:Int}{ks:List Int}{σ:List (Nat×AV)}{H:List (Nat×List AV)}{K:S→Prop}(h0:hk H id=some [.own kid n 1])(h1:hk H kid=some (IL ks))(hf:hk H 224=none∧hk H 304=none∧hk H 16000=none)
  (hK:K (mkS ((d,.ref 304 1 0)::σ) ((16000,[])::(304,[.own 16000 0 1])::H))):callE Tryz.prog 0 87 [.ref id 1 0,.int .i64 k,.bool false] (some d) K σ H:=by
 refine Lkz (hang_false h0 h1 ⟨hf.1,hf.2.1⟩ ⟨_,?_,hK⟩)
 refine SubW.adoptH [304] 16000 1 (by simp [hk,hf.2.2]) ?_
 have e:adHL [304] 16000 1 ((304,[AV.val (.slice none 0 0)])::H)=(304,[.own 16000 0 1])::H:=by
  have:=adHL_id 304 16000 1 H hf.2.1
  simp only [adHL,List.map_cons] at this ⊢
  rw [this];rfl
 rw [e]
 exact SubW.rfl'
theorem hang_yes {d id kid n:Nat}{k:Int}{ks:List Int}{σ:List (Nat×AV)}{H:List (Nat×List AV)}{K:S→Prop}(h0:hk H id=some [.own kid n 1])(h1:hk H kid=some (IL ks))(hn:ks.length=n)(hb:n≤1000)(hi:id≠kid)(hf:hk H 224=none∧hk H 304=none∧hk H 16000=none)
  (hK:K (mkS ((d,.ref 304 1 0)::σ) ((16000,[])::(304,[.own 16000 0 1])::(id,[.own kid (n+1) 1])::(kid,IL (ks++[k]))::(224,[.int .i64 k])::H))):callE Tryz.prog 0 87 [.ref id 1 0,.int .i64 k,.bool true] (some d) K σ H:=by
 have n1:id≠304:=fun e=>by rw [e,hf.2.1] at h0;cases h0
 have n2:kid≠304:=fun e=>by rw [e,hf.2.1] at h1;cases h1
 have n3:id≠16000:=fun e=>by rw [e,hf.2.2] at h0;cases h0
 have n4:kid≠16000:=fun e=>by rw [e,hf.2.2] at h1;cases h1
 refine Lkz (hang_true h0 h1 hn hb hi ⟨hf.1,hf.2.1⟩ ⟨_,?_,hK⟩)
 refine SubW.adoptH [304] 16000 1 (by simp [hk,hf.2.2,Ne.symm n3,Ne.symm n4]) ?_
 have e:adHL [304] 16000 1 ((304,[AV.val (.slice none 0 0)])::(id,[.own kid (n+1) 1])::(kid,IL ks++[.int .i64 k])::(224,[.int .i64 k])::H)=(304,[.own 16000 0 1])::(id,[.own kid (n+1) 1])::(kid,IL (ks++[k]))::(224,[.int .i64 k])::H:=by
  have hx:=adHL_id 304 16000 1 ((id,[.own kid (n+1) 1])::(kid,IL ks++[.int .i64 k])::(224,[.int .i64 k])::H) (by simp [hk,hf.2.1,Ne.symm n1,Ne.symm n2])
  simp only [adHL,List.map_cons] at hx ⊢
  rw [hx]
  unfold IL
  simp [adA]
 rw [e]
 exact SubW.rfl'


def heldV [SentA](n:Nat):Value:=if 0<n then .iface 202 (.pointer (some SentA.a)) else .nilIface
theorem Bcz {ρ:Nat→Option Nat}{Z:Nat→Option (List AV)}{b0:Bool}{φ:Bool→Option Bool}{m:Nat}(n:Nat):AV.ren ρ Z b0 φ (m+1) (.val (heldV n))=.val (heldV n):=by unfold heldV;split<;>rfl
theorem B5z (σ:List (Nat×AV))(H:List (Nat×List AV)):(mkS σ H).ev (.global 0)=.prow false [.val (.iface 202 (.pointer (some SentA.a)))] 0:=rfl
theorem K7z:ofVal Value.nilIface=.val .nilIface:=rfl
theorem fzIf (H:Nat→Option (List AV))(t:TypeId)(v:Value):AV.fz H 5 (.val (.iface t v))=.val (.iface t v):=rfl
theorem fzNi (H:Nat→Option (List AV)):AV.fz H 5 (.val .nilIface)=.val .nilIface:=rfl
theorem Dxz (ks:List Int)(n:Nat)(hn:ks.length=n)(hb:n≤1000):PCall Tryz.prog 49 [.prow false [.rows false (IL ks) n] 0] (fun r=>r=.val (heldV n)):=by
 subst hn
 refine Atz l49_eq rfl ?_
 unfold heldV
 by_cases h:0<ks.length
 ·rw [if_pos h]
  (repeat' (first
 | (first|refine Afz ?_|refine Abz ?_)
 | ((first|refine Agz ?_|refine Acz ?_);simp (disch:=omega) only [push_cast,seval,B5z,K7z,fzIf,fzNi])
 | ((first|refine Alz (fun h=>?_) (fun h=>?_))<;>(try simp only [h])<;>(try simp only [bitvec_to_nat] at h)<;>(try simp only [h])<;>(first|(exfalso;omega)|(exfalso;simp_all;done)|(simp (disch:=omega) only [push_cast,seval,B5z,K7z,fzIf,fzNi])|skip))
 | (refine Adz ⟨.inr rfl,_,rfl,?_⟩;(try simp (disch:=omega) only [push_cast,seval,B5z,K7z,fzIf,fzNi]))))
 ·rw [if_neg h]
  (repeat' (first
 | (first|refine Afz ?_|refine Abz ?_)
 | ((first|refine Agz ?_|refine Acz ?_|refine Amz ?_);simp (disch:=omega) only [push_cast,seval,B5z,K7z,fzIf,fzNi])
 | ((first|refine Alz (fun h=>?_) (fun h=>?_))<;>(try simp only [h])<;>(try simp only [bitvec_to_nat] at h)<;>(try simp only [h])<;>(first|(exfalso;omega)|(exfalso;simp_all;done)|(simp (disch:=omega) only [push_cast,seval,B5z,K7z,fzIf,fzNi])|skip))
 | (refine Adz ⟨.inr rfl,_,rfl,?_⟩;(try simp (disch:=omega) only [push_cast,seval,B5z,K7z,fzIf,fzNi]))))

end Go.Proofs.YtfccepgibbdfaaaGreatDoor
namespace Go.Proofs.YtfccepgibbdfaaaGreatDoor
open VwM Vw Go
variable [SentA]
variable [PowA]

def fA (es:List Ex)(i j:Nat):List AV:=[.own (fim 2 j) (kidsT es ((j:Int)-1) i).length 1]
def fB (es:List Ex)(i j:Nat):List AV:=IL (kidsT es ((j:Int)-1) i)
def refs (i:Nat):List AV:=row i fun j=>.ref (fim 1 (j+1)) 1 0
theorem refs_1 {i q:Nat}(h:q<i):((refs i).drop q).take 1=[.ref (fim 1 (q+1)) 1 0]:=row_1 _ _ _ (by omega)
theorem refs_len (i:Nat):(refs i).length=i:=Etz ..
theorem swL_ref (a b a' b' i:Nat):swL b (fim 2 b') (swL a (fim 1 a') (refs i++[.ref a 1 0]))=swL b (fim 2 b') (swL a (fim 1 a') (refs i))++[.ref (swp b (fim 2 b') (fim 1 a')) 1 0]:=by
 simp only [Fxz,List.map_append,List.map_cons,List.map_nil,AV.sw,Icz]
theorem refs_sw {a b n i:Nat}(ha:a<1099511627776)(hb:b<1099511627776)(h:i≤n):swL b (fim 2 (n+1)) (swL a (fim 1 (n+1)) (refs i))=refs i:=by
 rw [Fxz,Fxz]
 unfold refs
 rw [C2z,C2z]
 refine Bxz fun p hp=>?_
 simp only [AV.sw]
 rw [Bez (c:=fim 1 (p+1)) (Ne.symm (Epz _ _ _ ha)) (fun e=>by have:=Bkz e;omega)]
 rw [Bez (c:=fim 1 (p+1)) (Ne.symm (Epz _ _ _ hb)) (fun e=>by have:=B8z (by omega) (by omega) e;omega)]
theorem Hrz {a b n:Nat}(ha:a<1099511627776)(hb:b<1099511627776):swL b (fim 2 (n+1)) (swL a (fim 1 (n+1)) (refs n++[.ref a 1 0]))=refs (n+1):=by
 rw [swL_ref,refs_sw ha hb (Nat.le_refl _),Bez (c:=fim 1 (n+1)) (Ne.symm (Epz _ _ _ hb)) (fun e=>by have:=B8z (by omega) (by omega) e;omega)]
 unfold refs row
 rw [List.range_succ,List.map_append]
 rfl
theorem own_sw {a b n j k sz:Nat}(ha:a<1099511627776)(hb:b<1099511627776)(h:j≤n):swL b (fim 2 (n+1)) (swL a (fim 1 (n+1)) [.own (fim 2 j) k sz])=[.own (fim 2 j) k sz]:=by
 simp only [swL,AV.sw]
 rw [Bez (c:=fim 2 j) (Ne.symm (Epz _ _ _ ha)) (fun e=>by have:=B8z (by omega) (by omega) e;omega),Bez (c:=fim 2 j) (Ne.symm (Epz _ _ _ hb)) (fun e=>by have:=Bkz e;omega)]
theorem Maz {a b n k sz:Nat}(hab:b≠a)(hb:b<1099511627776):swL b (fim 2 (n+1)) (swL a (fim 1 (n+1)) [.own b k sz])=[.own (fim 2 (n+1)) k sz]:=by
 simp only [swL,AV.sw]
 rw [Bez hab (Epz _ _ _ hb),Icz]
theorem il_sw (a b x y:Nat)(l:List Int):swL b y (swL a x (IL l))=IL l:=by rw [Fyz,Fyz]
theorem fA_new {es:List Ex}(h:parOk es)(i:Nat):fA es (i+1) (i+1)=[.own (fim 2 (i+1)) 0 1]:=by
 unfold fA
 rw [show (((i+1:Nat):Int)-1)=(i:Int) by omega,J7z h i (i+1) (Nat.le_refl _)];rfl
theorem fB_new {es:List Ex}(h:parOk es)(i:Nat):fB es (i+1) (i+1)=[]:=by
 unfold fB
 rw [show (((i+1:Nat):Int)-1)=(i:Int) by omega,J7z h i (i+1) (Nat.le_refl _)];rfl
theorem kU_no {es:List Ex}{i Q j:Nat}{v:Vw3}{o:Bool}(h:es[i]?=some ((Q:Int)-1,v,o))(hj:¬ (o=true∧j=Q)):kidsT es ((j:Int)-1) (i+1)=kidsT es ((j:Int)-1) i :=
 Gpz h (fun hh=>hj ⟨hh.1,by have:=hh.2;simp only at this;omega⟩)
theorem fA_at {es:List Ex}{i Q:Nat}{p:Int}(h:(Q:Int)-1=p):fA es i Q=[.own (fim 2 Q) (kidsT es p i).length 1]:=by subst h;rfl
theorem fB_at {es:List Ex}{i Q:Nat}{p:Int}(h:(Q:Int)-1=p):fB es i Q=IL (kidsT es p i):=by subst h;rfl
theorem Mgz {es:List Ex}{i:Nat}{p:Int}{v:Vw3}(h:es[i]?=some (p,v,true)):kidsT es p (i+1)=kidsT es p i++[(i:Int)]:=J6z h ⟨rfl,rfl⟩
theorem innA (es:List Ex)(i j n:Nat)(c1:List AV)(id0:Nat)(f:Nat→List AV)(h:j<n):innL (fun id=>(hk ((id0,c1)::(gam 1 f n++gam 2 (fB es i) n)) id).isSome) (fA es i j)=true:=by
 simp only [fA,innL,AV.inn,hk,Bool.and_true]
 split
 ·rfl
 ·rw [Cwz 1 _ _ _ 2 j (by omega),B9z 2 _ _ _ h];rfl
theorem innR (i n:Nat)(c1:List AV)(id0:Nat)(f g:Nat→List AV)(h:i<n):innL (fun id=>(hk ((id0,c1)::(gam 1 f n++gam 2 g n)) id).isSome) (refs i)=true:=by
 refine innL_row _ _ _ fun p hp=>?_
 simp only [AV.inn,hk]
 split
 ·rfl
 ·rw [Bfz 1 _ _ _ _ (by omega)];rfl
theorem Ipz (a b:Nat)(c:Bool):∀ es:List Ex,swL a b (EL c es)=EL c es
 | []=>rfl
 | l::r=>by simp only [EL,swL,AV.sw,Fyz,Ipz a b c r]
theorem ret_node [Inhabited GlobT]{σ:List (Nat×AV)}{H:List (Nat×List AV)}{res:List ARes}{Q:Nat}{ks:List Int}(hl:aresL (mkS σ H) res=some [.ref (fim 1 Q) 1 0])(h0:hk H (fim 1 Q)=some [.own (fim 2 Q) ks.length 1])(h1:hk H (fim 2 Q)=some (IL ks)) :
  ∃ (outs:List Nat) (nils:List (Nat×Nat)) (l:List AV),(outs.Nodup∧∀ id∈outs,True)∧aresL (mkS σ H) res=some l∧(∀ p∈nils,(mkS σ H).H p.1=none∧inN outs p.1) ∧
   AV.ren (posF outs) (orNil (mkS σ H).H outs) true some 5 (AV.fixNil nils (tupOf l)).1=.ref 0 1 0∧List.map (fun id=>List.map (AV.ren (posF outs) (orNil (mkS σ H).H outs) true some 5) (((mkS σ H).H id).getD [])) outs=[[.own 1 ks.length 1],IL ks]:=by
 have hne:fim 1 Q≠fim 2 Q:=fun e=>by have:=B8z (by omega) (by omega) e;omega
 have p0:posF [fim 1 Q,fim 2 Q] (fim 1 Q)=some 0:=by simp [posF,posL]
 have p1:posF [fim 1 Q,fim 2 Q] (fim 2 Q)=some 1:=by simp [posF,posL,Ne.symm hne]
 refine ⟨[fim 1 Q,fim 2 Q],[],_,⟨by simp [hne],fun _ _=>trivial⟩,hl,(fun _ h=>by cases h),?_,?_⟩
 ·show AV.ren _ _ _ _ 5 (.ref (fim 1 Q) 1 0)=_
  rw [ren_ref,p0,renR_some]
 ·show [List.map _ ((hk H (fim 1 Q)).getD []),List.map _ ((hk H (fim 2 Q)).getD [])]=_
  rw [h0,h1]
  show [[AV.ren _ _ _ _ 5 (.own (fim 2 Q) ks.length 1)],List.map _ (IL ks)]=_
  rw [Emz,p1,Euz,Isz]


set_option maxHeartbeats 16000000 in
theorem node_ok (cs:List Int)(es:List Ex)(m n:Nat)(id:Int)(hm:cs.length=m)(hn:es.length=n)(hb:m≤1000∧n≤1000)(hp:parOk es)(hid:-1≤id∧id<n) :
  BCall Tryz.prog 48 [.agg [.rows false (IL cs) m,.rows false (EL false es) n],.int .i64 id] [] (fun r H'=>r=.ref 0 1 0∧H'=[[.own 1 (kidsT es id n).length 1],IL (kidsT es id n)]):=by
 subst hm hn
 obtain ⟨hb1,hb2⟩:=hb
 refine Avz (pins:=[]) (pin:=0) l48_eq rfl rfl rfl ?_
 have hel:=Auz false es
 (repeat' (first
 | (first|refine Afz ?_|refine Abz ?_)
 | ((first|refine Agz ?_);simp (disch:=omega) only [push_cast,seval,Aaz])))
 refine Duz (fun i:Nat=>mkS [(1,.int .i64 id),(5,.ref (fim 1 0) 1 0),(6,.own 576 i 1),(13,.rows false (EL false es) es.length),(14,.int .i64 es.length),(15,.int .i64 i)] ((576,refs i)::(gam 1 (fA es i) (i+1)++gam 2 (fB es i) (i+1)))) (fun i=>i≤es.length) (fun i=>es.length-i) 0 (Nat.zero_le _) ?_ ?_
 ·refine SubW.adopt [6] 576 1 rfl ?_
  refine SubW.adoptH [176] 16000 1 rfl ?_
  refine SubW.gam2 (a:=176) (b:=16000) (d1:=1) (d2:=2) (n:=0) (id0:=576) (c0:=[]) ⟨by omega,by omega,by omega⟩ ⟨by omega,by omega,by omega,by omega⟩ rfl (fun j h=>absurd h (Nat.not_lt_zero _)) (fun j h=>absurd h (Nat.not_lt_zero _)) ?_ ?_ ?_ ?_ ?_ ?_ ?_
  ·have e:fA es 0 0=[.own (fim 2 0) 0 1]:=rfl
   rw [e]
   show some [AV.own (swp 16000 (fim 2 0) (swp 176 (fim 1 0) 16000)) 0 1]=_
   rw [Fwz 176 1 0 16000 (by omega) (by omega),Icz]
  ·rfl
  ·simp [lk,AV.sw,Ipz,Fwz,adL,adA,Icz]
   try rw [Bez (Ne.symm (Epz _ _ _ (by omega))) (fun e=>by have:=B8z (by omega) (by omega) e;omega)]
  ·simp [AV.inn,Aaz,hk,refs,row,Bfz,ne_fim,Awz]
  ·rfl
  ·intro j hj
   exact innA es 0 j 1 _ _ _ hj
  ·intro j hj
   exact Fhz _ _
 ·intro i hi
  by_cases hlt:i<es.length
  ·obtain ⟨⟨p,⟨bs,x,y⟩,o⟩,hei⟩:∃ e,es[i]?=some e:=⟨_,List.getElem?_eq_getElem hlt⟩
   have hpp:=hp i _ hei
   simp only at hpp
   have hd:=Btz false es i hei
   simp only at hd
   have hil:i*5+5≤es.length*5:=by omega
   have hrl:=refs_len i
   by_cases hpm:p=-1
   ·subst hpm
    cases o
    ·(repeat' (first
 | (first|refine Afz ?_|refine Abz ?_)
 | ((first|refine Agz ?_|refine Acz ?_|refine Amz ?_);simp (disch:=omega) only [push_cast,seval,hd,hel,hil,hrl,Aaz])
 | ((first | refine Alz (fun h => ?_) (fun h => ?_)) <;> (try simp only [h]) <;> (try simp only [bitvec_to_nat] at h) <;> (try simp only [h]) <;> (first | (exfalso; omega) | (focus (exfalso; simp_all; done)) | (simp (disch := omega) only [push_cast,seval,hd,hel,hil,hrl,Aaz]) | skip))))
     refine Fqz (f:=87) ?_
     simp (disch:=omega) only [push_cast,seval]
     refine hang_no (id:=fim 1 (0)) (kid:=fim 2 (0)) (n:=(kidsT es (-1) i).length) (ks:=kidsT es (-1) i) (by simp (disch:=omega) only [push_cast,seval];exact congrArg some (fA_at (by omega))) (by simp (disch:=omega) only [push_cast,seval];exact congrArg some (fB_at (by omega))) (by simp (disch:=omega) only [push_cast,seval]) ?_
     simp (disch:=omega) only [push_cast,seval,hrl]
     (repeat' (first
 | (first|refine Afz ?_|refine Abz ?_)
 | ((first | refine Agz ?_); simp (disch := omega) only [push_cast,seval,hrl])))
     have hei':es[i]?=some ((((0:Nat):Int)-1),(bs,x,y),false):=by rw [hei];congr 2;try omega
     refine ⟨i+1,by omega,by omega,?_⟩
     refine SubW.gam2 (a:=304) (b:=16000) (d1:=1) (d2:=2) (n:=i+1) (id0:=576) (c0:=[]) ⟨by omega,by omega,by omega⟩ ⟨by omega,by omega,by omega,by omega⟩ ?_ ?_ ?_ ?_ ?_ ?_ ?_ ?_ ?_ ?_
     ·exact congrArg some (Hrz (by omega) (by omega))
     ·intro j hj
      have e:hk ((576,refs i++[AV.ref 304 1 0])::(560,[AV.ref 304 1 0])::(16000,[])::(304,[AV.own 16000 0 1])::(128,[AV.int .i64 (-1),AV.int .i64 bs,AV.rows false (IL x) x.length,AV.rows false (IL y) y.length,AV.bool false])::(128,[AV.int .i64 0,AV.int .i64 0,AV.val (.slice none 0 0),AV.val (.slice none 0 0),AV.bool false])::(576,refs i)::(gam 1 (fA es i) (i+1)++gam 2 (fB es i) (i+1))) (fim 1 j)=some (fA es (i+1) j):=by
       simp only [hk,Awz _ _ 576 (by omega),Awz _ _ 560 (by omega),Awz _ _ 16000 (by omega),Awz _ _ 304 (by omega),Awz _ _ 128 (by omega),Awz _ _ 224 (by omega),if_false]
       rw [Bfz 1 _ _ _ _ hj]
       unfold fA
       rw [kU_no hei' (fun h=>by cases h.1)]
      rw [e]
      exact congrArg some (own_sw (by omega) (by omega) (by omega))
     ·intro j hj
      have e:hk ((576,refs i++[AV.ref 304 1 0])::(560,[AV.ref 304 1 0])::(16000,[])::(304,[AV.own 16000 0 1])::(128,[AV.int .i64 (-1),AV.int .i64 bs,AV.rows false (IL x) x.length,AV.rows false (IL y) y.length,AV.bool false])::(128,[AV.int .i64 0,AV.int .i64 0,AV.val (.slice none 0 0),AV.val (.slice none 0 0),AV.bool false])::(576,refs i)::(gam 1 (fA es i) (i+1)++gam 2 (fB es i) (i+1))) (fim 2 j)=some (fB es (i+1) j):=by
       simp only [hk,Awz _ _ 576 (by omega),Awz _ _ 560 (by omega),Awz _ _ 16000 (by omega),Awz _ _ 304 (by omega),Awz _ _ 128 (by omega),Awz _ _ 224 (by omega),if_false]
       rw [Cwz 1 _ _ _ 2 j (by omega),B9z 2 _ _ _ hj]
       unfold fB
       rw [kU_no hei' (fun h=>by cases h.1)]
      rw [e]
      exact congrArg some (il_sw _ _ _ _ _)
     ·rw [fA_new hp]
      exact congrArg some (Maz (by omega) (by omega))
     ·rw [fB_new hp]
      rfl
     ·simp [lk,AV.sw,Ipz,Fwz]
      rw [Bez (c:=fim 1 0) (Ne.symm (Epz _ _ _ (by omega))) (fun e=>by have:=Bkz e;omega),Bez (c:=fim 1 0) (Ne.symm (Epz _ _ _ (by omega))) (fun e=>by have:=B8z (by omega) (by omega) e;omega)]
     ·simp [AV.inn,Aaz,hk,Bfz,Awz]
     ·exact innR _ _ _ _ _ _ (by omega)
     ·intro j hj
      exact innA es (i+1) j (i+1+1) _ _ _ hj
     ·intro j hj
      exact Fhz _ _
    ·(repeat' (first
 | (first|refine Afz ?_|refine Abz ?_)
 | ((first|refine Agz ?_|refine Acz ?_|refine Amz ?_);simp (disch:=omega) only [push_cast,seval,hd,hel,hil,hrl,Aaz])
 | ((first | refine Alz (fun h => ?_) (fun h => ?_)) <;> (try simp only [h]) <;> (try simp only [bitvec_to_nat] at h) <;> (try simp only [h]) <;> (first | (exfalso; omega) | (focus (exfalso; simp_all; done)) | (simp (disch := omega) only [push_cast,seval,hd,hel,hil,hrl,Aaz]) | skip))))
     refine Fqz (f:=87) ?_
     simp (disch:=omega) only [push_cast,seval]
     refine hang_yes (id:=fim 1 (0)) (kid:=fim 2 (0)) (n:=(kidsT es (-1) i).length) (ks:=kidsT es (-1) i) (by simp (disch:=omega) only [push_cast,seval];exact congrArg some (fA_at (by omega))) (by simp (disch:=omega) only [push_cast,seval];exact congrArg some (fB_at (by omega))) (by simp) (Nat.le_trans (D9z es _ i) (by omega)) (fun e=>by have:=B8z (by omega) (by omega) e;omega) (by simp (disch:=omega) only [push_cast,seval]) ?_
     simp (disch:=omega) only [push_cast,seval,hrl]
     (repeat' (first
 | (first|refine Afz ?_|refine Abz ?_)
 | ((first | refine Agz ?_); simp (disch := omega) only [push_cast,seval,hrl])))
     have hei':es[i]?=some ((((0:Nat):Int)-1),(bs,x,y),true):=by rw [hei];congr 2;try omega
     refine ⟨i+1,by omega,by omega,?_⟩
     refine SubW.gam2 (a:=304) (b:=16000) (d1:=1) (d2:=2) (n:=i+1) (id0:=576) (c0:=[]) ⟨by omega,by omega,by omega⟩ ⟨by omega,by omega,by omega,by omega⟩ ?_ ?_ ?_ ?_ ?_ ?_ ?_ ?_ ?_ ?_
     ·exact congrArg some (Hrz (by omega) (by omega))
     ·intro j hj
      have e:hk ((576,refs i++[AV.ref 304 1 0])::(560,[AV.ref 304 1 0])::(16000,[])::(304,[AV.own 16000 0 1])::(fim 1 (0),[.own (fim 2 (0)) ((kidsT es (-1) i).length+1) 1])::(fim 2 (0),IL (kidsT es (-1) i++[(i:Int)]))::(224,[.int .i64 i])::(128,[AV.int .i64 (-1),AV.int .i64 bs,AV.rows false (IL x) x.length,AV.rows false (IL y) y.length,AV.bool true])::(128,[AV.int .i64 0,AV.int .i64 0,AV.val (.slice none 0 0),AV.val (.slice none 0 0),AV.bool false])::(576,refs i)::(gam 1 (fA es i) (i+1)++gam 2 (fB es i) (i+1))) (fim 1 j)=some (fA es (i+1) j):=by
       simp only [hk,Awz _ _ 576 (by omega),Awz _ _ 560 (by omega),Awz _ _ 16000 (by omega),Awz _ _ 304 (by omega),Awz _ _ 128 (by omega),Awz _ _ 224 (by omega),if_false]
       by_cases ej:j=0
       ·subst ej
        rw [if_pos rfl,fA_at (p:=(-1)) (by omega),Mgz hei,List.length_append]
        rfl
       ·rw [if_neg (fun e=>ej (Bkz e)),if_neg (fun e=>by have:=B8z (by omega) (by omega) e;omega),Bfz 1 _ _ _ _ hj]
        unfold fA
        rw [kU_no hei' (fun h=>ej h.2)]
      rw [e]
      exact congrArg some (own_sw (by omega) (by omega) (by omega))
     ·intro j hj
      have e:hk ((576,refs i++[AV.ref 304 1 0])::(560,[AV.ref 304 1 0])::(16000,[])::(304,[AV.own 16000 0 1])::(fim 1 (0),[.own (fim 2 (0)) ((kidsT es (-1) i).length+1) 1])::(fim 2 (0),IL (kidsT es (-1) i++[(i:Int)]))::(224,[.int .i64 i])::(128,[AV.int .i64 (-1),AV.int .i64 bs,AV.rows false (IL x) x.length,AV.rows false (IL y) y.length,AV.bool true])::(128,[AV.int .i64 0,AV.int .i64 0,AV.val (.slice none 0 0),AV.val (.slice none 0 0),AV.bool false])::(576,refs i)::(gam 1 (fA es i) (i+1)++gam 2 (fB es i) (i+1))) (fim 2 j)=some (fB es (i+1) j):=by
       simp only [hk,Awz _ _ 576 (by omega),Awz _ _ 560 (by omega),Awz _ _ 16000 (by omega),Awz _ _ 304 (by omega),Awz _ _ 128 (by omega),Awz _ _ 224 (by omega),if_false]
       by_cases ej:j=0
       ·subst ej
        rw [if_neg (fun e=>by have:=B8z (by omega) (by omega) e;omega),if_pos rfl,fB_at (p:=(-1)) (by omega),Mgz hei]
       ·rw [if_neg (fun e=>by have:=B8z (by omega) (by omega) e;omega),if_neg (fun e=>ej (Bkz e)),Cwz 1 _ _ _ 2 j (by omega),B9z 2 _ _ _ hj]
        unfold fB
        rw [kU_no hei' (fun h=>ej h.2)]
      rw [e]
      exact congrArg some (il_sw _ _ _ _ _)
     ·rw [fA_new hp]
      exact congrArg some (Maz (by omega) (by omega))
     ·rw [fB_new hp]
      rfl
     ·simp [lk,AV.sw,Ipz,Fwz]
      rw [Bez (c:=fim 1 0) (Ne.symm (Epz _ _ _ (by omega))) (fun e=>by have:=Bkz e;omega),Bez (c:=fim 1 0) (Ne.symm (Epz _ _ _ (by omega))) (fun e=>by have:=B8z (by omega) (by omega) e;omega)]
     ·simp [AV.inn,Aaz,hk,Bfz,Awz]
     ·exact innR _ _ _ _ _ _ (by omega)
     ·intro j hj
      exact innA es (i+1) j (i+1+1) _ _ _ hj
     ·intro j hj
      exact Fhz _ _
   ·obtain ⟨q,rfl⟩:∃ q:Nat,p=q:=⟨p.toNat,by omega⟩
    have hr1:=refs_1 (i:=i) (q:=q) (by omega)
    cases o
    ·(repeat' (first
 | (first|refine Afz ?_|refine Abz ?_)
 | ((first|refine Agz ?_|refine Acz ?_|refine Amz ?_);simp (disch:=omega) only [push_cast,seval,hd,hel,hil,hrl,Aaz,hr1])
 | ((first | refine Alz (fun h => ?_) (fun h => ?_)) <;> (try simp only [h]) <;> (try simp only [bitvec_to_nat] at h) <;> (try simp only [h]) <;> (first | (exfalso; omega) | (focus (exfalso; simp_all; done)) | (simp (disch := omega) only [push_cast,seval,hd,hel,hil,hrl,Aaz,hr1]) | skip))))
     refine Fqz (f:=87) ?_
     simp (disch:=omega) only [push_cast,seval]
     refine hang_no (id:=fim 1 (q+1)) (kid:=fim 2 (q+1)) (n:=(kidsT es (q:Int) i).length) (ks:=kidsT es (q:Int) i) (by simp (disch:=omega) only [push_cast,seval];exact congrArg some (fA_at (by omega))) (by simp (disch:=omega) only [push_cast,seval];exact congrArg some (fB_at (by omega))) (by simp (disch:=omega) only [push_cast,seval]) ?_
     simp (disch:=omega) only [push_cast,seval,hrl]
     (repeat' (first
 | (first|refine Afz ?_|refine Abz ?_)
 | ((first | refine Agz ?_); simp (disch := omega) only [push_cast,seval,hrl])))
     have hei':es[i]?=some ((((q+1:Nat):Int)-1),(bs,x,y),false):=by rw [hei];congr 2;try omega
     refine ⟨i+1,by omega,by omega,?_⟩
     refine SubW.gam2 (a:=304) (b:=16000) (d1:=1) (d2:=2) (n:=i+1) (id0:=576) (c0:=[]) ⟨by omega,by omega,by omega⟩ ⟨by omega,by omega,by omega,by omega⟩ ?_ ?_ ?_ ?_ ?_ ?_ ?_ ?_ ?_ ?_
     ·exact congrArg some (Hrz (by omega) (by omega))
     ·intro j hj
      have e:hk ((576,refs i++[AV.ref 304 1 0])::(560,[AV.ref 304 1 0])::(16000,[])::(304,[AV.own 16000 0 1])::(128,[AV.int .i64 (q:Int),AV.int .i64 bs,AV.rows false (IL x) x.length,AV.rows false (IL y) y.length,AV.bool false])::(128,[AV.int .i64 0,AV.int .i64 0,AV.val (.slice none 0 0),AV.val (.slice none 0 0),AV.bool false])::(576,refs i)::(gam 1 (fA es i) (i+1)++gam 2 (fB es i) (i+1))) (fim 1 j)=some (fA es (i+1) j):=by
       simp only [hk,Awz _ _ 576 (by omega),Awz _ _ 560 (by omega),Awz _ _ 16000 (by omega),Awz _ _ 304 (by omega),Awz _ _ 128 (by omega),Awz _ _ 224 (by omega),if_false]
       rw [Bfz 1 _ _ _ _ hj]
       unfold fA
       rw [kU_no hei' (fun h=>by cases h.1)]
      rw [e]
      exact congrArg some (own_sw (by omega) (by omega) (by omega))
     ·intro j hj
      have e:hk ((576,refs i++[AV.ref 304 1 0])::(560,[AV.ref 304 1 0])::(16000,[])::(304,[AV.own 16000 0 1])::(128,[AV.int .i64 (q:Int),AV.int .i64 bs,AV.rows false (IL x) x.length,AV.rows false (IL y) y.length,AV.bool false])::(128,[AV.int .i64 0,AV.int .i64 0,AV.val (.slice none 0 0),AV.val (.slice none 0 0),AV.bool false])::(576,refs i)::(gam 1 (fA es i) (i+1)++gam 2 (fB es i) (i+1))) (fim 2 j)=some (fB es (i+1) j):=by
       simp only [hk,Awz _ _ 576 (by omega),Awz _ _ 560 (by omega),Awz _ _ 16000 (by omega),Awz _ _ 304 (by omega),Awz _ _ 128 (by omega),Awz _ _ 224 (by omega),if_false]
       rw [Cwz 1 _ _ _ 2 j (by omega),B9z 2 _ _ _ hj]
       unfold fB
       rw [kU_no hei' (fun h=>by cases h.1)]
      rw [e]
      exact congrArg some (il_sw _ _ _ _ _)
     ·rw [fA_new hp]
      exact congrArg some (Maz (by omega) (by omega))
     ·rw [fB_new hp]
      rfl
     ·simp [lk,AV.sw,Ipz,Fwz]
      rw [Bez (c:=fim 1 0) (Ne.symm (Epz _ _ _ (by omega))) (fun e=>by have:=Bkz e;omega),Bez (c:=fim 1 0) (Ne.symm (Epz _ _ _ (by omega))) (fun e=>by have:=B8z (by omega) (by omega) e;omega)]
     ·simp [AV.inn,Aaz,hk,Bfz,Awz]
     ·exact innR _ _ _ _ _ _ (by omega)
     ·intro j hj
      exact innA es (i+1) j (i+1+1) _ _ _ hj
     ·intro j hj
      exact Fhz _ _
    ·(repeat' (first
 | (first|refine Afz ?_|refine Abz ?_)
 | ((first|refine Agz ?_|refine Acz ?_|refine Amz ?_);simp (disch:=omega) only [push_cast,seval,hd,hel,hil,hrl,Aaz,hr1])
 | ((first | refine Alz (fun h => ?_) (fun h => ?_)) <;> (try simp only [h]) <;> (try simp only [bitvec_to_nat] at h) <;> (try simp only [h]) <;> (first | (exfalso; omega) | (focus (exfalso; simp_all; done)) | (simp (disch := omega) only [push_cast,seval,hd,hel,hil,hrl,Aaz,hr1]) | skip))))
     refine Fqz (f:=87) ?_
     simp (disch:=omega) only [push_cast,seval]
     refine hang_yes (id:=fim 1 (q+1)) (kid:=fim 2 (q+1)) (n:=(kidsT es (q:Int) i).length) (ks:=kidsT es (q:Int) i) (by simp (disch:=omega) only [push_cast,seval];exact congrArg some (fA_at (by omega))) (by simp (disch:=omega) only [push_cast,seval];exact congrArg some (fB_at (by omega))) (by simp) (Nat.le_trans (D9z es _ i) (by omega)) (fun e=>by have:=B8z (by omega) (by omega) e;omega) (by simp (disch:=omega) only [push_cast,seval]) ?_
     simp (disch:=omega) only [push_cast,seval,hrl]
     (repeat' (first
 | (first|refine Afz ?_|refine Abz ?_)
 | ((first | refine Agz ?_); simp (disch := omega) only [push_cast,seval,hrl])))
     have hei':es[i]?=some ((((q+1:Nat):Int)-1),(bs,x,y),true):=by rw [hei];congr 2;try omega
     refine ⟨i+1,by omega,by omega,?_⟩
     refine SubW.gam2 (a:=304) (b:=16000) (d1:=1) (d2:=2) (n:=i+1) (id0:=576) (c0:=[]) ⟨by omega,by omega,by omega⟩ ⟨by omega,by omega,by omega,by omega⟩ ?_ ?_ ?_ ?_ ?_ ?_ ?_ ?_ ?_ ?_
     ·exact congrArg some (Hrz (by omega) (by omega))
     ·intro j hj
      have e:hk ((576,refs i++[AV.ref 304 1 0])::(560,[AV.ref 304 1 0])::(16000,[])::(304,[AV.own 16000 0 1])::(fim 1 (q+1),[.own (fim 2 (q+1)) ((kidsT es (q:Int) i).length+1) 1])::(fim 2 (q+1),IL (kidsT es (q:Int) i++[(i:Int)]))::(224,[.int .i64 i])::(128,[AV.int .i64 (q:Int),AV.int .i64 bs,AV.rows false (IL x) x.length,AV.rows false (IL y) y.length,AV.bool true])::(128,[AV.int .i64 0,AV.int .i64 0,AV.val (.slice none 0 0),AV.val (.slice none 0 0),AV.bool false])::(576,refs i)::(gam 1 (fA es i) (i+1)++gam 2 (fB es i) (i+1))) (fim 1 j)=some (fA es (i+1) j):=by
       simp only [hk,Awz _ _ 576 (by omega),Awz _ _ 560 (by omega),Awz _ _ 16000 (by omega),Awz _ _ 304 (by omega),Awz _ _ 128 (by omega),Awz _ _ 224 (by omega),if_false]
       by_cases ej:j=q+1
       ·subst ej
        rw [if_pos rfl,fA_at (p:=(q:Int)) (by omega),Mgz hei,List.length_append]
        rfl
       ·rw [if_neg (fun e=>ej (Bkz e)),if_neg (fun e=>by have:=B8z (by omega) (by omega) e;omega),Bfz 1 _ _ _ _ hj]
        unfold fA
        rw [kU_no hei' (fun h=>ej h.2)]
      rw [e]
      exact congrArg some (own_sw (by omega) (by omega) (by omega))
     ·intro j hj
      have e:hk ((576,refs i++[AV.ref 304 1 0])::(560,[AV.ref 304 1 0])::(16000,[])::(304,[AV.own 16000 0 1])::(fim 1 (q+1),[.own (fim 2 (q+1)) ((kidsT es (q:Int) i).length+1) 1])::(fim 2 (q+1),IL (kidsT es (q:Int) i++[(i:Int)]))::(224,[.int .i64 i])::(128,[AV.int .i64 (q:Int),AV.int .i64 bs,AV.rows false (IL x) x.length,AV.rows false (IL y) y.length,AV.bool true])::(128,[AV.int .i64 0,AV.int .i64 0,AV.val (.slice none 0 0),AV.val (.slice none 0 0),AV.bool false])::(576,refs i)::(gam 1 (fA es i) (i+1)++gam 2 (fB es i) (i+1))) (fim 2 j)=some (fB es (i+1) j):=by
       simp only [hk,Awz _ _ 576 (by omega),Awz _ _ 560 (by omega),Awz _ _ 16000 (by omega),Awz _ _ 304 (by omega),Awz _ _ 128 (by omega),Awz _ _ 224 (by omega),if_false]
       by_cases ej:j=q+1
       ·subst ej
        rw [if_neg (fun e=>by have:=B8z (by omega) (by omega) e;omega),if_pos rfl,fB_at (p:=(q:Int)) (by omega),Mgz hei]
       ·rw [if_neg (fun e=>by have:=B8z (by omega) (by omega) e;omega),if_neg (fun e=>ej (Bkz e)),Cwz 1 _ _ _ 2 j (by omega),B9z 2 _ _ _ hj]
        unfold fB
        rw [kU_no hei' (fun h=>ej h.2)]
      rw [e]
      exact congrArg some (il_sw _ _ _ _ _)
     ·rw [fA_new hp]
      exact congrArg some (Maz (by omega) (by omega))
     ·rw [fB_new hp]
      rfl
     ·simp [lk,AV.sw,Ipz,Fwz]
      rw [Bez (c:=fim 1 0) (Ne.symm (Epz _ _ _ (by omega))) (fun e=>by have:=Bkz e;omega),Bez (c:=fim 1 0) (Ne.symm (Epz _ _ _ (by omega))) (fun e=>by have:=B8z (by omega) (by omega) e;omega)]
     ·simp [AV.inn,Aaz,hk,Bfz,Awz]
     ·exact innR _ _ _ _ _ _ (by omega)
     ·intro j hj
      exact innA es (i+1) j (i+1+1) _ _ _ hj
     ·intro j hj
      exact Fhz _ _
  ·have e:i=es.length:=by omega
   subst e
   by_cases him:id=-1
   ·subst him
    (repeat' (first
 | (first|refine Afz ?_|refine Abz ?_)
 | ((first|refine Agz ?_|refine Acz ?_|refine Azz ?_);simp (disch:=omega) only [push_cast,seval,hel,Aaz])
 | ((first|refine Alz (fun h=>?_) (fun h=>?_))<;>(try simp only [h])<;>(try simp only [bitvec_to_nat] at h)<;>(try simp only [h])<;>(first|(exfalso;omega)|(exfalso;simp_all;done)|(simp (disch:=omega) only [push_cast,seval,hel,Aaz])|skip))))
    refine Adz ⟨.inr rfl,ret_node (Q:=0) (ks:=kidsT es (-1) es.length) rfl ?_ ?_⟩
    ·simp only [hk,Awz _ _ 576 (by omega),if_false]
     rw [Bfz 1 _ _ _ _ (by omega),fA_at (p:=-1) (by omega)]
    ·simp only [hk,Awz _ _ 576 (by omega),if_false]
     rw [Cwz 1 _ _ _ 2 0 (by omega),B9z 2 _ _ _ (by omega),fB_at (p:=-1) (by omega)]
   ·obtain ⟨q,rfl⟩:∃ q:Nat,id=q:=⟨id.toNat,by omega⟩
    have hql:q<es.length:=by omega
    have hr1:=refs_1 hql
    have hrl:=refs_len es.length
    (repeat' (first
 | (first|refine Afz ?_|refine Abz ?_)
 | ((first|refine Agz ?_|refine Acz ?_|refine Amz ?_|refine Azz ?_);simp (disch:=omega) only [push_cast,seval,hel,hr1,hrl,Aaz])
 | ((first|refine Alz (fun h=>?_) (fun h=>?_))<;>(try simp only [h])<;>(try simp only [bitvec_to_nat] at h)<;>(try simp only [h])<;>(first|(exfalso;omega)|(exfalso;simp_all;done)|(simp (disch:=omega) only [push_cast,seval,hel,hr1,hrl,Aaz])|skip))))
    refine Adz ⟨.inr rfl,ret_node (Q:=q+1) (ks:=kidsT es q es.length) rfl ?_ ?_⟩
    ·simp only [hk,Awz _ _ 576 (by omega),if_false]
     rw [Bfz 1 _ _ _ _ (by omega),fA_at (p:=(q:Int)) (by omega)]
    ·simp only [hk,Awz _ _ 576 (by omega),if_false]
     rw [Cwz 1 _ _ _ 2 (q+1) (by omega),B9z 2 _ _ _ (by omega),fB_at (p:=(q:Int)) (by omega)]


theorem C0z (cs:List Int)(es:List Ex)(m n:Nat)(id:Int)(hm:cs.length=m)(hn:es.length=n)(hb:m≤1000∧n≤1000)(hp:parOk es)(hid:-1≤id∧id<n) :
  PCall Tryz.prog 48 [.agg [.rows false (IL cs) m,.rows false (EL false es) n],.int .i64 id] (fun r=>r=.prow true [.rows true (IL (kidsT es id n)) (kidsT es id n).length] 0):=by
 refine (BCall.plain (node_ok cs es m n id hm hn hb hp hid)).mono ?_
 rintro r ⟨r0,H',⟨rfl,rfl⟩,rfl⟩
 simp [AV.ren,nthH,Isz]

end Go.Proofs.YtfccepgibbdfaaaGreatDoor
namespace Go.Proofs.YtfccepgibbdfaaaGreatDoor
open VwM Vw Go
variable [SentA]
variable [PowA]

/-- An export by itself. -/
def exV (m:Int)(i:Nat)(e:Ex):Bool:=(decide (-1≤e.1)&&decide (e.1≤(i:Int)-1))&&vV e.2.1.1 e.2.1.2.1 e.2.1.2.2&&(!e.2.2 || allI (offs e.2.1.1 e.2.1.2.1 e.2.1.2.2) 0 (m-1))
def opE (es:List Ex)(p:Int):Bool:=match es[p.toNat]? with|some f=>f.2.2|none=>false
/-- An export of a buffer. -/
def sxV (m:Int)(es:List Ex)(i:Nat)(e:Ex):Bool:=exV m i e&&(!e.2.2 || (decide (e.1<0) || opE es e.1))
def allX (f:Nat→Ex→Bool)(es:List Ex):Nat→Bool
 | 0=>true
 | k+1=>allX f es k&&(match es[k]? with|some e=>f k e|none=>true)
def vB (cs:List Int)(es:List Ex):Bool:=vMem cs&&decide (es.length≤8)&&allX (sxV cs.length es) es es.length
theorem H8z {f:Nat→Ex→Bool}{es:List Ex}{k:Nat}{e:Ex}(h:es[k]?=some e):allX f es (k+1)=(allX f es k&&f k e):=by simp only [allX,h]
theorem Dfz {f:Nat→Ex→Bool}{es:List Ex}:∀ {k:Nat},allX f es k=true↔∀ i e,i<k→es[i]?=some e→f i e=true
 | 0=>by simp [allX]
 | k+1=>by
  constructor
  ·intro h i e hi he
   simp only [allX,Bool.and_eq_true] at h
   by_cases hik:i=k
   ·subst hik;rw [he] at h;exact h.2
   ·exact Dfz.1 h.1 i e (by omega) he
  ·intro h
   simp only [allX,Bool.and_eq_true]
   refine ⟨Dfz.2 fun i e hi he=>h i e (by omega) he,?_⟩
   cases he:es[k]? with
 | none=>rfl
 | some e=>exact h k e (by omega) he
theorem allX_no {f:Nat→Ex→Bool}{es:List Ex}{i n:Nat}{e:Ex}(h:es[i]?=some e)(hf:f i e=false)(hi:i<n):allX f es n=false:=by
 rw [Bool.eq_false_iff]
 intro h'
 have:=Dfz.1 h' i e hi h
 rw [hf] at this;cases this
theorem Djz {es:List Ex}{i:Nat}(h:i<es.length):∃ p b x y o,es[i]?=some (p,(b,x,y),o):=⟨_,_,_,_,_,List.getElem?_eq_getElem h⟩
theorem parOk_of {m:Int}{es:List Ex}(h:allX (exV m) es es.length=true):parOk es:=fun i e he=>by
 have:=Dfz.1 h i e (List.getElem?_eq_some_iff.1 he).1 he
 simp only [exV,Bool.and_eq_true,decide_eq_true_eq] at this
 omega
/-- Bounds of what a buffer's exports have. -/
def exB (n:Nat)(es:List Ex):Prop:=∀ e∈es,e.2.1.2.1.length≤n∧e.2.1.2.2.length≤n
theorem Cgz {n:Nat}{es:List Ex}(h:exB n es){i:Nat}{p b:Int}{x y:List Int}{o:Bool}(he:es[i]?=some (p,(b,x,y),o)):x.length≤n∧y.length≤n:=h _ (List.mem_of_getElem? he)


theorem Esz (b:Int)(sh st:List Int)(s:Int)(n m:Nat)(hn:sh.length=n)(hm:st.length=m)(hb:okV b sh st∧-1000000≤s∧s≤1099511627776):PCall Tryz.prog 93 [.agg [.int .i64 b,.rows false (IL sh) n,.rows false (IL st) m],.int .i64 s] (fun r=>r=.bool (allI (offs b sh st) 0 (s-1))):=by
 subst hn hm
 obtain ⟨hok,hs1,hs2⟩:=hb
 have hol:=Bdz b sh st
 have hpb:=hok.1.2
 have hlb:(offs b sh st).length≤1099511627776:=by omega
 refine Atz l93_eq rfl ?_
 (repeat' ((first
 | (first|refine Afz ?_|refine Abz ?_)
 | (first|refine Agz ?_)
 | (first|refine Ajz false ?_)
 | (first|(refine Aiz (Diz _ _ _ _ _ ?_ ?_ ?_) ?_;(iterate 3 (exact sd));rintro _ _ ⟨rfl,rfl⟩)|(refine Aiz (Akz (C1z _ _ _ _ ?_ ?_)) ?_;(iterate 2 (exact sd));rintro _ _ ⟨rfl,rfl⟩))
 | (refine Adz ⟨.inr rfl,_,rfl,?_⟩))<;>(try simp (disch:=omega) only [push_cast,seval])))


set_option maxHeartbeats 8000000 in
theorem svEx_ok (cs:List Int)(es:List Ex)(m n i:Nat)(p b:Int)(x y:List Int)(o:Bool)(hm:cs.length=m)(hn:es.length=n)(he:es[i]?=some (p,(b,x,y),o))(hb:m≤1099511627776∧n≤1099511627776∧exB 1099511627776 es) :
  PCall Tryz.prog 54 [.agg [.rows false (IL cs) m,.rows false (EL false es) n],.int .i64 i] (fun r=>r=.bool (sxV m es i (p,(b,x,y),o))):=by
 subst hm hn
 obtain ⟨hb1,hb2,hb3⟩:=hb
 have hlt:i<es.length:=(List.getElem?_eq_some_iff.1 he).1
 obtain ⟨hbx,hby⟩:=Cgz hb3 he
 have hd:=Btz false es i he
 simp only at hd
 have hel:=Auz false es
 have hil:i*5+5≤es.length*5:=by omega
 refine Atz l54_eq rfl ?_
 unfold sxV exV
 simp only
 by_cases hp:-1≤p∧p≤(i:Int)-1
 ·have hpd:(decide (-1≤p)&&decide (p≤(i:Int)-1))=true:=by rw [Bool.and_eq_true,decide_eq_true_eq,decide_eq_true_eq];exact hp
  rw [hpd]
  cases hv:vV b x y with
  | false =>
   (repeat' ((first
 | (first|refine Afz ?_|refine Abz ?_)
 | (first|refine Agz ?_|refine Acz ?_)
 | (first|refine Ajz false ?_)
 | (first|(refine Aiz (Akz (A1z _ _ _)) ?_;rintro _ _ ⟨rfl,rfl⟩)|(refine Aiz (Akz (A3z _ _ _ _ _ ?_ ?_ ?_)) ?_;(iterate 3 (exact sd));rintro _ _ ⟨rfl,rfl⟩))
 | (refine Adz ⟨.inr rfl,_,rfl,?_⟩))<;>(try simp (disch:=omega) only [push_cast,seval,hd,hel,hil,hv,hpd,Aaz])))
   all_goals (try simp)
  | true =>
   have q:okV b x y∧-1000000≤(cs.length:Int)∧(cs.length:Int)≤1099511627776:=⟨(Dsz hv).1,by omega⟩
   cases o with
 | false =>
    (repeat' ((first
 | (first|refine Afz ?_|refine Abz ?_)
 | (first|refine Agz ?_|refine Acz ?_|refine Amz ?_)
 | (first|refine Ajz false ?_)
 | (first|(refine Aiz (Akz (A1z _ _ _)) ?_;rintro _ _ ⟨rfl,rfl⟩)|(refine Aiz (Akz (A3z _ _ _ _ _ ?_ ?_ ?_)) ?_;(iterate 3 (exact sd));rintro _ _ ⟨rfl,rfl⟩))
 | (refine Adz ⟨.inr rfl,_,rfl,?_⟩))<;>(try simp (disch:=omega) only [push_cast,seval,hd,hel,hil,hv,hpd,Aaz])))
    all_goals (try simp)
 | true =>
    cases hf:allI (offs b x y) 0 ((cs.length:Int)-1) with
    | false =>
     (repeat' ((first
 | (first|refine Afz ?_|refine Abz ?_)
 | (first|refine Agz ?_|refine Acz ?_|refine Amz ?_)
 | (first|refine Ajz false ?_)
 | (first|(refine Aiz (Akz (A1z _ _ _)) ?_;rintro _ _ ⟨rfl,rfl⟩)|(refine Aiz (Akz (A3z _ _ _ _ _ ?_ ?_ ?_)) ?_;(iterate 3 (exact sd));rintro _ _ ⟨rfl,rfl⟩)|(refine Aiz (Akz (Esz _ _ _ _ _ _ ?_ ?_ ?_)) ?_;(iterate 3 (exact sd));rintro _ _ ⟨rfl,rfl⟩))
 | (refine Adz ⟨.inr rfl,_,rfl,?_⟩; (try simp (disch := omega) only [push_cast,seval,hd,hel,hil,hv,hpd,hf,Aaz])))<;>(try simp (disch:=omega) only [push_cast,seval,hd,hel,hil,hv,hpd,hf,Aaz])))
     all_goals (try simp)
    | true =>
     by_cases hpm:p<0
     ·(repeat' ((first
 | (first|refine Afz ?_|refine Abz ?_)
 | (first|refine Agz ?_|refine Acz ?_|refine Amz ?_)
 | (first|refine Ajz false ?_)
 | (first|(refine Aiz (Akz (A1z _ _ _)) ?_;rintro _ _ ⟨rfl,rfl⟩)|(refine Aiz (Akz (A3z _ _ _ _ _ ?_ ?_ ?_)) ?_;(iterate 3 (exact sd));rintro _ _ ⟨rfl,rfl⟩)|(refine Aiz (Akz (Esz _ _ _ _ _ _ ?_ ?_ ?_)) ?_;(iterate 3 (exact sd));rintro _ _ ⟨rfl,rfl⟩))
 | (refine Adz ⟨.inr rfl,_,rfl,?_⟩; (try simp (disch := omega) only [push_cast,seval,hd,hel,hil,hv,hpd,hf,hpm,Aaz])))<;>(try simp (disch:=omega) only [push_cast,seval,hd,hel,hil,hv,hpd,hf,hpm,Aaz])))
      all_goals (try simp [hpm])
     ·obtain ⟨q,rfl⟩:∃ q:Nat,p=q:=⟨p.toNat,by omega⟩
      obtain ⟨p2,b2,x2,y2,o2,he2⟩:=Djz (es:=es) (i:=q) (by omega)
      have hd2:=Btz false es q he2
      simp only at hd2
      have hil2:q*5+5≤es.length*5:=by omega
      have h4:((EL false es).drop (q*5+4)).take 1=[.bool o2]:=by
       have:=congrArg (fun l=>(l.drop 4).take 1) hd2
       simpa [List.drop_take,List.drop_drop,List.take_take] using this
      have ho:opE es (q:Int)=o2:=by simp [opE,he2]
      (repeat' ((first
 | (first|refine Afz ?_|refine Abz ?_)
 | (first|refine Agz ?_|refine Acz ?_|refine Amz ?_)
 | (first|refine Ajz false ?_)
 | (first|(refine Aiz (Akz (A1z _ _ _)) ?_;rintro _ _ ⟨rfl,rfl⟩)|(refine Aiz (Akz (A3z _ _ _ _ _ ?_ ?_ ?_)) ?_;(iterate 3 (exact sd));rintro _ _ ⟨rfl,rfl⟩)|(refine Aiz (Akz (Esz _ _ _ _ _ _ ?_ ?_ ?_)) ?_;(iterate 3 (exact sd));rintro _ _ ⟨rfl,rfl⟩))
 | (refine Adz ⟨.inr rfl,_,rfl,?_⟩; (try simp (disch := omega) only [push_cast,seval,hd,hel,hil,hd2,hil2,h4,hv,hpd,hf,hpm,ho,Aaz])))<;>(try simp (disch:=omega) only [push_cast,seval,hd,hel,hil,hd2,hil2,h4,hv,hpd,hf,hpm,ho,Aaz])))
      all_goals (try simp [hpm,ho])
 ·have hpd:(decide (-1≤p)&&decide (p≤(i:Int)-1))=false:=by rw [Bool.eq_false_iff];intro h;simp at h;omega
  rw [hpd]
  (repeat' ((first
 | (first|refine Afz ?_|refine Abz ?_)
 | (first|refine Agz ?_|refine Acz ?_)
 | (first|refine Ajz false ?_)
 | (first|(refine Aiz (Akz (A1z _ _ _)) ?_;rintro _ _ ⟨rfl,rfl⟩))
 | (refine Adz ⟨.inr rfl,_,rfl,?_⟩))<;>(try simp (disch:=omega) only [push_cast,seval,hd,hel,hil,hpd,Aaz])))
  all_goals (try simp)

end Go.Proofs.YtfccepgibbdfaaaGreatDoor
