/- Texts of this verifier. -/
import Derived.Test.YtkpcjppnjmhanaaGreatDoorCB5
import Derived.Test.YtkpcjppnjmhanaaGreatDoorCM1
import Derived.Test.YtkpcjppnjmhanaaGreatDoorCW3
set_option maxHeartbeats 4000000
set_option linter.unusedSimpArgs false
set_option linter.unusedSectionVars false
set_option linter.unusedVariables false
set_option maxRecDepth 4000
namespace Go.Proofs.YtkpcjppnjmhanaaGreatDoor
open VwM Vw Go
variable [SentA]

def fA (es:List Ex) (i j:Nat):List AV:=[.own (fim 2 j) (kidsT es ((j:Int) - 1) i).length 1]
def fB (es:List Ex) (i j:Nat):List AV:=IL (kidsT es ((j:Int) - 1) i)
def refs (i:Nat):List AV:=row i fun j=>.ref (fim 1 (j + 1)) 1 0
theorem refs_1 {i q:Nat} (h:q < i):((refs i).drop q).take 1=[.ref (fim 1 (q + 1)) 1 0]:=row_1 _ _ _ (by omega)
theorem refs_len (i:Nat):(refs i).length=i:=Fiz ..
theorem swL_ref (a b a' b' i:Nat):swL b (fim 2 b') (swL a (fim 1 a') (refs i ++ [.ref a 1 0]))=swL b (fim 2 b') (swL a (fim 1 a') (refs i)) ++ [.ref (swp b (fim 2 b') (fim 1 a')) 1 0]:=by
  simp only [Ezz,List.map_append,List.map_cons,List.map_nil,AV.sw,Hhz]
theorem refs_sw {a b n i:Nat} (ha:a < 1099511627776) (hb:b < 1099511627776) (h:i ≤ n):swL b (fim 2 (n + 1)) (swL a (fim 1 (n + 1)) (refs i))=refs i:=by
  rw [Ezz,Ezz]
  unfold refs
  rw [Dlz,Dlz]
  refine Cqz fun p hp=>?_
  simp only [AV.sw]
  rw [Bfz (c:=fim 1 (p + 1)) (Ne.symm (D8z _ _ _ ha)) (fun e=>by have:=Btz e;omega)]
  rw [Bfz (c:=fim 1 (p + 1)) (Ne.symm (D8z _ _ _ hb)) (fun e=>by have:=B5z (by omega) (by omega) e;omega)]
theorem Guz {a b n:Nat} (ha:a < 1099511627776) (hb:b < 1099511627776):swL b (fim 2 (n + 1)) (swL a (fim 1 (n + 1)) (refs n ++ [.ref a 1 0]))=refs (n + 1):=by
  rw [swL_ref,refs_sw ha hb (Nat.le_refl _),Bfz (c:=fim 1 (n + 1)) (Ne.symm (D8z _ _ _ hb)) (fun e=>by have:=B5z (by omega) (by omega) e;omega)]
  unfold refs row
  rw [List.range_succ,List.map_append]
  rfl
theorem own_sw {a b n j k sz:Nat} (ha:a < 1099511627776) (hb:b < 1099511627776) (h:j ≤ n):swL b (fim 2 (n + 1)) (swL a (fim 1 (n + 1)) [.own (fim 2 j) k sz])=[.own (fim 2 j) k sz]:=by
  simp only [swL,AV.sw]
  rw [Bfz (c:=fim 2 j) (Ne.symm (D8z _ _ _ ha)) (fun e=>by have:=B5z (by omega) (by omega) e;omega),Bfz (c:=fim 2 j) (Ne.symm (D8z _ _ _ hb)) (fun e=>by have:=Btz e;omega)]
theorem Lgz {a b n k sz:Nat} (hab:b ≠ a) (hb:b < 1099511627776):swL b (fim 2 (n + 1)) (swL a (fim 1 (n + 1)) [.own b k sz])=[.own (fim 2 (n + 1)) k sz]:=by
  simp only [swL,AV.sw]
  rw [Bfz hab (D8z _ _ _ hb),Hhz]
theorem il_sw (a b x y:Nat) (l:List Int):swL b y (swL a x (IL l))=IL l:=by rw [E0z,E0z]
theorem fA_new {es:List Ex} (h:parOk es) (i:Nat):fA es (i + 1) (i + 1)=[.own (fim 2 (i + 1)) 0 1]:=by
  unfold fA
  rw [show (((i + 1:Nat):Int) - 1)=(i:Int) by omega,Jbz h i (i + 1) (Nat.le_refl _)];rfl
theorem fB_new {es:List Ex} (h:parOk es) (i:Nat):fB es (i + 1) (i + 1)=[]:=by
  unfold fB
  rw [show (((i + 1:Nat):Int) - 1)=(i:Int) by omega,Jbz h i (i + 1) (Nat.le_refl _)];rfl
theorem kU_no {es:List Ex} {i Q j:Nat} {v:Vw3} {o:Bool} (h:es[i]?=some ((Q:Int) - 1,v,o)) (hj:¬ (o=true ∧ j=Q)):kidsT es ((j:Int) - 1) (i + 1)=kidsT es ((j:Int) - 1) i :=
  Frz h (fun hh=>hj ⟨hh.1,by have:=hh.2;simp only at this;omega⟩)
theorem fA_at {es:List Ex} {i Q:Nat} {p:Int} (h:(Q:Int) - 1=p):fA es i Q=[.own (fim 2 Q) (kidsT es p i).length 1]:=by subst h;rfl
theorem fB_at {es:List Ex} {i Q:Nat} {p:Int} (h:(Q:Int) - 1=p):fB es i Q=IL (kidsT es p i):=by subst h;rfl
theorem Llz {es:List Ex} {i:Nat} {p:Int} {v:Vw3} (h:es[i]?=some (p,v,true)):kidsT es p (i + 1)=kidsT es p i ++ [(i:Int)]:=Jaz h ⟨rfl,rfl⟩
theorem innA (es:List Ex) (i j n:Nat) (c1:List AV) (id0:Nat) (f:Nat → List AV) (h:j < n):innL (fun id=>(hk ((id0,c1) :: (gam 1 f n ++ gam 2 (fB es i) n)) id).isSome) (fA es i j)=true:=by
  simp only [fA,innL,AV.inn,hk,Bool.and_true]
  split
  · rfl
  · rw [Clz 1 _ _ _ 2 j (by omega),B6z 2 _ _ _ h];rfl
theorem innR (i n:Nat) (c1:List AV) (id0:Nat) (f g:Nat → List AV) (h:i < n):innL (fun id=>(hk ((id0,c1) :: (gam 1 f n ++ gam 2 g n)) id).isSome) (refs i)=true:=by
  refine innL_row _ _ _ fun p hp=>?_
  simp only [AV.inn,hk]
  split
  · rfl
  · rw [Bjz 1 _ _ _ _ (by omega)];rfl
theorem Hvz (a b:Nat) (c:Bool):∀ es:List Ex,swL a b (EL c es)=EL c es
  | []=>rfl
  | l :: r=>by simp only [EL,swL,AV.sw,E0z,Hvz a b c r]
theorem ret_node [Inhabited GlobT] {σ:List (Nat × AV)} {H:List (Nat × List AV)} {res:List ARes} {Q:Nat} {ks:List Int} (hl:aresL (mkS σ H) res=some [.ref (fim 1 Q) 1 0]) (h0:hk H (fim 1 Q)=some [.own (fim 2 Q) ks.length 1]) (h1:hk H (fim 2 Q)=some (IL ks)) :
    ∃ (outs:List Nat) (nils:List (Nat × Nat)) (l:List AV),(outs.Nodup ∧ ∀ id ∈ outs,True) ∧ aresL (mkS σ H) res=some l ∧ (∀ p ∈ nils,(mkS σ H).H p.1=none ∧ inN outs p.1) ∧
      AV.ren (posF outs) (orNil (mkS σ H).H outs) true some 5 (AV.fixNil nils (tupOf l)).1=.ref 0 1 0 ∧ List.map (fun id=>List.map (AV.ren (posF outs) (orNil (mkS σ H).H outs) true some 5) (((mkS σ H).H id).getD [])) outs=[[.own 1 ks.length 1],IL ks]:=by
  have hne:fim 1 Q ≠ fim 2 Q:=fun e=>by have:=B5z (by omega) (by omega) e;omega
  have p0:posF [fim 1 Q,fim 2 Q] (fim 1 Q)=some 0:=by simp [posF,posL]
  have p1:posF [fim 1 Q,fim 2 Q] (fim 2 Q)=some 1:=by simp [posF,posL,Ne.symm hne]
  refine ⟨[fim 1 Q,fim 2 Q],[],_,⟨by simp [hne],fun _ _=>trivial⟩,hl,(fun _ h=>by cases h),?_,?_⟩
  · show AV.ren _ _ _ _ 5 (.ref (fim 1 Q) 1 0)=_
    rw [ren_ref,p0,renR_some]
  · show [List.map _ ((hk H (fim 1 Q)).getD []),List.map _ ((hk H (fim 2 Q)).getD [])]=_
    rw [h0,h1]
    show [[AV.ren _ _ _ _ 5 (.own (fim 2 Q) ks.length 1)],List.map _ (IL ks)]=_
    rw [Gaz,p1,E4z,J7z]


set_option maxHeartbeats 16000000 in
theorem node_ok (cs:List Int) (es:List Ex) (m n:Nat) (id:Int) (hm:cs.length=m) (hn:es.length=n) (hb:m ≤ 1000 ∧ n ≤ 1000) (hp:parOk es) (hid:-1 ≤ id ∧ id < n) :
    BCall Tryz.prog 44 [.agg [.rows false (IL cs) m,.rows false (EL false es) n],.int .i64 id] [] (fun r H'=>r=.ref 0 1 0 ∧ H'=[[.own 1 (kidsT es id n).length 1],IL (kidsT es id n)]):=by
  subst hm hn
  obtain ⟨hb1,hb2⟩:=hb
  refine Atz (pins:=[]) (pin:=0) l44_eq rfl rfl rfl ?_
  have hel:=A1z false es
  (repeat' (first
 | (first|refine Ahz ?_|refine Abz ?_)
 | ((first|refine Aiz ?_);simp (disch:=omega) only [push_cast,seval,l44r0,l44r1,l44r2,l44r3,l44r4,l44r5,l44r6,l44r7,l44r8,l44r9,l44r10,l44r11,l44r12,l44r13,Aaz])))
  refine Djz (fun i:Nat=>mkS [(1,.int .i64 id),(5,.ref (fim 1 0) 1 0),(6,.own 576 i 1),(13,.rows false (EL false es) es.length),(14,.int .i64 es.length),(15,.int .i64 i)] ((576,refs i) :: (gam 1 (fA es i) (i + 1) ++ gam 2 (fB es i) (i + 1)))) (fun i=>i ≤ es.length) (fun i=>es.length - i) 0 (Nat.zero_le _) ?_ ?_
  · refine SubW.adopt [6] 576 1 rfl ?_
    refine SubW.adoptH [176] 16000 1 rfl ?_
    refine SubW.gam2 (a:=176) (b:=16000) (d1:=1) (d2:=2) (n:=0) (id0:=576) (c0:=[]) ⟨by omega,by omega,by omega⟩ ⟨by omega,by omega,by omega,by omega⟩ rfl (fun j h=>absurd h (Nat.not_lt_zero _)) (fun j h=>absurd h (Nat.not_lt_zero _)) ?_ ?_ ?_ ?_ ?_ ?_ ?_
    · have e:fA es 0 0=[.own (fim 2 0) 0 1]:=rfl
      rw [e]
      show some [AV.own (swp 16000 (fim 2 0) (swp 176 (fim 1 0) 16000)) 0 1]=_
      rw [Eyz 176 1 0 16000 (by omega) (by omega),Hhz]
    · rfl
    · simp [lk,AV.sw,Hvz,Eyz,adL,adA,Hhz]
      try rw [Bfz (Ne.symm (D8z _ _ _ (by omega))) (fun e=>by have:=B5z (by omega) (by omega) e;omega)]
    · simp [AV.inn,Aaz,hk,refs,row,Bjz,ne_fim,Axz]
    · rfl
    · intro j hj
      exact innA es 0 j 1 _ _ _ hj
    · intro j hj
      exact Epz _ _
  · intro i hi
    by_cases hlt:i < es.length
    · obtain ⟨⟨p,⟨bs,x,y⟩,o⟩,hei⟩:∃ e,es[i]?=some e:=⟨_,List.getElem?_eq_getElem hlt⟩
      have hpp:=hp i _ hei
      simp only at hpp
      have hd:=B9z false es i hei
      simp only at hd
      have hil:i * 5 + 5 ≤ es.length * 5:=by omega
      have hrl:=refs_len i
      by_cases hpm:p=-1
      · subst hpm
        cases o
        · (repeat' (first
 | (first|refine Ahz ?_|refine Abz ?_)
 | ((first|refine Aiz ?_|refine Afz ?_|refine Apz ?_);simp (disch:=omega) only [push_cast,seval,l44r0,l44r1,l44r2,l44r3,l44r4,l44r5,l44r6,l44r7,l44r8,l44r9,l44r10,l44r11,l44r12,l44r13,hd,hel,hil,hrl,Aaz])
 | ((first | refine Anz (fun h => ?_) (fun h => ?_)) <;> (try simp only [h]) <;> (try simp only [bitvec_to_nat] at h) <;> (try simp only [h]) <;> (first | (exfalso; omega) | (focus (exfalso; simp_all; done)) | (simp (disch := omega) only [push_cast,seval,hd,hel,hil,hrl,Aaz]) | skip))))
          refine Ihz (f:=83) ?_
          simp (disch:=omega) only [push_cast,seval]
          refine hang_no (id:=fim 1 (0)) (kid:=fim 2 (0)) (n:=(kidsT es (-1) i).length) (ks:=kidsT es (-1) i) (by simp (disch:=omega) only [push_cast,seval];exact congrArg some (fA_at (by omega))) (by simp (disch:=omega) only [push_cast,seval];exact congrArg some (fB_at (by omega))) (by simp (disch:=omega) only [push_cast,seval]) ?_
          simp (disch:=omega) only [push_cast,seval,l44r0,l44r1,l44r2,l44r3,l44r4,l44r5,l44r6,l44r7,l44r8,l44r9,l44r10,l44r11,l44r12,l44r13,hrl]
          (repeat' (first
 | (first|refine Ahz ?_|refine Abz ?_)
 | ((first | refine Aiz ?_); simp (disch := omega) only [push_cast,seval,l44r0,l44r1,l44r2,l44r3,l44r4,l44r5,l44r6,l44r7,l44r8,l44r9,l44r10,l44r11,l44r12,l44r13,hrl])))
          have hei':es[i]?=some ((((0:Nat):Int) - 1),(bs,x,y),false):=by rw [hei];congr 2;try omega
          refine ⟨i + 1,by omega,by omega,?_⟩
          refine SubW.gam2 (a:=304) (b:=16000) (d1:=1) (d2:=2) (n:=i + 1) (id0:=576) (c0:=[]) ⟨by omega,by omega,by omega⟩ ⟨by omega,by omega,by omega,by omega⟩ ?_ ?_ ?_ ?_ ?_ ?_ ?_ ?_ ?_ ?_
          · exact congrArg some (Guz (by omega) (by omega))
          · intro j hj
            have e:hk ((576,refs i ++ [AV.ref 304 1 0]) :: (560,[AV.ref 304 1 0]) :: (16000,[]) :: (304,[AV.own 16000 0 1]) :: (128,[AV.int .i64 (-1),AV.int .i64 bs,AV.rows false (IL x) x.length,AV.rows false (IL y) y.length,AV.bool false]) :: (128,[AV.int .i64 0,AV.int .i64 0,AV.val (.slice none 0 0),AV.val (.slice none 0 0),AV.bool false]) :: (576,refs i) :: (gam 1 (fA es i) (i + 1) ++ gam 2 (fB es i) (i + 1))) (fim 1 j)=some (fA es (i + 1) j):=by
              simp only [hk,Axz _ _ 576 (by omega),Axz _ _ 560 (by omega),Axz _ _ 16000 (by omega),Axz _ _ 304 (by omega),Axz _ _ 128 (by omega),Axz _ _ 224 (by omega),if_false]
              rw [Bjz 1 _ _ _ _ hj]
              unfold fA
              rw [kU_no hei' (fun h=>by cases h.1)]
            rw [e]
            exact congrArg some (own_sw (by omega) (by omega) (by omega))
          · intro j hj
            have e:hk ((576,refs i ++ [AV.ref 304 1 0]) :: (560,[AV.ref 304 1 0]) :: (16000,[]) :: (304,[AV.own 16000 0 1]) :: (128,[AV.int .i64 (-1),AV.int .i64 bs,AV.rows false (IL x) x.length,AV.rows false (IL y) y.length,AV.bool false]) :: (128,[AV.int .i64 0,AV.int .i64 0,AV.val (.slice none 0 0),AV.val (.slice none 0 0),AV.bool false]) :: (576,refs i) :: (gam 1 (fA es i) (i + 1) ++ gam 2 (fB es i) (i + 1))) (fim 2 j)=some (fB es (i + 1) j):=by
              simp only [hk,Axz _ _ 576 (by omega),Axz _ _ 560 (by omega),Axz _ _ 16000 (by omega),Axz _ _ 304 (by omega),Axz _ _ 128 (by omega),Axz _ _ 224 (by omega),if_false]
              rw [Clz 1 _ _ _ 2 j (by omega),B6z 2 _ _ _ hj]
              unfold fB
              rw [kU_no hei' (fun h=>by cases h.1)]
            rw [e]
            exact congrArg some (il_sw _ _ _ _ _)
          · rw [fA_new hp]
            exact congrArg some (Lgz (by omega) (by omega))
          · rw [fB_new hp]
            rfl
          · simp [lk,AV.sw,Hvz,Eyz]
            rw [Bfz (c:=fim 1 0) (Ne.symm (D8z _ _ _ (by omega))) (fun e=>by have:=Btz e;omega),Bfz (c:=fim 1 0) (Ne.symm (D8z _ _ _ (by omega))) (fun e=>by have:=B5z (by omega) (by omega) e;omega)]
          · simp [AV.inn,Aaz,hk,Bjz,Axz]
          · exact innR _ _ _ _ _ _ (by omega)
          · intro j hj
            exact innA es (i + 1) j (i + 1 + 1) _ _ _ hj
          · intro j hj
            exact Epz _ _
        · (repeat' (first
 | (first|refine Ahz ?_|refine Abz ?_)
 | ((first|refine Aiz ?_|refine Afz ?_|refine Apz ?_);simp (disch:=omega) only [push_cast,seval,l44r0,l44r1,l44r2,l44r3,l44r4,l44r5,l44r6,l44r7,l44r8,l44r9,l44r10,l44r11,l44r12,l44r13,hd,hel,hil,hrl,Aaz])
 | ((first | refine Anz (fun h => ?_) (fun h => ?_)) <;> (try simp only [h]) <;> (try simp only [bitvec_to_nat] at h) <;> (try simp only [h]) <;> (first | (exfalso; omega) | (focus (exfalso; simp_all; done)) | (simp (disch := omega) only [push_cast,seval,hd,hel,hil,hrl,Aaz]) | skip))))
          refine Ihz (f:=83) ?_
          simp (disch:=omega) only [push_cast,seval]
          refine hang_yes (id:=fim 1 (0)) (kid:=fim 2 (0)) (n:=(kidsT es (-1) i).length) (ks:=kidsT es (-1) i) (by simp (disch:=omega) only [push_cast,seval];exact congrArg some (fA_at (by omega))) (by simp (disch:=omega) only [push_cast,seval];exact congrArg some (fB_at (by omega))) (by simp) (Nat.le_trans (E9z es _ i) (by omega)) (fun e=>by have:=B5z (by omega) (by omega) e;omega) (by simp (disch:=omega) only [push_cast,seval]) ?_
          simp (disch:=omega) only [push_cast,seval,l44r0,l44r1,l44r2,l44r3,l44r4,l44r5,l44r6,l44r7,l44r8,l44r9,l44r10,l44r11,l44r12,l44r13,hrl]
          (repeat' (first
 | (first|refine Ahz ?_|refine Abz ?_)
 | ((first | refine Aiz ?_); simp (disch := omega) only [push_cast,seval,l44r0,l44r1,l44r2,l44r3,l44r4,l44r5,l44r6,l44r7,l44r8,l44r9,l44r10,l44r11,l44r12,l44r13,hrl])))
          have hei':es[i]?=some ((((0:Nat):Int) - 1),(bs,x,y),true):=by rw [hei];congr 2;try omega
          refine ⟨i + 1,by omega,by omega,?_⟩
          refine SubW.gam2 (a:=304) (b:=16000) (d1:=1) (d2:=2) (n:=i + 1) (id0:=576) (c0:=[]) ⟨by omega,by omega,by omega⟩ ⟨by omega,by omega,by omega,by omega⟩ ?_ ?_ ?_ ?_ ?_ ?_ ?_ ?_ ?_ ?_
          · exact congrArg some (Guz (by omega) (by omega))
          · intro j hj
            have e:hk ((576,refs i ++ [AV.ref 304 1 0]) :: (560,[AV.ref 304 1 0]) :: (16000,[]) :: (304,[AV.own 16000 0 1]) :: (fim 1 (0),[.own (fim 2 (0)) ((kidsT es (-1) i).length + 1) 1]) :: (fim 2 (0),IL (kidsT es (-1) i ++ [(i:Int)])) :: (224,[.int .i64 i]) :: (128,[AV.int .i64 (-1),AV.int .i64 bs,AV.rows false (IL x) x.length,AV.rows false (IL y) y.length,AV.bool true]) :: (128,[AV.int .i64 0,AV.int .i64 0,AV.val (.slice none 0 0),AV.val (.slice none 0 0),AV.bool false]) :: (576,refs i) :: (gam 1 (fA es i) (i + 1) ++ gam 2 (fB es i) (i + 1))) (fim 1 j)=some (fA es (i + 1) j):=by
              simp only [hk,Axz _ _ 576 (by omega),Axz _ _ 560 (by omega),Axz _ _ 16000 (by omega),Axz _ _ 304 (by omega),Axz _ _ 128 (by omega),Axz _ _ 224 (by omega),if_false]
              by_cases ej:j=0
              · subst ej
                rw [if_pos rfl,fA_at (p:=(-1)) (by omega),Llz hei,List.length_append]
                rfl
              · rw [if_neg (fun e=>ej (Btz e)),if_neg (fun e=>by have:=B5z (by omega) (by omega) e;omega),Bjz 1 _ _ _ _ hj]
                unfold fA
                rw [kU_no hei' (fun h=>ej h.2)]
            rw [e]
            exact congrArg some (own_sw (by omega) (by omega) (by omega))
          · intro j hj
            have e:hk ((576,refs i ++ [AV.ref 304 1 0]) :: (560,[AV.ref 304 1 0]) :: (16000,[]) :: (304,[AV.own 16000 0 1]) :: (fim 1 (0),[.own (fim 2 (0)) ((kidsT es (-1) i).length + 1) 1]) :: (fim 2 (0),IL (kidsT es (-1) i ++ [(i:Int)])) :: (224,[.int .i64 i]) :: (128,[AV.int .i64 (-1),AV.int .i64 bs,AV.rows false (IL x) x.length,AV.rows false (IL y) y.length,AV.bool true]) :: (128,[AV.int .i64 0,AV.int .i64 0,AV.val (.slice none 0 0),AV.val (.slice none 0 0),AV.bool false]) :: (576,refs i) :: (gam 1 (fA es i) (i + 1) ++ gam 2 (fB es i) (i + 1))) (fim 2 j)=some (fB es (i + 1) j):=by
              simp only [hk,Axz _ _ 576 (by omega),Axz _ _ 560 (by omega),Axz _ _ 16000 (by omega),Axz _ _ 304 (by omega),Axz _ _ 128 (by omega),Axz _ _ 224 (by omega),if_false]
              by_cases ej:j=0
              · subst ej
                rw [if_neg (fun e=>by have:=B5z (by omega) (by omega) e;omega),if_pos rfl,fB_at (p:=(-1)) (by omega),Llz hei]
              · rw [if_neg (fun e=>by have:=B5z (by omega) (by omega) e;omega),if_neg (fun e=>ej (Btz e)),Clz 1 _ _ _ 2 j (by omega),B6z 2 _ _ _ hj]
                unfold fB
                rw [kU_no hei' (fun h=>ej h.2)]
            rw [e]
            exact congrArg some (il_sw _ _ _ _ _)
          · rw [fA_new hp]
            exact congrArg some (Lgz (by omega) (by omega))
          · rw [fB_new hp]
            rfl
          · simp [lk,AV.sw,Hvz,Eyz]
            rw [Bfz (c:=fim 1 0) (Ne.symm (D8z _ _ _ (by omega))) (fun e=>by have:=Btz e;omega),Bfz (c:=fim 1 0) (Ne.symm (D8z _ _ _ (by omega))) (fun e=>by have:=B5z (by omega) (by omega) e;omega)]
          · simp [AV.inn,Aaz,hk,Bjz,Axz]
          · exact innR _ _ _ _ _ _ (by omega)
          · intro j hj
            exact innA es (i + 1) j (i + 1 + 1) _ _ _ hj
          · intro j hj
            exact Epz _ _
      · obtain ⟨q,rfl⟩:∃ q:Nat,p=q:=⟨p.toNat,by omega⟩
        have hr1:=refs_1 (i:=i) (q:=q) (by omega)
        cases o
        · (repeat' (first
 | (first|refine Ahz ?_|refine Abz ?_)
 | ((first|refine Aiz ?_|refine Afz ?_|refine Apz ?_);simp (disch:=omega) only [push_cast,seval,l44r0,l44r1,l44r2,l44r3,l44r4,l44r5,l44r6,l44r7,l44r8,l44r9,l44r10,l44r11,l44r12,l44r13,hd,hel,hil,hrl,Aaz,hr1])
 | ((first | refine Anz (fun h => ?_) (fun h => ?_)) <;> (try simp only [h]) <;> (try simp only [bitvec_to_nat] at h) <;> (try simp only [h]) <;> (first | (exfalso; omega) | (focus (exfalso; simp_all; done)) | (simp (disch := omega) only [push_cast,seval,hd,hel,hil,hrl,Aaz,hr1]) | skip))))
          refine Ihz (f:=83) ?_
          simp (disch:=omega) only [push_cast,seval]
          refine hang_no (id:=fim 1 (q + 1)) (kid:=fim 2 (q + 1)) (n:=(kidsT es (q:Int) i).length) (ks:=kidsT es (q:Int) i) (by simp (disch:=omega) only [push_cast,seval];exact congrArg some (fA_at (by omega))) (by simp (disch:=omega) only [push_cast,seval];exact congrArg some (fB_at (by omega))) (by simp (disch:=omega) only [push_cast,seval]) ?_
          simp (disch:=omega) only [push_cast,seval,l44r0,l44r1,l44r2,l44r3,l44r4,l44r5,l44r6,l44r7,l44r8,l44r9,l44r10,l44r11,l44r12,l44r13,hrl]
          (repeat' (first
 | (first|refine Ahz ?_|refine Abz ?_)
 | ((first | refine Aiz ?_); simp (disch := omega) only [push_cast,seval,l44r0,l44r1,l44r2,l44r3,l44r4,l44r5,l44r6,l44r7,l44r8,l44r9,l44r10,l44r11,l44r12,l44r13,hrl])))
          have hei':es[i]?=some ((((q + 1:Nat):Int) - 1),(bs,x,y),false):=by rw [hei];congr 2;try omega
          refine ⟨i + 1,by omega,by omega,?_⟩
          refine SubW.gam2 (a:=304) (b:=16000) (d1:=1) (d2:=2) (n:=i + 1) (id0:=576) (c0:=[]) ⟨by omega,by omega,by omega⟩ ⟨by omega,by omega,by omega,by omega⟩ ?_ ?_ ?_ ?_ ?_ ?_ ?_ ?_ ?_ ?_
          · exact congrArg some (Guz (by omega) (by omega))
          · intro j hj
            have e:hk ((576,refs i ++ [AV.ref 304 1 0]) :: (560,[AV.ref 304 1 0]) :: (16000,[]) :: (304,[AV.own 16000 0 1]) :: (128,[AV.int .i64 (q:Int),AV.int .i64 bs,AV.rows false (IL x) x.length,AV.rows false (IL y) y.length,AV.bool false]) :: (128,[AV.int .i64 0,AV.int .i64 0,AV.val (.slice none 0 0),AV.val (.slice none 0 0),AV.bool false]) :: (576,refs i) :: (gam 1 (fA es i) (i + 1) ++ gam 2 (fB es i) (i + 1))) (fim 1 j)=some (fA es (i + 1) j):=by
              simp only [hk,Axz _ _ 576 (by omega),Axz _ _ 560 (by omega),Axz _ _ 16000 (by omega),Axz _ _ 304 (by omega),Axz _ _ 128 (by omega),Axz _ _ 224 (by omega),if_false]
              rw [Bjz 1 _ _ _ _ hj]
              unfold fA
              rw [kU_no hei' (fun h=>by cases h.1)]
            rw [e]
            exact congrArg some (own_sw (by omega) (by omega) (by omega))
          · intro j hj
            have e:hk ((576,refs i ++ [AV.ref 304 1 0]) :: (560,[AV.ref 304 1 0]) :: (16000,[]) :: (304,[AV.own 16000 0 1]) :: (128,[AV.int .i64 (q:Int),AV.int .i64 bs,AV.rows false (IL x) x.length,AV.rows false (IL y) y.length,AV.bool false]) :: (128,[AV.int .i64 0,AV.int .i64 0,AV.val (.slice none 0 0),AV.val (.slice none 0 0),AV.bool false]) :: (576,refs i) :: (gam 1 (fA es i) (i + 1) ++ gam 2 (fB es i) (i + 1))) (fim 2 j)=some (fB es (i + 1) j):=by
              simp only [hk,Axz _ _ 576 (by omega),Axz _ _ 560 (by omega),Axz _ _ 16000 (by omega),Axz _ _ 304 (by omega),Axz _ _ 128 (by omega),Axz _ _ 224 (by omega),if_false]
              rw [Clz 1 _ _ _ 2 j (by omega),B6z 2 _ _ _ hj]
              unfold fB
              rw [kU_no hei' (fun h=>by cases h.1)]
            rw [e]
            exact congrArg some (il_sw _ _ _ _ _)
          · rw [fA_new hp]
            exact congrArg some (Lgz (by omega) (by omega))
          · rw [fB_new hp]
            rfl
          · simp [lk,AV.sw,Hvz,Eyz]
            rw [Bfz (c:=fim 1 0) (Ne.symm (D8z _ _ _ (by omega))) (fun e=>by have:=Btz e;omega),Bfz (c:=fim 1 0) (Ne.symm (D8z _ _ _ (by omega))) (fun e=>by have:=B5z (by omega) (by omega) e;omega)]
          · simp [AV.inn,Aaz,hk,Bjz,Axz]
          · exact innR _ _ _ _ _ _ (by omega)
          · intro j hj
            exact innA es (i + 1) j (i + 1 + 1) _ _ _ hj
          · intro j hj
            exact Epz _ _
        · (repeat' (first
 | (first|refine Ahz ?_|refine Abz ?_)
 | ((first|refine Aiz ?_|refine Afz ?_|refine Apz ?_);simp (disch:=omega) only [push_cast,seval,l44r0,l44r1,l44r2,l44r3,l44r4,l44r5,l44r6,l44r7,l44r8,l44r9,l44r10,l44r11,l44r12,l44r13,hd,hel,hil,hrl,Aaz,hr1])
 | ((first | refine Anz (fun h => ?_) (fun h => ?_)) <;> (try simp only [h]) <;> (try simp only [bitvec_to_nat] at h) <;> (try simp only [h]) <;> (first | (exfalso; omega) | (focus (exfalso; simp_all; done)) | (simp (disch := omega) only [push_cast,seval,hd,hel,hil,hrl,Aaz,hr1]) | skip))))
          refine Ihz (f:=83) ?_
          simp (disch:=omega) only [push_cast,seval]
          refine hang_yes (id:=fim 1 (q + 1)) (kid:=fim 2 (q + 1)) (n:=(kidsT es (q:Int) i).length) (ks:=kidsT es (q:Int) i) (by simp (disch:=omega) only [push_cast,seval];exact congrArg some (fA_at (by omega))) (by simp (disch:=omega) only [push_cast,seval];exact congrArg some (fB_at (by omega))) (by simp) (Nat.le_trans (E9z es _ i) (by omega)) (fun e=>by have:=B5z (by omega) (by omega) e;omega) (by simp (disch:=omega) only [push_cast,seval]) ?_
          simp (disch:=omega) only [push_cast,seval,l44r0,l44r1,l44r2,l44r3,l44r4,l44r5,l44r6,l44r7,l44r8,l44r9,l44r10,l44r11,l44r12,l44r13,hrl]
          (repeat' (first
 | (first|refine Ahz ?_|refine Abz ?_)
 | ((first | refine Aiz ?_); simp (disch := omega) only [push_cast,seval,l44r0,l44r1,l44r2,l44r3,l44r4,l44r5,l44r6,l44r7,l44r8,l44r9,l44r10,l44r11,l44r12,l44r13,hrl])))
          have hei':es[i]?=some ((((q + 1:Nat):Int) - 1),(bs,x,y),true):=by rw [hei];congr 2;try omega
          refine ⟨i + 1,by omega,by omega,?_⟩
          refine SubW.gam2 (a:=304) (b:=16000) (d1:=1) (d2:=2) (n:=i + 1) (id0:=576) (c0:=[]) ⟨by omega,by omega,by omega⟩ ⟨by omega,by omega,by omega,by omega⟩ ?_ ?_ ?_ ?_ ?_ ?_ ?_ ?_ ?_ ?_
          · exact congrArg some (Guz (by omega) (by omega))
          · intro j hj
            have e:hk ((576,refs i ++ [AV.ref 304 1 0]) :: (560,[AV.ref 304 1 0]) :: (16000,[]) :: (304,[AV.own 16000 0 1]) :: (fim 1 (q + 1),[.own (fim 2 (q + 1)) ((kidsT es (q:Int) i).length + 1) 1]) :: (fim 2 (q + 1),IL (kidsT es (q:Int) i ++ [(i:Int)])) :: (224,[.int .i64 i]) :: (128,[AV.int .i64 (q:Int),AV.int .i64 bs,AV.rows false (IL x) x.length,AV.rows false (IL y) y.length,AV.bool true]) :: (128,[AV.int .i64 0,AV.int .i64 0,AV.val (.slice none 0 0),AV.val (.slice none 0 0),AV.bool false]) :: (576,refs i) :: (gam 1 (fA es i) (i + 1) ++ gam 2 (fB es i) (i + 1))) (fim 1 j)=some (fA es (i + 1) j):=by
              simp only [hk,Axz _ _ 576 (by omega),Axz _ _ 560 (by omega),Axz _ _ 16000 (by omega),Axz _ _ 304 (by omega),Axz _ _ 128 (by omega),Axz _ _ 224 (by omega),if_false]
              by_cases ej:j=q + 1
              · subst ej
                rw [if_pos rfl,fA_at (p:=(q:Int)) (by omega),Llz hei,List.length_append]
                rfl
              · rw [if_neg (fun e=>ej (Btz e)),if_neg (fun e=>by have:=B5z (by omega) (by omega) e;omega),Bjz 1 _ _ _ _ hj]
                unfold fA
                rw [kU_no hei' (fun h=>ej h.2)]
            rw [e]
            exact congrArg some (own_sw (by omega) (by omega) (by omega))
          · intro j hj
            have e:hk ((576,refs i ++ [AV.ref 304 1 0]) :: (560,[AV.ref 304 1 0]) :: (16000,[]) :: (304,[AV.own 16000 0 1]) :: (fim 1 (q + 1),[.own (fim 2 (q + 1)) ((kidsT es (q:Int) i).length + 1) 1]) :: (fim 2 (q + 1),IL (kidsT es (q:Int) i ++ [(i:Int)])) :: (224,[.int .i64 i]) :: (128,[AV.int .i64 (q:Int),AV.int .i64 bs,AV.rows false (IL x) x.length,AV.rows false (IL y) y.length,AV.bool true]) :: (128,[AV.int .i64 0,AV.int .i64 0,AV.val (.slice none 0 0),AV.val (.slice none 0 0),AV.bool false]) :: (576,refs i) :: (gam 1 (fA es i) (i + 1) ++ gam 2 (fB es i) (i + 1))) (fim 2 j)=some (fB es (i + 1) j):=by
              simp only [hk,Axz _ _ 576 (by omega),Axz _ _ 560 (by omega),Axz _ _ 16000 (by omega),Axz _ _ 304 (by omega),Axz _ _ 128 (by omega),Axz _ _ 224 (by omega),if_false]
              by_cases ej:j=q + 1
              · subst ej
                rw [if_neg (fun e=>by have:=B5z (by omega) (by omega) e;omega),if_pos rfl,fB_at (p:=(q:Int)) (by omega),Llz hei]
              · rw [if_neg (fun e=>by have:=B5z (by omega) (by omega) e;omega),if_neg (fun e=>ej (Btz e)),Clz 1 _ _ _ 2 j (by omega),B6z 2 _ _ _ hj]
                unfold fB
                rw [kU_no hei' (fun h=>ej h.2)]
            rw [e]
            exact congrArg some (il_sw _ _ _ _ _)
          · rw [fA_new hp]
            exact congrArg some (Lgz (by omega) (by omega))
          · rw [fB_new hp]
            rfl
          · simp [lk,AV.sw,Hvz,Eyz]
            rw [Bfz (c:=fim 1 0) (Ne.symm (D8z _ _ _ (by omega))) (fun e=>by have:=Btz e;omega),Bfz (c:=fim 1 0) (Ne.symm (D8z _ _ _ (by omega))) (fun e=>by have:=B5z (by omega) (by omega) e;omega)]
          · simp [AV.inn,Aaz,hk,Bjz,Axz]
          · exact innR _ _ _ _ _ _ (by omega)
          · intro j hj
            exact innA es (i + 1) j (i + 1 + 1) _ _ _ hj
          · intro j hj
            exact Epz _ _
    · have e:i=es.length:=by omega
      subst e
      by_cases him:id=-1
      · subst him
        (repeat' (first
 | (first|refine Ahz ?_|refine Abz ?_)
 | ((first|refine Aiz ?_|refine Afz ?_|refine Ayz ?_);simp (disch:=omega) only [push_cast,seval,l44r0,l44r1,l44r2,l44r3,l44r4,l44r5,l44r6,l44r7,l44r8,l44r9,l44r10,l44r11,l44r12,l44r13,hel,Aaz])
 | ((first|refine Anz (fun h=>?_) (fun h=>?_))<;>(try simp only [h])<;>(try simp only [bitvec_to_nat] at h)<;>(try simp only [h])<;>(first|(exfalso;omega)|(exfalso;simp_all;done)|(simp (disch:=omega) only [push_cast,seval,hel,Aaz])|skip))))
        refine Aez ⟨.inr rfl,ret_node (Q:=0) (ks:=kidsT es (-1) es.length) rfl ?_ ?_⟩
        · simp only [hk,Axz _ _ 576 (by omega),if_false]
          rw [Bjz 1 _ _ _ _ (by omega),fA_at (p:=-1) (by omega)]
        · simp only [hk,Axz _ _ 576 (by omega),if_false]
          rw [Clz 1 _ _ _ 2 0 (by omega),B6z 2 _ _ _ (by omega),fB_at (p:=-1) (by omega)]
      · obtain ⟨q,rfl⟩:∃ q:Nat,id=q:=⟨id.toNat,by omega⟩
        have hql:q < es.length:=by omega
        have hr1:=refs_1 hql
        have hrl:=refs_len es.length
        (repeat' (first
 | (first|refine Ahz ?_|refine Abz ?_)
 | ((first|refine Aiz ?_|refine Afz ?_|refine Apz ?_|refine Ayz ?_);simp (disch:=omega) only [push_cast,seval,l44r0,l44r1,l44r2,l44r3,l44r4,l44r5,l44r6,l44r7,l44r8,l44r9,l44r10,l44r11,l44r12,l44r13,hel,hr1,hrl,Aaz])
 | ((first|refine Anz (fun h=>?_) (fun h=>?_))<;>(try simp only [h])<;>(try simp only [bitvec_to_nat] at h)<;>(try simp only [h])<;>(first|(exfalso;omega)|(exfalso;simp_all;done)|(simp (disch:=omega) only [push_cast,seval,hel,hr1,hrl,Aaz])|skip))))
        refine Aez ⟨.inr rfl,ret_node (Q:=q + 1) (ks:=kidsT es q es.length) rfl ?_ ?_⟩
        · simp only [hk,Axz _ _ 576 (by omega),if_false]
          rw [Bjz 1 _ _ _ _ (by omega),fA_at (p:=(q:Int)) (by omega)]
        · simp only [hk,Axz _ _ 576 (by omega),if_false]
          rw [Clz 1 _ _ _ 2 (q + 1) (by omega),B6z 2 _ _ _ (by omega),fB_at (p:=(q:Int)) (by omega)]


theorem Ibz (cs:List Int) (es:List Ex) (m n:Nat) (id:Int) (hm:cs.length=m) (hn:es.length=n) (hb:m ≤ 1000 ∧ n ≤ 1000) (hp:parOk es) (hid:-1 ≤ id ∧ id < n) :
    PCall Tryz.prog 44 [.agg [.rows false (IL cs) m,.rows false (EL false es) n],.int .i64 id] (fun r=>r=.prow true [.rows true (IL (kidsT es id n)) (kidsT es id n).length] 0):=by
  refine (BCall.plain (node_ok cs es m n id hm hn hb hp hid)).mono ?_
  rintro r ⟨r0,H',⟨rfl,rfl⟩,rfl⟩
  simp [AV.ren,nthH,J7z]

end Go.Proofs.YtkpcjppnjmhanaaGreatDoor
namespace Go.Proofs.YtkpcjppnjmhanaaGreatDoor
open VwM Vw Go
variable [SentA]

/-- An export by itself. -/
def exV (m:Int) (i:Nat) (e:Ex):Bool:=(decide (-1 ≤ e.1) && decide (e.1 ≤ (i:Int) - 1)) && vV e.2.1.1 e.2.1.2.1 e.2.1.2.2 && (!e.2.2 || allI (offs e.2.1.1 e.2.1.2.1 e.2.1.2.2) 0 (m - 1))
def opE (es:List Ex) (p:Int):Bool:=match es[p.toNat]? with|some f=>f.2.2|none=>false
/-- An export of a buffer. -/
def sxV (m:Int) (es:List Ex) (i:Nat) (e:Ex):Bool:=exV m i e && (!e.2.2 || (decide (e.1 < 0) || opE es e.1))
def allX (f:Nat → Ex → Bool) (es:List Ex):Nat → Bool
  | 0=>true
  | k + 1=>allX f es k && (match es[k]? with|some e=>f k e|none=>true)
def vB (cs:List Int) (es:List Ex):Bool:=vMem cs && decide (es.length ≤ 8) && allX (sxV cs.length es) es es.length
theorem Hcz {f:Nat → Ex → Bool} {es:List Ex} {k:Nat} {e:Ex} (h:es[k]?=some e):allX f es (k + 1)=(allX f es k && f k e):=by simp only [allX,h]
theorem Dez {f:Nat → Ex → Bool} {es:List Ex}:∀ {k:Nat},allX f es k=true ↔ ∀ i e,i < k → es[i]?=some e → f i e=true
  | 0=>by simp [allX]
  | k + 1=>by
    constructor
    · intro h i e hi he
      simp only [allX,Bool.and_eq_true] at h
      by_cases hik:i=k
      · subst hik;rw [he] at h;exact h.2
      · exact Dez.1 h.1 i e (by omega) he
    · intro h
      simp only [allX,Bool.and_eq_true]
      refine ⟨Dez.2 fun i e hi he=>h i e (by omega) he,?_⟩
      cases he:es[k]? with
 | none=>rfl
 | some e=>exact h k e (by omega) he
theorem allX_no {f:Nat → Ex → Bool} {es:List Ex} {i n:Nat} {e:Ex} (h:es[i]?=some e) (hf:f i e=false) (hi:i < n):allX f es n=false:=by
  rw [Bool.eq_false_iff]
  intro h'
  have:=Dez.1 h' i e hi h
  rw [hf] at this;cases this
theorem C3z {es:List Ex} {i:Nat} (h:i < es.length):∃ p b x y o,es[i]?=some (p,(b,x,y),o):=⟨_,_,_,_,_,List.getElem?_eq_getElem h⟩
theorem parOk_of {m:Int} {es:List Ex} (h:allX (exV m) es es.length=true):parOk es:=fun i e he=>by
  have:=Dez.1 h i e (List.getElem?_eq_some_iff.1 he).1 he
  simp only [exV,Bool.and_eq_true,decide_eq_true_eq] at this
  omega
/-- Bounds of what a buffer's exports have. -/
def exB (n:Nat) (es:List Ex):Prop:=∀ e ∈ es,e.2.1.2.1.length ≤ n ∧ e.2.1.2.2.length ≤ n
theorem D9z {n:Nat} {es:List Ex} (h:exB n es) {i:Nat} {p b:Int} {x y:List Int} {o:Bool} (he:es[i]?=some (p,(b,x,y),o)):x.length ≤ n ∧ y.length ≤ n:=h _ (List.mem_of_getElem? he)


theorem Cbz (b:Int) (sh st:List Int) (s:Int) (n m:Nat) (hn:sh.length=n) (hm:st.length=m) (hb:okV b sh st ∧ -1000000 ≤ s ∧ s ≤ 1099511627776):PCall Tryz.prog 73 [.agg [.int .i64 b,.rows false (IL sh) n,.rows false (IL st) m],.int .i64 s] (fun r=>r=.bool (allI (offs b sh st) 0 (s - 1))):=by
  subst hn hm
  obtain ⟨hok,hs1,hs2⟩:=hb
  have hol:=Bsz b sh st
  have hpb:=hok.1.2
  have hlb:(offs b sh st).length ≤ 1099511627776:=by omega
  refine Awz l73_eq rfl ?_
  (repeat' (first
 | (first|refine Ahz ?_|refine Abz ?_)
 | ((first|refine Aiz ?_);simp (disch:=omega) only [push_cast,seval,l73r0,l73r1])
 | ((first|refine Amz false ?_);simp (disch:=omega) only [push_cast,seval])
 | ((first|((first|refine Akz (Brz _ _ _ _ _ ?_ ?_ ?_) ?_|refine Agz (Brz _ _ _ _ _ ?_ ?_ ?_) ⟨_,_,rfl,rfl⟩ ?_);(iterate 3 (exact sd));rintro _ _ ⟨rfl,rfl⟩)|((first|refine Akz (Ajz (Bmz _ _ _ _ ?_ ?_)) ?_|refine Agz (Ajz (Bmz _ _ _ _ ?_ ?_)) ⟨_,_,rfl,rfl⟩ ?_);(iterate 2 (exact sd));rintro _ _ ⟨rfl,rfl⟩))<;>(try simp (disch:=omega) only [push_cast,seval]))
 | (refine Aez ⟨.inr rfl,_,rfl,?_⟩;(try simp (disch:=omega) only [push_cast,seval]))))


set_option maxHeartbeats 8000000 in
theorem K1z (cs:List Int) (es:List Ex) (m n i:Nat) (p b:Int) (x y:List Int) (o:Bool) (hm:cs.length=m) (hn:es.length=n) (he:es[i]?=some (p,(b,x,y),o)) (hb:m ≤ 1099511627776 ∧ n ≤ 1099511627776 ∧ exB 1099511627776 es) :
    PCall Tryz.prog 86 [.agg [.rows false (IL cs) m,.rows false (EL false es) n],.int .i64 i] (fun r=>r=.bool (sxV m es i (p,(b,x,y),o))):=by
  subst hm hn
  obtain ⟨hb1,hb2,hb3⟩:=hb
  have hlt:i < es.length:=(List.getElem?_eq_some_iff.1 he).1
  obtain ⟨hbx,hby⟩:=D9z hb3 he
  have hd:=B9z false es i he
  simp only at hd
  have hel:=A1z false es
  have hil:i * 5 + 5 ≤ es.length * 5:=by omega
  refine Awz l86_eq rfl ?_
  unfold sxV exV
  simp only
  by_cases hp:-1 ≤ p ∧ p ≤ (i:Int) - 1
  · have hpd:(decide (-1 ≤ p) && decide (p ≤ (i:Int) - 1))=true:=by rw [Bool.and_eq_true,decide_eq_true_eq,decide_eq_true_eq];exact hp
    rw [hpd]
    cases hv:vV b x y with
    | false =>
      (repeat' (first
 | (first|refine Ahz ?_|refine Abz ?_)
 | ((first|refine Aiz ?_|refine Afz ?_);simp (disch:=omega) only [push_cast,seval,l86r0,l86r1,l86r2,l86r3,l86r4,hd,hel,hil,hv,hpd,Aaz])
 | ((first|refine Amz false ?_);simp (disch:=omega) only [push_cast,seval,hd,hel,hil,hv,hpd,Aaz])
 | ((first|((first|refine Akz (Ajz (Asz _ _ _)) ?_|refine Agz (Ajz (Asz _ _ _)) ⟨_,_,rfl,rfl⟩ ?_);rintro _ _ ⟨rfl,rfl⟩)|((first|refine Akz (Ajz (Aqz _ _ _ _ _ ?_ ?_ ?_)) ?_|refine Agz (Ajz (Aqz _ _ _ _ _ ?_ ?_ ?_)) ⟨_,_,rfl,rfl⟩ ?_);(iterate 3 (exact sd));rintro _ _ ⟨rfl,rfl⟩))<;>(try simp (disch:=omega) only [push_cast,seval,hd,hel,hil,hv,hpd,Aaz]))
 | (refine Aez ⟨.inr rfl,_,rfl,?_⟩;(try simp (disch:=omega) only [push_cast,seval,hd,hel,hil,hv,hpd,Aaz]))))
      all_goals (try simp)
    | true =>
      have q:okV b x y ∧ -1000000 ≤ (cs.length:Int) ∧ (cs.length:Int) ≤ 1099511627776:=⟨(A4z hv).1,by omega⟩
      cases o with
 | false =>
        (repeat' (first
 | (first|refine Ahz ?_|refine Abz ?_)
 | ((first|refine Aiz ?_|refine Afz ?_|refine Apz ?_);simp (disch:=omega) only [push_cast,seval,l86r0,l86r1,l86r2,l86r3,l86r4,hd,hel,hil,hv,hpd,Aaz])
 | ((first|refine Amz false ?_);simp (disch:=omega) only [push_cast,seval,hd,hel,hil,hv,hpd,Aaz])
 | ((first|((first|refine Akz (Ajz (Asz _ _ _)) ?_|refine Agz (Ajz (Asz _ _ _)) ⟨_,_,rfl,rfl⟩ ?_);rintro _ _ ⟨rfl,rfl⟩)|((first|refine Akz (Ajz (Aqz _ _ _ _ _ ?_ ?_ ?_)) ?_|refine Agz (Ajz (Aqz _ _ _ _ _ ?_ ?_ ?_)) ⟨_,_,rfl,rfl⟩ ?_);(iterate 3 (exact sd));rintro _ _ ⟨rfl,rfl⟩))<;>(try simp (disch:=omega) only [push_cast,seval,hd,hel,hil,hv,hpd,Aaz]))
 | (refine Aez ⟨.inr rfl,_,rfl,?_⟩;(try simp (disch:=omega) only [push_cast,seval,hd,hel,hil,hv,hpd,Aaz]))))
        all_goals (try simp)
 | true =>
        cases hf:allI (offs b x y) 0 ((cs.length:Int) - 1) with
        | false =>
          (repeat' (first
 | (first|refine Ahz ?_|refine Abz ?_)
 | ((first|refine Aiz ?_|refine Afz ?_|refine Apz ?_);simp (disch:=omega) only [push_cast,seval,l86r0,l86r1,l86r2,l86r3,l86r4,hd,hel,hil,hv,hpd,hf,Aaz])
 | ((first|refine Amz false ?_);simp (disch:=omega) only [push_cast,seval,hd,hel,hil,hv,hpd,hf,Aaz])
 | ((first|((first|refine Akz (Ajz (Asz _ _ _)) ?_|refine Agz (Ajz (Asz _ _ _)) ⟨_,_,rfl,rfl⟩ ?_);rintro _ _ ⟨rfl,rfl⟩)|((first|refine Akz (Ajz (Aqz _ _ _ _ _ ?_ ?_ ?_)) ?_|refine Agz (Ajz (Aqz _ _ _ _ _ ?_ ?_ ?_)) ⟨_,_,rfl,rfl⟩ ?_);(iterate 3 (exact sd));rintro _ _ ⟨rfl,rfl⟩)|((first|refine Akz (Ajz (Cbz _ _ _ _ _ _ ?_ ?_ ?_)) ?_|refine Agz (Ajz (Cbz _ _ _ _ _ _ ?_ ?_ ?_)) ⟨_,_,rfl,rfl⟩ ?_);(iterate 3 (exact sd));rintro _ _ ⟨rfl,rfl⟩))<;>(try simp (disch:=omega) only [push_cast,seval,hd,hel,hil,hv,hpd,hf,Aaz]))
 | (refine Aez ⟨.inr rfl,_,rfl,?_⟩; (try simp (disch := omega) only [push_cast,seval,hd,hel,hil,hv,hpd,hf,Aaz]))))
          all_goals (try simp)
        | true =>
          by_cases hpm:p < 0
          · (repeat' (first
 | (first|refine Ahz ?_|refine Abz ?_)
 | ((first|refine Aiz ?_|refine Afz ?_|refine Apz ?_);simp (disch:=omega) only [push_cast,seval,l86r0,l86r1,l86r2,l86r3,l86r4,hd,hel,hil,hv,hpd,hf,hpm,Aaz])
 | ((first|refine Amz false ?_);simp (disch:=omega) only [push_cast,seval,hd,hel,hil,hv,hpd,hf,hpm,Aaz])
 | ((first|((first|refine Akz (Ajz (Asz _ _ _)) ?_|refine Agz (Ajz (Asz _ _ _)) ⟨_,_,rfl,rfl⟩ ?_);rintro _ _ ⟨rfl,rfl⟩)|((first|refine Akz (Ajz (Aqz _ _ _ _ _ ?_ ?_ ?_)) ?_|refine Agz (Ajz (Aqz _ _ _ _ _ ?_ ?_ ?_)) ⟨_,_,rfl,rfl⟩ ?_);(iterate 3 (exact sd));rintro _ _ ⟨rfl,rfl⟩)|((first|refine Akz (Ajz (Cbz _ _ _ _ _ _ ?_ ?_ ?_)) ?_|refine Agz (Ajz (Cbz _ _ _ _ _ _ ?_ ?_ ?_)) ⟨_,_,rfl,rfl⟩ ?_);(iterate 3 (exact sd));rintro _ _ ⟨rfl,rfl⟩))<;>(try simp (disch:=omega) only [push_cast,seval,hd,hel,hil,hv,hpd,hf,hpm,Aaz]))
 | (refine Aez ⟨.inr rfl,_,rfl,?_⟩; (try simp (disch := omega) only [push_cast,seval,hd,hel,hil,hv,hpd,hf,hpm,Aaz]))))
            all_goals (try simp [hpm])
          · obtain ⟨q,rfl⟩:∃ q:Nat,p=q:=⟨p.toNat,by omega⟩
            obtain ⟨p2,b2,x2,y2,o2,he2⟩:=C3z (es:=es) (i:=q) (by omega)
            have hd2:=B9z false es q he2
            simp only at hd2
            have hil2:q * 5 + 5 ≤ es.length * 5:=by omega
            have h4:((EL false es).drop (q * 5 + 4)).take 1=[.bool o2]:=by
              have:=congrArg (fun l=>(l.drop 4).take 1) hd2
              simpa [List.drop_take,List.drop_drop,List.take_take] using this
            have ho:opE es (q:Int)=o2:=by simp [opE,he2]
            (repeat' (first
 | (first|refine Ahz ?_|refine Abz ?_)
 | ((first|refine Aiz ?_|refine Afz ?_|refine Apz ?_);simp (disch:=omega) only [push_cast,seval,l86r0,l86r1,l86r2,l86r3,l86r4,hd,hel,hil,hd2,hil2,h4,hv,hpd,hf,hpm,ho,Aaz])
 | ((first|refine Amz false ?_);simp (disch:=omega) only [push_cast,seval,hd,hel,hil,hd2,hil2,h4,hv,hpd,hf,hpm,ho,Aaz])
 | ((first|((first|refine Akz (Ajz (Asz _ _ _)) ?_|refine Agz (Ajz (Asz _ _ _)) ⟨_,_,rfl,rfl⟩ ?_);rintro _ _ ⟨rfl,rfl⟩)|((first|refine Akz (Ajz (Aqz _ _ _ _ _ ?_ ?_ ?_)) ?_|refine Agz (Ajz (Aqz _ _ _ _ _ ?_ ?_ ?_)) ⟨_,_,rfl,rfl⟩ ?_);(iterate 3 (exact sd));rintro _ _ ⟨rfl,rfl⟩)|((first|refine Akz (Ajz (Cbz _ _ _ _ _ _ ?_ ?_ ?_)) ?_|refine Agz (Ajz (Cbz _ _ _ _ _ _ ?_ ?_ ?_)) ⟨_,_,rfl,rfl⟩ ?_);(iterate 3 (exact sd));rintro _ _ ⟨rfl,rfl⟩))<;>(try simp (disch:=omega) only [push_cast,seval,hd,hel,hil,hd2,hil2,h4,hv,hpd,hf,hpm,ho,Aaz]))
 | (refine Aez ⟨.inr rfl,_,rfl,?_⟩; (try simp (disch := omega) only [push_cast,seval,hd,hel,hil,hd2,hil2,h4,hv,hpd,hf,hpm,ho,Aaz]))))
            all_goals (try simp [hpm,ho])
  · have hpd:(decide (-1 ≤ p) && decide (p ≤ (i:Int) - 1))=false:=by rw [Bool.eq_false_iff];intro h;simp at h;omega
    rw [hpd]
    (repeat' (first
 | (first|refine Ahz ?_|refine Abz ?_)
 | ((first|refine Aiz ?_|refine Afz ?_);simp (disch:=omega) only [push_cast,seval,l86r0,l86r1,l86r2,l86r3,l86r4,hd,hel,hil,hpd,Aaz])
 | ((first|refine Amz false ?_);simp (disch:=omega) only [push_cast,seval,hd,hel,hil,hpd,Aaz])
 | ((first|((first|refine Akz (Ajz (Asz _ _ _)) ?_|refine Agz (Ajz (Asz _ _ _)) ⟨_,_,rfl,rfl⟩ ?_);rintro _ _ ⟨rfl,rfl⟩))<;>(try simp (disch:=omega) only [push_cast,seval,hd,hel,hil,hpd,Aaz]))
 | (refine Aez ⟨.inr rfl,_,rfl,?_⟩;(try simp (disch:=omega) only [push_cast,seval,hd,hel,hil,hpd,Aaz]))))
    all_goals (try simp)

end Go.Proofs.YtkpcjppnjmhanaaGreatDoor
