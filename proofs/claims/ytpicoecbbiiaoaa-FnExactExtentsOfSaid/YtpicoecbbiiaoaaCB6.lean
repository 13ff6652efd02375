/- Texts of this verifier. -/
import Derived.Test.YtpicoecbbiiaoaaCB5
import Derived.Test.YtpicoecbbiiaoaaCM1
set_option linter.unusedSimpArgs false
set_option linter.unusedVariables false
set_option maxRecDepth 4000
set_option maxHeartbeats 4000000
namespace Go.Proofs.Ytpicoecbbiiaoaa
open VwM Vw Go

theorem mem_ltS {α:Type} {l:List α} {i:Nat} (h:i < l.length):∃ x,l[i]?=some x:=⟨_,List.getElem?_eq_getElem h⟩
theorem innL_repS {P:Nat → Bool} {n:Nat} {a:AV} (h:a.inn P=true):innL P (List.replicate n a)=true:=by
  induction n with
  | zero=>rfl
  | succ n ih=>simp only [List.replicate_succ,innL,h,ih,Bool.and_self]
theorem Bkz (j:Nat):(j + 1=0)=False:=by simp
theorem Blz (j:Nat):(0=j + 1)=False:=by simp
theorem swown (a b id n sz:Nat) (h1:id ≠ a) (h2:id ≠ b):(AV.own id n sz).sw a b=.own id n sz:=by simp only [AV.sw,B4z h1 h2]
theorem fimne (d j id:Nat) (h:id < 1099511627776):id ≠ fim d j:=fun e=>by have:=Caz d j;omega
theorem swL_LL (a b:Nat) (c:Bool):∀ ls:List (List Int),swL a b (LL c ls)=LL c ls
  | []=>rfl
  | l :: r=>by simp only [LL,swL,AV.sw,Dfz,swL_LL a b c r]
theorem swL_TL (a b:Nat) (c:Bool):∀ ts:List Tn,swL a b (TL c ts)=TL c ts
  | []=>rfl
  | l :: r=>by simp only [TL,swL,AV.sw,Dfz,swL_TL a b c r]
theorem swp112 (a d i n:Nat) (h:n < 1099511627776) (hn:n ≠ a):swp a (fim d i) n=n:=B4z hn (fimne _ _ _ h)
def cellI (d:Nat) (rows:Nat → List Int) (z:AV) (i p:Nat):AV:=if p < i then .own (fim d p) (rows p).length 1 else z
theorem cellI_inn {d:Nat} {rows:Nat → List Int} {z:AV} {i p:Nat} (c1:List AV) (id0:Nat) (hz:∀ P,z.inn P=true):(cellI d rows z i p).inn (fun id=>(hk ((id0,c1) :: famR d rows i) id).isSome)=true:=by
  unfold cellI
  split
  · rename_i h
    simp only [AV.inn,hk]
    split
    · rfl
    · rw [Cez d rows i p h];rfl
  · exact hz _


set_option maxHeartbeats 8000000 in
theorem Ewz (ls:List (List Int)) (n:Nat) (hn:ls.length=n) (hb:n ≤ 1048576 ∧ ∀ l ∈ ls,l.length ≤ 1099511627776):BCall Try.prog 21 [.rows false (LL false ls) n] [] (fun r H'=>r=.own 0 n 1 ∧ H'=(lsF ls).cellsG (· + 1) :: (lsF ls).conts):=by
  subst hn
  obtain ⟨hb1,hb2⟩:=hb
  refine Biz (pins:=[]) (pin:=0) l21_eq rfl rfl rfl ?_
  have hll:=Bez false ls
  (repeat' (first
 | (first|refine Alz ?_|refine Agz ?_)
 | ((first|refine Amz ?_|refine Afz ?_|refine Ahz ?_|refine Aiz ?_);simp (disch:=omega) only [push_cast,seval,l21r0,l21r1,l21r2,l21r3,l21r4,l21r5,l21r6,Abz])
 | ((first|refine Acz ?_ ?_|refine Aez ?_ ?_|refine Adz ?_ ?_)<;>intro h<;>(try simp only [h])<;>(try simp only [bitvec_to_nat] at h)<;>(try simp only [h])<;>(first|(exfalso;omega)|(exfalso;simp_all;done)|(simp (disch:=omega) only [push_cast,seval,Abz])|skip))
 | ((first|refine Anz false ?_|refine Ajz false ?_);simp (disch:=omega) only [push_cast,seval,Abz])
 | ((first|((first|refine call0D (Bqz _ _ ?_ ?_) ?_|refine qcall0D (Bqz _ _ ?_ ?_) ⟨_,_,rfl,rfl⟩ ?_);(iterate 2 (exact sd));rintro _ _ ⟨rfl,rfl⟩))<;>(try simp (disch:=omega) only [push_cast,seval,Abz]))
 | (refine Akz ⟨.inr rfl,[112],[],_,by decide,rfl,?_⟩;(try simp (disch:=omega) only [push_cast,seval,↓Auz,↓Asz,↓List.map_cons,↓List.map_nil,Abz]))))
  refine D9z (fun i:Nat=>mkS [(0,.rows false (LL false ls) ls.length),(3,.own 112 ls.length 1),(4,.int .i64 i)] ((112,row ls.length (cellI 7 (lsF ls).rows (.val (.slice none 0 0)) i)) :: famR 7 (lsF ls).rows i)) (fun i=>i ≤ ls.length) (fun i=>ls.length - i) 0 (Nat.zero_le _) ?_ ?_
  · refine SubW.of ?_
    have e:row ls.length (cellI 7 (lsF ls).rows (.val (.slice none 0 0)) 0)=List.replicate ls.length (.val (.slice none 0 0)):=by
      symm
      refine Ghz (by simp) fun p hp=>?_
      rw [List.getElem?_replicate,if_pos hp];rfl
    rw [e,famR_zero]
    have hzi:∀ P:Nat → Bool,innL P (List.replicate ls.length (AV.val (.slice none 0 0)))=true:=fun P=>innL_repS rfl
    generalize List.replicate ls.length (AV.val (.slice none 0 0))=Z at *
    (refine Sub.of_lists ?_ ?_ ?_ ?_ ?_<;>simp [Vw.mkS,Vw.lk,Vw.hk,AV.inn,innL,Apz,Aoz,Atz,-List.map_set,-List.getD_eq_getElem?_getD,Abz,LL,hzi])
  · intro i hi
    by_cases hlt:i < ls.length
    · obtain ⟨l,hli⟩:=mem_ltS hlt
      have hbb:=hb2 _ (List.mem_of_getElem? hli)
      have hd:=Dtz false ls i hli
      have hil:i + 1 ≤ ls.length:=by omega
      have hwl:=Cdz ls.length (cellI 7 (lsF ls).rows (.val (.slice none 0 0)) i)
      have hr:(lsF ls).rows i=l:=by simp [lsF,List.getD,hli]
      (repeat' (first
 | (first|refine Alz ?_|refine Agz ?_)
 | ((first|refine Amz ?_|refine Afz ?_|refine Ahz ?_|refine Aiz ?_);simp (disch:=omega) only [push_cast,seval,l21r0,l21r1,l21r2,l21r3,l21r4,l21r5,l21r6,hd,hll,hil,hwl,Abz])
 | ((first|refine Acz ?_ ?_|refine Aez ?_ ?_|refine Adz ?_ ?_)<;>intro h<;>(try simp only [h])<;>(try simp only [bitvec_to_nat] at h)<;>(try simp only [h])<;>(first|(exfalso;omega)|(exfalso;simp_all;done)|(simp (disch:=omega) only [push_cast,seval,hd,hll,hil,hwl,Abz])|skip))
 | ((first|refine Anz false ?_|refine Ajz false ?_);simp (disch:=omega) only [push_cast,seval,hd,hll,hil,hwl,Abz])
 | ((first|((first|refine call0D (Bqz _ _ ?_ ?_) ?_|refine qcall0D (Bqz _ _ ?_ ?_) ⟨_,_,rfl,rfl⟩ ?_);(iterate 2 (exact sd));rintro _ _ ⟨rfl,rfl⟩))<;>(try simp (disch:=omega) only [push_cast,seval,hd,hll,hil,hwl,Abz]))))
      refine ⟨i + 1,by omega,by omega,SubW.fam1 (a:=320) (d:=7) (i:=i) (id0:=112) (rows:=(lsF ls).rows) (c0:=(row ls.length (cellI 7 (lsF ls).rows (.val (.slice none 0 0)) i)).set i (.own 320 l.length 1)) ?_ ?_ ⟨by omega,by omega,by omega⟩ ?_ ?_ ?_ ?_ ?_⟩
      · rw [hr];rfl
      · rfl
      · intro j hj
        simp only [hk,Dhz 7 j 112 (by omega),Dhz 7 j 320 (by omega),if_false]
        exact Cez _ _ _ _ hj
      · rw [row_set,B5z]
        refine Bjz fun p hp=>?_
        by_cases e:p=i
        · subst e
          rw [Axz]
          unfold cellI
          rw [if_pos (by omega),hr]
          simp only [AV.sw,swp_fst]
        · rw [Awz _ _ _ _ e]
          unfold cellI
          by_cases hpi:p < i
          · rw [if_pos hpi,if_pos (by omega)]
            exact swown _ _ _ _ _ (Ne.symm (fimne _ _ _ (by omega))) (fun e'=>e (Bzz e'))
          · rw [if_neg hpi,if_neg (by omega)]
            rfl
      · simp [lk,AV.sw,swL_LL,swp112]
      · simp [AV.inn,Abz,hk]
      · exact Grz _ _ _ fun p _=>cellI_inn _ _ fun _=>rfl
    · have e:i=ls.length:=by omega
      subst e
      (repeat' (first
 | (first|refine Alz ?_|refine Agz ?_)
 | ((first|refine Amz ?_|refine Afz ?_|refine Ahz ?_|refine Aiz ?_);simp (disch:=omega) only [push_cast,seval,l21r0,l21r1,l21r2,l21r3,l21r4,l21r5,l21r6,Abz])
 | ((first|refine Acz ?_ ?_|refine Aez ?_ ?_|refine Adz ?_ ?_)<;>intro h<;>(try simp only [h])<;>(try simp only [bitvec_to_nat] at h)<;>(try simp only [h])<;>(first|(exfalso;omega)|(exfalso;simp_all;done)|(simp (disch:=omega) only [push_cast,seval,Abz])|skip))
 | ((first|refine Anz false ?_|refine Ajz false ?_);simp (disch:=omega) only [push_cast,seval,Abz])
 | ((first|((first|refine call0D (Bqz _ _ ?_ ?_) ?_|refine qcall0D (Bqz _ _ ?_ ?_) ⟨_,_,rfl,rfl⟩ ?_);(iterate 2 (exact sd));rintro _ _ ⟨rfl,rfl⟩))<;>(try simp (disch:=omega) only [push_cast,seval,Abz]))))
      refine Akz ⟨.inr rfl,ret_famS (F:=lsF ls) (d:=7) rfl ?_ ?_ (by omega)⟩
      · simp only [hk,if_true]
        congr 1
        exact Bjz fun p hp=>by unfold cellI;rw [if_pos hp];rfl
      · intro j hj
        simp only [hk,Dhz 7 j 112 (by omega),if_false]
        exact Cez _ _ _ _ hj


set_option maxHeartbeats 8000000 in
theorem D3z (F:Fam) (n:Nat) (k:Int) (hF:F.C=n ∧ F.R=n ∧ ∀ p,F.pat p=.inr p) (hk:0 ≤ k ∧ k ≤ 1125899906842624) (hb:n ≤ 1048576 ∧ ∀ j,(F.rows j).length ≤ 1048576):BCall Try.prog 26 [.own 0 n 1,.int .i64 k] (F.cellsG (· + 1) :: F.conts) (fun r H'=>∃ G k',(k ≤ k' ∧ k' ≤ k + 1099511627776) ∧ F.like G ∧ r=.int .i64 k' ∧ H'=G.cellsG (· + 1) :: G.conts):=by
  obtain ⟨hC,hR,hpat⟩:=hF
  obtain ⟨hb2,hb3⟩:=hb
  have hb1:=hk
  clear hk
  refine Biz (pins:=List.range (F.R + 1)) (pin:=F.R + 1) l26_eq rfl (by simp [Boz]) (by simp [Boz]) ?_
  rw [initB_fam]
  generalize hc0:F.cellsG (· + 1)=c0
  have hcl:c0.length=n:=by rw [← hc0,Bsz,hC]
  have hat:∀ i,i < n → (c0.drop i).take 1=[.own (i + 1) (F.rows i).length 1]:=fun i hi=>by
    rw [← hc0]
    unfold Fam.cellsG
    rw [row_1 _ _ _ (by omega)]
    simp [Fam.atG,hpat]
  generalize hRR:F.R=R at *
  have hret:∀ (rows:Nat → List Int),(∀ j,(rows j).length=(F.rows j).length) → ∃ G:Fam,F.like G ∧ G.rows=rows ∧ G.R=R ∧ c0=G.cellsG (· + 1):=fun rows hl=>by
    refine ⟨⟨F.C,F.R,F.pat,rows,F.ok,F.cell⟩,⟨rfl,rfl,fun j _=>hl j⟩,rfl,hRR,?_⟩
    rw [← hc0]
    unfold Fam.cellsG Fam.atG
    simp only [hl]
  (repeat' (first
 | (first|refine Alz ?_|refine Agz ?_)
 | ((first|refine Amz ?_|refine Afz ?_|refine Ahz ?_|refine Aiz ?_);simp (disch:=omega) only [push_cast,seval,l26r0,l26r1,l26r2,l26r3,l26r4,l26r5])
 | ((first|refine Acz ?_ ?_|refine Aez ?_ ?_|refine Adz ?_ ?_)<;>intro h<;>(try simp only [h])<;>(try simp only [bitvec_to_nat] at h)<;>(try simp only [h])<;>(first|(exfalso;omega)|(exfalso;simp_all;done)|(simp (disch:=omega) only [push_cast,seval])|skip))
 | ((first|((with_reducible refine qcallI_of (f:=15) [272] false ?_);simp (disch:=omega) only [push_cast,seval];(refine B6z (id:=272) (Avz _ _ _ ?_ ?_) (by (simp (disch:=omega) only [push_cast,seval])<;>rfl) (by decide) ⟨_,_,rfl,rfl⟩ ?_;(iterate 2 (exact sd));rintro _ _ ⟨rfl,rfl⟩))|((with_reducible refine callD_ids (f:=15) [272] false ?_);simp (disch:=omega) only [push_cast,seval];(refine Cgz (id:=272) (Avz _ _ _ ?_ ?_) (by (simp (disch:=omega) only [push_cast,seval])<;>rfl) ?_;(iterate 2 (exact sd));rintro _ _ ⟨rfl,rfl⟩)))<;>(try simp (disch:=omega) only [push_cast,seval]))))
  refine D9z (fun x:Nat × Int × (Nat → List Int)=>mkS [(0,.own 0 n 1),(1,.int .i64 x.2.1),(5,.int .i64 x.1)] ((0,c0) :: pinR x.2.2 R)) (fun x=>x.1 ≤ n ∧ (k ≤ x.2.1 ∧ x.2.1 ≤ k + x.1 * 1048576) ∧ ∀ j,(x.2.2 j).length=(F.rows j).length) (fun x=>n - x.1) (0,k,F.rows) ⟨Nat.zero_le _,by simp,fun _=>rfl⟩ ?_ ?_
  · refine SubW.slots ?_
    simp [lk]
  · rintro ⟨i,kk,rows⟩ ⟨hi,hkk,hl⟩
    simp only at hi hkk hl ⊢
    by_cases hlt:i < n
    · have hd:=hat i hlt
      have hkp:=C0z rows R i (by omega)
      have hli:=hl i
      have hbi:=hb3 i
      generalize hLL:(F.rows i).length=L at *
      (repeat' (first
 | (first|refine Alz ?_|refine Agz ?_)
 | ((first|refine Amz ?_|refine Afz ?_|refine Ahz ?_|refine Aiz ?_);simp (disch:=omega) only [push_cast,seval,l26r0,l26r1,l26r2,l26r3,l26r4,l26r5,hd,hkp,hli,hcl,Bkz,Blz])
 | ((first|refine Acz ?_ ?_|refine Aez ?_ ?_|refine Adz ?_ ?_)<;>intro h<;>(try simp only [h])<;>(try simp only [bitvec_to_nat] at h)<;>(try simp only [h])<;>(first|(exfalso;omega)|(exfalso;simp_all;done)|(simp (disch:=omega) only [push_cast,seval,hd,hkp,hli,hcl,Bkz,Blz])|skip))
 | ((first|((with_reducible refine callD_ids (f:=15) [(i + 1)] false ?_);simp (disch:=omega) only [push_cast,seval,hd,hkp,hli,hcl,Bkz,Blz];(refine Cgz (id:=(i + 1)) (Avz _ _ _ ?_ ?_) (by (simp (disch:=omega) only [push_cast,seval,hd,hkp,hli,hcl,Bkz,Blz])<;>rfl) ?_;(iterate 2 (exact sd));rintro _ _ ⟨rfl,rfl⟩)))<;>(try simp (disch:=omega) only [push_cast,seval,hd,hkp,hli,hcl,Bkz,Blz]))))
      refine ⟨(i + 1,kk + L,upd rows i (upFrom kk L)),⟨by simp only;omega,by simp only;omega,fun j=>?_⟩,by simp only;omega,?_⟩
      · simp only
        by_cases e:j=i
        · subst e;rw [Axz,hLL];simp [upFrom]
        · rw [Awz _ _ _ _ e];exact hl j
      · refine SubW.heq (fun id=>Glz (by omega) id) (SubW.slots ?_)
        simp [lk]
    · have e:i=n:=by omega
      subst e
      (repeat' (first
 | (first|refine Alz ?_|refine Agz ?_)
 | ((first|refine Amz ?_|refine Afz ?_|refine Ahz ?_|refine Aiz ?_);simp (disch:=omega) only [push_cast,seval,l26r0,l26r1,l26r2,l26r3,l26r4,l26r5])
 | ((first|refine Acz ?_ ?_|refine Aez ?_ ?_|refine Adz ?_ ?_)<;>intro h<;>(try simp only [h])<;>(try simp only [bitvec_to_nat] at h)<;>(try simp only [h])<;>(first|(exfalso;omega)|(exfalso;simp_all;done)|(simp (disch:=omega) only [push_cast,seval])|skip))
 | ((first|((with_reducible refine qcallI_of (f:=15) [272] false ?_);simp (disch:=omega) only [push_cast,seval];(refine B6z (id:=272) (Avz _ _ _ ?_ ?_) (by (simp (disch:=omega) only [push_cast,seval])<;>rfl) (by decide) ⟨_,_,rfl,rfl⟩ ?_;(iterate 2 (exact sd));rintro _ _ ⟨rfl,rfl⟩))|((with_reducible refine callD_ids (f:=15) [272] false ?_);simp (disch:=omega) only [push_cast,seval];(refine Cgz (id:=272) (Avz _ _ _ ?_ ?_) (by (simp (disch:=omega) only [push_cast,seval])<;>rfl) ?_;(iterate 2 (exact sd));rintro _ _ ⟨rfl,rfl⟩)))<;>(try simp (disch:=omega) only [push_cast,seval]))))
      refine Akz ⟨.inr rfl,ret_pinS (fun _=>rfl) (by omega) (hret rows hl)⟩

end Go.Proofs.Ytpicoecbbiiaoaa
set_option linter.unusedSimpArgs false
set_option linter.unusedVariables false
set_option maxRecDepth 4000
set_option maxHeartbeats 4000000
namespace Go.Proofs.Ytpicoecbbiiaoaa
open VwM Vw Go

theorem swl2 (a d i m:Nat) (hm:m < 1099511627776) (hn:m ≠ a) (n sz:Nat):(AV.own m n sz).sw a (fim d i)=.own m n sz:=by simp only [AV.sw,swp112 a d i m hm hn]




set_option maxHeartbeats 8000000 in
theorem Dyz (ts:List Tn) (n:Nat) (hn:ts.length=n) (hb:n ≤ 1048576 ∧ ∀ t ∈ ts,t.1.length ≤ 1099511627776 ∧ t.2.length ≤ 1099511627776):BCall Try.prog 20 [.rows false (TL false ts) n] [] (fun r H'=>r=.own 0 n 2 ∧ H'=(tsF ts).cellsG (· + 1) :: (tsF ts).conts):=by
  subst hn
  obtain ⟨hb1,hb2⟩:=hb
  refine Biz (pins:=[]) (pin:=0) l20_eq rfl rfl rfl ?_
  have htl:=A9z false ts
  have hzl:(zcells [AV.val (.slice none 0 0),.val (.slice none 0 0)] ts.length).length=ts.length * 2:=by simp [zcells,Nat.mul_comm]
  (repeat' (first
 | (first|refine Alz ?_|refine Agz ?_)
 | ((first|refine Amz ?_|refine Afz ?_|refine Ahz ?_|refine Aiz ?_);simp (disch:=omega) only [push_cast,seval,l20r0,l20r1,l20r2,l20r3,l20r4,l20r5,l20r6,Aaz])
 | ((first|refine Acz ?_ ?_|refine Aez ?_ ?_|refine Adz ?_ ?_)<;>intro h<;>(try simp only [h])<;>(try simp only [bitvec_to_nat] at h)<;>(try simp only [h])<;>(first|(exfalso;omega)|(exfalso;simp_all;done)|(simp (disch:=omega) only [push_cast,seval,Aaz])|skip))
 | ((first|refine Anz false ?_|refine Ajz false ?_);simp (disch:=omega) only [push_cast,seval,Aaz])
 | ((first|((first|refine call0D (Bmz _ _ _ _ ?_ ?_ ?_) ?_|refine qcall0D (Bmz _ _ _ _ ?_ ?_ ?_) ⟨_,_,rfl,rfl⟩ ?_);(iterate 3 (exact sd));rintro _ _ ⟨rfl,rfl⟩))<;>(try simp (disch:=omega) only [push_cast,seval,Aaz]))
 | (refine Akz ⟨.inr rfl,[112],[],_,by decide,rfl,?_⟩;(try simp (disch:=omega) only [push_cast,seval,↓Auz,↓Asz,↓List.map_cons,↓List.map_nil,Aaz]))))
  refine D9z (fun i:Nat=>mkS [(0,.rows false (TL false ts) ts.length),(3,.own 112 ts.length 2),(4,.int .i64 i)] ((112,row (ts.length * 2) (cellI 7 (tsF ts).rows (.val (.slice none 0 0)) (i * 2))) :: famR 7 (tsF ts).rows (i * 2))) (fun i=>i ≤ ts.length) (fun i=>ts.length - i) 0 (Nat.zero_le _) ?_ ?_
  · refine SubW.of ?_
    have e:row (ts.length * 2) (cellI 7 (tsF ts).rows (.val (.slice none 0 0)) (0 * 2))=zcells [AV.val (.slice none 0 0),.val (.slice none 0 0)] ts.length:=by
      symm
      refine Ghz hzl fun p hp=>?_
      unfold zcells
      rw [List.getElem?_map,List.getElem?_range (by simpa using hp)]
      rcases Nat.mod_two_eq_zero_or_one p with h|h<;>simp [h,cellI]
    have hzi:∀ P:Nat → Bool,innL P (row (ts.length * 2) (cellI 7 (tsF ts).rows (.val (.slice none 0 0)) (0 * 2)))=true:=fun P=>Grz _ _ _ fun p _=>by simp [cellI,AV.inn]
    rw [Nat.zero_mul,famR_zero] at *
    rw [e] at hzi
    rw [e]
    generalize zcells [AV.val (.slice none 0 0),.val (.slice none 0 0)] ts.length=Z at *
    (refine Sub.of_lists ?_ ?_ ?_ ?_ ?_<;>simp [Vw.mkS,Vw.lk,Vw.hk,AV.inn,innL,Apz,Aoz,Atz,-List.map_set,-List.getD_eq_getElem?_getD,Aaz,TL,hzi])
  · intro i hi
    by_cases hlt:i < ts.length
    · obtain ⟨⟨x,y⟩,hti⟩:=mem_ltS hlt
      have hbb:x.length ≤ 1099511627776 ∧ y.length ≤ 1099511627776:=hb2 _ (List.mem_of_getElem? hti)
      have hd:=Cqz false ts i hti
      simp only at hd
      have hil:i * 2 + 2 ≤ ts.length * 2:=by omega
      have hwl:=Cdz (ts.length * 2) (cellI 7 (tsF ts).rows (.val (.slice none 0 0)) (i * 2))
      obtain ⟨hr0,hr1⟩:(tsF ts).rows (i * 2)=x ∧ (tsF ts).rows (i * 2 + 1)=y:=tnRow_0 hti
      (repeat' (first
 | (first|refine Alz ?_|refine Agz ?_)
 | ((first|refine Amz ?_|refine Afz ?_|refine Ahz ?_|refine Aiz ?_);simp (disch:=omega) only [push_cast,seval,l20r0,l20r1,l20r2,l20r3,l20r4,l20r5,l20r6,hd,htl,hil,hwl,Aaz])
 | ((first|refine Acz ?_ ?_|refine Aez ?_ ?_|refine Adz ?_ ?_)<;>intro h<;>(try simp only [h])<;>(try simp only [bitvec_to_nat] at h)<;>(try simp only [h])<;>(first|(exfalso;omega)|(exfalso;simp_all;done)|(simp (disch:=omega) only [push_cast,seval,hd,htl,hil,hwl,Aaz])|skip))
 | ((first|refine Anz false ?_|refine Ajz false ?_);simp (disch:=omega) only [push_cast,seval,hd,htl,hil,hwl,Aaz])
 | ((first|((first|refine call0D (Bmz _ _ _ _ ?_ ?_ ?_) ?_|refine qcall0D (Bmz _ _ _ _ ?_ ?_ ?_) ⟨_,_,rfl,rfl⟩ ?_);(iterate 3 (exact sd));rintro _ _ ⟨rfl,rfl⟩))<;>(try simp (disch:=omega) only [push_cast,seval,hd,htl,hil,hwl,Aaz]))))
      refine ⟨i + 1,by omega,by omega,?_⟩
      rw [show (i + 1) * 2=i * 2 + 2 by omega]
      refine SubW.fam2 (a:=320) (b:=321) (d:=7) (i:=i * 2) (id0:=112) (rows:=(tsF ts).rows) (c0:=((row (ts.length * 2) (cellI 7 (tsF ts).rows (.val (.slice none 0 0)) (i * 2))).set (i * 2) (.own 320 x.length 1)).set (i * 2 + 1) (.own 321 y.length 1)) ?_ ?_ ?_ ⟨by omega,by omega,by omega⟩ ?_ ?_ ?_ ?_ ?_
      · rw [hr0];rfl
      · rw [hr1];rfl
      · rfl
      · intro j hj
        simp only [hk,Dhz 7 j 112 (by omega),Dhz 7 j 320 (by omega),Dhz 7 j 321 (by omega),if_false]
        exact Cez _ _ _ _ hj
      · rw [row_set,row_set,B5z,B5z]
        refine Bjz fun p hp=>?_
        by_cases e:p=i * 2 + 1
        · subst e
          rw [Axz]
          unfold cellI
          rw [if_pos (by omega),hr1,swl2 _ _ _ _ (by omega) (by omega)]
          simp only [AV.sw,swp_fst]
        · rw [Awz _ _ _ _ e]
          by_cases e':p=i * 2
          · subst e'
            rw [Axz]
            unfold cellI
            rw [if_pos (by omega),hr0]
            simp only [AV.sw,swp_fst]
            rw [B4z (Ne.symm (fimne _ _ _ (by omega))) (fun e'=>by have:=Bzz e';omega)]
          · rw [Awz _ _ _ _ e']
            unfold cellI
            by_cases hpi:p < i * 2
            · rw [if_pos hpi,if_pos (by omega),swown _ _ _ _ _ (Ne.symm (fimne _ _ _ (by omega))) (fun e'=>by have:=Bzz e';omega)]
              exact swown _ _ _ _ _ (Ne.symm (fimne _ _ _ (by omega))) (fun e'=>by have:=Bzz e';omega)
            · rw [if_neg hpi,if_neg (by omega)]
              rfl
      · simp [lk,AV.sw,swL_TL,swp112]
      · simp [AV.inn,Aaz,hk]
      · exact Grz _ _ _ fun p _=>cellI_inn _ _ fun _=>rfl
    · have e:i=ts.length:=by omega
      subst e
      (repeat' (first
 | (first|refine Alz ?_|refine Agz ?_)
 | ((first|refine Amz ?_|refine Afz ?_|refine Ahz ?_|refine Aiz ?_);simp (disch:=omega) only [push_cast,seval,l20r0,l20r1,l20r2,l20r3,l20r4,l20r5,l20r6,Aaz])
 | ((first|refine Acz ?_ ?_|refine Aez ?_ ?_|refine Adz ?_ ?_)<;>intro h<;>(try simp only [h])<;>(try simp only [bitvec_to_nat] at h)<;>(try simp only [h])<;>(first|(exfalso;omega)|(exfalso;simp_all;done)|(simp (disch:=omega) only [push_cast,seval,Aaz])|skip))
 | ((first|refine Anz false ?_|refine Ajz false ?_);simp (disch:=omega) only [push_cast,seval,Aaz])
 | ((first|((first|refine call0D (Bmz _ _ _ _ ?_ ?_ ?_) ?_|refine qcall0D (Bmz _ _ _ _ ?_ ?_ ?_) ⟨_,_,rfl,rfl⟩ ?_);(iterate 3 (exact sd));rintro _ _ ⟨rfl,rfl⟩))<;>(try simp (disch:=omega) only [push_cast,seval,Aaz]))))
      refine Akz ⟨.inr rfl,ret_famS (F:=tsF ts) (d:=7) rfl ?_ ?_ (by omega)⟩
      · simp only [hk,if_true]
        congr 1
        exact Bjz fun p hp=>by unfold cellI;rw [if_pos hp];rfl
      · intro j hj
        simp only [hk,Dhz 7 j 112 (by omega),if_false]
        exact Cez _ _ _ _ hj




set_option maxHeartbeats 8000000 in
theorem Cwz (F:Fam) (n:Nat) (k:Int) (hF:F.C=n * 2 ∧ F.R=n * 2 ∧ ∀ p,F.pat p=.inr p) (hk:0 ≤ k ∧ k ≤ 1125899906842624) (hb:n ≤ 1048576 ∧ ∀ j,(F.rows j).length ≤ 1048576):BCall Try.prog 25 [.own 0 n 2,.int .i64 k] (F.cellsG (· + 1) :: F.conts) (fun r H'=>∃ G k',(k ≤ k' ∧ k' ≤ k + 2199023255552) ∧ F.like G ∧ r=.int .i64 k' ∧ H'=G.cellsG (· + 1) :: G.conts):=by
  obtain ⟨hC,hR,hpat⟩:=hF
  obtain ⟨hb2,hb3⟩:=hb
  have hb1:=hk
  clear hk
  refine Biz (pins:=List.range (F.R + 1)) (pin:=F.R + 1) l25_eq rfl (by simp [Boz]) (by simp [Boz]) ?_
  rw [initB_fam]
  generalize hc0:F.cellsG (· + 1)=c0
  have hcl:c0.length=n * 2:=by rw [← hc0,Bsz,hC]
  have hat:∀ i,i < n * 2 → (c0.drop i).take 1=[.own (i + 1) (F.rows i).length 1]:=fun i hi=>by
    rw [← hc0]
    unfold Fam.cellsG
    rw [row_1 _ _ _ (by omega)]
    simp [Fam.atG,hpat]
  generalize hRR:F.R=R at *
  have hret:∀ (rows:Nat → List Int),(∀ j,(rows j).length=(F.rows j).length) → ∃ G:Fam,F.like G ∧ G.rows=rows ∧ G.R=R ∧ c0=G.cellsG (· + 1):=fun rows hl=>by
    refine ⟨⟨F.C,F.R,F.pat,rows,F.ok,F.cell⟩,⟨rfl,rfl,fun j _=>hl j⟩,rfl,hRR,?_⟩
    rw [← hc0]
    unfold Fam.cellsG Fam.atG
    simp only [hl]
  (repeat' (first
 | (first|refine Alz ?_|refine Agz ?_)
 | ((first|refine Amz ?_|refine Afz ?_|refine Ahz ?_|refine Aiz ?_);simp (disch:=omega) only [push_cast,seval,l25r0,l25r1,l25r2,l25r3,l25r4,l25r5,l25r6])
 | ((first|refine Acz ?_ ?_|refine Aez ?_ ?_|refine Adz ?_ ?_)<;>intro h<;>(try simp only [h])<;>(try simp only [bitvec_to_nat] at h)<;>(try simp only [h])<;>(first|(exfalso;omega)|(exfalso;simp_all;done)|(simp (disch:=omega) only [push_cast,seval])|skip))
 | ((first|((with_reducible refine qcallI_of (f:=15) [288] false ?_);simp (disch:=omega) only [push_cast,seval];(refine B6z (id:=288) (Avz _ _ _ ?_ ?_) (by (simp (disch:=omega) only [push_cast,seval])<;>rfl) (by decide) ⟨_,_,rfl,rfl⟩ ?_;(iterate 2 (exact sd));rintro _ _ ⟨rfl,rfl⟩))|((with_reducible refine qcallI_of (f:=15) [400] false ?_);simp (disch:=omega) only [push_cast,seval];(refine B6z (id:=400) (Avz _ _ _ ?_ ?_) (by (simp (disch:=omega) only [push_cast,seval])<;>rfl) (by decide) ⟨_,_,rfl,rfl⟩ ?_;(iterate 2 (exact sd));rintro _ _ ⟨rfl,rfl⟩))|((with_reducible refine callD_ids (f:=15) [288] false ?_);simp (disch:=omega) only [push_cast,seval];(refine Cgz (id:=288) (Avz _ _ _ ?_ ?_) (by (simp (disch:=omega) only [push_cast,seval])<;>rfl) ?_;(iterate 2 (exact sd));rintro _ _ ⟨rfl,rfl⟩))|((with_reducible refine callD_ids (f:=15) [400] false ?_);simp (disch:=omega) only [push_cast,seval];(refine Cgz (id:=400) (Avz _ _ _ ?_ ?_) (by (simp (disch:=omega) only [push_cast,seval])<;>rfl) ?_;(iterate 2 (exact sd));rintro _ _ ⟨rfl,rfl⟩)))<;>(try simp (disch:=omega) only [push_cast,seval]))))
  refine D9z (fun x:Nat × Int × (Nat → List Int)=>mkS [(0,.own 0 n 2),(1,.int .i64 x.2.1),(5,.int .i64 x.1)] ((0,c0) :: pinR x.2.2 R)) (fun x=>x.1 ≤ n ∧ (k ≤ x.2.1 ∧ x.2.1 ≤ k + x.1 * 2097152) ∧ ∀ j,(x.2.2 j).length=(F.rows j).length) (fun x=>n - x.1) (0,k,F.rows) ⟨Nat.zero_le _,by simp,fun _=>rfl⟩ ?_ ?_
  · refine SubW.slots ?_
    simp [lk]
  · rintro ⟨i,kk,rows⟩ ⟨hi,hkk,hl⟩
    simp only at hi hkk hl ⊢
    by_cases hlt:i < n
    · have hd:=hat (i * 2) (by omega)
      have hd2:=hat (i * 2 + 1) (by omega)
      have hkp:=C0z rows R (i * 2) (by omega)
      have hkp2:=C0z rows R (i * 2 + 1) (by omega)
      have hli:=hl (i * 2)
      have hbi:=hb3 (i * 2)
      have hli2:=hl (i * 2 + 1)
      have hbi2:=hb3 (i * 2 + 1)
      have hil:i * 2 + 2 ≤ n * 2:=by omega
      have hne:(i * 2 + 1 + 1=i * 2 + 1)=False:=by simp
      generalize hLL:(F.rows (i * 2)).length=L at *
      generalize hLL2:(F.rows (i * 2 + 1)).length=L2 at *
      (repeat' (first
 | (first|refine Alz ?_|refine Agz ?_)
 | ((first|refine Amz ?_|refine Afz ?_|refine Ahz ?_|refine Aiz ?_);simp (disch:=omega) only [push_cast,seval,l25r0,l25r1,l25r2,l25r3,l25r4,l25r5,l25r6,hd,hd2,hkp,hkp2,hli,hli2,hcl,hil,hne,Bkz,Blz])
 | ((first|refine Acz ?_ ?_|refine Aez ?_ ?_|refine Adz ?_ ?_)<;>intro h<;>(try simp only [h])<;>(try simp only [bitvec_to_nat] at h)<;>(try simp only [h])<;>(first|(exfalso;omega)|(exfalso;simp_all;done)|(simp (disch:=omega) only [push_cast,seval,hd,hd2,hkp,hkp2,hli,hli2,hcl,hil,hne,Bkz,Blz])|skip))
 | ((first|((with_reducible refine callD_ids (f:=15) [(i * 2 + 1)] false ?_);simp (disch:=omega) only [push_cast,seval,hd,hd2,hkp,hkp2,hli,hli2,hcl,hil,hne,Bkz,Blz];(refine Cgz (id:=(i * 2 + 1)) (Avz _ _ _ ?_ ?_) (by (simp (disch:=omega) only [push_cast,seval,hd,hd2,hkp,hkp2,hli,hli2,hcl,hil,hne,Bkz,Blz])<;>rfl) ?_;(iterate 2 (exact sd));rintro _ _ ⟨rfl,rfl⟩))|((with_reducible refine callD_ids (f:=15) [(i * 2 + 1 + 1)] false ?_);simp (disch:=omega) only [push_cast,seval,hd,hd2,hkp,hkp2,hli,hli2,hcl,hil,hne,Bkz,Blz];(refine Cgz (id:=(i * 2 + 1 + 1)) (Avz _ _ _ ?_ ?_) (by (simp (disch:=omega) only [push_cast,seval,hd,hd2,hkp,hkp2,hli,hli2,hcl,hil,hne,Bkz,Blz])<;>rfl) ?_;(iterate 2 (exact sd));rintro _ _ ⟨rfl,rfl⟩)))<;>(try simp (disch:=omega) only [push_cast,seval,hd,hd2,hkp,hkp2,hli,hli2,hcl,hil,hne,Bkz,Blz]))))
      refine ⟨(i + 1,kk + L + L2,upd (upd rows (i * 2) (upFrom kk L)) (i * 2 + 1) (upFrom (kk + L) L2)),⟨by simp only;omega,by simp only;omega,fun j=>?_⟩,by simp only;omega,?_⟩
      · simp only
        by_cases e:j=i * 2 + 1
        · subst e;rw [Axz,hLL2];simp [upFrom]
        · rw [Awz _ _ _ _ e]
          by_cases e:j=i * 2
          · subst e;rw [Axz,hLL];simp [upFrom]
          · rw [Awz _ _ _ _ e];exact hl j
      · refine SubW.heq (H':=(0,c0) :: pinR (upd (upd rows (i * 2) (upFrom kk L)) (i * 2 + 1) (upFrom (kk + L) L2)) R) (fun id=>?_) (SubW.slots ?_)
        · rw [Glz (by omega) id]
          simp only [hk]
          by_cases e:id=i * 2 + 1 + 1
          · rw [if_pos e,if_pos e]
          · rw [if_neg e,if_neg e]
            exact Glz (by omega) id
        · simp [lk]
    · have e:i=n:=by omega
      subst e
      (repeat' (first
 | (first|refine Alz ?_|refine Agz ?_)
 | ((first|refine Amz ?_|refine Afz ?_|refine Ahz ?_|refine Aiz ?_);simp (disch:=omega) only [push_cast,seval,l25r0,l25r1,l25r2,l25r3,l25r4,l25r5,l25r6])
 | ((first|refine Acz ?_ ?_|refine Aez ?_ ?_|refine Adz ?_ ?_)<;>intro h<;>(try simp only [h])<;>(try simp only [bitvec_to_nat] at h)<;>(try simp only [h])<;>(first|(exfalso;omega)|(exfalso;simp_all;done)|(simp (disch:=omega) only [push_cast,seval])|skip))
 | ((first|((with_reducible refine qcallI_of (f:=15) [288] false ?_);simp (disch:=omega) only [push_cast,seval];(refine B6z (id:=288) (Avz _ _ _ ?_ ?_) (by (simp (disch:=omega) only [push_cast,seval])<;>rfl) (by decide) ⟨_,_,rfl,rfl⟩ ?_;(iterate 2 (exact sd));rintro _ _ ⟨rfl,rfl⟩))|((with_reducible refine qcallI_of (f:=15) [400] false ?_);simp (disch:=omega) only [push_cast,seval];(refine B6z (id:=400) (Avz _ _ _ ?_ ?_) (by (simp (disch:=omega) only [push_cast,seval])<;>rfl) (by decide) ⟨_,_,rfl,rfl⟩ ?_;(iterate 2 (exact sd));rintro _ _ ⟨rfl,rfl⟩))|((with_reducible refine callD_ids (f:=15) [288] false ?_);simp (disch:=omega) only [push_cast,seval];(refine Cgz (id:=288) (Avz _ _ _ ?_ ?_) (by (simp (disch:=omega) only [push_cast,seval])<;>rfl) ?_;(iterate 2 (exact sd));rintro _ _ ⟨rfl,rfl⟩))|((with_reducible refine callD_ids (f:=15) [400] false ?_);simp (disch:=omega) only [push_cast,seval];(refine Cgz (id:=400) (Avz _ _ _ ?_ ?_) (by (simp (disch:=omega) only [push_cast,seval])<;>rfl) ?_;(iterate 2 (exact sd));rintro _ _ ⟨rfl,rfl⟩)))<;>(try simp (disch:=omega) only [push_cast,seval]))))
      refine Akz ⟨.inr rfl,ret_pinS (fun _=>rfl) (by omega) (hret rows hl)⟩

end Go.Proofs.Ytpicoecbbiiaoaa
set_option linter.unusedSimpArgs false
set_option linter.unusedVariables false
set_option maxRecDepth 4000
set_option maxHeartbeats 4000000
namespace Go.Proofs.Ytpicoecbbiiaoaa
open VwM Vw Go

theorem lsF_b {ls:List (List Int)} {n:Nat} (h1:ls.length ≤ n) (h:∀ l ∈ ls,l.length ≤ 1048576):ls.length ≤ n ∧ ∀ j,((lsF ls).rows j).length ≤ 1048576:=by
  refine ⟨h1,fun j=>?_⟩
  by_cases hj:j < ls.length
  · have:=h ls[j] (List.getElem_mem hj)
    simpa [lsF,List.getD,hj] using this
  · simp [lsF,List.getD,hj]
theorem tsF_b {ts:List Tn} {n:Nat} (h1:ts.length ≤ n) (h:∀ t ∈ ts,t.1.length ≤ 1048576 ∧ t.2.length ≤ 1048576):ts.length ≤ n ∧ ∀ j,((tsF ts).rows j).length ≤ 1048576:=by
  refine ⟨h1,fun j=>?_⟩
  have:(tsF ts).rows j=tnRow ts j:=rfl
  rw [this]
  unfold tnRow
  by_cases hj:j / 2 < ts.length
  · have:=h ts[j / 2] (List.getElem_mem hj)
    rw [show ts.getD (j / 2) ([],[])=ts[j / 2] by simp [List.getD,hj]]
    split<;>omega
  · rw [show ts.getD (j / 2) ([],[])=([],[]) by simp [List.getD,hj]]
    split<;>simp

end Go.Proofs.Ytpicoecbbiiaoaa
set_option linter.unusedSimpArgs false
set_option linter.unusedVariables false
set_option maxRecDepth 4000
set_option maxHeartbeats 4000000
namespace Go.Proofs.Ytpicoecbbiiaoaa
open VwM Vw Go

set_option maxHeartbeats 32000000 in
theorem lEO_ok (ts:List Tn) (ls:List (List Int)) (hn:ts.length ≤ 9223372036854775807) (hm:ls.length ≤ 9223372036854775807) (hb:∀ t ∈ ts,t.1.length ≤ 9223372036854775807 ∧ t.2.length ≤ 9223372036854775807) (hb':∀ l ∈ ls,l.length ≤ 9223372036854775807) :
    PCall Try.prog 4 [.rows false (TL false ts) ts.length,.rows false (LL false ls) ls.length] (fun r=>r=.bool true):=by
  refine A0z l4_eq rfl ?_
  have hq:ts.length ≤ 9223372036854775807 ∧ ∀ t ∈ ts,t.1.length ≤ 9223372036854775807 ∧ t.2.length ≤ 9223372036854775807:=⟨hn,hb⟩
  have hq':ls.length ≤ 9223372036854775807 ∧ ∀ l ∈ ls,l.length ≤ 9223372036854775807:=⟨hm,hb'⟩
  (repeat' (first
 | (first|refine Alz ?_|refine Agz ?_)
 | ((first|refine Amz ?_|refine Afz ?_|refine Ahz ?_|refine Aiz ?_);simp (disch:=omega) only [push_cast,seval,l4r0,l4r1,l4r2,l4r3,l4r4,l4r5,l4r6,l4r7,l4r8,l4r9,l4r10,l4r11,l4r12,l4r13,l4r14,l4r15,l4r16,l4r17,l4r18,l4r19,l4r20,l4r21,l4r22,l4r23,l4r24,l4r25,l4r26,l4r27,l4r28,l4r29,l4r30,l4r31,l4r32,l4r33,l4r34,l4r35,l4r36,l4r37,l4r38,l4r39,l4r40,Aaz,Abz])
 | ((first|refine Acz ?_ ?_|refine Aez ?_ ?_|refine Adz ?_ ?_)<;>intro h<;>(try simp only [h])<;>(try simp only [bitvec_to_nat] at h)<;>(try simp only [h])<;>(first|(exfalso;omega)|(exfalso;simp_all;done)|(simp (disch:=omega) only [push_cast,seval,Aaz,Abz])|skip))
 | ((first|((with_reducible refine Anz (f:=20) false ?_);simp (disch:=omega) only [push_cast,seval,Aaz,Abz];(refine callFN (Dyz _ _ ?_ ?_) (by (simp (disch:=omega) only [push_cast,seval,Aaz,Abz]);done) ?_;(iterate 2 (exact sd))))|((with_reducible refine Anz (f:=21) false ?_);simp (disch:=omega) only [push_cast,seval,Aaz,Abz];(refine callFN (Ewz _ _ ?_ ?_) (by (simp (disch:=omega) only [push_cast,seval,Aaz,Abz]);done) ?_;(iterate 2 (exact sd))))|((with_reducible refine Etz (f:=25) ?_);simp (disch:=omega) only [push_cast,seval,Aaz,Abz];(refine callFM (Cwz _ _ _ ?_ ?_ ?_) (by (simp (disch:=omega) only [push_cast,seval,Aaz,Abz])<;>rfl) (by first|((simp (disch:=omega) only [push_cast,seval,Aaz,Abz]);done)|omega) (by first|((simp (disch:=omega) only [push_cast,seval,Aaz,Abz]);done)|((simp (disch:=omega) only [push_cast,seval,Aaz,Abz]);assumption)) (fun G kk hkk hG=>?_);(iterate 3 (exact sd))))|((with_reducible refine Etz (f:=26) ?_);simp (disch:=omega) only [push_cast,seval,Aaz,Abz];(refine callFM (D3z _ _ _ ?_ ?_ ?_) (by (simp (disch:=omega) only [push_cast,seval,Aaz,Abz])<;>rfl) (by first|((simp (disch:=omega) only [push_cast,seval,Aaz,Abz]);done)|omega) (by first|((simp (disch:=omega) only [push_cast,seval,Aaz,Abz]);done)|((simp (disch:=omega) only [push_cast,seval,Aaz,Abz]);assumption)) (fun G kk hkk hG=>?_);(iterate 3 (exact sd))))|((with_reducible refine qcallI_of (f:=15) [672] false ?_);simp (disch:=omega) only [push_cast,seval,Aaz,Abz];(refine B6z (id:=672) (Avz _ _ _ ?_ ?_) (by (simp (disch:=omega) only [push_cast,seval,Aaz,Abz])<;>rfl) (by decide) ⟨_,_,rfl,rfl⟩ ?_;(iterate 2 (exact sd));rintro _ _ ⟨rfl,rfl⟩))|((with_reducible refine qcallI_of (f:=15) [1360] false ?_);simp (disch:=omega) only [push_cast,seval,Aaz,Abz];(refine B6z (id:=1360) (Avz _ _ _ ?_ ?_) (by (simp (disch:=omega) only [push_cast,seval,Aaz,Abz])<;>rfl) (by decide) ⟨_,_,rfl,rfl⟩ ?_;(iterate 2 (exact sd));rintro _ _ ⟨rfl,rfl⟩))|((with_reducible refine callD_ids (f:=15) [672] false ?_);simp (disch:=omega) only [push_cast,seval,Aaz,Abz];(refine Cgz (id:=672) (Avz _ _ _ ?_ ?_) (by (simp (disch:=omega) only [push_cast,seval,Aaz,Abz])<;>rfl) ?_;(iterate 2 (exact sd));rintro _ _ ⟨rfl,rfl⟩))|((with_reducible refine callD_ids (f:=15) [1360] false ?_);simp (disch:=omega) only [push_cast,seval,Aaz,Abz];(refine Cgz (id:=1360) (Avz _ _ _ ?_ ?_) (by (simp (disch:=omega) only [push_cast,seval,Aaz,Abz])<;>rfl) ?_;(iterate 2 (exact sd));rintro _ _ ⟨rfl,rfl⟩)))<;>(try simp (disch:=omega) only [push_cast,seval,Aaz,Abz]))
 | ((first|refine Anz false ?_|refine Ajz false ?_);simp (disch:=omega) only [push_cast,seval,Aaz,Abz])
 | ((first|(refine call0D (BCall.ofP (Ekz _ _ _ ?_ ?_ ?_)) ?_;(iterate 3 (exact sd));rintro _ _ ⟨⟨z,hz,rfl⟩,rfl⟩)|(refine call0D (BCall.ofP (szIntSS_ok _ _ _ ?_ ?_ ?_)) ?_;(iterate 3 (exact sd));rintro _ _ ⟨⟨z2,hz2,rfl⟩,rfl⟩)|((first|refine call0D (BCall.ofP (toTensorSP_ok _ _ ?_ ?_)) ?_|refine qcall0D (BCall.ofP (toTensorSP_ok _ _ ?_ ?_)) ⟨_,_,rfl,rfl⟩ ?_);(iterate 2 (exact sd));rintro _ _ ⟨rfl,rfl⟩)|((first|refine call0D (BCall.ofP (toIntSSP_ok _ _ ?_ ?_)) ?_|refine qcall0D (BCall.ofP (toIntSSP_ok _ _ ?_ ?_)) ⟨_,_,rfl,rfl⟩ ?_);(iterate 2 (exact sd));rintro _ _ ⟨rfl,rfl⟩)|((first|refine call0D (sExO_ok _ _ _ _ ?_ ?_ ?_) ?_|refine qcall0D (sExO_ok _ _ _ _ ?_ ?_ ?_) ⟨_,_,rfl,rfl⟩ ?_);(iterate 3 (exact sd));rintro _ _ ⟨rfl,rfl⟩)|((first|refine call0D (iExO_ok _ _ _ _ ?_ ?_ ?_) ?_|refine qcall0D (iExO_ok _ _ _ _ ?_ ?_ ?_) ⟨_,_,rfl,rfl⟩ ?_);(iterate 3 (exact sd));rintro _ _ ⟨rfl,rfl⟩)|((first|refine call0D (BCall.ofP (eqIntS_ok _ _ _ _ ?_ ?_ ?_)) ?_|refine qcall0D (BCall.ofP (eqIntS_ok _ _ _ _ ?_ ?_ ?_)) ⟨_,_,rfl,rfl⟩ ?_);(iterate 3 (exact sd));rintro _ _ ⟨rfl,rfl⟩)|((first|refine call0D (BCall.ofP (eqTensorS_ok _ _ ?_ ?_)) ?_|refine qcall0D (BCall.ofP (eqTensorS_ok _ _ ?_ ?_)) ⟨_,_,rfl,rfl⟩ ?_);(iterate 2 (exact sd));rintro _ _ ⟨rfl,rfl⟩)|((first|refine call0D (BCall.ofP (eqIntSS_ok _ _ ?_ ?_)) ?_|refine qcall0D (BCall.ofP (eqIntSS_ok _ _ ?_ ?_)) ⟨_,_,rfl,rfl⟩ ?_);(iterate 2 (exact sd));rintro _ _ ⟨rfl,rfl⟩)|((first|refine call0D (BCall.ofP (heldIntS_ok _ _ ?_)) ?_|refine qcall0D (BCall.ofP (heldIntS_ok _ _ ?_)) ⟨_,_,rfl,rfl⟩ ?_);(exact sd);rintro _ _ ⟨rfl,rfl⟩))<;>(try simp (disch:=omega) only [push_cast,seval,Aaz,Abz]))
 | (refine Akz ⟨.inr rfl,_,rfl,?_⟩;(try simp (disch:=omega) only [push_cast,seval,Aaz,Abz]))))
  obtain ⟨hz1,hz3,hz4⟩:=hz (by assumption)
  obtain ⟨hz5,hz6,hz7⟩:=hz2 (by assumption)
  have q5:ts.length ≤ 1048576 ∧ ∀ t ∈ ts,t.1.length ≤ 1099511627776 ∧ t.2.length ≤ 1099511627776:=⟨hz3,fun v hv=>by have:=hz4 v hv;omega⟩
  have q6:ls.length ≤ 1048576 ∧ ∀ l ∈ ls,l.length ≤ 1099511627776:=⟨hz6,fun v hv=>by have:=hz7 v hv;omega⟩
  have q7:ts.length ≤ 1099511627776 ∧ ∀ t ∈ ts,t.1.length ≤ 1099511627776 ∧ t.2.length ≤ 1099511627776:=⟨by omega,q5.2⟩
  have q8:ls.length ≤ 1099511627776 ∧ ∀ l ∈ ls,l.length ≤ 1099511627776:=⟨by omega,q6.2⟩
  have q9:ts.length ≤ 1099511627776 ∧ ls.length ≤ 1099511627776 ∧ (∀ t ∈ ts,t.1.length ≤ 1099511627776 ∧ t.2.length ≤ 1099511627776) ∧ ∀ l ∈ ls,l.length ≤ 1099511627776:=⟨by omega,by omega,q5.2,q6.2⟩
  have hFt:(tsF ts).C=ts.length * 2 ∧ (tsF ts).R=ts.length * 2 ∧ ∀ p,(tsF ts).pat p=.inr p:=⟨rfl,rfl,fun _=>rfl⟩
  have hFl:(lsF ls).C=ls.length ∧ (lsF ls).R=ls.length ∧ ∀ p,(lsF ls).pat p=.inr p:=⟨rfl,rfl,fun _=>rfl⟩
  have hbt:=tsF_b hz3 hz4
  have hbl:=lsF_b hz6 hz7
  have hC:((exO ts ls).getD []).length ≤ 5:=by
    cases hx:exO ts ls with
    | none=>simp
    | some e=>obtain ⟨h5,_⟩:=exO_facts hx;simp [h5]
  generalize hO:exO ts ls=o at *
  generalize hP:o.getD []=W at *
  (repeat' (first
 | (first|refine Alz ?_|refine Agz ?_)
 | ((first|refine Amz ?_|refine Afz ?_|refine Ahz ?_|refine Aiz ?_);simp (disch:=omega) only [push_cast,seval,l4r0,l4r1,l4r2,l4r3,l4r4,l4r5,l4r6,l4r7,l4r8,l4r9,l4r10,l4r11,l4r12,l4r13,l4r14,l4r15,l4r16,l4r17,l4r18,l4r19,l4r20,l4r21,l4r22,l4r23,l4r24,l4r25,l4r26,l4r27,l4r28,l4r29,l4r30,l4r31,l4r32,l4r33,l4r34,l4r35,l4r36,l4r37,l4r38,l4r39,l4r40,hP,hO,Aaz,Abz,decide_true])
 | ((first|refine Acz ?_ ?_|refine Aez ?_ ?_|refine Adz ?_ ?_)<;>intro h<;>(try simp only [h])<;>(try simp only [bitvec_to_nat] at h)<;>(try simp only [h])<;>(first|(exfalso;omega)|(exfalso;simp_all;done)|(simp (disch:=omega) only [push_cast,seval,hP,hO,Aaz,Abz,decide_true])|skip))
 | ((first|((with_reducible refine Anz (f:=20) false ?_);simp (disch:=omega) only [push_cast,seval,hP,hO,Aaz,Abz,decide_true];(refine callFN (Dyz _ _ ?_ ?_) (by (simp (disch:=omega) only [push_cast,seval,hP,hO,Aaz,Abz,decide_true]);done) ?_;(iterate 2 (exact sd))))|((with_reducible refine Anz (f:=21) false ?_);simp (disch:=omega) only [push_cast,seval,hP,hO,Aaz,Abz,decide_true];(refine callFN (Ewz _ _ ?_ ?_) (by (simp (disch:=omega) only [push_cast,seval,hP,hO,Aaz,Abz,decide_true]);done) ?_;(iterate 2 (exact sd))))|((with_reducible refine Etz (f:=25) ?_);simp (disch:=omega) only [push_cast,seval,hP,hO,Aaz,Abz,decide_true];(refine callFM (Cwz _ _ _ ?_ ?_ ?_) (by (simp (disch:=omega) only [push_cast,seval,hP,hO,Aaz,Abz,decide_true])<;>rfl) (by first|((simp (disch:=omega) only [push_cast,seval,hP,hO,Aaz,Abz,decide_true]);done)|omega) (by first|((simp (disch:=omega) only [push_cast,seval,hP,hO,Aaz,Abz,decide_true]);done)|((simp (disch:=omega) only [push_cast,seval,hP,hO,Aaz,Abz,decide_true]);assumption)) (fun G kk hkk hG=>?_);(iterate 3 (exact sd))))|((with_reducible refine Etz (f:=26) ?_);simp (disch:=omega) only [push_cast,seval,hP,hO,Aaz,Abz,decide_true];(refine callFM (D3z _ _ _ ?_ ?_ ?_) (by (simp (disch:=omega) only [push_cast,seval,hP,hO,Aaz,Abz,decide_true])<;>rfl) (by first|((simp (disch:=omega) only [push_cast,seval,hP,hO,Aaz,Abz,decide_true]);done)|omega) (by first|((simp (disch:=omega) only [push_cast,seval,hP,hO,Aaz,Abz,decide_true]);done)|((simp (disch:=omega) only [push_cast,seval,hP,hO,Aaz,Abz,decide_true]);assumption)) (fun G kk hkk hG=>?_);(iterate 3 (exact sd))))|((with_reducible refine qcallI_of (f:=15) [672] false ?_);simp (disch:=omega) only [push_cast,seval,hP,hO,Aaz,Abz,decide_true];(refine B6z (id:=672) (Avz _ _ _ ?_ ?_) (by (simp (disch:=omega) only [push_cast,seval,hP,hO,Aaz,Abz,decide_true])<;>rfl) (by decide) ⟨_,_,rfl,rfl⟩ ?_;(iterate 2 (exact sd));rintro _ _ ⟨rfl,rfl⟩))|((with_reducible refine qcallI_of (f:=15) [1360] false ?_);simp (disch:=omega) only [push_cast,seval,hP,hO,Aaz,Abz,decide_true];(refine B6z (id:=1360) (Avz _ _ _ ?_ ?_) (by (simp (disch:=omega) only [push_cast,seval,hP,hO,Aaz,Abz,decide_true])<;>rfl) (by decide) ⟨_,_,rfl,rfl⟩ ?_;(iterate 2 (exact sd));rintro _ _ ⟨rfl,rfl⟩))|((with_reducible refine callD_ids (f:=15) [672] false ?_);simp (disch:=omega) only [push_cast,seval,hP,hO,Aaz,Abz,decide_true];(refine Cgz (id:=672) (Avz _ _ _ ?_ ?_) (by (simp (disch:=omega) only [push_cast,seval,hP,hO,Aaz,Abz,decide_true])<;>rfl) ?_;(iterate 2 (exact sd));rintro _ _ ⟨rfl,rfl⟩))|((with_reducible refine callD_ids (f:=15) [1360] false ?_);simp (disch:=omega) only [push_cast,seval,hP,hO,Aaz,Abz,decide_true];(refine Cgz (id:=1360) (Avz _ _ _ ?_ ?_) (by (simp (disch:=omega) only [push_cast,seval,hP,hO,Aaz,Abz,decide_true])<;>rfl) ?_;(iterate 2 (exact sd));rintro _ _ ⟨rfl,rfl⟩)))<;>(try simp (disch:=omega) only [push_cast,seval,hP,hO,Aaz,Abz,decide_true]))
 | ((first|refine Anz false ?_|refine Ajz false ?_);simp (disch:=omega) only [push_cast,seval,hP,hO,Aaz,Abz,decide_true])
 | ((first|(refine call0D (BCall.ofP (Ekz _ _ _ ?_ ?_ ?_)) ?_;(iterate 3 (exact sd));rintro _ _ ⟨⟨z,hz,rfl⟩,rfl⟩)|(refine call0D (BCall.ofP (szIntSS_ok _ _ _ ?_ ?_ ?_)) ?_;(iterate 3 (exact sd));rintro _ _ ⟨⟨z2,hz2,rfl⟩,rfl⟩)|((first|refine call0D (BCall.ofP (toTensorSP_ok _ _ ?_ ?_)) ?_|refine qcall0D (BCall.ofP (toTensorSP_ok _ _ ?_ ?_)) ⟨_,_,rfl,rfl⟩ ?_);(iterate 2 (exact sd));rintro _ _ ⟨rfl,rfl⟩)|((first|refine call0D (BCall.ofP (toIntSSP_ok _ _ ?_ ?_)) ?_|refine qcall0D (BCall.ofP (toIntSSP_ok _ _ ?_ ?_)) ⟨_,_,rfl,rfl⟩ ?_);(iterate 2 (exact sd));rintro _ _ ⟨rfl,rfl⟩)|((first|refine call0D (sExO_ok _ _ _ _ ?_ ?_ ?_) ?_|refine qcall0D (sExO_ok _ _ _ _ ?_ ?_ ?_) ⟨_,_,rfl,rfl⟩ ?_);(iterate 3 (exact sd));rintro _ _ ⟨rfl,rfl⟩)|((first|refine call0D (iExO_ok _ _ _ _ ?_ ?_ ?_) ?_|refine qcall0D (iExO_ok _ _ _ _ ?_ ?_ ?_) ⟨_,_,rfl,rfl⟩ ?_);(iterate 3 (exact sd));rintro _ _ ⟨rfl,rfl⟩)|((first|refine call0D (BCall.ofP (eqIntS_ok _ _ _ _ ?_ ?_ ?_)) ?_|refine qcall0D (BCall.ofP (eqIntS_ok _ _ _ _ ?_ ?_ ?_)) ⟨_,_,rfl,rfl⟩ ?_);(iterate 3 (exact sd));rintro _ _ ⟨rfl,rfl⟩)|((first|refine call0D (BCall.ofP (eqTensorS_ok _ _ ?_ ?_)) ?_|refine qcall0D (BCall.ofP (eqTensorS_ok _ _ ?_ ?_)) ⟨_,_,rfl,rfl⟩ ?_);(iterate 2 (exact sd));rintro _ _ ⟨rfl,rfl⟩)|((first|refine call0D (BCall.ofP (eqIntSS_ok _ _ ?_ ?_)) ?_|refine qcall0D (BCall.ofP (eqIntSS_ok _ _ ?_ ?_)) ⟨_,_,rfl,rfl⟩ ?_);(iterate 2 (exact sd));rintro _ _ ⟨rfl,rfl⟩)|((first|refine call0D (BCall.ofP (heldIntS_ok _ _ ?_)) ?_|refine qcall0D (BCall.ofP (heldIntS_ok _ _ ?_)) ⟨_,_,rfl,rfl⟩ ?_);(exact sd);rintro _ _ ⟨rfl,rfl⟩))<;>(try simp (disch:=omega) only [push_cast,seval,hP,hO,Aaz,Abz,decide_true]))
 | (refine Akz ⟨.inr rfl,_,rfl,?_⟩;(try simp (disch:=omega) only [push_cast,seval,hP,hO,Aaz,Abz,decide_true]))))
  all_goals (try simp)
theorem lEO2_ok (x0:List (List Int × List Int × Unit)) (x1:List (List Int))  (h1:∀ a ∈ x0,Vw.goodS Vw.goodI a.1 ∧ Vw.goodS Vw.goodI a.2.1 ∧ True) (h2:x0.length ≤ 9223372036854775807) (h3:∀ a ∈ x1,Vw.goodS Vw.goodI a) (h4:x1.length ≤ 9223372036854775807)  : PCall Try.prog 4 [.rows false (x0.flatMap fun p=>Vw.enS Vw.enI p.1 ++ (Vw.enS Vw.enI p.2.1 ++ [])) x0.length,.rows false (x1.flatMap fun p=>Vw.enS Vw.enI p) x1.length] (fun r=>r=.bool true):=by
  have h:=lEO_ok (x0.map fun p=>(p.1,p.2.1)) x1  (by simpa using h2) h4  (fun v hv=>by
    obtain ⟨a,ha,rfl⟩:=List.mem_map.1 hv
    have:=h1 a ha
    exact ⟨this.1.2,this.2.1.2⟩) (fun v hv=>(h3 v hv).2)
  rw [List.length_map] at h
  rw [flat_T3,flat_L2]
  exact h

end Go.Proofs.Ytpicoecbbiiaoaa
