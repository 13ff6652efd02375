/- Texts of this verifier. -/
import Derived.Test.YtfgohhkcmgiddaaCB10
import Derived.Test.YtfgohhkcmgiddaaCM1
import Derived.Test.YtfgohhkcmgiddaaCW3
set_option linter.unusedSimpArgs false
set_option linter.unusedVariables false
set_option maxRecDepth 4000
set_option maxHeartbeats 4000000
namespace Go.Proofs.Ytfgohhkcmgiddaa
open VwM Vw Go

theorem Cqz (f:Nat → Int):∀ n,w64 (sumN n fun p=>w64 (f p))=w64 (sumN n f)
  | 0=>rfl
  | n + 1=>by
    have ih:=Cqz f n
    simp only [sumN]
    rw [Giz,← E9z,ih,E9z]
theorem w64_sum_l (f g:Nat → Int) (n:Nat):w64 (sumN n fun p=>w64 (f p) * g p)=w64 (sumN n fun p=>f p * g p):=by
  rw [← Cqz (fun p=>w64 (f p) * g p),← Cqz (fun p=>f p * g p)]
  congr 1
  exact Ayz fun p _=>Ghz _ _
theorem w64_sum_r (f g:Nat → Int) (n:Nat):w64 (sumN n fun p=>g p * w64 (f p))=w64 (sumN n fun p=>g p * f p):=by
  rw [← Cqz (fun p=>g p * w64 (f p)),← Cqz (fun p=>g p * f p)]
  congr 1
  exact Ayz fun p _=>w64_mulr _ _
theorem Fxz {a b o:Tn} (h:mmT a b=some o):∃ N M K:Nat,a.1=[(N:Int),(M:Int)] ∧ b.1=[(M:Int),(K:Int)] ∧ vT a=true ∧ vT b=true ∧ vT o=true ∧ o=([(N:Int),(K:Int)],mmL a.2 b.2 N M K):=by
  obtain ⟨e,he,_⟩:=Jhz h
  obtain ⟨N,M,K,ha,hb,va,vb,_⟩:=I6z he
  rw [mm_form ha hb va vb] at h
  split at h
  case isFalse=>cases h
  rename_i hc
  injection h with h
  rw [Bool.and_eq_true] at hc
  exact ⟨N,M,K,ha,hb,va,vb,by rw [← h];exact hc.1,h.symm⟩
theorem mm_lt {N K i j:Nat} (hi:i < N) (hj:j < K):i * K + j < N * K:=by
  have:(i + 1) * K ≤ N * K:=Nat.mul_le_mul_right K hi
  rw [Nat.succ_mul] at this
  omega
theorem mmL_ij {a b:List Int} {N M K i j:Nat} (hi:i < N) (hj:j < K):(mmL a b N M K).getD (i * K + j) 0=w64 (mmV a b M K i j):=by
  rw [mmL_at (mm_lt hi hj),(Cez hj).1,(Cez hj).2]
/-- Traces of products go round. -/
theorem mm_trace {a b o o' v v':Tn} (h1:mmT a b=some o) (h2:mmT b a=some o') (h3:trT o=some v) (h4:trT o'=some v'):v.2.getD 0 0=v'.2.getD 0 0:=by
  obtain ⟨N,M,K,ha,hb,va,vb,vo,ho⟩:=Fxz h1
  obtain ⟨N',M',K',hb',ha',_,_,_,ho'⟩:=Fxz h2
  rw [ha] at ha'
  rw [hb] at hb'
  simp only [List.cons.injEq,and_true] at ha' hb'
  obtain rfl:N'=M:=by omega
  obtain rfl:M'=K:=by omega
  obtain rfl:N=M':=by omega
  obtain rfl:K'=N':=by omega
  obtain ⟨_,_,n,hn,_,s1⟩:=tr_sum h3
  obtain ⟨_,_,n',hn',_,s2⟩:=tr_sum h4
  rw [ho] at hn s1
  rw [ho'] at hn' s2
  simp only [List.cons.injEq,and_true] at hn hn'
  obtain rfl:n=N:=by omega
  obtain rfl:n'=K':=by omega
  rw [s1,s2]
  simp only
  rw [Ayz (g:=fun i=>w64 (mmV a.2 b.2 n' n i i)) fun i hi=>mmL_ij hi hi,Ayz (n:=n') (g:=fun i=>w64 (mmV b.2 a.2 n n' i i)) fun i hi=>mmL_ij hi hi,Cqz,Cqz]
  congr 1
  unfold mmV
  rw [Fez]
  exact Ayz fun l _=>Ayz fun i _=>Int.mul_comm _ _


set_option maxHeartbeats 32000000 in
theorem fTP_ok (bs:List Int) (hl:bs.length ≤ 9223372036854775807) (hb:∀ x ∈ bs,0 ≤ x ∧ x ≤ 255):PCall Try.prog 4 [.rows false (UL bs) bs.length] (fun r=>r=.bool true):=by
  refine A1z l4_eq rfl ?_
  by_cases h:bs.length ≤ 1048576
  · have q:bs.length ≤ 1099511627776 ∧ ∀ x ∈ bs,0 ≤ x ∧ x ≤ 255:=⟨by omega,hb⟩
    (repeat' (first
 | (refine awp_joinL (c1:=.reg l4r3) (fun x:List Int × List Int × List Int × List Int=>mkS [(3,.ref 48 2 0),(4,.ref 64 2 0)] [(48,[.rows true (IL x.1) x.1.length,.rows true (IL x.2.1) x.2.1.length]),(64,[.rows true (IL x.2.2.1) x.2.2.1.length,.rows true (IL x.2.2.2) x.2.2.2.length])]) (fun x=>(x.1.length ≤ 5 ∧ x.2.1.length ≤ 61) ∧ x.2.2.1.length ≤ 5 ∧ x.2.2.2.length ≤ 61) ?_ ?_)
 | (first|refine Akz ?_|refine Aez ?_)
 | ((first|refine Alz ?_|refine Adz ?_|refine Agz ?_|refine Ahz ?_);simp (disch:=omega) only [push_cast,seval,l4r0,l4r1,l4r2,l4r3,l4r4,l4r5,l4r6,l4r7,l4r8,l4r9,l4r10,l4r11])
 | ((first|refine Aaz ?_ ?_|refine Acz ?_ ?_|refine Abz ?_ ?_)<;>intro h<;>(try simp only [h])<;>(try simp only [bitvec_to_nat] at h)<;>(try simp only [h])<;>(first|(exfalso;omega)|(exfalso;simp_all;done)|(simp (disch:=omega) only [push_cast,seval])|skip))
 | ((first|refine Apz false ?_|refine qcallD_of false ?_);simp (disch:=omega) only [push_cast,seval])
 | ((first|(refine call0D (BCall.ofP (Bhz _ _ ?_ ?_)) ?_;(iterate 2 (exact sd));rintro _ _ ⟨⟨x1,y1,x2,y2,hxy,rfl⟩,rfl⟩)|((first|refine call0D (iMM_ok _ _ _ _ _ _ _ _ ?_ ?_) ?_|refine qcall0D (iMM_ok _ _ _ _ _ _ _ _ ?_ ?_) ⟨_,_,rfl,rfl⟩ ?_);(iterate 2 (exact sd));rintro _ _ ⟨rfl,rfl⟩)|((first|refine call0D (sMM_ok _ _ _ _ _ _ _ _ ?_ ?_) ?_|refine qcall0D (sMM_ok _ _ _ _ _ _ _ _ ?_ ?_) ⟨_,_,rfl,rfl⟩ ?_);(iterate 2 (exact sd));rintro _ _ ⟨rfl,rfl⟩)|((first|refine call0D (BCall.ofP (lequT_ok _ _ _ _ _ _ _ _ ?_ ?_)) ?_|refine qcall0D (BCall.ofP (lequT_ok _ _ _ _ _ _ _ _ ?_ ?_)) ⟨_,_,rfl,rfl⟩ ?_);(iterate 2 (exact sd));rintro _ _ ⟨rfl,rfl⟩)|((first|refine call0D (BCall.ofP (iTr_ok _ _ _ _ ?_ ?_)) ?_|refine qcall0D (BCall.ofP (iTr_ok _ _ _ _ ?_ ?_)) ⟨_,_,rfl,rfl⟩ ?_);(iterate 2 (exact sd));rintro _ _ ⟨rfl,rfl⟩))<;>(try simp (disch:=omega) only [push_cast,seval]))
 | (refine Aiz ⟨.inr rfl,_,rfl,?_⟩;(try simp (disch:=omega) only [push_cast,seval]))))
    · exact ⟨(x1,y1,x2,y2),hxy,by (refine Sub.of_lists ?_ ?_ ?_ ?_ ?_<;>simp [Vw.mkS,Vw.lk,Vw.hk,AV.inn,innL,Arz,Aoz,Atz,-List.map_set,-List.getD_eq_getElem?_getD])⟩
    · refine ⟨?_⟩
      rintro ⟨x1,y1,x2,y2⟩ hxy
      try simp only at hxy ⊢
      have hC:(t0 (mmT (x1,y1) (x2,y2))).1.length ≤ 60 ∧ (t0 (mmT (x1,y1) (x2,y2))).2.length ≤ 60:=Cvz
      cases hct:mmT (x1,y1) (x2,y2) with
 | none =>
        rw [hct] at hC
        obtain ⟨⟨Q,R⟩,hP⟩:∃ p:Tn,t0 none=p:=⟨_,rfl⟩
        rw [hP] at hC
        simp only at hC
        obtain ⟨hC1,hC2⟩:=hC
        (repeat' (first
 | (first|refine Akz ?_|refine Aez ?_)
 | ((first|refine Alz ?_|refine Adz ?_|refine Agz ?_|refine Ahz ?_);simp (disch:=omega) only [push_cast,seval,l4r0,l4r1,l4r2,l4r3,l4r4,l4r5,l4r6,l4r7,l4r8,l4r9,l4r10,l4r11,hct,hP,Option.isSome_none,decide_true])
 | ((first|refine Aaz ?_ ?_|refine Acz ?_ ?_|refine Abz ?_ ?_)<;>intro h<;>(try simp only [h])<;>(try simp only [bitvec_to_nat] at h)<;>(try simp only [h])<;>(first|(exfalso;omega)|(exfalso;simp_all;done)|(simp (disch:=omega) only [push_cast,seval,hct,hP,Option.isSome_none,decide_true])|skip))
 | ((first|refine Apz false ?_|refine qcallD_of false ?_);simp (disch:=omega) only [push_cast,seval,hct,hP,Option.isSome_none,decide_true])
 | ((first|(refine call0D (BCall.ofP (Bhz _ _ ?_ ?_)) ?_;(iterate 2 (exact sd));rintro _ _ ⟨⟨x1,y1,x2,y2,hxy,rfl⟩,rfl⟩)|((first|refine call0D (iMM_ok _ _ _ _ _ _ _ _ ?_ ?_) ?_|refine qcall0D (iMM_ok _ _ _ _ _ _ _ _ ?_ ?_) ⟨_,_,rfl,rfl⟩ ?_);(iterate 2 (exact sd));rintro _ _ ⟨rfl,rfl⟩)|((first|refine call0D (sMM_ok _ _ _ _ _ _ _ _ ?_ ?_) ?_|refine qcall0D (sMM_ok _ _ _ _ _ _ _ _ ?_ ?_) ⟨_,_,rfl,rfl⟩ ?_);(iterate 2 (exact sd));rintro _ _ ⟨rfl,rfl⟩)|((first|refine call0D (BCall.ofP (lequT_ok _ _ _ _ _ _ _ _ ?_ ?_)) ?_|refine qcall0D (BCall.ofP (lequT_ok _ _ _ _ _ _ _ _ ?_ ?_)) ⟨_,_,rfl,rfl⟩ ?_);(iterate 2 (exact sd));rintro _ _ ⟨rfl,rfl⟩)|((first|refine call0D (BCall.ofP (iTr_ok _ _ _ _ ?_ ?_)) ?_|refine qcall0D (BCall.ofP (iTr_ok _ _ _ _ ?_ ?_)) ⟨_,_,rfl,rfl⟩ ?_);(iterate 2 (exact sd));rintro _ _ ⟨rfl,rfl⟩))<;>(try simp (disch:=omega) only [push_cast,seval,hct,hP,Option.isSome_none,decide_true]))
 | (refine Aiz ⟨.inr rfl,_,rfl,?_⟩;(try simp (disch:=omega) only [push_cast,seval,hct,hP,Option.isSome_none,decide_true]))))
        all_goals (try simp)
 | some o =>
        rw [hct] at hC
        have hC':(t0 (mmT (x2,y2) (x1,y1))).1.length ≤ 60 ∧ (t0 (mmT (x2,y2) (x1,y1))).2.length ≤ 60:=Cvz
        obtain ⟨⟨Q2,R2⟩,hP2⟩:∃ p:Tn,t0 (mmT (x2,y2) (x1,y1))=p:=⟨_,rfl⟩
        obtain ⟨ok2,hok2⟩:∃ b:Bool,(mmT (x2,y2) (x1,y1)).isSome=b:=⟨_,rfl⟩
        have hO:∀ c:Option Tn,∃ (x:Int) (b:Bool),OTr c=.tup [.int .i64 x,.bool b] ∧ (b=true → ∃ v,c=some v ∧ x=v.2.getD 0 0):=fun c=>by
          cases c with
          | none=>exact ⟨_,false,rfl,fun h=>by cases h⟩
          | some v=>exact ⟨_,true,rfl,fun _=>⟨v,rfl,rfl⟩⟩
        obtain ⟨x,b1,hX,hx⟩:=hO (trT o)
        obtain ⟨y,b2,hY,hy⟩:=hO (trT (Q2,R2))
        have hfin:ok2=true → b1=true → b2=true → x=y:=fun e1 e2 e3=>by
          obtain ⟨v,hv,hv2⟩:=hx e2
          obtain ⟨v',hv',hv2'⟩:=hy e3
          cases h2:mmT (x2,y2) (x1,y1) with
          | none=>rw [h2] at hok2;rw [← hok2] at e1;cases e1
          | some o' =>
            rw [h2] at hP2
            have:o'=(Q2,R2):=hP2
            subst this
            rw [hv2,hv2']
            exact mm_trace hct h2 hv hv'
        clear hx hy hO
        obtain ⟨Q,R⟩:=o
        rw [hP2] at hC'
        simp only [Azz] at hC hC'
        obtain ⟨hC1,hC2⟩:=hC
        obtain ⟨hC3,hC4⟩:=hC'
        cases ok2 with
        | false =>
          clear hfin
          (repeat' (first
 | (first|refine Akz ?_|refine Aez ?_)
 | ((first|refine Alz ?_|refine Adz ?_|refine Agz ?_|refine Ahz ?_);simp (disch:=omega) only [push_cast,seval,l4r0,l4r1,l4r2,l4r3,l4r4,l4r5,l4r6,l4r7,l4r8,l4r9,l4r10,l4r11,hct,hP2,hok2,hX,hY,Azz,Option.isSome_some,decide_true])
 | ((first|refine Aaz ?_ ?_|refine Acz ?_ ?_|refine Abz ?_ ?_)<;>intro h<;>(try simp only [h])<;>(try simp only [bitvec_to_nat] at h)<;>(try simp only [h])<;>(first|(exfalso;omega)|(exfalso;simp_all;done)|(simp (disch:=omega) only [push_cast,seval,hct,hP2,hok2,hX,hY,Azz,Option.isSome_some,decide_true])|skip))
 | ((first|refine Apz false ?_|refine qcallD_of false ?_);simp (disch:=omega) only [push_cast,seval,hct,hP2,hok2,hX,hY,Azz,Option.isSome_some,decide_true])
 | ((first|(refine call0D (BCall.ofP (Bhz _ _ ?_ ?_)) ?_;(iterate 2 (exact sd));rintro _ _ ⟨⟨x1,y1,x2,y2,hxy,rfl⟩,rfl⟩)|((first|refine call0D (iMM_ok _ _ _ _ _ _ _ _ ?_ ?_) ?_|refine qcall0D (iMM_ok _ _ _ _ _ _ _ _ ?_ ?_) ⟨_,_,rfl,rfl⟩ ?_);(iterate 2 (exact sd));rintro _ _ ⟨rfl,rfl⟩)|((first|refine call0D (sMM_ok _ _ _ _ _ _ _ _ ?_ ?_) ?_|refine qcall0D (sMM_ok _ _ _ _ _ _ _ _ ?_ ?_) ⟨_,_,rfl,rfl⟩ ?_);(iterate 2 (exact sd));rintro _ _ ⟨rfl,rfl⟩)|((first|refine call0D (BCall.ofP (lequT_ok _ _ _ _ _ _ _ _ ?_ ?_)) ?_|refine qcall0D (BCall.ofP (lequT_ok _ _ _ _ _ _ _ _ ?_ ?_)) ⟨_,_,rfl,rfl⟩ ?_);(iterate 2 (exact sd));rintro _ _ ⟨rfl,rfl⟩)|((first|refine call0D (BCall.ofP (iTr_ok _ _ _ _ ?_ ?_)) ?_|refine qcall0D (BCall.ofP (iTr_ok _ _ _ _ ?_ ?_)) ⟨_,_,rfl,rfl⟩ ?_);(iterate 2 (exact sd));rintro _ _ ⟨rfl,rfl⟩))<;>(try simp (disch:=omega) only [push_cast,seval,hct,hP2,hok2,hX,hY,Azz,Option.isSome_some,decide_true]))
 | (refine Aiz ⟨.inr rfl,_,rfl,?_⟩; (try simp (disch := omega) only [push_cast,seval,hct,hP2,hok2,hX,hY,Azz,Option.isSome_some,decide_true]))))
          all_goals (try simp)
        | true =>
          cases b1 with
          | false =>
            clear hfin
            (repeat' (first
 | (first|refine Akz ?_|refine Aez ?_)
 | ((first|refine Alz ?_|refine Adz ?_|refine Agz ?_|refine Ahz ?_);simp (disch:=omega) only [push_cast,seval,l4r0,l4r1,l4r2,l4r3,l4r4,l4r5,l4r6,l4r7,l4r8,l4r9,l4r10,l4r11,hct,hP2,hok2,hX,hY,Azz,Option.isSome_some,decide_true])
 | ((first|refine Aaz ?_ ?_|refine Acz ?_ ?_|refine Abz ?_ ?_)<;>intro h<;>(try simp only [h])<;>(try simp only [bitvec_to_nat] at h)<;>(try simp only [h])<;>(first|(exfalso;omega)|(exfalso;simp_all;done)|(simp (disch:=omega) only [push_cast,seval,hct,hP2,hok2,hX,hY,Azz,Option.isSome_some,decide_true])|skip))
 | ((first|refine Apz false ?_|refine qcallD_of false ?_);simp (disch:=omega) only [push_cast,seval,hct,hP2,hok2,hX,hY,Azz,Option.isSome_some,decide_true])
 | ((first|(refine call0D (BCall.ofP (Bhz _ _ ?_ ?_)) ?_;(iterate 2 (exact sd));rintro _ _ ⟨⟨x1,y1,x2,y2,hxy,rfl⟩,rfl⟩)|((first|refine call0D (iMM_ok _ _ _ _ _ _ _ _ ?_ ?_) ?_|refine qcall0D (iMM_ok _ _ _ _ _ _ _ _ ?_ ?_) ⟨_,_,rfl,rfl⟩ ?_);(iterate 2 (exact sd));rintro _ _ ⟨rfl,rfl⟩)|((first|refine call0D (sMM_ok _ _ _ _ _ _ _ _ ?_ ?_) ?_|refine qcall0D (sMM_ok _ _ _ _ _ _ _ _ ?_ ?_) ⟨_,_,rfl,rfl⟩ ?_);(iterate 2 (exact sd));rintro _ _ ⟨rfl,rfl⟩)|((first|refine call0D (BCall.ofP (lequT_ok _ _ _ _ _ _ _ _ ?_ ?_)) ?_|refine qcall0D (BCall.ofP (lequT_ok _ _ _ _ _ _ _ _ ?_ ?_)) ⟨_,_,rfl,rfl⟩ ?_);(iterate 2 (exact sd));rintro _ _ ⟨rfl,rfl⟩)|((first|refine call0D (BCall.ofP (iTr_ok _ _ _ _ ?_ ?_)) ?_|refine qcall0D (BCall.ofP (iTr_ok _ _ _ _ ?_ ?_)) ⟨_,_,rfl,rfl⟩ ?_);(iterate 2 (exact sd));rintro _ _ ⟨rfl,rfl⟩))<;>(try simp (disch:=omega) only [push_cast,seval,hct,hP2,hok2,hX,hY,Azz,Option.isSome_some,decide_true]))
 | (refine Aiz ⟨.inr rfl,_,rfl,?_⟩; (try simp (disch := omega) only [push_cast,seval,hct,hP2,hok2,hX,hY,Azz,Option.isSome_some,decide_true]))))
            all_goals (try simp)
          | true =>
            cases b2 with
            | false =>
              clear hfin
              (repeat' (first
 | (first|refine Akz ?_|refine Aez ?_)
 | ((first|refine Alz ?_|refine Adz ?_|refine Agz ?_|refine Ahz ?_);simp (disch:=omega) only [push_cast,seval,l4r0,l4r1,l4r2,l4r3,l4r4,l4r5,l4r6,l4r7,l4r8,l4r9,l4r10,l4r11,hct,hP2,hok2,hX,hY,Azz,Option.isSome_some,decide_true])
 | ((first|refine Aaz ?_ ?_|refine Acz ?_ ?_|refine Abz ?_ ?_)<;>intro h<;>(try simp only [h])<;>(try simp only [bitvec_to_nat] at h)<;>(try simp only [h])<;>(first|(exfalso;omega)|(exfalso;simp_all;done)|(simp (disch:=omega) only [push_cast,seval,hct,hP2,hok2,hX,hY,Azz,Option.isSome_some,decide_true])|skip))
 | ((first|refine Apz false ?_|refine qcallD_of false ?_);simp (disch:=omega) only [push_cast,seval,hct,hP2,hok2,hX,hY,Azz,Option.isSome_some,decide_true])
 | ((first|(refine call0D (BCall.ofP (Bhz _ _ ?_ ?_)) ?_;(iterate 2 (exact sd));rintro _ _ ⟨⟨x1,y1,x2,y2,hxy,rfl⟩,rfl⟩)|((first|refine call0D (iMM_ok _ _ _ _ _ _ _ _ ?_ ?_) ?_|refine qcall0D (iMM_ok _ _ _ _ _ _ _ _ ?_ ?_) ⟨_,_,rfl,rfl⟩ ?_);(iterate 2 (exact sd));rintro _ _ ⟨rfl,rfl⟩)|((first|refine call0D (sMM_ok _ _ _ _ _ _ _ _ ?_ ?_) ?_|refine qcall0D (sMM_ok _ _ _ _ _ _ _ _ ?_ ?_) ⟨_,_,rfl,rfl⟩ ?_);(iterate 2 (exact sd));rintro _ _ ⟨rfl,rfl⟩)|((first|refine call0D (BCall.ofP (lequT_ok _ _ _ _ _ _ _ _ ?_ ?_)) ?_|refine qcall0D (BCall.ofP (lequT_ok _ _ _ _ _ _ _ _ ?_ ?_)) ⟨_,_,rfl,rfl⟩ ?_);(iterate 2 (exact sd));rintro _ _ ⟨rfl,rfl⟩)|((first|refine call0D (BCall.ofP (iTr_ok _ _ _ _ ?_ ?_)) ?_|refine qcall0D (BCall.ofP (iTr_ok _ _ _ _ ?_ ?_)) ⟨_,_,rfl,rfl⟩ ?_);(iterate 2 (exact sd));rintro _ _ ⟨rfl,rfl⟩))<;>(try simp (disch:=omega) only [push_cast,seval,hct,hP2,hok2,hX,hY,Azz,Option.isSome_some,decide_true]))
 | (refine Aiz ⟨.inr rfl,_,rfl,?_⟩; (try simp (disch := omega) only [push_cast,seval,hct,hP2,hok2,hX,hY,Azz,Option.isSome_some,decide_true]))))
              all_goals (try simp)
            | true =>
              have hxy2:=hfin rfl rfl rfl
              clear hfin
              subst hxy2
              (repeat' (first
 | (first|refine Akz ?_|refine Aez ?_)
 | ((first|refine Alz ?_|refine Adz ?_|refine Agz ?_|refine Ahz ?_);simp (disch:=omega) only [push_cast,seval,l4r0,l4r1,l4r2,l4r3,l4r4,l4r5,l4r6,l4r7,l4r8,l4r9,l4r10,l4r11,hct,hP2,hok2,hX,hY,Azz,Option.isSome_some,decide_true])
 | ((first|refine Aaz ?_ ?_|refine Acz ?_ ?_|refine Abz ?_ ?_)<;>intro h<;>(try simp only [h])<;>(try simp only [bitvec_to_nat] at h)<;>(try simp only [h])<;>(first|(exfalso;omega)|(exfalso;simp_all;done)|(simp (disch:=omega) only [push_cast,seval,hct,hP2,hok2,hX,hY,Azz,Option.isSome_some,decide_true])|skip))
 | ((first|refine Apz false ?_|refine qcallD_of false ?_);simp (disch:=omega) only [push_cast,seval,hct,hP2,hok2,hX,hY,Azz,Option.isSome_some,decide_true])
 | ((first|(refine call0D (BCall.ofP (Bhz _ _ ?_ ?_)) ?_;(iterate 2 (exact sd));rintro _ _ ⟨⟨x1,y1,x2,y2,hxy,rfl⟩,rfl⟩)|((first|refine call0D (iMM_ok _ _ _ _ _ _ _ _ ?_ ?_) ?_|refine qcall0D (iMM_ok _ _ _ _ _ _ _ _ ?_ ?_) ⟨_,_,rfl,rfl⟩ ?_);(iterate 2 (exact sd));rintro _ _ ⟨rfl,rfl⟩)|((first|refine call0D (sMM_ok _ _ _ _ _ _ _ _ ?_ ?_) ?_|refine qcall0D (sMM_ok _ _ _ _ _ _ _ _ ?_ ?_) ⟨_,_,rfl,rfl⟩ ?_);(iterate 2 (exact sd));rintro _ _ ⟨rfl,rfl⟩)|((first|refine call0D (BCall.ofP (lequT_ok _ _ _ _ _ _ _ _ ?_ ?_)) ?_|refine qcall0D (BCall.ofP (lequT_ok _ _ _ _ _ _ _ _ ?_ ?_)) ⟨_,_,rfl,rfl⟩ ?_);(iterate 2 (exact sd));rintro _ _ ⟨rfl,rfl⟩)|((first|refine call0D (BCall.ofP (iTr_ok _ _ _ _ ?_ ?_)) ?_|refine qcall0D (BCall.ofP (iTr_ok _ _ _ _ ?_ ?_)) ⟨_,_,rfl,rfl⟩ ?_);(iterate 2 (exact sd));rintro _ _ ⟨rfl,rfl⟩))<;>(try simp (disch:=omega) only [push_cast,seval,hct,hP2,hok2,hX,hY,Azz,Option.isSome_some,decide_true]))
 | (refine Aiz ⟨.inr rfl,_,rfl,?_⟩; (try simp (disch := omega) only [push_cast,seval,hct,hP2,hok2,hX,hY,Azz,Option.isSome_some,decide_true]))))
              all_goals (try simp)
  · (repeat' (first
 | (first|refine Akz ?_|refine Aez ?_)
 | ((first|refine Alz ?_|refine Adz ?_|refine Agz ?_|refine Ahz ?_);simp (disch:=omega) only [push_cast,seval,l4r0,l4r1,l4r2,l4r3,l4r4,l4r5,l4r6,l4r7,l4r8,l4r9,l4r10,l4r11])
 | ((first|refine Aaz ?_ ?_|refine Acz ?_ ?_|refine Abz ?_ ?_)<;>intro h<;>(try simp only [h])<;>(try simp only [bitvec_to_nat] at h)<;>(try simp only [h])<;>(first|(exfalso;omega)|(exfalso;simp_all;done)|(simp (disch:=omega) only [push_cast,seval])|skip))
 | ((first|refine Apz false ?_|refine qcallD_of false ?_);simp (disch:=omega) only [push_cast,seval])
 | ((first|(refine call0D (BCall.ofP (Bhz _ _ ?_ ?_)) ?_;(iterate 2 (exact sd));rintro _ _ ⟨⟨x1,y1,x2,y2,hxy,rfl⟩,rfl⟩)|((first|refine call0D (iMM_ok _ _ _ _ _ _ _ _ ?_ ?_) ?_|refine qcall0D (iMM_ok _ _ _ _ _ _ _ _ ?_ ?_) ⟨_,_,rfl,rfl⟩ ?_);(iterate 2 (exact sd));rintro _ _ ⟨rfl,rfl⟩)|((first|refine call0D (sMM_ok _ _ _ _ _ _ _ _ ?_ ?_) ?_|refine qcall0D (sMM_ok _ _ _ _ _ _ _ _ ?_ ?_) ⟨_,_,rfl,rfl⟩ ?_);(iterate 2 (exact sd));rintro _ _ ⟨rfl,rfl⟩)|((first|refine call0D (BCall.ofP (lequT_ok _ _ _ _ _ _ _ _ ?_ ?_)) ?_|refine qcall0D (BCall.ofP (lequT_ok _ _ _ _ _ _ _ _ ?_ ?_)) ⟨_,_,rfl,rfl⟩ ?_);(iterate 2 (exact sd));rintro _ _ ⟨rfl,rfl⟩)|((first|refine call0D (BCall.ofP (iTr_ok _ _ _ _ ?_ ?_)) ?_|refine qcall0D (BCall.ofP (iTr_ok _ _ _ _ ?_ ?_)) ⟨_,_,rfl,rfl⟩ ?_);(iterate 2 (exact sd));rintro _ _ ⟨rfl,rfl⟩))<;>(try simp (disch:=omega) only [push_cast,seval]))
 | (refine Aiz ⟨.inr rfl,_,rfl,?_⟩;(try simp (disch:=omega) only [push_cast,seval]))))

end Go.Proofs.Ytfgohhkcmgiddaa
set_option linter.unusedSimpArgs false
set_option linter.unusedVariables false
set_option maxRecDepth 4000
set_option maxHeartbeats 4000000
namespace Go.Proofs.Ytfgohhkcmgiddaa
open VwM Vw Go

/-- The product of three matrices,value by value. -/
def T3 (a b c:List Int) (N M K L:Nat):List Int:=(List.range (N * L)).map fun p=>w64 (sumN M fun m=>sumN K fun l=>a.getD (p / L * M + m) 0 * (b.getD (m * K + l) 0 * c.getD (l * L + p % L) 0))
theorem Ihz {N L p:Nat} (hp:p < N * L):p / L < N ∧ p % L < L:=by
  have hL:0 < L:=by
    rcases Nat.eq_zero_or_pos L with h0|h0
    · subst h0;simp at hp
    · exact h0
  exact ⟨Nat.div_lt_of_lt_mul (by rw [Nat.mul_comm];exact hp),Nat.mod_lt _ hL⟩
theorem mm_left (a b c:List Int) (N M K L:Nat):mmL (mmL a b N M K) c N K L=T3 a b c N M K L:=by
  unfold T3
  conv=>lhs;unfold mmL
  refine List.map_congr_left fun p hp=>?_
  rw [List.mem_range] at hp
  obtain ⟨hi,hj⟩:=Ihz hp
  conv=>lhs;unfold mmV
  have e1:(sumN K fun l=>(mmL a b N M K).getD (p / L * K + l) 0 * c.getD (l * L + p % L) 0)=sumN K fun l=>w64 (mmV a b M K (p / L) l) * c.getD (l * L + p % L) 0:=Ayz fun l hl=>by rw [mmL_ij hi hl]
  have e2:(sumN M fun m=>sumN K fun l=>a.getD (p / L * M + m) 0 * (b.getD (m * K + l) 0 * c.getD (l * L + p % L) 0))=sumN K fun l=>mmV a b M K (p / L) l * c.getD (l * L + p % L) 0:=by
    rw [Fez]
    refine Ayz fun l _=>?_
    unfold mmV
    rw [Int.mul_comm,← Ivz]
    exact Ayz fun m _=>by rw [Int.mul_comm (c.getD _ _),Int.mul_assoc]
  show w64 (sumN K fun l=>(mmL a b N M K).getD (p / L * K + l) 0 * c.getD (l * L + p % L) 0)=_
  rw [e1,e2,w64_sum_l]
theorem mm_right (a b c:List Int) (N M K L:Nat):mmL a (mmL b c M K L) N M L=T3 a b c N M K L:=by
  unfold T3
  conv=>lhs;unfold mmL
  refine List.map_congr_left fun p hp=>?_
  rw [List.mem_range] at hp
  obtain ⟨hi,hj⟩:=Ihz hp
  show w64 (sumN M fun m=>a.getD (p / L * M + m) 0 * (mmL b c M K L).getD (m * L + p % L) 0)=_
  have e1:(sumN M fun m=>a.getD (p / L * M + m) 0 * (mmL b c M K L).getD (m * L + p % L) 0)=sumN M fun m=>a.getD (p / L * M + m) 0 * w64 (mmV b c K L m (p % L)):=Ayz fun m hm=>by rw [mmL_ij hm hj]
  rw [e1,w64_sum_r]
  congr 1
  refine Ayz fun m _=>?_
  unfold mmV
  rw [← Ivz]
theorem mm3_val {a b c t:Tn} {N M K L:Nat} (h:ctT [a,b,c] [[0,1],[1,2],[2,3]] [0,3]=some t) (ha:a.1=[(N:Int),(M:Int)]) (hb:b.1=[(M:Int),(K:Int)]) (hcc:c.1=[(K:Int),(L:Int)]):t=([(N:Int),(L:Int)],T3 a.2 b.2 c.2 N M K L):=by
  obtain ⟨e,he,hc,hv,ho⟩:=Jhz h
  have hC:=E3z he
  have a1:=(hC.lab 0 a [0,1] rfl rfl).2.2.2
  have b1:=(hC.lab 1 b [1,2] rfl rfl).2.2.2
  have c1:=(hC.lab 2 c [2,3] rfl rfl).2.2.2
  have h0:=a1 0 (by simp)
  have h1:=a1 1 (by simp)
  have h2:=b1 1 (by simp)
  have h3:=c1 1 (by simp)
  rw [ha] at h0 h1
  rw [hb] at h2
  rw [hcc] at h3
  simp only [List.getD_cons_zero,List.getD_cons_succ] at h0 h1 h2 h3
  rw [ho]
  have hO:[0,3].map (gE e)=[(N:Int),(L:Int)]:=by simp [h0,h3]
  unfold ctW
  rw [hO]
  congr 1
  have hn:(pr [(N:Int),(L:Int)]).toNat=N * L:=by rw [pr2,← Int.natCast_mul,Int.toNat_natCast]
  rw [hn]
  unfold ctV T3
  refine List.map_congr_left fun p hp=>?_
  rw [List.mem_range] at hp
  congr 1
  unfold ctE
  have hsd:sumd [[0,1],[1,2],[2,3]] [0,3]=[1,2]:=by decide
  rw [hsd]
  have hn2:([0,3]:List Int).Nodup:=by decide
  have w0:=Frz (e:=e) (w:=Z5) (k:=(p:Int)) hn2 (Fiz rfl (by decide)) (i:=0) (x:=0) rfl
  have w3:=Frz (e:=e) (w:=Z5) (k:=(p:Int)) hn2 (Fiz rfl (by decide)) (i:=1) (x:=3) rfl
  rw [hO] at w0 w3
  rw [dig20 hp] at w0
  rw [dig21] at w3
  have wl:(wayK e [0,3] Z5 p).length=5:=by rw [Clz];rfl
  generalize wayK e [0,3] Z5 p=W at *
  show sumN (gE e 1).toNat (fun m=>sumN (gE e 2).toNat fun l=>gP [a,b,c] [[0,1],[1,2],[2,3]] ((W.set 1 (m:Int)).set 2 (l:Int)))=_
  rw [h1,h2,Int.toNat_natCast,Int.toNat_natCast]
  refine Ayz fun m hm=>Ayz fun l hl=>?_
  have gs:∀ y:Int,0 ≤ y → gE ((W.set 1 (m:Int)).set 2 (l:Int)) y=if y=2 then (l:Int) else if y=1 then (m:Int) else gE W y:=fun y hy=>by
    have u1:=Elz (w:=W.set 1 (m:Int)) (x:=2) (y:=y) (a:=(l:Int)) ⟨by decide,by show 2 < (W.set 1 (m:Int)).length;rw [List.length_set];omega⟩ hy
    have u2:=Elz (w:=W) (x:=1) (y:=y) (a:=(m:Int)) ⟨by decide,by show 1 < W.length;omega⟩ hy
    exact u1.trans (by rw [show ((1:Int)).toNat=1 from rfl] at u2;rw [u2])
  have g0:gE ((W.set 1 (m:Int)).set 2 (l:Int)) 0=((p / L:Nat):Int):=(gs 0 (by decide)).trans ((if_neg (by decide)).trans ((if_neg (by decide)).trans w0))
  have g1:gE ((W.set 1 (m:Int)).set 2 (l:Int)) 1=(m:Int):=(gs 1 (by decide)).trans ((if_neg (by decide)).trans (if_pos rfl))
  have g2:gE ((W.set 1 (m:Int)).set 2 (l:Int)) 2=(l:Int):=(gs 2 (by decide)).trans (if_pos rfl)
  have g3:gE ((W.set 1 (m:Int)).set 2 (l:Int)) 3=((p % L:Nat):Int):=(gs 3 (by decide)).trans ((if_neg (by decide)).trans ((if_neg (by decide)).trans w3))
  generalize (W.set 1 (m:Int)).set 2 (l:Int)=V at *
  show tv a [0,1] V * (tv b [1,2] V * (tv c [2,3] V * 1))=_
  have tvm:∀ (t:Tn) (x y:Int) (P Q i j:Nat),t.1=[(P:Int),(Q:Int)] → gE V x=(i:Int) → gE V y=(j:Int) → tv t [x,y] V=t.2.getD (i * Q + j) 0:=fun t x y P Q i j ht hx hy=>by
    unfold tv
    rw [ht,row2]
    have:dot (fun d=>gE V (([x,y]:List Int).getD d 0)) [(Q:Int),1] 2=((i * Q + j:Nat):Int):=by
      simp only [dot,List.getD_cons_zero,List.getD_cons_succ,hx,hy]
      push_cast
      omega
    show t.2.getD (dot _ _ 2).toNat 0=_
    rw [this,Int.toNat_natCast]
  rw [tvm a 0 1 N M _ _ ha g0 g1,tvm b 1 2 M K _ _ hb g1 g2,tvm c 2 3 K L _ _ hcc g2 g3,Int.mul_one]
/-- Products go together. -/
theorem mm_three {a b c o x y z:Tn} (h0:mmT a b=some o) (h1:mmT o c=some x) (h2:mmT b c=some y) (h3:mmT a y=some z):x=z ∧ ∀ t,ctT [a,b,c] [[0,1],[1,2],[2,3]] [0,3]=some t → t=x:=by
  obtain ⟨N,M,K,ha,hb,_,_,_,ho⟩:=Fxz h0
  obtain ⟨N1,M1,L,ho1,hc,_,_,_,hx⟩:=Fxz h1
  obtain ⟨M2,K2,L2,hb2,hc2,_,_,_,hy⟩:=Fxz h2
  obtain ⟨N3,M3,L3,ha3,hy3,_,_,_,hz⟩:=Fxz h3
  rw [ho] at ho1
  rw [hb] at hb2
  rw [hc] at hc2
  rw [ha] at ha3
  rw [hy] at hy3
  simp only [List.cons.injEq,and_true] at ho1 hb2 hc2 ha3 hy3
  obtain rfl:N1=N:=by omega
  obtain rfl:M1=K:=by omega
  obtain rfl:M2=M:=by omega
  obtain rfl:K2=M1:=by omega
  obtain rfl:L2=L:=by omega
  obtain rfl:N3=N1:=by omega
  obtain rfl:M3=M2:=by omega
  obtain rfl:L3=L2:=by omega
  have ex:x=([(N3:Int),(L3:Int)],T3 a.2 b.2 c.2 N3 M3 K2 L3):=by rw [hx,ho,mm_left]
  refine ⟨?_,fun t ht=>?_⟩
  · rw [ex,hz,hy,mm_right]
  · rw [mm3_val ht ha hb hc,ex]
theorem Ckz (z:AV):zcells [z] 3=[z,z,z]:=by simp [zcells,List.range_succ]
theorem Cjz (x y:AV):zcells [x,y] 3=[x,y,x,y,x,y]:=by simp [zcells,List.range_succ]

end Go.Proofs.Ytfgohhkcmgiddaa
set_option linter.unusedSimpArgs false
set_option linter.unusedVariables false
set_option maxRecDepth 4000
set_option maxHeartbeats 4000000
namespace Go.Proofs.Ytfgohhkcmgiddaa
open VwM Vw Go

theorem iCon3_ok (a1 a2 b1 b2 c1 c2:List Int) (n1 n2 m1 m2 k1 k2:Nat) (hn:((a1.length=n1 ∧ a2.length=n2) ∧ b1.length=m1 ∧ b2.length=m2) ∧ c1.length=k1 ∧ c2.length=k2) (hb:((n1 ≤ 1099511627776 ∧ n2 ≤ 1099511627776) ∧ m1 ≤ 1099511627776 ∧ m2 ≤ 1099511627776) ∧ k1 ≤ 1099511627776 ∧ k2 ≤ 1099511627776) :
    BCall Try.prog 10 [.rows false [.rows false (IL a1) n1,.rows false (IL a2) n2,.rows false (IL b1) m1,.rows false (IL b2) m2,.rows false (IL c1) k1,.rows false (IL c2) k2] 3,.rows false [.rows false [.int .i64 0,.int .i64 1] 2,.rows false [.int .i64 1,.int .i64 2] 2,.rows false [.int .i64 2,.int .i64 3] 2] 3,.rows false [.int .i64 0,.int .i64 3] 2] [] (OTn (ctT [(a1,a2),(b1,b2),(c1,c2)] [[0,1],[1,2],[2,3]] [0,3])):=by
  obtain ⟨⟨⟨rfl,rfl⟩,rfl,rfl⟩,rfl,rfl⟩:=hn
  exact Jbz [(a1,a2),(b1,b2),(c1,c2)] [[0,1],[1,2],[2,3]] [0,3] 3 3 2 rfl rfl rfl ⟨by omega,by simp;omega,by simp⟩


set_option maxHeartbeats 64000000 in
theorem fM3_ok (bs:List Int) (hl:bs.length ≤ 9223372036854775807) (hb:∀ x ∈ bs,0 ≤ x ∧ x ≤ 255):PCall Try.prog 3 [.rows false (UL bs) bs.length] (fun r=>r=.bool true):=by
  refine A1z l3_eq rfl ?_
  by_cases h:bs.length ≤ 1048576
  · have q:bs.length ≤ 1099511627776 ∧ ∀ x ∈ bs,0 ≤ x ∧ x ≤ 255:=⟨by omega,hb⟩
    (repeat' (first
 | (refine awp_joinL (c1:=.reg l3r3) (fun x:List Int × List Int × List Int × List Int=>mkS [(3,.ref 48 2 0),(4,.ref 64 2 0)] [(48,[.rows true (IL x.1) x.1.length,.rows true (IL x.2.1) x.2.1.length]),(64,[.rows true (IL x.2.2.1) x.2.2.1.length,.rows true (IL x.2.2.2) x.2.2.2.length])]) (fun x=>(x.1.length ≤ 5 ∧ x.2.1.length ≤ 61) ∧ x.2.2.1.length ≤ 5 ∧ x.2.2.2.length ≤ 61) ?_ ?_)
 | (first|refine Akz ?_|refine Aez ?_)
 | ((first|refine Alz ?_|refine Adz ?_|refine Agz ?_|refine Ahz ?_);simp (disch:=omega) only [push_cast,seval,l3r0,l3r1,l3r2,l3r3,l3r4,l3r5,l3r6,l3r7,l3r8,l3r9,l3r10,l3r11,l3r12,l3r13])
 | ((first|refine Aaz ?_ ?_|refine Acz ?_ ?_|refine Abz ?_ ?_)<;>intro h<;>(try simp only [h])<;>(try simp only [bitvec_to_nat] at h)<;>(try simp only [h])<;>(first|(exfalso;omega)|(exfalso;simp_all;done)|(simp (disch:=omega) only [push_cast,seval])|skip))
 | ((first|refine Apz false ?_|refine qcallD_of false ?_);simp (disch:=omega) only [push_cast,seval])
 | ((first|(refine call0D (BCall.ofP (Bhz _ _ ?_ ?_)) ?_;(iterate 2 (exact sd));rintro _ _ ⟨⟨x1,y1,x2,y2,hxy,rfl⟩,rfl⟩)|((first|refine call0D (iMM_ok _ _ _ _ _ _ _ _ ?_ ?_) ?_|refine qcall0D (iMM_ok _ _ _ _ _ _ _ _ ?_ ?_) ⟨_,_,rfl,rfl⟩ ?_);(iterate 2 (exact sd));rintro _ _ ⟨rfl,rfl⟩)|((first|refine call0D (sMM_ok _ _ _ _ _ _ _ _ ?_ ?_) ?_|refine qcall0D (sMM_ok _ _ _ _ _ _ _ _ ?_ ?_) ⟨_,_,rfl,rfl⟩ ?_);(iterate 2 (exact sd));rintro _ _ ⟨rfl,rfl⟩)|((first|refine call0D (BCall.ofP (lequT_ok _ _ _ _ _ _ _ _ ?_ ?_)) ?_|refine qcall0D (BCall.ofP (lequT_ok _ _ _ _ _ _ _ _ ?_ ?_)) ⟨_,_,rfl,rfl⟩ ?_);(iterate 2 (exact sd));rintro _ _ ⟨rfl,rfl⟩)|((first|refine call0D (iTT10_ok _ _ _ _ ?_ ?_) ?_|refine qcall0D (iTT10_ok _ _ _ _ ?_ ?_) ⟨_,_,rfl,rfl⟩ ?_);(iterate 2 (exact sd));rintro _ _ ⟨rfl,rfl⟩)|((first|refine call0D (iCon3_ok _ _ _ _ _ _ _ _ _ _ _ _ ?_ ?_) ?_|refine qcall0D (iCon3_ok _ _ _ _ _ _ _ _ _ _ _ _ ?_ ?_) ⟨_,_,rfl,rfl⟩ ?_);(iterate 2 (exact sd));rintro _ _ ⟨rfl,rfl⟩))<;>(try simp (disch:=omega) only [push_cast,seval]))
 | (refine Aiz ⟨.inr rfl,_,rfl,?_⟩;(try simp (disch:=omega) only [push_cast,seval]))))
    · exact ⟨(x1,y1,x2,y2),hxy,by (refine Sub.of_lists ?_ ?_ ?_ ?_ ?_<;>simp [Vw.mkS,Vw.lk,Vw.hk,AV.inn,innL,Arz,Aoz,Atz,-List.map_set,-List.getD_eq_getElem?_getD])⟩
    · refine ⟨?_⟩
      rintro ⟨x1,y1,x2,y2⟩ hxy
      try simp only at hxy ⊢
      have hC:(t0 (mmT (x1,y1) (x2,y2))).1.length ≤ 60 ∧ (t0 (mmT (x1,y1) (x2,y2))).2.length ≤ 60:=Cvz
      cases hct:mmT (x1,y1) (x2,y2) with
 | none =>
        rw [hct] at hC
        obtain ⟨⟨Q,R⟩,hP⟩:∃ p:Tn,t0 none=p:=⟨_,rfl⟩
        rw [hP] at hC
        simp only at hC
        obtain ⟨hC1,hC2⟩:=hC
        (repeat' (first
 | (first|refine Akz ?_|refine Aez ?_)
 | ((first|refine Alz ?_|refine Adz ?_|refine Agz ?_|refine Ahz ?_);simp (disch:=omega) only [push_cast,seval,l3r0,l3r1,l3r2,l3r3,l3r4,l3r5,l3r6,l3r7,l3r8,l3r9,l3r10,l3r11,l3r12,l3r13,hct,hP,Option.isSome_none,decide_true])
 | ((first|refine Aaz ?_ ?_|refine Acz ?_ ?_|refine Abz ?_ ?_)<;>intro h<;>(try simp only [h])<;>(try simp only [bitvec_to_nat] at h)<;>(try simp only [h])<;>(first|(exfalso;omega)|(exfalso;simp_all;done)|(simp (disch:=omega) only [push_cast,seval,hct,hP,Option.isSome_none,decide_true])|skip))
 | ((first|refine Apz false ?_|refine qcallD_of false ?_);simp (disch:=omega) only [push_cast,seval,hct,hP,Option.isSome_none,decide_true])
 | ((first|(refine call0D (BCall.ofP (Bhz _ _ ?_ ?_)) ?_;(iterate 2 (exact sd));rintro _ _ ⟨⟨x1,y1,x2,y2,hxy,rfl⟩,rfl⟩)|((first|refine call0D (iMM_ok _ _ _ _ _ _ _ _ ?_ ?_) ?_|refine qcall0D (iMM_ok _ _ _ _ _ _ _ _ ?_ ?_) ⟨_,_,rfl,rfl⟩ ?_);(iterate 2 (exact sd));rintro _ _ ⟨rfl,rfl⟩)|((first|refine call0D (sMM_ok _ _ _ _ _ _ _ _ ?_ ?_) ?_|refine qcall0D (sMM_ok _ _ _ _ _ _ _ _ ?_ ?_) ⟨_,_,rfl,rfl⟩ ?_);(iterate 2 (exact sd));rintro _ _ ⟨rfl,rfl⟩)|((first|refine call0D (BCall.ofP (lequT_ok _ _ _ _ _ _ _ _ ?_ ?_)) ?_|refine qcall0D (BCall.ofP (lequT_ok _ _ _ _ _ _ _ _ ?_ ?_)) ⟨_,_,rfl,rfl⟩ ?_);(iterate 2 (exact sd));rintro _ _ ⟨rfl,rfl⟩)|((first|refine call0D (iTT10_ok _ _ _ _ ?_ ?_) ?_|refine qcall0D (iTT10_ok _ _ _ _ ?_ ?_) ⟨_,_,rfl,rfl⟩ ?_);(iterate 2 (exact sd));rintro _ _ ⟨rfl,rfl⟩)|((first|refine call0D (iCon3_ok _ _ _ _ _ _ _ _ _ _ _ _ ?_ ?_) ?_|refine qcall0D (iCon3_ok _ _ _ _ _ _ _ _ _ _ _ _ ?_ ?_) ⟨_,_,rfl,rfl⟩ ?_);(iterate 2 (exact sd));rintro _ _ ⟨rfl,rfl⟩))<;>(try simp (disch:=omega) only [push_cast,seval,hct,hP,Option.isSome_none,decide_true]))
 | (refine Aiz ⟨.inr rfl,_,rfl,?_⟩;(try simp (disch:=omega) only [push_cast,seval,hct,hP,Option.isSome_none,decide_true]))))
        all_goals (try simp)
 | some o =>
        rw [hct] at hC
        obtain ⟨_,⟨vb,ob⟩,_,_⟩:=mm_turn hct
        have tb:=ttT_yes vb ob
        have ltb:=turnT_len vb (isOrd_of ob)
        generalize turnT (x2,y2) [1,0]=c at *
        have hCx:(t0 (mmT o c)).1.length ≤ 60 ∧ (t0 (mmT o c)).2.length ≤ 60:=Cvz
        have hCy:(t0 (mmT (x2,y2) c)).1.length ≤ 60 ∧ (t0 (mmT (x2,y2) c)).2.length ≤ 60:=Cvz
        obtain ⟨Y,hY⟩:∃ p:Tn,t0 (mmT (x2,y2) c)=p:=⟨_,rfl⟩
        have hCz:(t0 (mmT (x1,y1) Y)).1.length ≤ 60 ∧ (t0 (mmT (x1,y1) Y)).2.length ≤ 60:=Cvz
        have hCt:(t0 (ctT [(x1,y1),(x2,y2),c] [[0,1],[1,2],[2,3]] [0,3])).1.length ≤ 60 ∧ (t0 (ctT [(x1,y1),(x2,y2),c] [[0,1],[1,2],[2,3]] [0,3])).2.length ≤ 60:=Cvz
        obtain ⟨X,hX⟩:∃ p:Tn,t0 (mmT o c)=p:=⟨_,rfl⟩
        obtain ⟨Z,hZ⟩:∃ p:Tn,t0 (mmT (x1,y1) Y)=p:=⟨_,rfl⟩
        obtain ⟨T,hT⟩:∃ p:Tn,t0 (ctT [(x1,y1),(x2,y2),c] [[0,1],[1,2],[2,3]] [0,3])=p:=⟨_,rfl⟩
        obtain ⟨kx,hkx⟩:∃ b:Bool,(mmT o c).isSome=b:=⟨_,rfl⟩
        obtain ⟨ky,hky⟩:∃ b:Bool,(mmT (x2,y2) c).isSome=b:=⟨_,rfl⟩
        obtain ⟨kz,hkz⟩:∃ b:Bool,(mmT (x1,y1) Y).isSome=b:=⟨_,rfl⟩
        obtain ⟨kt,hkt⟩:∃ b:Bool,(ctT [(x1,y1),(x2,y2),c] [[0,1],[1,2],[2,3]] [0,3]).isSome=b:=⟨_,rfl⟩
        have hfin:kx=true → ky=true → kz=true → X=Z ∧ (kt=true → T=X):=fun e1 e2 e3=>by
          have sm:∀ (w:Option Tn) (p:Tn) (b:Bool),t0 w=p → w.isSome=b → b=true → w=some p:=fun w p b h1 h2 h3=>by
            subst h2
            cases w with
            | none=>cases h3
            | some v=>rw [← h1];rfl
          have m:=mm_three hct (sm _ _ _ hX hkx e1) (sm _ _ _ hY hky e2) (sm _ _ _ hZ hkz e3)
          exact ⟨m.1,fun e4=>m.2 _ (sm _ _ _ hT hkt e4)⟩
        rw [hX] at hCx
        rw [hY] at hCy
        rw [hZ] at hCz
        rw [hT] at hCt
        obtain ⟨Q,R⟩:=o
        obtain ⟨C1,C2⟩:=c
        obtain ⟨X1,X2⟩:=X
        obtain ⟨Y1,Y2⟩:=Y
        obtain ⟨Z1,Z2⟩:=Z
        obtain ⟨T1,T2⟩:=T
        simp only [Azz] at hC ltb hCx hCy hCz hCt
        obtain ⟨hC1,hC2⟩:=hC
        obtain ⟨_,lb1,lb2⟩:=ltb
        obtain ⟨hx1,hx2⟩:=hCx
        obtain ⟨hy1,hy2⟩:=hCy
        obtain ⟨hz1,hz2⟩:=hCz
        obtain ⟨ht1,ht2⟩:=hCt
        cases kx with
        | false =>
          clear hfin
          (repeat' (first
 | (first|refine Akz ?_|refine Aez ?_)
 | ((first|refine Alz ?_|refine Adz ?_|refine Agz ?_|refine Ahz ?_);simp (disch:=omega) only [push_cast,seval,l3r0,l3r1,l3r2,l3r3,l3r4,l3r5,l3r6,l3r7,l3r8,l3r9,l3r10,l3r11,l3r12,l3r13,hct,tb,hX,hY,hZ,hT,hkx,hky,hkz,hkt,zcT1,Ckz,Cjz,Azz,Option.isSome_some,decide_true])
 | ((first|refine Aaz ?_ ?_|refine Acz ?_ ?_|refine Abz ?_ ?_)<;>intro h<;>(try simp only [h])<;>(try simp only [bitvec_to_nat] at h)<;>(try simp only [h])<;>(first|(exfalso;omega)|(exfalso;simp_all;done)|(simp (disch:=omega) only [push_cast,seval,hct,tb,hX,hY,hZ,hT,hkx,hky,hkz,hkt,zcT1,Ckz,Cjz,Azz,Option.isSome_some,decide_true])|skip))
 | ((first|refine Apz false ?_|refine qcallD_of false ?_);simp (disch:=omega) only [push_cast,seval,hct,tb,hX,hY,hZ,hT,hkx,hky,hkz,hkt,zcT1,Ckz,Cjz,Azz,Option.isSome_some,decide_true])
 | ((first|(refine call0D (BCall.ofP (Bhz _ _ ?_ ?_)) ?_;(iterate 2 (exact sd));rintro _ _ ⟨⟨x1,y1,x2,y2,hxy,rfl⟩,rfl⟩)|((first|refine call0D (iMM_ok _ _ _ _ _ _ _ _ ?_ ?_) ?_|refine qcall0D (iMM_ok _ _ _ _ _ _ _ _ ?_ ?_) ⟨_,_,rfl,rfl⟩ ?_);(iterate 2 (exact sd));rintro _ _ ⟨rfl,rfl⟩)|((first|refine call0D (sMM_ok _ _ _ _ _ _ _ _ ?_ ?_) ?_|refine qcall0D (sMM_ok _ _ _ _ _ _ _ _ ?_ ?_) ⟨_,_,rfl,rfl⟩ ?_);(iterate 2 (exact sd));rintro _ _ ⟨rfl,rfl⟩)|((first|refine call0D (BCall.ofP (lequT_ok _ _ _ _ _ _ _ _ ?_ ?_)) ?_|refine qcall0D (BCall.ofP (lequT_ok _ _ _ _ _ _ _ _ ?_ ?_)) ⟨_,_,rfl,rfl⟩ ?_);(iterate 2 (exact sd));rintro _ _ ⟨rfl,rfl⟩)|((first|refine call0D (iTT10_ok _ _ _ _ ?_ ?_) ?_|refine qcall0D (iTT10_ok _ _ _ _ ?_ ?_) ⟨_,_,rfl,rfl⟩ ?_);(iterate 2 (exact sd));rintro _ _ ⟨rfl,rfl⟩)|((first|refine call0D (iCon3_ok _ _ _ _ _ _ _ _ _ _ _ _ ?_ ?_) ?_|refine qcall0D (iCon3_ok _ _ _ _ _ _ _ _ _ _ _ _ ?_ ?_) ⟨_,_,rfl,rfl⟩ ?_);(iterate 2 (exact sd));rintro _ _ ⟨rfl,rfl⟩))<;>(try simp (disch:=omega) only [push_cast,seval,hct,tb,hX,hY,hZ,hT,hkx,hky,hkz,hkt,zcT1,Ckz,Cjz,Azz,Option.isSome_some,decide_true]))
 | (refine Aiz ⟨.inr rfl,_,rfl,?_⟩; (try simp (disch := omega) only [push_cast,seval,hct,tb,hX,hY,hZ,hT,hkx,hky,hkz,hkt,zcT1,Ckz,Cjz,Azz,Option.isSome_some,decide_true]))))
          all_goals (try simp)
        | true =>
          cases ky with
          | false =>
            clear hfin
            (repeat' (first
 | (first|refine Akz ?_|refine Aez ?_)
 | ((first|refine Alz ?_|refine Adz ?_|refine Agz ?_|refine Ahz ?_);simp (disch:=omega) only [push_cast,seval,l3r0,l3r1,l3r2,l3r3,l3r4,l3r5,l3r6,l3r7,l3r8,l3r9,l3r10,l3r11,l3r12,l3r13,hct,tb,hX,hY,hZ,hT,hkx,hky,hkz,hkt,zcT1,Ckz,Cjz,Azz,Option.isSome_some,decide_true])
 | ((first|refine Aaz ?_ ?_|refine Acz ?_ ?_|refine Abz ?_ ?_)<;>intro h<;>(try simp only [h])<;>(try simp only [bitvec_to_nat] at h)<;>(try simp only [h])<;>(first|(exfalso;omega)|(exfalso;simp_all;done)|(simp (disch:=omega) only [push_cast,seval,hct,tb,hX,hY,hZ,hT,hkx,hky,hkz,hkt,zcT1,Ckz,Cjz,Azz,Option.isSome_some,decide_true])|skip))
 | ((first|refine Apz false ?_|refine qcallD_of false ?_);simp (disch:=omega) only [push_cast,seval,hct,tb,hX,hY,hZ,hT,hkx,hky,hkz,hkt,zcT1,Ckz,Cjz,Azz,Option.isSome_some,decide_true])
 | ((first|(refine call0D (BCall.ofP (Bhz _ _ ?_ ?_)) ?_;(iterate 2 (exact sd));rintro _ _ ⟨⟨x1,y1,x2,y2,hxy,rfl⟩,rfl⟩)|((first|refine call0D (iMM_ok _ _ _ _ _ _ _ _ ?_ ?_) ?_|refine qcall0D (iMM_ok _ _ _ _ _ _ _ _ ?_ ?_) ⟨_,_,rfl,rfl⟩ ?_);(iterate 2 (exact sd));rintro _ _ ⟨rfl,rfl⟩)|((first|refine call0D (sMM_ok _ _ _ _ _ _ _ _ ?_ ?_) ?_|refine qcall0D (sMM_ok _ _ _ _ _ _ _ _ ?_ ?_) ⟨_,_,rfl,rfl⟩ ?_);(iterate 2 (exact sd));rintro _ _ ⟨rfl,rfl⟩)|((first|refine call0D (BCall.ofP (lequT_ok _ _ _ _ _ _ _ _ ?_ ?_)) ?_|refine qcall0D (BCall.ofP (lequT_ok _ _ _ _ _ _ _ _ ?_ ?_)) ⟨_,_,rfl,rfl⟩ ?_);(iterate 2 (exact sd));rintro _ _ ⟨rfl,rfl⟩)|((first|refine call0D (iTT10_ok _ _ _ _ ?_ ?_) ?_|refine qcall0D (iTT10_ok _ _ _ _ ?_ ?_) ⟨_,_,rfl,rfl⟩ ?_);(iterate 2 (exact sd));rintro _ _ ⟨rfl,rfl⟩)|((first|refine call0D (iCon3_ok _ _ _ _ _ _ _ _ _ _ _ _ ?_ ?_) ?_|refine qcall0D (iCon3_ok _ _ _ _ _ _ _ _ _ _ _ _ ?_ ?_) ⟨_,_,rfl,rfl⟩ ?_);(iterate 2 (exact sd));rintro _ _ ⟨rfl,rfl⟩))<;>(try simp (disch:=omega) only [push_cast,seval,hct,tb,hX,hY,hZ,hT,hkx,hky,hkz,hkt,zcT1,Ckz,Cjz,Azz,Option.isSome_some,decide_true]))
 | (refine Aiz ⟨.inr rfl,_,rfl,?_⟩; (try simp (disch := omega) only [push_cast,seval,hct,tb,hX,hY,hZ,hT,hkx,hky,hkz,hkt,zcT1,Ckz,Cjz,Azz,Option.isSome_some,decide_true]))))
            all_goals (try simp)
          | true =>
            cases kz with
            | false =>
              clear hfin
              (repeat' (first
 | (first|refine Akz ?_|refine Aez ?_)
 | ((first|refine Alz ?_|refine Adz ?_|refine Agz ?_|refine Ahz ?_);simp (disch:=omega) only [push_cast,seval,l3r0,l3r1,l3r2,l3r3,l3r4,l3r5,l3r6,l3r7,l3r8,l3r9,l3r10,l3r11,l3r12,l3r13,hct,tb,hX,hY,hZ,hT,hkx,hky,hkz,hkt,zcT1,Ckz,Cjz,Azz,Option.isSome_some,decide_true])
 | ((first|refine Aaz ?_ ?_|refine Acz ?_ ?_|refine Abz ?_ ?_)<;>intro h<;>(try simp only [h])<;>(try simp only [bitvec_to_nat] at h)<;>(try simp only [h])<;>(first|(exfalso;omega)|(exfalso;simp_all;done)|(simp (disch:=omega) only [push_cast,seval,hct,tb,hX,hY,hZ,hT,hkx,hky,hkz,hkt,zcT1,Ckz,Cjz,Azz,Option.isSome_some,decide_true])|skip))
 | ((first|refine Apz false ?_|refine qcallD_of false ?_);simp (disch:=omega) only [push_cast,seval,hct,tb,hX,hY,hZ,hT,hkx,hky,hkz,hkt,zcT1,Ckz,Cjz,Azz,Option.isSome_some,decide_true])
 | ((first|(refine call0D (BCall.ofP (Bhz _ _ ?_ ?_)) ?_;(iterate 2 (exact sd));rintro _ _ ⟨⟨x1,y1,x2,y2,hxy,rfl⟩,rfl⟩)|((first|refine call0D (iMM_ok _ _ _ _ _ _ _ _ ?_ ?_) ?_|refine qcall0D (iMM_ok _ _ _ _ _ _ _ _ ?_ ?_) ⟨_,_,rfl,rfl⟩ ?_);(iterate 2 (exact sd));rintro _ _ ⟨rfl,rfl⟩)|((first|refine call0D (sMM_ok _ _ _ _ _ _ _ _ ?_ ?_) ?_|refine qcall0D (sMM_ok _ _ _ _ _ _ _ _ ?_ ?_) ⟨_,_,rfl,rfl⟩ ?_);(iterate 2 (exact sd));rintro _ _ ⟨rfl,rfl⟩)|((first|refine call0D (BCall.ofP (lequT_ok _ _ _ _ _ _ _ _ ?_ ?_)) ?_|refine qcall0D (BCall.ofP (lequT_ok _ _ _ _ _ _ _ _ ?_ ?_)) ⟨_,_,rfl,rfl⟩ ?_);(iterate 2 (exact sd));rintro _ _ ⟨rfl,rfl⟩)|((first|refine call0D (iTT10_ok _ _ _ _ ?_ ?_) ?_|refine qcall0D (iTT10_ok _ _ _ _ ?_ ?_) ⟨_,_,rfl,rfl⟩ ?_);(iterate 2 (exact sd));rintro _ _ ⟨rfl,rfl⟩)|((first|refine call0D (iCon3_ok _ _ _ _ _ _ _ _ _ _ _ _ ?_ ?_) ?_|refine qcall0D (iCon3_ok _ _ _ _ _ _ _ _ _ _ _ _ ?_ ?_) ⟨_,_,rfl,rfl⟩ ?_);(iterate 2 (exact sd));rintro _ _ ⟨rfl,rfl⟩))<;>(try simp (disch:=omega) only [push_cast,seval,hct,tb,hX,hY,hZ,hT,hkx,hky,hkz,hkt,zcT1,Ckz,Cjz,Azz,Option.isSome_some,decide_true]))
 | (refine Aiz ⟨.inr rfl,_,rfl,?_⟩; (try simp (disch := omega) only [push_cast,seval,hct,tb,hX,hY,hZ,hT,hkx,hky,hkz,hkt,zcT1,Ckz,Cjz,Azz,Option.isSome_some,decide_true]))))
              all_goals (try simp)
            | true =>
              obtain ⟨f1,f2⟩:=hfin rfl rfl rfl
              simp only [Prod.mk.injEq] at f1
              obtain ⟨rfl,rfl⟩:=f1
              cases kt with
              | false =>
                clear f2
                (repeat' (first
 | (first|refine Akz ?_|refine Aez ?_)
 | ((first|refine Alz ?_|refine Adz ?_|refine Agz ?_|refine Ahz ?_);simp (disch:=omega) only [push_cast,seval,l3r0,l3r1,l3r2,l3r3,l3r4,l3r5,l3r6,l3r7,l3r8,l3r9,l3r10,l3r11,l3r12,l3r13,hct,tb,hX,hY,hZ,hT,hkx,hky,hkz,hkt,zcT1,Ckz,Cjz,Azz,Option.isSome_some,decide_true])
 | ((first|refine Aaz ?_ ?_|refine Acz ?_ ?_|refine Abz ?_ ?_)<;>intro h<;>(try simp only [h])<;>(try simp only [bitvec_to_nat] at h)<;>(try simp only [h])<;>(first|(exfalso;omega)|(exfalso;simp_all;done)|(simp (disch:=omega) only [push_cast,seval,hct,tb,hX,hY,hZ,hT,hkx,hky,hkz,hkt,zcT1,Ckz,Cjz,Azz,Option.isSome_some,decide_true])|skip))
 | ((first|refine Apz false ?_|refine qcallD_of false ?_);simp (disch:=omega) only [push_cast,seval,hct,tb,hX,hY,hZ,hT,hkx,hky,hkz,hkt,zcT1,Ckz,Cjz,Azz,Option.isSome_some,decide_true])
 | ((first|(refine call0D (BCall.ofP (Bhz _ _ ?_ ?_)) ?_;(iterate 2 (exact sd));rintro _ _ ⟨⟨x1,y1,x2,y2,hxy,rfl⟩,rfl⟩)|((first|refine call0D (iMM_ok _ _ _ _ _ _ _ _ ?_ ?_) ?_|refine qcall0D (iMM_ok _ _ _ _ _ _ _ _ ?_ ?_) ⟨_,_,rfl,rfl⟩ ?_);(iterate 2 (exact sd));rintro _ _ ⟨rfl,rfl⟩)|((first|refine call0D (sMM_ok _ _ _ _ _ _ _ _ ?_ ?_) ?_|refine qcall0D (sMM_ok _ _ _ _ _ _ _ _ ?_ ?_) ⟨_,_,rfl,rfl⟩ ?_);(iterate 2 (exact sd));rintro _ _ ⟨rfl,rfl⟩)|((first|refine call0D (BCall.ofP (lequT_ok _ _ _ _ _ _ _ _ ?_ ?_)) ?_|refine qcall0D (BCall.ofP (lequT_ok _ _ _ _ _ _ _ _ ?_ ?_)) ⟨_,_,rfl,rfl⟩ ?_);(iterate 2 (exact sd));rintro _ _ ⟨rfl,rfl⟩)|((first|refine call0D (iTT10_ok _ _ _ _ ?_ ?_) ?_|refine qcall0D (iTT10_ok _ _ _ _ ?_ ?_) ⟨_,_,rfl,rfl⟩ ?_);(iterate 2 (exact sd));rintro _ _ ⟨rfl,rfl⟩)|((first|refine call0D (iCon3_ok _ _ _ _ _ _ _ _ _ _ _ _ ?_ ?_) ?_|refine qcall0D (iCon3_ok _ _ _ _ _ _ _ _ _ _ _ _ ?_ ?_) ⟨_,_,rfl,rfl⟩ ?_);(iterate 2 (exact sd));rintro _ _ ⟨rfl,rfl⟩))<;>(try simp (disch:=omega) only [push_cast,seval,hct,tb,hX,hY,hZ,hT,hkx,hky,hkz,hkt,zcT1,Ckz,Cjz,Azz,Option.isSome_some,decide_true]))
 | (refine Aiz ⟨.inr rfl,_,rfl,?_⟩; (try simp (disch := omega) only [push_cast,seval,hct,tb,hX,hY,hZ,hT,hkx,hky,hkz,hkt,zcT1,Ckz,Cjz,Azz,Option.isSome_some,decide_true]))))
                all_goals (try simp)
              | true =>
                have f3:=f2 rfl
                simp only [Prod.mk.injEq] at f3
                obtain ⟨rfl,rfl⟩:=f3
                clear f2
                (repeat' (first
 | (first|refine Akz ?_|refine Aez ?_)
 | ((first|refine Alz ?_|refine Adz ?_|refine Agz ?_|refine Ahz ?_);simp (disch:=omega) only [push_cast,seval,l3r0,l3r1,l3r2,l3r3,l3r4,l3r5,l3r6,l3r7,l3r8,l3r9,l3r10,l3r11,l3r12,l3r13,hct,tb,hX,hY,hZ,hT,hkx,hky,hkz,hkt,zcT1,Ckz,Cjz,Azz,Option.isSome_some,decide_true])
 | ((first|refine Aaz ?_ ?_|refine Acz ?_ ?_|refine Abz ?_ ?_)<;>intro h<;>(try simp only [h])<;>(try simp only [bitvec_to_nat] at h)<;>(try simp only [h])<;>(first|(exfalso;omega)|(exfalso;simp_all;done)|(simp (disch:=omega) only [push_cast,seval,hct,tb,hX,hY,hZ,hT,hkx,hky,hkz,hkt,zcT1,Ckz,Cjz,Azz,Option.isSome_some,decide_true])|skip))
 | ((first|refine Apz false ?_|refine qcallD_of false ?_);simp (disch:=omega) only [push_cast,seval,hct,tb,hX,hY,hZ,hT,hkx,hky,hkz,hkt,zcT1,Ckz,Cjz,Azz,Option.isSome_some,decide_true])
 | ((first|(refine call0D (BCall.ofP (Bhz _ _ ?_ ?_)) ?_;(iterate 2 (exact sd));rintro _ _ ⟨⟨x1,y1,x2,y2,hxy,rfl⟩,rfl⟩)|((first|refine call0D (iMM_ok _ _ _ _ _ _ _ _ ?_ ?_) ?_|refine qcall0D (iMM_ok _ _ _ _ _ _ _ _ ?_ ?_) ⟨_,_,rfl,rfl⟩ ?_);(iterate 2 (exact sd));rintro _ _ ⟨rfl,rfl⟩)|((first|refine call0D (sMM_ok _ _ _ _ _ _ _ _ ?_ ?_) ?_|refine qcall0D (sMM_ok _ _ _ _ _ _ _ _ ?_ ?_) ⟨_,_,rfl,rfl⟩ ?_);(iterate 2 (exact sd));rintro _ _ ⟨rfl,rfl⟩)|((first|refine call0D (BCall.ofP (lequT_ok _ _ _ _ _ _ _ _ ?_ ?_)) ?_|refine qcall0D (BCall.ofP (lequT_ok _ _ _ _ _ _ _ _ ?_ ?_)) ⟨_,_,rfl,rfl⟩ ?_);(iterate 2 (exact sd));rintro _ _ ⟨rfl,rfl⟩)|((first|refine call0D (iTT10_ok _ _ _ _ ?_ ?_) ?_|refine qcall0D (iTT10_ok _ _ _ _ ?_ ?_) ⟨_,_,rfl,rfl⟩ ?_);(iterate 2 (exact sd));rintro _ _ ⟨rfl,rfl⟩)|((first|refine call0D (iCon3_ok _ _ _ _ _ _ _ _ _ _ _ _ ?_ ?_) ?_|refine qcall0D (iCon3_ok _ _ _ _ _ _ _ _ _ _ _ _ ?_ ?_) ⟨_,_,rfl,rfl⟩ ?_);(iterate 2 (exact sd));rintro _ _ ⟨rfl,rfl⟩))<;>(try simp (disch:=omega) only [push_cast,seval,hct,tb,hX,hY,hZ,hT,hkx,hky,hkz,hkt,zcT1,Ckz,Cjz,Azz,Option.isSome_some,decide_true]))
 | (refine Aiz ⟨.inr rfl,_,rfl,?_⟩; (try simp (disch := omega) only [push_cast,seval,hct,tb,hX,hY,hZ,hT,hkx,hky,hkz,hkt,zcT1,Ckz,Cjz,Azz,Option.isSome_some,decide_true]))))
                all_goals (try simp)
  · (repeat' (first
 | (first|refine Akz ?_|refine Aez ?_)
 | ((first|refine Alz ?_|refine Adz ?_|refine Agz ?_|refine Ahz ?_);simp (disch:=omega) only [push_cast,seval,l3r0,l3r1,l3r2,l3r3,l3r4,l3r5,l3r6,l3r7,l3r8,l3r9,l3r10,l3r11,l3r12,l3r13])
 | ((first|refine Aaz ?_ ?_|refine Acz ?_ ?_|refine Abz ?_ ?_)<;>intro h<;>(try simp only [h])<;>(try simp only [bitvec_to_nat] at h)<;>(try simp only [h])<;>(first|(exfalso;omega)|(exfalso;simp_all;done)|(simp (disch:=omega) only [push_cast,seval])|skip))
 | ((first|refine Apz false ?_|refine qcallD_of false ?_);simp (disch:=omega) only [push_cast,seval])
 | ((first|(refine call0D (BCall.ofP (Bhz _ _ ?_ ?_)) ?_;(iterate 2 (exact sd));rintro _ _ ⟨⟨x1,y1,x2,y2,hxy,rfl⟩,rfl⟩)|((first|refine call0D (iMM_ok _ _ _ _ _ _ _ _ ?_ ?_) ?_|refine qcall0D (iMM_ok _ _ _ _ _ _ _ _ ?_ ?_) ⟨_,_,rfl,rfl⟩ ?_);(iterate 2 (exact sd));rintro _ _ ⟨rfl,rfl⟩)|((first|refine call0D (sMM_ok _ _ _ _ _ _ _ _ ?_ ?_) ?_|refine qcall0D (sMM_ok _ _ _ _ _ _ _ _ ?_ ?_) ⟨_,_,rfl,rfl⟩ ?_);(iterate 2 (exact sd));rintro _ _ ⟨rfl,rfl⟩)|((first|refine call0D (BCall.ofP (lequT_ok _ _ _ _ _ _ _ _ ?_ ?_)) ?_|refine qcall0D (BCall.ofP (lequT_ok _ _ _ _ _ _ _ _ ?_ ?_)) ⟨_,_,rfl,rfl⟩ ?_);(iterate 2 (exact sd));rintro _ _ ⟨rfl,rfl⟩)|((first|refine call0D (iTT10_ok _ _ _ _ ?_ ?_) ?_|refine qcall0D (iTT10_ok _ _ _ _ ?_ ?_) ⟨_,_,rfl,rfl⟩ ?_);(iterate 2 (exact sd));rintro _ _ ⟨rfl,rfl⟩)|((first|refine call0D (iCon3_ok _ _ _ _ _ _ _ _ _ _ _ _ ?_ ?_) ?_|refine qcall0D (iCon3_ok _ _ _ _ _ _ _ _ _ _ _ _ ?_ ?_) ⟨_,_,rfl,rfl⟩ ?_);(iterate 2 (exact sd));rintro _ _ ⟨rfl,rfl⟩))<;>(try simp (disch:=omega) only [push_cast,seval]))
 | (refine Aiz ⟨.inr rfl,_,rfl,?_⟩;(try simp (disch:=omega) only [push_cast,seval]))))

end Go.Proofs.Ytfgohhkcmgiddaa
