/- Texts of this verifier. -/
import Derived.Test.YtgiaepecaokcfaaDoorCB4
import Derived.Test.YtgiaepecaokcfaaDoorCM1
import Derived.Test.YtgiaepecaokcfaaDoorCW3
import Derived.Test.YtgiaepecaokcfaaDoorChecked
import Derived.RegionCalls
import Derived.Below
set_option linter.unusedSimpArgs false
set_option linter.unusedVariables false
set_option maxRecDepth 4000
set_option maxHeartbeats 4000000
namespace Go.Proofs.YtgiaepecaokcfaaDoor
open VwM Vw Go

set_option maxHeartbeats 8000000 in
theorem ifields_ok (s:List Int) (n:Nat) (big al:Bool) (hn:s.length=n) (hv:vF s=true):BCall Tryd.prog 17 [.agg [.rows false (IL s) n,.bool big,.bool al]] [] (fun r H'=>r=.own 0 n 2 ∧ H'=[IL (fL2 al s n)]):=by
  subst hn
  obtain ⟨hs,hl1,hl2⟩:=C3z.1 hv
  clear hv
  refine A3z (pins:=[]) (pin:=0) l17_eq rfl rfl rfl ?_
  (repeat' (first
 | (first|refine Akz ?_|refine Aez ?_)
 | ((first|refine Alz ?_|refine Adz ?_|refine Afz ?_|refine Agz ?_);simp (disch:=omega) only [push_cast,seval,l17r0,l17r1,l17r2,l17r3,l17r4,l17r5,l17r6,l17r7,l17r8,l17r9,Dxz,Int.toNat_natCast])
 | ((first|refine Aaz ?_ ?_|refine Acz ?_ ?_|refine Abz ?_ ?_)<;>intro h<;>(try simp only [h])<;>(try simp only [bitvec_to_nat] at h)<;>(try simp only [h])<;>(first|(exfalso;omega)|(exfalso;simp_all;done)|(simp (disch:=omega) only [push_cast,seval,Dxz,Int.toNat_natCast])|skip))
 | ((first|refine Anz false ?_|refine Amz false ?_);simp (disch:=omega) only [push_cast,seval,Dxz,Int.toNat_natCast])
 | ((first|((first|refine call0D (BCall.ofP (alg_ok _ _ _ _ _ _ ?_)) ?_|refine qcall0D (BCall.ofP (alg_ok _ _ _ _ _ _ ?_)) ⟨_,_,rfl,rfl⟩ ?_);(exact sd);rintro _ _ ⟨rfl,rfl⟩)|((first|refine call0D (BCall.ofP (fEnd_ok _ _ ?_)) ?_|refine qcall0D (BCall.ofP (fEnd_ok _ _ ?_)) ⟨_,_,rfl,rfl⟩ ?_);(exact sd);rintro _ _ ⟨rfl,rfl⟩))<;>(try simp (disch:=omega) only [push_cast,seval,Dxz,Int.toNat_natCast]))
 | (refine Aiz ⟨.inr rfl,[160],[],_,by decide,rfl,?_⟩;(try simp (disch:=omega) only [push_cast,seval,↓Ajz,↓Ahz,↓List.map_cons,↓List.map_nil,Dxz,Int.toNat_natCast]);(first|done|(show AV.own _ _ _=_ ∧ _)))
 | (refine Aiz ⟨.inr rfl,[384],[],_,by decide,rfl,?_⟩;(try simp (disch:=omega) only [push_cast,seval,↓Ajz,↓Ahz,↓List.map_cons,↓List.map_nil,Dxz,Int.toNat_natCast]);(first|done|(show AV.own _ _ _=_ ∧ _)))
 | (refine Aiz ⟨.inr rfl,[512],[],_,by decide,rfl,?_⟩;(try simp (disch:=omega) only [push_cast,seval,↓Ajz,↓Ahz,↓List.map_cons,↓List.map_nil,Dxz,Int.toNat_natCast]);(first|done|(show AV.own _ _ _=_ ∧ _)))))
  refine A4z (fun k:Nat=>mkS [(1,.ref 16 3 0),(3,.own 160 s.length 2),(4,.int .i64 (fE al s k)),(12,RI s),(13,.int .i64 s.length),(14,.int .i64 k)] [(160,IL (fZ2 al s k)),(16,[RI s,.bool big,.bool al])])
    (fun k=>k ≤ s.length) (fun k=>s.length - k) 0 (Nat.zero_le _) ?_ ?_
  · rw [fZ2_zero]
    have e0:fE al s 0=0:=rfl
    (refine Sub.of_lists ?_ ?_ ?_ ?_ ?_<;>simp [Vw.mkS,Vw.lk,Vw.hk,AV.inn,innL,Apz,Aoz,Asz,-List.map_set,-List.getD_eq_getElem?_getD,e0])
  · intro k hk
    have hfl:=Gsz al s k hk
    by_cases hlt:k < s.length
    · have b1:=Ccz (al:=al) hs k hlt
      have b2:=hs k hlt
      have b3:=Doz (al:=al) hs k (by omega)
      have hq:(0 ≤ fE al s k ∧ fE al s k ≤ 1000) ∧ 1 ≤ s.getD k 0 ∧ s.getD k 0 ≤ 4:=by omega
      have hq2:0 ≤ fP al s k ∧ fP al s k ≤ 1000 ∧ 0 ≤ s.getD k 0 ∧ s.getD k 0 ≤ 1000:=by omega
      have e1:alg al (fE al s k) (s.getD k 0)=fP al s k:=rfl
      have e2:=fZ2_set (al:=al) hlt
      have e3:fE al s (k + 1)=fP al s k + s.getD k 0:=rfl
      have hfl2:=Gsz al s (k + 1) (by omega)
      have g1:=fZ2_get (al:=al) (s:=s) (n:=k + 1) (k:=k) (by omega)
      generalize hZ:fZ2 al s k=Z at *
      generalize hZ2:fZ2 al s (k + 1)=Z2 at *
      generalize hP:fP al s k=P at *
      generalize hS:s.getD k 0=x at *
      obtain ⟨g1,g2⟩:=g1
      have htd:=td2 (by omega) g1 g2
      clear hZ b1 b2
      (repeat' (first
 | (first|refine Akz ?_|refine Aez ?_)
 | ((first|refine Alz ?_|refine Adz ?_|refine Afz ?_|refine Agz ?_);simp (disch:=omega) only [push_cast,seval,l17r0,l17r1,l17r2,l17r3,l17r4,l17r5,l17r6,l17r7,l17r8,l17r9,e1,hS,hfl,List.length_map,B3z,A9z,e2,hfl2,htd])
 | ((first|refine Aaz ?_ ?_|refine Acz ?_ ?_|refine Abz ?_ ?_)<;>intro h<;>(try simp only [h])<;>(try simp only [bitvec_to_nat] at h)<;>(try simp only [h])<;>(first|(exfalso;omega)|(exfalso;simp_all;done)|(simp (disch:=omega) only [push_cast,seval,e1,hS,hfl,List.length_map,B3z,A9z,e2,hfl2,htd])|skip))
 | ((first|refine Anz false ?_|refine Amz false ?_);simp (disch:=omega) only [push_cast,seval,e1,hS,hfl,List.length_map,B3z,A9z,e2,hfl2,htd])
 | ((first|((first|refine call0D (BCall.ofP (alg_ok _ _ _ _ _ _ ?_)) ?_|refine qcall0D (BCall.ofP (alg_ok _ _ _ _ _ _ ?_)) ⟨_,_,rfl,rfl⟩ ?_);(exact sd);rintro _ _ ⟨rfl,rfl⟩)|((first|refine call0D (BCall.ofP (fEnd_ok _ _ ?_)) ?_|refine qcall0D (BCall.ofP (fEnd_ok _ _ ?_)) ⟨_,_,rfl,rfl⟩ ?_);(exact sd);rintro _ _ ⟨rfl,rfl⟩))<;>(try simp (disch:=omega) only [push_cast,seval,e1,hS,hfl,List.length_map,B3z,A9z,e2,hfl2,htd]))
 | (refine Aiz ⟨.inr rfl,[160],[],_,by decide,rfl,?_⟩;(try simp (disch:=omega) only [push_cast,seval,↓Ajz,↓Ahz,↓List.map_cons,↓List.map_nil,e1,hS,hfl,List.length_map,B3z,A9z,e2,hfl2,htd]);(first|done|(show AV.own _ _ _=_ ∧ _)))
 | (refine Aiz ⟨.inr rfl,[384],[],_,by decide,rfl,?_⟩;(try simp (disch:=omega) only [push_cast,seval,↓Ajz,↓Ahz,↓List.map_cons,↓List.map_nil,e1,hS,hfl,List.length_map,B3z,A9z,e2,hfl2,htd]);(first|done|(show AV.own _ _ _=_ ∧ _)))
 | (refine Aiz ⟨.inr rfl,[512],[],_,by decide,rfl,?_⟩;(try simp (disch:=omega) only [push_cast,seval,↓Ajz,↓Ahz,↓List.map_cons,↓List.map_nil,e1,hS,hfl,List.length_map,B3z,A9z,e2,hfl2,htd]);(first|done|(show AV.own _ _ _=_ ∧ _)))))
      refine ⟨k + 1,by omega,by omega,?_⟩
      (refine Sub.of_lists ?_ ?_ ?_ ?_ ?_<;>simp [Vw.mkS,Vw.lk,Vw.hk,AV.inn,innL,Apz,Aoz,Asz,-List.map_set,-List.getD_eq_getElem?_getD,e3,hP,hS,hZ2])
    · have e:k=s.length:=by omega
      subst e
      rw [fZ2_all] at hfl ⊢
      (repeat' (first
 | (first|refine Akz ?_|refine Aez ?_)
 | ((first|refine Alz ?_|refine Adz ?_|refine Afz ?_|refine Agz ?_);simp (disch:=omega) only [push_cast,seval,l17r0,l17r1,l17r2,l17r3,l17r4,l17r5,l17r6,l17r7,l17r8,l17r9,hfl])
 | ((first|refine Aaz ?_ ?_|refine Acz ?_ ?_|refine Abz ?_ ?_)<;>intro h<;>(try simp only [h])<;>(try simp only [bitvec_to_nat] at h)<;>(try simp only [h])<;>(first|(exfalso;omega)|(exfalso;simp_all;done)|(simp (disch:=omega) only [push_cast,seval,hfl])|skip))
 | ((first|refine Anz false ?_|refine Amz false ?_);simp (disch:=omega) only [push_cast,seval,hfl])
 | ((first|((first|refine call0D (BCall.ofP (alg_ok _ _ _ _ _ _ ?_)) ?_|refine qcall0D (BCall.ofP (alg_ok _ _ _ _ _ _ ?_)) ⟨_,_,rfl,rfl⟩ ?_);(exact sd);rintro _ _ ⟨rfl,rfl⟩)|((first|refine call0D (BCall.ofP (fEnd_ok _ _ ?_)) ?_|refine qcall0D (BCall.ofP (fEnd_ok _ _ ?_)) ⟨_,_,rfl,rfl⟩ ?_);(exact sd);rintro _ _ ⟨rfl,rfl⟩))<;>(try simp (disch:=omega) only [push_cast,seval,hfl]))
 | (refine Aiz ⟨.inr rfl,[160],[],_,by decide,rfl,?_⟩;(try simp (disch:=omega) only [push_cast,seval,↓Ajz,↓Ahz,↓List.map_cons,↓List.map_nil,hfl]);(first|done|(show AV.own _ _ _=_ ∧ _)))
 | (refine Aiz ⟨.inr rfl,[384],[],_,by decide,rfl,?_⟩;(try simp (disch:=omega) only [push_cast,seval,↓Ajz,↓Ahz,↓List.map_cons,↓List.map_nil,hfl]);(first|done|(show AV.own _ _ _=_ ∧ _)))
 | (refine Aiz ⟨.inr rfl,[512],[],_,by decide,rfl,?_⟩;(try simp (disch:=omega) only [push_cast,seval,↓Ajz,↓Ahz,↓List.map_cons,↓List.map_nil,hfl]);(first|done|(show AV.own _ _ _=_ ∧ _)))))
      all_goals simp


set_option maxHeartbeats 8000000 in
theorem splaces_ok (s:List Int) (n:Nat) (big al:Bool) (hn:s.length=n) (hv:vF s=true):BCall Tryd.prog 25 [.agg [.rows false (IL s) n,.bool big,.bool al]] [] (fun r H'=>r=.tup [.own 0 n 1,.int .i64 (fN al s)] ∧ H'=[IL (fPL al s)]):=by
  subst hn
  obtain ⟨hs,hl1,hl2⟩:=C3z.1 hv
  refine A3z (pins:=[]) (pin:=0) l25_eq rfl rfl rfl ?_
  (repeat' (first
 | (first|refine Akz ?_|refine Aez ?_)
 | ((first|refine Alz ?_|refine Adz ?_|refine Afz ?_|refine Agz ?_);simp (disch:=omega) only [push_cast,seval,l25r0,l25r1,l25r2,l25r3,l25r4,l25r5,l25r6,l25r7,l25r8,l25r9,l25r10,l25r11,l25r12])
 | ((first|refine Aaz ?_ ?_|refine Acz ?_ ?_|refine Abz ?_ ?_)<;>intro h<;>(try simp only [h])<;>(try simp only [bitvec_to_nat] at h)<;>(try simp only [h])<;>(first|(exfalso;omega)|(exfalso;simp_all;done)|(simp (disch:=omega) only [push_cast,seval])|skip))
 | ((first|refine Anz false ?_|refine Amz false ?_);simp (disch:=omega) only [push_cast,seval])
 | ((first|((first|refine call0D (BCall.ofP (E5z _ _ ?_)) ?_|refine qcall0D (BCall.ofP (E5z _ _ ?_)) ⟨_,_,rfl,rfl⟩ ?_);(exact sd);rintro _ _ ⟨rfl,rfl⟩))<;>(try simp (disch:=omega) only [push_cast,seval]))
 | (refine Aiz ⟨.inr rfl,[128],[],_,by decide,rfl,?_⟩;(try simp (disch:=omega) only [push_cast,seval,↓Ajz,↓Ahz,↓List.map_cons,↓List.map_nil]))))
  refine A4z (fun k:Nat=>mkS [(1,.ref 16 3 0),(4,.own 128 k 1),(5,.int .i64 (fE al s k)),(6,.int .i64 (fM al s k)),(7,.int .i64 k)] [(128,IL ((List.range k).map (fP al s))),(16,[RI s,.bool big,.bool al])])
    (fun k=>k ≤ s.length) (fun k=>s.length - k) 0 (Nat.zero_le _) ?_ ?_
  · have e0:fE al s 0=0:=rfl
    have e1:fM al s 0=1:=rfl
    (refine Sub.of_lists ?_ ?_ ?_ ?_ ?_<;>simp [Vw.mkS,Vw.lk,Vw.hk,AV.inn,innL,Apz,Aoz,Asz,-List.map_set,-List.getD_eq_getElem?_getD,e0,e1,List.range_zero,List.map_nil])
  · intro k hk
    have b4:=fM_or (al:=al) hs k hk
    have b3:=Doz (al:=al) hs k (by omega)
    by_cases hlt:k < s.length
    · have b1:=Ccz (al:=al) hs k hlt
      have b2:=hs k hlt
      have hq:(0 ≤ fE al s k ∧ fE al s k ≤ 1000) ∧ 1 ≤ s.getD k 0 ∧ s.getD k 0 ≤ 4:=by omega
      have e1:alg al (fE al s k) (s.getD k 0)=fP al s k:=rfl
      have e2:fE al s (k + 1)=fP al s k + s.getD k 0:=rfl
      have e4:fM al s (k + 1)=if al=true then max (fM al s k) (s.getD k 0) else fM al s k:=rfl
      have e5:=fPL_succ al s k
      have hq2:0 ≤ fP al s k ∧ fP al s k ≤ 1000:=by omega
      have hL:((List.range k).map (fP al s)).length=k:=by simp
      generalize hM:fM al s k=m at *
      generalize hP:fP al s k=P at *
      generalize hS:s.getD k 0=x at *
      generalize hE:fE al s k=e at *
      generalize hLL:(List.range k).map (fP al s)=L at *
      clear b1
      cases al with
 | false =>
        simp only [alg,Bool.false_eq_true,if_false] at e1 e4
        subst e1
        (repeat' (first
 | (first|refine Akz ?_|refine Aez ?_)
 | ((first|refine Alz ?_|refine Adz ?_|refine Afz ?_|refine Agz ?_);simp (disch:=omega) only [push_cast,seval,l25r0,l25r1,l25r2,l25r3,l25r4,l25r5,l25r6,l25r7,l25r8,l25r9,l25r10,l25r11,l25r12,hS,hL])
 | ((first|refine Aaz ?_ ?_|refine Acz ?_ ?_|refine Abz ?_ ?_)<;>intro h<;>(try simp only [h])<;>(try simp only [bitvec_to_nat] at h)<;>(try simp only [h])<;>(first|(exfalso;omega)|(exfalso;simp_all;done)|(simp (disch:=omega) only [push_cast,seval,hS,hL])|skip))
 | ((first|refine Anz false ?_|refine Amz false ?_);simp (disch:=omega) only [push_cast,seval,hS,hL])
 | ((first|((first|refine call0D (BCall.ofP (E5z _ _ ?_)) ?_|refine qcall0D (BCall.ofP (E5z _ _ ?_)) ⟨_,_,rfl,rfl⟩ ?_);(exact sd);rintro _ _ ⟨rfl,rfl⟩))<;>(try simp (disch:=omega) only [push_cast,seval,hS,hL]))
 | (refine Aiz ⟨.inr rfl,[128],[],_,by decide,rfl,?_⟩;(try simp (disch:=omega) only [push_cast,seval,↓Ajz,↓Ahz,↓List.map_cons,↓List.map_nil,hS,hL]))))
        refine ⟨k + 1,by omega,by omega,?_⟩
        (refine Sub.of_lists ?_ ?_ ?_ ?_ ?_<;>simp [Vw.mkS,Vw.lk,Vw.hk,AV.inn,innL,Apz,Aoz,Asz,-List.map_set,-List.getD_eq_getElem?_getD,e2,e4,e5,hP,hS,hM,hE])
 | true =>
        simp only [alg,if_true] at e1 e4
        (repeat' (first
 | (first|refine Akz ?_|refine Aez ?_)
 | ((first|refine Alz ?_|refine Adz ?_|refine Afz ?_|refine Agz ?_);simp (disch:=omega) only [push_cast,seval,l25r0,l25r1,l25r2,l25r3,l25r4,l25r5,l25r6,l25r7,l25r8,l25r9,l25r10,l25r11,l25r12,hS,hL,e1])
 | ((first|refine Aaz ?_ ?_|refine Acz ?_ ?_|refine Abz ?_ ?_)<;>intro h<;>(try simp only [h])<;>(try simp only [bitvec_to_nat] at h)<;>(try simp only [h])<;>(first|(exfalso;omega)|(exfalso;simp_all;done)|(simp (disch:=omega) only [push_cast,seval,hS,hL,e1])|skip))
 | ((first|refine Anz false ?_|refine Amz false ?_);simp (disch:=omega) only [push_cast,seval,hS,hL,e1])
 | ((first|((first|refine call0D (BCall.ofP (E5z _ _ ?_)) ?_|refine qcall0D (BCall.ofP (E5z _ _ ?_)) ⟨_,_,rfl,rfl⟩ ?_);(exact sd);rintro _ _ ⟨rfl,rfl⟩))<;>(try simp (disch:=omega) only [push_cast,seval,hS,hL,e1]))
 | (refine Aiz ⟨.inr rfl,[128],[],_,by decide,rfl,?_⟩;(try simp (disch:=omega) only [push_cast,seval,↓Ajz,↓Ahz,↓List.map_cons,↓List.map_nil,hS,hL,e1]))))
        refine ⟨k + 1,by omega,by omega,?_⟩
        (refine Sub.of_lists ?_ ?_ ?_ ?_ ?_<;>simp [Vw.mkS,Vw.lk,Vw.hk,AV.inn,innL,Apz,Aoz,Asz,-List.map_set,-List.getD_eq_getElem?_getD,e2,e4,e5,hP,hS,hM,hE])
    · have e:k=s.length:=by omega
      subst e
      have hq:(0 ≤ fE al s s.length ∧ fE al s s.length ≤ 1000) ∧ 1 ≤ fM al s s.length ∧ fM al s s.length ≤ 4:=by omega
      have e1:rup (fE al s s.length) (fM al s s.length)=fN al s:=rfl
      have e5:(List.range s.length).map (fP al s)=fPL al s:=rfl
      have hL:=Gtz al s
      rw [e5]
      (repeat' (first
 | (first|refine Akz ?_|refine Aez ?_)
 | ((first|refine Alz ?_|refine Adz ?_|refine Afz ?_|refine Agz ?_);simp (disch:=omega) only [push_cast,seval,l25r0,l25r1,l25r2,l25r3,l25r4,l25r5,l25r6,l25r7,l25r8,l25r9,l25r10,l25r11,l25r12,e1,hL])
 | ((first|refine Aaz ?_ ?_|refine Acz ?_ ?_|refine Abz ?_ ?_)<;>intro h<;>(try simp only [h])<;>(try simp only [bitvec_to_nat] at h)<;>(try simp only [h])<;>(first|(exfalso;omega)|(exfalso;simp_all;done)|(simp (disch:=omega) only [push_cast,seval,e1,hL])|skip))
 | ((first|refine Anz false ?_|refine Amz false ?_);simp (disch:=omega) only [push_cast,seval,e1,hL])
 | ((first|((first|refine call0D (BCall.ofP (E5z _ _ ?_)) ?_|refine qcall0D (BCall.ofP (E5z _ _ ?_)) ⟨_,_,rfl,rfl⟩ ?_);(exact sd);rintro _ _ ⟨rfl,rfl⟩))<;>(try simp (disch:=omega) only [push_cast,seval,e1,hL]))
 | (refine Aiz ⟨.inr rfl,[128],[],_,by decide,rfl,?_⟩;(try simp (disch:=omega) only [push_cast,seval,↓Ajz,↓Ahz,↓List.map_cons,↓List.map_nil,e1,hL]))))
      all_goals simp


theorem smax_ok (s:List Int) (n:Nat) (hn:s.length=n) (hb:1 ≤ n ∧ n ≤ 1099511627776):PCall Tryd.prog 38 [.rows false (IL s) n] (fun r=>r=.int .i64 (mxL s n)):=by
  subst hn
  refine Ayz l38_eq rfl ?_
  have h1:¬ (s.length:Int) < 1:=by omega
  (repeat' (first
 | (first|refine Akz ?_|refine Aez ?_)
 | ((first|refine Alz ?_|refine Adz ?_|refine Afz ?_|refine Agz ?_);simp (disch:=omega) only [push_cast,seval,l38r0,l38r1,l38r2,l38r3,l38r4,l38r5,l38r6,l38r7,l38r8,h1])
 | ((first|refine Aaz ?_ ?_|refine Acz ?_ ?_|refine Abz ?_ ?_)<;>intro h<;>(try simp only [h])<;>(try simp only [bitvec_to_nat] at h)<;>(try simp only [h])<;>(first|(exfalso;omega)|(exfalso;simp_all;done)|(simp (disch:=omega) only [push_cast,seval,h1])|skip))
 | (refine Aiz ⟨.inr rfl,_,rfl,?_⟩;(try simp (disch:=omega) only [push_cast,seval,h1]))))
  refine A4z (fun k:Nat=>mkS [(0,RI s),(3,.int .i64 (mxL s (k + 1))),(4,.int .i64 ((k:Int) + 1))] []) (fun k=>k + 1 ≤ s.length) (fun k=>s.length - k) 0 (by omega) ?_ ?_
  · have e0:mxL s (0 + 1)=s.getD 0 0:=by simp [mxL]
    (refine Sub.of_lists ?_ ?_ ?_ ?_ ?_<;>simp [Vw.mkS,Vw.lk,Vw.hk,AV.inn,innL,Apz,Aoz,Asz,-List.map_set,-List.getD_eq_getElem?_getD,e0])
  · intro k hk
    by_cases hlt:k + 1 < s.length
    · have e:mxL s (k + 1 + 1)=max (mxL s (k + 1)) (s.getD (k + 1) 0):=rfl
      obtain ⟨q,hq⟩:∃ q,k + 1=q:=⟨_,rfl⟩
      have hqi:(k:Int) + 1=(q:Int):=by omega
      rw [hq] at hlt e ⊢
      rw [hqi]
      (repeat' (first
 | (first|refine Akz ?_|refine Aez ?_)
 | ((first|refine Alz ?_|refine Adz ?_|refine Afz ?_|refine Agz ?_);simp (disch:=omega) only [push_cast,seval,l38r0,l38r1,l38r2,l38r3,l38r4,l38r5,l38r6,l38r7,l38r8])
 | ((first|refine Aaz ?_ ?_|refine Acz ?_ ?_|refine Abz ?_ ?_)<;>intro h<;>(try simp only [h])<;>(try simp only [bitvec_to_nat] at h)<;>(try simp only [h])<;>(first|(exfalso;omega)|(exfalso;simp_all;done)|(simp (disch:=omega) only [push_cast,seval])|skip))
 | (refine Aiz ⟨.inr rfl,_,rfl,?_⟩;(try simp (disch:=omega) only [push_cast,seval]))))
      refine ⟨q,by omega,by omega,?_⟩
      have hqi2:(q:Int) + 1=((q + 1:Nat):Int):=by omega
      (refine Sub.of_lists ?_ ?_ ?_ ?_ ?_<;>simp [Vw.mkS,Vw.lk,Vw.hk,AV.inn,innL,Apz,Aoz,Asz,-List.map_set,-List.getD_eq_getElem?_getD,e])
    · have e:k + 1=s.length:=by omega
      have hqi:(k:Int) + 1=(s.length:Int):=by omega
      rw [e,hqi]
      (repeat' (first
 | (first|refine Akz ?_|refine Aez ?_)
 | ((first|refine Alz ?_|refine Adz ?_|refine Afz ?_|refine Agz ?_);simp (disch:=omega) only [push_cast,seval,l38r0,l38r1,l38r2,l38r3,l38r4,l38r5,l38r6,l38r7,l38r8])
 | ((first|refine Aaz ?_ ?_|refine Acz ?_ ?_|refine Abz ?_ ?_)<;>intro h<;>(try simp only [h])<;>(try simp only [bitvec_to_nat] at h)<;>(try simp only [h])<;>(first|(exfalso;omega)|(exfalso;simp_all;done)|(simp (disch:=omega) only [push_cast,seval])|skip))
 | (refine Aiz ⟨.inr rfl,_,rfl,?_⟩;(try simp (disch:=omega) only [push_cast,seval]))))


theorem isz_ok (s:List Int) (n:Nat) (big al:Bool) (hn:s.length=n) (hv:vF s=true):PCall Tryd.prog 21 [.agg [.rows false (IL s) n,.bool big,.bool al]] (fun r=>r=.int .i64 (fN al s)):=by
  subst hn
  obtain ⟨hs,hl1,hl2⟩:=C3z.1 hv
  refine Ayz l21_eq rfl ?_
  obtain ⟨q,hq⟩:∃ q,s.length=q + 1:=⟨s.length - 1,by omega⟩
  have hb1:1 ≤ s.length ∧ s.length ≤ 1099511627776:=by omega
  have b1:=Ccz (al:=al) hs q (by omega)
  have b2:=hs q (by omega)
  have b3:=Doz (al:=al) hs s.length (Nat.le_refl _)
  have hq2:0 ≤ fP al s q ∧ fP al s q ≤ 1000 ∧ 0 ≤ s.getD q 0 ∧ s.getD q 0 ≤ 1000:=by omega
  have g:=Hhz (al:=al) (s:=s) (n:=s.length) (k:=q) (by omega)
  obtain ⟨g1,g2⟩:=g
  have hl:=fL2_length al s s.length
  have hm:1 ≤ mxL s s.length ∧ mxL s s.length ≤ 4:=by
    have:=mxL_spec (xs:=s) (by omega) s.length (Nat.le_refl _)
    obtain ⟨j,hj,e⟩:=List.getElem_of_mem this.1
    have:=hs j hj
    rw [List.getD,List.getElem?_eq_getElem hj,Option.getD_some,e] at this
    omega
  have e1:=fN_alg (al:=al) hv
  have e2:fE al s s.length=fP al s q + s.getD q 0:=by rw [hq];rfl
  have hq3:(0 ≤ fE al s s.length ∧ fE al s s.length ≤ 1000) ∧ 1 ≤ mxL s s.length ∧ mxL s s.length ≤ 4:=by omega
  have hqi:(s.length:Int) - 1=(q:Int):=by omega
  have hlt:q < s.length:=by omega
  rw [e2] at e1 hq3
  generalize hP:fP al s q=P at *
  generalize hS:s.getD q 0=x at *
  have htd:=td2 (by omega) g1 g2
  have hif:q * 2 + 2 ≤ s.length * 2:=by omega
  clear b1 b2 b3 e2
  (repeat' (first
 | (first|refine Akz ?_|refine Aez ?_)
 | ((first|refine Alz ?_|refine Atz (mid:=l21r1a) (post:=l21r1b) mixed (by decide) ?_|refine Atz (mid:=l21r2a) (post:=l21r2b) mixed (by decide) ?_|refine Adz ?_|refine Afz ?_|refine Agz ?_);simp (disch:=omega) only [push_cast,seval,l21r0,l21r1a,l21r1b,l21r1,l21r2a,l21r2b,l21r2,hqi,hl,hif,htd,e1])
 | ((first|refine Aaz ?_ ?_|refine Acz ?_ ?_|refine Abz ?_ ?_)<;>intro h<;>(try simp only [h])<;>(try simp only [bitvec_to_nat] at h)<;>(try simp only [h])<;>(first|(exfalso;omega)|(exfalso;simp_all;done)|(simp (disch:=omega) only [push_cast,seval,hqi,hl,hif,htd,e1])|skip))
 | ((first|refine Anz false ?_|refine Amz false ?_);simp (disch:=omega) only [push_cast,seval,hqi,hl,hif,htd,e1])
 | ((first|((first|refine call0D (ifields_ok _ _ _ _ ?_ ?_) ?_|refine qcall0D (BCall.ofP (plain2 (ifields_ok _ _ _ _ ?_ ?_) (fL2_length _ _ _))) ⟨_,_,rfl,rfl⟩ ?_);(iterate 2 (exact sd));rintro _ _ ⟨rfl,rfl⟩)|((first|refine call0D (BCall.ofP (fEnd_ok _ _ ?_)) ?_|refine qcall0D (BCall.ofP (fEnd_ok _ _ ?_)) ⟨_,_,rfl,rfl⟩ ?_);(exact sd);rintro _ _ ⟨rfl,rfl⟩)|((first|refine call0D (BCall.ofP (smax_ok _ _ ?_ ?_)) ?_|refine qcall0D (BCall.ofP (smax_ok _ _ ?_ ?_)) ⟨_,_,rfl,rfl⟩ ?_);(iterate 2 (exact sd));rintro _ _ ⟨rfl,rfl⟩)|((first|refine call0D (BCall.ofP (alg_ok _ _ _ _ _ _ ?_)) ?_|refine qcall0D (BCall.ofP (alg_ok _ _ _ _ _ _ ?_)) ⟨_,_,rfl,rfl⟩ ?_);(exact sd);rintro _ _ ⟨rfl,rfl⟩))<;>(try simp (disch:=omega) only [push_cast,seval,hqi,hl,hif,htd,e1]))
 | (refine Aiz ⟨.inr rfl,_,rfl,?_⟩;(try simp (disch:=omega) only [push_cast,seval,hqi,hl,hif,htd,e1]))))

end Go.Proofs.YtgiaepecaokcfaaDoor
set_option linter.unusedSimpArgs false
set_option linter.unusedVariables false
set_option maxRecDepth 4000
set_option maxHeartbeats 4000000
namespace Go.Proofs.YtgiaepecaokcfaaDoor
open VwM Vw Go

set_option maxHeartbeats 16000000 in
theorem cellHighC (w:World) (p z k:Int):Calls Tryd.prog 19 #[.agg #[.func (.func 35) #[] #[]],.agg #[.int .i64 p,.int .i64 z],.int .i64 k] w
    (fun e w'=>e=.returned (.int .i64 (IntKind.i64.wrap (p + IntKind.i64.wrap (IntKind.i64.wrap (z - 1) - k)))) ∧ Go.RowKit.Below w.heap.size w w'):=by
  go_enter Tryd.func19,Tryd.ntmps19
  go_wp2
  go_region_calls
  all_goals (try go_wp2)
  all_goals go_ret
  all_goals exact ⟨by simp [Act.put,IntKind.wrap_i64,Go.RowKit.wrap64],Go.RowKit.Below.drew (Go.RowKit.Below.alloc (Go.RowKit.Below.alloc (Go.RowKit.Below.refl _ _) (Nat.le_refl _) _) (Nat.le_of_lt (by show w.heap.size < (w.heap.push _).size;simp)) _)⟩
set_option maxHeartbeats 16000000 in
theorem cellLowC (w:World) (p z k:Int):Calls Tryd.prog 19 #[.agg #[.func (.func 36) #[] #[]],.agg #[.int .i64 p,.int .i64 z],.int .i64 k] w
    (fun e w'=>e=.returned (.int .i64 (IntKind.i64.wrap (p + k))) ∧ Go.RowKit.Below w.heap.size w w'):=by
  go_enter Tryd.func19,Tryd.ntmps19
  go_wp2
  go_region_calls
  all_goals (try go_wp2)
  all_goals go_ret
  all_goals exact ⟨by simp [Act.put,IntKind.wrap_i64],Go.RowKit.Below.drew (Go.RowKit.Below.alloc (Go.RowKit.Below.alloc (Go.RowKit.Below.refl _ _) (Nat.le_refl _) _) (Nat.le_of_lt (by show w.heap.size < (w.heap.push _).size;simp)) _)⟩

end Go.Proofs.YtgiaepecaokcfaaDoor
set_option linter.unusedSimpArgs false
set_option linter.unusedVariables false
set_option maxRecDepth 4000
set_option maxHeartbeats 4000000
namespace Go.Proofs.YtgiaepecaokcfaaDoor
open VwM Vw Go

theorem cellArgs {C:Ctx} {f:Value} {p z k:Int} {vs:List Value} (hl:vs.length=3) (hd:DenP C [.agg [.val f],.agg [.int .i64 p,.int .i64 z],.int .i64 k] vs):vs.toArray=#[.agg #[f],.agg #[.int .i64 p,.int .i64 z],.int .i64 k]:=by
  rcases vs with _|⟨a,_|⟨b,_|⟨c,_|⟨d,t⟩⟩⟩⟩
  · cases hl
  · cases hl
  · cases hl
  · simp only [DenP,Den] at hd
    obtain ⟨⟨u,rfl,hs,h1⟩,⟨u',rfl,hs',h2⟩,rfl,_⟩:=hd
    obtain ⟨u⟩:=u
    obtain ⟨u'⟩:=u'
    rcases u with _|⟨x,_|⟨y,t⟩⟩
    · cases hs
    · rcases u' with _|⟨x',_|⟨y',_|⟨z',t'⟩⟩⟩
      · cases hs'
      · cases hs'
      · simp only [DenP,Den] at h1 h2
        obtain ⟨rfl,_⟩:=h1
        obtain ⟨rfl,rfl,_⟩:=h2
        rfl
      · simp at hs'
    · simp at hs
  · simp at hl
theorem cellH_ok (p z k:Int) (hb:(0 ≤ p ∧ p ≤ 1000) ∧ (0 ≤ z ∧ z ≤ 1000) ∧ 0 ≤ k ∧ k ≤ 1000):PCall Tryd.prog 19 [.agg [.val (.func (.func 35) #[] #[])],.agg [.int .i64 p,.int .i64 z],.int .i64 k] (fun r=>r=.int .i64 (p + (z - 1 - k))):=by
  intro w B vs hB hG hl hd
  rw [cellArgs hl hd]
  refine (cellHighC w p z k).mono fun e w' ⟨he,hw⟩=>⟨.int .i64 (p + (z - 1 - k)),.int .i64 (p + (z - 1 - k)),rfl,?_,?_,hw⟩
  · rw [he]
    congr 2
    simp only [IntKind.wrap_i64]
    omega
  · simp [Den]
theorem cellL_ok (p z k:Int) (hb:(0 ≤ p ∧ p ≤ 1000) ∧ (0 ≤ z ∧ z ≤ 1000) ∧ 0 ≤ k ∧ k ≤ 1000):PCall Tryd.prog 19 [.agg [.val (.func (.func 36) #[] #[])],.agg [.int .i64 p,.int .i64 z],.int .i64 k] (fun r=>r=.int .i64 (p + k)):=by
  intro w B vs hB hG hl hd
  rw [cellArgs hl hd]
  refine (cellLowC w p z k).mono fun e w' ⟨he,hw⟩=>⟨.int .i64 (p + k),.int .i64 (p + k),rfl,?_,?_,hw⟩
  · rw [he]
    congr 2
    simp only [IntKind.wrap_i64]
    omega
  · simp [Den]

end Go.Proofs.YtgiaepecaokcfaaDoor
set_option linter.unusedSimpArgs false
set_option linter.unusedVariables false
set_option maxRecDepth 4000
set_option maxHeartbeats 4000000
namespace Go.Proofs.YtgiaepecaokcfaaDoor
open VwM Vw Go

theorem order_ok (s:List Int) (n:Nat) (big al:Bool):PCall Tryd.prog 18 [.agg [.rows false (IL s) n,.bool big,.bool al]] (fun r=>r=if big=true then .agg [.val (.func (.func 35) #[] #[])] else .agg [.val (.func (.func 36) #[] #[])]):=by
  refine Ayz l18_eq rfl ?_
  cases big with
  | false => (repeat' (first
 | (first|refine Akz ?_|refine Aez ?_)
 | ((first|refine Alz ?_|refine Adz ?_|refine Afz ?_|refine Agz ?_);simp (disch:=omega) only [push_cast,seval,l18r0,l18r1,l18r2,l18r3,D7z])
 | ((first|refine Aaz ?_ ?_|refine Acz ?_ ?_|refine Abz ?_ ?_)<;>intro h<;>(try simp only [h])<;>(try simp only [bitvec_to_nat] at h)<;>(try simp only [h])<;>(first|(exfalso;omega)|(exfalso;simp_all;done)|(simp (disch:=omega) only [push_cast,seval,D7z])|skip))
 | (refine Aiz ⟨.inr rfl,_,rfl,?_⟩;(try simp (disch:=omega) only [push_cast,seval,D7z]))))
  | true => (repeat' (first
 | (first|refine Akz ?_|refine Aez ?_)
 | ((first|refine Alz ?_|refine Adz ?_|refine Afz ?_|refine Agz ?_);simp (disch:=omega) only [push_cast,seval,l18r0,l18r1,l18r2,l18r3,D7z])
 | ((first|refine Aaz ?_ ?_|refine Acz ?_ ?_|refine Abz ?_ ?_)<;>intro h<;>(try simp only [h])<;>(try simp only [bitvec_to_nat] at h)<;>(try simp only [h])<;>(first|(exfalso;omega)|(exfalso;simp_all;done)|(simp (disch:=omega) only [push_cast,seval,D7z])|skip))
 | (refine Aiz ⟨.inr rfl,_,rfl,?_⟩;(try simp (disch:=omega) only [push_cast,seval,D7z]))))

end Go.Proofs.YtgiaepecaokcfaaDoor
