/- Texts of this verifier. -/
import Derived.Test.YtpicoecbbiiaoaaCB7
import Derived.Test.YtpicoecbbiiaoaaCM1
set_option linter.unusedSimpArgs false
set_option linter.unusedVariables false
set_option maxRecDepth 4000
set_option maxHeartbeats 4000000
namespace Go.Proofs.Ytpicoecbbiiaoaa
open VwM Vw Go

theorem tblAt_ok (e:List Int) (x:Int) (hb:e.length=5 ∧ 0 ≤ x ∧ x ≤ 4):PCall Try.prog 103 [.agg (IL e),.int .i64 x] (fun r=>r=.int .i64 (gE e x)):=by
  obtain ⟨h5,hx⟩:=hb
  obtain ⟨c,rfl⟩:∃ c:Nat,x=c:=⟨x.toNat,by omega⟩
  have hge:gE e (c:Int)=e.getD c 0:=by unfold gE;rw [Int.toNat_natCast]
  refine A0z l103_eq rfl ?_
  (repeat' (first
 | (first|refine Akz ?_|refine Agz ?_)
 | ((first|refine Alz ?_|refine Afz ?_|refine Ahz ?_|refine Aiz ?_);simp (disch:=omega) only [push_cast,seval,l103r0,l103r1,h5,Anz,hge])
 | ((first|refine Abz ?_ ?_|refine Aez ?_ ?_|refine Adz ?_ ?_)<;>intro h<;>(try simp only [h])<;>(try simp only [bitvec_to_nat] at h)<;>(try simp only [h])<;>(first|(exfalso;omega)|(exfalso;simp_all;done)|(simp (disch:=omega) only [push_cast,seval,h5,Anz,hge])|skip))
 | (refine Ajz ⟨.inr rfl,_,rfl,?_⟩;(try simp (disch:=omega) only [push_cast,seval,h5,Anz,hge]))))
theorem Crz (e:List Int) (x:Int) (hb:e.length=5 ∧ 0 ≤ x ∧ x ≤ 4):BCall Try.prog 103 [.agg (IL e),.int .i64 x] [] (fun r H'=>r=.int .i64 (gE e x) ∧ H'=[]):=BCall.ofP (tblAt_ok e x hb)


set_option maxHeartbeats 8000000 in
theorem sopI_ok (xs a b:List Int) (n:Nat) (hn:xs.length=n) (hb:n ≤ 1099511627776 ∧ (a.length=5 ∧ b.length=5) ∧ ∀ x ∈ xs,0 ≤ x ∧ x ≤ 4):PCall Try.prog 102 [.rows false (IL xs) n,.rows false [.clo (.func 103) [.agg (IL a)] [],.clo (.func 103) [.agg (IL b)] []] 2] (fun r=>r=.int .i64 (w64 (sumL (xs.map fun x=>gE a x * gE b x)))):=by
  subst hn
  obtain ⟨hb0,⟨ha5,hb5⟩,hb1⟩:=hb
  refine A0z l102_eq rfl ?_
  (repeat' (first
 | (first|refine Akz ?_|refine Agz ?_)
 | ((first|refine Alz ?_|refine Afz ?_|refine Ahz ?_|refine Aiz ?_);simp (disch:=omega) only [push_cast,seval,l102r0,l102r1,l102r2,l102r3,l102r4,l102r5,l102r6,l102r7,l102r8,l102r9,l102r10,l102r11,l102r12,l102r13])
 | ((first|refine Abz ?_ ?_|refine Aez ?_ ?_|refine Adz ?_ ?_)<;>intro h<;>(try simp only [h])<;>(try simp only [bitvec_to_nat] at h)<;>(try simp only [h])<;>(first|(exfalso;omega)|(exfalso;simp_all;done)|(simp (disch:=omega) only [push_cast,seval])|skip))
 | ((first|(refine A3z (by kernel_rfl) (by (simp (disch:=omega) only [push_cast,seval])<;>rfl) ?_)|(refine Axz (t:=24) (sz:=1) (zs:=[.int .i64 0]) (by kernel_rfl) (by (simp (disch:=omega) only [push_cast,seval])<;>rfl) (by (simp (disch:=omega) only [push_cast,seval])<;>rfl) (by first|assumption|omega|(constructor<;>omega)) (by first|((simp (disch:=omega) only [push_cast,seval]);done)|((simp (disch:=omega) only [push_cast,seval]);exact ⟨rfl,by omega⟩)) ?_)|(refine Axz (t:=0) (sz:=2) (zs:=[.int .i64 0,.int .i64 0]) (by kernel_rfl) (by (simp (disch:=omega) only [push_cast,seval])<;>rfl) (by (simp (disch:=omega) only [push_cast,seval])<;>rfl) (by first|assumption|omega|(constructor<;>omega)) (by first|((simp (disch:=omega) only [push_cast,seval]);done)|((simp (disch:=omega) only [push_cast,seval]);exact ⟨rfl,by omega⟩)) ?_)|(refine A6z (len:=3) (by kernel_rfl) (by (simp (disch:=omega) only [push_cast,seval])<;>rfl) (by (simp (disch:=omega) only [push_cast,seval])<;>rfl) (by first|assumption|omega|(constructor<;>omega)) (by first|rfl|((simp (disch:=omega) only [push_cast,seval]);rfl)) ?_))<;>(try simp (disch:=omega) only [push_cast,seval]))
 | (refine Ajz ⟨.inr rfl,_,rfl,?_⟩;(try simp (disch:=omega) only [push_cast,seval]))))
  refine Ayz (fun k:Nat=>mkS [(1,.rows false [.clo (.func 103) [.agg (IL a)] [],.clo (.func 103) [.agg (IL b)] []] 2),(5,.int .i64 (w64 (sumL ((xs.take k).map fun x=>gE a x * gE b x)))),(11,RI xs),(12,.int .i64 xs.length),(13,.int .i64 k)] []) (fun k=>k ≤ xs.length) (fun k=>xs.length - k) 0 (Nat.zero_le _) ?_ ?_
  · have e0:(0:Int)=w64 (sumL []):=by decide
    (refine Sub.of_lists ?_ ?_ ?_ ?_ ?_<;>simp [Vw.mkS,Vw.lk,Vw.hk,AV.inn,innL,Aqz,Amz,Asz,-List.map_set,-List.getD_eq_getElem?_getD,e0])
  · intro k hk
    by_cases hlt:k < xs.length
    · have hx:=hb1 _ (A9z hlt)
      have hxs:xs[k]?=some (xs.getD k 0):=by simp [List.getD,hlt]
      have hst:=sum_step (fun x=>gE a x * gE b x) xs hxs
      generalize hS:w64 (sumL ((xs.take k).map fun x=>gE a x * gE b x))=S at *
      generalize hX:xs.getD k 0=x at *
      (repeat' (first
 | (first|refine Akz ?_|refine Agz ?_)
 | ((first|refine Alz ?_|refine Afz ?_|refine Ahz ?_|refine Aiz ?_);simp (disch:=omega) only [push_cast,seval,l102r0,l102r1,l102r2,l102r3,l102r4,l102r5,l102r6,l102r7,l102r8,l102r9,l102r10,l102r11,l102r12,l102r13,hX])
 | ((first|refine Abz ?_ ?_|refine Aez ?_ ?_|refine Adz ?_ ?_)<;>intro h<;>(try simp only [h])<;>(try simp only [bitvec_to_nat] at h)<;>(try simp only [h])<;>(first|(exfalso;omega)|(exfalso;simp_all;done)|(simp (disch:=omega) only [push_cast,seval,hX])|skip))
 | ((first|(refine A3z (by kernel_rfl) (by (simp (disch:=omega) only [push_cast,seval,hX])<;>rfl) ?_)|(refine Axz (t:=24) (sz:=1) (zs:=[.int .i64 0]) (by kernel_rfl) (by (simp (disch:=omega) only [push_cast,seval,hX])<;>rfl) (by (simp (disch:=omega) only [push_cast,seval,hX])<;>rfl) (by first|assumption|omega|(constructor<;>omega)) (by first|((simp (disch:=omega) only [push_cast,seval,hX]);done)|((simp (disch:=omega) only [push_cast,seval,hX]);exact ⟨rfl,by omega⟩)) ?_)|(refine Axz (t:=0) (sz:=2) (zs:=[.int .i64 0,.int .i64 0]) (by kernel_rfl) (by (simp (disch:=omega) only [push_cast,seval,hX])<;>rfl) (by (simp (disch:=omega) only [push_cast,seval,hX])<;>rfl) (by first|assumption|omega|(constructor<;>omega)) (by first|((simp (disch:=omega) only [push_cast,seval,hX]);done)|((simp (disch:=omega) only [push_cast,seval,hX]);exact ⟨rfl,by omega⟩)) ?_)|(refine A6z (len:=3) (by kernel_rfl) (by (simp (disch:=omega) only [push_cast,seval,hX])<;>rfl) (by (simp (disch:=omega) only [push_cast,seval,hX])<;>rfl) (by first|assumption|omega|(constructor<;>omega)) (by first|rfl|((simp (disch:=omega) only [push_cast,seval,hX]);rfl)) ?_)|(refine Bmz (f:=103) (by (simp (disch:=omega) only [push_cast,seval,hX])<;>rfl) (by kernel_rfl) ?_))<;>(try simp (disch:=omega) only [push_cast,seval,hX]))
 | ((first|((with_reducible refine callAD_ids (f:=103) [] false ?_);simp (disch:=omega) only [push_cast,seval,hX];(refine Erz (by decide) (Crz _ _ ?_) (by (simp (disch:=omega) only [push_cast,seval,hX])<;>rfl) ?_;(exact sd);rintro _ _ ⟨rfl,rfl⟩)))<;>(try simp (disch:=omega) only [push_cast,seval,hX]))
 | (refine Ajz ⟨.inr rfl,_,rfl,?_⟩;(try simp (disch:=omega) only [push_cast,seval,hX]))))
      have hF:[AV.clo (Fn.func 103) [AV.agg (IL a)] [],AV.clo (Fn.func 103) [AV.agg (IL b)] []]=[AV.clo (Fn.func 103) [AV.agg (IL a)] [],AV.clo (Fn.func 103) [AV.agg (IL b)] []]:=rfl
      refine Ayz (fun j:Nat=>mkS [(1,.rows false [.clo (.func 103) [.agg (IL a)] [],.clo (.func 103) [.agg (IL b)] []] 2),(5,.int .i64 S),(7,.int .i64 x),(8,.int .i64 (w64 (prodL (([gE a x,gE b x]:List Int).take j)))),(11,RI xs),(12,.int .i64 xs.length),(13,.int .i64 k),(17,.rows false [.clo (.func 103) [.agg (IL a)] [],.clo (.func 103) [.agg (IL b)] []] 2),(18,.int .i64 2),(19,.int .i64 j)] []) (fun j=>j ≤ 2) (fun j=>2 - j) 0 (Nat.zero_le _) ?_ ?_
      · have e0:(1:Int)=w64 (prodL []):=by decide
        (refine Sub.of_lists ?_ ?_ ?_ ?_ ?_<;>simp [Vw.mkS,Vw.lk,Vw.hk,AV.inn,innL,Aqz,Amz,Asz,-List.map_set,-List.getD_eq_getElem?_getD,e0])
      · intro j hj
        have q1:a.length=5 ∧ 0 ≤ x ∧ x ≤ 4:=⟨ha5,hx⟩
        have q2:b.length=5 ∧ 0 ≤ x ∧ x ≤ 4:=⟨hb5,hx⟩
        have hj3:j=0 ∨ j=1 ∨ j=2:=by omega
        rcases hj3 with rfl|rfl|rfl
        · have e1:w64 (prodL ([]:List Int))=1:=by decide
          (repeat' (first
 | (first|refine Akz ?_|refine Agz ?_)
 | ((first|refine Alz ?_|refine Afz ?_|refine Ahz ?_|refine Aiz ?_);simp (disch:=omega) only [push_cast,seval,l102r0,l102r1,l102r2,l102r3,l102r4,l102r5,l102r6,l102r7,l102r8,l102r9,l102r10,l102r11,l102r12,l102r13,e1])
 | ((first|refine Abz ?_ ?_|refine Aez ?_ ?_|refine Adz ?_ ?_)<;>intro h<;>(try simp only [h])<;>(try simp only [bitvec_to_nat] at h)<;>(try simp only [h])<;>(first|(exfalso;omega)|(exfalso;simp_all;done)|(simp (disch:=omega) only [push_cast,seval,e1])|skip))
 | ((first|(refine A3z (by kernel_rfl) (by (simp (disch:=omega) only [push_cast,seval,e1])<;>rfl) ?_)|(refine Axz (t:=24) (sz:=1) (zs:=[.int .i64 0]) (by kernel_rfl) (by (simp (disch:=omega) only [push_cast,seval,e1])<;>rfl) (by (simp (disch:=omega) only [push_cast,seval,e1])<;>rfl) (by first|assumption|omega|(constructor<;>omega)) (by first|((simp (disch:=omega) only [push_cast,seval,e1]);done)|((simp (disch:=omega) only [push_cast,seval,e1]);exact ⟨rfl,by omega⟩)) ?_)|(refine Axz (t:=0) (sz:=2) (zs:=[.int .i64 0,.int .i64 0]) (by kernel_rfl) (by (simp (disch:=omega) only [push_cast,seval,e1])<;>rfl) (by (simp (disch:=omega) only [push_cast,seval,e1])<;>rfl) (by first|assumption|omega|(constructor<;>omega)) (by first|((simp (disch:=omega) only [push_cast,seval,e1]);done)|((simp (disch:=omega) only [push_cast,seval,e1]);exact ⟨rfl,by omega⟩)) ?_)|(refine A6z (len:=3) (by kernel_rfl) (by (simp (disch:=omega) only [push_cast,seval,e1])<;>rfl) (by (simp (disch:=omega) only [push_cast,seval,e1])<;>rfl) (by first|assumption|omega|(constructor<;>omega)) (by first|rfl|((simp (disch:=omega) only [push_cast,seval,e1]);rfl)) ?_)|(refine Bmz (f:=103) (by (simp (disch:=omega) only [push_cast,seval,e1])<;>rfl) (by kernel_rfl) ?_))<;>(try simp (disch:=omega) only [push_cast,seval,e1]))
 | ((first|((with_reducible refine callAD_ids (f:=103) [] false ?_);simp (disch:=omega) only [push_cast,seval,e1];(refine Erz (by decide) (Crz _ _ ?_) (by (simp (disch:=omega) only [push_cast,seval,e1])<;>rfl) ?_;(exact sd);rintro _ _ ⟨rfl,rfl⟩)))<;>(try simp (disch:=omega) only [push_cast,seval,e1]))
 | (refine Ajz ⟨.inr rfl,_,rfl,?_⟩; (try simp (disch := omega) only [push_cast,seval,e1]))))
          refine ⟨1,by omega,by omega,?_⟩
          have e2:IntKind.i64.wrap (gE a x)=w64 (prodL [gE a x]):=by simp [prodL]
          (refine Sub.of_lists ?_ ?_ ?_ ?_ ?_<;>simp [Vw.mkS,Vw.lk,Vw.hk,AV.inn,innL,Aqz,Amz,Asz,-List.map_set,-List.getD_eq_getElem?_getD,e2])
        · have e1:w64 (w64 (prodL (([gE a x,gE b x]:List Int).take 1)) * gE b x)=w64 (prodL [gE a x,gE b x]):=by rw [w64_mull];simp [prodL,Int.mul_assoc]
          generalize hP:w64 (prodL (([gE a x,gE b x]:List Int).take 1))=P at *
          (repeat' (first
 | (first|refine Akz ?_|refine Agz ?_)
 | ((first|refine Alz ?_|refine Afz ?_|refine Ahz ?_|refine Aiz ?_);simp (disch:=omega) only [push_cast,seval,l102r0,l102r1,l102r2,l102r3,l102r4,l102r5,l102r6,l102r7,l102r8,l102r9,l102r10,l102r11,l102r12,l102r13])
 | ((first|refine Abz ?_ ?_|refine Aez ?_ ?_|refine Adz ?_ ?_)<;>intro h<;>(try simp only [h])<;>(try simp only [bitvec_to_nat] at h)<;>(try simp only [h])<;>(first|(exfalso;omega)|(exfalso;simp_all;done)|(simp (disch:=omega) only [push_cast,seval])|skip))
 | ((first|(refine A3z (by kernel_rfl) (by (simp (disch:=omega) only [push_cast,seval])<;>rfl) ?_)|(refine Axz (t:=24) (sz:=1) (zs:=[.int .i64 0]) (by kernel_rfl) (by (simp (disch:=omega) only [push_cast,seval])<;>rfl) (by (simp (disch:=omega) only [push_cast,seval])<;>rfl) (by first|assumption|omega|(constructor<;>omega)) (by first|((simp (disch:=omega) only [push_cast,seval]);done)|((simp (disch:=omega) only [push_cast,seval]);exact ⟨rfl,by omega⟩)) ?_)|(refine Axz (t:=0) (sz:=2) (zs:=[.int .i64 0,.int .i64 0]) (by kernel_rfl) (by (simp (disch:=omega) only [push_cast,seval])<;>rfl) (by (simp (disch:=omega) only [push_cast,seval])<;>rfl) (by first|assumption|omega|(constructor<;>omega)) (by first|((simp (disch:=omega) only [push_cast,seval]);done)|((simp (disch:=omega) only [push_cast,seval]);exact ⟨rfl,by omega⟩)) ?_)|(refine A6z (len:=3) (by kernel_rfl) (by (simp (disch:=omega) only [push_cast,seval])<;>rfl) (by (simp (disch:=omega) only [push_cast,seval])<;>rfl) (by first|assumption|omega|(constructor<;>omega)) (by first|rfl|((simp (disch:=omega) only [push_cast,seval]);rfl)) ?_)|(refine Bmz (f:=103) (by (simp (disch:=omega) only [push_cast,seval])<;>rfl) (by kernel_rfl) ?_))<;>(try simp (disch:=omega) only [push_cast,seval]))
 | ((first|((with_reducible refine callAD_ids (f:=103) [] false ?_);simp (disch:=omega) only [push_cast,seval];(refine Erz (by decide) (Crz _ _ ?_) (by (simp (disch:=omega) only [push_cast,seval])<;>rfl) ?_;(exact sd);rintro _ _ ⟨rfl,rfl⟩)))<;>(try simp (disch:=omega) only [push_cast,seval]))
 | (refine Ajz ⟨.inr rfl,_,rfl,?_⟩; (try simp (disch := omega) only [push_cast,seval]))))
          refine ⟨2,by omega,by omega,?_⟩
          (refine Sub.of_lists ?_ ?_ ?_ ?_ ?_<;>simp [Vw.mkS,Vw.lk,Vw.hk,AV.inn,innL,Aqz,Amz,Asz,-List.map_set,-List.getD_eq_getElem?_getD,e1])
        · have e1:w64 (S + w64 (prodL (([gE a x,gE b x]:List Int).take 2)))=w64 (sumL ((xs.take (k + 1)).map fun x=>gE a x * gE b x)):=by rw [← hst];simp [prodL,Itz]
          generalize hP:w64 (prodL (([gE a x,gE b x]:List Int).take 2))=P at *
          (repeat' (first
 | (first|refine Akz ?_|refine Agz ?_)
 | ((first|refine Alz ?_|refine Afz ?_|refine Ahz ?_|refine Aiz ?_);simp (disch:=omega) only [push_cast,seval,l102r0,l102r1,l102r2,l102r3,l102r4,l102r5,l102r6,l102r7,l102r8,l102r9,l102r10,l102r11,l102r12,l102r13])
 | ((first|refine Abz ?_ ?_|refine Aez ?_ ?_|refine Adz ?_ ?_)<;>intro h<;>(try simp only [h])<;>(try simp only [bitvec_to_nat] at h)<;>(try simp only [h])<;>(first|(exfalso;omega)|(exfalso;simp_all;done)|(simp (disch:=omega) only [push_cast,seval])|skip))
 | ((first|(refine A3z (by kernel_rfl) (by (simp (disch:=omega) only [push_cast,seval])<;>rfl) ?_)|(refine Axz (t:=24) (sz:=1) (zs:=[.int .i64 0]) (by kernel_rfl) (by (simp (disch:=omega) only [push_cast,seval])<;>rfl) (by (simp (disch:=omega) only [push_cast,seval])<;>rfl) (by first|assumption|omega|(constructor<;>omega)) (by first|((simp (disch:=omega) only [push_cast,seval]);done)|((simp (disch:=omega) only [push_cast,seval]);exact ⟨rfl,by omega⟩)) ?_)|(refine Axz (t:=0) (sz:=2) (zs:=[.int .i64 0,.int .i64 0]) (by kernel_rfl) (by (simp (disch:=omega) only [push_cast,seval])<;>rfl) (by (simp (disch:=omega) only [push_cast,seval])<;>rfl) (by first|assumption|omega|(constructor<;>omega)) (by first|((simp (disch:=omega) only [push_cast,seval]);done)|((simp (disch:=omega) only [push_cast,seval]);exact ⟨rfl,by omega⟩)) ?_)|(refine A6z (len:=3) (by kernel_rfl) (by (simp (disch:=omega) only [push_cast,seval])<;>rfl) (by (simp (disch:=omega) only [push_cast,seval])<;>rfl) (by first|assumption|omega|(constructor<;>omega)) (by first|rfl|((simp (disch:=omega) only [push_cast,seval]);rfl)) ?_)|(refine Bmz (f:=103) (by (simp (disch:=omega) only [push_cast,seval])<;>rfl) (by kernel_rfl) ?_))<;>(try simp (disch:=omega) only [push_cast,seval]))
 | ((first|((with_reducible refine callAD_ids (f:=103) [] false ?_);simp (disch:=omega) only [push_cast,seval];(refine Erz (by decide) (Crz _ _ ?_) (by (simp (disch:=omega) only [push_cast,seval])<;>rfl) ?_;(exact sd);rintro _ _ ⟨rfl,rfl⟩)))<;>(try simp (disch:=omega) only [push_cast,seval]))
 | (refine Ajz ⟨.inr rfl,_,rfl,?_⟩; (try simp (disch := omega) only [push_cast,seval]))))
          refine ⟨k + 1,by omega,by omega,?_⟩
          (refine Sub.of_lists ?_ ?_ ?_ ?_ ?_<;>simp [Vw.mkS,Vw.lk,Vw.hk,AV.inn,innL,Aqz,Amz,Asz,-List.map_set,-List.getD_eq_getElem?_getD,e1])
    · have e:k=xs.length:=by omega
      subst e
      (repeat' (first
 | (first|refine Akz ?_|refine Agz ?_)
 | ((first|refine Alz ?_|refine Afz ?_|refine Ahz ?_|refine Aiz ?_);simp (disch:=omega) only [push_cast,seval,l102r0,l102r1,l102r2,l102r3,l102r4,l102r5,l102r6,l102r7,l102r8,l102r9,l102r10,l102r11,l102r12,l102r13])
 | ((first|refine Abz ?_ ?_|refine Aez ?_ ?_|refine Adz ?_ ?_)<;>intro h<;>(try simp only [h])<;>(try simp only [bitvec_to_nat] at h)<;>(try simp only [h])<;>(first|(exfalso;omega)|(exfalso;simp_all;done)|(simp (disch:=omega) only [push_cast,seval])|skip))
 | ((first|(refine A3z (by kernel_rfl) (by (simp (disch:=omega) only [push_cast,seval])<;>rfl) ?_)|(refine Axz (t:=24) (sz:=1) (zs:=[.int .i64 0]) (by kernel_rfl) (by (simp (disch:=omega) only [push_cast,seval])<;>rfl) (by (simp (disch:=omega) only [push_cast,seval])<;>rfl) (by first|assumption|omega|(constructor<;>omega)) (by first|((simp (disch:=omega) only [push_cast,seval]);done)|((simp (disch:=omega) only [push_cast,seval]);exact ⟨rfl,by omega⟩)) ?_)|(refine Axz (t:=0) (sz:=2) (zs:=[.int .i64 0,.int .i64 0]) (by kernel_rfl) (by (simp (disch:=omega) only [push_cast,seval])<;>rfl) (by (simp (disch:=omega) only [push_cast,seval])<;>rfl) (by first|assumption|omega|(constructor<;>omega)) (by first|((simp (disch:=omega) only [push_cast,seval]);done)|((simp (disch:=omega) only [push_cast,seval]);exact ⟨rfl,by omega⟩)) ?_)|(refine A6z (len:=3) (by kernel_rfl) (by (simp (disch:=omega) only [push_cast,seval])<;>rfl) (by (simp (disch:=omega) only [push_cast,seval])<;>rfl) (by first|assumption|omega|(constructor<;>omega)) (by first|rfl|((simp (disch:=omega) only [push_cast,seval]);rfl)) ?_))<;>(try simp (disch:=omega) only [push_cast,seval]))
 | (refine Ajz ⟨.inr rfl,_,rfl,?_⟩;(try simp (disch:=omega) only [push_cast,seval]))))
      simp


set_option maxHeartbeats 8000000 in
theorem factAt_ok (f:Fc) (w:List Int) (n m:Nat) (hb:(f.1.length=n ∧ f.2.1.length=m ∧ n ≤ 1099511627776 ∧ m ≤ 1099511627776) ∧ (f.2.2.length=5 ∧ w.length=5) ∧ (∀ x ∈ f.2.1,0 ≤ x ∧ x ≤ 4) ∧ 0 ≤ sumL (f.2.1.map fun x=>gE w x * gE f.2.2 x) ∧ sumL (f.2.1.map fun x=>gE w x * gE f.2.2 x) < f.1.length) :
    PCall Try.prog 88 [.agg (.rows false (IL f.1) n :: .rows false (IL f.2.1) m :: IL f.2.2),.agg (IL w)] (fun r=>r=.int .i64 (f.1.getD (sumL (f.2.1.map fun x=>gE w x * gE f.2.2 x)).toNat 0)):=by
  obtain ⟨vals,lab,st⟩:=f
  simp only at hb ⊢
  obtain ⟨⟨rfl,rfl,hb0,hb1⟩,⟨h5,hw5⟩,hb2,hb3,hb4⟩:=hb
  obtain ⟨i,hi⟩:∃ i:Nat,sumL (lab.map fun x=>gE w x * gE st x)=i:=⟨(sumL (lab.map fun x=>gE w x * gE st x)).toNat,by omega⟩
  have q1:lab.length ≤ 1099511627776 ∧ (w.length=5 ∧ st.length=5) ∧ ∀ x ∈ lab,0 ≤ x ∧ x ≤ 4:=⟨hb1,⟨hw5,h5⟩,hb2⟩
  rw [hi] at hb3 hb4 ⊢
  rw [Int.toNat_natCast]
  have hwi:w64 (i:Int)=i:=w64_id (by omega)
  have hii:i < vals.length:=by omega
  refine A0z l88_eq rfl ?_
  (repeat' (first
 | (first|refine Akz ?_|refine Agz ?_)
 | ((first|refine Alz ?_|refine Hwz (mid:=l88r1a) (post:=l88r1b) [] Azz (by decide) ?_|refine Afz ?_|refine Ahz ?_|refine Aiz ?_);simp (disch:=omega) only [push_cast,seval,l88r0,l88r1a,l88r1b,l88r1,h5,hw5,Anz,Auz,hi,hwi])
 | ((first|refine Abz ?_ ?_|refine Aez ?_ ?_|refine Adz ?_ ?_)<;>intro h<;>(try simp only [h])<;>(try simp only [bitvec_to_nat] at h)<;>(try simp only [h])<;>(first|(exfalso;omega)|(exfalso;simp_all;done)|(simp (disch:=omega) only [push_cast,seval,h5,hw5,Anz,Auz,hi,hwi])|skip))
 | ((first|refine Aoz false ?_|refine qcallD_of false ?_);simp (disch:=omega) only [push_cast,seval,h5,hw5,Anz,Auz,hi,hwi])
 | ((first|((first|refine call0D (BCall.ofP (sopI_ok _ _ _ _ ?_ ?_)) ?_|refine qcall0D (BCall.ofP (sopI_ok _ _ _ _ ?_ ?_)) ⟨_,_,rfl,rfl⟩ ?_);(iterate 2 (exact sd));rintro _ _ ⟨rfl,rfl⟩))<;>(try simp (disch:=omega) only [push_cast,seval,h5,hw5,Anz,Auz,hi,hwi]))
 | (refine Ajz ⟨.inr rfl,_,rfl,?_⟩;(try simp (disch:=omega) only [push_cast,seval,h5,hw5,Anz,Auz,hi,hwi]))))
theorem F3z (f:Fc) (w:List Int) (n m:Nat) (hb:(f.1.length=n ∧ f.2.1.length=m ∧ n ≤ 1099511627776 ∧ m ≤ 1099511627776) ∧ (f.2.2.length=5 ∧ w.length=5) ∧ (∀ x ∈ f.2.1,0 ≤ x ∧ x ≤ 4) ∧ 0 ≤ sumL (f.2.1.map fun x=>gE w x * gE f.2.2 x) ∧ sumL (f.2.1.map fun x=>gE w x * gE f.2.2 x) < f.1.length) :
    BCall Try.prog 88 [.agg (.rows false (IL f.1) n :: .rows false (IL f.2.1) m :: IL f.2.2),.agg (IL w)] [] (fun r H'=>r=.int .i64 (f.1.getD (sumL (f.2.1.map fun x=>gE w x * gE f.2.2 x)).toNat 0) ∧ H'=[]):=BCall.ofP (factAt_ok f w n m hb)


set_option maxHeartbeats 8000000 in
theorem sopW_ok (ws:List (List Int)) (fs:List Fc) (n m:Nat) (hn:ws.length=n) (hm:fs.length=m) (hb:(n ≤ 1099511627776 ∧ m ≤ 1099511627776) ∧ (∀ w ∈ ws,w.length=5) ∧ ∀ w ∈ ws,∀ f ∈ fs,fcOk f w):PCall Try.prog 90 [.rows false (IL ws.flatten) n,.rows false (FC 88 false false fs) m] (fun r=>r=.int .i64 (w64 (sumL (ws.map fun w=>prodL (fs.map fun f=>fcV f w))))):=by
  subst hn hm
  obtain ⟨⟨hb0,hb1⟩,hw,hf⟩:=hb
  have hwl:=flat5_len hw
  have hdr:∀ k w,ws[k]?=some w → ((IL ws.flatten).drop (k * 5)).take 5=IL w:=fun k w h=>F1z hw h
  refine A0z l90_eq rfl ?_
  generalize ws.flatten=W at *
  (repeat' (first
 | (first|refine Akz ?_|refine Agz ?_)
 | ((first|refine Alz ?_|refine Afz ?_|refine Ahz ?_|refine Aiz ?_);simp (disch:=omega) only [push_cast,seval,l90r0,l90r1,l90r2,l90r3,l90r4,l90r5,l90r6,l90r7,l90r8,l90r9,l90r10,l90r11,l90r12,l90r13])
 | ((first|refine Abz ?_ ?_|refine Aez ?_ ?_|refine Adz ?_ ?_)<;>intro h<;>(try simp only [h])<;>(try simp only [bitvec_to_nat] at h)<;>(try simp only [h])<;>(first|(exfalso;omega)|(exfalso;simp_all;done)|(simp (disch:=omega) only [push_cast,seval])|skip))
 | ((first|(refine A3z (by kernel_rfl) (by (simp (disch:=omega) only [push_cast,seval])<;>rfl) ?_)|(refine Axz (t:=24) (sz:=1) (zs:=[.int .i64 0]) (by kernel_rfl) (by (simp (disch:=omega) only [push_cast,seval])<;>rfl) (by (simp (disch:=omega) only [push_cast,seval])<;>rfl) (by first|assumption|omega|(constructor<;>omega)) (by first|((simp (disch:=omega) only [push_cast,seval]);done)|((simp (disch:=omega) only [push_cast,seval]);exact ⟨rfl,by omega⟩)) ?_)|(refine Axz (t:=0) (sz:=2) (zs:=[.int .i64 0,.int .i64 0]) (by kernel_rfl) (by (simp (disch:=omega) only [push_cast,seval])<;>rfl) (by (simp (disch:=omega) only [push_cast,seval])<;>rfl) (by first|assumption|omega|(constructor<;>omega)) (by first|((simp (disch:=omega) only [push_cast,seval]);done)|((simp (disch:=omega) only [push_cast,seval]);exact ⟨rfl,by omega⟩)) ?_)|(refine A6z (len:=3) (by kernel_rfl) (by (simp (disch:=omega) only [push_cast,seval])<;>rfl) (by (simp (disch:=omega) only [push_cast,seval])<;>rfl) (by first|assumption|omega|(constructor<;>omega)) (by first|rfl|((simp (disch:=omega) only [push_cast,seval]);rfl)) ?_))<;>(try simp (disch:=omega) only [push_cast,seval]))
 | (refine Ajz ⟨.inr rfl,_,rfl,?_⟩;(try simp (disch:=omega) only [push_cast,seval]))))
  refine Ayz (fun k:Nat=>mkS [(1,.rows false (FC 88 false false fs) fs.length),(5,.int .i64 (w64 (sumL ((ws.take k).map fun w=>prodL (fs.map fun f=>fcV f w))))),(11,.rows false (IL W) ws.length),(12,.int .i64 ws.length),(13,.int .i64 k)] []) (fun k=>k ≤ ws.length) (fun k=>ws.length - k) 0 (Nat.zero_le _) ?_ ?_
  · have e0:(0:Int)=w64 (sumL []):=by decide
    (refine Sub.of_lists ?_ ?_ ?_ ?_ ?_<;>simp [Vw.mkS,Vw.lk,Vw.hk,AV.inn,innL,Aqz,Amz,Asz,-List.map_set,-List.getD_eq_getElem?_getD,e0,Eyz])
  · intro k hk
    by_cases hlt:k < ws.length
    · obtain ⟨w,hwk⟩:=Cbz hlt
      have hwm:=List.mem_of_getElem? hwk
      have hw5:=hw w hwm
      have hd:=hdr k w hwk
      have hst:=sum_step (fun w=>prodL (fs.map fun f=>fcV f w)) ws hwk
      generalize hS:w64 (sumL ((ws.take k).map fun w=>prodL (fs.map fun f=>fcV f w)))=S at *
      (repeat' (first
 | (first|refine Akz ?_|refine Agz ?_)
 | ((first|refine Alz ?_|refine Afz ?_|refine Ahz ?_|refine Aiz ?_);simp (disch:=omega) only [push_cast,seval,l90r0,l90r1,l90r2,l90r3,l90r4,l90r5,l90r6,l90r7,l90r8,l90r9,l90r10,l90r11,l90r12,l90r13,hd,hwl,Anz,hw5,Auz])
 | ((first|refine Abz ?_ ?_|refine Aez ?_ ?_|refine Adz ?_ ?_)<;>intro h<;>(try simp only [h])<;>(try simp only [bitvec_to_nat] at h)<;>(try simp only [h])<;>(first|(exfalso;omega)|(exfalso;simp_all;done)|(simp (disch:=omega) only [push_cast,seval,hd,hwl,Anz,hw5,Auz])|skip))
 | ((first|(refine A3z (by kernel_rfl) (by (simp (disch:=omega) only [push_cast,seval,hd,hwl,Anz,hw5,Auz])<;>rfl) ?_)|(refine Axz (t:=24) (sz:=1) (zs:=[.int .i64 0]) (by kernel_rfl) (by (simp (disch:=omega) only [push_cast,seval,hd,hwl,Anz,hw5,Auz])<;>rfl) (by (simp (disch:=omega) only [push_cast,seval,hd,hwl,Anz,hw5,Auz])<;>rfl) (by first|assumption|omega|(constructor<;>omega)) (by first|((simp (disch:=omega) only [push_cast,seval,hd,hwl,Anz,hw5,Auz]);done)|((simp (disch:=omega) only [push_cast,seval,hd,hwl,Anz,hw5,Auz]);exact ⟨rfl,by omega⟩)) ?_)|(refine Axz (t:=0) (sz:=2) (zs:=[.int .i64 0,.int .i64 0]) (by kernel_rfl) (by (simp (disch:=omega) only [push_cast,seval,hd,hwl,Anz,hw5,Auz])<;>rfl) (by (simp (disch:=omega) only [push_cast,seval,hd,hwl,Anz,hw5,Auz])<;>rfl) (by first|assumption|omega|(constructor<;>omega)) (by first|((simp (disch:=omega) only [push_cast,seval,hd,hwl,Anz,hw5,Auz]);done)|((simp (disch:=omega) only [push_cast,seval,hd,hwl,Anz,hw5,Auz]);exact ⟨rfl,by omega⟩)) ?_)|(refine A6z (len:=3) (by kernel_rfl) (by (simp (disch:=omega) only [push_cast,seval,hd,hwl,Anz,hw5,Auz])<;>rfl) (by (simp (disch:=omega) only [push_cast,seval,hd,hwl,Anz,hw5,Auz])<;>rfl) (by first|assumption|omega|(constructor<;>omega)) (by first|rfl|((simp (disch:=omega) only [push_cast,seval,hd,hwl,Anz,hw5,Auz]);rfl)) ?_)|(refine Bmz (f:=88) (by (simp (disch:=omega) only [push_cast,seval,hd,hwl,Anz,hw5,Auz])<;>rfl) (by kernel_rfl) ?_)|(refine Bmz (f:=103) (by (simp (disch:=omega) only [push_cast,seval,hd,hwl,Anz,hw5,Auz])<;>rfl) (by kernel_rfl) ?_))<;>(try simp (disch:=omega) only [push_cast,seval,hd,hwl,Anz,hw5,Auz]))
 | ((first|((with_reducible refine callAD_ids (f:=88) [] false ?_);simp (disch:=omega) only [push_cast,seval,hd,hwl,Anz,hw5,Auz];(refine Erz (by decide) (F3z _ _ _ _ ?_) (by (simp (disch:=omega) only [push_cast,seval,hd,hwl,Anz,hw5,Auz])<;>rfl) ?_;(exact sd);rintro _ _ ⟨rfl,rfl⟩))|((with_reducible refine callAD_ids (f:=103) [] false ?_);simp (disch:=omega) only [push_cast,seval,hd,hwl,Anz,hw5,Auz];(refine Erz (by decide) (Crz _ _ ?_) (by (simp (disch:=omega) only [push_cast,seval,hd,hwl,Anz,hw5,Auz])<;>rfl) ?_;(exact sd);rintro _ _ ⟨rfl,rfl⟩)))<;>(try simp (disch:=omega) only [push_cast,seval,hd,hwl,Anz,hw5,Auz]))
 | (refine Ajz ⟨.inr rfl,_,rfl,?_⟩;(try simp (disch:=omega) only [push_cast,seval,hd,hwl,Anz,hw5,Auz]))))
      refine Ayz (fun j:Nat=>mkS [(1,.rows false (FC 88 false false fs) fs.length),(5,.int .i64 S),(7,.ref 112 5 0),(8,.int .i64 (w64 (prodL ((fs.take j).map fun f=>fcV f w)))),(11,.rows false (IL W) ws.length),(12,.int .i64 ws.length),(13,.int .i64 k),(17,.rows false (FC 88 false false fs) fs.length),(18,.int .i64 fs.length),(19,.int .i64 j)] [(112,IL w)]) (fun j=>j ≤ fs.length) (fun j=>fs.length - j) 0 (Nat.zero_le _) ?_ ?_
      · have e0:(1:Int)=w64 (prodL []):=by decide
        have e5:=fun a b c d f=>set5I hw5 a b c d f
        (refine Sub.of_lists ?_ ?_ ?_ ?_ ?_<;>simp [Vw.mkS,Vw.lk,Vw.hk,AV.inn,innL,Aqz,Amz,Asz,-List.map_set,-List.getD_eq_getElem?_getD,e0,e5,Eyz])
      · intro j hj
        by_cases hjl:j < fs.length
        · obtain ⟨f,hfj⟩:=Cbz hjl
          have hfo:=hf w hwm f (List.mem_of_getElem? hfj)
          have hfd:=FC_drop 88 false false fs j hfj
          have q1:(f.1.length=f.1.length ∧ f.2.1.length=f.2.1.length ∧ f.1.length ≤ 1099511627776 ∧ f.2.1.length ≤ 1099511627776) ∧ (f.2.2.length=5 ∧ w.length=5) ∧ (∀ x ∈ f.2.1,0 ≤ x ∧ x ≤ 4) ∧ 0 ≤ sumL (f.2.1.map fun x=>gE w x * gE f.2.2 x) ∧ sumL (f.2.1.map fun x=>gE w x * gE f.2.2 x) < f.1.length:=⟨⟨rfl,rfl,hfo.1⟩,⟨hfo.2.1,hw5⟩,hfo.2.2⟩
          have hpr:=prod_step (fun f=>fcV f w) fs hfj
          rw [show fcV f w=f.1.getD (sumL (f.2.1.map fun x=>gE w x * gE f.2.2 x)).toNat 0 from rfl] at hpr
          generalize hP:w64 (prodL ((fs.take j).map fun f=>fcV f w))=P at *
          rw [List.map_take] at hpr
          (repeat' (first
 | (first|refine Akz ?_|refine Agz ?_)
 | ((first|refine Alz ?_|refine Afz ?_|refine Ahz ?_|refine Aiz ?_);simp (disch:=omega) only [push_cast,seval,l90r0,l90r1,l90r2,l90r3,l90r4,l90r5,l90r6,l90r7,l90r8,l90r9,l90r10,l90r11,l90r12,l90r13,hfd,hw5,Auz,Anz])
 | ((first|refine Abz ?_ ?_|refine Aez ?_ ?_|refine Adz ?_ ?_)<;>intro h<;>(try simp only [h])<;>(try simp only [bitvec_to_nat] at h)<;>(try simp only [h])<;>(first|(exfalso;omega)|(exfalso;simp_all;done)|(simp (disch:=omega) only [push_cast,seval,hfd,hw5,Auz,Anz])|skip))
 | ((first|(refine A3z (by kernel_rfl) (by (simp (disch:=omega) only [push_cast,seval,hfd,hw5,Auz,Anz])<;>rfl) ?_)|(refine Axz (t:=24) (sz:=1) (zs:=[.int .i64 0]) (by kernel_rfl) (by (simp (disch:=omega) only [push_cast,seval,hfd,hw5,Auz,Anz])<;>rfl) (by (simp (disch:=omega) only [push_cast,seval,hfd,hw5,Auz,Anz])<;>rfl) (by first|assumption|omega|(constructor<;>omega)) (by first|((simp (disch:=omega) only [push_cast,seval,hfd,hw5,Auz,Anz]);done)|((simp (disch:=omega) only [push_cast,seval,hfd,hw5,Auz,Anz]);exact ⟨rfl,by omega⟩)) ?_)|(refine Axz (t:=0) (sz:=2) (zs:=[.int .i64 0,.int .i64 0]) (by kernel_rfl) (by (simp (disch:=omega) only [push_cast,seval,hfd,hw5,Auz,Anz])<;>rfl) (by (simp (disch:=omega) only [push_cast,seval,hfd,hw5,Auz,Anz])<;>rfl) (by first|assumption|omega|(constructor<;>omega)) (by first|((simp (disch:=omega) only [push_cast,seval,hfd,hw5,Auz,Anz]);done)|((simp (disch:=omega) only [push_cast,seval,hfd,hw5,Auz,Anz]);exact ⟨rfl,by omega⟩)) ?_)|(refine A6z (len:=3) (by kernel_rfl) (by (simp (disch:=omega) only [push_cast,seval,hfd,hw5,Auz,Anz])<;>rfl) (by (simp (disch:=omega) only [push_cast,seval,hfd,hw5,Auz,Anz])<;>rfl) (by first|assumption|omega|(constructor<;>omega)) (by first|rfl|((simp (disch:=omega) only [push_cast,seval,hfd,hw5,Auz,Anz]);rfl)) ?_)|(refine Bmz (f:=88) (by (simp (disch:=omega) only [push_cast,seval,hfd,hw5,Auz,Anz])<;>rfl) (by kernel_rfl) ?_)|(refine Bmz (f:=103) (by (simp (disch:=omega) only [push_cast,seval,hfd,hw5,Auz,Anz])<;>rfl) (by kernel_rfl) ?_))<;>(try simp (disch:=omega) only [push_cast,seval,hfd,hw5,Auz,Anz]))
 | ((first|((with_reducible refine callAD_ids (f:=88) [] false ?_);simp (disch:=omega) only [push_cast,seval,hfd,hw5,Auz,Anz];(refine Erz (by decide) (F3z _ _ _ _ ?_) (by (simp (disch:=omega) only [push_cast,seval,hfd,hw5,Auz,Anz])<;>rfl) ?_;(exact sd);rintro _ _ ⟨rfl,rfl⟩))|((with_reducible refine callAD_ids (f:=103) [] false ?_);simp (disch:=omega) only [push_cast,seval,hfd,hw5,Auz,Anz];(refine Erz (by decide) (Crz _ _ ?_) (by (simp (disch:=omega) only [push_cast,seval,hfd,hw5,Auz,Anz])<;>rfl) ?_;(exact sd);rintro _ _ ⟨rfl,rfl⟩)))<;>(try simp (disch:=omega) only [push_cast,seval,hfd,hw5,Auz,Anz]))
 | (refine Ajz ⟨.inr rfl,_,rfl,?_⟩; (try simp (disch := omega) only [push_cast,seval,hfd,hw5,Auz,Anz]))))
          refine ⟨j + 1,by omega,by omega,?_⟩
          (refine Sub.of_lists ?_ ?_ ?_ ?_ ?_<;>simp [Vw.mkS,Vw.lk,Vw.hk,AV.inn,innL,Aqz,Amz,Asz,-List.map_set,-List.getD_eq_getElem?_getD,hpr,Eyz])
        · have ej:j=fs.length:=by omega
          rw [ej,List.take_length]
          have hst2:w64 (S + w64 (prodL (fs.map fun f=>fcV f w)))=w64 (sumL ((ws.take (k + 1)).map fun w=>prodL (fs.map fun f=>fcV f w))):=hst
          generalize hP:w64 (prodL (fs.map fun f=>fcV f w))=P at *
          (repeat' (first
 | (first|refine Akz ?_|refine Agz ?_)
 | ((first|refine Alz ?_|refine Afz ?_|refine Ahz ?_|refine Aiz ?_);simp (disch:=omega) only [push_cast,seval,l90r0,l90r1,l90r2,l90r3,l90r4,l90r5,l90r6,l90r7,l90r8,l90r9,l90r10,l90r11,l90r12,l90r13])
 | ((first|refine Abz ?_ ?_|refine Aez ?_ ?_|refine Adz ?_ ?_)<;>intro h<;>(try simp only [h])<;>(try simp only [bitvec_to_nat] at h)<;>(try simp only [h])<;>(first|(exfalso;omega)|(exfalso;simp_all;done)|(simp (disch:=omega) only [push_cast,seval])|skip))
 | ((first|(refine A3z (by kernel_rfl) (by (simp (disch:=omega) only [push_cast,seval])<;>rfl) ?_)|(refine Axz (t:=24) (sz:=1) (zs:=[.int .i64 0]) (by kernel_rfl) (by (simp (disch:=omega) only [push_cast,seval])<;>rfl) (by (simp (disch:=omega) only [push_cast,seval])<;>rfl) (by first|assumption|omega|(constructor<;>omega)) (by first|((simp (disch:=omega) only [push_cast,seval]);done)|((simp (disch:=omega) only [push_cast,seval]);exact ⟨rfl,by omega⟩)) ?_)|(refine Axz (t:=0) (sz:=2) (zs:=[.int .i64 0,.int .i64 0]) (by kernel_rfl) (by (simp (disch:=omega) only [push_cast,seval])<;>rfl) (by (simp (disch:=omega) only [push_cast,seval])<;>rfl) (by first|assumption|omega|(constructor<;>omega)) (by first|((simp (disch:=omega) only [push_cast,seval]);done)|((simp (disch:=omega) only [push_cast,seval]);exact ⟨rfl,by omega⟩)) ?_)|(refine A6z (len:=3) (by kernel_rfl) (by (simp (disch:=omega) only [push_cast,seval])<;>rfl) (by (simp (disch:=omega) only [push_cast,seval])<;>rfl) (by first|assumption|omega|(constructor<;>omega)) (by first|rfl|((simp (disch:=omega) only [push_cast,seval]);rfl)) ?_)|(refine Bmz (f:=88) (by (simp (disch:=omega) only [push_cast,seval])<;>rfl) (by kernel_rfl) ?_)|(refine Bmz (f:=103) (by (simp (disch:=omega) only [push_cast,seval])<;>rfl) (by kernel_rfl) ?_))<;>(try simp (disch:=omega) only [push_cast,seval]))
 | ((first|((with_reducible refine callAD_ids (f:=88) [] false ?_);simp (disch:=omega) only [push_cast,seval];(refine Erz (by decide) (F3z _ _ _ _ ?_) (by (simp (disch:=omega) only [push_cast,seval])<;>rfl) ?_;(exact sd);rintro _ _ ⟨rfl,rfl⟩))|((with_reducible refine callAD_ids (f:=103) [] false ?_);simp (disch:=omega) only [push_cast,seval];(refine Erz (by decide) (Crz _ _ ?_) (by (simp (disch:=omega) only [push_cast,seval])<;>rfl) ?_;(exact sd);rintro _ _ ⟨rfl,rfl⟩)))<;>(try simp (disch:=omega) only [push_cast,seval]))
 | (refine Ajz ⟨.inr rfl,_,rfl,?_⟩; (try simp (disch := omega) only [push_cast,seval]))))
          refine ⟨k + 1,by omega,by omega,?_⟩
          (refine Sub.of_lists ?_ ?_ ?_ ?_ ?_<;>simp [Vw.mkS,Vw.lk,Vw.hk,AV.inn,innL,Aqz,Amz,Asz,-List.map_set,-List.getD_eq_getElem?_getD,hst2,Eyz])
    · have e:k=ws.length:=by omega
      subst e
      (repeat' (first
 | (first|refine Akz ?_|refine Agz ?_)
 | ((first|refine Alz ?_|refine Afz ?_|refine Ahz ?_|refine Aiz ?_);simp (disch:=omega) only [push_cast,seval,l90r0,l90r1,l90r2,l90r3,l90r4,l90r5,l90r6,l90r7,l90r8,l90r9,l90r10,l90r11,l90r12,l90r13])
 | ((first|refine Abz ?_ ?_|refine Aez ?_ ?_|refine Adz ?_ ?_)<;>intro h<;>(try simp only [h])<;>(try simp only [bitvec_to_nat] at h)<;>(try simp only [h])<;>(first|(exfalso;omega)|(exfalso;simp_all;done)|(simp (disch:=omega) only [push_cast,seval])|skip))
 | ((first|(refine A3z (by kernel_rfl) (by (simp (disch:=omega) only [push_cast,seval])<;>rfl) ?_)|(refine Axz (t:=24) (sz:=1) (zs:=[.int .i64 0]) (by kernel_rfl) (by (simp (disch:=omega) only [push_cast,seval])<;>rfl) (by (simp (disch:=omega) only [push_cast,seval])<;>rfl) (by first|assumption|omega|(constructor<;>omega)) (by first|((simp (disch:=omega) only [push_cast,seval]);done)|((simp (disch:=omega) only [push_cast,seval]);exact ⟨rfl,by omega⟩)) ?_)|(refine Axz (t:=0) (sz:=2) (zs:=[.int .i64 0,.int .i64 0]) (by kernel_rfl) (by (simp (disch:=omega) only [push_cast,seval])<;>rfl) (by (simp (disch:=omega) only [push_cast,seval])<;>rfl) (by first|assumption|omega|(constructor<;>omega)) (by first|((simp (disch:=omega) only [push_cast,seval]);done)|((simp (disch:=omega) only [push_cast,seval]);exact ⟨rfl,by omega⟩)) ?_)|(refine A6z (len:=3) (by kernel_rfl) (by (simp (disch:=omega) only [push_cast,seval])<;>rfl) (by (simp (disch:=omega) only [push_cast,seval])<;>rfl) (by first|assumption|omega|(constructor<;>omega)) (by first|rfl|((simp (disch:=omega) only [push_cast,seval]);rfl)) ?_))<;>(try simp (disch:=omega) only [push_cast,seval]))
 | (refine Ajz ⟨.inr rfl,_,rfl,?_⟩;(try simp (disch:=omega) only [push_cast,seval]))))
      simp

end Go.Proofs.Ytpicoecbbiiaoaa
set_option linter.unusedSimpArgs false
set_option linter.unusedVariables false
set_option maxRecDepth 4000
set_option maxHeartbeats 4000000
namespace Go.Proofs.Ytpicoecbbiiaoaa
open VwM Vw Go

theorem labelsOf1_ok (l:List Int) (n:Nat) (hn:l.length=n) (hb:n ≤ 1099511627776 ∧ ∀ x ∈ l,0 ≤ x ∧ x ≤ 4):BCall Try.prog 59 [.rows false [.rows false (IL l) n] 1] [] (OI (lbS l)):=by
  subst hn
  have h:=labelsOf_ok [l] 1 rfl ⟨by omega,fun x hx=>by simp at hx;subst hx;exact hb.1,fun x hx=>by simp at hx;subst hx;exact hb.2⟩
  rw [show ([l]:List (List Int)).flatten=l by simp] at h
  exact h


set_option maxHeartbeats 16000000 in
theorem B0z (t:Tn) (l:List Int) (n m q:Nat) (hn:t.1.length=n) (hm:t.2.length=m) (hq:l.length=q) (hb:vSh t.1=true ∧ l.length=t.1.length ∧ m ≤ 1099511627776 ∧ ∀ x ∈ l,0 ≤ x ∧ x ≤ 4) :
    PCall Try.prog 87 [.agg [.rows false (IL t.1) n,.rows false (IL t.2) m],.rows false (IL l) q] (fun r=>r=.agg (.rows false (IL t.2) m :: .rows true (IL (lbS l)) (lbS l).length :: IL (fsT l (rowS t.1) t.1.length))):=by
  obtain ⟨sh,vals⟩:=t
  simp only at hn hm hb ⊢
  subst hn hm hq
  obtain ⟨hv,hlen,hm,hl⟩:=hb
  have hg:=(Bdz hv).1
  have hg4:=hg.2
  have hrl:(rowS sh).length=sh.length:=by simp [rowS]
  have hrb:∀ x ∈ rowS sh,0 ≤ x ∧ x ≤ 12960000:=fun x hx=>by
    unfold rowS at hx
    obtain ⟨i,_,rfl⟩:=List.mem_map.1 hx
    exact Fgz (Ilz hg (i + 1))
  have hfl:=Hkz l (rowS sh)
  have q1:l.length ≤ 1099511627776 ∧ ∀ x ∈ l,0 ≤ x ∧ x ≤ 4:=⟨by omega,hl⟩
  have q2:sh.length ≤ 1099511627776:=by omega
  refine A0z l87_eq rfl ?_
  (repeat' (first
 | (first|refine Akz ?_|refine Agz ?_)
 | ((first|refine Alz ?_|refine Hwz (mid:=l87r1a) (post:=l87r1b) [] Azz (by decide) ?_|refine Afz ?_|refine Ahz ?_|refine Aiz ?_);simp (disch:=omega) only [push_cast,seval,l87r0,l87r1a,l87r1b,l87r1,l87r2,l87r3,l87r4,l87r5,l87r6,l87r7,hv,hrl,Anz])
 | ((first|refine Abz ?_ ?_|refine Aez ?_ ?_|refine Adz ?_ ?_)<;>intro h<;>(try simp only [h])<;>(try simp only [bitvec_to_nat] at h)<;>(try simp only [h])<;>(first|(exfalso;omega)|(exfalso;simp_all;done)|(simp (disch:=omega) only [push_cast,seval,hv,hrl,Anz])|skip))
 | ((first|refine Aoz false ?_|refine qcallD_of false ?_);simp (disch:=omega) only [push_cast,seval,hv,hrl,Anz])
 | ((first|((first|refine call0D (labelsOf1_ok _ _ ?_ ?_) ?_|refine qcall0D (BCall.ofP (plainI (labelsOf1_ok _ _ ?_ ?_))) ⟨_,_,rfl,rfl⟩ ?_);(iterate 2 (exact sd));rintro _ _ ⟨rfl,rfl⟩)|((first|refine call0D (labelsOf_ok _ _ ?_ ?_) ?_|refine qcall0D (BCall.ofP (plainI (labelsOf_ok _ _ ?_ ?_))) ⟨_,_,rfl,rfl⟩ ?_);(iterate 2 (exact sd));rintro _ _ ⟨rfl,rfl⟩)|((first|refine call0D (iRowStrides_ok _ _ ?_ ?_) ?_|refine qcall0D (iRowStrides_ok _ _ ?_ ?_) ⟨_,_,rfl,rfl⟩ ?_);(iterate 2 (exact sd));rintro _ _ ⟨rfl,rfl⟩))<;>(try simp (disch:=omega) only [push_cast,seval,hv,hrl,Anz]))
 | (refine Ajz ⟨.inr rfl,_,rfl,?_⟩;(try simp (disch:=omega) only [push_cast,seval,hv,hrl,Anz]))))
  have hlb:=Dlz l 5
  refine Ayz (fun k:Nat=>mkS [(1,.rows false (IL l) l.length),(4,.ref 64 7 0),(5,.ref 80 7 0),(16,.own 256 sh.length 1),(17,.int .i64 sh.length),(18,.int .i64 k)] [(64,[.val (.slice none 0 0),.val (.slice none 0 0),.int .i64 0,.int .i64 0,.int .i64 0,.int .i64 0,.int .i64 0]),(80,.rows false (IL vals) vals.length :: .rows true (IL (lbS l)) (lbS l).length :: IL (fsT l (rowS sh) k)),(256,IL (rowS sh))]) (fun k=>k ≤ sh.length) (fun k=>sh.length - k) 0 (Nat.zero_le _) ?_ ?_
  · have e0:IL (fsT l (rowS sh) 0)=[.int .i64 0,.int .i64 0,.int .i64 0,.int .i64 0,.int .i64 0]:=rfl
    (refine Sub.of_lists ?_ ?_ ?_ ?_ ?_<;>simp [Vw.mkS,Vw.lk,Vw.hk,AV.inn,innL,Aqz,Amz,Asz,-List.map_set,-List.getD_eq_getElem?_getD,e0])
  · intro k hk
    have h5k:=hfl k
    by_cases hlt:k < sh.length
    · have hx:=hl _ (A9z (xs:=l) (j:=k) (by omega))
      have hr:=hrb _ (A9z (xs:=rowS sh) (j:=k) (by omega))
      have hbd:=fsT_bound hl hrb (by omega) k (by omega) _ hx.1
      have hstp:fsT l (rowS sh) (k + 1)=(fsT l (rowS sh) k).set (l.getD k 0).toNat (gE (fsT l (rowS sh) k) (l.getD k 0) + (rowS sh).getD k 0):=rfl
      generalize hL:fsT l (rowS sh) k=L at *
      generalize hR:(rowS sh).getD k 0=r at *
      obtain ⟨c,hc⟩:∃ c:Nat,l.getD k 0=c:=⟨(l.getD k 0).toNat,by omega⟩
      rw [hc] at hx hstp hbd
      rw [Int.toNat_natCast] at hstp
      have hge:gE L (c:Int)=L.getD c 0:=by unfold gE;rw [Int.toNat_natCast]
      rw [hge] at hstp hbd
      have hkb:(k:Int) * 12960000 ≤ 4 * 12960000:=by omega
      have hc5:c < 5:=by omega
      have hlk:k < l.length:=by omega
      (repeat' (first
 | (first|refine Akz ?_|refine Agz ?_)
 | ((first|refine Alz ?_|refine Atz (mid:=l87r1a) (post:=l87r1b) Azz (by decide) ?_|refine Afz ?_|refine Ahz ?_|refine Aiz ?_);simp (disch:=omega) only [push_cast,seval,l87r0,l87r1a,l87r1b,l87r1,l87r2,l87r3,l87r4,l87r5,l87r6,l87r7,hc,hR,hrl,h5k,Anz,drop2,VwM.set2,Boz])
 | ((first|refine Abz ?_ ?_|refine Aez ?_ ?_|refine Adz ?_ ?_)<;>intro h<;>(try simp only [h])<;>(try simp only [bitvec_to_nat] at h)<;>(try simp only [h])<;>(first|(exfalso;omega)|(exfalso;simp_all;done)|(simp (disch:=omega) only [push_cast,seval,hc,hR,hrl,h5k,Anz,drop2,VwM.set2,Boz])|skip))
 | ((first|refine Aoz false ?_|refine qcallD_of false ?_);simp (disch:=omega) only [push_cast,seval,hc,hR,hrl,h5k,Anz,drop2,VwM.set2,Boz])
 | ((first|((first|refine call0D (labelsOf1_ok _ _ ?_ ?_) ?_|refine qcall0D (labelsOf1_ok _ _ ?_ ?_) ⟨_,_,rfl,rfl⟩ ?_);(iterate 2 (exact sd));rintro _ _ ⟨rfl,rfl⟩)|((first|refine call0D (labelsOf_ok _ _ ?_ ?_) ?_|refine qcall0D (labelsOf_ok _ _ ?_ ?_) ⟨_,_,rfl,rfl⟩ ?_);(iterate 2 (exact sd));rintro _ _ ⟨rfl,rfl⟩)|((first|refine call0D (iRowStrides_ok _ _ ?_ ?_) ?_|refine qcall0D (iRowStrides_ok _ _ ?_ ?_) ⟨_,_,rfl,rfl⟩ ?_);(iterate 2 (exact sd));rintro _ _ ⟨rfl,rfl⟩))<;>(try simp (disch:=omega) only [push_cast,seval,hc,hR,hrl,h5k,Anz,drop2,VwM.set2,Boz]))
 | (refine Ajz ⟨.inr rfl,_,rfl,?_⟩;(try simp (disch:=omega) only [push_cast,seval,hc,hR,hrl,h5k,Anz,drop2,VwM.set2,Boz]))))
      refine ⟨k + 1,by omega,by omega,?_⟩
      rw [hstp]
      (refine Sub.of_lists ?_ ?_ ?_ ?_ ?_<;>simp [Vw.mkS,Vw.lk,Vw.hk,AV.inn,innL,Aqz,Amz,Asz,-List.map_set,-List.getD_eq_getElem?_getD,VwM.set2,Boz])
    · have ek:k=sh.length:=by omega
      have h7:=fun x y a b c d e=>set72 h5k x y a b c d e
      have h7t:=fun x y=>take7 h5k x y
      rw [ek] at h5k h7 h7t
      generalize hL:fsT l (rowS sh) sh.length=L at *
      (repeat' (first
 | (first|refine Akz ?_|refine Agz ?_)
 | ((first|refine Alz ?_|refine Atz (mid:=l87r1a) (post:=l87r1b) Azz (by decide) ?_|refine Afz ?_|refine Ahz ?_|refine Aiz ?_);simp (disch:=omega) only [push_cast,seval,l87r0,l87r1a,l87r1b,l87r1,l87r2,l87r3,l87r4,l87r5,l87r6,l87r7,h5k,h7,h7t,Anz,ek,hL])
 | ((first|refine Abz ?_ ?_|refine Aez ?_ ?_|refine Adz ?_ ?_)<;>intro h<;>(try simp only [h])<;>(try simp only [bitvec_to_nat] at h)<;>(try simp only [h])<;>(first|(exfalso;omega)|(exfalso;simp_all;done)|(simp (disch:=omega) only [push_cast,seval,h5k,h7,h7t,Anz,ek,hL])|skip))
 | ((first|refine Aoz false ?_|refine qcallD_of false ?_);simp (disch:=omega) only [push_cast,seval,h5k,h7,h7t,Anz,ek,hL])
 | ((first|((first|refine call0D (labelsOf1_ok _ _ ?_ ?_) ?_|refine qcall0D (labelsOf1_ok _ _ ?_ ?_) ⟨_,_,rfl,rfl⟩ ?_);(iterate 2 (exact sd));rintro _ _ ⟨rfl,rfl⟩)|((first|refine call0D (labelsOf_ok _ _ ?_ ?_) ?_|refine qcall0D (labelsOf_ok _ _ ?_ ?_) ⟨_,_,rfl,rfl⟩ ?_);(iterate 2 (exact sd));rintro _ _ ⟨rfl,rfl⟩)|((first|refine call0D (iRowStrides_ok _ _ ?_ ?_) ?_|refine qcall0D (iRowStrides_ok _ _ ?_ ?_) ⟨_,_,rfl,rfl⟩ ?_);(iterate 2 (exact sd));rintro _ _ ⟨rfl,rfl⟩))<;>(try simp (disch:=omega) only [push_cast,seval,h5k,h7,h7t,Anz,ek,hL]))))
      refine Ajz ⟨.inr rfl,_,aresL_c7 rfl rfl h5k rfl,?_⟩
      simp (disch:=omega) only [push_cast,seval,Brz]

end Go.Proofs.Ytpicoecbbiiaoaa
