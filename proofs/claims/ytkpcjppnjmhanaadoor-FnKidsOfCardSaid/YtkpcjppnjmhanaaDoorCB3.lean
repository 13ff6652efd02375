/- Texts of this verifier. -/
import Derived.Test.YtkpcjppnjmhanaaDoorCB2
import Derived.Test.YtkpcjppnjmhanaaDoorCM1
import Derived.Test.YtkpcjppnjmhanaaDoorCW3
set_option maxHeartbeats 4000000
set_option linter.unusedSimpArgs false
set_option linter.unusedSectionVars false
set_option linter.unusedVariables false
set_option maxRecDepth 4000
namespace Go.Proofs.YtkpcjppnjmhanaaDoor
open VwM Vw Go
variable [SentA]

theorem Dqz (xs ys:List Int) (n m:Nat) (hn:xs.length=n) (hm:ys.length=m) (hb:n ≤ 1099511627776 ∧ m ≤ 1099511627776):PCall Tryd.prog 100 [.rows false (IL xs) n,.rows false (IL ys) m] (fun r=>r=.bool (decide (xs=ys))):=by
  subst hn hm
  refine A4z l100_eq rfl ?_
  by_cases hl:xs.length=ys.length
  · have hl':(xs.length:Int)=ys.length:=by omega
    (repeat' (first
 | (first|refine Apz ?_|refine Aiz ?_)
 | ((first|refine Aqz ?_|refine Asz (mid:=l100r5a) (post:=l100r5b) Axz (by decide) ?_|refine Ahz ?_|refine Ajz ?_|refine Akz ?_);simp (disch:=omega) only [push_cast,seval,l100r0,l100r1,l100r2,l100r3,l100r4,l100r5a,l100r5b,l100r5,l100r6,l100r7,l100r8,hl'])
 | ((first|refine Acz ?_ ?_|refine Agz ?_ ?_|refine Afz ?_ ?_)<;>intro h<;>(try simp only [h])<;>(try simp only [bitvec_to_nat] at h)<;>(try simp only [h])<;>(first|(exfalso;omega)|(exfalso;simp_all;done)|(simp (disch:=omega) only [push_cast,seval,hl'])|skip))
 | (refine Amz ⟨.inr rfl,_,rfl,?_⟩;(try simp (disch:=omega) only [push_cast,seval,hl']))))
    refine Bqz (fun k:Nat=>mkS [(0,RI xs),(1,RI ys),(5,.int .i64 k)] []) (fun k=>k ≤ xs.length ∧ ∀ j:Nat,j < k → xs.getD j 0=ys.getD j 0) (fun k=>xs.length - k) 0 ⟨Nat.zero_le _,fun j h=>absurd h (Nat.not_lt_zero _)⟩ ?_ ?_
    · (refine Sub.of_lists ?_ ?_ ?_ ?_ ?_<;>simp [Vw.mkS,Vw.lk,Vw.hk,AV.inn,innL,Avz,Atz,Ayz,-List.map_set,-List.getD_eq_getElem?_getD,hl])
    · rintro k ⟨hk,hj⟩
      by_cases hlt:k < xs.length
      · (repeat' (first
 | (first|refine Apz ?_|refine Aiz ?_)
 | ((first|refine Aqz ?_|refine Asz (mid:=l100r5a) (post:=l100r5b) Axz (by decide) ?_|refine Ahz ?_|refine Ajz ?_|refine Akz ?_);simp (disch:=omega) only [push_cast,seval,l100r0,l100r1,l100r2,l100r3,l100r4,l100r5a,l100r5b,l100r5,l100r6,l100r7,l100r8])
 | ((first|refine Acz ?_ ?_|refine Agz ?_ ?_|refine Afz ?_ ?_)<;>intro h<;>(try simp only [h])<;>(try simp only [bitvec_to_nat] at h)<;>(try simp only [h])<;>(first|(exfalso;omega)|(exfalso;simp_all;done)|(simp (disch:=omega) only [push_cast,seval])|skip))
 | (refine Amz ⟨.inr rfl,_,rfl,?_⟩;(try simp (disch:=omega) only [push_cast,seval]))))
        · simp;rintro rfl;exact absurd rfl ‹_›
        · refine ⟨k + 1,⟨by omega,fun j h=>?_⟩,by omega,?_⟩
          · by_cases hjk:j=k
            · subst hjk;assumption
            · exact hj j (by omega)
          · (refine Sub.of_lists ?_ ?_ ?_ ?_ ?_<;>simp [Vw.mkS,Vw.lk,Vw.hk,AV.inn,innL,Avz,Atz,Ayz,-List.map_set,-List.getD_eq_getElem?_getD])
      · (repeat' (first
 | (first|refine Apz ?_|refine Aiz ?_)
 | ((first|refine Aqz ?_|refine Asz (mid:=l100r5a) (post:=l100r5b) Axz (by decide) ?_|refine Ahz ?_|refine Ajz ?_|refine Akz ?_);simp (disch:=omega) only [push_cast,seval,l100r0,l100r1,l100r2,l100r3,l100r4,l100r5a,l100r5b,l100r5,l100r6,l100r7,l100r8])
 | ((first|refine Acz ?_ ?_|refine Agz ?_ ?_|refine Afz ?_ ?_)<;>intro h<;>(try simp only [h])<;>(try simp only [bitvec_to_nat] at h)<;>(try simp only [h])<;>(first|(exfalso;omega)|(exfalso;simp_all;done)|(simp (disch:=omega) only [push_cast,seval])|skip))
 | (refine Amz ⟨.inr rfl,_,rfl,?_⟩;(try simp (disch:=omega) only [push_cast,seval]))))
        have:xs=ys:=J2z hl fun j h=>hj j (by omega)
        simp [this]
  · have hl':¬ (xs.length:Int)=ys.length:=by omega
    have:¬ xs=ys:=by rintro rfl;exact hl rfl
    (repeat' (first
 | (first|refine Apz ?_|refine Aiz ?_)
 | ((first|refine Aqz ?_|refine Asz (mid:=l100r5a) (post:=l100r5b) Axz (by decide) ?_|refine Ahz ?_|refine Ajz ?_|refine Akz ?_);simp (disch:=omega) only [push_cast,seval,l100r0,l100r1,l100r2,l100r3,l100r4,l100r5a,l100r5b,l100r5,l100r6,l100r7,l100r8,hl'])
 | ((first|refine Acz ?_ ?_|refine Agz ?_ ?_|refine Afz ?_ ?_)<;>intro h<;>(try simp only [h])<;>(try simp only [bitvec_to_nat] at h)<;>(try simp only [h])<;>(first|(exfalso;omega)|(exfalso;simp_all;done)|(simp (disch:=omega) only [push_cast,seval,hl'])|skip))
 | (refine Amz ⟨.inr rfl,_,rfl,?_⟩;(try simp (disch:=omega) only [push_cast,seval,hl']))))
    simp [this]


def sameB (b:Int) (sh st:List Int) (b':Int) (sh' st':List Int):Bool:=vV b sh st && vV b' sh' st' && decide (sh=sh') && decide (offs b sh st=offs b' sh' st')

end Go.Proofs.YtkpcjppnjmhanaaDoor
namespace Go.Proofs.YtkpcjppnjmhanaaDoor
open VwM Vw Go
variable [SentA]

end Go.Proofs.YtkpcjppnjmhanaaDoor
namespace Go.Proofs.YtkpcjppnjmhanaaDoor
open VwM Vw Go
variable [SentA]

theorem newReader_ok (bs:List Int) (n:Nat) (hn:bs.length=n) (hb:n ≤ 1099511627776 ∧ ∀ x ∈ bs,0 ≤ x ∧ x ≤ 255):BCall Tryd.prog 25 [.rows false (UL bs) n] [] (fun r H'=>∃ bs',okB bs' ∧ r=.ref 0 2 0 ∧ H'=[RD bs' 0]):=by
  subst hn
  obtain ⟨hb0,hb⟩:=hb
  refine A5z (pins:=[]) (pin:=0) l25_eq rfl rfl rfl ?_
  by_cases h:bs.length > 2000
  · have h':(bs.length:Int) > 2000:=by omega
    have ht:(bs.take 2000).length=2000:=by simp;omega
    have eT:(UL bs).take 2000=UL (bs.take 2000):=List.map_take.symm
    (repeat' (first
 | (first|refine Apz ?_|refine Aiz ?_)
 | ((first|refine Aqz ?_|refine Ahz ?_|refine Ajz ?_|refine Akz ?_);simp (disch:=omega) only [push_cast,seval,l25r0,l25r1,l25r2,l25r3,h',eT])
 | ((first|refine Acz ?_ ?_|refine Agz ?_ ?_|refine Afz ?_ ?_)<;>intro h<;>(try simp only [h])<;>(try simp only [bitvec_to_nat] at h)<;>(try simp only [h])<;>(first|(exfalso;omega)|(exfalso;simp_all;done)|(simp (disch:=omega) only [push_cast,seval,h',eT])|skip))
 | (refine Amz ⟨.inr rfl,[160],[],_,by decide,rfl,?_⟩;(try simp (disch:=omega) only [push_cast,seval,↓Aoz,↓Alz,↓List.map_cons,↓List.map_nil,h',eT]))))
    exact ⟨bs.take 2000,⟨by omega,fun x hx=>hb x (List.mem_of_mem_take hx)⟩,by rw [RD,ht]⟩
  · have h':¬ (bs.length:Int) > 2000:=by omega
    (repeat' (first
 | (first|refine Apz ?_|refine Aiz ?_)
 | ((first|refine Aqz ?_|refine Ahz ?_|refine Ajz ?_|refine Akz ?_);simp (disch:=omega) only [push_cast,seval,l25r0,l25r1,l25r2,l25r3,h'])
 | ((first|refine Acz ?_ ?_|refine Agz ?_ ?_|refine Afz ?_ ?_)<;>intro h<;>(try simp only [h])<;>(try simp only [bitvec_to_nat] at h)<;>(try simp only [h])<;>(first|(exfalso;omega)|(exfalso;simp_all;done)|(simp (disch:=omega) only [push_cast,seval,h'])|skip))
 | (refine Amz ⟨.inr rfl,[160],[],_,by decide,rfl,?_⟩;(try simp (disch:=omega) only [push_cast,seval,↓Aoz,↓Alz,↓List.map_cons,↓List.map_nil,h']))))
    exact ⟨bs,⟨by omega,hb⟩,rfl⟩


theorem Dcz (bs:List Int) (p n:Int) (hb:okB bs) (hp:0 ≤ p ∧ p ≤ 1000000):BCall Tryd.prog 40 [.ref 0 2 0,.int .i64 n] [RD bs p] (fun r H'=>∃ x,0 ≤ x ∧ (1 ≤ n ∧ x < n ∨ n < 1 ∧ x=0 ∨ x=0) ∧ r=.int .i64 x ∧ H'=[RD bs (p + 1)]):=by
  refine A5z (pins:=[0]) (pin:=1) l40_eq rfl rfl rfl ?_
  obtain ⟨hp1,hp2⟩:=hp
  have hbl:=hb.1
  have ep:p + 1 - 1=p:=by omega
  by_cases h1:n < 1
  · (repeat' (first
 | (first|refine Apz ?_|refine Aiz ?_)
 | ((first|refine Aqz ?_|refine Asz (mid:=l40r7a) (post:=l40r7b) Axz (by decide) ?_|refine Ahz ?_|refine Ajz ?_|refine Akz ?_);simp (disch:=omega) only [push_cast,seval,l40r0,l40r1,l40r2,l40r3,l40r4,l40r5,l40r6,l40r7a,l40r7b,l40r7,l40r8,l40r9,h1])
 | ((first|refine Acz ?_ ?_|refine Agz ?_ ?_|refine Afz ?_ ?_)<;>intro h<;>(try simp only [h])<;>(try simp only [bitvec_to_nat] at h)<;>(try simp only [h])<;>(first|(exfalso;omega)|(exfalso;simp_all;done)|(simp (disch:=omega) only [push_cast,seval,h1])|skip))
 | (refine Amz ⟨.inr rfl,[],[],_,by decide,rfl,?_⟩;(try simp (disch:=omega) only [push_cast,seval,↓Aoz,↓Alz,↓List.map_cons,↓List.map_nil,h1]))))
    exact ⟨0,by omega,by omega,rfl⟩
  by_cases h2:bs.length=0
  · have h2':(bs.length:Int)=0:=by omega
    (repeat' (first
 | (first|refine Apz ?_|refine Aiz ?_)
 | ((first|refine Aqz ?_|refine Asz (mid:=l40r7a) (post:=l40r7b) Axz (by decide) ?_|refine Ahz ?_|refine Ajz ?_|refine Akz ?_);simp (disch:=omega) only [push_cast,seval,l40r0,l40r1,l40r2,l40r3,l40r4,l40r5,l40r6,l40r7a,l40r7b,l40r7,l40r8,l40r9,h1,h2'])
 | ((first|refine Acz ?_ ?_|refine Agz ?_ ?_|refine Afz ?_ ?_)<;>intro h<;>(try simp only [h])<;>(try simp only [bitvec_to_nat] at h)<;>(try simp only [h])<;>(first|(exfalso;omega)|(exfalso;simp_all;done)|(simp (disch:=omega) only [push_cast,seval,h1,h2'])|skip))
 | (refine Amz ⟨.inr rfl,[],[],_,by decide,rfl,?_⟩;(try simp (disch:=omega) only [push_cast,seval,↓Aoz,↓Alz,↓List.map_cons,↓List.map_nil,h1,h2']))))
    exact ⟨0,by omega,by omega,rfl⟩
  have h2':¬ (bs.length:Int)=0:=by omega
  have hn0:¬ n=0:=by omega
  by_cases h3:p < bs.length
  · have hb1:=okB_at hb (i:=p.toNat) (by omega)
    have hw:=Kez hb1.1 (by omega)
    (repeat' (first
 | (first|refine Apz ?_|refine Aiz ?_)
 | ((first|refine Aqz ?_|refine Asz (mid:=l40r7a) (post:=l40r7b) Axz (by decide) ?_|refine Ahz ?_|refine Ajz ?_|refine Akz ?_);simp (disch:=omega) only [push_cast,seval,l40r0,l40r1,l40r2,l40r3,l40r4,l40r5,l40r6,l40r7a,l40r7b,l40r7,l40r8,l40r9,ep,h1,h2',h3,hn0,hw])
 | ((first|refine Acz ?_ ?_|refine Agz ?_ ?_|refine Afz ?_ ?_)<;>intro h<;>(try simp only [h])<;>(try simp only [bitvec_to_nat] at h)<;>(try simp only [h])<;>(first|(exfalso;omega)|(exfalso;simp_all;done)|(simp (disch:=omega) only [push_cast,seval,ep,h1,h2',h3,hn0,hw])|skip))
 | (refine Amz ⟨.inr rfl,[],[],_,by decide,rfl,?_⟩;(try simp (disch:=omega) only [push_cast,seval,↓Aoz,↓Alz,↓List.map_cons,↓List.map_nil,ep,h1,h2',h3,hn0,hw]))))
    have:=Ejz hb1.1 (n:=n) (by omega)
    exact ⟨_,this.1,by omega,rfl⟩
  · have q1:=Ejz hp1 (n:=(bs.length:Int)) (by omega)
    have q2:=Ejz (x:=p * 7 + 3) (n:=(bs.length:Int)) (by omega) (by omega)
    have q3:=E6z (x:=p) (y:=(bs.length:Int)) (by omega) hp1
    generalize hg1:p.tmod (bs.length:Int)=k1 at *
    generalize hg2:(p * 7 + 3).tmod (bs.length:Int)=k2 at *
    generalize hg3:p.tdiv (bs.length:Int)=k3 at *
    have b1:=okB_at hb (i:=k1.toNat) (by omega)
    have b2:=okB_at hb (i:=k2.toNat) (by omega)
    have hw1:=Kez b1.1 (by omega)
    have hw2:=Kez b2.1 (by omega)
    generalize hd1:bs.getD k1.toNat 0=d1 at *
    generalize hd2:bs.getD k2.toNat 0=d2 at *
    have hX:0 ≤ d1 * 131 + d2 * 1117 + p * 29 + k3 * 53 ∧ d1 * 131 + d2 * 1117 + p * 29 + k3 * 53 < 1099511627776:=by omega
    have q4:=E6z (x:=d1 * 131 + d2 * 1117 + p * 29 + k3 * 53) (y:=64) (by omega) hX.1
    have q5:=xor_bound hX (b:=(d1 * 131 + d2 * 1117 + p * 29 + k3 * 53).tdiv 64) (by omega)
    have q6:=Ejz q5.1 (n:=n) (by omega)
    (repeat' (first
 | (first|refine Apz ?_|refine Aiz ?_)
 | ((first|refine Aqz ?_|refine Asz (mid:=l40r7a) (post:=l40r7b) Axz (by decide) ?_|refine Ahz ?_|refine Ajz ?_|refine Akz ?_);simp (disch:=omega) only [push_cast,seval,l40r0,l40r1,l40r2,l40r3,l40r4,l40r5,l40r6,l40r7a,l40r7b,l40r7,l40r8,l40r9,ep,h1,h2',h3,hn0,hg1,hg2,hg3,hd1,hd2,hw1,hw2])
 | ((first|refine Acz ?_ ?_|refine Agz ?_ ?_|refine Afz ?_ ?_)<;>intro h<;>(try simp only [h])<;>(try simp only [bitvec_to_nat] at h)<;>(try simp only [h])<;>(first|(exfalso;omega)|(exfalso;simp_all;done)|(simp (disch:=omega) only [push_cast,seval,ep,h1,h2',h3,hn0,hg1,hg2,hg3,hd1,hd2,hw1,hw2])|skip))
 | (refine Amz ⟨.inr rfl,[],[],_,by decide,rfl,?_⟩;(try simp (disch:=omega) only [push_cast,seval,↓Aoz,↓Alz,↓List.map_cons,↓List.map_nil,ep,h1,h2',h3,hn0,hg1,hg2,hg3,hd1,hd2,hw1,hw2]))))
    exact ⟨_,q6.1,by omega,rfl⟩


theorem D3z (bs:List Int) (p:Int) (cs:List AV) (n:Nat) (hn:(unI cs).length=n) (hcs:cs=IL (unI cs)) (hb:okB bs) (h1:1 ≤ n ∧ n ≤ 1000 ∧ 0 ≤ p ∧ p ≤ 1000000) (hxs:∀ y ∈ unI cs,-1000 ≤ y ∧ y ≤ 1000):BCall Tryd.prog 41 [.ref 0 2 0,.own 1 n 1] [RD bs p,cs] (fun r H'=>∃ x,x ∈ unI cs ∧ (-1000 ≤ x ∧ x ≤ 1000) ∧ r=.int .i64 x ∧ H'=[RD bs (p + 1),cs]):=by
  subst hn
  generalize hxs':unI cs=xs at *
  subst hcs
  obtain ⟨h1,h2,h3⟩:=h1
  refine A5z (pins:=[0,1]) (pin:=2) l41_eq rfl rfl rfl ?_
  (repeat' (first
 | (first|refine Apz ?_|refine Aiz ?_)
 | ((first|refine Aqz ?_|refine Ahz ?_|refine Ajz ?_|refine Akz ?_);simp (disch:=omega) only [push_cast,seval,l41r0,l41r1])
 | ((first|refine Acz ?_ ?_|refine Agz ?_ ?_|refine Afz ?_ ?_)<;>intro h<;>(try simp only [h])<;>(try simp only [bitvec_to_nat] at h)<;>(try simp only [h])<;>(first|(exfalso;omega)|(exfalso;simp_all;done)|(simp (disch:=omega) only [push_cast,seval])|skip))
 | ((first|((with_reducible refine Azz (f:=40) [0] true ?_);simp (disch:=omega) only [push_cast,seval];(refine C8z (id:=0) (Dcz _ _ _ ?_ ?_) (by (simp (disch:=omega) only [push_cast,seval])<;>rfl) ?_;(iterate 2 (exact sd));rintro _ _ ⟨x,hx0,hx1,rfl,rfl⟩))|((with_reducible refine Bpz (f:=40) [0] true ?_);simp (disch:=omega) only [push_cast,seval];(refine C5z (id:=0) (Dcz _ _ _ ?_ ?_) (by (simp (disch:=omega) only [push_cast,seval])<;>rfl) (by decide) ⟨_,_,0,by omega,Or.inr (Or.inr rfl),rfl,rfl⟩ ?_;(iterate 2 (exact sd));rintro _ _ ⟨x,hx0,hx1,rfl,rfl⟩)))<;>(try simp (disch:=omega) only [push_cast,seval]))
 | (refine Amz ⟨.inr rfl,[],[],_,by decide,rfl,?_⟩;(try simp (disch:=omega) only [push_cast,seval,↓Aoz,↓Alz,↓List.map_cons,↓List.map_nil]))))
  have hm:=C2z (xs:=xs) (j:=x.toNat) (by omega)
  exact ⟨_,hm,hxs _ hm,rfl⟩
theorem Cyz (bs:List Int) (p:Int) (cs:List AV) (n:Nat) (hn:(unI cs).length=n) (hcs:cs=IL (unI cs)) (hb:okB bs) (h1:1 ≤ n ∧ n ≤ 1000 ∧ 0 ≤ p ∧ p ≤ 1000000) (hxs:∀ y ∈ unI cs,-1000 ≤ y ∧ y ≤ 1000):BCall Tryd.prog 41 [.ref 0 2 0,.rows false cs n] [RD bs p] (fun r H'=>∃ x,x ∈ unI cs ∧ (-1000 ≤ x ∧ x ≤ 1000) ∧ r=.int .i64 x ∧ H'=[RD bs (p + 1)]):=by
  subst hn
  generalize hxs':unI cs=xs at *
  subst hcs
  obtain ⟨h1,h2,h3⟩:=h1
  refine A5z (pins:=[0]) (pin:=1) l41_eq rfl rfl rfl ?_
  (repeat' (first
 | (first|refine Apz ?_|refine Aiz ?_)
 | ((first|refine Aqz ?_|refine Ahz ?_|refine Ajz ?_|refine Akz ?_);simp (disch:=omega) only [push_cast,seval,l41r0,l41r1])
 | ((first|refine Acz ?_ ?_|refine Agz ?_ ?_|refine Afz ?_ ?_)<;>intro h<;>(try simp only [h])<;>(try simp only [bitvec_to_nat] at h)<;>(try simp only [h])<;>(first|(exfalso;omega)|(exfalso;simp_all;done)|(simp (disch:=omega) only [push_cast,seval])|skip))
 | ((first|((with_reducible refine Azz (f:=40) [0] true ?_);simp (disch:=omega) only [push_cast,seval];(refine C8z (id:=0) (Dcz _ _ _ ?_ ?_) (by (simp (disch:=omega) only [push_cast,seval])<;>rfl) ?_;(iterate 2 (exact sd));rintro _ _ ⟨x,hx0,hx1,rfl,rfl⟩))|((with_reducible refine Bpz (f:=40) [0] true ?_);simp (disch:=omega) only [push_cast,seval];(refine C5z (id:=0) (Dcz _ _ _ ?_ ?_) (by (simp (disch:=omega) only [push_cast,seval])<;>rfl) (by decide) ⟨_,_,0,by omega,Or.inr (Or.inr rfl),rfl,rfl⟩ ?_;(iterate 2 (exact sd));rintro _ _ ⟨x,hx0,hx1,rfl,rfl⟩)))<;>(try simp (disch:=omega) only [push_cast,seval]))
 | (refine Amz ⟨.inr rfl,[],[],_,by decide,rfl,?_⟩;(try simp (disch:=omega) only [push_cast,seval,↓Aoz,↓Alz,↓List.map_cons,↓List.map_nil]))))
  have hm:=C2z (xs:=xs) (j:=x.toNat) (by omega)
  exact ⟨_,hm,hxs _ hm,rfl⟩

end Go.Proofs.YtkpcjppnjmhanaaDoor
namespace Go.Proofs.YtkpcjppnjmhanaaDoor
open VwM Vw Go
variable [SentA]

theorem D0z (b:Int) (sh st:List Int) (n m:Nat) (d:Int) (hn:sh.length=n) (hb:n ≤ 1099511627776):PCall Tryd.prog 89 [.agg [.int .i64 b,.rows false (IL sh) n,.rows false (IL st) m],.int .i64 d] (fun r=>r=.bool (decide (0 ≤ d) && decide (d ≤ (n:Int) - 1))):=by
  subst hn
  refine A4z l89_eq rfl ?_
  (repeat' (first
 | (first|refine Apz ?_|refine Aiz ?_)
 | ((first|refine Aqz ?_|refine Ahz ?_|refine Ajz ?_|refine Akz ?_);simp (disch:=omega) only [push_cast,seval,l89r0,l89r1])
 | ((first|refine Acz ?_ ?_|refine Agz ?_ ?_|refine Afz ?_ ?_)<;>intro h<;>(try simp only [h])<;>(try simp only [bitvec_to_nat] at h)<;>(try simp only [h])<;>(first|(exfalso;omega)|(exfalso;simp_all;done)|(simp (disch:=omega) only [push_cast,seval])|skip))
 | ((first|refine Arz false ?_|refine Anz false ?_);simp (disch:=omega) only [push_cast,seval])
 | ((first|((first|refine Adz (Aez (Auz _ _ _)) ?_|refine Abz (Aez (Auz _ _ _)) ⟨_,_,rfl,rfl⟩ ?_);rintro _ _ ⟨rfl,rfl⟩))<;>(try simp (disch:=omega) only [push_cast,seval]))
 | (refine Amz ⟨.inr rfl,_,rfl,?_⟩;(try simp (disch:=omega) only [push_cast,seval]))))


theorem A9z (b:Int) (sh st:List Int) (n m:Nat) (hn:sh.length=n) (hm:st.length=m) (hb:n ≤ 1099511627776 ∧ m ≤ 1099511627776):BCall Tryd.prog 57 [.agg [.int .i64 b,.rows false (IL sh) n,.rows false (IL st) m]] [] (OV b sh st):=by
  subst hn hm
  obtain ⟨hb1,hb2⟩:=hb
  refine A5z (pins:=[]) (pin:=0) l57_eq rfl rfl rfl ?_
  (repeat' (first
 | (first|refine Apz ?_|refine Aiz ?_)
 | ((first|refine Aqz ?_|refine Asz (mid:=l57r1a) (post:=l57r1b) Axz (by decide) ?_|refine Ahz ?_|refine Ajz ?_|refine Akz ?_);simp (disch:=omega) only [push_cast,seval,l57r0,l57r1a,l57r1b,l57r1])
 | ((first|refine Acz ?_ ?_|refine Agz ?_ ?_|refine Afz ?_ ?_)<;>intro h<;>(try simp only [h])<;>(try simp only [bitvec_to_nat] at h)<;>(try simp only [h])<;>(first|(exfalso;omega)|(exfalso;simp_all;done)|(simp (disch:=omega) only [push_cast,seval])|skip))
 | ((first|refine Arz false ?_|refine Anz false ?_);simp (disch:=omega) only [push_cast,seval])
 | ((first|((first|refine Adz (A7z _ _ ?_ ?_) ?_|refine Abz (A7z _ _ ?_ ?_) ⟨_,_,rfl,rfl⟩ ?_);(iterate 2 (exact sd));rintro _ _ ⟨rfl,rfl⟩))<;>(try simp (disch:=omega) only [push_cast,seval]))
 | (refine Amz ⟨.inr rfl,[112,160],[],_,by decide,rfl,?_⟩;(try simp (disch:=omega) only [push_cast,seval,↓Aoz,↓Alz,↓List.map_cons,↓List.map_nil]))))
  all_goals simp [OV]


theorem Esz (b:Int) (sh st:List Int) (n m:Nat) (hn:sh.length=n) (hm:st.length=m) (hb:n ≤ 1099511627776 ∧ m ≤ 1099511627776):BCall Tryd.prog 91 [.agg [.int .i64 b,.rows false (IL sh) n,.rows false (IL st) m]] [] (MV (vV b sh st) b sh st):=by
  subst hn hm
  obtain ⟨hb1,hb2⟩:=hb
  refine A5z (pins:=[]) (pin:=0) l91_eq rfl rfl rfl ?_
  cases hv:vV b sh st with
  | false =>
    (repeat' (first
 | (first|refine Apz ?_|refine Aiz ?_)
 | ((first|refine Aqz ?_|refine Ahz ?_|refine Ajz ?_|refine Akz ?_);simp (disch:=omega) only [push_cast,seval,l91r0,l91r1,l91r2,l91r3,hv])
 | ((first|refine Acz ?_ ?_|refine Agz ?_ ?_|refine Afz ?_ ?_)<;>intro h<;>(try simp only [h])<;>(try simp only [bitvec_to_nat] at h)<;>(try simp only [h])<;>(first|(exfalso;omega)|(exfalso;simp_all;done)|(simp (disch:=omega) only [push_cast,seval,hv])|skip))
 | ((first|refine Arz false ?_|refine Anz false ?_);simp (disch:=omega) only [push_cast,seval,hv])
 | ((first|((first|refine Adz (Aez (Awz _ _ _ _ _ ?_ ?_ ?_)) ?_|refine Abz (Aez (Awz _ _ _ _ _ ?_ ?_ ?_)) ⟨_,_,rfl,rfl⟩ ?_);(iterate 3 (exact sd));rintro _ _ ⟨rfl,rfl⟩)|((first|refine Adz (A9z _ _ _ _ _ ?_ ?_ ?_) ?_|refine Abz (A9z _ _ _ _ _ ?_ ?_ ?_) ⟨_,_,rfl,rfl⟩ ?_);(iterate 3 (exact sd));rintro _ _ ⟨rfl,rfl⟩))<;>(try simp (disch:=omega) only [push_cast,seval,hv]))
 | (refine Amz ⟨.inr rfl,[16000,16016],[(16000,1),(16016,1)],_,by decide,rfl,?_⟩;(try simp (disch:=omega) only [push_cast,seval,↓Aoz,↓Alz,↓List.map_cons,↓List.map_nil,hv]))))
    all_goals simp [MV,MVB,MVL]
  | true =>
    (repeat' (first
 | (first|refine Apz ?_|refine Aiz ?_)
 | ((first|refine Aqz ?_|refine Ahz ?_|refine Ajz ?_|refine Akz ?_);simp (disch:=omega) only [push_cast,seval,l91r0,l91r1,l91r2,l91r3,hv])
 | ((first|refine Acz ?_ ?_|refine Agz ?_ ?_|refine Afz ?_ ?_)<;>intro h<;>(try simp only [h])<;>(try simp only [bitvec_to_nat] at h)<;>(try simp only [h])<;>(first|(exfalso;omega)|(exfalso;simp_all;done)|(simp (disch:=omega) only [push_cast,seval,hv])|skip))
 | ((first|refine Arz false ?_|refine Anz false ?_);simp (disch:=omega) only [push_cast,seval,hv])
 | ((first|((first|refine Adz (Aez (Awz _ _ _ _ _ ?_ ?_ ?_)) ?_|refine Abz (Aez (Awz _ _ _ _ _ ?_ ?_ ?_)) ⟨_,_,rfl,rfl⟩ ?_);(iterate 3 (exact sd));rintro _ _ ⟨rfl,rfl⟩)|((first|refine Adz (A9z _ _ _ _ _ ?_ ?_ ?_) ?_|refine Abz (A9z _ _ _ _ _ ?_ ?_ ?_) ⟨_,_,rfl,rfl⟩ ?_);(iterate 3 (exact sd));rintro _ _ ⟨rfl,rfl⟩))<;>(try simp (disch:=omega) only [push_cast,seval,hv]))
 | (refine Amz ⟨.inr rfl,[144,145],[],_,by decide,rfl,?_⟩;(try simp (disch:=omega) only [push_cast,seval,↓Aoz,↓Alz,↓List.map_cons,↓List.map_nil,hv]))))
    all_goals simp [MV,MVB,MVL]


theorem G6z (b:Int) (sh st:List Int) (n m:Nat) (hn:sh.length=n) (hm:st.length=m) (hb:good4 sh ∧ pr sh=0):BCall Tryd.prog 99 [.agg [.int .i64 b,.own 0 n 1,.own 1 m 1]] [IL sh,IL st] (fun r H'=>r=.agg [.int .i64 0,.own 0 n 1,.own 2 n 1] ∧ H'=[IL sh,IL st,IL (List.replicate n 0)]):=by
  subst hn hm
  obtain ⟨hg,hz⟩:=hb
  have hl:=hg.2
  refine A5z (pins:=[0,1]) (pin:=2) l99_eq rfl rfl rfl ?_
  (repeat' (first
 | (first|refine Apz ?_|refine Aiz ?_)
 | ((first|refine Aqz ?_|refine Asz (mid:=l99r2a) (post:=l99r2b) Axz (by decide) ?_|refine Ahz ?_|refine Ajz ?_|refine Akz ?_);simp (disch:=omega) only [push_cast,seval,l99r0,l99r1,l99r2a,l99r2b,l99r2,l99r3,hz])
 | ((first|refine Acz ?_ ?_|refine Agz ?_ ?_|refine Afz ?_ ?_)<;>intro h<;>(try simp only [h])<;>(try simp only [bitvec_to_nat] at h)<;>(try simp only [h])<;>(first|(exfalso;omega)|(exfalso;simp_all;done)|(simp (disch:=omega) only [push_cast,seval,hz])|skip))
 | ((first|refine Arz false ?_|refine Anz false ?_);simp (disch:=omega) only [push_cast,seval,hz])
 | ((first|((first|refine Adz (Aez (Bbz _ _ ?_ ?_)) ?_|refine Abz (Aez (Bbz _ _ ?_ ?_)) ⟨_,_,rfl,rfl⟩ ?_);(iterate 2 (exact sd));rintro _ _ ⟨rfl,rfl⟩))<;>(try simp (disch:=omega) only [push_cast,seval,hz]))
 | (refine Amz ⟨.inr rfl,[192],[],_,by decide,rfl,?_⟩;(try simp (disch:=omega) only [push_cast,seval,↓Aoz,↓Alz,↓List.map_cons,↓List.map_nil,hz]))))
  all_goals simp [IL]
theorem G5z (b:Int) (sh st:List Int) (n m:Nat) (hn:sh.length=n) (hm:st.length=m) (hb:good4 sh ∧ ¬ pr sh=0):BCall Tryd.prog 99 [.agg [.int .i64 b,.own 0 n 1,.own 1 m 1]] [IL sh,IL st] (fun r H'=>r=.agg [.int .i64 b,.own 0 n 1,.own 1 m 1] ∧ H'=[IL sh,IL st]):=by
  subst hn hm
  obtain ⟨hg,hz⟩:=hb
  have hl:=hg.2
  refine A5z (pins:=[0,1]) (pin:=2) l99_eq rfl rfl rfl ?_
  (repeat' (first
 | (first|refine Apz ?_|refine Aiz ?_)
 | ((first|refine Aqz ?_|refine Asz (mid:=l99r2a) (post:=l99r2b) Axz (by decide) ?_|refine Ahz ?_|refine Ajz ?_|refine Akz ?_);simp (disch:=omega) only [push_cast,seval,l99r0,l99r1,l99r2a,l99r2b,l99r2,l99r3,hz])
 | ((first|refine Acz ?_ ?_|refine Agz ?_ ?_|refine Afz ?_ ?_)<;>intro h<;>(try simp only [h])<;>(try simp only [bitvec_to_nat] at h)<;>(try simp only [h])<;>(first|(exfalso;omega)|(exfalso;simp_all;done)|(simp (disch:=omega) only [push_cast,seval,hz])|skip))
 | ((first|refine Arz false ?_|refine Anz false ?_);simp (disch:=omega) only [push_cast,seval,hz])
 | ((first|((first|refine Adz (Aez (Bbz _ _ ?_ ?_)) ?_|refine Abz (Aez (Bbz _ _ ?_ ?_)) ⟨_,_,rfl,rfl⟩ ?_);(iterate 2 (exact sd));rintro _ _ ⟨rfl,rfl⟩))<;>(try simp (disch:=omega) only [push_cast,seval,hz]))
 | (refine Amz ⟨.inr rfl,[],[],_,by decide,rfl,?_⟩;(try simp (disch:=omega) only [push_cast,seval,↓Aoz,↓Alz,↓List.map_cons,↓List.map_nil,hz]))))

end Go.Proofs.YtkpcjppnjmhanaaDoor
namespace Go.Proofs.YtkpcjppnjmhanaaDoor
open VwM Vw Go
variable [SentA]

/-- Facts of a slice of a dimension,for the walks. -/
theorem cut_facts {b:Int} {sh st:List Int} {j:Nat} {f t w:Int} {hf ht:Bool} (hv:vV b sh st=true) (hj:j < sh.length) (hs:vS f t w hf ht=true) :
    (0 ≤ sh.getD j 0 ∧ sh.getD j 0 ≤ 60) ∧
    vR (pS (sFrom f (sh.getD j 0) w hf) (cutK (sh.getD j 0) f t w hf ht)) (pE (sFrom f (sh.getD j 0) w hf) w (cutK (sh.getD j 0) f t w hf ht)) (pC w (cutK (sh.getD j 0) f t w hf ht))=true ∧
    cntN (pS (sFrom f (sh.getD j 0) w hf) (cutK (sh.getD j 0) f t w hf ht)) (pE (sFrom f (sh.getD j 0) w hf) w (cutK (sh.getD j 0) f t w hf ht)) (pC w (cutK (sh.getD j 0) f t w hf ht))=cutK (sh.getD j 0) f t w hf ht ∧
    (-12000 ≤ pS (sFrom f (sh.getD j 0) w hf) (cutK (sh.getD j 0) f t w hf ht) * st.getD j 0 ∧ pS (sFrom f (sh.getD j 0) w hf) (cutK (sh.getD j 0) f t w hf ht) * st.getD j 0 ≤ 12000) ∧
    (-12000 ≤ pC w (cutK (sh.getD j 0) f t w hf ht) * st.getD j 0 ∧ pC w (cutK (sh.getD j 0) f t w hf ht) * st.getD j 0 ≤ 12000) ∧
    (∀ i:Nat,i < cutK (sh.getD j 0) f t w hf ht → -1000 ≤ sFrom f (sh.getD j 0) w hf + (i:Int) * w ∧ sFrom f (sh.getD j 0) w hf + (i:Int) * w ≤ 1000) ∧
    (cutK (sh.getD j 0) f t w hf ht:Int) ≤ 60:=by
  obtain ⟨h1,h2,h3,-⟩:=Dfz.1 hv
  have hg:=(Czz h1).1
  have hn:=Ehz hg hj
  have hw:=Kgz.1 hs
  have hk:=cutK_le hn hs
  have hin:=fun i hi=>idx_in hn hs (i:=i) hi
  have hst:=vSt_at h2 hj
  have hb:∀ i:Nat,i < cutK (sh.getD j 0) f t w hf ht → -100 ≤ sFrom f (sh.getD j 0) w hf + (i:Int) * w ∧ sFrom f (sh.getD j 0) w hf + (i:Int) * w ≤ 100:=fun i hi=>by have:=hin i hi;omega
  have v1:=PR_valid (s:=sFrom f (sh.getD j 0) w hf) hw.2.2.2.1 hw.2.2.1 hb
  have v2:=cntN_PR (s:=sFrom f (sh.getD j 0) w hf) hw.2.2.2.1 hw.2.2.1 hb
  have v3:=Foz.1 v1
  have m1:=mul_bd (p:=100) (q:=60) (x:=pS (sFrom f (sh.getD j 0) w hf) (cutK (sh.getD j 0) f t w hf ht)) (y:=st.getD j 0) (by omega) (by omega)
  have m2:=mul_bd (p:=200) (q:=60) (x:=pC w (cutK (sh.getD j 0) f t w hf ht)) (y:=st.getD j 0) (by omega) (by omega)
  exact ⟨hn,v1,v2,by omega,by omega,fun i hi=>by have:=hb i hi;omega,by omega⟩


set_option maxHeartbeats 16000000 in
theorem Diz (b:Int) (sh st:List Int) (n m:Nat) (j:Nat) (f t w:Int) (hf ht:Bool) (hn:sh.length=n) (hm:st.length=m) (hb:vV b sh st=true ∧ j < n) (hs:vS f t w hf ht=true) :
    BCall Tryd.prog 92 [.agg [.int .i64 b,.rows false (IL sh) n,.rows false (IL st) m],.int .i64 j,slc f t w hf ht] [] (OV (cutB b sh st j f t w hf ht) (cutSh sh j f t w hf ht) (cutSt sh st j f t w hf ht)):=by
  subst hn hm
  obtain ⟨hv,hj⟩:=hb
  obtain ⟨c1,c2,c3,c4,c5,c6,c7⟩:=cut_facts hv hj hs
  obtain ⟨hok,hl⟩:=Eoz hv
  have hl4:=hok.1.1.2
  have hbb:=(Dfz.1 hv).2.2.1
  have hg:=good4_cut hok.1.1 hj hs
  have hle:(sh.length ≤ 1099511627776 ∧ st.length ≤ 1099511627776):=by omega
  have q1:cutK (sh.getD j 0) f t w hf ht ≤ 1000:=by omega
  have hj2:j < st.length:=by omega
  have hsl:(sh.set j (cutK (sh.getD j 0) f t w hf ht:Int)).length=sh.length:=by simp
  have hK:cntN (sFrom f (sh.getD j 0) w hf) (sTo t (sh.getD j 0) w ht) w=cutK (sh.getD j 0) f t w hf ht:=rfl
  refine A5z (pins:=[]) (pin:=0) l92_eq rfl rfl rfl ?_
  by_cases hz:pr (cutSh sh j f t w hf ht)=0
  · have e1:cutB b sh st j f t w hf ht=0:=if_pos hz
    have e2:cutSt sh st j f t w hf ht=List.replicate sh.length 0:=if_pos hz
    rw [e1,e2]
    unfold cutSh at hz hg ⊢
    generalize hkk:cutK (sh.getD j 0) f t w hf ht=k at *
    have hzg:=And.intro hg hz
    by_cases hk1:(k:Int) ≤ 1
    · (repeat' (first
 | (first|refine Apz ?_|refine Aiz ?_)
 | ((first|refine Aqz ?_|refine Asz (mid:=l92r2a) (post:=l92r2b) Axz (by decide) ?_|refine Asz (mid:=l92r5a) (post:=l92r5b) Axz (by decide) ?_|refine Asz (mid:=l92r6a) (post:=l92r6b) Axz (by decide) ?_|refine Ahz ?_|refine Ajz ?_|refine Akz ?_);simp (disch:=omega) only [push_cast,seval,l92r0,l92r1,l92r2a,l92r2b,l92r2,l92r3,l92r4,l92r5a,l92r5b,l92r5,l92r6a,l92r6b,l92r6,l92r7,l92r8,l92r9,hK,c3,hk1,Bfz,List.length_set,List.set_set])
 | ((first|refine Acz ?_ ?_|refine Agz ?_ ?_|refine Afz ?_ ?_)<;>intro h<;>(try simp only [h])<;>(try simp only [bitvec_to_nat] at h)<;>(try simp only [h])<;>(first|(exfalso;omega)|(exfalso;simp_all;done)|(simp (disch:=omega) only [push_cast,seval,hK,c3,hk1,Bfz,List.length_set,List.set_set])|skip))
 | ((first|((with_reducible refine Azz (f:=99) [176,177] false ?_);simp (disch:=omega) only [push_cast,seval,hK,c3,hk1,Bfz,List.length_set,List.set_set];(refine Cwz (id:=176) (id':=177) (by decide) (G6z _ _ _ _ _ ?_ ?_ ?_) (by (simp (disch:=omega) only [push_cast,seval,hK,c3,hk1,Bfz,List.length_set,List.set_set])<;>rfl) (by (simp (disch:=omega) only [push_cast,seval,hK,c3,hk1,Bfz,List.length_set,List.set_set])<;>rfl) ?_;(iterate 3 (exact sd));rintro _ _ ⟨rfl,rfl⟩))|((with_reducible refine Azz (f:=99) [176,177] false ?_);simp (disch:=omega) only [push_cast,seval,hK,c3,hk1,Bfz,List.length_set,List.set_set];(refine Cwz (id:=176) (id':=177) (by decide) (G5z _ _ _ _ _ ?_ ?_ ?_) (by (simp (disch:=omega) only [push_cast,seval,hK,c3,hk1,Bfz,List.length_set,List.set_set])<;>rfl) (by (simp (disch:=omega) only [push_cast,seval,hK,c3,hk1,Bfz,List.length_set,List.set_set])<;>rfl) ?_;(iterate 3 (exact sd));rintro _ _ ⟨rfl,rfl⟩)))<;>(try simp (disch:=omega) only [push_cast,seval,hK,c3,hk1,Bfz,List.length_set,List.set_set]))
 | ((first|refine Arz false ?_|refine Anz false ?_);simp (disch:=omega) only [push_cast,seval,hK,c3,hk1,Bfz,List.length_set,List.set_set])
 | ((first|((first|refine Adz (A9z _ _ _ _ _ ?_ ?_ ?_) ?_|refine Abz (Aez (plainV (A9z _ _ _ _ _ ?_ ?_ ?_))) ⟨_,_,rfl,rfl⟩ ?_);(iterate 3 (exact sd));rintro _ _ ⟨rfl,rfl⟩)|((first|refine Adz (C4z _ _ _ _ _ _ ?_ ?_) ?_|refine Abz (Aez (Gjz (C4z _ _ _ _ _ _ ?_ ?_))) ⟨_,_,rfl,rfl⟩ ?_);(iterate 2 (exact sd));rintro _ _ ⟨rfl,rfl⟩)|((first|refine Adz (Aez (Bxz _ _ _ ?_ ?_)) ?_|refine Abz (Aez (Bxz _ _ _ ?_ ?_)) ⟨_,_,rfl,rfl⟩ ?_);(iterate 2 (exact sd));rintro _ _ ⟨rfl,rfl⟩)|((first|refine Adz (Aez (Bxz _ _ _ ?_ ?_)) ?_|refine Abz (Aez (Bxz _ _ _ ?_ ?_)) ⟨_,_,rfl,rfl⟩ ?_);(iterate 2 (exact sd));rintro _ _ ⟨rfl,rfl⟩)|((first|refine Adz (Aez (C3z _ _ ?_ ?_ ?_)) ?_|refine Abz (Aez (C3z _ _ ?_ ?_ ?_)) ⟨_,_,rfl,rfl⟩ ?_);(iterate 3 (exact sd));rintro _ _ ⟨rfl,rfl⟩)|((first|refine Adz (Cfz _ _ _ ?_) ?_|refine Abz (Aez (Gjz (Cfz _ _ _ ?_))) ⟨_,_,rfl,rfl⟩ ?_);(exact sd);rintro _ _ ⟨rfl,rfl⟩))<;>(try simp (disch:=omega) only [push_cast,seval,hK,c3,hk1,Bfz,List.length_set,List.set_set]))
 | (refine Amz ⟨.inr rfl,[176,960],[],_,by decide,rfl,?_⟩;(try simp (disch:=omega) only [push_cast,seval,↓Aoz,↓Alz,↓List.map_cons,↓List.map_nil,hK,c3,hk1,Bfz,List.length_set,List.set_set]))))
      all_goals (try (simp [OV];done))
    · (repeat' (first
 | (first|refine Apz ?_|refine Aiz ?_)
 | ((first|refine Aqz ?_|refine Asz (mid:=l92r2a) (post:=l92r2b) Axz (by decide) ?_|refine Asz (mid:=l92r5a) (post:=l92r5b) Axz (by decide) ?_|refine Asz (mid:=l92r6a) (post:=l92r6b) Axz (by decide) ?_|refine Ahz ?_|refine Ajz ?_|refine Akz ?_);simp (disch:=omega) only [push_cast,seval,l92r0,l92r1,l92r2a,l92r2b,l92r2,l92r3,l92r4,l92r5a,l92r5b,l92r5,l92r6a,l92r6b,l92r6,l92r7,l92r8,l92r9,hK,c3,hk1,Bfz,List.length_set,List.set_set])
 | ((first|refine Acz ?_ ?_|refine Agz ?_ ?_|refine Afz ?_ ?_)<;>intro h<;>(try simp only [h])<;>(try simp only [bitvec_to_nat] at h)<;>(try simp only [h])<;>(first|(exfalso;omega)|(exfalso;simp_all;done)|(simp (disch:=omega) only [push_cast,seval,hK,c3,hk1,Bfz,List.length_set,List.set_set])|skip))
 | ((first|((with_reducible refine Azz (f:=99) [176,177] false ?_);simp (disch:=omega) only [push_cast,seval,hK,c3,hk1,Bfz,List.length_set,List.set_set];(refine Cwz (id:=176) (id':=177) (by decide) (G6z _ _ _ _ _ ?_ ?_ ?_) (by (simp (disch:=omega) only [push_cast,seval,hK,c3,hk1,Bfz,List.length_set,List.set_set])<;>rfl) (by (simp (disch:=omega) only [push_cast,seval,hK,c3,hk1,Bfz,List.length_set,List.set_set])<;>rfl) ?_;(iterate 3 (exact sd));rintro _ _ ⟨rfl,rfl⟩))|((with_reducible refine Azz (f:=99) [176,177] false ?_);simp (disch:=omega) only [push_cast,seval,hK,c3,hk1,Bfz,List.length_set,List.set_set];(refine Cwz (id:=176) (id':=177) (by decide) (G5z _ _ _ _ _ ?_ ?_ ?_) (by (simp (disch:=omega) only [push_cast,seval,hK,c3,hk1,Bfz,List.length_set,List.set_set])<;>rfl) (by (simp (disch:=omega) only [push_cast,seval,hK,c3,hk1,Bfz,List.length_set,List.set_set])<;>rfl) ?_;(iterate 3 (exact sd));rintro _ _ ⟨rfl,rfl⟩)))<;>(try simp (disch:=omega) only [push_cast,seval,hK,c3,hk1,Bfz,List.length_set,List.set_set]))
 | ((first|refine Arz false ?_|refine Anz false ?_);simp (disch:=omega) only [push_cast,seval,hK,c3,hk1,Bfz,List.length_set,List.set_set])
 | ((first|((first|refine Adz (A9z _ _ _ _ _ ?_ ?_ ?_) ?_|refine Abz (Aez (plainV (A9z _ _ _ _ _ ?_ ?_ ?_))) ⟨_,_,rfl,rfl⟩ ?_);(iterate 3 (exact sd));rintro _ _ ⟨rfl,rfl⟩)|((first|refine Adz (C4z _ _ _ _ _ _ ?_ ?_) ?_|refine Abz (Aez (Gjz (C4z _ _ _ _ _ _ ?_ ?_))) ⟨_,_,rfl,rfl⟩ ?_);(iterate 2 (exact sd));rintro _ _ ⟨rfl,rfl⟩)|((first|refine Adz (Aez (Bxz _ _ _ ?_ ?_)) ?_|refine Abz (Aez (Bxz _ _ _ ?_ ?_)) ⟨_,_,rfl,rfl⟩ ?_);(iterate 2 (exact sd));rintro _ _ ⟨rfl,rfl⟩)|((first|refine Adz (Aez (Bxz _ _ _ ?_ ?_)) ?_|refine Abz (Aez (Bxz _ _ _ ?_ ?_)) ⟨_,_,rfl,rfl⟩ ?_);(iterate 2 (exact sd));rintro _ _ ⟨rfl,rfl⟩)|((first|refine Adz (Aez (C3z _ _ ?_ ?_ ?_)) ?_|refine Abz (Aez (C3z _ _ ?_ ?_ ?_)) ⟨_,_,rfl,rfl⟩ ?_);(iterate 3 (exact sd));rintro _ _ ⟨rfl,rfl⟩)|((first|refine Adz (Cfz _ _ _ ?_) ?_|refine Abz (Aez (Gjz (Cfz _ _ _ ?_))) ⟨_,_,rfl,rfl⟩ ?_);(exact sd);rintro _ _ ⟨rfl,rfl⟩))<;>(try simp (disch:=omega) only [push_cast,seval,hK,c3,hk1,Bfz,List.length_set,List.set_set]))
 | (refine Amz ⟨.inr rfl,[176,960],[],_,by decide,rfl,?_⟩;(try simp (disch:=omega) only [push_cast,seval,↓Aoz,↓Alz,↓List.map_cons,↓List.map_nil,hK,c3,hk1,Bfz,List.length_set,List.set_set]))))
      all_goals (try (simp [OV];done))
  · have e1:cutB b sh st j f t w hf ht=b + pS (sFrom f (sh.getD j 0) w hf) (cutK (sh.getD j 0) f t w hf ht) * st.getD j 0:=if_neg hz
    have e2:cutSt sh st j f t w hf ht=st.set j (cutX sh st j f t w hf ht):=if_neg hz
    rw [e1,e2]
    unfold cutSh at hz hg ⊢
    unfold cutX
    generalize hkk:cutK (sh.getD j 0) f t w hf ht=k at *
    have hzg:=And.intro hg hz
    by_cases hk1:(k:Int) ≤ 1
    · (repeat' (first
 | (first|refine Apz ?_|refine Aiz ?_)
 | ((first|refine Aqz ?_|refine Asz (mid:=l92r2a) (post:=l92r2b) Axz (by decide) ?_|refine Asz (mid:=l92r5a) (post:=l92r5b) Axz (by decide) ?_|refine Asz (mid:=l92r6a) (post:=l92r6b) Axz (by decide) ?_|refine Ahz ?_|refine Ajz ?_|refine Akz ?_);simp (disch:=omega) only [push_cast,seval,l92r0,l92r1,l92r2a,l92r2b,l92r2,l92r3,l92r4,l92r5a,l92r5b,l92r5,l92r6a,l92r6b,l92r6,l92r7,l92r8,l92r9,hK,c3,hk1,Bfz,List.length_set,List.set_set,List.length_replicate])
 | ((first|refine Acz ?_ ?_|refine Agz ?_ ?_|refine Afz ?_ ?_)<;>intro h<;>(try simp only [h])<;>(try simp only [bitvec_to_nat] at h)<;>(try simp only [h])<;>(first|(exfalso;omega)|(exfalso;simp_all;done)|(simp (disch:=omega) only [push_cast,seval,hK,c3,hk1,Bfz,List.length_set,List.set_set,List.length_replicate])|skip))
 | ((first|((with_reducible refine Azz (f:=99) [176,177] false ?_);simp (disch:=omega) only [push_cast,seval,hK,c3,hk1,Bfz,List.length_set,List.set_set,List.length_replicate];(refine Cwz (id:=176) (id':=177) (by decide) (G6z _ _ _ _ _ ?_ ?_ ?_) (by (simp (disch:=omega) only [push_cast,seval,hK,c3,hk1,Bfz,List.length_set,List.set_set,List.length_replicate])<;>rfl) (by (simp (disch:=omega) only [push_cast,seval,hK,c3,hk1,Bfz,List.length_set,List.set_set,List.length_replicate])<;>rfl) ?_;(iterate 3 (exact sd));rintro _ _ ⟨rfl,rfl⟩))|((with_reducible refine Azz (f:=99) [176,177] false ?_);simp (disch:=omega) only [push_cast,seval,hK,c3,hk1,Bfz,List.length_set,List.set_set,List.length_replicate];(refine Cwz (id:=176) (id':=177) (by decide) (G5z _ _ _ _ _ ?_ ?_ ?_) (by (simp (disch:=omega) only [push_cast,seval,hK,c3,hk1,Bfz,List.length_set,List.set_set,List.length_replicate])<;>rfl) (by (simp (disch:=omega) only [push_cast,seval,hK,c3,hk1,Bfz,List.length_set,List.set_set,List.length_replicate])<;>rfl) ?_;(iterate 3 (exact sd));rintro _ _ ⟨rfl,rfl⟩)))<;>(try simp (disch:=omega) only [push_cast,seval,hK,c3,hk1,Bfz,List.length_set,List.set_set,List.length_replicate]))
 | ((first|refine Arz false ?_|refine Anz false ?_);simp (disch:=omega) only [push_cast,seval,hK,c3,hk1,Bfz,List.length_set,List.set_set,List.length_replicate])
 | ((first|((first|refine Adz (A9z _ _ _ _ _ ?_ ?_ ?_) ?_|refine Abz (Aez (plainV (A9z _ _ _ _ _ ?_ ?_ ?_))) ⟨_,_,rfl,rfl⟩ ?_);(iterate 3 (exact sd));rintro _ _ ⟨rfl,rfl⟩)|((first|refine Adz (C4z _ _ _ _ _ _ ?_ ?_) ?_|refine Abz (Aez (Gjz (C4z _ _ _ _ _ _ ?_ ?_))) ⟨_,_,rfl,rfl⟩ ?_);(iterate 2 (exact sd));rintro _ _ ⟨rfl,rfl⟩)|((first|refine Adz (Aez (Bxz _ _ _ ?_ ?_)) ?_|refine Abz (Aez (Bxz _ _ _ ?_ ?_)) ⟨_,_,rfl,rfl⟩ ?_);(iterate 2 (exact sd));rintro _ _ ⟨rfl,rfl⟩)|((first|refine Adz (Aez (Bxz _ _ _ ?_ ?_)) ?_|refine Abz (Aez (Bxz _ _ _ ?_ ?_)) ⟨_,_,rfl,rfl⟩ ?_);(iterate 2 (exact sd));rintro _ _ ⟨rfl,rfl⟩)|((first|refine Adz (Aez (C3z _ _ ?_ ?_ ?_)) ?_|refine Abz (Aez (C3z _ _ ?_ ?_ ?_)) ⟨_,_,rfl,rfl⟩ ?_);(iterate 3 (exact sd));rintro _ _ ⟨rfl,rfl⟩)|((first|refine Adz (Cfz _ _ _ ?_) ?_|refine Abz (Aez (Gjz (Cfz _ _ _ ?_))) ⟨_,_,rfl,rfl⟩ ?_);(exact sd);rintro _ _ ⟨rfl,rfl⟩))<;>(try simp (disch:=omega) only [push_cast,seval,hK,c3,hk1,Bfz,List.length_set,List.set_set,List.length_replicate]))
 | (refine Amz ⟨.inr rfl,[176,177],[],_,by decide,rfl,?_⟩;(try simp (disch:=omega) only [push_cast,seval,↓Aoz,↓Alz,↓List.map_cons,↓List.map_nil,hK,c3,hk1,Bfz,List.length_set,List.set_set,List.length_replicate]))))
      all_goals (try (simp [OV,hk1,hl];done))
    · (repeat' (first
 | (first|refine Apz ?_|refine Aiz ?_)
 | ((first|refine Aqz ?_|refine Asz (mid:=l92r2a) (post:=l92r2b) Axz (by decide) ?_|refine Asz (mid:=l92r5a) (post:=l92r5b) Axz (by decide) ?_|refine Asz (mid:=l92r6a) (post:=l92r6b) Axz (by decide) ?_|refine Ahz ?_|refine Ajz ?_|refine Akz ?_);simp (disch:=omega) only [push_cast,seval,l92r0,l92r1,l92r2a,l92r2b,l92r2,l92r3,l92r4,l92r5a,l92r5b,l92r5,l92r6a,l92r6b,l92r6,l92r7,l92r8,l92r9,hK,c3,hk1,Bfz,List.length_set,List.set_set,List.length_replicate])
 | ((first|refine Acz ?_ ?_|refine Agz ?_ ?_|refine Afz ?_ ?_)<;>intro h<;>(try simp only [h])<;>(try simp only [bitvec_to_nat] at h)<;>(try simp only [h])<;>(first|(exfalso;omega)|(exfalso;simp_all;done)|(simp (disch:=omega) only [push_cast,seval,hK,c3,hk1,Bfz,List.length_set,List.set_set,List.length_replicate])|skip))
 | ((first|((with_reducible refine Azz (f:=99) [176,177] false ?_);simp (disch:=omega) only [push_cast,seval,hK,c3,hk1,Bfz,List.length_set,List.set_set,List.length_replicate];(refine Cwz (id:=176) (id':=177) (by decide) (G6z _ _ _ _ _ ?_ ?_ ?_) (by (simp (disch:=omega) only [push_cast,seval,hK,c3,hk1,Bfz,List.length_set,List.set_set,List.length_replicate])<;>rfl) (by (simp (disch:=omega) only [push_cast,seval,hK,c3,hk1,Bfz,List.length_set,List.set_set,List.length_replicate])<;>rfl) ?_;(iterate 3 (exact sd));rintro _ _ ⟨rfl,rfl⟩))|((with_reducible refine Azz (f:=99) [176,177] false ?_);simp (disch:=omega) only [push_cast,seval,hK,c3,hk1,Bfz,List.length_set,List.set_set,List.length_replicate];(refine Cwz (id:=176) (id':=177) (by decide) (G5z _ _ _ _ _ ?_ ?_ ?_) (by (simp (disch:=omega) only [push_cast,seval,hK,c3,hk1,Bfz,List.length_set,List.set_set,List.length_replicate])<;>rfl) (by (simp (disch:=omega) only [push_cast,seval,hK,c3,hk1,Bfz,List.length_set,List.set_set,List.length_replicate])<;>rfl) ?_;(iterate 3 (exact sd));rintro _ _ ⟨rfl,rfl⟩)))<;>(try simp (disch:=omega) only [push_cast,seval,hK,c3,hk1,Bfz,List.length_set,List.set_set,List.length_replicate]))
 | ((first|refine Arz false ?_|refine Anz false ?_);simp (disch:=omega) only [push_cast,seval,hK,c3,hk1,Bfz,List.length_set,List.set_set,List.length_replicate])
 | ((first|((first|refine Adz (A9z _ _ _ _ _ ?_ ?_ ?_) ?_|refine Abz (Aez (plainV (A9z _ _ _ _ _ ?_ ?_ ?_))) ⟨_,_,rfl,rfl⟩ ?_);(iterate 3 (exact sd));rintro _ _ ⟨rfl,rfl⟩)|((first|refine Adz (C4z _ _ _ _ _ _ ?_ ?_) ?_|refine Abz (Aez (Gjz (C4z _ _ _ _ _ _ ?_ ?_))) ⟨_,_,rfl,rfl⟩ ?_);(iterate 2 (exact sd));rintro _ _ ⟨rfl,rfl⟩)|((first|refine Adz (Aez (Bxz _ _ _ ?_ ?_)) ?_|refine Abz (Aez (Bxz _ _ _ ?_ ?_)) ⟨_,_,rfl,rfl⟩ ?_);(iterate 2 (exact sd));rintro _ _ ⟨rfl,rfl⟩)|((first|refine Adz (Aez (Bxz _ _ _ ?_ ?_)) ?_|refine Abz (Aez (Bxz _ _ _ ?_ ?_)) ⟨_,_,rfl,rfl⟩ ?_);(iterate 2 (exact sd));rintro _ _ ⟨rfl,rfl⟩)|((first|refine Adz (Aez (C3z _ _ ?_ ?_ ?_)) ?_|refine Abz (Aez (C3z _ _ ?_ ?_ ?_)) ⟨_,_,rfl,rfl⟩ ?_);(iterate 3 (exact sd));rintro _ _ ⟨rfl,rfl⟩)|((first|refine Adz (Cfz _ _ _ ?_) ?_|refine Abz (Aez (Gjz (Cfz _ _ _ ?_))) ⟨_,_,rfl,rfl⟩ ?_);(exact sd);rintro _ _ ⟨rfl,rfl⟩))<;>(try simp (disch:=omega) only [push_cast,seval,hK,c3,hk1,Bfz,List.length_set,List.set_set,List.length_replicate]))
 | (refine Amz ⟨.inr rfl,[176,177],[],_,by decide,rfl,?_⟩;(try simp (disch:=omega) only [push_cast,seval,↓Aoz,↓Alz,↓List.map_cons,↓List.map_nil,hK,c3,hk1,Bfz,List.length_set,List.set_set,List.length_replicate]))))
      all_goals (try (simp [OV,hk1,hl];done))

end Go.Proofs.YtkpcjppnjmhanaaDoor
namespace Go.Proofs.YtkpcjppnjmhanaaDoor
open VwM Vw Go
variable [SentA]

def sdOk (b:Int) (sh st:List Int) (d:Int) (f t w:Int) (hf ht:Bool):Bool :=
  vV b sh st && (decide (0 ≤ d) && decide (d ≤ (sh.length:Int) - 1)) && vS f t w hf ht && vV (cutB b sh st d.toNat f t w hf ht) (cutSh sh d.toNat f t w hf ht) (cutSt sh st d.toNat f t w hf ht)
theorem fls_and {p q:Prop} [Decidable p] [Decidable q] (h:¬ (p ∧ q)):(decide p && decide q)=false:=by
  rw [Bool.eq_false_iff];intro h';simp at h';exact h h'
theorem tru_and {p q:Prop} [Decidable p] [Decidable q] (h:p ∧ q):(decide p && decide q)=true:=by simp [h.1,h.2]


theorem B7z (b:Int) (sh st:List Int) (n m:Nat) (d:Int) (f t w:Int) (hf ht:Bool) (hn:sh.length=n) (hm:st.length=m) (hb:n ≤ 1099511627776 ∧ m ≤ 1099511627776) :
    BCall Tryd.prog 86 [.agg [.int .i64 b,.rows false (IL sh) n,.rows false (IL st) m],.int .i64 d,slc f t w hf ht] [] (MV (sdOk b sh st d f t w hf ht) (cutB b sh st d.toNat f t w hf ht) (cutSh sh d.toNat f t w hf ht) (cutSt sh st d.toNat f t w hf ht)):=by
  subst hn hm
  obtain ⟨hb1,hb2⟩:=hb
  refine A5z (pins:=[]) (pin:=0) l86_eq rfl rfl rfl ?_
  cases hv:vV b sh st with
  | false =>
    have e:sdOk b sh st d f t w hf ht=false:=by simp [sdOk,hv]
    rw [e]
    (repeat' (first
 | (first|refine Apz ?_|refine Aiz ?_)
 | ((first|refine Aqz ?_|refine Ahz ?_|refine Ajz ?_|refine Akz ?_);simp (disch:=omega) only [push_cast,seval,l86r0,l86r1,l86r2,l86r3,hv])
 | ((first|refine Acz ?_ ?_|refine Agz ?_ ?_|refine Afz ?_ ?_)<;>intro h<;>(try simp only [h])<;>(try simp only [bitvec_to_nat] at h)<;>(try simp only [h])<;>(first|(exfalso;omega)|(exfalso;simp_all;done)|(simp (disch:=omega) only [push_cast,seval,hv])|skip))
 | ((first|refine Arz false ?_|refine Anz false ?_);simp (disch:=omega) only [push_cast,seval,hv])
 | ((first|((first|refine Adz (Aez (Awz _ _ _ _ _ ?_ ?_ ?_)) ?_|refine Abz (Aez (Awz _ _ _ _ _ ?_ ?_ ?_)) ⟨_,_,rfl,rfl⟩ ?_);(iterate 3 (exact sd));rintro _ _ ⟨rfl,rfl⟩)|((first|refine Adz (Aez (D0z _ _ _ _ _ _ ?_ ?_)) ?_|refine Abz (Aez (D0z _ _ _ _ _ _ ?_ ?_)) ⟨_,_,rfl,rfl⟩ ?_);(iterate 2 (exact sd));rintro _ _ ⟨rfl,rfl⟩)|((first|refine Adz (Aez (B6z _ _ _ _ _)) ?_|refine Abz (Aez (B6z _ _ _ _ _)) ⟨_,_,rfl,rfl⟩ ?_);rintro _ _ ⟨rfl,rfl⟩)|((first|refine Adz (Diz _ _ _ _ _ _ _ _ _ _ _ ?_ ?_ ?_ ?_) ?_|refine Abz (Diz _ _ _ _ _ _ _ _ _ _ _ ?_ ?_ ?_ ?_) ⟨_,_,rfl,rfl⟩ ?_);(iterate 4 (exact sd));rintro _ _ ⟨rfl,rfl⟩)|((first|refine Adz (Esz _ _ _ _ _ ?_ ?_ ?_) ?_|refine Abz (Esz _ _ _ _ _ ?_ ?_ ?_) ⟨_,_,rfl,rfl⟩ ?_);(iterate 3 (exact sd));rintro _ _ ⟨rfl,rfl⟩))<;>(try simp (disch:=omega) only [push_cast,seval,hv]))
 | (refine Amz ⟨.inr rfl,[16000,16016],[(16000,1),(16016,1)],_,by decide,rfl,?_⟩;(try simp (disch:=omega) only [push_cast,seval,↓Aoz,↓Alz,↓List.map_cons,↓List.map_nil,hv]))))
    all_goals simp [MV,MVB,MVL]
  | true =>
  by_cases hd:0 ≤ d ∧ d ≤ (sh.length:Int) - 1
  · cases hs:vS f t w hf ht with
    | false =>
      have e:sdOk b sh st d f t w hf ht=false:=by simp [sdOk,hs]
      have hd':=tru_and hd
      rw [e]
      (repeat' (first
 | (first|refine Apz ?_|refine Aiz ?_)
 | ((first|refine Aqz ?_|refine Ahz ?_|refine Ajz ?_|refine Akz ?_);simp (disch:=omega) only [push_cast,seval,l86r0,l86r1,l86r2,l86r3,hv,hd',hs])
 | ((first|refine Acz ?_ ?_|refine Agz ?_ ?_|refine Afz ?_ ?_)<;>intro h<;>(try simp only [h])<;>(try simp only [bitvec_to_nat] at h)<;>(try simp only [h])<;>(first|(exfalso;omega)|(exfalso;simp_all;done)|(simp (disch:=omega) only [push_cast,seval,hv,hd',hs])|skip))
 | ((first|refine Arz false ?_|refine Anz false ?_);simp (disch:=omega) only [push_cast,seval,hv,hd',hs])
 | ((first|((first|refine Adz (Aez (Awz _ _ _ _ _ ?_ ?_ ?_)) ?_|refine Abz (Aez (Awz _ _ _ _ _ ?_ ?_ ?_)) ⟨_,_,rfl,rfl⟩ ?_);(iterate 3 (exact sd));rintro _ _ ⟨rfl,rfl⟩)|((first|refine Adz (Aez (D0z _ _ _ _ _ _ ?_ ?_)) ?_|refine Abz (Aez (D0z _ _ _ _ _ _ ?_ ?_)) ⟨_,_,rfl,rfl⟩ ?_);(iterate 2 (exact sd));rintro _ _ ⟨rfl,rfl⟩)|((first|refine Adz (Aez (B6z _ _ _ _ _)) ?_|refine Abz (Aez (B6z _ _ _ _ _)) ⟨_,_,rfl,rfl⟩ ?_);rintro _ _ ⟨rfl,rfl⟩)|((first|refine Adz (Diz _ _ _ _ _ _ _ _ _ _ _ ?_ ?_ ?_ ?_) ?_|refine Abz (Diz _ _ _ _ _ _ _ _ _ _ _ ?_ ?_ ?_ ?_) ⟨_,_,rfl,rfl⟩ ?_);(iterate 4 (exact sd));rintro _ _ ⟨rfl,rfl⟩)|((first|refine Adz (Esz _ _ _ _ _ ?_ ?_ ?_) ?_|refine Abz (Esz _ _ _ _ _ ?_ ?_ ?_) ⟨_,_,rfl,rfl⟩ ?_);(iterate 3 (exact sd));rintro _ _ ⟨rfl,rfl⟩))<;>(try simp (disch:=omega) only [push_cast,seval,hv,hd',hs]))
 | (refine Amz ⟨.inr rfl,[16000,16016],[(16000,1),(16016,1)],_,by decide,rfl,?_⟩;(try simp (disch:=omega) only [push_cast,seval,↓Aoz,↓Alz,↓List.map_cons,↓List.map_nil,hv,hd',hs]))))
      all_goals simp [MV,MVB,MVL]
    | true =>
      have hd':=tru_and hd
      obtain ⟨j,rfl⟩:∃ j:Nat,d=j:=⟨d.toNat,by omega⟩
      have hj:j < sh.length:=by omega
      have e:sdOk b sh st j f t w hf ht=vV (cutB b sh st j f t w hf ht) (cutSh sh j f t w hf ht) (cutSt sh st j f t w hf ht):=by simp only [sdOk,hv,hs,hd',Int.toNat_natCast,Bool.true_and]
      rw [e]
      simp only [Int.toNat_natCast]
      have hlen:=(Eoz hv).2
      have l1:=Cez sh j f t w hf ht
      have l2:=H9z hlen j f t w hf ht
      have hq:(cutSh sh j f t w hf ht).length ≤ 1099511627776 ∧ (cutSt sh st j f t w hf ht).length ≤ 1099511627776:=by omega
      (repeat' (first
 | (first|refine Apz ?_|refine Aiz ?_)
 | ((first|refine Aqz ?_|refine Ahz ?_|refine Ajz ?_|refine Akz ?_);simp (disch:=omega) only [push_cast,seval,l86r0,l86r1,l86r2,l86r3,hv,hd',hs])
 | ((first|refine Acz ?_ ?_|refine Agz ?_ ?_|refine Afz ?_ ?_)<;>intro h<;>(try simp only [h])<;>(try simp only [bitvec_to_nat] at h)<;>(try simp only [h])<;>(first|(exfalso;omega)|(exfalso;simp_all;done)|(simp (disch:=omega) only [push_cast,seval,hv,hd',hs])|skip))
 | ((first|refine Arz false ?_|refine Anz false ?_);simp (disch:=omega) only [push_cast,seval,hv,hd',hs])
 | ((first|((first|refine Adz (Aez (Awz _ _ _ _ _ ?_ ?_ ?_)) ?_|refine Abz (Aez (Awz _ _ _ _ _ ?_ ?_ ?_)) ⟨_,_,rfl,rfl⟩ ?_);(iterate 3 (exact sd));rintro _ _ ⟨rfl,rfl⟩)|((first|refine Adz (Aez (D0z _ _ _ _ _ _ ?_ ?_)) ?_|refine Abz (Aez (D0z _ _ _ _ _ _ ?_ ?_)) ⟨_,_,rfl,rfl⟩ ?_);(iterate 2 (exact sd));rintro _ _ ⟨rfl,rfl⟩)|((first|refine Adz (Aez (B6z _ _ _ _ _)) ?_|refine Abz (Aez (B6z _ _ _ _ _)) ⟨_,_,rfl,rfl⟩ ?_);rintro _ _ ⟨rfl,rfl⟩)|((first|refine Adz (Diz _ _ _ _ _ _ _ _ _ _ _ ?_ ?_ ?_ ?_) ?_|refine Abz (Diz _ _ _ _ _ _ _ _ _ _ _ ?_ ?_ ?_ ?_) ⟨_,_,rfl,rfl⟩ ?_);(iterate 4 (exact sd));rintro _ _ ⟨rfl,rfl⟩)|((first|refine Adz (Esz _ _ _ _ _ ?_ ?_ ?_) ?_|refine Abz (Esz _ _ _ _ _ ?_ ?_ ?_) ⟨_,_,rfl,rfl⟩ ?_);(iterate 3 (exact sd));rintro _ _ ⟨rfl,rfl⟩))<;>(try simp (disch:=omega) only [push_cast,seval,hv,hd',hs]))
 | (refine Amz ⟨.inr rfl,[432,433],[],_,by decide,rfl,?_⟩;(try simp (disch:=omega) only [push_cast,seval,↓Aoz,↓Alz,↓List.map_cons,↓List.map_nil,hv,hd',hs]))))
      all_goals exact ⟨rfl,rfl⟩
  · have hd':=fls_and hd
    have e:sdOk b sh st d f t w hf ht=false:=by simp only [sdOk,hd',Bool.and_false,Bool.false_and]
    rw [e]
    (repeat' (first
 | (first|refine Apz ?_|refine Aiz ?_)
 | ((first|refine Aqz ?_|refine Ahz ?_|refine Ajz ?_|refine Akz ?_);simp (disch:=omega) only [push_cast,seval,l86r0,l86r1,l86r2,l86r3,hv,hd'])
 | ((first|refine Acz ?_ ?_|refine Agz ?_ ?_|refine Afz ?_ ?_)<;>intro h<;>(try simp only [h])<;>(try simp only [bitvec_to_nat] at h)<;>(try simp only [h])<;>(first|(exfalso;omega)|(exfalso;simp_all;done)|(simp (disch:=omega) only [push_cast,seval,hv,hd'])|skip))
 | ((first|refine Arz false ?_|refine Anz false ?_);simp (disch:=omega) only [push_cast,seval,hv,hd'])
 | ((first|((first|refine Adz (Aez (Awz _ _ _ _ _ ?_ ?_ ?_)) ?_|refine Abz (Aez (Awz _ _ _ _ _ ?_ ?_ ?_)) ⟨_,_,rfl,rfl⟩ ?_);(iterate 3 (exact sd));rintro _ _ ⟨rfl,rfl⟩)|((first|refine Adz (Aez (D0z _ _ _ _ _ _ ?_ ?_)) ?_|refine Abz (Aez (D0z _ _ _ _ _ _ ?_ ?_)) ⟨_,_,rfl,rfl⟩ ?_);(iterate 2 (exact sd));rintro _ _ ⟨rfl,rfl⟩)|((first|refine Adz (Aez (B6z _ _ _ _ _)) ?_|refine Abz (Aez (B6z _ _ _ _ _)) ⟨_,_,rfl,rfl⟩ ?_);rintro _ _ ⟨rfl,rfl⟩)|((first|refine Adz (Diz _ _ _ _ _ _ _ _ _ _ _ ?_ ?_ ?_ ?_) ?_|refine Abz (Diz _ _ _ _ _ _ _ _ _ _ _ ?_ ?_ ?_ ?_) ⟨_,_,rfl,rfl⟩ ?_);(iterate 4 (exact sd));rintro _ _ ⟨rfl,rfl⟩)|((first|refine Adz (Esz _ _ _ _ _ ?_ ?_ ?_) ?_|refine Abz (Esz _ _ _ _ _ ?_ ?_ ?_) ⟨_,_,rfl,rfl⟩ ?_);(iterate 3 (exact sd));rintro _ _ ⟨rfl,rfl⟩))<;>(try simp (disch:=omega) only [push_cast,seval,hv,hd']))
 | (refine Amz ⟨.inr rfl,[16000,16016],[(16000,1),(16016,1)],_,by decide,rfl,?_⟩;(try simp (disch:=omega) only [push_cast,seval,↓Aoz,↓Alz,↓List.map_cons,↓List.map_nil,hv,hd']))))
    all_goals simp [MV,MVB,MVL]


def winSh (sh:List Int) (j:Nat) (s:Int):List Int:=sh.set j (sh.getD j 0 - s + 1) ++ [s]
def winSt (st:List Int) (j:Nat):List Int:=st ++ [st.getD j 0]
def wnOk (b:Int) (sh st:List Int) (d s:Int):Bool :=
  vV b sh st && (decide (0 ≤ d) && decide (d ≤ (sh.length:Int) - 1)) && (decide (1 ≤ s) && decide (s ≤ sh.getD d.toNat 0)) && vV b (winSh sh d.toNat s) (winSt st d.toNat)


def adOk (b:Int) (sh st:List Int) (d:Int):Bool :=
  vV b sh st && (decide (0 ≤ d) && decide (d ≤ (sh.length:Int))) && !decide (sh.length=4) && vV b (ins sh d.toNat 1) (ins st d.toNat 0)

end Go.Proofs.YtkpcjppnjmhanaaDoor
namespace Go.Proofs.YtkpcjppnjmhanaaDoor
open VwM Vw Go
variable [SentA]

end Go.Proofs.YtkpcjppnjmhanaaDoor
