/- Texts of this verifier. -/
import Derived.Test.YtkpcjppnjmhanaaGreatDoorCB2
import Derived.Test.YtkpcjppnjmhanaaGreatDoorCM1
import Derived.Test.YtkpcjppnjmhanaaGreatDoorCW3
set_option maxHeartbeats 4000000
set_option linter.unusedSimpArgs false
set_option linter.unusedSectionVars false
set_option linter.unusedVariables false
set_option maxRecDepth 4000
namespace Go.Proofs.YtkpcjppnjmhanaaGreatDoor
open VwM Vw Go
variable [SentA]

theorem Ipz (xs ys:List Int) (n m:Nat) (hn:xs.length=n) (hm:ys.length=m) (hb:n ≤ 1099511627776 ∧ m ≤ 1099511627776):PCall Tryz.prog 133 [.rows false (IL xs) n,.rows false (IL ys) m] (fun r=>r=.bool (decide (xs=ys))):=by
  subst hn hm
  refine Awz l133_eq rfl ?_
  by_cases hl:xs.length=ys.length
  · have hl':(xs.length:Int)=ys.length:=by omega
    (repeat' (first
 | (first|refine Ahz ?_|refine Abz ?_)
 | ((first|refine Aiz ?_|refine Afz ?_|refine Apz ?_);simp (disch:=omega) only [push_cast,seval,l133r0,l133r1,l133r2,l133r3,l133r4,l133r5a,l133r5b,l133r5,l133r6,l133r7,l133r8,hl'])
 | (refine Aez ⟨.inr rfl,_,rfl,?_⟩;(try simp (disch:=omega) only [push_cast,seval,hl']))))
    refine A6z (fun k:Nat=>mkS [(0,RI xs),(1,RI ys),(5,.int .i64 k)] []) (fun k=>k ≤ xs.length ∧ ∀ j:Nat,j < k → xs.getD j 0=ys.getD j 0) (fun k=>xs.length - k) 0 ⟨Nat.zero_le _,fun j h=>absurd h (Nat.not_lt_zero _)⟩ ?_ ?_
    · (refine Sub.of_lists ?_ ?_ ?_ ?_ ?_<;>simp [Vw.mkS,Vw.lk,Vw.hk,AV.inn,innL,Aoz,Alz,Arz,-List.map_set,-List.getD_eq_getElem?_getD,hl])
    · rintro k ⟨hk,hj⟩
      by_cases hlt:k < xs.length
      · (repeat' (first
 | (first|refine Ahz ?_|refine Abz ?_)
 | ((first|refine Aiz ?_|refine Auz (mid:=l133r5a) (post:=l133r5b) Bcz (by decide) ?_|refine Afz ?_|refine Apz ?_);simp (disch:=omega) only [push_cast,seval,l133r0,l133r1,l133r2,l133r3,l133r4,l133r5a,l133r5b,l133r5,l133r6,l133r7,l133r8])
 | ((first|refine Anz (fun h=>?_) (fun h=>?_))<;>(try simp only [h])<;>(try simp only [bitvec_to_nat] at h)<;>(try simp only [h])<;>(first|(exfalso;omega)|(exfalso;simp_all;done)|(simp (disch:=omega) only [push_cast,seval])|skip))
 | (refine Aez ⟨.inr rfl,_,rfl,?_⟩;(try simp (disch:=omega) only [push_cast,seval]))))
        · simp;rintro rfl;exact absurd rfl ‹_›
        · refine ⟨k + 1,⟨by omega,fun j h=>?_⟩,by omega,?_⟩
          · by_cases hjk:j=k
            · subst hjk;assumption
            · exact hj j (by omega)
          · (refine Sub.of_lists ?_ ?_ ?_ ?_ ?_<;>simp [Vw.mkS,Vw.lk,Vw.hk,AV.inn,innL,Aoz,Alz,Arz,-List.map_set,-List.getD_eq_getElem?_getD])
      · (repeat' (first
 | (first|refine Ahz ?_|refine Abz ?_)
 | ((first|refine Aiz ?_|refine Afz ?_|refine Ayz ?_);simp (disch:=omega) only [push_cast,seval,l133r0,l133r1,l133r2,l133r3,l133r4,l133r5a,l133r5b,l133r5,l133r6,l133r7,l133r8])
 | ((first|refine Anz (fun h=>?_) (fun h=>?_))<;>(try simp only [h])<;>(try simp only [bitvec_to_nat] at h)<;>(try simp only [h])<;>(first|(exfalso;omega)|(exfalso;simp_all;done)|(simp (disch:=omega) only [push_cast,seval])|skip))
 | (refine Aez ⟨.inr rfl,_,rfl,?_⟩;(try simp (disch:=omega) only [push_cast,seval]))))
        have:xs=ys:=Hoz hl fun j h=>hj j (by omega)
        simp [this]
  · have hl':¬ (xs.length:Int)=ys.length:=by omega
    have:¬ xs=ys:=by rintro rfl;exact hl rfl
    (repeat' (first
 | (first|refine Ahz ?_|refine Abz ?_)
 | ((first|refine Aiz ?_|refine Afz ?_);simp (disch:=omega) only [push_cast,seval,l133r0,l133r1,l133r2,l133r3,l133r4,l133r5a,l133r5b,l133r5,l133r6,l133r7,l133r8,hl'])
 | (refine Aez ⟨.inr rfl,_,rfl,?_⟩;(try simp (disch:=omega) only [push_cast,seval,hl']))))
    simp [this]


theorem Gqz (xs:List Int) (n:Nat) (hn:xs.length=n) (hb:n ≤ 1099511627776):PCall Tryz.prog 178 [.rows false (IL xs) n] (fun r=>r=.bool (decide xs.Nodup)):=by
  subst hn
  refine Awz l178_eq rfl ?_
  (repeat' (first
 | (first|refine Ahz ?_|refine Abz ?_)
 | ((first|refine Aiz ?_);simp (disch:=omega) only [push_cast,seval,l178r0,l178r1,l178r2,l178r3a,l178r3b,l178r3,l178r4,l178r5,l178r6])
 | (refine Aez ⟨.inr rfl,_,rfl,?_⟩;(try simp (disch:=omega) only [push_cast,seval]))))
  refine A6z (fun k:Nat=>mkS [(0,RI xs),(3,.int .i64 k)] []) (fun k=>k ≤ xs.length ∧ ∀ j,j < k → xs.getD j 0 ∉ xs.take j) (fun k=>xs.length - k) 0 ⟨Nat.zero_le _,fun j h=>absurd h (Nat.not_lt_zero _)⟩ ?_ ?_
  · (refine Sub.of_lists ?_ ?_ ?_ ?_ ?_<;>simp [Vw.mkS,Vw.lk,Vw.hk,AV.inn,innL,Aoz,Alz,Arz,-List.map_set,-List.getD_eq_getElem?_getD])
  · rintro k ⟨hk,hj⟩
    by_cases hlt:k < xs.length
    · have hl:(xs.take k).length=k:=by simp;omega
      by_cases hm:xs.getD k 0 ∈ xs.take k
      · have hp:0 ≤ placeI (xs.take k) (xs.getD k 0):=by
          have:=mt (@Kbz (xs.take k) (xs.getD k 0)).1 (fun h=>h hm)
          omega
        have hno:¬ xs.Nodup:=not_nodup hlt hm
        (repeat' (first
 | (first|refine Ahz ?_|refine Abz ?_)
 | ((first|refine Aiz ?_|refine Auz (mid:=l178r3a) (post:=l178r3b) Bcz (by decide) ?_|refine Afz ?_|refine Apz ?_);simp (disch:=omega) only [push_cast,seval,l178r0,l178r1,l178r2,l178r3a,l178r3b,l178r3,l178r4,l178r5,l178r6,hp,Dnz,Nat.sub_zero])
 | ((first|refine Anz (fun h=>?_) (fun h=>?_))<;>(try simp only [h])<;>(try simp only [bitvec_to_nat] at h)<;>(try simp only [h])<;>(first|(exfalso;omega)|(exfalso;simp_all;done)|(simp (disch:=omega) only [push_cast,seval,hp,Dnz,Nat.sub_zero])|skip))
 | ((first|refine Amz false ?_);simp (disch:=omega) only [push_cast,seval,hp,Dnz,Nat.sub_zero])
 | ((first|((first|refine Akz (Ajz (Fkz _ _ _ ?_ ?_)) ?_|refine Agz (Ajz (Fkz _ _ _ ?_ ?_)) ⟨_,_,rfl,rfl⟩ ?_);(iterate 2 (exact sd));rintro _ _ ⟨rfl,rfl⟩))<;>(try simp (disch:=omega) only [push_cast,seval,hp,Dnz,Nat.sub_zero]))
 | (refine Aez ⟨.inr rfl,_,rfl,?_⟩;(try simp (disch:=omega) only [push_cast,seval,hp,Dnz,Nat.sub_zero]))))
        simp [hno]
      · have hp:¬ 0 ≤ placeI (xs.take k) (xs.getD k 0):=by have:=(@Kbz (xs.take k) (xs.getD k 0)).2 hm;omega
        (repeat' (first
 | (first|refine Ahz ?_|refine Abz ?_)
 | ((first|refine Aiz ?_|refine Auz (mid:=l178r3a) (post:=l178r3b) Bcz (by decide) ?_|refine Afz ?_|refine Apz ?_);simp (disch:=omega) only [push_cast,seval,l178r0,l178r1,l178r2,l178r3a,l178r3b,l178r3,l178r4,l178r5,l178r6,hp,Dnz,Nat.sub_zero])
 | ((first|refine Anz (fun h=>?_) (fun h=>?_))<;>(try simp only [h])<;>(try simp only [bitvec_to_nat] at h)<;>(try simp only [h])<;>(first|(exfalso;omega)|(exfalso;simp_all;done)|(simp (disch:=omega) only [push_cast,seval,hp,Dnz,Nat.sub_zero])|skip))
 | ((first|refine Amz false ?_);simp (disch:=omega) only [push_cast,seval,hp,Dnz,Nat.sub_zero])
 | ((first|((first|refine Akz (Ajz (Fkz _ _ _ ?_ ?_)) ?_|refine Agz (Ajz (Fkz _ _ _ ?_ ?_)) ⟨_,_,rfl,rfl⟩ ?_);(iterate 2 (exact sd));rintro _ _ ⟨rfl,rfl⟩))<;>(try simp (disch:=omega) only [push_cast,seval,hp,Dnz,Nat.sub_zero]))
 | (refine Aez ⟨.inr rfl,_,rfl,?_⟩;(try simp (disch:=omega) only [push_cast,seval,hp,Dnz,Nat.sub_zero]))))
        refine ⟨k + 1,⟨by omega,fun j h=>?_⟩,by omega,?_⟩
        · by_cases hjk:j=k
          · subst hjk;assumption
          · exact hj j (by omega)
        · (refine Sub.of_lists ?_ ?_ ?_ ?_ ?_<;>simp [Vw.mkS,Vw.lk,Vw.hk,AV.inn,innL,Aoz,Alz,Arz,-List.map_set,-List.getD_eq_getElem?_getD])
    · have hn:xs.Nodup:=nodup_iff.2 fun j h=>hj j (by omega)
      (repeat' (first
 | (first|refine Ahz ?_|refine Abz ?_)
 | ((first|refine Aiz ?_|refine Afz ?_|refine Ayz ?_);simp (disch:=omega) only [push_cast,seval,l178r0,l178r1,l178r2,l178r3a,l178r3b,l178r3,l178r4,l178r5,l178r6])
 | ((first|refine Anz (fun h=>?_) (fun h=>?_))<;>(try simp only [h])<;>(try simp only [bitvec_to_nat] at h)<;>(try simp only [h])<;>(first|(exfalso;omega)|(exfalso;simp_all;done)|(simp (disch:=omega) only [push_cast,seval])|skip))
 | (refine Aez ⟨.inr rfl,_,rfl,?_⟩;(try simp (disch:=omega) only [push_cast,seval]))))
      simp [hn]


end Go.Proofs.YtkpcjppnjmhanaaGreatDoor
namespace Go.Proofs.YtkpcjppnjmhanaaGreatDoor
open VwM Vw Go
variable [SentA]

end Go.Proofs.YtkpcjppnjmhanaaGreatDoor
namespace Go.Proofs.YtkpcjppnjmhanaaGreatDoor
open VwM Vw Go
variable [SentA]

theorem newReader_ok (bs:List Int) (n:Nat) (hn:bs.length=n) (hb:n ≤ 1099511627776 ∧ ∀ x ∈ bs,0 ≤ x ∧ x ≤ 255):BCall Tryz.prog 41 [.rows false (UL bs) n] [] (fun r H'=>∃ bs',okB bs' ∧ r=.ref 0 2 0 ∧ H'=[RD bs' 0]):=by
  subst hn
  obtain ⟨hb0,hb⟩:=hb
  refine Atz (pins:=[]) (pin:=0) l41_eq rfl rfl rfl ?_
  by_cases h:bs.length > 2000
  · have h':(bs.length:Int) > 2000:=by omega
    have ht:(bs.take 2000).length=2000:=by simp;omega
    have eT:(UL bs).take 2000=UL (bs.take 2000):=List.map_take.symm
    (repeat' (first
 | (first|refine Ahz ?_|refine Abz ?_)
 | ((first|refine Aiz ?_|refine Afz ?_);simp (disch:=omega) only [push_cast,seval,l41r0,l41r1,l41r2,l41r3,h',eT])
 | (refine Aez ⟨.inr rfl,[160],[],_,by decide,rfl,?_⟩;(try simp (disch:=omega) only [push_cast,seval,↓Adz,↓Acz,↓List.map_cons,↓List.map_nil,h',eT]))))
    exact ⟨bs.take 2000,⟨by omega,fun x hx=>hb x (List.mem_of_mem_take hx)⟩,by rw [RD,ht]⟩
  · have h':¬ (bs.length:Int) > 2000:=by omega
    (repeat' (first
 | (first|refine Ahz ?_|refine Abz ?_)
 | ((first|refine Aiz ?_|refine Afz ?_|refine Apz ?_);simp (disch:=omega) only [push_cast,seval,l41r0,l41r1,l41r2,l41r3,h'])
 | (refine Aez ⟨.inr rfl,[160],[],_,by decide,rfl,?_⟩;(try simp (disch:=omega) only [push_cast,seval,↓Adz,↓Acz,↓List.map_cons,↓List.map_nil,h']))))
    exact ⟨bs,⟨by omega,hb⟩,rfl⟩


theorem Enz (bs:List Int) (p n:Int) (hb:okB bs) (hp:0 ≤ p ∧ p ≤ 1000000):BCall Tryz.prog 65 [.ref 0 2 0,.int .i64 n] [RD bs p] (fun r H'=>∃ x,0 ≤ x ∧ (1 ≤ n ∧ x < n ∨ n < 1 ∧ x=0 ∨ x=0) ∧ r=.int .i64 x ∧ H'=[RD bs (p + 1)]):=by
  refine Atz (pins:=[0]) (pin:=1) l65_eq rfl rfl rfl ?_
  obtain ⟨hp1,hp2⟩:=hp
  have hbl:=hb.1
  have ep:p + 1 - 1=p:=by omega
  by_cases h1:n < 1
  · (repeat' (first
 | (first|refine Ahz ?_|refine Abz ?_)
 | ((first|refine Aiz ?_|refine Afz ?_);simp (disch:=omega) only [push_cast,seval,l65r0,l65r1,l65r2,l65r3,l65r4,l65r5,l65r6,l65r7a,l65r7b,l65r7,l65r8,l65r9,h1])
 | (refine Aez ⟨.inr rfl,[],[],_,by decide,rfl,?_⟩;(try simp (disch:=omega) only [push_cast,seval,↓Adz,↓Acz,↓List.map_cons,↓List.map_nil,h1]))))
    exact ⟨0,by omega,by omega,rfl⟩
  by_cases h2:bs.length=0
  · have h2':(bs.length:Int)=0:=by omega
    (repeat' (first
 | (first|refine Ahz ?_|refine Abz ?_)
 | ((first|refine Aiz ?_|refine Afz ?_);simp (disch:=omega) only [push_cast,seval,l65r0,l65r1,l65r2,l65r3,l65r4,l65r5,l65r6,l65r7a,l65r7b,l65r7,l65r8,l65r9,h1,h2'])
 | (refine Aez ⟨.inr rfl,[],[],_,by decide,rfl,?_⟩;(try simp (disch:=omega) only [push_cast,seval,↓Adz,↓Acz,↓List.map_cons,↓List.map_nil,h1,h2']))))
    exact ⟨0,by omega,by omega,rfl⟩
  have h2':¬ (bs.length:Int)=0:=by omega
  have hn0:¬ n=0:=by omega
  by_cases h3:p < bs.length
  · have hb1:=okB_at hb (i:=p.toNat) (by omega)
    have hw:=Kwz hb1.1 (by omega)
    (repeat' (first
 | (first|refine Ahz ?_|refine Abz ?_)
 | ((first|refine Aiz ?_|refine Afz ?_|refine Apz ?_);simp (disch:=omega) only [push_cast,seval,l65r0,l65r1,l65r2,l65r3,l65r4,l65r5,l65r6,l65r7a,l65r7b,l65r7,l65r8,l65r9,ep,h1,h2',h3,hn0,hw])
 | (refine Aez ⟨.inr rfl,[],[],_,by decide,rfl,?_⟩;(try simp (disch:=omega) only [push_cast,seval,↓Adz,↓Acz,↓List.map_cons,↓List.map_nil,ep,h1,h2',h3,hn0,hw]))))
    have:=Dpz hb1.1 (n:=n) (by omega)
    exact ⟨_,this.1,by omega,rfl⟩
  · have q1:=Dpz hp1 (n:=(bs.length:Int)) (by omega)
    have q2:=Dpz (x:=p * 7 + 3) (n:=(bs.length:Int)) (by omega) (by omega)
    have q3:=Ecz (x:=p) (y:=(bs.length:Int)) (by omega) hp1
    generalize hg1:p.tmod (bs.length:Int)=k1 at *
    generalize hg2:(p * 7 + 3).tmod (bs.length:Int)=k2 at *
    generalize hg3:p.tdiv (bs.length:Int)=k3 at *
    have b1:=okB_at hb (i:=k1.toNat) (by omega)
    have b2:=okB_at hb (i:=k2.toNat) (by omega)
    have hw1:=Kwz b1.1 (by omega)
    have hw2:=Kwz b2.1 (by omega)
    generalize hd1:bs.getD k1.toNat 0=d1 at *
    generalize hd2:bs.getD k2.toNat 0=d2 at *
    have hX:0 ≤ d1 * 131 + d2 * 1117 + p * 29 + k3 * 53 ∧ d1 * 131 + d2 * 1117 + p * 29 + k3 * 53 < 1099511627776:=by omega
    have q4:=Ecz (x:=d1 * 131 + d2 * 1117 + p * 29 + k3 * 53) (y:=64) (by omega) hX.1
    have q5:=xor_bound hX (b:=(d1 * 131 + d2 * 1117 + p * 29 + k3 * 53).tdiv 64) (by omega)
    have q6:=Dpz q5.1 (n:=n) (by omega)
    (repeat' (first
 | (first|refine Ahz ?_|refine Abz ?_)
 | ((first|refine Aiz ?_|refine Auz (mid:=l65r7a) (post:=l65r7b) Bcz (by decide) ?_|refine Afz ?_|refine Apz ?_);simp (disch:=omega) only [push_cast,seval,l65r0,l65r1,l65r2,l65r3,l65r4,l65r5,l65r6,l65r7a,l65r7b,l65r7,l65r8,l65r9,ep,h1,h2',h3,hn0,hg1,hg2,hg3,hd1,hd2,hw1,hw2])
 | (refine Aez ⟨.inr rfl,[],[],_,by decide,rfl,?_⟩;(try simp (disch:=omega) only [push_cast,seval,↓Adz,↓Acz,↓List.map_cons,↓List.map_nil,ep,h1,h2',h3,hn0,hg1,hg2,hg3,hd1,hd2,hw1,hw2]))))
    exact ⟨_,q6.1,by omega,rfl⟩


theorem Dgz (bs:List Int) (p:Int) (cs:List AV) (n:Nat) (hn:(unI cs).length=n) (hcs:cs=IL (unI cs)) (hb:okB bs) (h1:1 ≤ n ∧ n ≤ 1000 ∧ 0 ≤ p ∧ p ≤ 1000000) (hxs:∀ y ∈ unI cs,-1000 ≤ y ∧ y ≤ 1000):BCall Tryz.prog 57 [.ref 0 2 0,.own 1 n 1] [RD bs p,cs] (fun r H'=>∃ x,x ∈ unI cs ∧ (-1000 ≤ x ∧ x ≤ 1000) ∧ r=.int .i64 x ∧ H'=[RD bs (p + 1),cs]):=by
  subst hn
  generalize hxs':unI cs=xs at *
  subst hcs
  obtain ⟨h1,h2,h3⟩:=h1
  refine Atz (pins:=[0,1]) (pin:=2) l57_eq rfl rfl rfl ?_
  (repeat' (first
 | (first|refine Ahz ?_|refine Abz ?_)
 | ((first|refine Aiz ?_);simp (disch:=omega) only [push_cast,seval,l57r0,l57r1])
 | ((first|((with_reducible refine A0z (f:=65) [0] true ?_);simp (disch:=omega) only [push_cast,seval];(refine Ehz (id:=0) (Enz _ _ _ ?_ ?_) (by (simp (disch:=omega) only [push_cast,seval])<;>rfl) ?_;(iterate 2 (exact sd));rintro _ _ ⟨x,hx0,hx1,rfl,rfl⟩)))<;>(try simp (disch:=omega) only [push_cast,seval]))
 | (refine Aez ⟨.inr rfl,[],[],_,by decide,rfl,?_⟩;(try simp (disch:=omega) only [push_cast,seval,↓Adz,↓Acz,↓List.map_cons,↓List.map_nil]))))
  have hm:=Ddz (xs:=xs) (j:=x.toNat) (by omega)
  exact ⟨_,hm,hxs _ hm,rfl⟩
theorem oneR_ok (bs:List Int) (p:Int) (cs:List AV) (n:Nat) (hn:(unI cs).length=n) (hcs:cs=IL (unI cs)) (hb:okB bs) (h1:1 ≤ n ∧ n ≤ 1000 ∧ 0 ≤ p ∧ p ≤ 1000000) (hxs:∀ y ∈ unI cs,-1000 ≤ y ∧ y ≤ 1000):BCall Tryz.prog 57 [.ref 0 2 0,.rows false cs n] [RD bs p] (fun r H'=>∃ x,x ∈ unI cs ∧ (-1000 ≤ x ∧ x ≤ 1000) ∧ r=.int .i64 x ∧ H'=[RD bs (p + 1)]):=by
  subst hn
  generalize hxs':unI cs=xs at *
  subst hcs
  obtain ⟨h1,h2,h3⟩:=h1
  refine Atz (pins:=[0]) (pin:=1) l57_eq rfl rfl rfl ?_
  (repeat' (first
 | (first|refine Ahz ?_|refine Abz ?_)
 | ((first|refine Aiz ?_);simp (disch:=omega) only [push_cast,seval,l57r0,l57r1])
 | ((first|((with_reducible refine A0z (f:=65) [0] true ?_);simp (disch:=omega) only [push_cast,seval];(refine Ehz (id:=0) (Enz _ _ _ ?_ ?_) (by (simp (disch:=omega) only [push_cast,seval])<;>rfl) ?_;(iterate 2 (exact sd));rintro _ _ ⟨x,hx0,hx1,rfl,rfl⟩)))<;>(try simp (disch:=omega) only [push_cast,seval]))
 | (refine Aez ⟨.inr rfl,[],[],_,by decide,rfl,?_⟩;(try simp (disch:=omega) only [push_cast,seval,↓Adz,↓Acz,↓List.map_cons,↓List.map_nil]))))
  have hm:=Ddz (xs:=xs) (j:=x.toNat) (by omega)
  exact ⟨_,hm,hxs _ hm,rfl⟩

end Go.Proofs.YtkpcjppnjmhanaaGreatDoor
namespace Go.Proofs.YtkpcjppnjmhanaaGreatDoor
open VwM Vw Go
variable [SentA]

theorem Caz (b:Int) (sh st:List Int) (n m:Nat) (d:Int) (hn:sh.length=n) (hb:n ≤ 1099511627776):PCall Tryz.prog 121 [.agg [.int .i64 b,.rows false (IL sh) n,.rows false (IL st) m],.int .i64 d] (fun r=>r=.bool (decide (0 ≤ d) && decide (d ≤ (n:Int) - 1))):=by
  subst hn
  refine Awz l121_eq rfl ?_
  (repeat' (first
 | (first|refine Ahz ?_|refine Abz ?_)
 | ((first|refine Aiz ?_);simp (disch:=omega) only [push_cast,seval,l121r0,l121r1])
 | ((first|refine Amz false ?_);simp (disch:=omega) only [push_cast,seval])
 | ((first|((first|refine Akz (Ajz (Asz _ _ _)) ?_|refine Agz (Ajz (Asz _ _ _)) ⟨_,_,rfl,rfl⟩ ?_);rintro _ _ ⟨rfl,rfl⟩))<;>(try simp (disch:=omega) only [push_cast,seval]))
 | (refine Aez ⟨.inr rfl,_,rfl,?_⟩;(try simp (disch:=omega) only [push_cast,seval]))))


theorem A7z (b:Int) (sh st:List Int) (n m:Nat) (hn:sh.length=n) (hm:st.length=m) (hb:n ≤ 1099511627776 ∧ m ≤ 1099511627776):BCall Tryz.prog 89 [.agg [.int .i64 b,.rows false (IL sh) n,.rows false (IL st) m]] [] (OV b sh st):=by
  subst hn hm
  obtain ⟨hb1,hb2⟩:=hb
  refine Atz (pins:=[]) (pin:=0) l89_eq rfl rfl rfl ?_
  (repeat' (first
 | (first|refine Ahz ?_|refine Abz ?_)
 | ((first|refine Aiz ?_|refine Auz (mid:=l89r1a) (post:=l89r1b) Bcz (by decide) ?_);simp (disch:=omega) only [push_cast,seval,l89r0,l89r1a,l89r1b,l89r1])
 | ((first|refine Azz false ?_);simp (disch:=omega) only [push_cast,seval])
 | ((first|((first|refine Akz (Buz _ _ ?_ ?_) ?_|refine Agz (Buz _ _ ?_ ?_) ⟨_,_,rfl,rfl⟩ ?_);(iterate 2 (exact sd));rintro _ _ ⟨rfl,rfl⟩))<;>(try simp (disch:=omega) only [push_cast,seval]))
 | (refine Aez ⟨.inr rfl,[112,160],[],_,by decide,rfl,?_⟩;(try simp (disch:=omega) only [push_cast,seval,↓Adz,↓Acz,↓List.map_cons,↓List.map_nil]))))
  all_goals simp [OV]


theorem Dzz (b:Int) (sh st:List Int) (n m:Nat) (hn:sh.length=n) (hm:st.length=m) (hb:n ≤ 1099511627776 ∧ m ≤ 1099511627776):BCall Tryz.prog 123 [.agg [.int .i64 b,.rows false (IL sh) n,.rows false (IL st) m]] [] (MV (vV b sh st) b sh st):=by
  subst hn hm
  obtain ⟨hb1,hb2⟩:=hb
  refine Atz (pins:=[]) (pin:=0) l123_eq rfl rfl rfl ?_
  cases hv:vV b sh st with
  | false =>
    (repeat' (first
 | (first|refine Ahz ?_|refine Abz ?_)
 | ((first|refine Aiz ?_|refine Afz ?_);simp (disch:=omega) only [push_cast,seval,l123r0,l123r1,l123r2,l123r3,hv])
 | ((first|refine Amz false ?_);simp (disch:=omega) only [push_cast,seval,hv])
 | ((first|((first|refine Akz (Ajz (Aqz _ _ _ _ _ ?_ ?_ ?_)) ?_|refine Agz (Ajz (Aqz _ _ _ _ _ ?_ ?_ ?_)) ⟨_,_,rfl,rfl⟩ ?_);(iterate 3 (exact sd));rintro _ _ ⟨rfl,rfl⟩))<;>(try simp (disch:=omega) only [push_cast,seval,hv]))
 | (refine Aez ⟨.inr rfl,[16000,16016],[(16000,1),(16016,1)],_,by decide,rfl,?_⟩;(try simp (disch:=omega) only [push_cast,seval,↓Adz,↓Acz,↓List.map_cons,↓List.map_nil,hv]))))
    all_goals simp [MV,MVB,MVL]
  | true =>
    (repeat' (first
 | (first|refine Ahz ?_|refine Abz ?_)
 | ((first|refine Aiz ?_|refine Afz ?_|refine Apz ?_);simp (disch:=omega) only [push_cast,seval,l123r0,l123r1,l123r2,l123r3,hv])
 | ((first|refine Amz false ?_);simp (disch:=omega) only [push_cast,seval,hv])
 | ((first|((first|refine Akz (Ajz (Aqz _ _ _ _ _ ?_ ?_ ?_)) ?_|refine Agz (Ajz (Aqz _ _ _ _ _ ?_ ?_ ?_)) ⟨_,_,rfl,rfl⟩ ?_);(iterate 3 (exact sd));rintro _ _ ⟨rfl,rfl⟩)|((first|refine Akz (A7z _ _ _ _ _ ?_ ?_ ?_) ?_|refine Agz (A7z _ _ _ _ _ ?_ ?_ ?_) ⟨_,_,rfl,rfl⟩ ?_);(iterate 3 (exact sd));rintro _ _ ⟨rfl,rfl⟩))<;>(try simp (disch:=omega) only [push_cast,seval,hv]))
 | (refine Aez ⟨.inr rfl,[144,145],[],_,by decide,rfl,?_⟩;(try simp (disch:=omega) only [push_cast,seval,↓Adz,↓Acz,↓List.map_cons,↓List.map_nil,hv]))))
    all_goals simp [MV,MVB,MVL]


theorem stidy0_ok (b:Int) (sh st:List Int) (n m:Nat) (hn:sh.length=n) (hm:st.length=m) (hb:good4 sh ∧ pr sh=0):BCall Tryz.prog 152 [.agg [.int .i64 b,.own 0 n 1,.own 1 m 1]] [IL sh,IL st] (fun r H'=>r=.agg [.int .i64 0,.own 0 n 1,.own 2 n 1] ∧ H'=[IL sh,IL st,IL (List.replicate n 0)]):=by
  subst hn hm
  obtain ⟨hg,hz⟩:=hb
  have hl:=hg.2
  refine Atz (pins:=[0,1]) (pin:=2) l152_eq rfl rfl rfl ?_
  (repeat' (first
 | (first|refine Ahz ?_|refine Abz ?_)
 | ((first|refine Aiz ?_|refine Auz (mid:=l152r2a) (post:=l152r2b) Bcz (by decide) ?_|refine Afz ?_);simp (disch:=omega) only [push_cast,seval,l152r0,l152r1,l152r2a,l152r2b,l152r2,l152r3,hz])
 | ((first|refine Amz false ?_);simp (disch:=omega) only [push_cast,seval,hz])
 | ((first|((first|refine Akz (Ajz (Bgz _ _ ?_ ?_)) ?_|refine Agz (Ajz (Bgz _ _ ?_ ?_)) ⟨_,_,rfl,rfl⟩ ?_);(iterate 2 (exact sd));rintro _ _ ⟨rfl,rfl⟩))<;>(try simp (disch:=omega) only [push_cast,seval,hz]))
 | (refine Aez ⟨.inr rfl,[192],[],_,by decide,rfl,?_⟩;(try simp (disch:=omega) only [push_cast,seval,↓Adz,↓Acz,↓List.map_cons,↓List.map_nil,hz]))))
  all_goals simp [IL]
theorem stidy1_ok (b:Int) (sh st:List Int) (n m:Nat) (hn:sh.length=n) (hm:st.length=m) (hb:good4 sh ∧ ¬ pr sh=0):BCall Tryz.prog 152 [.agg [.int .i64 b,.own 0 n 1,.own 1 m 1]] [IL sh,IL st] (fun r H'=>r=.agg [.int .i64 b,.own 0 n 1,.own 1 m 1] ∧ H'=[IL sh,IL st]):=by
  subst hn hm
  obtain ⟨hg,hz⟩:=hb
  have hl:=hg.2
  refine Atz (pins:=[0,1]) (pin:=2) l152_eq rfl rfl rfl ?_
  (repeat' (first
 | (first|refine Ahz ?_|refine Abz ?_)
 | ((first|refine Aiz ?_|refine Afz ?_|refine Apz ?_);simp (disch:=omega) only [push_cast,seval,l152r0,l152r1,l152r2a,l152r2b,l152r2,l152r3,hz])
 | ((first|refine Amz false ?_);simp (disch:=omega) only [push_cast,seval,hz])
 | ((first|((first|refine Akz (Ajz (Bgz _ _ ?_ ?_)) ?_|refine Agz (Ajz (Bgz _ _ ?_ ?_)) ⟨_,_,rfl,rfl⟩ ?_);(iterate 2 (exact sd));rintro _ _ ⟨rfl,rfl⟩))<;>(try simp (disch:=omega) only [push_cast,seval,hz]))
 | (refine Aez ⟨.inr rfl,[],[],_,by decide,rfl,?_⟩;(try simp (disch:=omega) only [push_cast,seval,↓Adz,↓Acz,↓List.map_cons,↓List.map_nil,hz]))))


theorem J3z (xs:List Int) (n:Nat) (k:Nat) (x:Int) (hn:xs.length=n) (hb:k ≤ n ∧ n ≤ 1099511000000):BCall Tryz.prog 164 [.rows false (IL xs) n,.int .i64 k,.int .i64 x] [] (OI (ins xs k x)):=by
  subst hn
  obtain ⟨hb1,hb2⟩:=hb
  have hl:=Hqz x hb1
  refine Atz (pins:=[]) (pin:=0) l164_eq rfl rfl rfl ?_
  have hmin:min k xs.length=k:=by omega
  have hl2:(xs.take k).length=k:=by simp;omega
  have hl3:(xs.drop k).length=xs.length - k:=by simp
  have hl5:(List.map (AV.int .i64) (xs.take k) ++ [AV.int .i64 x]).length=k + 1:=by simp;omega
  have hl6:∀ ys:List Int,List.map (AV.int .i64) ys ++ [AV.int .i64 x]=List.map (AV.int .i64) (ys ++ [x]):=fun ys=>by simp
  have hl7:(xs.take k ++ [x]).length=k + 1:=by simp;omega
  (repeat' (first
 | (first|refine Ahz ?_|refine Abz ?_)
 | ((first|refine Aiz ?_|refine Bvz (mid:=l164r1a) (post:=l164r1b) [112] Bcz (by decide) ?_);simp (disch:=omega) only [push_cast,seval,l164r0,l164r1a,l164r1b,l164r1,Dnz,IL_tail,Nat.sub_zero,hmin,hl2,hl3,hl5,hl6,hl7,← List.map_append])
 | (refine Aez ⟨.inr rfl,[112],[],_,by decide,rfl,?_⟩;(try simp (disch:=omega) only [push_cast,seval,↓Adz,↓Acz,↓List.map_cons,↓List.map_nil,Dnz,IL_tail,Nat.sub_zero,hmin,hl2,hl3,hl5,hl6,hl7,← List.map_append]))))
  have hl4:xs.take k ++ [x] ++ xs.drop k=ins xs k x:=by simp [ins]
  all_goals simp only [OI,hl4,hl]
  all_goals (refine ⟨?_,trivial⟩;congr 1;omega)


theorem supTo_ok (n:Nat) (hb:n ≤ 1000):BCall Tryz.prog 142 [.int .i64 n] [] (OI (nums 0 1 n)):=by
  refine Atz (pins:=[]) (pin:=0) l142_eq rfl rfl rfl ?_
  (repeat' (first
 | (first|refine Ahz ?_|refine Abz ?_)
 | ((first|refine Aiz ?_);simp (disch:=omega) only [push_cast,seval,l142r0,l142r1,l142r2,l142r3,l142r4,l142r5,l142r6])
 | (refine Aez ⟨.inr rfl,[80],[],_,by decide,rfl,?_⟩;(try simp (disch:=omega) only [push_cast,seval,↓Adz,↓Acz,↓List.map_cons,↓List.map_nil]))))
  refine A6z (fun k:Nat=>mkS [(0,.int .i64 n),(3,.own 80 k 1),(4,.int .i64 k)] [(80,IL (nums 0 1 k))]) (fun k=>k ≤ n) (fun k=>n - k) 0 (Nat.zero_le _) ?_ ?_
  · (refine Sub.of_lists ?_ ?_ ?_ ?_ ?_<;>simp [Vw.mkS,Vw.lk,Vw.hk,AV.inn,innL,Aoz,Alz,Arz,-List.map_set,-List.getD_eq_getElem?_getD,I2z])
  · intro k hk
    have hl:=Ctz 0 1 k
    have e:nums 0 1 (k + 1)=nums 0 1 k ++ [(k:Int)]:=by rw [I3z];simp
    by_cases hlt:k < n
    · (repeat' (first
 | (first|refine Ahz ?_|refine Abz ?_)
 | ((first|refine Aiz ?_|refine Afz ?_|refine Apz ?_);simp (disch:=omega) only [push_cast,seval,l142r0,l142r1,l142r2,l142r3,l142r4,l142r5,l142r6,hl])
 | ((first|refine Anz (fun h=>?_) (fun h=>?_))<;>(try simp only [h])<;>(try simp only [bitvec_to_nat] at h)<;>(try simp only [h])<;>(first|(exfalso;omega)|(exfalso;simp_all;done)|(simp (disch:=omega) only [push_cast,seval,hl])|skip))
 | (refine Aez ⟨.inr rfl,[80],[],_,by decide,rfl,?_⟩;(try simp (disch:=omega) only [push_cast,seval,↓Adz,↓Acz,↓List.map_cons,↓List.map_nil,hl]))))
      refine ⟨k + 1,by omega,by omega,?_⟩
      (refine Sub.of_lists ?_ ?_ ?_ ?_ ?_<;>simp [Vw.mkS,Vw.lk,Vw.hk,AV.inn,innL,Aoz,Alz,Arz,-List.map_set,-List.getD_eq_getElem?_getD,e])
    · have:k=n:=by omega
      subst this
      (repeat' (first
 | (first|refine Ahz ?_|refine Abz ?_)
 | ((first|refine Aiz ?_|refine Afz ?_|refine Ayz ?_);simp (disch:=omega) only [push_cast,seval,l142r0,l142r1,l142r2,l142r3,l142r4,l142r5,l142r6,hl])
 | ((first|refine Anz (fun h=>?_) (fun h=>?_))<;>(try simp only [h])<;>(try simp only [bitvec_to_nat] at h)<;>(try simp only [h])<;>(first|(exfalso;omega)|(exfalso;simp_all;done)|(simp (disch:=omega) only [push_cast,seval,hl])|skip))
 | (refine Aez ⟨.inr rfl,[80],[],_,by decide,rfl,?_⟩;(try simp (disch:=omega) only [push_cast,seval,↓Adz,↓Acz,↓List.map_cons,↓List.map_nil,hl]))))
      all_goals simp [OI,hl]


theorem C8z (xs:List Int) (n:Nat) (k:Nat) (hn:xs.length=n) (hb:n ≤ 1099511627776 ∧ k ≤ 1000):PCall Tryz.prog 162 [.rows false (IL xs) n,.int .i64 k] (fun r=>r=.bool (decide (n=k) && allI xs 0 ((k:Int) - 1) && decide xs.Nodup)):=by
  subst hn
  obtain ⟨hb1,hb2⟩:=hb
  refine Awz l162_eq rfl ?_
  have e:((xs.length:Int)=k)=(xs.length=k):=by simp;omega
  (repeat' (first
 | (first|refine Ahz ?_|refine Abz ?_)
 | ((first|refine Aiz ?_);simp (disch:=omega) only [push_cast,seval,l162r0,l162r1,e])
 | ((first|refine Bez (fun h=>?_) (fun h=>?_))<;>(try simp only [h])<;>(try simp only [bitvec_to_nat] at h)<;>(try simp only [h])<;>(first|(exfalso;omega)|(exfalso;simp_all;done)|(simp (disch:=omega) only [push_cast,seval,e])|skip))
 | ((first|refine Amz false ?_);simp (disch:=omega) only [push_cast,seval,e])
 | ((first|((first|refine Akz (Ajz (Bmz _ _ _ _ ?_ ?_)) ?_|refine Agz (Ajz (Bmz _ _ _ _ ?_ ?_)) ⟨_,_,rfl,rfl⟩ ?_);(iterate 2 (exact sd));rintro _ _ ⟨rfl,rfl⟩)|((first|refine Akz (Ajz (Gqz _ _ ?_ ?_)) ?_|refine Agz (Ajz (Gqz _ _ ?_ ?_)) ⟨_,_,rfl,rfl⟩ ?_);(iterate 2 (exact sd));rintro _ _ ⟨rfl,rfl⟩))<;>(try simp (disch:=omega) only [push_cast,seval,e]))
 | (refine Aez ⟨.inr rfl,_,rfl,?_⟩;(try simp (disch:=omega) only [push_cast,seval,e]))))
  all_goals simp_all

end Go.Proofs.YtkpcjppnjmhanaaGreatDoor
namespace Go.Proofs.YtkpcjppnjmhanaaGreatDoor
open VwM Vw Go
variable [SentA]

/-- Facts of a slice of a dimension,for the walks. -/
theorem cut_facts {b:Int} {sh st:List Int} {j:Nat} {f t w:Int} {hf ht:Bool} (hv:vV b sh st=true) (hj:j < sh.length) (hs:vS f t w hf ht=true) :
    (0 ≤ sh.getD j 0 ∧ sh.getD j 0 ≤ 60) ∧
    vR (pS (sFrom f (sh.getD j 0) w hf) (cutK (sh.getD j 0) f t w hf ht)) (pE (sFrom f (sh.getD j 0) w hf) w (cutK (sh.getD j 0) f t w hf ht)) (pC w (cutK (sh.getD j 0) f t w hf ht))=true ∧
    cntN (pS (sFrom f (sh.getD j 0) w hf) (cutK (sh.getD j 0) f t w hf ht)) (pE (sFrom f (sh.getD j 0) w hf) w (cutK (sh.getD j 0) f t w hf ht)) (pC w (cutK (sh.getD j 0) f t w hf ht))=cutK (sh.getD j 0) f t w hf ht ∧
    (-12000 ≤ pS (sFrom f (sh.getD j 0) w hf) (cutK (sh.getD j 0) f t w hf ht) * st.getD j 0 ∧ pS (sFrom f (sh.getD j 0) w hf) (cutK (sh.getD j 0) f t w hf ht) * st.getD j 0 ≤ 12000) ∧
    (-12000 ≤ pC w (cutK (sh.getD j 0) f t w hf ht) * st.getD j 0 ∧ pC w (cutK (sh.getD j 0) f t w hf ht) * st.getD j 0 ≤ 12000) ∧
    (∀ i:Nat,i < cutK (sh.getD j 0) f t w hf ht → -1000 ≤ sFrom f (sh.getD j 0) w hf + (i:Int) * w ∧ sFrom f (sh.getD j 0) w hf + (i:Int) * w ≤ 1000) ∧
    (cutK (sh.getD j 0) f t w hf ht:Int) ≤ 60:=by
  obtain ⟨h1,h2,h3,-⟩:=Csz.1 hv
  have hg:=(B2z h1).1
  have hn:=Cmz hg hj
  have hw:=Kyz.1 hs
  have hk:=cutK_le hn hs
  have hin:=fun i hi=>idx_in hn hs (i:=i) hi
  have hst:=vSt_at h2 hj
  have hb:∀ i:Nat,i < cutK (sh.getD j 0) f t w hf ht → -100 ≤ sFrom f (sh.getD j 0) w hf + (i:Int) * w ∧ sFrom f (sh.getD j 0) w hf + (i:Int) * w ≤ 100:=fun i hi=>by have:=hin i hi;omega
  have v1:=PR_valid (s:=sFrom f (sh.getD j 0) w hf) hw.2.2.2.1 hw.2.2.1 hb
  have v2:=cntN_PR (s:=sFrom f (sh.getD j 0) w hf) hw.2.2.2.1 hw.2.2.1 hb
  have v3:=Ewz.1 v1
  have m1:=mul_bd (p:=100) (q:=60) (x:=pS (sFrom f (sh.getD j 0) w hf) (cutK (sh.getD j 0) f t w hf ht)) (y:=st.getD j 0) (by omega) (by omega)
  have m2:=mul_bd (p:=200) (q:=60) (x:=pC w (cutK (sh.getD j 0) f t w hf ht)) (y:=st.getD j 0) (by omega) (by omega)
  exact ⟨hn,v1,v2,by omega,by omega,fun i hi=>by have:=hb i hi;omega,by omega⟩


set_option maxHeartbeats 16000000 in
theorem J4z (b:Int) (sh st:List Int) (n m:Nat) (j:Nat) (f t w:Int) (hf ht:Bool) (hn:sh.length=n) (hm:st.length=m) (hb:vV b sh st=true ∧ j < n) (hs:vS f t w hf ht=true) :
    BCall Tryz.prog 124 [.agg [.int .i64 b,.rows false (IL sh) n,.rows false (IL st) m],.int .i64 j,slc f t w hf ht] [] (OV (cutB b sh st j f t w hf ht) (cutSh sh j f t w hf ht) (cutSt sh st j f t w hf ht)):=by
  subst hn hm
  obtain ⟨hv,hj⟩:=hb
  obtain ⟨c1,c2,c3,c4,c5,c6,c7⟩:=cut_facts hv hj hs
  obtain ⟨hok,hl⟩:=A4z hv
  have hl4:=hok.1.1.2
  have hbb:=(Csz.1 hv).2.2.1
  have hg:=good4_cut hok.1.1 hj hs
  have hle:(sh.length ≤ 1099511627776 ∧ st.length ≤ 1099511627776):=by omega
  have q1:cutK (sh.getD j 0) f t w hf ht ≤ 1000:=by omega
  have hj2:j < st.length:=by omega
  have hsl:(sh.set j (cutK (sh.getD j 0) f t w hf ht:Int)).length=sh.length:=by simp
  have hK:cntN (sFrom f (sh.getD j 0) w hf) (sTo t (sh.getD j 0) w ht) w=cutK (sh.getD j 0) f t w hf ht:=rfl
  refine Atz (pins:=[]) (pin:=0) l124_eq rfl rfl rfl ?_
  by_cases hz:pr (cutSh sh j f t w hf ht)=0
  · have e1:cutB b sh st j f t w hf ht=0:=if_pos hz
    have e2:cutSt sh st j f t w hf ht=List.replicate sh.length 0:=if_pos hz
    rw [e1,e2]
    unfold cutSh at hz hg ⊢
    generalize hkk:cutK (sh.getD j 0) f t w hf ht=k at *
    have hzg:=And.intro hg hz
    by_cases hk1:(k:Int) ≤ 1
    · (repeat' (first
 | (first|refine Ahz ?_|refine Abz ?_)
 | ((first|refine Aiz ?_|refine Auz (mid:=l124r2a) (post:=l124r2b) Bcz (by decide) ?_|refine Auz (mid:=l124r5a) (post:=l124r5b) Bcz (by decide) ?_|refine Auz (mid:=l124r6a) (post:=l124r6b) Bcz (by decide) ?_|refine Afz ?_);simp (disch:=omega) only [push_cast,seval,l124r0,l124r1,l124r2a,l124r2b,l124r2,l124r3,l124r4,l124r5a,l124r5b,l124r5,l124r6a,l124r6b,l124r6,l124r7,l124r8,l124r9,hK,c3,hk1,A2z,List.length_set,List.set_set])
 | ((first|((with_reducible refine A0z (f:=152) [176,177] false ?_);simp (disch:=omega) only [push_cast,seval,hK,c3,hk1,A2z,List.length_set,List.set_set];(refine Crz (id:=176) (id':=177) (by decide) (stidy0_ok _ _ _ _ _ ?_ ?_ ?_) (by (simp (disch:=omega) only [push_cast,seval,hK,c3,hk1,A2z,List.length_set,List.set_set])<;>rfl) (by (simp (disch:=omega) only [push_cast,seval,hK,c3,hk1,A2z,List.length_set,List.set_set])<;>rfl) ?_;(iterate 3 (exact sd));rintro _ _ ⟨rfl,rfl⟩)))<;>(try simp (disch:=omega) only [push_cast,seval,hK,c3,hk1,A2z,List.length_set,List.set_set]))
 | ((first|refine Amz false ?_|refine Azz false ?_);simp (disch:=omega) only [push_cast,seval,hK,c3,hk1,A2z,List.length_set,List.set_set])
 | ((first|((first|refine Akz (A7z _ _ _ _ _ ?_ ?_ ?_) ?_|refine Agz (Ajz (plainV (A7z _ _ _ _ _ ?_ ?_ ?_))) ⟨_,_,rfl,rfl⟩ ?_);(iterate 3 (exact sd));rintro _ _ ⟨rfl,rfl⟩)|((first|refine Akz (Cgz _ _ _ _ _ _ ?_ ?_) ?_|refine Agz (Ajz (Edz (Cgz _ _ _ _ _ _ ?_ ?_))) ⟨_,_,rfl,rfl⟩ ?_);(iterate 2 (exact sd));rintro _ _ ⟨rfl,rfl⟩)|((first|refine Akz (Ajz (Blz _ _ _ ?_ ?_)) ?_|refine Agz (Ajz (Blz _ _ _ ?_ ?_)) ⟨_,_,rfl,rfl⟩ ?_);(iterate 2 (exact sd));rintro _ _ ⟨rfl,rfl⟩)|((first|refine Akz (Ajz (Blz _ _ _ ?_ ?_)) ?_|refine Agz (Ajz (Blz _ _ _ ?_ ?_)) ⟨_,_,rfl,rfl⟩ ?_);(iterate 2 (exact sd));rintro _ _ ⟨rfl,rfl⟩)|((first|refine Akz (Bzz _ _ _ ?_) ?_|refine Agz (Ajz (Edz (Bzz _ _ _ ?_))) ⟨_,_,rfl,rfl⟩ ?_);(exact sd);rintro _ _ ⟨rfl,rfl⟩))<;>(try simp (disch:=omega) only [push_cast,seval,hK,c3,hk1,A2z,List.length_set,List.set_set]))
 | (refine Aez ⟨.inr rfl,[176,960],[],_,by decide,rfl,?_⟩;(try simp (disch:=omega) only [push_cast,seval,↓Adz,↓Acz,↓List.map_cons,↓List.map_nil,hK,c3,hk1,A2z,List.length_set,List.set_set]))))
      all_goals (try (simp [OV];done))
    · (repeat' (first
 | (first|refine Ahz ?_|refine Abz ?_)
 | ((first|refine Aiz ?_|refine Auz (mid:=l124r2a) (post:=l124r2b) Bcz (by decide) ?_|refine Auz (mid:=l124r5a) (post:=l124r5b) Bcz (by decide) ?_|refine Auz (mid:=l124r6a) (post:=l124r6b) Bcz (by decide) ?_|refine Afz ?_|refine Apz ?_);simp (disch:=omega) only [push_cast,seval,l124r0,l124r1,l124r2a,l124r2b,l124r2,l124r3,l124r4,l124r5a,l124r5b,l124r5,l124r6a,l124r6b,l124r6,l124r7,l124r8,l124r9,hK,c3,hk1,A2z,List.length_set,List.set_set])
 | ((first|((with_reducible refine A0z (f:=152) [176,177] false ?_);simp (disch:=omega) only [push_cast,seval,hK,c3,hk1,A2z,List.length_set,List.set_set];(refine Crz (id:=176) (id':=177) (by decide) (stidy0_ok _ _ _ _ _ ?_ ?_ ?_) (by (simp (disch:=omega) only [push_cast,seval,hK,c3,hk1,A2z,List.length_set,List.set_set])<;>rfl) (by (simp (disch:=omega) only [push_cast,seval,hK,c3,hk1,A2z,List.length_set,List.set_set])<;>rfl) ?_;(iterate 3 (exact sd));rintro _ _ ⟨rfl,rfl⟩)))<;>(try simp (disch:=omega) only [push_cast,seval,hK,c3,hk1,A2z,List.length_set,List.set_set]))
 | ((first|refine Amz false ?_|refine Azz false ?_);simp (disch:=omega) only [push_cast,seval,hK,c3,hk1,A2z,List.length_set,List.set_set])
 | ((first|((first|refine Akz (A7z _ _ _ _ _ ?_ ?_ ?_) ?_|refine Agz (Ajz (plainV (A7z _ _ _ _ _ ?_ ?_ ?_))) ⟨_,_,rfl,rfl⟩ ?_);(iterate 3 (exact sd));rintro _ _ ⟨rfl,rfl⟩)|((first|refine Akz (Cgz _ _ _ _ _ _ ?_ ?_) ?_|refine Agz (Ajz (Edz (Cgz _ _ _ _ _ _ ?_ ?_))) ⟨_,_,rfl,rfl⟩ ?_);(iterate 2 (exact sd));rintro _ _ ⟨rfl,rfl⟩)|((first|refine Akz (Ajz (Blz _ _ _ ?_ ?_)) ?_|refine Agz (Ajz (Blz _ _ _ ?_ ?_)) ⟨_,_,rfl,rfl⟩ ?_);(iterate 2 (exact sd));rintro _ _ ⟨rfl,rfl⟩)|((first|refine Akz (Ajz (Blz _ _ _ ?_ ?_)) ?_|refine Agz (Ajz (Blz _ _ _ ?_ ?_)) ⟨_,_,rfl,rfl⟩ ?_);(iterate 2 (exact sd));rintro _ _ ⟨rfl,rfl⟩)|((first|refine Akz (Bzz _ _ _ ?_) ?_|refine Agz (Ajz (Edz (Bzz _ _ _ ?_))) ⟨_,_,rfl,rfl⟩ ?_);(exact sd);rintro _ _ ⟨rfl,rfl⟩))<;>(try simp (disch:=omega) only [push_cast,seval,hK,c3,hk1,A2z,List.length_set,List.set_set]))
 | (refine Aez ⟨.inr rfl,[176,960],[],_,by decide,rfl,?_⟩;(try simp (disch:=omega) only [push_cast,seval,↓Adz,↓Acz,↓List.map_cons,↓List.map_nil,hK,c3,hk1,A2z,List.length_set,List.set_set]))))
      all_goals (try (simp [OV];done))
  · have e1:cutB b sh st j f t w hf ht=b + pS (sFrom f (sh.getD j 0) w hf) (cutK (sh.getD j 0) f t w hf ht) * st.getD j 0:=if_neg hz
    have e2:cutSt sh st j f t w hf ht=st.set j (cutX sh st j f t w hf ht):=if_neg hz
    rw [e1,e2]
    unfold cutSh at hz hg ⊢
    unfold cutX
    generalize hkk:cutK (sh.getD j 0) f t w hf ht=k at *
    have hzg:=And.intro hg hz
    by_cases hk1:(k:Int) ≤ 1
    · (repeat' (first
 | (first|refine Ahz ?_|refine Abz ?_)
 | ((first|refine Aiz ?_|refine Auz (mid:=l124r2a) (post:=l124r2b) Bcz (by decide) ?_|refine Auz (mid:=l124r5a) (post:=l124r5b) Bcz (by decide) ?_|refine Auz (mid:=l124r6a) (post:=l124r6b) Bcz (by decide) ?_|refine Afz ?_);simp (disch:=omega) only [push_cast,seval,l124r0,l124r1,l124r2a,l124r2b,l124r2,l124r3,l124r4,l124r5a,l124r5b,l124r5,l124r6a,l124r6b,l124r6,l124r7,l124r8,l124r9,hK,c3,hk1,A2z,List.length_set,List.set_set,List.length_replicate])
 | ((first|((with_reducible refine A0z (f:=152) [176,177] false ?_);simp (disch:=omega) only [push_cast,seval,hK,c3,hk1,A2z,List.length_set,List.set_set,List.length_replicate];(refine Crz (id:=176) (id':=177) (by decide) (stidy1_ok _ _ _ _ _ ?_ ?_ ?_) (by (simp (disch:=omega) only [push_cast,seval,hK,c3,hk1,A2z,List.length_set,List.set_set,List.length_replicate])<;>rfl) (by (simp (disch:=omega) only [push_cast,seval,hK,c3,hk1,A2z,List.length_set,List.set_set,List.length_replicate])<;>rfl) ?_;(iterate 3 (exact sd));rintro _ _ ⟨rfl,rfl⟩)))<;>(try simp (disch:=omega) only [push_cast,seval,hK,c3,hk1,A2z,List.length_set,List.set_set,List.length_replicate]))
 | ((first|refine Amz false ?_|refine Azz false ?_);simp (disch:=omega) only [push_cast,seval,hK,c3,hk1,A2z,List.length_set,List.set_set,List.length_replicate])
 | ((first|((first|refine Akz (A7z _ _ _ _ _ ?_ ?_ ?_) ?_|refine Agz (Ajz (plainV (A7z _ _ _ _ _ ?_ ?_ ?_))) ⟨_,_,rfl,rfl⟩ ?_);(iterate 3 (exact sd));rintro _ _ ⟨rfl,rfl⟩)|((first|refine Akz (Cgz _ _ _ _ _ _ ?_ ?_) ?_|refine Agz (Ajz (Edz (Cgz _ _ _ _ _ _ ?_ ?_))) ⟨_,_,rfl,rfl⟩ ?_);(iterate 2 (exact sd));rintro _ _ ⟨rfl,rfl⟩)|((first|refine Akz (Ajz (Blz _ _ _ ?_ ?_)) ?_|refine Agz (Ajz (Blz _ _ _ ?_ ?_)) ⟨_,_,rfl,rfl⟩ ?_);(iterate 2 (exact sd));rintro _ _ ⟨rfl,rfl⟩)|((first|refine Akz (Ajz (Blz _ _ _ ?_ ?_)) ?_|refine Agz (Ajz (Blz _ _ _ ?_ ?_)) ⟨_,_,rfl,rfl⟩ ?_);(iterate 2 (exact sd));rintro _ _ ⟨rfl,rfl⟩)|((first|refine Akz (Bzz _ _ _ ?_) ?_|refine Agz (Ajz (Edz (Bzz _ _ _ ?_))) ⟨_,_,rfl,rfl⟩ ?_);(exact sd);rintro _ _ ⟨rfl,rfl⟩))<;>(try simp (disch:=omega) only [push_cast,seval,hK,c3,hk1,A2z,List.length_set,List.set_set,List.length_replicate]))
 | (refine Aez ⟨.inr rfl,[176,177],[],_,by decide,rfl,?_⟩;(try simp (disch:=omega) only [push_cast,seval,↓Adz,↓Acz,↓List.map_cons,↓List.map_nil,hK,c3,hk1,A2z,List.length_set,List.set_set,List.length_replicate]))))
      all_goals (try (simp [OV,hk1,hl];done))
    · (repeat' (first
 | (first|refine Ahz ?_|refine Abz ?_)
 | ((first|refine Aiz ?_|refine Auz (mid:=l124r2a) (post:=l124r2b) Bcz (by decide) ?_|refine Auz (mid:=l124r5a) (post:=l124r5b) Bcz (by decide) ?_|refine Auz (mid:=l124r6a) (post:=l124r6b) Bcz (by decide) ?_|refine Afz ?_|refine Apz ?_);simp (disch:=omega) only [push_cast,seval,l124r0,l124r1,l124r2a,l124r2b,l124r2,l124r3,l124r4,l124r5a,l124r5b,l124r5,l124r6a,l124r6b,l124r6,l124r7,l124r8,l124r9,hK,c3,hk1,A2z,List.length_set,List.set_set,List.length_replicate])
 | ((first|((with_reducible refine A0z (f:=152) [176,177] false ?_);simp (disch:=omega) only [push_cast,seval,hK,c3,hk1,A2z,List.length_set,List.set_set,List.length_replicate];(refine Crz (id:=176) (id':=177) (by decide) (stidy1_ok _ _ _ _ _ ?_ ?_ ?_) (by (simp (disch:=omega) only [push_cast,seval,hK,c3,hk1,A2z,List.length_set,List.set_set,List.length_replicate])<;>rfl) (by (simp (disch:=omega) only [push_cast,seval,hK,c3,hk1,A2z,List.length_set,List.set_set,List.length_replicate])<;>rfl) ?_;(iterate 3 (exact sd));rintro _ _ ⟨rfl,rfl⟩)))<;>(try simp (disch:=omega) only [push_cast,seval,hK,c3,hk1,A2z,List.length_set,List.set_set,List.length_replicate]))
 | ((first|refine Amz false ?_|refine Azz false ?_);simp (disch:=omega) only [push_cast,seval,hK,c3,hk1,A2z,List.length_set,List.set_set,List.length_replicate])
 | ((first|((first|refine Akz (A7z _ _ _ _ _ ?_ ?_ ?_) ?_|refine Agz (Ajz (plainV (A7z _ _ _ _ _ ?_ ?_ ?_))) ⟨_,_,rfl,rfl⟩ ?_);(iterate 3 (exact sd));rintro _ _ ⟨rfl,rfl⟩)|((first|refine Akz (Cgz _ _ _ _ _ _ ?_ ?_) ?_|refine Agz (Ajz (Edz (Cgz _ _ _ _ _ _ ?_ ?_))) ⟨_,_,rfl,rfl⟩ ?_);(iterate 2 (exact sd));rintro _ _ ⟨rfl,rfl⟩)|((first|refine Akz (Ajz (Blz _ _ _ ?_ ?_)) ?_|refine Agz (Ajz (Blz _ _ _ ?_ ?_)) ⟨_,_,rfl,rfl⟩ ?_);(iterate 2 (exact sd));rintro _ _ ⟨rfl,rfl⟩)|((first|refine Akz (Ajz (Blz _ _ _ ?_ ?_)) ?_|refine Agz (Ajz (Blz _ _ _ ?_ ?_)) ⟨_,_,rfl,rfl⟩ ?_);(iterate 2 (exact sd));rintro _ _ ⟨rfl,rfl⟩)|((first|refine Akz (Bzz _ _ _ ?_) ?_|refine Agz (Ajz (Edz (Bzz _ _ _ ?_))) ⟨_,_,rfl,rfl⟩ ?_);(exact sd);rintro _ _ ⟨rfl,rfl⟩))<;>(try simp (disch:=omega) only [push_cast,seval,hK,c3,hk1,A2z,List.length_set,List.set_set,List.length_replicate]))
 | (refine Aez ⟨.inr rfl,[176,177],[],_,by decide,rfl,?_⟩;(try simp (disch:=omega) only [push_cast,seval,↓Adz,↓Acz,↓List.map_cons,↓List.map_nil,hK,c3,hk1,A2z,List.length_set,List.set_set,List.length_replicate]))))
      all_goals (try (simp [OV,hk1,hl];done))

end Go.Proofs.YtkpcjppnjmhanaaGreatDoor
