import Derived.Test.YtbplegbgofnolaaCKt
import Derived.Test.YtbplegbgofnolaaCM1
set_option linter.unusedSimpArgs false
set_option linter.unusedVariables false
set_option maxRecDepth 4000
set_option maxHeartbeats 4000000
namespace Go.Proofs.Ytbplegbgofnolaa
open VwM Vw Go

theorem newReader_ok (bs:List Int) (n:Nat) (hn:bs.length=n) (hb:n ≤ 1099511627776 ∧ ∀ x ∈ bs,0 ≤ x ∧ x ≤ 255):BCall Try.prog 44 [.rows false (UL bs) n] [] (fun r H'=>∃ bs',okB bs' ∧ r=.ref 0 2 0 ∧ H'=[RD bs' 0]):=by
  subst hn
  obtain ⟨hb0,hb⟩:=hb
  refine A3z (pins:=[]) (pin:=0) l44_eq rfl rfl rfl ?_
  by_cases h:bs.length > 2000
  · have h':(bs.length:Int) > 2000:=by omega
    have ht:(bs.take 2000).length=2000:=by simp;omega
    have eT:(UL bs).take 2000=UL (bs.take 2000):=List.map_take.symm
    (repeat' (first
 | (first|refine Anz ?_|refine Agz ?_)
 | ((first|refine Aoz ?_|refine Afz ?_|refine Ahz ?_|refine Aiz ?_);simp (disch:=omega) only [push_cast,seval,l44r0,l44r1,l44r2,l44r3,h',eT])
 | ((first|refine Acz ?_ ?_|refine Aez ?_ ?_|refine Adz ?_ ?_)<;>intro h<;>(try simp only [h])<;>(try simp only [bitvec_to_nat] at h)<;>(try simp only [h])<;>(first|(exfalso;omega)|(exfalso;simp_all;done)|(simp (disch:=omega) only [push_cast,seval,h',eT])|skip))
 | (refine Akz ⟨.inr rfl,[160],[],_,by decide,rfl,?_⟩;(try simp (disch:=omega) only [push_cast,seval,↓Alz,↓Ajz,↓List.map_cons,↓List.map_nil,h',eT]))))
    exact ⟨bs.take 2000,⟨by omega,fun x hx=>hb x (List.mem_of_mem_take hx)⟩,by rw [RD,ht]⟩
  · have h':¬ (bs.length:Int) > 2000:=by omega
    (repeat' (first
 | (first|refine Anz ?_|refine Agz ?_)
 | ((first|refine Aoz ?_|refine Afz ?_|refine Ahz ?_|refine Aiz ?_);simp (disch:=omega) only [push_cast,seval,l44r0,l44r1,l44r2,l44r3,h'])
 | ((first|refine Acz ?_ ?_|refine Aez ?_ ?_|refine Adz ?_ ?_)<;>intro h<;>(try simp only [h])<;>(try simp only [bitvec_to_nat] at h)<;>(try simp only [h])<;>(first|(exfalso;omega)|(exfalso;simp_all;done)|(simp (disch:=omega) only [push_cast,seval,h'])|skip))
 | (refine Akz ⟨.inr rfl,[160],[],_,by decide,rfl,?_⟩;(try simp (disch:=omega) only [push_cast,seval,↓Alz,↓Ajz,↓List.map_cons,↓List.map_nil,h']))))
    exact ⟨bs,⟨by omega,hb⟩,rfl⟩


theorem Baz (bs:List Int) (p n:Int) (hb:okB bs) (hp:0 ≤ p ∧ p ≤ 1000000):BCall Try.prog 73 [.ref 0 2 0,.int .i64 n] [RD bs p] (fun r H'=>∃ x,0 ≤ x ∧ (1 ≤ n ∧ x < n ∨ n < 1 ∧ x=0 ∨ x=0) ∧ r=.int .i64 x ∧ H'=[RD bs (p + 1)]):=by
  refine A3z (pins:=[0]) (pin:=1) l73_eq rfl rfl rfl ?_
  obtain ⟨hp1,hp2⟩:=hp
  have hbl:=hb.1
  have ep:p + 1 - 1=p:=by omega
  by_cases h1:n < 1
  · (repeat' (first
 | (first|refine Anz ?_|refine Agz ?_)
 | ((first|refine Aoz ?_|refine Asz (mid:=l73r7a) (post:=l73r7b) Awz (by decide) ?_|refine Afz ?_|refine Ahz ?_|refine Aiz ?_);simp (disch:=omega) only [push_cast,seval,l73r0,l73r1,l73r2,l73r3,l73r4,l73r5,l73r6,l73r7a,l73r7b,l73r7,l73r8,l73r9,h1])
 | ((first|refine Acz ?_ ?_|refine Aez ?_ ?_|refine Adz ?_ ?_)<;>intro h<;>(try simp only [h])<;>(try simp only [bitvec_to_nat] at h)<;>(try simp only [h])<;>(first|(exfalso;omega)|(exfalso;simp_all;done)|(simp (disch:=omega) only [push_cast,seval,h1])|skip))
 | (refine Akz ⟨.inr rfl,[],[],_,by decide,rfl,?_⟩;(try simp (disch:=omega) only [push_cast,seval,↓Alz,↓Ajz,↓List.map_cons,↓List.map_nil,h1]))))
    exact ⟨0,by omega,by omega,rfl⟩
  by_cases h2:bs.length=0
  · have h2':(bs.length:Int)=0:=by omega
    (repeat' (first
 | (first|refine Anz ?_|refine Agz ?_)
 | ((first|refine Aoz ?_|refine Asz (mid:=l73r7a) (post:=l73r7b) Awz (by decide) ?_|refine Afz ?_|refine Ahz ?_|refine Aiz ?_);simp (disch:=omega) only [push_cast,seval,l73r0,l73r1,l73r2,l73r3,l73r4,l73r5,l73r6,l73r7a,l73r7b,l73r7,l73r8,l73r9,h1,h2'])
 | ((first|refine Acz ?_ ?_|refine Aez ?_ ?_|refine Adz ?_ ?_)<;>intro h<;>(try simp only [h])<;>(try simp only [bitvec_to_nat] at h)<;>(try simp only [h])<;>(first|(exfalso;omega)|(exfalso;simp_all;done)|(simp (disch:=omega) only [push_cast,seval,h1,h2'])|skip))
 | (refine Akz ⟨.inr rfl,[],[],_,by decide,rfl,?_⟩;(try simp (disch:=omega) only [push_cast,seval,↓Alz,↓Ajz,↓List.map_cons,↓List.map_nil,h1,h2']))))
    exact ⟨0,by omega,by omega,rfl⟩
  have h2':¬ (bs.length:Int)=0:=by omega
  have hn0:¬ n=0:=by omega
  by_cases h3:p < bs.length
  · have hb1:=okB_at hb (i:=p.toNat) (by omega)
    have hw:=Icz hb1.1 (by omega)
    (repeat' (first
 | (first|refine Anz ?_|refine Agz ?_)
 | ((first|refine Aoz ?_|refine Asz (mid:=l73r7a) (post:=l73r7b) Awz (by decide) ?_|refine Afz ?_|refine Ahz ?_|refine Aiz ?_);simp (disch:=omega) only [push_cast,seval,l73r0,l73r1,l73r2,l73r3,l73r4,l73r5,l73r6,l73r7a,l73r7b,l73r7,l73r8,l73r9,ep,h1,h2',h3,hn0,hw])
 | ((first|refine Acz ?_ ?_|refine Aez ?_ ?_|refine Adz ?_ ?_)<;>intro h<;>(try simp only [h])<;>(try simp only [bitvec_to_nat] at h)<;>(try simp only [h])<;>(first|(exfalso;omega)|(exfalso;simp_all;done)|(simp (disch:=omega) only [push_cast,seval,ep,h1,h2',h3,hn0,hw])|skip))
 | (refine Akz ⟨.inr rfl,[],[],_,by decide,rfl,?_⟩;(try simp (disch:=omega) only [push_cast,seval,↓Alz,↓Ajz,↓List.map_cons,↓List.map_nil,ep,h1,h2',h3,hn0,hw]))))
    have:=D5z hb1.1 (n:=n) (by omega)
    exact ⟨_,this.1,by omega,rfl⟩
  · have q1:=D5z hp1 (n:=(bs.length:Int)) (by omega)
    have q2:=D5z (x:=p * 7 + 3) (n:=(bs.length:Int)) (by omega) (by omega)
    have q3:=Chz (x:=p) (y:=(bs.length:Int)) (by omega) hp1
    generalize hg1:p.tmod (bs.length:Int)=k1 at *
    generalize hg2:(p * 7 + 3).tmod (bs.length:Int)=k2 at *
    generalize hg3:p.tdiv (bs.length:Int)=k3 at *
    have b1:=okB_at hb (i:=k1.toNat) (by omega)
    have b2:=okB_at hb (i:=k2.toNat) (by omega)
    have hw1:=Icz b1.1 (by omega)
    have hw2:=Icz b2.1 (by omega)
    generalize hd1:bs.getD k1.toNat 0=d1 at *
    generalize hd2:bs.getD k2.toNat 0=d2 at *
    have hX:0 ≤ d1 * 131 + d2 * 1117 + p * 29 + k3 * 53 ∧ d1 * 131 + d2 * 1117 + p * 29 + k3 * 53 < 1099511627776:=by omega
    have q4:=Chz (x:=d1 * 131 + d2 * 1117 + p * 29 + k3 * 53) (y:=64) (by omega) hX.1
    have q5:=xor_bound hX (b:=(d1 * 131 + d2 * 1117 + p * 29 + k3 * 53).tdiv 64) (by omega)
    have q6:=D5z q5.1 (n:=n) (by omega)
    (repeat' (first
 | (first|refine Anz ?_|refine Agz ?_)
 | ((first|refine Aoz ?_|refine Asz (mid:=l73r7a) (post:=l73r7b) Awz (by decide) ?_|refine Afz ?_|refine Ahz ?_|refine Aiz ?_);simp (disch:=omega) only [push_cast,seval,l73r0,l73r1,l73r2,l73r3,l73r4,l73r5,l73r6,l73r7a,l73r7b,l73r7,l73r8,l73r9,ep,h1,h2',h3,hn0,hg1,hg2,hg3,hd1,hd2,hw1,hw2])
 | ((first|refine Acz ?_ ?_|refine Aez ?_ ?_|refine Adz ?_ ?_)<;>intro h<;>(try simp only [h])<;>(try simp only [bitvec_to_nat] at h)<;>(try simp only [h])<;>(first|(exfalso;omega)|(exfalso;simp_all;done)|(simp (disch:=omega) only [push_cast,seval,ep,h1,h2',h3,hn0,hg1,hg2,hg3,hd1,hd2,hw1,hw2])|skip))
 | (refine Akz ⟨.inr rfl,[],[],_,by decide,rfl,?_⟩;(try simp (disch:=omega) only [push_cast,seval,↓Alz,↓Ajz,↓List.map_cons,↓List.map_nil,ep,h1,h2',h3,hn0,hg1,hg2,hg3,hd1,hd2,hw1,hw2]))))
    exact ⟨_,q6.1,by omega,rfl⟩


theorem A0z (bs:List Int) (p:Int) (cs:List AV) (n:Nat) (hn:(unI cs).length=n) (hcs:cs=IL (unI cs)) (hb:okB bs) (h1:1 ≤ n ∧ n ≤ 1000 ∧ 0 ≤ p ∧ p ≤ 1000000) (hxs:∀ y ∈ unI cs,-1000 ≤ y ∧ y ≤ 1000):BCall Try.prog 46 [.ref 0 2 0,.own 1 n 1] [RD bs p,cs] (fun r H'=>∃ x,x ∈ unI cs ∧ (-1000 ≤ x ∧ x ≤ 1000) ∧ r=.int .i64 x ∧ H'=[RD bs (p + 1),cs]):=by
  subst hn
  generalize hxs':unI cs=xs at *
  subst hcs
  obtain ⟨h1,h2,h3⟩:=h1
  refine A3z (pins:=[0,1]) (pin:=2) l46_eq rfl rfl rfl ?_
  (repeat' (first
 | (first|refine Anz ?_|refine Agz ?_)
 | ((first|refine Aoz ?_|refine Afz ?_|refine Ahz ?_|refine Aiz ?_);simp (disch:=omega) only [push_cast,seval,l46r0,l46r1])
 | ((first|refine Acz ?_ ?_|refine Aez ?_ ?_|refine Adz ?_ ?_)<;>intro h<;>(try simp only [h])<;>(try simp only [bitvec_to_nat] at h)<;>(try simp only [h])<;>(first|(exfalso;omega)|(exfalso;simp_all;done)|(simp (disch:=omega) only [push_cast,seval])|skip))
 | ((first|((with_reducible refine callD_ids (f:=73) [0] true ?_);simp (disch:=omega) only [push_cast,seval];(refine Bbz (id:=0) (Baz _ _ _ ?_ ?_) (by (simp (disch:=omega) only [push_cast,seval])<;>rfl) ?_;(iterate 2 (exact sd));rintro _ _ ⟨x,hx0,hx1,rfl,rfl⟩))|((with_reducible refine qcallI_of (f:=73) [0] true ?_);simp (disch:=omega) only [push_cast,seval];(refine Bdz (id:=0) (Baz _ _ _ ?_ ?_) (by (simp (disch:=omega) only [push_cast,seval])<;>rfl) (by decide) ⟨_,_,0,by omega,Or.inr (Or.inr rfl),rfl,rfl⟩ ?_;(iterate 2 (exact sd));rintro _ _ ⟨x,hx0,hx1,rfl,rfl⟩)))<;>(try simp (disch:=omega) only [push_cast,seval]))
 | (refine Akz ⟨.inr rfl,[],[],_,by decide,rfl,?_⟩;(try simp (disch:=omega) only [push_cast,seval,↓Alz,↓Ajz,↓List.map_cons,↓List.map_nil]))))
  have hm:=A4z (xs:=xs) (j:=x.toNat) (by omega)
  exact ⟨_,hm,hxs _ hm,rfl⟩
theorem Bfz (bs:List Int) (p:Int) (cs:List AV) (n:Nat) (hn:(unI cs).length=n) (hcs:cs=IL (unI cs)) (hb:okB bs) (h1:1 ≤ n ∧ n ≤ 1000 ∧ 0 ≤ p ∧ p ≤ 1000000) (hxs:∀ y ∈ unI cs,-1000 ≤ y ∧ y ≤ 1000):BCall Try.prog 46 [.ref 0 2 0,.rows false cs n] [RD bs p] (fun r H'=>∃ x,x ∈ unI cs ∧ (-1000 ≤ x ∧ x ≤ 1000) ∧ r=.int .i64 x ∧ H'=[RD bs (p + 1)]):=by
  subst hn
  generalize hxs':unI cs=xs at *
  subst hcs
  obtain ⟨h1,h2,h3⟩:=h1
  refine A3z (pins:=[0]) (pin:=1) l46_eq rfl rfl rfl ?_
  (repeat' (first
 | (first|refine Anz ?_|refine Agz ?_)
 | ((first|refine Aoz ?_|refine Afz ?_|refine Ahz ?_|refine Aiz ?_);simp (disch:=omega) only [push_cast,seval,l46r0,l46r1])
 | ((first|refine Acz ?_ ?_|refine Aez ?_ ?_|refine Adz ?_ ?_)<;>intro h<;>(try simp only [h])<;>(try simp only [bitvec_to_nat] at h)<;>(try simp only [h])<;>(first|(exfalso;omega)|(exfalso;simp_all;done)|(simp (disch:=omega) only [push_cast,seval])|skip))
 | ((first|((with_reducible refine callD_ids (f:=73) [0] true ?_);simp (disch:=omega) only [push_cast,seval];(refine Bbz (id:=0) (Baz _ _ _ ?_ ?_) (by (simp (disch:=omega) only [push_cast,seval])<;>rfl) ?_;(iterate 2 (exact sd));rintro _ _ ⟨x,hx0,hx1,rfl,rfl⟩))|((with_reducible refine qcallI_of (f:=73) [0] true ?_);simp (disch:=omega) only [push_cast,seval];(refine Bdz (id:=0) (Baz _ _ _ ?_ ?_) (by (simp (disch:=omega) only [push_cast,seval])<;>rfl) (by decide) ⟨_,_,0,by omega,Or.inr (Or.inr rfl),rfl,rfl⟩ ?_;(iterate 2 (exact sd));rintro _ _ ⟨x,hx0,hx1,rfl,rfl⟩)))<;>(try simp (disch:=omega) only [push_cast,seval]))
 | (refine Akz ⟨.inr rfl,[],[],_,by decide,rfl,?_⟩;(try simp (disch:=omega) only [push_cast,seval,↓Alz,↓Ajz,↓List.map_cons,↓List.map_nil]))))
  have hm:=A4z (xs:=xs) (j:=x.toNat) (by omega)
  exact ⟨_,hm,hxs _ hm,rfl⟩

end Go.Proofs.Ytbplegbgofnolaa
