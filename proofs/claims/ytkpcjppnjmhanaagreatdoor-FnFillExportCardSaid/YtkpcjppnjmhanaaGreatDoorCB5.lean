/- Texts of this verifier. -/
import Derived.Test.YtkpcjppnjmhanaaGreatDoorCB4
import Derived.Test.YtkpcjppnjmhanaaGreatDoorCM1
import Derived.Test.YtkpcjppnjmhanaaGreatDoorCW3
import Derived.WalkKit
import Derived.LaidEql
import Derived.Stop.Asserts
import Derived.RowKitTokens
set_option maxHeartbeats 4000000
set_option linter.unusedSimpArgs false
set_option linter.unusedSectionVars false
set_option linter.unusedVariables false
set_option maxRecDepth 4000
namespace Go.Proofs.YtkpcjppnjmhanaaGreatDoor
open VwM Vw Go
variable [SentA]

theorem mul64_ok (k:Int) (hk:0 ≤ k ∧ k ≤ 1000):PCall Tryz.prog 154 [.int .u64 1,.int .u64 k] (fun r=>r=.tup [.int .u64 0,.int .u64 k]):=by
  obtain ⟨h0,h1⟩:=hk
  have a1:bits .and .u64 1 4294967295=1:=Mfz ⟨by decide,by decide⟩
  have a2:bits .and .u64 k 4294967295=k:=Mfz ⟨h0,by omega⟩
  have a3:bits .and .u64 0 4294967295=0:=Mfz ⟨by decide,by decide⟩
  have s1:Int.fdiv 1 4294967296=0:=by decide
  have s2:Int.fdiv k 4294967296=0:=shr_small ⟨h0,by omega⟩
  have s3:Int.fdiv 0 4294967296=0:=by decide
  have b1:IntKind.bits .u64=64:=rfl
  have e32:(2:Int) ^ (min 32 64)=4294967296:=by decide
  have w1:IntKind.u64.wrap k=k:=by rw [IntKind.wrap_u64];omega
  have w0:IntKind.u64.wrap 0=0:=by decide
  refine Axz l154_eq rfl ?_
  (repeat' (first
 | (first|refine Agz ?_|refine Abz ?_)
 | ((first|refine Ahz ?_);simp (disch:=omega) only [push_cast,seval,l154r0,l154r1,l154r2,l154r3,l154r4,l154r5,l154r6,l154r7,l154r8,l154r9,l154r10,l154r11,a1,a2,a3,s1,s2,s3,b1,e32,w1,w0,Int.one_mul,Int.zero_mul,Int.mul_zero,Int.zero_add,Int.add_zero])
 | (refine Afz ⟨.inr rfl,_,rfl,?_⟩;(try simp (disch:=omega) only [push_cast,seval,a1,a2,a3,s1,s2,s3,b1,e32,w1,w0,Int.one_mul,Int.zero_mul,Int.mul_zero,Int.zero_add,Int.add_zero]))))


theorem mul_ok (k:Int) (hk:0 ≤ k ∧ k ≤ 1000):PCall Tryz.prog 128 [.int .u64 1,.int .u64 k] (fun r=>r=.tup [.int .u64 0,.int .u64 k]):=by
  refine Axz l128_eq rfl ?_
  (repeat' (first
 | (first|refine Agz ?_|refine Abz ?_)
 | ((first|refine Ahz ?_|refine Aez ?_|refine Aoz ?_);simp (disch:=omega) only [push_cast,seval,l128r0,l128r1,l128r2,l128r3,l128r4])
 | ((first|refine Alz false ?_);simp (disch:=omega) only [push_cast,seval])
 | ((first|((first|refine Akz (Ajz (mul64_ok _ ?_)) ?_|refine Aiz (Ajz (mul64_ok _ ?_)) ⟨_,_,rfl,rfl⟩ ?_);(exact sd);rintro _ _ ⟨rfl,rfl⟩))<;>(try simp (disch:=omega) only [push_cast,seval]))
 | (refine Afz ⟨.inr rfl,_,rfl,?_⟩;(try simp (disch:=omega) only [push_cast,seval]))))


set_option maxHeartbeats 8000000 in
theorem repI_ok (x:Int) (k:Nat) (hk:k ≤ 1000):BCall Tryz.prog 96 [.rows false (IL [x]) 1,.int .i64 k] [] (fun r H'=>r=.own 0 k 1 ∧ H'=[IL (rpt [x] k)]):=by
  have w1:IntKind.u64.wrap (k:Int)=k:=by rw [IntKind.wrap_u64];omega
  have w0:IntKind.u64.wrap 1=1:=by decide
  have w2:IntKind.i64.wrap (k:Int)=k:=by rw [IntKind.wrap_i64];omega
  have w3:IntKind.u64.wrap ((1:Nat):Int)=1:=by decide
  refine Auz (pins:=[]) (pin:=0) l96_eq rfl rfl rfl ?_
  by_cases h0:k=0
  · subst h0
    have z1:IntKind.u64.wrap 0=0:=by decide
    have z2:IntKind.i64.wrap 0=0:=by decide
    (repeat' (first
 | (first|refine Agz ?_|refine Abz ?_)
 | ((first|refine Ahz ?_|refine Aez ?_|refine Aoz ?_);simp (disch:=omega) only [push_cast,seval,l96r0,l96r1,l96r2,l96r3,l96r4,l96r5,l96r6,l96r7,l96r8,l96r9a,l96r9b,l96r9,l96r10,w0,w1,w2,w3,z1,z2,Int.natCast_zero])
 | ((first|refine Alz false ?_);simp (disch:=omega) only [push_cast,seval,w0,w1,w2,w3,z1,z2,Int.natCast_zero])
 | ((first|((first|refine Akz (Ajz (mul_ok _ ?_)) ?_|refine Aiz (Ajz (mul_ok _ ?_)) ⟨_,_,rfl,rfl⟩ ?_);(exact sd);rintro _ _ ⟨rfl,rfl⟩))<;>(try simp (disch:=omega) only [push_cast,seval,w0,w1,w2,w3,z1,z2,Int.natCast_zero]))
 | (refine Afz ⟨.inr rfl,[480],[],_,by decide,rfl,?_⟩;(try simp (disch:=omega) only [push_cast,seval,↓Adz,↓Acz,↓List.map_cons,↓List.map_nil,w0,w1,w2,w3,z1,z2,Int.natCast_zero]))))
    refine A7z (fun n:Nat=>mkS [(7,.own 480 0 1),(8,.int .i64 0)] [(480,[])]) (fun n=>n=0) (fun n=>n) 0 rfl ?_ ?_
    · (refine Sub.of_lists ?_ ?_ ?_ ?_ ?_<;>simp [Vw.mkS,Vw.lk,Vw.hk,AV.inn,innL,Apz,Anz,Aqz,-List.map_set,-List.getD_eq_getElem?_getD,setRange])
    · intro n hn
      (repeat' (first
 | (first|refine Agz ?_|refine Abz ?_)
 | ((first|refine Ahz ?_|refine Aez ?_|refine A1z ?_);simp (disch:=omega) only [push_cast,seval,l96r0,l96r1,l96r2,l96r3,l96r4,l96r5,l96r6,l96r7,l96r8,l96r9a,l96r9b,l96r9,l96r10])
 | (refine Afz ⟨.inr rfl,[480],[],_,by decide,rfl,?_⟩;(try simp (disch:=omega) only [push_cast,seval,↓Adz,↓Acz,↓List.map_cons,↓List.map_nil]))))
      all_goals (first|exact ⟨rfl,rfl⟩|rfl|skip)
  · have hm1:min 1 k=1:=by omega
    have hz:List.replicate k (AV.int .i64 0)=IL (rpt [0] k):=by rw [I1z];simp
    have e0:setRange ((rpt [0] k).map (AV.int .i64)) 0 [AV.int .i64 x]=(rpK [x] [0] k 1).map (AV.int .i64):=by
      obtain ⟨j,rfl⟩:∃ j,k=j + 1:=⟨k - 1,by omega⟩
      simp [rpK,rpt,setRange]
    have lz:(rpt [0] k).length=k:=by rw [B3z];simp
    (repeat' (first
 | (first|refine Agz ?_|refine Abz ?_)
 | ((first|refine Ahz ?_|refine Aez ?_|refine Aoz ?_);simp (disch:=omega) only [push_cast,seval,l96r0,l96r1,l96r2,l96r3,l96r4,l96r5,l96r6,l96r7,l96r8,l96r9a,l96r9b,l96r9,l96r10,w0,w1,w2,w3,hm1,hz,e0,lz])
 | ((first|refine Amz (fun h=>?_) (fun h=>?_))<;>(try simp only [h])<;>(try simp only [bitvec_to_nat] at h)<;>(try simp only [h])<;>(first|(exfalso;omega)|(exfalso;simp_all;done)|(simp (disch:=omega) only [push_cast,seval,w0,w1,w2,w3,hm1,hz,e0,lz])|skip))
 | ((first|refine Alz false ?_);simp (disch:=omega) only [push_cast,seval,w0,w1,w2,w3,hm1,hz,e0,lz])
 | ((first|((first|refine Akz (Ajz (mul_ok _ ?_)) ?_|refine Aiz (Ajz (mul_ok _ ?_)) ⟨_,_,rfl,rfl⟩ ?_);(exact sd);rintro _ _ ⟨rfl,rfl⟩))<;>(try simp (disch:=omega) only [push_cast,seval,w0,w1,w2,w3,hm1,hz,e0,lz]))
 | (refine Afz ⟨.inr rfl,[480],[],_,by decide,rfl,?_⟩;(try simp (disch:=omega) only [push_cast,seval,↓Adz,↓Acz,↓List.map_cons,↓List.map_nil,w0,w1,w2,w3,hm1,hz,e0,lz]))))
    refine A7z (fun n:Nat=>mkS [(7,.own 480 k 1),(8,.int .i64 n)] [(480,IL (rpK [x] [0] k n))]) (fun n=>1 ≤ n ∧ n ≤ k) (fun n=>k - n) 1 (by omega) ?_ ?_
    · (refine Sub.of_lists ?_ ?_ ?_ ?_ ?_<;>simp [Vw.mkS,Vw.lk,Vw.hk,AV.inn,innL,Apz,Anz,Aqz,-List.map_set,-List.getD_eq_getElem?_getD])
    · rintro n ⟨hn1,hnk⟩
      have lk:=rpK_length (c:=[x]) (z:=[0]) (k:=k) (n:=n) rfl hnk
      by_cases hlt:n < k
      · obtain ⟨m,hm⟩:∃ m,min n (k - n)=m:=⟨_,rfl⟩
        have hmn:m ≤ n:=by omega
        have hmk:n + m ≤ k:=by omega
        have hm0:1 ≤ m:=by omega
        have r1:((rpK [x] [0] k n).map (AV.int .i64)).take (n)=(rpt [x] n).map (AV.int .i64):=by
          rw [← List.map_take]
          exact congrArg _ (by simpa using rpK_take (c:=[x]) (z:=[0]) (k:=k) (n:=n) (m:=n) (Nat.le_refl n))
        have r2:((rpt [x] n).map (AV.int .i64)).take (m)=(rpt [x] m).map (AV.int .i64):=by
          rw [← List.map_take]
          exact congrArg _ (by simpa using rpt_take [x] n m hmn)
        have r3:=rpK_step (c:=[x]) (z:=[0]) (k:=k) (n:=n) (m:=m) rfl hmn hmk
        simp only [List.length_cons,List.length_nil,Nat.zero_add,Nat.mul_one,Nat.reduceAdd] at r3 lk
        have lc:=B3z [x] n
        simp only [List.length_cons,List.length_nil,Nat.zero_add,Nat.mul_one,Nat.reduceAdd] at lc
        generalize rpK [x] [0] k n=F at *
        (repeat' (first
 | (first|refine Agz ?_|refine Abz ?_)
 | ((first|refine Ahz ?_|refine Bsz (mid:=l96r9a) (post:=l96r9b) [480,1000000041,1000000044] mixed (by decide) ?_|refine Aez ?_|refine Aoz ?_);simp (disch:=omega) only [push_cast,seval,l96r0,l96r1,l96r2,l96r3,l96r4,l96r5,l96r6,l96r7,l96r8,l96r9a,l96r9b,l96r9,l96r10,hm,r1,r2,r3,lk,lc,Nat.zero_add,Nat.sub_zero,Nat.mul_one,List.drop_zero])
 | ((first|refine Amz (fun h=>?_) (fun h=>?_))<;>(try simp only [h])<;>(try simp only [bitvec_to_nat] at h)<;>(try simp only [h])<;>(first|(exfalso;omega)|(exfalso;simp_all;done)|(simp (disch:=omega) only [push_cast,seval,hm,r1,r2,r3,lk,lc,Nat.zero_add,Nat.sub_zero,Nat.mul_one,List.drop_zero])|skip))
 | (refine Afz ⟨.inr rfl,[480],[],_,by decide,rfl,?_⟩;(try simp (disch:=omega) only [push_cast,seval,↓Adz,↓Acz,↓List.map_cons,↓List.map_nil,hm,r1,r2,r3,lk,lc,Nat.zero_add,Nat.sub_zero,Nat.mul_one,List.drop_zero]))))
        refine ⟨n + m,by omega,by omega,?_⟩
        (refine Sub.of_lists ?_ ?_ ?_ ?_ ?_<;>simp [Vw.mkS,Vw.lk,Vw.hk,AV.inn,innL,Apz,Anz,Aqz,-List.map_set,-List.getD_eq_getElem?_getD,r3])
      · have hke:n=k:=by omega
        subst hke
        rw [rpK_all] at lk
        simp only [List.length_cons,List.length_nil,Nat.zero_add,Nat.mul_one,Nat.reduceAdd] at lk
        rw [rpK_all]
        (repeat' (first
 | (first|refine Agz ?_|refine Abz ?_)
 | ((first|refine Ahz ?_|refine Aez ?_|refine A1z ?_);simp (disch:=omega) only [push_cast,seval,l96r0,l96r1,l96r2,l96r3,l96r4,l96r5,l96r6,l96r7,l96r8,l96r9a,l96r9b,l96r9,l96r10,lk])
 | ((first|refine Amz (fun h=>?_) (fun h=>?_))<;>(try simp only [h])<;>(try simp only [bitvec_to_nat] at h)<;>(try simp only [h])<;>(first|(exfalso;omega)|(exfalso;simp_all;done)|(simp (disch:=omega) only [push_cast,seval,lk])|skip))
 | (refine Afz ⟨.inr rfl,[480],[],_,by decide,rfl,?_⟩;(try simp (disch:=omega) only [push_cast,seval,↓Adz,↓Acz,↓List.map_cons,↓List.map_nil,lk]))))
        all_goals (try exact ⟨rfl,rfl⟩)

end Go.Proofs.YtkpcjppnjmhanaaGreatDoor
namespace Go.Proofs.YtkpcjppnjmhanaaGreatDoor
open VwM Vw Go
variable [SentA]

/-- A value can be stored everywhere. -/
def filB (mem:List Int) (b:Int) (sh st:List Int) (x:Int):Bool:=seeB mem b sh st && (decide (0 ≤ x) && decide (x ≤ 255))
def filL (mem:List Int) (b:Int) (sh st:List Int) (x:Int):List Int:=putL mem (offs b sh st) (rpt [x] (pr sh).toNat)
theorem rpt_at {x:Int} {n k:Nat} (h:k < n):(rpt [x] n).getD k 0=x:=by rw [I1z];simp [List.getD,h]


theorem C6z (x:Int):PCall Tryz.prog 92 [.rows false [.int .i64 x] 1] (fun r=>r=.bool (allI [x] 0 255)):=D8z [x] 1 rfl (by decide)


set_option maxHeartbeats 8000000 in
theorem sFill_ok (mem:List Int) (b:Int) (sh st:List Int) (x:Int) (q n m:Nat) (hq:mem.length=q) (hn:sh.length=n) (hm:st.length=m) (hb:q ≤ 1099511627776 ∧ n ≤ 1099511627776 ∧ m ≤ 1099511627776):BCall Tryz.prog 61 [.rows false (IL mem) q,.agg [.int .i64 b,.rows false (IL sh) n,.rows false (IL st) m],.int .i64 x] [] (TB (filB mem b sh st x) (filL mem b sh st x)):=by
  subst hq hn hm
  refine Auz (pins:=[]) (pin:=0) l61_eq rfl rfl rfl ?_
  unfold filB
  cases h1:seeB mem b sh st with
  | false =>
    (repeat' (first
 | (first|refine Agz ?_|refine Abz ?_)
 | ((first|refine Ahz ?_|refine Aez ?_);simp (disch:=omega) only [push_cast,seval,l61r0,l61r1,l61r2,l61r3,l61r4,l61r5,l61r6,l61r7,l61r8,l61r9,h1])
 | ((first|refine Alz false ?_);simp (disch:=omega) only [push_cast,seval,h1])
 | ((first|((first|refine Akz (Ajz (Dlz _ _ _ _ _ _ _ ?_ ?_ ?_ ?_)) ?_|refine Aiz (Ajz (Dlz _ _ _ _ _ _ _ ?_ ?_ ?_ ?_)) ⟨_,_,rfl,rfl⟩ ?_);(iterate 4 (exact sd));rintro _ _ ⟨rfl,rfl⟩))<;>(try simp (disch:=omega) only [push_cast,seval,h1]))
 | (refine Afz ⟨.inr rfl,[16000],[(16000,1)],_,by decide,rfl,?_⟩;(try simp (disch:=omega) only [push_cast,seval,↓Adz,↓Acz,↓List.map_cons,↓List.map_nil,h1]))))
    all_goals simp [TB,MVL]
  | true =>
  obtain ⟨f1,f2,f3,f4,f5,f6⟩:=Cnz h1
  by_cases hx:0 ≤ x ∧ x ≤ 255
  · have hx':(decide (0 ≤ x) && decide (x ≤ 255))=true:=by simp [hx]
    have hxa:allI [x] 0 255=true:=by simp [allI,hx]
    obtain ⟨hx1,hx2⟩:=hx
    have hol:=A8z b sh st
    have hml:mem.length ≤ 1099511627776:=by omega
    have q1:okV b sh st ∧ st.length=sh.length:=⟨f1,f2⟩
    obtain ⟨c,hc⟩:∃ c:Nat,pr sh=(c:Int):=⟨(pr sh).toNat,by omega⟩
    have hcn:(pr sh).toNat=c:=by omega
    have hck:c ≤ 1000:=by omega
    have hrl:(rpt [x] c).length=c:=by rw [B3z];simp
    have k1:seeB mem b sh st=true ∧ (c:Int)=pr sh:=⟨h1,by omega⟩
    have hpl:=C1z mem (offs b sh st) (rpt [x] c)
    rw [hx',filL,hcn]
    have hat:=fun k hk=>Iyz (k:=k) h1 hk
    rw [hcn] at hol
    generalize hL:offs b sh st=L at *
    clear k1
    (repeat' (first
 | (first|refine Agz ?_|refine Abz ?_)
 | ((first|refine Ahz ?_|refine Aez ?_|refine Aoz ?_);simp (disch:=omega) only [push_cast,seval,l61r0,l61r1,l61r2,l61r3,l61r4,l61r5,l61r6,l61r7,l61r8,l61r9,h1,hx1,hx2,hL])
 | ((first|refine Alz false ?_);simp (disch:=omega) only [push_cast,seval,h1,hx1,hx2,hL])
 | ((first|((first|refine Akz (Ajz (Dlz _ _ _ _ _ _ _ ?_ ?_ ?_ ?_)) ?_|refine Aiz (Ajz (Dlz _ _ _ _ _ _ _ ?_ ?_ ?_ ?_)) ⟨_,_,rfl,rfl⟩ ?_);(iterate 4 (exact sd));rintro _ _ ⟨rfl,rfl⟩)|((first|refine Akz (Ajz (Atz _ _ _)) ?_|refine Aiz (Ajz (Atz _ _ _)) ⟨_,_,rfl,rfl⟩ ?_);rintro _ _ ⟨rfl,rfl⟩)|((first|refine Akz (Cjz _ _ ?_ ?_) ?_|refine Aiz (Cjz _ _ ?_ ?_) ⟨_,_,rfl,rfl⟩ ?_);(iterate 2 (exact sd));rintro _ _ ⟨rfl,rfl⟩)|((first|refine Akz (Boz _ _ _ _ _ ?_ ?_ ?_) ?_|refine Aiz (Boz _ _ _ _ _ ?_ ?_ ?_) ⟨_,_,rfl,rfl⟩ ?_);(iterate 3 (exact sd));rintro _ _ ⟨rfl,rfl⟩))<;>(try simp (disch:=omega) only [push_cast,seval,h1,hx1,hx2,hL]))
 | (refine Afz ⟨.inr rfl,[336],[],_,by decide,rfl,?_⟩;(try simp (disch:=omega) only [push_cast,seval,↓Adz,↓Acz,↓List.map_cons,↓List.map_nil,h1,hx1,hx2,hL]))))
    refine A7z (fun k:Nat=>mkS [(2,.int .i64 x),(8,.own 336 mem.length 1),(9,.own 368 L.length 1),(10,.int .i64 k)] [(336,IL (putK mem L (rpt [x] c) k)),(368,IL L)])
      (fun k=>k ≤ L.length) (fun k=>L.length - k) 0 (Nat.zero_le _) ?_ ?_
    · have e0:putK mem L (rpt [x] c) 0=mem:=rfl
      (refine Sub.of_lists ?_ ?_ ?_ ?_ ?_<;>simp [Vw.mkS,Vw.lk,Vw.hk,AV.inn,innL,Apz,Anz,Aqz,-List.map_set,-List.getD_eq_getElem?_getD,e0])
    · intro k hk
      have e1:=C2z mem L (rpt [x] c) k
      by_cases hlt:k < L.length
      · obtain ⟨g1,g2⟩:=hat k hlt
        have g3:(L.getD k 0).toNat < mem.length:=by omega
        have e2:putK mem L (rpt [x] c) (k + 1)=(putK mem L (rpt [x] c) k).set (L.getD k 0).toNat x:=by simp only [putK];rw [rpt_at (by omega)]
        generalize putK mem L (rpt [x] c) k=p at *
        (repeat' (first
 | (first|refine Agz ?_|refine Abz ?_)
 | ((first|refine Ahz ?_|refine Aez ?_|refine Aoz ?_);simp (disch:=omega) only [push_cast,seval,l61r0,l61r1,l61r2,l61r3,l61r4,l61r5,l61r6,l61r7,l61r8,l61r9,e1])
 | ((first|refine Amz (fun h=>?_) (fun h=>?_))<;>(try simp only [h])<;>(try simp only [bitvec_to_nat] at h)<;>(try simp only [h])<;>(first|(exfalso;omega)|(exfalso;simp_all;done)|(simp (disch:=omega) only [push_cast,seval,e1])|skip))
 | (refine Afz ⟨.inr rfl,[336],[],_,by decide,rfl,?_⟩;(try simp (disch:=omega) only [push_cast,seval,↓Adz,↓Acz,↓List.map_cons,↓List.map_nil,e1]))))
        refine ⟨k + 1,by omega,by omega,?_⟩
        (refine Sub.of_lists ?_ ?_ ?_ ?_ ?_<;>simp [Vw.mkS,Vw.lk,Vw.hk,AV.inn,innL,Apz,Anz,Aqz,-List.map_set,-List.getD_eq_getElem?_getD,e2,Bkz])
      · have hke:k=L.length:=by omega
        have e3:putK mem L (rpt [x] c) k=putL mem L (rpt [x] c):=by rw [hke];rfl
        rw [e3]
        (repeat' (first
 | (first|refine Agz ?_|refine Abz ?_)
 | ((first|refine Ahz ?_|refine Aez ?_|refine A1z ?_);simp (disch:=omega) only [push_cast,seval,l61r0,l61r1,l61r2,l61r3,l61r4,l61r5,l61r6,l61r7,l61r8,l61r9,hpl])
 | ((first|refine Amz (fun h=>?_) (fun h=>?_))<;>(try simp only [h])<;>(try simp only [bitvec_to_nat] at h)<;>(try simp only [h])<;>(first|(exfalso;omega)|(exfalso;simp_all;done)|(simp (disch:=omega) only [push_cast,seval,hpl])|skip))
 | (refine Afz ⟨.inr rfl,[336],[],_,by decide,rfl,?_⟩;(try simp (disch:=omega) only [push_cast,seval,↓Adz,↓Acz,↓List.map_cons,↓List.map_nil,hpl]))))
        all_goals simp [TB,MVL,hpl]
  · have hx':(decide (0 ≤ x) && decide (x ≤ 255))=false:=by
      rw [Bool.eq_false_iff]
      intro h
      simp at h
      exact hx h
    have hxa:allI [x] 0 255=false:=by
      rw [Bool.eq_false_iff]
      intro h
      simp [allI] at h
      exact hx h
    rw [hx']
    (repeat' (first
 | (first|refine Agz ?_|refine Abz ?_)
 | ((first|refine Ahz ?_|refine Aez ?_);simp (disch:=omega) only [push_cast,seval,l61r0,l61r1,l61r2,l61r3,l61r4,l61r5,l61r6,l61r7,l61r8,l61r9,h1,hx',hxa])
 | ((first|refine Alz false ?_);simp (disch:=omega) only [push_cast,seval,h1,hx',hxa])
 | ((first|((first|refine Akz (Ajz (Dlz _ _ _ _ _ _ _ ?_ ?_ ?_ ?_)) ?_|refine Aiz (Ajz (Dlz _ _ _ _ _ _ _ ?_ ?_ ?_ ?_)) ⟨_,_,rfl,rfl⟩ ?_);(iterate 4 (exact sd));rintro _ _ ⟨rfl,rfl⟩)|((first|refine Akz (Ajz (Atz _ _ _)) ?_|refine Aiz (Ajz (Atz _ _ _)) ⟨_,_,rfl,rfl⟩ ?_);rintro _ _ ⟨rfl,rfl⟩))<;>(try simp (disch:=omega) only [push_cast,seval,h1,hx',hxa]))
 | (refine Afz ⟨.inr rfl,[16000],[(16000,1)],_,by decide,rfl,?_⟩;(try simp (disch:=omega) only [push_cast,seval,↓Adz,↓Acz,↓List.map_cons,↓List.map_nil,h1,hx',hxa]))))
    all_goals simp [TB,MVL]


set_option maxHeartbeats 8000000 in
theorem L1z (mem:List Int) (b:Int) (sh st:List Int) (x:Int) (q n m:Nat) (hq:mem.length=q) (hn:sh.length=n) (hm:st.length=m) (hb:q ≤ 1099511627776 ∧ n ≤ 1099511627776 ∧ m ≤ 1099511627776):BCall Tryz.prog 59 [.rows false (IL mem) q,.agg [.int .i64 b,.rows false (IL sh) n,.rows false (IL st) m],.int .i64 x] [] (TB (filB mem b sh st x) (filL mem b sh st x)):=by
  subst hq hn hm
  refine Auz (pins:=[]) (pin:=0) l59_eq rfl rfl rfl ?_
  unfold filB
  cases h1:seeB mem b sh st with
  | false =>
    (repeat' (first
 | (first|refine Agz ?_|refine Abz ?_)
 | ((first|refine Ahz ?_|refine Aez ?_);simp (disch:=omega) only [push_cast,seval,l59r0,l59r1,l59r2,l59r3a,l59r3b,l59r3,h1])
 | ((first|refine Alz false ?_);simp (disch:=omega) only [push_cast,seval,h1])
 | ((first|((first|refine Akz (Ajz (Dez _ _ _ _ _ _ _ ?_ ?_ ?_ ?_)) ?_|refine Aiz (Ajz (Dez _ _ _ _ _ _ _ ?_ ?_ ?_ ?_)) ⟨_,_,rfl,rfl⟩ ?_);(iterate 4 (exact sd));rintro _ _ ⟨rfl,rfl⟩))<;>(try simp (disch:=omega) only [push_cast,seval,h1]))
 | (refine Afz ⟨.inr rfl,[16000],[(16000,1)],_,by decide,rfl,?_⟩;(try simp (disch:=omega) only [push_cast,seval,↓Adz,↓Acz,↓List.map_cons,↓List.map_nil,h1]))))
    all_goals simp [TB,MVL]
  | true =>
  obtain ⟨f1,f2,f3,f4,f5,f6⟩:=Cnz h1
  by_cases hx:0 ≤ x ∧ x ≤ 255
  · have hx':(decide (0 ≤ x) && decide (x ≤ 255))=true:=by simp [hx]
    have hxa:allI [x] 0 255=true:=by simp [allI,hx]
    obtain ⟨hx1,hx2⟩:=hx
    have hol:=A8z b sh st
    have hml:mem.length ≤ 1099511627776:=by omega
    have q1:okV b sh st ∧ st.length=sh.length:=⟨f1,f2⟩
    obtain ⟨c,hc⟩:∃ c:Nat,pr sh=(c:Int):=⟨(pr sh).toNat,by omega⟩
    have hcn:(pr sh).toNat=c:=by omega
    have hck:c ≤ 1000:=by omega
    have hrl:(rpt [x] c).length=c:=by rw [B3z];simp
    have k1:seeB mem b sh st=true ∧ (c:Int)=pr sh:=⟨h1,by omega⟩
    have hpl:=C1z mem (offs b sh st) (rpt [x] c)
    rw [hx',filL,hcn]
    (repeat' (first
 | (first|refine Agz ?_|refine Abz ?_)
 | ((first|refine Ahz ?_|refine Bsz (mid:=l59r3a) (post:=l59r3b) [] mixed (by decide) ?_|refine Aez ?_|refine Aoz ?_);simp (disch:=omega) only [push_cast,seval,l59r0,l59r1,l59r2,l59r3a,l59r3b,l59r3,h1,hx1,hx2,hxa,hc,hrl,List.length_replicate,List.length_cons,List.length_nil])
 | ((first|refine Alz false ?_|refine A2z false ?_);simp (disch:=omega) only [push_cast,seval,h1,hx1,hx2,hxa,hc,hrl,List.length_replicate,List.length_cons,List.length_nil])
 | ((first|((first|refine Akz (Ajz (Dez _ _ _ _ _ _ _ ?_ ?_ ?_ ?_)) ?_|refine Aiz (Ajz (Dez _ _ _ _ _ _ _ ?_ ?_ ?_ ?_)) ⟨_,_,rfl,rfl⟩ ?_);(iterate 4 (exact sd));rintro _ _ ⟨rfl,rfl⟩)|((first|refine Akz (Ajz (C6z _)) ?_|refine Aiz (Ajz (C6z _)) ⟨_,_,rfl,rfl⟩ ?_);rintro _ _ ⟨rfl,rfl⟩)|((first|refine Akz (Ajz (Caz _ _ _ _ _ _ ?_ ?_)) ?_|refine Aiz (Ajz (Caz _ _ _ _ _ _ ?_ ?_)) ⟨_,_,rfl,rfl⟩ ?_);(iterate 2 (exact sd));rintro _ _ ⟨rfl,rfl⟩)|((first|refine Akz (repI_ok _ _ ?_) ?_|refine Aiz (repI_ok _ _ ?_) ⟨_,_,rfl,rfl⟩ ?_);(exact sd);rintro _ _ ⟨rfl,rfl⟩)|((first|refine Akz (stored_ok _ _ _ _ _ _ _ _ _ ?_ ?_ ?_ ?_ ?_) ?_|refine Aiz (stored_ok _ _ _ _ _ _ _ _ _ ?_ ?_ ?_ ?_ ?_) ⟨_,_,rfl,rfl⟩ ?_);(iterate 5 (exact sd));rintro _ _ ⟨rfl,rfl⟩))<;>(try simp (disch:=omega) only [push_cast,seval,h1,hx1,hx2,hxa,hc,hrl,List.length_replicate,List.length_cons,List.length_nil]))
 | (refine Afz ⟨.inr rfl,[400],[],_,by decide,rfl,?_⟩;(try simp (disch:=omega) only [push_cast,seval,↓Adz,↓Acz,↓List.map_cons,↓List.map_nil,h1,hx1,hx2,hxa,hc,hrl,List.length_replicate,List.length_cons,List.length_nil]))))
    all_goals simp [TB,MVL]
  · have hx':(decide (0 ≤ x) && decide (x ≤ 255))=false:=by
      rw [Bool.eq_false_iff]
      intro h
      simp at h
      exact hx h
    have hxa:allI [x] 0 255=false:=by
      rw [Bool.eq_false_iff]
      intro h
      simp [allI] at h
      exact hx h
    rw [hx']
    (repeat' (first
 | (first|refine Agz ?_|refine Abz ?_)
 | ((first|refine Ahz ?_|refine Aez ?_);simp (disch:=omega) only [push_cast,seval,l59r0,l59r1,l59r2,l59r3a,l59r3b,l59r3,h1,hx',hxa])
 | ((first|refine Alz false ?_);simp (disch:=omega) only [push_cast,seval,h1,hx',hxa])
 | ((first|((first|refine Akz (Ajz (Dez _ _ _ _ _ _ _ ?_ ?_ ?_ ?_)) ?_|refine Aiz (Ajz (Dez _ _ _ _ _ _ _ ?_ ?_ ?_ ?_)) ⟨_,_,rfl,rfl⟩ ?_);(iterate 4 (exact sd));rintro _ _ ⟨rfl,rfl⟩)|((first|refine Akz (Ajz (C6z _)) ?_|refine Aiz (Ajz (C6z _)) ⟨_,_,rfl,rfl⟩ ?_);rintro _ _ ⟨rfl,rfl⟩))<;>(try simp (disch:=omega) only [push_cast,seval,h1,hx',hxa]))
 | (refine Afz ⟨.inr rfl,[16000],[(16000,1)],_,by decide,rfl,?_⟩;(try simp (disch:=omega) only [push_cast,seval,↓Adz,↓Acz,↓List.map_cons,↓List.map_nil,h1,hx',hxa]))))
    all_goals simp [TB,MVL]

end Go.Proofs.YtkpcjppnjmhanaaGreatDoor
namespace Go.Proofs.YtkpcjppnjmhanaaGreatDoor
open VwM Vw Go
variable [SentA]

open Go.RowKit Go.Extern.Stop Go.Stop Go.Extern in
open Go.RowKit Go.Extern.Stop Go.Stop Go.Extern in
theorem isTypeOf1 (v:Value) (w:World):(Extern.ReflectliteType.typeOf #[.iface 200 v]).run Tryz.prog w=.ok (.iface 138 (.agg #[.pointer (some ⟨1,200,none⟩)])) w:=by kernel_rfl
open Go.RowKit Go.Extern.Stop Go.Stop Go.Extern Go.Extern.ReflectliteType in
theorem isComparable (w : World) : ((Extern.ReflectliteType.method fun t => do Extern.Rtype.noPackHeld "Comparable" t; pure (.bool (← typeInfo t).comparable)) #[.agg #[.pointer (some ⟨1,200,none⟩)]]).run Tryz.prog w = .ok (.bool true) w := by kernel_rfl
open Go.RowKit Go.Extern.Stop Go.Stop Go.Extern Go.Extern.ReflectliteType in
theorem Lkz (w:World):Sem.run Tryz.prog (callFunc 206 #[.agg #[.pointer (some ⟨1,200,none⟩)]]) w=Result.ok (Next.value (Value.bool true)) w:=by
  have h := @run_callFunc_extern Tryz.prog 206 _ (Extern.ReflectliteType.method fun t => do Extern.Rtype.noPackHeld "Comparable" t; pure (.bool (← typeInfo t).comparable)) Tryz.func206 (by kernel_rfl) (by kernel_rfl) (by kernel_rfl) (by kernel_rfl)
  rw [h,isComparable]
  rfl
theorem Hcz (v : Value) (w : World) : (Go.method 337 138 v "Comparable").run Tryz.prog w = .ok (206,v) w := by kernel_rfl
theorem isComp:(Tryz.prog.info? 200).map (·.comparable)=some true:=by kernel_rfl
theorem isSize:(Tryz.prog.info? 225).map (·.size)=some 1:=by kernel_rfl
open Go.RowKit Go.Extern.Stop Go.Stop Go.Extern in
set_option maxHeartbeats 16000000 in
theorem is_same (a:Addr) (w:World) :
    Calls Tryz.prog 43 #[.iface 200 (.pointer (some a)),.iface 200 (.pointer (some a))] w fun e w'=>e=.returned (.bool true) ∧ w'=w:=by
  obtain ⟨i,hi,hcmp⟩:=Option.map_eq_some_iff.1 isComp
  obtain ⟨j,hj,hjs⟩:=Option.map_eq_some_iff.1 isSize
  have h8:=@run_callFunc_extern Tryz.prog 81 _ Extern.ReflectliteType.typeOf Tryz.func81 (by kernel_rfl) (by kernel_rfl) (by kernel_rfl) (by kernel_rfl)
  have h32:=Lkz
  have tT:=isTypeOf1
  have mR:=Hcz
  have heq:=run_eql_iface_ptr_same (P:=Tryz.prog) w a Tryz.underlying64 Tryz.underlying200 hi hcmp hj
  go_enter Tryz.func43,Tryz.ntmps43
  go_wp2
  all_goals (try (refine wp_loop_rounds 1 ?_;rw [rounds_succ];go_wp2))
  all_goals (try (go_ret;exact ⟨rfl,rfl⟩))
open Go.RowKit Go.Extern.Stop Go.Stop Go.Extern in
theorem is_nil (b:Addr) (w:World) :
    Calls Tryz.prog 43 #[.nilIface,.iface 200 (.pointer (some b))] w fun e w'=>e=.returned (.bool false) ∧ w'=w:=by
  have hn:=run_eql_iface_nil_left (P:=Tryz.prog) w 200 (.pointer (some b)) Tryz.underlying64
  go_enter Tryz.func43,Tryz.ntmps43
  go_wp2
  go_ret
  exact ⟨rfl,rfl⟩

end Go.Proofs.YtkpcjppnjmhanaaGreatDoor
namespace Go.Proofs.YtkpcjppnjmhanaaGreatDoor
open VwM Vw Go
variable [SentA]

theorem hang_false {d id kid n:Nat} {k:Int} {ks:List Int} {σ:List (Nat × AV)} {H:List (Nat × List AV)} {K:S → Prop} (h0:hk H id=some [.own kid n 1]) (h1:hk H kid=some (IL ks)) (hf:hk H 224=none ∧ hk H 304=none)
    (hK:K (mkS ((d,.ref 304 1 0) :: σ) ((304,[.val (.slice none 0 0)]) :: H))):callE Tryz.prog 0 83 [.ref id 1 0,.int .i64 k,.bool false] (some d) K σ H:=by
  obtain ⟨hf1,hf2⟩:=hf
  intro args ha
  refine Cmz ?_
  rw [ha]
  refine J2z l83_eq rfl ?_
  show awpK Tryz.prog 0 _ _ (mkS [(0,.ref id 1 0),(1,.int .i64 k),(2,.bool false)] H)
  repeat' (first
    | (refine awpK_seq ?_)
    | (refine awpK_reg rfl ?_;simp (disch:=omega) only [push_cast,seval,l83r0,l83r1,l83r2,l83r3,h0,h1,hf1,hf2])
    | (refine awpK_cond false rfl (fun h=>by cases h) (fun _=>?_))
    | (refine awpK_skip ?_;simp (disch:=omega) only [push_cast,seval])
    | (refine awpK_ret ⟨.inr rfl,_,rfl,?_⟩))
  all_goals (show K ⟨upd (lk σ) d (.ref 304 1 0),hk ((304,[.val (.slice none 0 0)]) :: H)⟩;rw [upd_lk];exact hK)
theorem hang_true {d id kid n:Nat} {k:Int} {ks:List Int} {σ:List (Nat × AV)} {H:List (Nat × List AV)} {K:S → Prop} (h0:hk H id=some [.own kid n 1]) (h1:hk H kid=some (IL ks)) (hn:ks.length=n) (hb:n ≤ 1000) (hi:id ≠ kid) (hf:hk H 224=none ∧ hk H 304=none)
    (hK:K (mkS ((d,.ref 304 1 0) :: σ) ((304,[.val (.slice none 0 0)]) :: (id,[.own kid (n + 1) 1]) :: (kid,IL ks ++ [.int .i64 k]) :: (224,[.int .i64 k]) :: H))):callE Tryz.prog 0 83 [.ref id 1 0,.int .i64 k,.bool true] (some d) K σ H:=by
  obtain ⟨hf1,hf2⟩:=hf
  have e1:(id=224)=False:=propext ⟨fun e=>by rw [e,hf1] at h0;exact (by cases h0),False.elim⟩
  have e2:(kid=224)=False:=propext ⟨fun e=>by rw [e,hf1] at h1;exact (by cases h1),False.elim⟩
  have e3:(id=kid)=False:=propext ⟨fun e=>hi e,False.elim⟩
  have e4:(304=id)=False:=propext ⟨fun e=>by rw [← e,hf2] at h0;exact (by cases h0),False.elim⟩
  have e5:(304=kid)=False:=propext ⟨fun e=>by rw [← e,hf2] at h1;exact (by cases h1),False.elim⟩
  have hil:(IL ks).length=n:=by unfold IL;simpa using hn
  intro args ha
  refine Cmz ?_
  rw [ha]
  refine J2z l83_eq rfl ?_
  show awpK Tryz.prog 0 _ _ (mkS [(0,.ref id 1 0),(1,.int .i64 k),(2,.bool true)] H)
  repeat' (first
    | (refine awpK_seq ?_)
    | (refine awpK_reg rfl ?_;simp (disch:=omega) only [push_cast,seval,l83r0,l83r1,l83r2,l83r3,h0,h1,hf1,hf2,e1,e2,e3,e4,e5,hil])
    | (refine awpK_cond true rfl (fun _=>?_) (fun h=>by cases h))
    | (refine awpK_skip ?_;simp (disch:=omega) only [push_cast,seval])
    | (refine awpK_ret ⟨.inr rfl,_,rfl,?_⟩))
  all_goals (show K ⟨upd (lk σ) d (.ref 304 1 0),_⟩;rw [upd_lk];exact hK)

end Go.Proofs.YtkpcjppnjmhanaaGreatDoor
namespace Go.Proofs.YtkpcjppnjmhanaaGreatDoor
open VwM Vw Go
variable [SentA]

theorem SubW.rfl' {pin:Nat} {s:S}:SubW pin s s:=fun E M x w _ h=>⟨M,h⟩
theorem Kzz {P:Program} {pin f:Nat} {avs:List AV} {dst:Option Nat} {K:S → Prop} {σ:List (Nat × AV)} {H:List (Nat × List AV)} (h:callE P pin f avs dst (fun s'=>∃ s1,SubW pin s' s1 ∧ K s1) σ H):callE P pin f avs dst K σ H:=fun args ha E M a w hp hd hst=>by
  refine (h args ha E M a w hp hd hst).mono fun e w' ⟨M',s',v,⟨s1,hsub,hk⟩,he,hst'⟩=>?_
  obtain ⟨M'',h1⟩:=hsub E M' _ w' hp hst'
  exact ⟨M'',s1,v,hk,he,h1⟩
theorem adHL_id (t id sz:Nat):∀ H:List (Nat × List AV),hk H t=none → adHL [t] id sz H=H
  | [],_=>rfl
  | p :: r,h=>by
    simp only [hk] at h
    split at h
    · cases h
    · rename_i hne
      simp only [adHL,List.map_cons]
      have ih:=adHL_id t id sz r h
      simp only [adHL] at ih
      rw [ih]
      have:([t].contains p.1)=false:=by simp;exact fun e=>hne e.symm
      rw [this];rfl


theorem hang_no {d id kid n:Nat} {k:Int} {ks:List Int} {σ:List (Nat × AV)} {H:List (Nat × List AV)} {K:S → Prop} (h0:hk H id=some [.own kid n 1]) (h1:hk H kid=some (IL ks)) (hf:hk H 224=none ∧ hk H 304=none ∧ hk H 16000=none)
    (hK:K (mkS ((d,.ref 304 1 0) :: σ) ((16000,[]) :: (304,[.own 16000 0 1]) :: H))):callE Tryz.prog 0 83 [.ref id 1 0,.int .i64 k,.bool false] (some d) K σ H:=by
  refine Kzz (hang_false h0 h1 ⟨hf.1,hf.2.1⟩ ⟨_,?_,hK⟩)
  refine SubW.adoptH [304] 16000 1 (by simp [hk,hf.2.2]) ?_
  have e:adHL [304] 16000 1 ((304,[AV.val (.slice none 0 0)]) :: H)=(304,[.own 16000 0 1]) :: H:=by
    have:=adHL_id 304 16000 1 H hf.2.1
    simp only [adHL,List.map_cons] at this ⊢
    rw [this];rfl
  rw [e]
  exact SubW.rfl'
theorem hang_yes {d id kid n:Nat} {k:Int} {ks:List Int} {σ:List (Nat × AV)} {H:List (Nat × List AV)} {K:S → Prop} (h0:hk H id=some [.own kid n 1]) (h1:hk H kid=some (IL ks)) (hn:ks.length=n) (hb:n ≤ 1000) (hi:id ≠ kid) (hf:hk H 224=none ∧ hk H 304=none ∧ hk H 16000=none)
    (hK:K (mkS ((d,.ref 304 1 0) :: σ) ((16000,[]) :: (304,[.own 16000 0 1]) :: (id,[.own kid (n + 1) 1]) :: (kid,IL (ks ++ [k])) :: (224,[.int .i64 k]) :: H))):callE Tryz.prog 0 83 [.ref id 1 0,.int .i64 k,.bool true] (some d) K σ H:=by
  have n1:id ≠ 304:=fun e=>by rw [e,hf.2.1] at h0;cases h0
  have n2:kid ≠ 304:=fun e=>by rw [e,hf.2.1] at h1;cases h1
  have n3:id ≠ 16000:=fun e=>by rw [e,hf.2.2] at h0;cases h0
  have n4:kid ≠ 16000:=fun e=>by rw [e,hf.2.2] at h1;cases h1
  refine Kzz (hang_true h0 h1 hn hb hi ⟨hf.1,hf.2.1⟩ ⟨_,?_,hK⟩)
  refine SubW.adoptH [304] 16000 1 (by simp [hk,hf.2.2,Ne.symm n3,Ne.symm n4]) ?_
  have e:adHL [304] 16000 1 ((304,[AV.val (.slice none 0 0)]) :: (id,[.own kid (n + 1) 1]) :: (kid,IL ks ++ [.int .i64 k]) :: (224,[.int .i64 k]) :: H)=(304,[.own 16000 0 1]) :: (id,[.own kid (n + 1) 1]) :: (kid,IL (ks ++ [k])) :: (224,[.int .i64 k]) :: H:=by
    have hx:=adHL_id 304 16000 1 ((id,[.own kid (n + 1) 1]) :: (kid,IL ks ++ [.int .i64 k]) :: (224,[.int .i64 k]) :: H) (by simp [hk,hf.2.1,Ne.symm n1,Ne.symm n2])
    simp only [adHL,List.map_cons] at hx ⊢
    rw [hx]
    unfold IL
    simp [adA]
  rw [e]
  exact SubW.rfl'


def heldV [SentA] (n:Nat):Value:=if 0 < n then .iface 200 (.pointer (some SentA.a)) else .nilIface
theorem Ebz {ρ:Nat → Option Nat} {Z:Nat → Option (List AV)} {b0:Bool} {φ:Bool → Option Bool} {m:Nat} (n:Nat):AV.ren ρ Z b0 φ (m + 1) (.val (heldV n))=.val (heldV n):=by unfold heldV;split<;>rfl
theorem E0z (σ:List (Nat × AV)) (H:List (Nat × List AV)):(mkS σ H).ev (.global 0)=.prow false [.val (.iface 200 (.pointer (some SentA.a)))] 0:=rfl
theorem Kmz:ofVal Value.nilIface=.val .nilIface:=rfl
theorem fzIf (H:Nat → Option (List AV)) (t:TypeId) (v:Value):AV.fz H 5 (.val (.iface t v))=.val (.iface t v):=rfl
theorem fzNi (H:Nat → Option (List AV)):AV.fz H 5 (.val .nilIface)=.val .nilIface:=rfl
theorem L3z (ks:List Int) (n:Nat) (hn:ks.length=n) (hb:n ≤ 1000):PCall Tryz.prog 45 [.prow false [.rows false (IL ks) n] 0] (fun r=>r=.val (heldV n)):=by
  subst hn
  refine Axz l45_eq rfl ?_
  unfold heldV
  by_cases h:0 < ks.length
  · rw [if_pos h]
    (repeat' (first
 | (first|refine Agz ?_|refine Abz ?_)
 | ((first|refine Ahz ?_|refine Aez ?_);simp (disch:=omega) only [push_cast,seval,l45r0,l45r1,l45r2,l45r3,E0z,Kmz,fzIf,fzNi])
 | ((first|refine Amz (fun h=>?_) (fun h=>?_))<;>(try simp only [h])<;>(try simp only [bitvec_to_nat] at h)<;>(try simp only [h])<;>(first|(exfalso;omega)|(exfalso;simp_all;done)|(simp (disch:=omega) only [push_cast,seval,E0z,Kmz,fzIf,fzNi])|skip))
 | (refine Afz ⟨.inr rfl,_,rfl,?_⟩;(try simp (disch:=omega) only [push_cast,seval,E0z,Kmz,fzIf,fzNi]))))
  · rw [if_neg h]
    (repeat' (first
 | (first|refine Agz ?_|refine Abz ?_)
 | ((first|refine Ahz ?_|refine Aez ?_|refine Aoz ?_);simp (disch:=omega) only [push_cast,seval,l45r0,l45r1,l45r2,l45r3,E0z,Kmz,fzIf,fzNi])
 | ((first|refine Amz (fun h=>?_) (fun h=>?_))<;>(try simp only [h])<;>(try simp only [bitvec_to_nat] at h)<;>(try simp only [h])<;>(first|(exfalso;omega)|(exfalso;simp_all;done)|(simp (disch:=omega) only [push_cast,seval,E0z,Kmz,fzIf,fzNi])|skip))
 | (refine Afz ⟨.inr rfl,_,rfl,?_⟩;(try simp (disch:=omega) only [push_cast,seval,E0z,Kmz,fzIf,fzNi]))))

end Go.Proofs.YtkpcjppnjmhanaaGreatDoor
