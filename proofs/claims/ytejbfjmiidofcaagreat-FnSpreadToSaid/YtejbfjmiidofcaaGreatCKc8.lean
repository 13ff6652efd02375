import Derived.Test.YtejbfjmiidofcaaGreatCKc6
import Derived.Test.YtejbfjmiidofcaaGreatCM1
import Derived.Test.YtejbfjmiidofcaaGreatCW3
set_option linter.unusedSimpArgs false
set_option linter.unusedVariables false
set_option maxRecDepth 4000
set_option maxHeartbeats 4000000
namespace Go.Proofs.YtejbfjmiidofcaaGreat
open VwM Vw Go

set_option maxHeartbeats 8000000 in
theorem wholeOf_ok (b:Int) (sh st:List Int) (n m:Nat) (hn:sh.length=n) (hm:st.length=m) (hb:m=n ∧ n ≤ 1000):BCall Tryz.prog 22 [.agg [.int .i64 b,.rows false (IL sh) n,.rows false (IL st) m]] [] (fun r H'=>r=.agg [.int .i64 b,.rows false (IL sh) n,.rows false (IL st) m,.int .i64 0,.int .i64 0,.int .i64 0,.int .i64 0,.own 0 n 2] ∧ H'=[IL (dm sh st)]):=by
  subst hn hm
  obtain ⟨hb1,hb2⟩:=hb
  refine bcall_of (pins:=[]) (pin:=0) l22_eq rfl rfl rfl ?_
  (repeat' (first
 | (first|refine awp_seq ?_|refine awp_block ?_)
 | ((first|refine awp_reg ?_|refine awp_draw (mid:=l22r5a) (post:=l22r5b) mixed (by decide) ?_|refine awp_condB ?_|refine awp_skip ?_|refine awp_exit ?_);simp (disch:=omega) only [push_cast,seval,l22r0,l22r1,l22r2,l22r3,l22r4,l22r5a,l22r5b,l22r5,l22r6,l22r7])
 | ((first|refine condB_split (fun h=>?_) (fun h=>?_)|refine gIf_split (fun h=>?_) (fun h=>?_)|refine qIf_split (fun h=>?_) (fun h=>?_))<;>(try simp only [h])<;>(try simp only [bitvec_to_nat] at h)<;>(try simp only [h])<;>(first|(exfalso;omega)|(focus (exfalso;simp_all;done))|(simp (disch:=omega) only [push_cast,seval])|skip))
 | (refine awp_ret ⟨.inr rfl,[416],[],_,by decide,rfl,?_⟩;(try simp (disch:=omega) only [push_cast,seval,↓allMem_nil,↓allMem_cons,↓List.map_cons,↓List.map_nil]))))
  refine awp_loop (fun k:Nat=>if k=0 then mkS [(1,.ref 16 3 0),(2,.ref 32 8 0),(3,.ref 48 8 0),(9,RI sh),(10,.int .i64 sh.length),(11,.int .i64 0)] [(16,[.int .i64 b,RI sh,RI st]),(32,[.int .i64 0,.val (.slice none 0 0),.val (.slice none 0 0),.int .i64 0,.int .i64 0,.int .i64 0,.int .i64 0,.val (.slice none 0 0)]),(48,[.int .i64 b,RI sh,RI st,.int .i64 0,.int .i64 0,.int .i64 0,.int .i64 0,.val (.slice none 0 0)])]
    else mkS [(1,.ref 16 3 0),(2,.ref 32 8 0),(3,.ref 48 8 0),(9,RI sh),(10,.int .i64 sh.length),(11,.int .i64 k)] [(16,[.int .i64 b,RI sh,RI st]),(32,[.int .i64 0,.val (.slice none 0 0),.val (.slice none 0 0),.int .i64 0,.int .i64 0,.int .i64 0,.int .i64 0,.val (.slice none 0 0)]),(48,[.int .i64 b,RI sh,RI st,.int .i64 0,.int .i64 0,.int .i64 0,.int .i64 0,.own 416 k 2]),(416,IL (dm (sh.take k) (st.take k)))])
    (fun k=>k ≤ sh.length) (fun k=>sh.length - k) 0 (Nat.zero_le _) ?_ ?_
  · rw [if_pos rfl]
    (refine Sub.of_lists ?_ ?_ ?_ ?_ ?_<;>simp [Vw.mkS,Vw.lk,Vw.hk,AV.inn,innL,innL_ints,innL_append,innL_rep,-List.map_set,-List.getD_eq_getElem?_getD])
  · intro k hk
    by_cases hlt:k < sh.length
    · have e1:=dm_take hlt hb1
      have hlt2:k < st.length:=by omega
      by_cases h0:k=0
      · subst h0
        rw [if_pos rfl]
        have hs0:0 < sh.length:=hlt
        have e2:[AV.int .i64 (sh.getD 0 0),AV.int .i64 (st.getD 0 0)]=IL (dm (sh.take (0 + 1)) (st.take (0 + 1))):=by rw [← e1];simp [dm]
        (repeat' (first
 | (first|refine awp_seq ?_|refine awp_block ?_)
 | ((first|refine awp_reg ?_|refine awp_draw (mid:=l22r5a) (post:=l22r5b) mixed (by decide) ?_|refine awp_condB ?_|refine awp_skip ?_|refine awp_exit ?_);simp (disch:=omega) only [push_cast,seval,l22r0,l22r1,l22r2,l22r3,l22r4,l22r5a,l22r5b,l22r5,l22r6,l22r7,Int.natCast_zero])
 | ((first|refine condB_split (fun h=>?_) (fun h=>?_)|refine gIf_split (fun h=>?_) (fun h=>?_)|refine qIf_split (fun h=>?_) (fun h=>?_))<;>(try simp only [h])<;>(try simp only [bitvec_to_nat] at h)<;>(try simp only [h])<;>(first|(exfalso;omega)|(focus (exfalso;simp_all;done))|(simp (disch:=omega) only [push_cast,seval,Int.natCast_zero])|skip))
 | (refine awp_ret ⟨.inr rfl,[],[],_,by decide,rfl,?_⟩;(try simp (disch:=omega) only [push_cast,seval,↓allMem_nil,↓allMem_cons,↓List.map_cons,↓List.map_nil,Int.natCast_zero]))))
        refine ⟨0 + 1,by omega,by omega,?_⟩
        rw [if_neg (by omega),← e2]
        (refine Sub.of_lists ?_ ?_ ?_ ?_ ?_<;>simp [Vw.mkS,Vw.lk,Vw.hk,AV.inn,innL,innL_ints,innL_append,innL_rep,-List.map_set,-List.getD_eq_getElem?_getD])
      · rw [if_neg h0]
        have e3:(dm (sh.take k) (st.take k)).length=k * 2:=by rw [dm_length (by simp;omega)];simp;omega
        generalize hq1:dm (sh.take k) (st.take k)=q1 at *
        (repeat' (first
 | (first|refine awp_seq ?_|refine awp_block ?_)
 | ((first|refine awp_reg ?_|refine awp_draw (mid:=l22r5a) (post:=l22r5b) mixed (by decide) ?_|refine awp_condB ?_|refine awp_skip ?_|refine awp_exit ?_);simp (disch:=omega) only [push_cast,seval,l22r0,l22r1,l22r2,l22r3,l22r4,l22r5a,l22r5b,l22r5,l22r6,l22r7,e3,snoc2])
 | ((first|refine condB_split (fun h=>?_) (fun h=>?_)|refine gIf_split (fun h=>?_) (fun h=>?_)|refine qIf_split (fun h=>?_) (fun h=>?_))<;>(try simp only [h])<;>(try simp only [bitvec_to_nat] at h)<;>(try simp only [h])<;>(first|(exfalso;omega)|(focus (exfalso;simp_all;done))|(simp (disch:=omega) only [push_cast,seval,e3,snoc2])|skip))
 | (refine awp_ret ⟨.inr rfl,[],[],_,by decide,rfl,?_⟩;(try simp (disch:=omega) only [push_cast,seval,↓allMem_nil,↓allMem_cons,↓List.map_cons,↓List.map_nil,e3,snoc2]))))
        refine ⟨k + 1,by omega,by omega,?_⟩
        rw [if_neg (by omega),← e1]
        (refine Sub.of_lists ?_ ?_ ?_ ?_ ?_<;>simp [Vw.mkS,Vw.lk,Vw.hk,AV.inn,innL,innL_ints,innL_append,innL_rep,-List.map_set,-List.getD_eq_getElem?_getD,e3])
    · have hke:k=sh.length:=by omega
      have ht:sh.take k=sh:=List.take_of_length_le (by omega)
      have ht2:st.take k=st:=List.take_of_length_le (by omega)
      by_cases h0:k=0
      · subst h0
        rw [if_pos rfl]
        have hL:(sh.length:Int)=0:=by omega
        have hLn:sh.length=0:=by omega
        clear ht ht2 hk hlt hke
        (repeat' (first
 | (first|refine awp_seq ?_|refine awp_block ?_)
 | ((first|refine awp_reg ?_|refine awp_draw (mid:=l22r5a) (post:=l22r5b) mixed (by decide) ?_|refine awp_condB ?_|refine awp_skip ?_|refine awp_exit ?_);simp (disch:=omega) only [push_cast,seval,l22r0,l22r1,l22r2,l22r3,l22r4,l22r5a,l22r5b,l22r5,l22r6,l22r7,hL])
 | ((first|refine condB_split (fun h=>?_) (fun h=>?_)|refine gIf_split (fun h=>?_) (fun h=>?_)|refine qIf_split (fun h=>?_) (fun h=>?_))<;>(try simp only [h])<;>(try simp only [bitvec_to_nat] at h)<;>(try simp only [h])<;>(first|(exfalso;omega)|(focus (exfalso;simp_all;done))|(simp (disch:=omega) only [push_cast,seval,hL])|skip))
 | (refine awp_ret ⟨.inr rfl,[16000],[(16000,2)],_,by decide,rfl,?_⟩;(try simp (disch:=omega) only [push_cast,seval,↓allMem_nil,↓allMem_cons,↓List.map_cons,↓List.map_nil,hL]))))
        have ho:sh=[]:=List.length_eq_zero_iff.1 hLn
        have ho2:st=[]:=List.length_eq_zero_iff.1 (by omega)
        all_goals simp [ho,ho2,dm]
      · rw [if_neg h0,ht,ht2]
        (repeat' (first
 | (first|refine awp_seq ?_|refine awp_block ?_)
 | ((first|refine awp_reg ?_|refine awp_draw (mid:=l22r5a) (post:=l22r5b) mixed (by decide) ?_|refine awp_condB ?_|refine awp_skip ?_|refine awp_exit ?_);simp (disch:=omega) only [push_cast,seval,l22r0,l22r1,l22r2,l22r3,l22r4,l22r5a,l22r5b,l22r5,l22r6,l22r7,hke])
 | ((first|refine condB_split (fun h=>?_) (fun h=>?_)|refine gIf_split (fun h=>?_) (fun h=>?_)|refine qIf_split (fun h=>?_) (fun h=>?_))<;>(try simp only [h])<;>(try simp only [bitvec_to_nat] at h)<;>(try simp only [h])<;>(first|(exfalso;omega)|(focus (exfalso;simp_all;done))|(simp (disch:=omega) only [push_cast,seval,hke])|skip))
 | (refine awp_ret ⟨.inr rfl,[416],[],_,by decide,rfl,?_⟩;(try simp (disch:=omega) only [push_cast,seval,↓allMem_nil,↓allMem_cons,↓List.map_cons,↓List.map_nil,hke]))))
        all_goals simp


set_option maxHeartbeats 8000000 in
theorem partview_ok (b:Int) (sh st:List Int) (f:Nat → Int) (D E:List Int) (n m k:Nat) (hm:st.length=m) (hk:E.length=D.length ∧ D.length=k) (hb:(m ≤ 4 ∧ (-1000000 ≤ b ∧ b ≤ 1000000) ∧ ∀ i,i < m → (-60 ≤ f i ∧ f i ≤ 60) ∧ -12960000 ≤ st.getD i 0 ∧ st.getD i 0 ≤ 12960000) ∧ k ≤ 1000) :
    BCall Tryz.prog 47 [.agg [.int .i64 b,.rows false (IL sh) n,.rows false (IL st) m,.int .i64 (f 0),.int .i64 (f 1),.int .i64 (f 2),.int .i64 (f 3),.rows false (IL (dm D E)) k]] [] (OV (b + dot f st m) D E):=by
  obtain ⟨hk1,hk2⟩:=hk
  subst hm hk2
  obtain ⟨hb1,hb2⟩:=hb
  have eF:[AV.int .i64 (f 0),.int .i64 (f 1),.int .i64 (f 2),.int .i64 (f 3)]=IL (pad4 f):=rfl
  have hD:=dm_length hk1
  refine bcall_of (pins:=[]) (pin:=0) l47_eq rfl rfl rfl ?_
  (repeat' (first
 | (first|refine awp_seq ?_|refine awp_block ?_)
 | ((first|refine awp_reg ?_|refine awp_condB ?_|refine awp_skip ?_|refine awp_exit ?_);simp (disch:=omega) only [push_cast,seval,l47r0,l47r1,l47r2,l47r3,l47r4,l47r5,l47r6,l47r7,l47r8,eF])
 | ((first|refine condB_split (fun h=>?_) (fun h=>?_)|refine gIf_split (fun h=>?_) (fun h=>?_)|refine qIf_split (fun h=>?_) (fun h=>?_))<;>(try simp only [h])<;>(try simp only [bitvec_to_nat] at h)<;>(try simp only [h])<;>(first|(exfalso;omega)|(focus (exfalso;simp_all;done))|(simp (disch:=omega) only [push_cast,seval,eF])|skip))
 | ((first|refine callD_of false ?_|refine qcallD_of false ?_);simp (disch:=omega) only [push_cast,seval,eF])
 | ((first|((first|refine call0D (BCall.ofP (cell_ok _ _ _ _ _ _ ?_ ?_)) ?_|refine qcall0D (BCall.ofP (cell_ok _ _ _ _ _ _ ?_ ?_)) ⟨_,_,rfl,rfl⟩ ?_);(iterate 2 (exact sd));rintro _ _ ⟨rfl,rfl⟩))<;>(try simp (disch:=omega) only [push_cast,seval,eF]))
 | (refine awp_ret ⟨.inr rfl,[384,496],[],_,by decide,rfl,?_⟩;(try simp (disch:=omega) only [push_cast,seval,↓allMem_nil,↓allMem_cons,↓List.map_cons,↓List.map_nil,eF]))))
  generalize hB:b + dot f st st.length=B
  refine awp_loop (fun j:Nat=>if j=0 then mkS [(2,.ref 32 3 0),(3,.ref 48 3 0),(13,.rows false (IL (dm D E)) D.length),(14,.int .i64 D.length),(15,.int .i64 0)] [(32,[.int .i64 0,.val (.slice none 0 0),.val (.slice none 0 0)]),(48,[.int .i64 B,.val (.slice none 0 0),.val (.slice none 0 0)])]
    else mkS [(2,.ref 32 3 0),(3,.ref 48 3 0),(13,.rows false (IL (dm D E)) D.length),(14,.int .i64 D.length),(15,.int .i64 j)] [(32,[.int .i64 0,.val (.slice none 0 0),.val (.slice none 0 0)]),(48,[.int .i64 B,.own 384 j 1,.own 496 j 1]),(384,IL (D.take j)),(496,IL (E.take j))])
    (fun j=>j ≤ D.length) (fun j=>D.length - j) 0 (Nat.zero_le _) ?_ ?_
  · rw [if_pos rfl]
    (refine Sub.of_lists ?_ ?_ ?_ ?_ ?_<;>simp [Vw.mkS,Vw.lk,Vw.hk,AV.inn,innL,innL_ints,innL_append,innL_rep,-List.map_set,-List.getD_eq_getElem?_getD])
  · intro j hj
    by_cases hlt:j < D.length
    · have g1:=dm_even hlt hk1
      have g2:=dm_odd hlt hk1
      have s1:=take_succ_getD D j hlt
      have s2:=take_succ_getD E j (by omega)
      have hq:j * 2 + 2 ≤ (dm D E).length:=by omega
      have hq2:(dm D E).length=D.length * 2:=hD
      generalize dm D E=L at *
      by_cases h0:j=0
      · subst h0
        rw [if_pos rfl]
        have hs0:0 < D.length:=hlt
        simp only [Nat.zero_mul,Nat.zero_add] at g1 g2 hq
        (repeat' (first
 | (first|refine awp_seq ?_|refine awp_block ?_)
 | ((first|refine awp_reg ?_|refine awp_condB ?_|refine awp_skip ?_|refine awp_exit ?_);simp (disch:=omega) only [push_cast,seval,l47r0,l47r1,l47r2,l47r3,l47r4,l47r5,l47r6,l47r7,l47r8,Int.natCast_zero,g1,g2,Nat.zero_mul])
 | ((first|refine condB_split (fun h=>?_) (fun h=>?_)|refine gIf_split (fun h=>?_) (fun h=>?_)|refine qIf_split (fun h=>?_) (fun h=>?_))<;>(try simp only [h])<;>(try simp only [bitvec_to_nat] at h)<;>(try simp only [h])<;>(first|(exfalso;omega)|(focus (exfalso;simp_all;done))|(simp (disch:=omega) only [push_cast,seval,Int.natCast_zero,g1,g2,Nat.zero_mul])|skip))
 | ((first|refine callD_of false ?_|refine qcallD_of false ?_);simp (disch:=omega) only [push_cast,seval,Int.natCast_zero,g1,g2,Nat.zero_mul])
 | ((first|((first|refine call0D (BCall.ofP (cell_ok _ _ _ _ _ _ ?_ ?_)) ?_|refine qcall0D (BCall.ofP (cell_ok _ _ _ _ _ _ ?_ ?_)) ⟨_,_,rfl,rfl⟩ ?_);(iterate 2 (exact sd));rintro _ _ ⟨rfl,rfl⟩))<;>(try simp (disch:=omega) only [push_cast,seval,Int.natCast_zero,g1,g2,Nat.zero_mul]))
 | (refine awp_ret ⟨.inr rfl,[],[],_,by decide,rfl,?_⟩;(try simp (disch:=omega) only [push_cast,seval,↓allMem_nil,↓allMem_cons,↓List.map_cons,↓List.map_nil,Int.natCast_zero,g1,g2,Nat.zero_mul]))))
        refine ⟨0 + 1,by omega,by omega,?_⟩
        rw [if_neg (by omega),s1,s2]
        simp only [List.take_zero]
        (refine Sub.of_lists ?_ ?_ ?_ ?_ ?_<;>simp [Vw.mkS,Vw.lk,Vw.hk,AV.inn,innL,innL_ints,innL_append,innL_rep,-List.map_set,-List.getD_eq_getElem?_getD])
      · rw [if_neg h0]
        have e3:(D.take j).length=j:=by simp;omega
        have e4:(E.take j).length=j:=by simp;omega
        generalize D.take j=q1 at *
        generalize E.take j=q2 at *
        (repeat' (first
 | (first|refine awp_seq ?_|refine awp_block ?_)
 | ((first|refine awp_reg ?_|refine awp_condB ?_|refine awp_skip ?_|refine awp_exit ?_);simp (disch:=omega) only [push_cast,seval,l47r0,l47r1,l47r2,l47r3,l47r4,l47r5,l47r6,l47r7,l47r8,g1,g2,e3,e4])
 | ((first|refine condB_split (fun h=>?_) (fun h=>?_)|refine gIf_split (fun h=>?_) (fun h=>?_)|refine qIf_split (fun h=>?_) (fun h=>?_))<;>(try simp only [h])<;>(try simp only [bitvec_to_nat] at h)<;>(try simp only [h])<;>(first|(exfalso;omega)|(focus (exfalso;simp_all;done))|(simp (disch:=omega) only [push_cast,seval,g1,g2,e3,e4])|skip))
 | ((first|refine callD_of false ?_|refine qcallD_of false ?_);simp (disch:=omega) only [push_cast,seval,g1,g2,e3,e4])
 | ((first|((first|refine call0D (BCall.ofP (cell_ok _ _ _ _ _ _ ?_ ?_)) ?_|refine qcall0D (BCall.ofP (cell_ok _ _ _ _ _ _ ?_ ?_)) ⟨_,_,rfl,rfl⟩ ?_);(iterate 2 (exact sd));rintro _ _ ⟨rfl,rfl⟩))<;>(try simp (disch:=omega) only [push_cast,seval,g1,g2,e3,e4]))
 | (refine awp_ret ⟨.inr rfl,[],[],_,by decide,rfl,?_⟩;(try simp (disch:=omega) only [push_cast,seval,↓allMem_nil,↓allMem_cons,↓List.map_cons,↓List.map_nil,g1,g2,e3,e4]))))
        refine ⟨j + 1,by omega,by omega,?_⟩
        rw [if_neg (by omega),s1,s2]
        (refine Sub.of_lists ?_ ?_ ?_ ?_ ?_<;>simp [Vw.mkS,Vw.lk,Vw.hk,AV.inn,innL,innL_ints,innL_append,innL_rep,-List.map_set,-List.getD_eq_getElem?_getD,e3,e4])
    · have hke:j=D.length:=by omega
      have ht:D.take j=D:=List.take_of_length_le (by omega)
      have ht2:E.take j=E:=List.take_of_length_le (by omega)
      by_cases h0:j=0
      · subst h0
        rw [if_pos rfl]
        have hL:(D.length:Int)=0:=by omega
        have hLn:D.length=0:=by omega
        clear ht ht2 hj hlt hke
        (repeat' (first
 | (first|refine awp_seq ?_|refine awp_block ?_)
 | ((first|refine awp_reg ?_|refine awp_condB ?_|refine awp_skip ?_|refine awp_exit ?_);simp (disch:=omega) only [push_cast,seval,l47r0,l47r1,l47r2,l47r3,l47r4,l47r5,l47r6,l47r7,l47r8,hL])
 | ((first|refine condB_split (fun h=>?_) (fun h=>?_)|refine gIf_split (fun h=>?_) (fun h=>?_)|refine qIf_split (fun h=>?_) (fun h=>?_))<;>(try simp only [h])<;>(try simp only [bitvec_to_nat] at h)<;>(try simp only [h])<;>(first|(exfalso;omega)|(focus (exfalso;simp_all;done))|(simp (disch:=omega) only [push_cast,seval,hL])|skip))
 | ((first|refine callD_of false ?_|refine qcallD_of false ?_);simp (disch:=omega) only [push_cast,seval,hL])
 | ((first|((first|refine call0D (BCall.ofP (cell_ok _ _ _ _ _ _ ?_ ?_)) ?_|refine qcall0D (BCall.ofP (cell_ok _ _ _ _ _ _ ?_ ?_)) ⟨_,_,rfl,rfl⟩ ?_);(iterate 2 (exact sd));rintro _ _ ⟨rfl,rfl⟩))<;>(try simp (disch:=omega) only [push_cast,seval,hL]))
 | (refine awp_ret ⟨.inr rfl,[16000,16016],[(16000,1),(16016,1)],_,by decide,rfl,?_⟩;(try simp (disch:=omega) only [push_cast,seval,↓allMem_nil,↓allMem_cons,↓List.map_cons,↓List.map_nil,hL]))))
        have ho:D=[]:=List.length_eq_zero_iff.1 hLn
        have ho2:E=[]:=List.length_eq_zero_iff.1 (by omega)
        all_goals simp [OV,ho,ho2]
      · rw [if_neg h0,ht,ht2]
        have hEl:E.length=j:=by omega
        (repeat' (first
 | (first|refine awp_seq ?_|refine awp_block ?_)
 | ((first|refine awp_reg ?_|refine awp_condB ?_|refine awp_skip ?_|refine awp_exit ?_);simp (disch:=omega) only [push_cast,seval,l47r0,l47r1,l47r2,l47r3,l47r4,l47r5,l47r6,l47r7,l47r8,hke,hEl])
 | ((first|refine condB_split (fun h=>?_) (fun h=>?_)|refine gIf_split (fun h=>?_) (fun h=>?_)|refine qIf_split (fun h=>?_) (fun h=>?_))<;>(try simp only [h])<;>(try simp only [bitvec_to_nat] at h)<;>(try simp only [h])<;>(first|(exfalso;omega)|(focus (exfalso;simp_all;done))|(simp (disch:=omega) only [push_cast,seval,hke,hEl])|skip))
 | ((first|refine callD_of false ?_|refine qcallD_of false ?_);simp (disch:=omega) only [push_cast,seval,hke,hEl])
 | ((first|((first|refine call0D (BCall.ofP (cell_ok _ _ _ _ _ _ ?_ ?_)) ?_|refine qcall0D (BCall.ofP (cell_ok _ _ _ _ _ _ ?_ ?_)) ⟨_,_,rfl,rfl⟩ ?_);(iterate 2 (exact sd));rintro _ _ ⟨rfl,rfl⟩))<;>(try simp (disch:=omega) only [push_cast,seval,hke,hEl]))
 | (refine awp_ret ⟨.inr rfl,[384,496],[],_,by decide,rfl,?_⟩;(try simp (disch:=omega) only [push_cast,seval,↓allMem_nil,↓allMem_cons,↓List.map_cons,↓List.map_nil,hke,hEl]))))
        all_goals simp [OV,hk1]
theorem partview4_ok (b:Int) (sh st:List Int) (p0 p1 p2 p3:Int) (D E:List Int) (n m k:Nat) (hm:st.length=m) (hk:E.length=D.length ∧ D.length=k) (hb:(m ≤ 4 ∧ (-1000000 ≤ b ∧ b ≤ 1000000) ∧ ∀ i,i < m → (-60 ≤ at4 p0 p1 p2 p3 i ∧ at4 p0 p1 p2 p3 i ≤ 60) ∧ -12960000 ≤ st.getD i 0 ∧ st.getD i 0 ≤ 12960000) ∧ k ≤ 1000) :
    BCall Tryz.prog 47 [.agg [.int .i64 b,.rows false (IL sh) n,.rows false (IL st) m,.int .i64 p0,.int .i64 p1,.int .i64 p2,.int .i64 p3,.rows false (IL (dm D E)) k]] [] (OV (b + dot (at4 p0 p1 p2 p3) st m) D E) :=
  partview_ok b sh st (at4 p0 p1 p2 p3) D E n m k hm hk hb


theorem pv_ok {b:Int} {sh st:List Int} (hv:vV b sh st=true):st.length ≤ 4 ∧ (-1000000 ≤ b ∧ b ≤ 1000000) ∧ ∀ i,i < st.length → (-60 ≤ at4 0 0 0 0 i ∧ at4 0 0 0 0 i ≤ 60) ∧ -12960000 ≤ st.getD i 0 ∧ st.getD i 0 ≤ 12960000:=by
  obtain ⟨⟨⟨hg,-⟩,hb,-,hst⟩,hl⟩:=okV_valid hv
  have:=hg.2
  exact ⟨by omega,by omega,fun i hi=>⟨by rw [at4_zero];omega,hst i (by omega)⟩⟩
theorem dot_at4 (st:List Int) (n:Nat):dot (at4 0 0 0 0) st n=0:=dot_zero n fun i _=>at4_zero i

end Go.Proofs.YtejbfjmiidofcaaGreat
