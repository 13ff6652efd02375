import Derived.Test.YtceopplkfomalaaGreatCKm5
import Derived.Test.YtceopplkfomalaaGreatCM1
import Derived.Test.YtceopplkfomalaaGreatCW3
set_option linter.unusedSimpArgs false
set_option linter.unusedVariables false
set_option maxRecDepth 4000
set_option maxHeartbeats 4000000
namespace Go.Proofs.YtceopplkfomalaaGreat
open VwM Vw Go

/-- A list and whether there is one: nothing without. -/
abbrev TB (v:Bool) (l:List Int):AV → List (List AV) → Prop:=fun r H'=>r=.tup [.own 0 (MVL v l).length 1,.bool v] ∧ H'=[IL (MVL v l)]
theorem MVL_true (l:List Int):MVL true l=l:=rfl
theorem MVL_false (l:List Int):MVL false l=[]:=rfl
theorem two_facts {mem:List Int} {b b':Int} {sh st sh' st':List Int} (h:twoB mem b sh st b' sh' st'=true):seeB mem b sh st=true ∧ seeB mem b' sh' st'=true ∧ sh=sh':=by
  simp only [twoB,Bool.and_eq_true,decide_eq_true_eq] at h
  exact ⟨h.1.1,h.1.2,h.2⟩
theorem take_facts {mem vals:List Int} {b:Int} {sh st:List Int} (h:takB mem b sh st vals=true):seeB mem b sh st=true ∧ (vals.length:Int)=pr sh ∧ ∀ x ∈ vals,0 ≤ x ∧ x ≤ 255:=by
  simp only [takB,Bool.and_eq_true,decide_eq_true_eq,allI_iff] at h
  exact ⟨h.1.1,h.1.2,h.2⟩


theorem iLoad_ok (mem:List Int) (b:Int) (sh st:List Int) (q n m:Nat) (hq:mem.length=q) (hn:sh.length=n) (hm:st.length=m) (hb:q ≤ 1099511627776 ∧ n ≤ 1099511627776 ∧ m ≤ 1099511627776):BCall Tryz.prog 10 [.rows false (IL mem) q,.agg [.int .i64 b,.rows false (IL sh) n,.rows false (IL st) m]] [] (OI (MVL (seeB mem b sh st) (takesL mem (offs b sh st)))):=by
  subst hq hn hm
  refine bcall_of (pins:=[]) (pin:=0) l10_eq rfl rfl rfl ?_
  cases h1:seeB mem b sh st with
  | false =>
    (repeat' (first
 | (first|refine awp_seq ?_|refine awp_block ?_)
 | ((first|refine awp_reg ?_|refine awp_condB ?_|refine awp_skip ?_|refine awp_exit ?_);simp (disch:=omega) only [push_cast,seval,l10r0,l10r1,l10r2,l10r3,h1])
 | ((first|refine condB_split (fun h=>?_) (fun h=>?_)|refine gIf_split (fun h=>?_) (fun h=>?_)|refine qIf_split (fun h=>?_) (fun h=>?_))<;>(try simp only [h])<;>(try simp only [bitvec_to_nat] at h)<;>(try simp only [h])<;>(first|(exfalso;omega)|(focus (exfalso;simp_all;done))|(simp (disch:=omega) only [push_cast,seval,h1])|skip))
 | ((first|refine callD_of false ?_|refine qcallD_of false ?_);simp (disch:=omega) only [push_cast,seval,h1])
 | ((first|((first|refine call0D (BCall.ofP (holds_ok _ _ _ _ _ _ _ ?_ ?_ ?_ ?_)) ?_|refine qcall0D (BCall.ofP (holds_ok _ _ _ _ _ _ _ ?_ ?_ ?_ ?_)) ⟨_,_,rfl,rfl⟩ ?_);(iterate 4 (exact sd));rintro _ _ ⟨rfl,rfl⟩)|((first|refine call0D (loaded_ok _ _ _ _ _ _ _ ?_ ?_ ?_ ?_) ?_|refine qcall0D (loaded_ok _ _ _ _ _ _ _ ?_ ?_ ?_ ?_) ⟨_,_,rfl,rfl⟩ ?_);(iterate 4 (exact sd));rintro _ _ ⟨rfl,rfl⟩))<;>(try simp (disch:=omega) only [push_cast,seval,h1]))
 | (refine awp_ret ⟨.inr rfl,[16000],[(16000,1)],_,by decide,rfl,?_⟩;(try simp (disch:=omega) only [push_cast,seval,↓allMem_nil,↓allMem_cons,↓List.map_cons,↓List.map_nil,h1]))))
    all_goals simp [OI,MVL]
  | true =>
    (repeat' (first
 | (first|refine awp_seq ?_|refine awp_block ?_)
 | ((first|refine awp_reg ?_|refine awp_condB ?_|refine awp_skip ?_|refine awp_exit ?_);simp (disch:=omega) only [push_cast,seval,l10r0,l10r1,l10r2,l10r3,h1])
 | ((first|refine condB_split (fun h=>?_) (fun h=>?_)|refine gIf_split (fun h=>?_) (fun h=>?_)|refine qIf_split (fun h=>?_) (fun h=>?_))<;>(try simp only [h])<;>(try simp only [bitvec_to_nat] at h)<;>(try simp only [h])<;>(first|(exfalso;omega)|(focus (exfalso;simp_all;done))|(simp (disch:=omega) only [push_cast,seval,h1])|skip))
 | ((first|refine callD_of false ?_|refine qcallD_of false ?_);simp (disch:=omega) only [push_cast,seval,h1])
 | ((first|((first|refine call0D (BCall.ofP (holds_ok _ _ _ _ _ _ _ ?_ ?_ ?_ ?_)) ?_|refine qcall0D (BCall.ofP (holds_ok _ _ _ _ _ _ _ ?_ ?_ ?_ ?_)) ⟨_,_,rfl,rfl⟩ ?_);(iterate 4 (exact sd));rintro _ _ ⟨rfl,rfl⟩)|((first|refine call0D (loaded_ok _ _ _ _ _ _ _ ?_ ?_ ?_ ?_) ?_|refine qcall0D (loaded_ok _ _ _ _ _ _ _ ?_ ?_ ?_ ?_) ⟨_,_,rfl,rfl⟩ ?_);(iterate 4 (exact sd));rintro _ _ ⟨rfl,rfl⟩))<;>(try simp (disch:=omega) only [push_cast,seval,h1]))
 | (refine awp_ret ⟨.inr rfl,[112],[],_,by decide,rfl,?_⟩;(try simp (disch:=omega) only [push_cast,seval,↓allMem_nil,↓allMem_cons,↓List.map_cons,↓List.map_nil,h1]);(first|done|(show AV.own _ _ _=_ ∧ _)))
 | (refine awp_ret ⟨.inr rfl,[176],[],_,by decide,rfl,?_⟩;(try simp (disch:=omega) only [push_cast,seval,↓allMem_nil,↓allMem_cons,↓List.map_cons,↓List.map_nil,h1]);(first|done|(show AV.own _ _ _=_ ∧ _)))))
    all_goals simp [OI,MVL]


/-- The cells with different values,of memories with as many cells. -/
def chB (a b:List Int):Bool:=vMem a && vMem b && decide (a.length=b.length)


set_option maxHeartbeats 8000000 in
theorem iCh_ok (xs ys:List Int) (n m:Nat) (hn:xs.length=n) (hm:ys.length=m) (hb:n ≤ 1099511627776 ∧ m ≤ 1099511627776):BCall Tryz.prog 12 [.rows false (IL xs) n,.rows false (IL ys) m] [] (OI (MVL (chB xs ys) (chL xs ys))):=by
  subst hn hm
  obtain ⟨hb0,hb3⟩:=hb
  refine bcall_of (pins:=[]) (pin:=0) l12_eq rfl rfl rfl ?_
  unfold chB
  cases h1:vMem xs with
  | false =>
    (repeat' (first
 | (first|refine awp_seq ?_|refine awp_block ?_)
 | ((first|refine awp_reg ?_|refine awp_condB ?_|refine awp_skip ?_|refine awp_exit ?_);simp (disch:=omega) only [push_cast,seval,l12r0,l12r1,l12r2,l12r3,l12r4,l12r5,l12r6,l12r7,l12r8,l12r9,l12r10,h1])
 | ((first|refine condB_split (fun h=>?_) (fun h=>?_)|refine gIf_split (fun h=>?_) (fun h=>?_)|refine qIf_split (fun h=>?_) (fun h=>?_))<;>(try simp only [h])<;>(try simp only [bitvec_to_nat] at h)<;>(try simp only [h])<;>(first|(exfalso;omega)|(focus (exfalso;simp_all;done))|(simp (disch:=omega) only [push_cast,seval,h1])|skip))
 | ((first|refine callD_of false ?_|refine qcallD_of false ?_);simp (disch:=omega) only [push_cast,seval,h1])
 | ((first|((first|refine call0D (BCall.ofP (iVMem_ok _ _ ?_ ?_)) ?_|refine qcall0D (BCall.ofP (iVMem_ok _ _ ?_ ?_)) ⟨_,_,rfl,rfl⟩ ?_);(iterate 2 (exact sd));rintro _ _ ⟨rfl,rfl⟩))<;>(try simp (disch:=omega) only [push_cast,seval,h1]))
 | (refine awp_ret ⟨.inr rfl,[16000],[(16000,1)],_,by decide,rfl,?_⟩;(try simp (disch:=omega) only [push_cast,seval,↓allMem_nil,↓allMem_cons,↓List.map_cons,↓List.map_nil,h1]))))
    all_goals simp [OI,MVL]
  | true =>
  cases h2:vMem ys with
  | false =>
    (repeat' (first
 | (first|refine awp_seq ?_|refine awp_block ?_)
 | ((first|refine awp_reg ?_|refine awp_condB ?_|refine awp_skip ?_|refine awp_exit ?_);simp (disch:=omega) only [push_cast,seval,l12r0,l12r1,l12r2,l12r3,l12r4,l12r5,l12r6,l12r7,l12r8,l12r9,l12r10,h1,h2])
 | ((first|refine condB_split (fun h=>?_) (fun h=>?_)|refine gIf_split (fun h=>?_) (fun h=>?_)|refine qIf_split (fun h=>?_) (fun h=>?_))<;>(try simp only [h])<;>(try simp only [bitvec_to_nat] at h)<;>(try simp only [h])<;>(first|(exfalso;omega)|(focus (exfalso;simp_all;done))|(simp (disch:=omega) only [push_cast,seval,h1,h2])|skip))
 | ((first|refine callD_of false ?_|refine qcallD_of false ?_);simp (disch:=omega) only [push_cast,seval,h1,h2])
 | ((first|((first|refine call0D (BCall.ofP (iVMem_ok _ _ ?_ ?_)) ?_|refine qcall0D (BCall.ofP (iVMem_ok _ _ ?_ ?_)) ⟨_,_,rfl,rfl⟩ ?_);(iterate 2 (exact sd));rintro _ _ ⟨rfl,rfl⟩))<;>(try simp (disch:=omega) only [push_cast,seval,h1,h2]))
 | (refine awp_ret ⟨.inr rfl,[16000],[(16000,1)],_,by decide,rfl,?_⟩;(try simp (disch:=omega) only [push_cast,seval,↓allMem_nil,↓allMem_cons,↓List.map_cons,↓List.map_nil,h1,h2]))))
    all_goals simp [OI,MVL]
  | true =>
  by_cases h3:xs.length=ys.length
  · have h3':(xs.length:Int)=(ys.length:Int):=by omega
    have h3b:decide (xs.length=ys.length)=true:=decide_eq_true h3
    have h60:=(vMem_spec.1 h1).1
    rw [h3b]
    (repeat' (first
 | (first|refine awp_seq ?_|refine awp_block ?_)
 | ((first|refine awp_reg ?_|refine awp_condB ?_|refine awp_skip ?_|refine awp_exit ?_);simp (disch:=omega) only [push_cast,seval,l12r0,l12r1,l12r2,l12r3,l12r4,l12r5,l12r6,l12r7,l12r8,l12r9,l12r10,h1,h2,h3'])
 | ((first|refine condB_split (fun h=>?_) (fun h=>?_)|refine gIf_split (fun h=>?_) (fun h=>?_)|refine qIf_split (fun h=>?_) (fun h=>?_))<;>(try simp only [h])<;>(try simp only [bitvec_to_nat] at h)<;>(try simp only [h])<;>(first|(exfalso;omega)|(focus (exfalso;simp_all;done))|(simp (disch:=omega) only [push_cast,seval,h1,h2,h3'])|skip))
 | ((first|refine callD_of false ?_|refine qcallD_of false ?_);simp (disch:=omega) only [push_cast,seval,h1,h2,h3'])
 | ((first|((first|refine call0D (BCall.ofP (iVMem_ok _ _ ?_ ?_)) ?_|refine qcall0D (BCall.ofP (iVMem_ok _ _ ?_ ?_)) ⟨_,_,rfl,rfl⟩ ?_);(iterate 2 (exact sd));rintro _ _ ⟨rfl,rfl⟩))<;>(try simp (disch:=omega) only [push_cast,seval,h1,h2,h3']))
 | (refine awp_ret ⟨.inr rfl,[624],[],_,by decide,rfl,?_⟩;(try simp (disch:=omega) only [push_cast,seval,↓allMem_nil,↓allMem_cons,↓List.map_cons,↓List.map_nil,h1,h2,h3']))))
    refine awp_loop (fun k:Nat=>if chK xs ys k=[] then mkS [(1,RI ys),(5,.val (.slice none 0 0)),(23,RI xs),(24,.int .i64 xs.length),(25,.int .i64 k)] [] else mkS [(1,RI ys),(5,.own 624 (chK xs ys k).length 1),(23,RI xs),(24,.int .i64 xs.length),(25,.int .i64 k)] [(624,IL (chK xs ys k))])
      (fun k=>k ≤ xs.length) (fun k=>xs.length - k) 0 (Nat.zero_le _) ?_ ?_
    · have e0:chK xs ys 0=[]:=rfl
      rw [if_pos e0]
      (refine Sub.of_lists ?_ ?_ ?_ ?_ ?_<;>simp [Vw.mkS,Vw.lk,Vw.hk,AV.inn,innL,innL_ints,innL_append,innL_rep,-List.map_set,-List.getD_eq_getElem?_getD,e0,h3'])
    · intro k hk
      have e1:=chK_length xs ys k
      by_cases hlt:k < xs.length
      · have hlt2:k < ys.length:=by omega
        by_cases he:xs.getD k 0=ys.getD k 0
        · have e2:chK xs ys (k + 1)=chK xs ys k:=by simp only [chK];rw [if_pos he]
          by_cases hp:chK xs ys k=[]
          · rw [if_pos hp]
            have hp2:chK xs ys (k + 1)=[]:=e2.trans hp
            (repeat' (first
 | (first|refine awp_seq ?_|refine awp_block ?_)
 | ((first|refine awp_reg ?_|refine awp_condB ?_|refine awp_skip ?_|refine awp_exit ?_);simp (disch:=omega) only [push_cast,seval,l12r0,l12r1,l12r2,l12r3,l12r4,l12r5,l12r6,l12r7,l12r8,l12r9,l12r10,he])
 | ((first|refine condB_split (fun h=>?_) (fun h=>?_)|refine gIf_split (fun h=>?_) (fun h=>?_)|refine qIf_split (fun h=>?_) (fun h=>?_))<;>(try simp only [h])<;>(try simp only [bitvec_to_nat] at h)<;>(try simp only [h])<;>(first|(exfalso;omega)|(focus (exfalso;simp_all;done))|(simp (disch:=omega) only [push_cast,seval,he])|skip))
 | ((first|refine callD_of false ?_|refine qcallD_of false ?_);simp (disch:=omega) only [push_cast,seval,he])
 | ((first|((first|refine call0D (BCall.ofP (iVMem_ok _ _ ?_ ?_)) ?_|refine qcall0D (BCall.ofP (iVMem_ok _ _ ?_ ?_)) ⟨_,_,rfl,rfl⟩ ?_);(iterate 2 (exact sd));rintro _ _ ⟨rfl,rfl⟩))<;>(try simp (disch:=omega) only [push_cast,seval,he]))
 | (refine awp_ret ⟨.inr rfl,[624],[],_,by decide,rfl,?_⟩; (try simp (disch := omega) only [push_cast,seval,↓allMem_nil,↓allMem_cons,↓List.map_cons,↓List.map_nil,he]))))
            refine ⟨k + 1,by omega,by omega,?_⟩
            rw [if_pos hp2]
            (refine Sub.of_lists ?_ ?_ ?_ ?_ ?_<;>simp [Vw.mkS,Vw.lk,Vw.hk,AV.inn,innL,innL_ints,innL_append,innL_rep,-List.map_set,-List.getD_eq_getElem?_getD])
          · rw [if_neg hp]
            have hp2:¬ chK xs ys (k + 1)=[]:=by rw [e2];exact hp
            rw [e2] at hp2
            (repeat' (first
 | (first|refine awp_seq ?_|refine awp_block ?_)
 | ((first|refine awp_reg ?_|refine awp_condB ?_|refine awp_skip ?_|refine awp_exit ?_);simp (disch:=omega) only [push_cast,seval,l12r0,l12r1,l12r2,l12r3,l12r4,l12r5,l12r6,l12r7,l12r8,l12r9,l12r10,he])
 | ((first|refine condB_split (fun h=>?_) (fun h=>?_)|refine gIf_split (fun h=>?_) (fun h=>?_)|refine qIf_split (fun h=>?_) (fun h=>?_))<;>(try simp only [h])<;>(try simp only [bitvec_to_nat] at h)<;>(try simp only [h])<;>(first|(exfalso;omega)|(focus (exfalso;simp_all;done))|(simp (disch:=omega) only [push_cast,seval,he])|skip))
 | ((first|refine callD_of false ?_|refine qcallD_of false ?_);simp (disch:=omega) only [push_cast,seval,he])
 | ((first|((first|refine call0D (BCall.ofP (iVMem_ok _ _ ?_ ?_)) ?_|refine qcall0D (BCall.ofP (iVMem_ok _ _ ?_ ?_)) ⟨_,_,rfl,rfl⟩ ?_);(iterate 2 (exact sd));rintro _ _ ⟨rfl,rfl⟩))<;>(try simp (disch:=omega) only [push_cast,seval,he]))
 | (refine awp_ret ⟨.inr rfl,[624],[],_,by decide,rfl,?_⟩; (try simp (disch := omega) only [push_cast,seval,↓allMem_nil,↓allMem_cons,↓List.map_cons,↓List.map_nil,he]))))
            refine ⟨k + 1,by omega,by omega,?_⟩
            rw [e2,if_neg hp]
            (refine Sub.of_lists ?_ ?_ ?_ ?_ ?_<;>simp [Vw.mkS,Vw.lk,Vw.hk,AV.inn,innL,innL_ints,innL_append,innL_rep,-List.map_set,-List.getD_eq_getElem?_getD])
        · have e2:chK xs ys (k + 1)=chK xs ys k ++ [(k:Int)]:=by simp only [chK];rw [if_neg he]
          have hp2:¬ chK xs ys k ++ [(k:Int)]=[]:=by simp
          by_cases hp:chK xs ys k=[]
          · rw [if_pos hp]
            rw [hp,List.nil_append] at e2
            have hp3:¬ [(k:Int)]=[]:=by simp
            (repeat' (first
 | (first|refine awp_seq ?_|refine awp_block ?_)
 | ((first|refine awp_reg ?_|refine awp_condB ?_|refine awp_skip ?_|refine awp_exit ?_);simp (disch:=omega) only [push_cast,seval,l12r0,l12r1,l12r2,l12r3,l12r4,l12r5,l12r6,l12r7,l12r8,l12r9,l12r10,he])
 | ((first|refine condB_split (fun h=>?_) (fun h=>?_)|refine gIf_split (fun h=>?_) (fun h=>?_)|refine qIf_split (fun h=>?_) (fun h=>?_))<;>(try simp only [h])<;>(try simp only [bitvec_to_nat] at h)<;>(try simp only [h])<;>(first|(exfalso;omega)|(focus (exfalso;simp_all;done))|(simp (disch:=omega) only [push_cast,seval,he])|skip))
 | ((first|refine callD_of false ?_|refine qcallD_of false ?_);simp (disch:=omega) only [push_cast,seval,he])
 | ((first|((first|refine call0D (BCall.ofP (iVMem_ok _ _ ?_ ?_)) ?_|refine qcall0D (BCall.ofP (iVMem_ok _ _ ?_ ?_)) ⟨_,_,rfl,rfl⟩ ?_);(iterate 2 (exact sd));rintro _ _ ⟨rfl,rfl⟩))<;>(try simp (disch:=omega) only [push_cast,seval,he]))
 | (refine awp_ret ⟨.inr rfl,[624],[],_,by decide,rfl,?_⟩; (try simp (disch := omega) only [push_cast,seval,↓allMem_nil,↓allMem_cons,↓List.map_cons,↓List.map_nil,he]))))
            refine ⟨k + 1,by omega,by omega,?_⟩
            rw [e2,if_neg hp3]
            (refine Sub.of_lists ?_ ?_ ?_ ?_ ?_<;>simp [Vw.mkS,Vw.lk,Vw.hk,AV.inn,innL,innL_ints,innL_append,innL_rep,-List.map_set,-List.getD_eq_getElem?_getD])
          · rw [if_neg hp]
            generalize chK xs ys k=p at *
            (repeat' (first
 | (first|refine awp_seq ?_|refine awp_block ?_)
 | ((first|refine awp_reg ?_|refine awp_condB ?_|refine awp_skip ?_|refine awp_exit ?_);simp (disch:=omega) only [push_cast,seval,l12r0,l12r1,l12r2,l12r3,l12r4,l12r5,l12r6,l12r7,l12r8,l12r9,l12r10,he])
 | ((first|refine condB_split (fun h=>?_) (fun h=>?_)|refine gIf_split (fun h=>?_) (fun h=>?_)|refine qIf_split (fun h=>?_) (fun h=>?_))<;>(try simp only [h])<;>(try simp only [bitvec_to_nat] at h)<;>(try simp only [h])<;>(first|(exfalso;omega)|(focus (exfalso;simp_all;done))|(simp (disch:=omega) only [push_cast,seval,he])|skip))
 | ((first|refine callD_of false ?_|refine qcallD_of false ?_);simp (disch:=omega) only [push_cast,seval,he])
 | ((first|((first|refine call0D (BCall.ofP (iVMem_ok _ _ ?_ ?_)) ?_|refine qcall0D (BCall.ofP (iVMem_ok _ _ ?_ ?_)) ⟨_,_,rfl,rfl⟩ ?_);(iterate 2 (exact sd));rintro _ _ ⟨rfl,rfl⟩))<;>(try simp (disch:=omega) only [push_cast,seval,he]))
 | (refine awp_ret ⟨.inr rfl,[624],[],_,by decide,rfl,?_⟩; (try simp (disch := omega) only [push_cast,seval,↓allMem_nil,↓allMem_cons,↓List.map_cons,↓List.map_nil,he]))))
            refine ⟨k + 1,by omega,by omega,?_⟩
            rw [e2,if_neg hp2]
            (refine Sub.of_lists ?_ ?_ ?_ ?_ ?_<;>simp [Vw.mkS,Vw.lk,Vw.hk,AV.inn,innL,innL_ints,innL_append,innL_rep,-List.map_set,-List.getD_eq_getElem?_getD])
      · have hke:k=xs.length:=by omega
        have e3:chK xs ys k=chL xs ys:=by rw [hke];rfl
        rw [e3]
        by_cases hp:chL xs ys=[]
        · rw [if_pos hp,hp]
          (repeat' (first
 | (first|refine awp_seq ?_|refine awp_block ?_)
 | ((first|refine awp_reg ?_|refine awp_condB ?_|refine awp_skip ?_|refine awp_exit ?_);simp (disch:=omega) only [push_cast,seval,l12r0,l12r1,l12r2,l12r3,l12r4,l12r5,l12r6,l12r7,l12r8,l12r9,l12r10])
 | ((first|refine condB_split (fun h=>?_) (fun h=>?_)|refine gIf_split (fun h=>?_) (fun h=>?_)|refine qIf_split (fun h=>?_) (fun h=>?_))<;>(try simp only [h])<;>(try simp only [bitvec_to_nat] at h)<;>(try simp only [h])<;>(first|(exfalso;omega)|(focus (exfalso;simp_all;done))|(simp (disch:=omega) only [push_cast,seval])|skip))
 | ((first|refine callD_of false ?_|refine qcallD_of false ?_);simp (disch:=omega) only [push_cast,seval])
 | ((first|((first|refine call0D (BCall.ofP (iVMem_ok _ _ ?_ ?_)) ?_|refine qcall0D (BCall.ofP (iVMem_ok _ _ ?_ ?_)) ⟨_,_,rfl,rfl⟩ ?_);(iterate 2 (exact sd));rintro _ _ ⟨rfl,rfl⟩))<;>(try simp (disch:=omega) only [push_cast,seval]))
 | (refine awp_ret ⟨.inr rfl,[16000],[(16000,1)],_,by decide,rfl,?_⟩; (try simp (disch := omega) only [push_cast,seval,↓allMem_nil,↓allMem_cons,↓List.map_cons,↓List.map_nil]))))
          all_goals simp [OI,MVL]
        · rw [if_neg hp]
          (repeat' (first
 | (first|refine awp_seq ?_|refine awp_block ?_)
 | ((first|refine awp_reg ?_|refine awp_condB ?_|refine awp_skip ?_|refine awp_exit ?_);simp (disch:=omega) only [push_cast,seval,l12r0,l12r1,l12r2,l12r3,l12r4,l12r5,l12r6,l12r7,l12r8,l12r9,l12r10])
 | ((first|refine condB_split (fun h=>?_) (fun h=>?_)|refine gIf_split (fun h=>?_) (fun h=>?_)|refine qIf_split (fun h=>?_) (fun h=>?_))<;>(try simp only [h])<;>(try simp only [bitvec_to_nat] at h)<;>(try simp only [h])<;>(first|(exfalso;omega)|(focus (exfalso;simp_all;done))|(simp (disch:=omega) only [push_cast,seval])|skip))
 | ((first|refine callD_of false ?_|refine qcallD_of false ?_);simp (disch:=omega) only [push_cast,seval])
 | ((first|((first|refine call0D (BCall.ofP (iVMem_ok _ _ ?_ ?_)) ?_|refine qcall0D (BCall.ofP (iVMem_ok _ _ ?_ ?_)) ⟨_,_,rfl,rfl⟩ ?_);(iterate 2 (exact sd));rintro _ _ ⟨rfl,rfl⟩))<;>(try simp (disch:=omega) only [push_cast,seval]))
 | (refine awp_ret ⟨.inr rfl,[624],[],_,by decide,rfl,?_⟩; (try simp (disch := omega) only [push_cast,seval,↓allMem_nil,↓allMem_cons,↓List.map_cons,↓List.map_nil]))))
          all_goals simp [OI,MVL]
  · have h3':¬ (xs.length:Int)=(ys.length:Int):=by omega
    have h3b:decide (xs.length=ys.length)=false:=decide_eq_false h3
    rw [h3b]
    (repeat' (first
 | (first|refine awp_seq ?_|refine awp_block ?_)
 | ((first|refine awp_reg ?_|refine awp_condB ?_|refine awp_skip ?_|refine awp_exit ?_);simp (disch:=omega) only [push_cast,seval,l12r0,l12r1,l12r2,l12r3,l12r4,l12r5,l12r6,l12r7,l12r8,l12r9,l12r10,h1,h2,h3'])
 | ((first|refine condB_split (fun h=>?_) (fun h=>?_)|refine gIf_split (fun h=>?_) (fun h=>?_)|refine qIf_split (fun h=>?_) (fun h=>?_))<;>(try simp only [h])<;>(try simp only [bitvec_to_nat] at h)<;>(try simp only [h])<;>(first|(exfalso;omega)|(focus (exfalso;simp_all;done))|(simp (disch:=omega) only [push_cast,seval,h1,h2,h3'])|skip))
 | ((first|refine callD_of false ?_|refine qcallD_of false ?_);simp (disch:=omega) only [push_cast,seval,h1,h2,h3'])
 | ((first|((first|refine call0D (BCall.ofP (iVMem_ok _ _ ?_ ?_)) ?_|refine qcall0D (BCall.ofP (iVMem_ok _ _ ?_ ?_)) ⟨_,_,rfl,rfl⟩ ?_);(iterate 2 (exact sd));rintro _ _ ⟨rfl,rfl⟩))<;>(try simp (disch:=omega) only [push_cast,seval,h1,h2,h3']))
 | (refine awp_ret ⟨.inr rfl,[16000],[(16000,1)],_,by decide,rfl,?_⟩;(try simp (disch:=omega) only [push_cast,seval,↓allMem_nil,↓allMem_cons,↓List.map_cons,↓List.map_nil,h1,h2,h3']))))
    all_goals simp [OI,MVL]


def sumV (mem:List Int) (b:Int) (sh st:List Int):Int:=if seeB mem b sh st=true then sumT (takesL mem (offs b sh st)) (offs b sh st).length else -1
theorem takes_bound {mem L:List Int} (h:∀ x ∈ mem,0 ≤ x ∧ x ≤ 255):∀ x ∈ takesL mem L,0 ≤ x ∧ x ≤ 255:=by
  intro x hx
  unfold takesL at hx
  obtain ⟨i,_,rfl⟩:=List.mem_map.1 hx
  by_cases hl:i.toNat < mem.length
  · exact h _ (getD_mem hl)
  · rw [List.getD,List.getElem?_eq_none (Nat.le_of_not_lt hl)]
    exact ⟨Int.le_refl 0,by decide⟩

end Go.Proofs.YtceopplkfomalaaGreat
