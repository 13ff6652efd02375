import Derived.Test.YtceopplkfomalaaGreatCKq
import Derived.Test.YtceopplkfomalaaGreatCM1
set_option linter.unusedSimpArgs false
set_option linter.unusedVariables false
set_option maxRecDepth 4000
set_option maxHeartbeats 4000000
namespace Go.Proofs.YtceopplkfomalaaGreat
open VwM Vw Go

theorem sboth_ok (xs ys:List Int) (n m:Nat) (hn:xs.length=n) (hm:ys.length=m) (hb:n ≤ 1099511627776 ∧ m ≤ 1099511627776):BCall Tryz.prog 50 [.rows false (IL xs) n,.rows false (IL ys) m] [] (OI (bothL xs ys)):=by
  subst hn hm
  obtain ⟨hb1,hb2⟩:=hb
  refine bcall_of (pins:=[]) (pin:=0) l50_eq rfl rfl rfl ?_
  (repeat' (first
 | (first|refine awp_seq ?_|refine awp_block ?_)
 | ((first|refine awp_reg ?_|refine awp_condB ?_|refine awp_skip ?_|refine awp_exit ?_);simp (disch:=omega) only [push_cast,seval,l50r0,l50r1,l50r2,l50r3,l50r4,l50r5,l50r6,l50r7])
 | ((first|refine condB_split (fun h=>?_) (fun h=>?_)|refine gIf_split (fun h=>?_) (fun h=>?_)|refine qIf_split (fun h=>?_) (fun h=>?_))<;>(try simp only [h])<;>(try simp only [bitvec_to_nat] at h)<;>(try simp only [h])<;>(first|(exfalso;omega)|(focus (exfalso;simp_all;done))|(simp (disch:=omega) only [push_cast,seval])|skip))
 | ((first|refine callD_of false ?_|refine qcallD_of false ?_);simp (disch:=omega) only [push_cast,seval])
 | ((first|((first|refine call0D (BCall.ofP (placeIn_ok _ _ _ ?_ ?_)) ?_|refine qcall0D (BCall.ofP (placeIn_ok _ _ _ ?_ ?_)) ⟨_,_,rfl,rfl⟩ ?_);(iterate 2 (exact sd));rintro _ _ ⟨rfl,rfl⟩))<;>(try simp (disch:=omega) only [push_cast,seval]))
 | (refine awp_ret ⟨.inr rfl,[112],[],_,by decide,rfl,?_⟩;(try simp (disch:=omega) only [push_cast,seval,↓allMem_nil,↓allMem_cons,↓List.map_cons,↓List.map_nil]);(first|done|(show AV.own _ _ _=_ ∧ _)))
 | (refine awp_ret ⟨.inr rfl,[224],[],_,by decide,rfl,?_⟩;(try simp (disch:=omega) only [push_cast,seval,↓allMem_nil,↓allMem_cons,↓List.map_cons,↓List.map_nil]);(first|done|(show AV.own _ _ _=_ ∧ _)))
 | (refine awp_ret ⟨.inr rfl,[304],[],_,by decide,rfl,?_⟩;(try simp (disch:=omega) only [push_cast,seval,↓allMem_nil,↓allMem_cons,↓List.map_cons,↓List.map_nil]);(first|done|(show AV.own _ _ _=_ ∧ _)))
 | (refine awp_ret ⟨.inr rfl,[384],[],_,by decide,rfl,?_⟩;(try simp (disch:=omega) only [push_cast,seval,↓allMem_nil,↓allMem_cons,↓List.map_cons,↓List.map_nil]);(first|done|(show AV.own _ _ _=_ ∧ _)))
 | (refine awp_ret ⟨.inr rfl,[400],[],_,by decide,rfl,?_⟩;(try simp (disch:=omega) only [push_cast,seval,↓allMem_nil,↓allMem_cons,↓List.map_cons,↓List.map_nil]);(first|done|(show AV.own _ _ _=_ ∧ _)))))
  refine awp_loop (fun k:Nat=>mkS [(0,RI xs),(1,RI ys),(6,.int .i64 k),(5,.own 112 (bothT xs ys k).length 1)] [(112,IL (bothT xs ys k))])
    (fun k=>k ≤ 60) (fun k=>60 - k) 0 (Nat.zero_le _) ?_ ?_
  · (refine Sub.of_lists ?_ ?_ ?_ ?_ ?_<;>simp [Vw.mkS,Vw.lk,Vw.hk,AV.inn,innL,innL_ints,innL_append,innL_rep,-List.map_set,-List.getD_eq_getElem?_getD,bothT_zero])
  · intro k hk
    have hle:=bothT_le xs ys k
    by_cases hlt:k < 60
    · by_cases hm:(k:Int) ∈ xs
      · have hp:0 ≤ placeI xs k:=by
          have:=mt (@placeI_neg xs k).1 (fun h=>h hm)
          omega
        by_cases hm2:(k:Int) ∈ ys
        · have hp2:0 ≤ placeI ys k:=by
            have:=mt (@placeI_neg ys k).1 (fun h=>h hm2)
            omega
          have e2:=bothT_yes hm hm2
          generalize hq:bothT xs ys k=q at *
          (repeat' (first
 | (first|refine awp_seq ?_|refine awp_block ?_)
 | ((first|refine awp_reg ?_|refine awp_condB ?_|refine awp_skip ?_|refine awp_exit ?_);simp (disch:=omega) only [push_cast,seval,l50r0,l50r1,l50r2,l50r3,l50r4,l50r5,l50r6,l50r7,hp,hp2])
 | ((first|refine condB_split (fun h=>?_) (fun h=>?_)|refine gIf_split (fun h=>?_) (fun h=>?_)|refine qIf_split (fun h=>?_) (fun h=>?_))<;>(try simp only [h])<;>(try simp only [bitvec_to_nat] at h)<;>(try simp only [h])<;>(first|(exfalso;omega)|(focus (exfalso;simp_all;done))|(simp (disch:=omega) only [push_cast,seval,hp,hp2])|skip))
 | ((first|refine callD_of false ?_|refine qcallD_of false ?_);simp (disch:=omega) only [push_cast,seval,hp,hp2])
 | ((first|((first|refine call0D (BCall.ofP (placeIn_ok _ _ _ ?_ ?_)) ?_|refine qcall0D (BCall.ofP (placeIn_ok _ _ _ ?_ ?_)) ⟨_,_,rfl,rfl⟩ ?_);(iterate 2 (exact sd));rintro _ _ ⟨rfl,rfl⟩))<;>(try simp (disch:=omega) only [push_cast,seval,hp,hp2]))
 | (refine awp_ret ⟨.inr rfl,[112],[],_,by decide,rfl,?_⟩;(try simp (disch:=omega) only [push_cast,seval,↓allMem_nil,↓allMem_cons,↓List.map_cons,↓List.map_nil,hp,hp2]);(first|done|(show AV.own _ _ _=_ ∧ _)))
 | (refine awp_ret ⟨.inr rfl,[224],[],_,by decide,rfl,?_⟩;(try simp (disch:=omega) only [push_cast,seval,↓allMem_nil,↓allMem_cons,↓List.map_cons,↓List.map_nil,hp,hp2]);(first|done|(show AV.own _ _ _=_ ∧ _)))
 | (refine awp_ret ⟨.inr rfl,[304],[],_,by decide,rfl,?_⟩;(try simp (disch:=omega) only [push_cast,seval,↓allMem_nil,↓allMem_cons,↓List.map_cons,↓List.map_nil,hp,hp2]);(first|done|(show AV.own _ _ _=_ ∧ _)))
 | (refine awp_ret ⟨.inr rfl,[384],[],_,by decide,rfl,?_⟩;(try simp (disch:=omega) only [push_cast,seval,↓allMem_nil,↓allMem_cons,↓List.map_cons,↓List.map_nil,hp,hp2]);(first|done|(show AV.own _ _ _=_ ∧ _)))
 | (refine awp_ret ⟨.inr rfl,[400],[],_,by decide,rfl,?_⟩; (try simp (disch := omega) only [push_cast,seval,↓allMem_nil,↓allMem_cons,↓List.map_cons,↓List.map_nil,hp,hp2]); (first | done | (show AV.own _ _ _ = _ ∧ _)))))
          refine ⟨k + 1,by omega,by omega,?_⟩
          (refine Sub.of_lists ?_ ?_ ?_ ?_ ?_<;>simp [Vw.mkS,Vw.lk,Vw.hk,AV.inn,innL,innL_ints,innL_append,innL_rep,-List.map_set,-List.getD_eq_getElem?_getD,e2])
        · have hp2:¬ 0 ≤ placeI ys k:=by have:=(@placeI_neg ys k).2 hm2;omega
          have e2:=bothT_no (xs:=xs) (ys:=ys) (k:=k) (fun h=>hm2 h.2)
          generalize hq:bothT xs ys k=q at *
          (repeat' (first
 | (first|refine awp_seq ?_|refine awp_block ?_)
 | ((first|refine awp_reg ?_|refine awp_condB ?_|refine awp_skip ?_|refine awp_exit ?_);simp (disch:=omega) only [push_cast,seval,l50r0,l50r1,l50r2,l50r3,l50r4,l50r5,l50r6,l50r7,hp,hp2])
 | ((first|refine condB_split (fun h=>?_) (fun h=>?_)|refine gIf_split (fun h=>?_) (fun h=>?_)|refine qIf_split (fun h=>?_) (fun h=>?_))<;>(try simp only [h])<;>(try simp only [bitvec_to_nat] at h)<;>(try simp only [h])<;>(first|(exfalso;omega)|(focus (exfalso;simp_all;done))|(simp (disch:=omega) only [push_cast,seval,hp,hp2])|skip))
 | ((first|refine callD_of false ?_|refine qcallD_of false ?_);simp (disch:=omega) only [push_cast,seval,hp,hp2])
 | ((first|((first|refine call0D (BCall.ofP (placeIn_ok _ _ _ ?_ ?_)) ?_|refine qcall0D (BCall.ofP (placeIn_ok _ _ _ ?_ ?_)) ⟨_,_,rfl,rfl⟩ ?_);(iterate 2 (exact sd));rintro _ _ ⟨rfl,rfl⟩))<;>(try simp (disch:=omega) only [push_cast,seval,hp,hp2]))
 | (refine awp_ret ⟨.inr rfl,[112],[],_,by decide,rfl,?_⟩;(try simp (disch:=omega) only [push_cast,seval,↓allMem_nil,↓allMem_cons,↓List.map_cons,↓List.map_nil,hp,hp2]);(first|done|(show AV.own _ _ _=_ ∧ _)))
 | (refine awp_ret ⟨.inr rfl,[224],[],_,by decide,rfl,?_⟩;(try simp (disch:=omega) only [push_cast,seval,↓allMem_nil,↓allMem_cons,↓List.map_cons,↓List.map_nil,hp,hp2]);(first|done|(show AV.own _ _ _=_ ∧ _)))
 | (refine awp_ret ⟨.inr rfl,[304],[],_,by decide,rfl,?_⟩;(try simp (disch:=omega) only [push_cast,seval,↓allMem_nil,↓allMem_cons,↓List.map_cons,↓List.map_nil,hp,hp2]);(first|done|(show AV.own _ _ _=_ ∧ _)))
 | (refine awp_ret ⟨.inr rfl,[384],[],_,by decide,rfl,?_⟩;(try simp (disch:=omega) only [push_cast,seval,↓allMem_nil,↓allMem_cons,↓List.map_cons,↓List.map_nil,hp,hp2]);(first|done|(show AV.own _ _ _=_ ∧ _)))
 | (refine awp_ret ⟨.inr rfl,[400],[],_,by decide,rfl,?_⟩; (try simp (disch := omega) only [push_cast,seval,↓allMem_nil,↓allMem_cons,↓List.map_cons,↓List.map_nil,hp,hp2]); (first | done | (show AV.own _ _ _ = _ ∧ _)))))
          refine ⟨k + 1,by omega,by omega,?_⟩
          (refine Sub.of_lists ?_ ?_ ?_ ?_ ?_<;>simp [Vw.mkS,Vw.lk,Vw.hk,AV.inn,innL,innL_ints,innL_append,innL_rep,-List.map_set,-List.getD_eq_getElem?_getD,e2])
      · have hp:¬ 0 ≤ placeI xs k:=by have:=(@placeI_neg xs k).2 hm;omega
        have e2:=bothT_no (ys:=ys) (k:=k) (fun h=>hm h.1)
        generalize hq:bothT xs ys k=q at *
        (repeat' (first
 | (first|refine awp_seq ?_|refine awp_block ?_)
 | ((first|refine awp_reg ?_|refine awp_condB ?_|refine awp_skip ?_|refine awp_exit ?_);simp (disch:=omega) only [push_cast,seval,l50r0,l50r1,l50r2,l50r3,l50r4,l50r5,l50r6,l50r7,hp])
 | ((first|refine condB_split (fun h=>?_) (fun h=>?_)|refine gIf_split (fun h=>?_) (fun h=>?_)|refine qIf_split (fun h=>?_) (fun h=>?_))<;>(try simp only [h])<;>(try simp only [bitvec_to_nat] at h)<;>(try simp only [h])<;>(first|(exfalso;omega)|(focus (exfalso;simp_all;done))|(simp (disch:=omega) only [push_cast,seval,hp])|skip))
 | ((first|refine callD_of false ?_|refine qcallD_of false ?_);simp (disch:=omega) only [push_cast,seval,hp])
 | ((first|((first|refine call0D (BCall.ofP (placeIn_ok _ _ _ ?_ ?_)) ?_|refine qcall0D (BCall.ofP (placeIn_ok _ _ _ ?_ ?_)) ⟨_,_,rfl,rfl⟩ ?_);(iterate 2 (exact sd));rintro _ _ ⟨rfl,rfl⟩))<;>(try simp (disch:=omega) only [push_cast,seval,hp]))
 | (refine awp_ret ⟨.inr rfl,[112],[],_,by decide,rfl,?_⟩;(try simp (disch:=omega) only [push_cast,seval,↓allMem_nil,↓allMem_cons,↓List.map_cons,↓List.map_nil,hp]);(first|done|(show AV.own _ _ _=_ ∧ _)))
 | (refine awp_ret ⟨.inr rfl,[224],[],_,by decide,rfl,?_⟩;(try simp (disch:=omega) only [push_cast,seval,↓allMem_nil,↓allMem_cons,↓List.map_cons,↓List.map_nil,hp]);(first|done|(show AV.own _ _ _=_ ∧ _)))
 | (refine awp_ret ⟨.inr rfl,[304],[],_,by decide,rfl,?_⟩;(try simp (disch:=omega) only [push_cast,seval,↓allMem_nil,↓allMem_cons,↓List.map_cons,↓List.map_nil,hp]);(first|done|(show AV.own _ _ _=_ ∧ _)))
 | (refine awp_ret ⟨.inr rfl,[384],[],_,by decide,rfl,?_⟩;(try simp (disch:=omega) only [push_cast,seval,↓allMem_nil,↓allMem_cons,↓List.map_cons,↓List.map_nil,hp]);(first|done|(show AV.own _ _ _=_ ∧ _)))
 | (refine awp_ret ⟨.inr rfl,[400],[],_,by decide,rfl,?_⟩;(try simp (disch:=omega) only [push_cast,seval,↓allMem_nil,↓allMem_cons,↓List.map_cons,↓List.map_nil,hp]);(first|done|(show AV.own _ _ _=_ ∧ _)))))
        refine ⟨k + 1,by omega,by omega,?_⟩
        (refine Sub.of_lists ?_ ?_ ?_ ?_ ?_<;>simp [Vw.mkS,Vw.lk,Vw.hk,AV.inn,innL,innL_ints,innL_append,innL_rep,-List.map_set,-List.getD_eq_getElem?_getD,e2])
    · have:k=60:=by omega
      subst this
      rw [← bothT_all]
      (repeat' (first
 | (first|refine awp_seq ?_|refine awp_block ?_)
 | ((first|refine awp_reg ?_|refine awp_condB ?_|refine awp_skip ?_|refine awp_exit ?_);simp (disch:=omega) only [push_cast,seval,l50r0,l50r1,l50r2,l50r3,l50r4,l50r5,l50r6,l50r7])
 | ((first|refine condB_split (fun h=>?_) (fun h=>?_)|refine gIf_split (fun h=>?_) (fun h=>?_)|refine qIf_split (fun h=>?_) (fun h=>?_))<;>(try simp only [h])<;>(try simp only [bitvec_to_nat] at h)<;>(try simp only [h])<;>(first|(exfalso;omega)|(focus (exfalso;simp_all;done))|(simp (disch:=omega) only [push_cast,seval])|skip))
 | ((first|refine callD_of false ?_|refine qcallD_of false ?_);simp (disch:=omega) only [push_cast,seval])
 | ((first|((first|refine call0D (BCall.ofP (placeIn_ok _ _ _ ?_ ?_)) ?_|refine qcall0D (BCall.ofP (placeIn_ok _ _ _ ?_ ?_)) ⟨_,_,rfl,rfl⟩ ?_);(iterate 2 (exact sd));rintro _ _ ⟨rfl,rfl⟩))<;>(try simp (disch:=omega) only [push_cast,seval]))
 | (refine awp_ret ⟨.inr rfl,[112],[],_,by decide,rfl,?_⟩;(try simp (disch:=omega) only [push_cast,seval,↓allMem_nil,↓allMem_cons,↓List.map_cons,↓List.map_nil]);(first|done|(show AV.own _ _ _=_ ∧ _)))
 | (refine awp_ret ⟨.inr rfl,[224],[],_,by decide,rfl,?_⟩;(try simp (disch:=omega) only [push_cast,seval,↓allMem_nil,↓allMem_cons,↓List.map_cons,↓List.map_nil]);(first|done|(show AV.own _ _ _=_ ∧ _)))
 | (refine awp_ret ⟨.inr rfl,[304],[],_,by decide,rfl,?_⟩;(try simp (disch:=omega) only [push_cast,seval,↓allMem_nil,↓allMem_cons,↓List.map_cons,↓List.map_nil]);(first|done|(show AV.own _ _ _=_ ∧ _)))
 | (refine awp_ret ⟨.inr rfl,[384],[],_,by decide,rfl,?_⟩;(try simp (disch:=omega) only [push_cast,seval,↓allMem_nil,↓allMem_cons,↓List.map_cons,↓List.map_nil]);(first|done|(show AV.own _ _ _=_ ∧ _)))
 | (refine awp_ret ⟨.inr rfl,[400],[],_,by decide,rfl,?_⟩;(try simp (disch:=omega) only [push_cast,seval,↓allMem_nil,↓allMem_cons,↓List.map_cons,↓List.map_nil]);(first|done|(show AV.own _ _ _=_ ∧ _)))))
      simp [OI]

end Go.Proofs.YtceopplkfomalaaGreat
