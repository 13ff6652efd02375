/- Texts of this verifier. -/
import Derived.Test.YtahdlohpncjdbaaGreatDoorCB3
import Derived.Test.YtahdlohpncjdbaaGreatDoorCM1
import Derived.Test.YtahdlohpncjdbaaGreatDoorCW3
set_option linter.unusedSimpArgs false
set_option linter.unusedVariables false
set_option maxRecDepth 4000
set_option maxHeartbeats 4000000
namespace Go.Proofs.YtahdlohpncjdbaaGreatDoor
open VwM Vw Go
set_option linter.unusedSectionVars false
variable [SentA]

theorem okV_of {b:Int} {sh st:List Int} (h1:vSh sh=true) (h2:vSt st sh.length=true) (h3:0 ≤ b ∧ b ≤ 60):okV b sh st ∧ st.length=sh.length:=by
  have hg:=Cqz h1
  have hs:=(C8z.1 h2).1
  exact ⟨⟨⟨hg.1,hg.2.2⟩,by omega,by omega,fun i hi=>by have:=Iuz h2 hi;omega⟩,hs⟩
theorem F5z {b:Int} {sh st:List Int} (h:vV b sh st=true):okV b sh st ∧ st.length=sh.length:=by
  obtain ⟨h1,h2,h3,_⟩:=vV_spec.1 h
  exact okV_of h1 h2 h3
theorem vV_shape {b:Int} {sh st:List Int} (h:vSh sh=false):vV b sh st=false:=by simp [vV,h]
theorem vV_str {b:Int} {sh st:List Int} (h:vSt st sh.length=false):vV b sh st=false:=by simp [vV,h]
theorem vV_base {b:Int} {sh st:List Int} (h:¬ (0 ≤ b ∧ b ≤ 60)):vV b sh st=false:=by
  rw [Bool.eq_false_iff];intro h';exact h (vV_spec.1 h').2.2.1
theorem vV_rest {b:Int} {sh st:List Int} (h1:vSh sh=true) (h2:vSt st sh.length=true) (h3:0 ≤ b ∧ b ≤ 60):vV b sh st=(decide (pr sh=0) || allI (offs b sh st) 0 59):=by
  simp [vV,h1,h2,h3]


theorem svalidView_ok (b:Int) (sh st:List Int) (n m:Nat) (hn:sh.length=n) (hm:st.length=m) (hb:n ≤ 1099511627776 ∧ m ≤ 1099511627776):PCall Tryz.prog 33 [.agg [.int .i64 b,.rows false (IL sh) n,.rows false (IL st) m]] (fun r=>r=.bool (vV b sh st)):=by
  subst hn hm
  obtain ⟨hb1,hb2⟩:=hb
  refine Auz l33_eq rfl ?_
  cases hv:vSh sh with
  | false =>
    rw [vV_shape hv]
    (repeat' (first
 | (first|refine Ajz ?_|refine Afz ?_)
 | ((first|refine Akz ?_|refine Aez ?_|refine Agz ?_|refine Ahz ?_);simp (disch:=omega) only [push_cast,seval,l33r0,l33r1,hv])
 | ((first|refine Aaz ?_ ?_|refine Adz ?_ ?_|refine Acz ?_ ?_)<;>intro h<;>(try simp only [h])<;>(try simp only [bitvec_to_nat] at h)<;>(try simp only [h])<;>(first|(exfalso;omega)|(exfalso;simp_all;done)|(simp (disch:=omega) only [push_cast,seval,hv])|skip))
 | ((first|refine Amz false ?_|refine Alz false ?_);simp (disch:=omega) only [push_cast,seval,hv])
 | ((first|((first|refine call0D (BCall.ofP (A9z _ _ ?_ ?_)) ?_|refine qcall0D (BCall.ofP (A9z _ _ ?_ ?_)) ⟨_,_,rfl,rfl⟩ ?_);(iterate 2 (exact sd));rintro _ _ ⟨rfl,rfl⟩)|((first|refine call0D (BCall.ofP (allIn_ok _ _ _ _ ?_ ?_)) ?_|refine qcall0D (BCall.ofP (allIn_ok _ _ _ _ ?_ ?_)) ⟨_,_,rfl,rfl⟩ ?_);(iterate 2 (exact sd));rintro _ _ ⟨rfl,rfl⟩)|((first|refine call0D (BCall.ofP (inRange_ok _ _ _)) ?_|refine qcall0D (BCall.ofP (inRange_ok _ _ _)) ⟨_,_,rfl,rfl⟩ ?_);rintro _ _ ⟨rfl,rfl⟩)|((first|refine call0D (BCall.ofP (scount_ok _ _ ?_ ?_)) ?_|refine qcall0D (BCall.ofP (scount_ok _ _ ?_ ?_)) ⟨_,_,rfl,rfl⟩ ?_);(iterate 2 (exact sd));rintro _ _ ⟨rfl,rfl⟩)|((first|refine call0D (soffsets_ok _ _ _ _ _ ?_ ?_ ?_) ?_|refine qcall0D (soffsets_ok _ _ _ _ _ ?_ ?_ ?_) ⟨_,_,rfl,rfl⟩ ?_);(iterate 3 (exact sd));rintro _ _ ⟨rfl,rfl⟩))<;>(try simp (disch:=omega) only [push_cast,seval,hv]))
 | (refine Aiz ⟨.inr rfl,_,rfl,?_⟩;(try simp (disch:=omega) only [push_cast,seval,hv]))))
  | true =>
  have hg:=(Cqz hv).1
  by_cases hl:st.length=sh.length
  · have hl':(st.length:Int)=sh.length:=by omega
    cases ha:allI st (-60) 60 with
    | false =>
      rw [vV_str (by simp [vSt,ha])]
      (repeat' (first
 | (first|refine Ajz ?_|refine Afz ?_)
 | ((first|refine Akz ?_|refine Aez ?_|refine Agz ?_|refine Ahz ?_);simp (disch:=omega) only [push_cast,seval,l33r0,l33r1,hv,hl',ha])
 | ((first|refine Aaz ?_ ?_|refine Adz ?_ ?_|refine Acz ?_ ?_)<;>intro h<;>(try simp only [h])<;>(try simp only [bitvec_to_nat] at h)<;>(try simp only [h])<;>(first|(exfalso;omega)|(exfalso;simp_all;done)|(simp (disch:=omega) only [push_cast,seval,hv,hl',ha])|skip))
 | ((first|refine Amz false ?_|refine Alz false ?_);simp (disch:=omega) only [push_cast,seval,hv,hl',ha])
 | ((first|((first|refine call0D (BCall.ofP (A9z _ _ ?_ ?_)) ?_|refine qcall0D (BCall.ofP (A9z _ _ ?_ ?_)) ⟨_,_,rfl,rfl⟩ ?_);(iterate 2 (exact sd));rintro _ _ ⟨rfl,rfl⟩)|((first|refine call0D (BCall.ofP (allIn_ok _ _ _ _ ?_ ?_)) ?_|refine qcall0D (BCall.ofP (allIn_ok _ _ _ _ ?_ ?_)) ⟨_,_,rfl,rfl⟩ ?_);(iterate 2 (exact sd));rintro _ _ ⟨rfl,rfl⟩)|((first|refine call0D (BCall.ofP (inRange_ok _ _ _)) ?_|refine qcall0D (BCall.ofP (inRange_ok _ _ _)) ⟨_,_,rfl,rfl⟩ ?_);rintro _ _ ⟨rfl,rfl⟩)|((first|refine call0D (BCall.ofP (scount_ok _ _ ?_ ?_)) ?_|refine qcall0D (BCall.ofP (scount_ok _ _ ?_ ?_)) ⟨_,_,rfl,rfl⟩ ?_);(iterate 2 (exact sd));rintro _ _ ⟨rfl,rfl⟩)|((first|refine call0D (soffsets_ok _ _ _ _ _ ?_ ?_ ?_) ?_|refine qcall0D (soffsets_ok _ _ _ _ _ ?_ ?_ ?_) ⟨_,_,rfl,rfl⟩ ?_);(iterate 3 (exact sd));rintro _ _ ⟨rfl,rfl⟩))<;>(try simp (disch:=omega) only [push_cast,seval,hv,hl',ha]))
 | (refine Aiz ⟨.inr rfl,_,rfl,?_⟩;(try simp (disch:=omega) only [push_cast,seval,hv,hl',ha]))))
    | true =>
      have hs:vSt st sh.length=true:=by simp [vSt,hl,ha]
      by_cases hr:0 ≤ b ∧ b ≤ 60
      · have hok:=(okV_of hv hs hr).1
        rw [vV_rest hv hs hr]
        obtain ⟨hr1,hr2⟩:=hr
        have hol:=Fjz b sh st
        have hpb:=(Cqz hv).2
        have hb3:(offs b sh st).length ≤ 1099511627776:=by omega
        by_cases hz:pr sh=0
        · (repeat' (first
 | (first|refine Ajz ?_|refine Afz ?_)
 | ((first|refine Akz ?_|refine Aez ?_|refine Agz ?_|refine Ahz ?_);simp (disch:=omega) only [push_cast,seval,l33r0,l33r1,hv,hl',ha,hr1,hr2,hz])
 | ((first|refine Aaz ?_ ?_|refine Adz ?_ ?_|refine Acz ?_ ?_)<;>intro h<;>(try simp only [h])<;>(try simp only [bitvec_to_nat] at h)<;>(try simp only [h])<;>(first|(exfalso;omega)|(exfalso;simp_all;done)|(simp (disch:=omega) only [push_cast,seval,hv,hl',ha,hr1,hr2,hz])|skip))
 | ((first|refine Amz false ?_|refine Alz false ?_);simp (disch:=omega) only [push_cast,seval,hv,hl',ha,hr1,hr2,hz])
 | ((first|((first|refine call0D (BCall.ofP (A9z _ _ ?_ ?_)) ?_|refine qcall0D (BCall.ofP (A9z _ _ ?_ ?_)) ⟨_,_,rfl,rfl⟩ ?_);(iterate 2 (exact sd));rintro _ _ ⟨rfl,rfl⟩)|((first|refine call0D (BCall.ofP (allIn_ok _ _ _ _ ?_ ?_)) ?_|refine qcall0D (BCall.ofP (allIn_ok _ _ _ _ ?_ ?_)) ⟨_,_,rfl,rfl⟩ ?_);(iterate 2 (exact sd));rintro _ _ ⟨rfl,rfl⟩)|((first|refine call0D (BCall.ofP (inRange_ok _ _ _)) ?_|refine qcall0D (BCall.ofP (inRange_ok _ _ _)) ⟨_,_,rfl,rfl⟩ ?_);rintro _ _ ⟨rfl,rfl⟩)|((first|refine call0D (BCall.ofP (scount_ok _ _ ?_ ?_)) ?_|refine qcall0D (BCall.ofP (scount_ok _ _ ?_ ?_)) ⟨_,_,rfl,rfl⟩ ?_);(iterate 2 (exact sd));rintro _ _ ⟨rfl,rfl⟩)|((first|refine call0D (soffsets_ok _ _ _ _ _ ?_ ?_ ?_) ?_|refine qcall0D (soffsets_ok _ _ _ _ _ ?_ ?_ ?_) ⟨_,_,rfl,rfl⟩ ?_);(iterate 3 (exact sd));rintro _ _ ⟨rfl,rfl⟩))<;>(try simp (disch:=omega) only [push_cast,seval,hv,hl',ha,hr1,hr2,hz]))
 | (refine Aiz ⟨.inr rfl,_,rfl,?_⟩; (try simp (disch := omega) only [push_cast,seval,hv,hl',ha,hr1,hr2,hz]))))
          all_goals simp
        · (repeat' (first
 | (first|refine Ajz ?_|refine Afz ?_)
 | ((first|refine Akz ?_|refine Aez ?_|refine Agz ?_|refine Ahz ?_);simp (disch:=omega) only [push_cast,seval,l33r0,l33r1,hv,hl',ha,hr1,hr2,hz])
 | ((first|refine Aaz ?_ ?_|refine Adz ?_ ?_|refine Acz ?_ ?_)<;>intro h<;>(try simp only [h])<;>(try simp only [bitvec_to_nat] at h)<;>(try simp only [h])<;>(first|(exfalso;omega)|(exfalso;simp_all;done)|(simp (disch:=omega) only [push_cast,seval,hv,hl',ha,hr1,hr2,hz])|skip))
 | ((first|refine Amz false ?_|refine Alz false ?_);simp (disch:=omega) only [push_cast,seval,hv,hl',ha,hr1,hr2,hz])
 | ((first|((first|refine call0D (BCall.ofP (A9z _ _ ?_ ?_)) ?_|refine qcall0D (BCall.ofP (A9z _ _ ?_ ?_)) ⟨_,_,rfl,rfl⟩ ?_);(iterate 2 (exact sd));rintro _ _ ⟨rfl,rfl⟩)|((first|refine call0D (BCall.ofP (allIn_ok _ _ _ _ ?_ ?_)) ?_|refine qcall0D (BCall.ofP (allIn_ok _ _ _ _ ?_ ?_)) ⟨_,_,rfl,rfl⟩ ?_);(iterate 2 (exact sd));rintro _ _ ⟨rfl,rfl⟩)|((first|refine call0D (BCall.ofP (inRange_ok _ _ _)) ?_|refine qcall0D (BCall.ofP (inRange_ok _ _ _)) ⟨_,_,rfl,rfl⟩ ?_);rintro _ _ ⟨rfl,rfl⟩)|((first|refine call0D (BCall.ofP (scount_ok _ _ ?_ ?_)) ?_|refine qcall0D (BCall.ofP (scount_ok _ _ ?_ ?_)) ⟨_,_,rfl,rfl⟩ ?_);(iterate 2 (exact sd));rintro _ _ ⟨rfl,rfl⟩)|((first|refine call0D (soffsets_ok _ _ _ _ _ ?_ ?_ ?_) ?_|refine qcall0D (soffsets_ok _ _ _ _ _ ?_ ?_ ?_) ⟨_,_,rfl,rfl⟩ ?_);(iterate 3 (exact sd));rintro _ _ ⟨rfl,rfl⟩))<;>(try simp (disch:=omega) only [push_cast,seval,hv,hl',ha,hr1,hr2,hz]))
 | (refine Aiz ⟨.inr rfl,_,rfl,?_⟩; (try simp (disch := omega) only [push_cast,seval,hv,hl',ha,hr1,hr2,hz]))))
          all_goals simp
      · rw [vV_base hr]
        have hr':(decide (0 ≤ b) && decide (b ≤ 60))=false:=by
          rw [Bool.eq_false_iff];intro h;simp at h;exact hr h
        (repeat' (first
 | (first|refine Ajz ?_|refine Afz ?_)
 | ((first|refine Akz ?_|refine Aez ?_|refine Agz ?_|refine Ahz ?_);simp (disch:=omega) only [push_cast,seval,l33r0,l33r1,hv,hl',ha,hr'])
 | ((first|refine Aaz ?_ ?_|refine Adz ?_ ?_|refine Acz ?_ ?_)<;>intro h<;>(try simp only [h])<;>(try simp only [bitvec_to_nat] at h)<;>(try simp only [h])<;>(first|(exfalso;omega)|(exfalso;simp_all;done)|(simp (disch:=omega) only [push_cast,seval,hv,hl',ha,hr'])|skip))
 | ((first|refine Amz false ?_|refine Alz false ?_);simp (disch:=omega) only [push_cast,seval,hv,hl',ha,hr'])
 | ((first|((first|refine call0D (BCall.ofP (A9z _ _ ?_ ?_)) ?_|refine qcall0D (BCall.ofP (A9z _ _ ?_ ?_)) ⟨_,_,rfl,rfl⟩ ?_);(iterate 2 (exact sd));rintro _ _ ⟨rfl,rfl⟩)|((first|refine call0D (BCall.ofP (allIn_ok _ _ _ _ ?_ ?_)) ?_|refine qcall0D (BCall.ofP (allIn_ok _ _ _ _ ?_ ?_)) ⟨_,_,rfl,rfl⟩ ?_);(iterate 2 (exact sd));rintro _ _ ⟨rfl,rfl⟩)|((first|refine call0D (BCall.ofP (inRange_ok _ _ _)) ?_|refine qcall0D (BCall.ofP (inRange_ok _ _ _)) ⟨_,_,rfl,rfl⟩ ?_);rintro _ _ ⟨rfl,rfl⟩)|((first|refine call0D (BCall.ofP (scount_ok _ _ ?_ ?_)) ?_|refine qcall0D (BCall.ofP (scount_ok _ _ ?_ ?_)) ⟨_,_,rfl,rfl⟩ ?_);(iterate 2 (exact sd));rintro _ _ ⟨rfl,rfl⟩)|((first|refine call0D (soffsets_ok _ _ _ _ _ ?_ ?_ ?_) ?_|refine qcall0D (soffsets_ok _ _ _ _ _ ?_ ?_ ?_) ⟨_,_,rfl,rfl⟩ ?_);(iterate 3 (exact sd));rintro _ _ ⟨rfl,rfl⟩))<;>(try simp (disch:=omega) only [push_cast,seval,hv,hl',ha,hr']))
 | (refine Aiz ⟨.inr rfl,_,rfl,?_⟩;(try simp (disch:=omega) only [push_cast,seval,hv,hl',ha,hr']))))
  · have hl':¬ (st.length:Int)=sh.length:=by omega
    rw [vV_str (by simp [vSt,hl])]
    (repeat' (first
 | (first|refine Ajz ?_|refine Afz ?_)
 | ((first|refine Akz ?_|refine Aez ?_|refine Agz ?_|refine Ahz ?_);simp (disch:=omega) only [push_cast,seval,l33r0,l33r1,hv,hl'])
 | ((first|refine Aaz ?_ ?_|refine Adz ?_ ?_|refine Acz ?_ ?_)<;>intro h<;>(try simp only [h])<;>(try simp only [bitvec_to_nat] at h)<;>(try simp only [h])<;>(first|(exfalso;omega)|(exfalso;simp_all;done)|(simp (disch:=omega) only [push_cast,seval,hv,hl'])|skip))
 | ((first|refine Amz false ?_|refine Alz false ?_);simp (disch:=omega) only [push_cast,seval,hv,hl'])
 | ((first|((first|refine call0D (BCall.ofP (A9z _ _ ?_ ?_)) ?_|refine qcall0D (BCall.ofP (A9z _ _ ?_ ?_)) ⟨_,_,rfl,rfl⟩ ?_);(iterate 2 (exact sd));rintro _ _ ⟨rfl,rfl⟩)|((first|refine call0D (BCall.ofP (allIn_ok _ _ _ _ ?_ ?_)) ?_|refine qcall0D (BCall.ofP (allIn_ok _ _ _ _ ?_ ?_)) ⟨_,_,rfl,rfl⟩ ?_);(iterate 2 (exact sd));rintro _ _ ⟨rfl,rfl⟩)|((first|refine call0D (BCall.ofP (inRange_ok _ _ _)) ?_|refine qcall0D (BCall.ofP (inRange_ok _ _ _)) ⟨_,_,rfl,rfl⟩ ?_);rintro _ _ ⟨rfl,rfl⟩)|((first|refine call0D (BCall.ofP (scount_ok _ _ ?_ ?_)) ?_|refine qcall0D (BCall.ofP (scount_ok _ _ ?_ ?_)) ⟨_,_,rfl,rfl⟩ ?_);(iterate 2 (exact sd));rintro _ _ ⟨rfl,rfl⟩)|((first|refine call0D (soffsets_ok _ _ _ _ _ ?_ ?_ ?_) ?_|refine qcall0D (soffsets_ok _ _ _ _ _ ?_ ?_ ?_) ⟨_,_,rfl,rfl⟩ ?_);(iterate 3 (exact sd));rintro _ _ ⟨rfl,rfl⟩))<;>(try simp (disch:=omega) only [push_cast,seval,hv,hl']))
 | (refine Aiz ⟨.inr rfl,_,rfl,?_⟩;(try simp (disch:=omega) only [push_cast,seval,hv,hl']))))


theorem A2z (b:Int) (sh st:List Int) (n m:Nat) (hn:sh.length=n) (hm:st.length=m) (hb:n ≤ 1099511627776 ∧ m ≤ 1099511627776):PCall Tryz.prog 70 [.agg [.int .i64 b,.rows false (IL sh) n,.rows false (IL st) m]] (fun r=>r=.bool (vV b sh st)):=by
  subst hn hm
  obtain ⟨hb1,hb2⟩:=hb
  refine Auz l70_eq rfl ?_
  cases hv:vSh sh with
  | false =>
    rw [vV_shape hv]
    (repeat' (first
 | (first|refine Ajz ?_|refine Afz ?_)
 | ((first|refine Akz ?_|refine Aez ?_|refine Agz ?_|refine Ahz ?_);simp (disch:=omega) only [push_cast,seval,l70r0,l70r1,l70r2,l70r3,l70r4,hv])
 | ((first|refine Aaz ?_ ?_|refine Adz ?_ ?_|refine Acz ?_ ?_)<;>intro h<;>(try simp only [h])<;>(try simp only [bitvec_to_nat] at h)<;>(try simp only [h])<;>(first|(exfalso;omega)|(exfalso;simp_all;done)|(simp (disch:=omega) only [push_cast,seval,hv])|skip))
 | ((first|refine Amz false ?_|refine Alz false ?_);simp (disch:=omega) only [push_cast,seval,hv])
 | ((first|((first|refine call0D (BCall.ofP (Bdz _ _ ?_ ?_)) ?_|refine qcall0D (BCall.ofP (Bdz _ _ ?_ ?_)) ⟨_,_,rfl,rfl⟩ ?_);(iterate 2 (exact sd));rintro _ _ ⟨rfl,rfl⟩)|((first|refine call0D (BCall.ofP (validStrides_ok _ _ _ ?_ ?_)) ?_|refine qcall0D (BCall.ofP (validStrides_ok _ _ _ ?_ ?_)) ⟨_,_,rfl,rfl⟩ ?_);(iterate 2 (exact sd));rintro _ _ ⟨rfl,rfl⟩)|((first|refine call0D (BCall.ofP (upTo_ok _ _)) ?_|refine qcall0D (BCall.ofP (upTo_ok _ _)) ⟨_,_,rfl,rfl⟩ ?_);rintro _ _ ⟨rfl,rfl⟩)|((first|refine call0D (BCall.ofP (bounds_ok _ _ _ _ _ ?_ ?_ ?_)) ?_|refine qcall0D (BCall.ofP (bounds_ok _ _ _ _ _ ?_ ?_ ?_)) ⟨_,_,rfl,rfl⟩ ?_);(iterate 3 (exact sd));rintro _ _ ⟨rfl,rfl⟩)|((first|refine call0D (BCall.ofP (vcount_ok _ _ _ _ _ _ ?_ ?_)) ?_|refine qcall0D (BCall.ofP (vcount_ok _ _ _ _ _ _ ?_ ?_)) ⟨_,_,rfl,rfl⟩ ?_);(iterate 2 (exact sd));rintro _ _ ⟨rfl,rfl⟩))<;>(try simp (disch:=omega) only [push_cast,seval,hv]))
 | (refine Aiz ⟨.inr rfl,_,rfl,?_⟩;(try simp (disch:=omega) only [push_cast,seval,hv]))))
  | true =>
  have hg:=(Cqz hv).1
  cases hs:vSt st sh.length with
  | false =>
    rw [vV_str hs]
    (repeat' (first
 | (first|refine Ajz ?_|refine Afz ?_)
 | ((first|refine Akz ?_|refine Aez ?_|refine Agz ?_|refine Ahz ?_);simp (disch:=omega) only [push_cast,seval,l70r0,l70r1,l70r2,l70r3,l70r4,hv,hs])
 | ((first|refine Aaz ?_ ?_|refine Adz ?_ ?_|refine Acz ?_ ?_)<;>intro h<;>(try simp only [h])<;>(try simp only [bitvec_to_nat] at h)<;>(try simp only [h])<;>(first|(exfalso;omega)|(exfalso;simp_all;done)|(simp (disch:=omega) only [push_cast,seval,hv,hs])|skip))
 | ((first|refine Amz false ?_|refine Alz false ?_);simp (disch:=omega) only [push_cast,seval,hv,hs])
 | ((first|((first|refine call0D (BCall.ofP (Bdz _ _ ?_ ?_)) ?_|refine qcall0D (BCall.ofP (Bdz _ _ ?_ ?_)) ⟨_,_,rfl,rfl⟩ ?_);(iterate 2 (exact sd));rintro _ _ ⟨rfl,rfl⟩)|((first|refine call0D (BCall.ofP (validStrides_ok _ _ _ ?_ ?_)) ?_|refine qcall0D (BCall.ofP (validStrides_ok _ _ _ ?_ ?_)) ⟨_,_,rfl,rfl⟩ ?_);(iterate 2 (exact sd));rintro _ _ ⟨rfl,rfl⟩)|((first|refine call0D (BCall.ofP (upTo_ok _ _)) ?_|refine qcall0D (BCall.ofP (upTo_ok _ _)) ⟨_,_,rfl,rfl⟩ ?_);rintro _ _ ⟨rfl,rfl⟩)|((first|refine call0D (BCall.ofP (bounds_ok _ _ _ _ _ ?_ ?_ ?_)) ?_|refine qcall0D (BCall.ofP (bounds_ok _ _ _ _ _ ?_ ?_ ?_)) ⟨_,_,rfl,rfl⟩ ?_);(iterate 3 (exact sd));rintro _ _ ⟨rfl,rfl⟩)|((first|refine call0D (BCall.ofP (vcount_ok _ _ _ _ _ _ ?_ ?_)) ?_|refine qcall0D (BCall.ofP (vcount_ok _ _ _ _ _ _ ?_ ?_)) ⟨_,_,rfl,rfl⟩ ?_);(iterate 2 (exact sd));rintro _ _ ⟨rfl,rfl⟩))<;>(try simp (disch:=omega) only [push_cast,seval,hv,hs]))
 | (refine Aiz ⟨.inr rfl,_,rfl,?_⟩;(try simp (disch:=omega) only [push_cast,seval,hv,hs]))))
  | true =>
    by_cases hr:0 ≤ b ∧ b ≤ 60
    · rw [vV_rest hv hs hr]
      obtain ⟨hr1,hr2⟩:=hr
      have hbb:good4 sh ∧ vSt st sh.length=true ∧ -1000000 ≤ b ∧ b ≤ 1000000:=⟨hg,hs,by omega⟩
      by_cases hz:pr sh=0
      · (repeat' (first
 | (first|refine Ajz ?_|refine Afz ?_)
 | ((first|refine Akz ?_|refine Aez ?_|refine Agz ?_|refine Ahz ?_);simp (disch:=omega) only [push_cast,seval,l70r0,l70r1,l70r2,l70r3,l70r4,hv,hs,hr1,hr2,hz])
 | ((first|refine Aaz ?_ ?_|refine Adz ?_ ?_|refine Acz ?_ ?_)<;>intro h<;>(try simp only [h])<;>(try simp only [bitvec_to_nat] at h)<;>(try simp only [h])<;>(first|(exfalso;omega)|(exfalso;simp_all;done)|(simp (disch:=omega) only [push_cast,seval,hv,hs,hr1,hr2,hz])|skip))
 | ((first|refine Amz false ?_|refine Alz false ?_);simp (disch:=omega) only [push_cast,seval,hv,hs,hr1,hr2,hz])
 | ((first|((first|refine call0D (BCall.ofP (Bdz _ _ ?_ ?_)) ?_|refine qcall0D (BCall.ofP (Bdz _ _ ?_ ?_)) ⟨_,_,rfl,rfl⟩ ?_);(iterate 2 (exact sd));rintro _ _ ⟨rfl,rfl⟩)|((first|refine call0D (BCall.ofP (validStrides_ok _ _ _ ?_ ?_)) ?_|refine qcall0D (BCall.ofP (validStrides_ok _ _ _ ?_ ?_)) ⟨_,_,rfl,rfl⟩ ?_);(iterate 2 (exact sd));rintro _ _ ⟨rfl,rfl⟩)|((first|refine call0D (BCall.ofP (upTo_ok _ _)) ?_|refine qcall0D (BCall.ofP (upTo_ok _ _)) ⟨_,_,rfl,rfl⟩ ?_);rintro _ _ ⟨rfl,rfl⟩)|((first|refine call0D (BCall.ofP (bounds_ok _ _ _ _ _ ?_ ?_ ?_)) ?_|refine qcall0D (BCall.ofP (bounds_ok _ _ _ _ _ ?_ ?_ ?_)) ⟨_,_,rfl,rfl⟩ ?_);(iterate 3 (exact sd));rintro _ _ ⟨rfl,rfl⟩)|((first|refine call0D (BCall.ofP (vcount_ok _ _ _ _ _ _ ?_ ?_)) ?_|refine qcall0D (BCall.ofP (vcount_ok _ _ _ _ _ _ ?_ ?_)) ⟨_,_,rfl,rfl⟩ ?_);(iterate 2 (exact sd));rintro _ _ ⟨rfl,rfl⟩))<;>(try simp (disch:=omega) only [push_cast,seval,hv,hs,hr1,hr2,hz]))
 | (refine Aiz ⟨.inr rfl,_,rfl,?_⟩;(try simp (disch:=omega) only [push_cast,seval,hv,hs,hr1,hr2,hz]))))
        all_goals simp
      · have hpb:=(Cqz hv).2
        rw [bd_all hg (by omega)]
        have e1:bdL b sh st=b + lowS sh st sh.length:=if_neg hz
        have e2:bdH b sh st=b + highS sh st sh.length:=if_neg hz
        (repeat' (first
 | (first|refine Ajz ?_|refine Afz ?_)
 | ((first|refine Akz ?_|refine Aez ?_|refine Agz ?_|refine Ahz ?_);simp (disch:=omega) only [push_cast,seval,l70r0,l70r1,l70r2,l70r3,l70r4,hv,hs,hr1,hr2,hz,e1,e2])
 | ((first|refine Aaz ?_ ?_|refine Adz ?_ ?_|refine Acz ?_ ?_)<;>intro h<;>(try simp only [h])<;>(try simp only [bitvec_to_nat] at h)<;>(try simp only [h])<;>(first|(exfalso;omega)|(exfalso;simp_all;done)|(simp (disch:=omega) only [push_cast,seval,hv,hs,hr1,hr2,hz,e1,e2])|skip))
 | ((first|refine Amz false ?_|refine Alz false ?_);simp (disch:=omega) only [push_cast,seval,hv,hs,hr1,hr2,hz,e1,e2])
 | ((first|((first|refine call0D (BCall.ofP (Bdz _ _ ?_ ?_)) ?_|refine qcall0D (BCall.ofP (Bdz _ _ ?_ ?_)) ⟨_,_,rfl,rfl⟩ ?_);(iterate 2 (exact sd));rintro _ _ ⟨rfl,rfl⟩)|((first|refine call0D (BCall.ofP (validStrides_ok _ _ _ ?_ ?_)) ?_|refine qcall0D (BCall.ofP (validStrides_ok _ _ _ ?_ ?_)) ⟨_,_,rfl,rfl⟩ ?_);(iterate 2 (exact sd));rintro _ _ ⟨rfl,rfl⟩)|((first|refine call0D (BCall.ofP (upTo_ok _ _)) ?_|refine qcall0D (BCall.ofP (upTo_ok _ _)) ⟨_,_,rfl,rfl⟩ ?_);rintro _ _ ⟨rfl,rfl⟩)|((first|refine call0D (BCall.ofP (bounds_ok _ _ _ _ _ ?_ ?_ ?_)) ?_|refine qcall0D (BCall.ofP (bounds_ok _ _ _ _ _ ?_ ?_ ?_)) ⟨_,_,rfl,rfl⟩ ?_);(iterate 3 (exact sd));rintro _ _ ⟨rfl,rfl⟩)|((first|refine call0D (BCall.ofP (vcount_ok _ _ _ _ _ _ ?_ ?_)) ?_|refine qcall0D (BCall.ofP (vcount_ok _ _ _ _ _ _ ?_ ?_)) ⟨_,_,rfl,rfl⟩ ?_);(iterate 2 (exact sd));rintro _ _ ⟨rfl,rfl⟩))<;>(try simp (disch:=omega) only [push_cast,seval,hv,hs,hr1,hr2,hz,e1,e2]))
 | (refine Aiz ⟨.inr rfl,_,rfl,?_⟩;(try simp (disch:=omega) only [push_cast,seval,hv,hs,hr1,hr2,hz,e1,e2]))))
        all_goals (simp [hz];try omega)
    · rw [vV_base hr]
      have hr':(decide (0 ≤ b) && decide (b ≤ 60))=false:=by
        rw [Bool.eq_false_iff];intro h;simp at h;exact hr h
      (repeat' (first
 | (first|refine Ajz ?_|refine Afz ?_)
 | ((first|refine Akz ?_|refine Aez ?_|refine Agz ?_|refine Ahz ?_);simp (disch:=omega) only [push_cast,seval,l70r0,l70r1,l70r2,l70r3,l70r4,hv,hs,hr'])
 | ((first|refine Aaz ?_ ?_|refine Adz ?_ ?_|refine Acz ?_ ?_)<;>intro h<;>(try simp only [h])<;>(try simp only [bitvec_to_nat] at h)<;>(try simp only [h])<;>(first|(exfalso;omega)|(exfalso;simp_all;done)|(simp (disch:=omega) only [push_cast,seval,hv,hs,hr'])|skip))
 | ((first|refine Amz false ?_|refine Alz false ?_);simp (disch:=omega) only [push_cast,seval,hv,hs,hr'])
 | ((first|((first|refine call0D (BCall.ofP (Bdz _ _ ?_ ?_)) ?_|refine qcall0D (BCall.ofP (Bdz _ _ ?_ ?_)) ⟨_,_,rfl,rfl⟩ ?_);(iterate 2 (exact sd));rintro _ _ ⟨rfl,rfl⟩)|((first|refine call0D (BCall.ofP (validStrides_ok _ _ _ ?_ ?_)) ?_|refine qcall0D (BCall.ofP (validStrides_ok _ _ _ ?_ ?_)) ⟨_,_,rfl,rfl⟩ ?_);(iterate 2 (exact sd));rintro _ _ ⟨rfl,rfl⟩)|((first|refine call0D (BCall.ofP (upTo_ok _ _)) ?_|refine qcall0D (BCall.ofP (upTo_ok _ _)) ⟨_,_,rfl,rfl⟩ ?_);rintro _ _ ⟨rfl,rfl⟩)|((first|refine call0D (BCall.ofP (bounds_ok _ _ _ _ _ ?_ ?_ ?_)) ?_|refine qcall0D (BCall.ofP (bounds_ok _ _ _ _ _ ?_ ?_ ?_)) ⟨_,_,rfl,rfl⟩ ?_);(iterate 3 (exact sd));rintro _ _ ⟨rfl,rfl⟩)|((first|refine call0D (BCall.ofP (vcount_ok _ _ _ _ _ _ ?_ ?_)) ?_|refine qcall0D (BCall.ofP (vcount_ok _ _ _ _ _ _ ?_ ?_)) ⟨_,_,rfl,rfl⟩ ?_);(iterate 2 (exact sd));rintro _ _ ⟨rfl,rfl⟩))<;>(try simp (disch:=omega) only [push_cast,seval,hv,hs,hr']))
 | (refine Aiz ⟨.inr rfl,_,rfl,?_⟩;(try simp (disch:=omega) only [push_cast,seval,hv,hs,hr']))))


/-- What OffsetAt answers. -/
def oaV (b:Int) (sh st idx:List Int):Int:=if vV b sh st=true ∧ vIx sh idx=true then b + dot (fun i=>idx.getD i 0) st sh.length else 0
def oaB (b:Int) (sh st idx:List Int):Bool:=vV b sh st && vIx sh idx
def boL (b:Int) (sh st:List Int):Int:=if vV b sh st=true then bdL b sh st else -1
def boH (b:Int) (sh st:List Int):Int:=if vV b sh st=true then bdH b sh st else -1


def fitB (b:Int) (sh st:List Int) (s:Int):Bool:=vV b sh st && (decide (0 ≤ s) && decide (s ≤ 60)) && allI (offs b sh st) 0 (s - 1)


theorem iFitsIn_ok (b:Int) (sh st:List Int) (s:Int) (n m:Nat) (hn:sh.length=n) (hm:st.length=m) (hb:n ≤ 1099511627776 ∧ m ≤ 1099511627776):PCall Tryz.prog 83 [.agg [.int .i64 b,.rows false (IL sh) n,.rows false (IL st) m],.int .i64 s] (fun r=>r=.bool (fitB b sh st s)):=by
  subst hn hm
  obtain ⟨hb1,hb2⟩:=hb
  refine Auz l83_eq rfl ?_
  unfold fitB
  cases hv:vV b sh st with
  | false =>
    (repeat' (first
 | (first|refine Ajz ?_|refine Afz ?_)
 | ((first|refine Akz ?_|refine Aez ?_|refine Agz ?_|refine Ahz ?_);simp (disch:=omega) only [push_cast,seval,l83r0,l83r1,l83r2,l83r3,l83r4,hv])
 | ((first|refine Aaz ?_ ?_|refine Adz ?_ ?_|refine Acz ?_ ?_)<;>intro h<;>(try simp only [h])<;>(try simp only [bitvec_to_nat] at h)<;>(try simp only [h])<;>(first|(exfalso;omega)|(exfalso;simp_all;done)|(simp (disch:=omega) only [push_cast,seval,hv])|skip))
 | ((first|refine Amz false ?_|refine Alz false ?_);simp (disch:=omega) only [push_cast,seval,hv])
 | ((first|((first|refine call0D (BCall.ofP (A2z _ _ _ _ _ ?_ ?_ ?_)) ?_|refine qcall0D (BCall.ofP (A2z _ _ _ _ _ ?_ ?_ ?_)) ⟨_,_,rfl,rfl⟩ ?_);(iterate 3 (exact sd));rintro _ _ ⟨rfl,rfl⟩)|((first|refine call0D (BCall.ofP (upTo_ok _ _)) ?_|refine qcall0D (BCall.ofP (upTo_ok _ _)) ⟨_,_,rfl,rfl⟩ ?_);rintro _ _ ⟨rfl,rfl⟩)|((first|refine call0D (BCall.ofP (bounds_ok _ _ _ _ _ ?_ ?_ ?_)) ?_|refine qcall0D (BCall.ofP (bounds_ok _ _ _ _ _ ?_ ?_ ?_)) ⟨_,_,rfl,rfl⟩ ?_);(iterate 3 (exact sd));rintro _ _ ⟨rfl,rfl⟩))<;>(try simp (disch:=omega) only [push_cast,seval,hv]))
 | (refine Aiz ⟨.inr rfl,_,rfl,?_⟩;(try simp (disch:=omega) only [push_cast,seval,hv]))))
    all_goals simp
  | true =>
    obtain ⟨h1,h2,h3,-⟩:=vV_spec.1 hv
    have hg:=(Cqz h1).1
    have q:good4 sh ∧ vSt st sh.length=true ∧ -1000000 ≤ b ∧ b ≤ 1000000:=⟨hg,h2,by omega⟩
    by_cases hr:0 ≤ s ∧ s ≤ 60
    · obtain ⟨hr1,hr2⟩:=hr
      have hpb:=(Cqz h1).2
      have e:allI (offs b sh st) 0 (s - 1)=decide (bdH b sh st < s):=by
        by_cases hz:pr sh=0
        · have h0:offs b sh st=[]:=by unfold offs;rw [hz];rfl
          rw [h0,bdH,if_pos hz]
          simp [allI]
          omega
        · rw [bd_all hg (by omega),bdH,if_neg hz]
          have h5:=vV_cells hv _ (low_offs (b:=b) (st:=st) hg (by omega)).1
          rw [Bool.eq_iff_iff]
          simp
          omega
      rw [e]
      (repeat' (first
 | (first|refine Ajz ?_|refine Afz ?_)
 | ((first|refine Akz ?_|refine Aez ?_|refine Agz ?_|refine Ahz ?_);simp (disch:=omega) only [push_cast,seval,l83r0,l83r1,l83r2,l83r3,l83r4,hv,hr1,hr2])
 | ((first|refine Aaz ?_ ?_|refine Adz ?_ ?_|refine Acz ?_ ?_)<;>intro h<;>(try simp only [h])<;>(try simp only [bitvec_to_nat] at h)<;>(try simp only [h])<;>(first|(exfalso;omega)|(exfalso;simp_all;done)|(simp (disch:=omega) only [push_cast,seval,hv,hr1,hr2])|skip))
 | ((first|refine Amz false ?_|refine Alz false ?_);simp (disch:=omega) only [push_cast,seval,hv,hr1,hr2])
 | ((first|((first|refine call0D (BCall.ofP (A2z _ _ _ _ _ ?_ ?_ ?_)) ?_|refine qcall0D (BCall.ofP (A2z _ _ _ _ _ ?_ ?_ ?_)) ⟨_,_,rfl,rfl⟩ ?_);(iterate 3 (exact sd));rintro _ _ ⟨rfl,rfl⟩)|((first|refine call0D (BCall.ofP (upTo_ok _ _)) ?_|refine qcall0D (BCall.ofP (upTo_ok _ _)) ⟨_,_,rfl,rfl⟩ ?_);rintro _ _ ⟨rfl,rfl⟩)|((first|refine call0D (BCall.ofP (bounds_ok _ _ _ _ _ ?_ ?_ ?_)) ?_|refine qcall0D (BCall.ofP (bounds_ok _ _ _ _ _ ?_ ?_ ?_)) ⟨_,_,rfl,rfl⟩ ?_);(iterate 3 (exact sd));rintro _ _ ⟨rfl,rfl⟩))<;>(try simp (disch:=omega) only [push_cast,seval,hv,hr1,hr2]))
 | (refine Aiz ⟨.inr rfl,_,rfl,?_⟩;(try simp (disch:=omega) only [push_cast,seval,hv,hr1,hr2]))))
      all_goals simp [hr1,hr2]
    · have hr':(decide (0 ≤ s) && decide (s ≤ 60))=false:=by
        rw [Bool.eq_false_iff];intro h;simp at h;exact hr h
      (repeat' (first
 | (first|refine Ajz ?_|refine Afz ?_)
 | ((first|refine Akz ?_|refine Aez ?_|refine Agz ?_|refine Ahz ?_);simp (disch:=omega) only [push_cast,seval,l83r0,l83r1,l83r2,l83r3,l83r4,hv,hr'])
 | ((first|refine Aaz ?_ ?_|refine Adz ?_ ?_|refine Acz ?_ ?_)<;>intro h<;>(try simp only [h])<;>(try simp only [bitvec_to_nat] at h)<;>(try simp only [h])<;>(first|(exfalso;omega)|(exfalso;simp_all;done)|(simp (disch:=omega) only [push_cast,seval,hv,hr'])|skip))
 | ((first|refine Amz false ?_|refine Alz false ?_);simp (disch:=omega) only [push_cast,seval,hv,hr'])
 | ((first|((first|refine call0D (BCall.ofP (A2z _ _ _ _ _ ?_ ?_ ?_)) ?_|refine qcall0D (BCall.ofP (A2z _ _ _ _ _ ?_ ?_ ?_)) ⟨_,_,rfl,rfl⟩ ?_);(iterate 3 (exact sd));rintro _ _ ⟨rfl,rfl⟩)|((first|refine call0D (BCall.ofP (upTo_ok _ _)) ?_|refine qcall0D (BCall.ofP (upTo_ok _ _)) ⟨_,_,rfl,rfl⟩ ?_);rintro _ _ ⟨rfl,rfl⟩)|((first|refine call0D (BCall.ofP (bounds_ok _ _ _ _ _ ?_ ?_ ?_)) ?_|refine qcall0D (BCall.ofP (bounds_ok _ _ _ _ _ ?_ ?_ ?_)) ⟨_,_,rfl,rfl⟩ ?_);(iterate 3 (exact sd));rintro _ _ ⟨rfl,rfl⟩))<;>(try simp (disch:=omega) only [push_cast,seval,hv,hr']))
 | (refine Aiz ⟨.inr rfl,_,rfl,?_⟩;(try simp (disch:=omega) only [push_cast,seval,hv,hr']))))
      all_goals simp [hr']

end Go.Proofs.YtahdlohpncjdbaaGreatDoor
set_option linter.unusedSimpArgs false
set_option linter.unusedVariables false
set_option maxRecDepth 4000
set_option maxHeartbeats 4000000
namespace Go.Proofs.YtahdlohpncjdbaaGreatDoor
open VwM Vw Go
set_option linter.unusedSectionVars false
variable [SentA]

def sameB (b:Int) (sh st:List Int) (b':Int) (sh' st':List Int):Bool:=vV b sh st && vV b' sh' st' && decide (sh=sh') && decide (offs b sh st=offs b' sh' st')

end Go.Proofs.YtahdlohpncjdbaaGreatDoor
set_option linter.unusedSimpArgs false
set_option linter.unusedVariables false
set_option maxRecDepth 4000
set_option maxHeartbeats 4000000
namespace Go.Proofs.YtahdlohpncjdbaaGreatDoor
open VwM Vw Go
set_option linter.unusedSectionVars false
variable [SentA]

theorem countW_ok (a b c:Int) (hv:-1000 ≤ a ∧ a ≤ 1000 ∧ -1000 ≤ b ∧ b ≤ 1000 ∧ -200 ≤ c ∧ c ≤ 200 ∧ c ≠ 0):PCall Tryz.prog 48 [rng a b c] (fun r=>r=.int .i64 (cntI a b c)):=by
  refine Auz l48_eq rfl ?_
  have hq1:c < 0 → ¬ (0 - (b - a) ≤ 0) → 0 ≤ (0 - (b - a) + (0 - c) - 1).tdiv (0 - c) ∧ (0 - (b - a) + (0 - c) - 1).tdiv (0 - c) ≤ 3000:=fun h1 h2=>by
    have:=Cxz (x:=0 - (b - a) + (0 - c) - 1) (y:=0 - c) (by omega) (by omega);omega
  have hq2:¬ c < 0 → ¬ (b - a ≤ 0) → 0 ≤ (b - a + c - 1).tdiv c ∧ (b - a + c - 1).tdiv c ≤ 3000:=fun h1 h2=>by
    have:=Cxz (x:=b - a + c - 1) (y:=c) (by omega) (by omega);omega
  unfold cntI
  by_cases h:c < 0
  · by_cases h1:0 - (b - a) ≤ 0
    · (repeat' (first
 | (first|refine Ajz ?_|refine Afz ?_)
 | ((first|refine Akz ?_|refine Aqz (mid:=l48r1a) (post:=l48r1b) Ayz (by decide) ?_|refine Aez ?_|refine Agz ?_|refine Ahz ?_);simp (disch:=omega) only [push_cast,seval,l48r0,l48r1a,l48r1b,l48r1,l48r2,l48r3,l48r4,l48r5,l48r6,h,h1])
 | ((first|refine Aaz ?_ ?_|refine Adz ?_ ?_|refine Acz ?_ ?_)<;>intro h<;>(try simp only [h])<;>(try simp only [bitvec_to_nat] at h)<;>(try simp only [h])<;>(first|(exfalso;omega)|(exfalso;simp_all;done)|(simp (disch:=omega) only [push_cast,seval,h,h1])|skip))
 | (refine Aiz ⟨.inr rfl,_,rfl,?_⟩;(try simp (disch:=omega) only [push_cast,seval,h,h1]))))
    · have:=hq1 h h1
      (repeat' (first
 | (first|refine Ajz ?_|refine Afz ?_)
 | ((first|refine Akz ?_|refine Aqz (mid:=l48r1a) (post:=l48r1b) Ayz (by decide) ?_|refine Aez ?_|refine Agz ?_|refine Ahz ?_);simp (disch:=omega) only [push_cast,seval,l48r0,l48r1a,l48r1b,l48r1,l48r2,l48r3,l48r4,l48r5,l48r6,h,h1])
 | ((first|refine Aaz ?_ ?_|refine Adz ?_ ?_|refine Acz ?_ ?_)<;>intro h<;>(try simp only [h])<;>(try simp only [bitvec_to_nat] at h)<;>(try simp only [h])<;>(first|(exfalso;omega)|(exfalso;simp_all;done)|(simp (disch:=omega) only [push_cast,seval,h,h1])|skip))
 | (refine Aiz ⟨.inr rfl,_,rfl,?_⟩;(try simp (disch:=omega) only [push_cast,seval,h,h1]))))
  · by_cases h1:b - a ≤ 0
    · (repeat' (first
 | (first|refine Ajz ?_|refine Afz ?_)
 | ((first|refine Akz ?_|refine Aqz (mid:=l48r1a) (post:=l48r1b) Ayz (by decide) ?_|refine Aez ?_|refine Agz ?_|refine Ahz ?_);simp (disch:=omega) only [push_cast,seval,l48r0,l48r1a,l48r1b,l48r1,l48r2,l48r3,l48r4,l48r5,l48r6,h,h1])
 | ((first|refine Aaz ?_ ?_|refine Adz ?_ ?_|refine Acz ?_ ?_)<;>intro h<;>(try simp only [h])<;>(try simp only [bitvec_to_nat] at h)<;>(try simp only [h])<;>(first|(exfalso;omega)|(exfalso;simp_all;done)|(simp (disch:=omega) only [push_cast,seval,h,h1])|skip))
 | (refine Aiz ⟨.inr rfl,_,rfl,?_⟩;(try simp (disch:=omega) only [push_cast,seval,h,h1]))))
    · have:=hq2 h h1
      (repeat' (first
 | (first|refine Ajz ?_|refine Afz ?_)
 | ((first|refine Akz ?_|refine Aqz (mid:=l48r1a) (post:=l48r1b) Ayz (by decide) ?_|refine Aez ?_|refine Agz ?_|refine Ahz ?_);simp (disch:=omega) only [push_cast,seval,l48r0,l48r1a,l48r1b,l48r1,l48r2,l48r3,l48r4,l48r5,l48r6,h,h1])
 | ((first|refine Aaz ?_ ?_|refine Adz ?_ ?_|refine Acz ?_ ?_)<;>intro h<;>(try simp only [h])<;>(try simp only [bitvec_to_nat] at h)<;>(try simp only [h])<;>(first|(exfalso;omega)|(exfalso;simp_all;done)|(simp (disch:=omega) only [push_cast,seval,h,h1])|skip))
 | (refine Aiz ⟨.inr rfl,_,rfl,?_⟩;(try simp (disch:=omega) only [push_cast,seval,h,h1]))))

end Go.Proofs.YtahdlohpncjdbaaGreatDoor
set_option linter.unusedSimpArgs false
set_option linter.unusedVariables false
set_option maxRecDepth 4000
set_option maxHeartbeats 4000000
namespace Go.Proofs.YtahdlohpncjdbaaGreatDoor
open VwM Vw Go
set_option linter.unusedSectionVars false
variable [SentA]

theorem sisDim_ok (b:Int) (sh st:List Int) (n m:Nat) (d:Int) (hn:sh.length=n) (hb:n ≤ 1099511627776):PCall Tryz.prog 34 [.agg [.int .i64 b,.rows false (IL sh) n,.rows false (IL st) m],.int .i64 d] (fun r=>r=.bool (decide (0 ≤ d) && decide (d ≤ (n:Int) - 1))):=by
  subst hn
  refine Auz l34_eq rfl ?_
  (repeat' (first
 | (first|refine Ajz ?_|refine Afz ?_)
 | ((first|refine Akz ?_|refine Aez ?_|refine Agz ?_|refine Ahz ?_);simp (disch:=omega) only [push_cast,seval,l34r0,l34r1])
 | ((first|refine Aaz ?_ ?_|refine Adz ?_ ?_|refine Acz ?_ ?_)<;>intro h<;>(try simp only [h])<;>(try simp only [bitvec_to_nat] at h)<;>(try simp only [h])<;>(first|(exfalso;omega)|(exfalso;simp_all;done)|(simp (disch:=omega) only [push_cast,seval])|skip))
 | ((first|refine Amz false ?_|refine Alz false ?_);simp (disch:=omega) only [push_cast,seval])
 | ((first|((first|refine call0D (BCall.ofP (inRange_ok _ _ _)) ?_|refine qcall0D (BCall.ofP (inRange_ok _ _ _)) ⟨_,_,rfl,rfl⟩ ?_);rintro _ _ ⟨rfl,rfl⟩))<;>(try simp (disch:=omega) only [push_cast,seval]))
 | (refine Aiz ⟨.inr rfl,_,rfl,?_⟩;(try simp (disch:=omega) only [push_cast,seval]))))


theorem scopyView_ok (b:Int) (sh st:List Int) (n m:Nat) (hn:sh.length=n) (hm:st.length=m) (hb:n ≤ 1099511627776 ∧ m ≤ 1099511627776):BCall Tryz.prog 39 [.agg [.int .i64 b,.rows false (IL sh) n,.rows false (IL st) m]] [] (OV b sh st):=by
  subst hn hm
  obtain ⟨hb1,hb2⟩:=hb
  refine A4z (pins:=[]) (pin:=0) l39_eq rfl rfl rfl ?_
  (repeat' (first
 | (first|refine Ajz ?_|refine Afz ?_)
 | ((first|refine Akz ?_|refine Aqz (mid:=l39r1a) (post:=l39r1b) Ayz (by decide) ?_|refine Aez ?_|refine Agz ?_|refine Ahz ?_);simp (disch:=omega) only [push_cast,seval,l39r0,l39r1a,l39r1b,l39r1])
 | ((first|refine Aaz ?_ ?_|refine Adz ?_ ?_|refine Acz ?_ ?_)<;>intro h<;>(try simp only [h])<;>(try simp only [bitvec_to_nat] at h)<;>(try simp only [h])<;>(first|(exfalso;omega)|(exfalso;simp_all;done)|(simp (disch:=omega) only [push_cast,seval])|skip))
 | ((first|refine Amz false ?_|refine Alz false ?_);simp (disch:=omega) only [push_cast,seval])
 | ((first|((first|refine call0D (Cez _ _ ?_ ?_) ?_|refine qcall0D (Cez _ _ ?_ ?_) ⟨_,_,rfl,rfl⟩ ?_);(iterate 2 (exact sd));rintro _ _ ⟨rfl,rfl⟩))<;>(try simp (disch:=omega) only [push_cast,seval]))
 | (refine Aiz ⟨.inr rfl,[112,160],[],_,by decide,rfl,?_⟩;(try simp (disch:=omega) only [push_cast,seval,↓Apz,↓Anz,↓List.map_cons,↓List.map_nil]))))
  all_goals simp [OV]


theorem smade_ok (b:Int) (sh st:List Int) (n m:Nat) (hn:sh.length=n) (hm:st.length=m) (hb:n ≤ 1099511627776 ∧ m ≤ 1099511627776):BCall Tryz.prog 36 [.agg [.int .i64 b,.rows false (IL sh) n,.rows false (IL st) m]] [] (MV (vV b sh st) b sh st):=by
  subst hn hm
  obtain ⟨hb1,hb2⟩:=hb
  refine A4z (pins:=[]) (pin:=0) l36_eq rfl rfl rfl ?_
  cases hv:vV b sh st with
  | false =>
    (repeat' (first
 | (first|refine Ajz ?_|refine Afz ?_)
 | ((first|refine Akz ?_|refine Aez ?_|refine Agz ?_|refine Ahz ?_);simp (disch:=omega) only [push_cast,seval,l36r0,l36r1,l36r2,l36r3,hv])
 | ((first|refine Aaz ?_ ?_|refine Adz ?_ ?_|refine Acz ?_ ?_)<;>intro h<;>(try simp only [h])<;>(try simp only [bitvec_to_nat] at h)<;>(try simp only [h])<;>(first|(exfalso;omega)|(exfalso;simp_all;done)|(simp (disch:=omega) only [push_cast,seval,hv])|skip))
 | ((first|refine Amz false ?_|refine Alz false ?_);simp (disch:=omega) only [push_cast,seval,hv])
 | ((first|((first|refine call0D (BCall.ofP (svalidView_ok _ _ _ _ _ ?_ ?_ ?_)) ?_|refine qcall0D (BCall.ofP (svalidView_ok _ _ _ _ _ ?_ ?_ ?_)) ⟨_,_,rfl,rfl⟩ ?_);(iterate 3 (exact sd));rintro _ _ ⟨rfl,rfl⟩)|((first|refine call0D (scopyView_ok _ _ _ _ _ ?_ ?_ ?_) ?_|refine qcall0D (scopyView_ok _ _ _ _ _ ?_ ?_ ?_) ⟨_,_,rfl,rfl⟩ ?_);(iterate 3 (exact sd));rintro _ _ ⟨rfl,rfl⟩))<;>(try simp (disch:=omega) only [push_cast,seval,hv]))
 | (refine Aiz ⟨.inr rfl,[16000,16016],[(16000,1),(16016,1)],_,by decide,rfl,?_⟩;(try simp (disch:=omega) only [push_cast,seval,↓Apz,↓Anz,↓List.map_cons,↓List.map_nil,hv]))))
    all_goals simp [MV,MVB,MVL]
  | true =>
    (repeat' (first
 | (first|refine Ajz ?_|refine Afz ?_)
 | ((first|refine Akz ?_|refine Aez ?_|refine Agz ?_|refine Ahz ?_);simp (disch:=omega) only [push_cast,seval,l36r0,l36r1,l36r2,l36r3,hv])
 | ((first|refine Aaz ?_ ?_|refine Adz ?_ ?_|refine Acz ?_ ?_)<;>intro h<;>(try simp only [h])<;>(try simp only [bitvec_to_nat] at h)<;>(try simp only [h])<;>(first|(exfalso;omega)|(exfalso;simp_all;done)|(simp (disch:=omega) only [push_cast,seval,hv])|skip))
 | ((first|refine Amz false ?_|refine Alz false ?_);simp (disch:=omega) only [push_cast,seval,hv])
 | ((first|((first|refine call0D (BCall.ofP (svalidView_ok _ _ _ _ _ ?_ ?_ ?_)) ?_|refine qcall0D (BCall.ofP (svalidView_ok _ _ _ _ _ ?_ ?_ ?_)) ⟨_,_,rfl,rfl⟩ ?_);(iterate 3 (exact sd));rintro _ _ ⟨rfl,rfl⟩)|((first|refine call0D (scopyView_ok _ _ _ _ _ ?_ ?_ ?_) ?_|refine qcall0D (scopyView_ok _ _ _ _ _ ?_ ?_ ?_) ⟨_,_,rfl,rfl⟩ ?_);(iterate 3 (exact sd));rintro _ _ ⟨rfl,rfl⟩))<;>(try simp (disch:=omega) only [push_cast,seval,hv]))
 | (refine Aiz ⟨.inr rfl,[144,145],[],_,by decide,rfl,?_⟩;(try simp (disch:=omega) only [push_cast,seval,↓Apz,↓Anz,↓List.map_cons,↓List.map_nil,hv]))))
    all_goals simp [MV,MVB,MVL]


theorem Fzz (b:Int) (sh st:List Int) (n m:Nat) (hn:sh.length=n) (hm:st.length=m) (hb:good4 sh ∧ pr sh=0):BCall Tryz.prog 62 [.agg [.int .i64 b,.own 0 n 1,.own 1 m 1]] [IL sh,IL st] (fun r H'=>r=.agg [.int .i64 0,.own 0 n 1,.own 2 n 1] ∧ H'=[IL sh,IL st,IL (List.replicate n 0)]):=by
  subst hn hm
  obtain ⟨hg,hz⟩:=hb
  have hl:=hg.2
  refine A4z (pins:=[0,1]) (pin:=2) l62_eq rfl rfl rfl ?_
  (repeat' (first
 | (first|refine Ajz ?_|refine Afz ?_)
 | ((first|refine Akz ?_|refine Aqz (mid:=l62r2a) (post:=l62r2b) Ayz (by decide) ?_|refine Aez ?_|refine Agz ?_|refine Ahz ?_);simp (disch:=omega) only [push_cast,seval,l62r0,l62r1,l62r2a,l62r2b,l62r2,l62r3,hz])
 | ((first|refine Aaz ?_ ?_|refine Adz ?_ ?_|refine Acz ?_ ?_)<;>intro h<;>(try simp only [h])<;>(try simp only [bitvec_to_nat] at h)<;>(try simp only [h])<;>(first|(exfalso;omega)|(exfalso;simp_all;done)|(simp (disch:=omega) only [push_cast,seval,hz])|skip))
 | ((first|refine Amz false ?_|refine Alz false ?_);simp (disch:=omega) only [push_cast,seval,hz])
 | ((first|((first|refine call0D (BCall.ofP (scount_ok _ _ ?_ ?_)) ?_|refine qcall0D (BCall.ofP (scount_ok _ _ ?_ ?_)) ⟨_,_,rfl,rfl⟩ ?_);(iterate 2 (exact sd));rintro _ _ ⟨rfl,rfl⟩))<;>(try simp (disch:=omega) only [push_cast,seval,hz]))
 | (refine Aiz ⟨.inr rfl,[192],[],_,by decide,rfl,?_⟩;(try simp (disch:=omega) only [push_cast,seval,↓Apz,↓Anz,↓List.map_cons,↓List.map_nil,hz]))))
  all_goals simp [IL]
theorem Fyz (b:Int) (sh st:List Int) (n m:Nat) (hn:sh.length=n) (hm:st.length=m) (hb:good4 sh ∧ ¬ pr sh=0):BCall Tryz.prog 62 [.agg [.int .i64 b,.own 0 n 1,.own 1 m 1]] [IL sh,IL st] (fun r H'=>r=.agg [.int .i64 b,.own 0 n 1,.own 1 m 1] ∧ H'=[IL sh,IL st]):=by
  subst hn hm
  obtain ⟨hg,hz⟩:=hb
  have hl:=hg.2
  refine A4z (pins:=[0,1]) (pin:=2) l62_eq rfl rfl rfl ?_
  (repeat' (first
 | (first|refine Ajz ?_|refine Afz ?_)
 | ((first|refine Akz ?_|refine Aqz (mid:=l62r2a) (post:=l62r2b) Ayz (by decide) ?_|refine Aez ?_|refine Agz ?_|refine Ahz ?_);simp (disch:=omega) only [push_cast,seval,l62r0,l62r1,l62r2a,l62r2b,l62r2,l62r3,hz])
 | ((first|refine Aaz ?_ ?_|refine Adz ?_ ?_|refine Acz ?_ ?_)<;>intro h<;>(try simp only [h])<;>(try simp only [bitvec_to_nat] at h)<;>(try simp only [h])<;>(first|(exfalso;omega)|(exfalso;simp_all;done)|(simp (disch:=omega) only [push_cast,seval,hz])|skip))
 | ((first|refine Amz false ?_|refine Alz false ?_);simp (disch:=omega) only [push_cast,seval,hz])
 | ((first|((first|refine call0D (BCall.ofP (scount_ok _ _ ?_ ?_)) ?_|refine qcall0D (BCall.ofP (scount_ok _ _ ?_ ?_)) ⟨_,_,rfl,rfl⟩ ?_);(iterate 2 (exact sd));rintro _ _ ⟨rfl,rfl⟩))<;>(try simp (disch:=omega) only [push_cast,seval,hz]))
 | (refine Aiz ⟨.inr rfl,[],[],_,by decide,rfl,?_⟩;(try simp (disch:=omega) only [push_cast,seval,↓Apz,↓Anz,↓List.map_cons,↓List.map_nil,hz]))))

end Go.Proofs.YtahdlohpncjdbaaGreatDoor
