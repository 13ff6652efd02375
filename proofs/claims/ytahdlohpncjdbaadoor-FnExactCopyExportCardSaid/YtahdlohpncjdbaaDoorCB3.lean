/- Texts of this verifier. -/
import Derived.Test.YtahdlohpncjdbaaDoorCB2
import Derived.Test.YtahdlohpncjdbaaDoorCM1
import Derived.Test.YtahdlohpncjdbaaDoorCW3
set_option linter.unusedSimpArgs false
set_option linter.unusedVariables false
set_option maxRecDepth 4000
set_option maxHeartbeats 4000000
namespace Go.Proofs.YtahdlohpncjdbaaDoor
open VwM Vw Go
set_option linter.unusedSectionVars false
variable [SentA]

theorem okV_of {b:Int} {sh st:List Int} (h1:vSh sh=true) (h2:vSt st sh.length=true) (h3:0 ≤ b ∧ b ≤ 60):okV b sh st ∧ st.length=sh.length:=by
  have hg:=C4z h1
  have hs:=(Ipz.1 h2).1
  exact ⟨⟨⟨hg.1,hg.2.2⟩,by omega,by omega,fun i hi=>by have:=vSt_at h2 hi;omega⟩,hs⟩
theorem G8z {b:Int} {sh st:List Int} (h:vV b sh st=true):okV b sh st ∧ st.length=sh.length:=by
  obtain ⟨h1,h2,h3,_⟩:=vV_spec.1 h
  exact okV_of h1 h2 h3
theorem vV_shape {b:Int} {sh st:List Int} (h:vSh sh=false):vV b sh st=false:=by simp [vV,h]
theorem vV_str {b:Int} {sh st:List Int} (h:vSt st sh.length=false):vV b sh st=false:=by simp [vV,h]
theorem vV_base {b:Int} {sh st:List Int} (h:¬ (0 ≤ b ∧ b ≤ 60)):vV b sh st=false:=by
  rw [Bool.eq_false_iff];intro h';exact h (vV_spec.1 h').2.2.1
theorem vV_rest {b:Int} {sh st:List Int} (h1:vSh sh=true) (h2:vSt st sh.length=true) (h3:0 ≤ b ∧ b ≤ 60):vV b sh st=(decide (pr sh=0) || allI (offs b sh st) 0 59):=by
  simp [vV,h1,h2,h3]


theorem svalidView_ok (b:Int) (sh st:List Int) (n m:Nat) (hn:sh.length=n) (hm:st.length=m) (hb:n ≤ 1099511627776 ∧ m ≤ 1099511627776):PCall Tryd.prog 55 [.agg [.int .i64 b,.rows false (IL sh) n,.rows false (IL st) m]] (fun r=>r=.bool (vV b sh st)):=by
  subst hn hm
  obtain ⟨hb1,hb2⟩:=hb
  refine Awz l55_eq rfl ?_
  cases hv:vSh sh with
  | false =>
    rw [vV_shape hv]
    (repeat' (first
 | (first|refine Akz ?_|refine Afz ?_)
 | ((first|refine Alz ?_|refine Aez ?_|refine Agz ?_|refine Ahz ?_);simp (disch:=omega) only [push_cast,seval,l55r0,l55r1,hv])
 | ((first|refine Aaz ?_ ?_|refine Adz ?_ ?_|refine Acz ?_ ?_)<;>intro h<;>(try simp only [h])<;>(try simp only [bitvec_to_nat] at h)<;>(try simp only [h])<;>(first|(exfalso;omega)|(exfalso;simp_all;done)|(simp (disch:=omega) only [push_cast,seval,hv])|skip))
 | ((first|refine callD_of false ?_|refine Ajz false ?_);simp (disch:=omega) only [push_cast,seval,hv])
 | ((first|((first|refine call0D (BCall.ofP (A8z _ _ ?_ ?_)) ?_|refine qcall0D (BCall.ofP (A8z _ _ ?_ ?_)) ⟨_,_,rfl,rfl⟩ ?_);(iterate 2 (exact sd));rintro _ _ ⟨rfl,rfl⟩)|((first|refine call0D (BCall.ofP (allIn_ok _ _ _ _ ?_ ?_)) ?_|refine qcall0D (BCall.ofP (allIn_ok _ _ _ _ ?_ ?_)) ⟨_,_,rfl,rfl⟩ ?_);(iterate 2 (exact sd));rintro _ _ ⟨rfl,rfl⟩)|((first|refine call0D (BCall.ofP (inRange_ok _ _ _)) ?_|refine qcall0D (BCall.ofP (inRange_ok _ _ _)) ⟨_,_,rfl,rfl⟩ ?_);rintro _ _ ⟨rfl,rfl⟩)|((first|refine call0D (BCall.ofP (scount_ok _ _ ?_ ?_)) ?_|refine qcall0D (BCall.ofP (scount_ok _ _ ?_ ?_)) ⟨_,_,rfl,rfl⟩ ?_);(iterate 2 (exact sd));rintro _ _ ⟨rfl,rfl⟩)|((first|refine call0D (soffsets_ok _ _ _ _ _ ?_ ?_ ?_) ?_|refine qcall0D (soffsets_ok _ _ _ _ _ ?_ ?_ ?_) ⟨_,_,rfl,rfl⟩ ?_);(iterate 3 (exact sd));rintro _ _ ⟨rfl,rfl⟩))<;>(try simp (disch:=omega) only [push_cast,seval,hv]))
 | (refine Aiz ⟨.inr rfl,_,rfl,?_⟩;(try simp (disch:=omega) only [push_cast,seval,hv]))))
  | true =>
  have hg:=(C4z hv).1
  by_cases hl:st.length=sh.length
  · have hl':(st.length:Int)=sh.length:=by omega
    cases ha:allI st (-60) 60 with
    | false =>
      rw [vV_str (by simp [vSt,ha])]
      (repeat' (first
 | (first|refine Akz ?_|refine Afz ?_)
 | ((first|refine Alz ?_|refine Aez ?_|refine Agz ?_|refine Ahz ?_);simp (disch:=omega) only [push_cast,seval,l55r0,l55r1,hv,hl',ha])
 | ((first|refine Aaz ?_ ?_|refine Adz ?_ ?_|refine Acz ?_ ?_)<;>intro h<;>(try simp only [h])<;>(try simp only [bitvec_to_nat] at h)<;>(try simp only [h])<;>(first|(exfalso;omega)|(exfalso;simp_all;done)|(simp (disch:=omega) only [push_cast,seval,hv,hl',ha])|skip))
 | ((first|refine callD_of false ?_|refine Ajz false ?_);simp (disch:=omega) only [push_cast,seval,hv,hl',ha])
 | ((first|((first|refine call0D (BCall.ofP (A8z _ _ ?_ ?_)) ?_|refine qcall0D (BCall.ofP (A8z _ _ ?_ ?_)) ⟨_,_,rfl,rfl⟩ ?_);(iterate 2 (exact sd));rintro _ _ ⟨rfl,rfl⟩)|((first|refine call0D (BCall.ofP (allIn_ok _ _ _ _ ?_ ?_)) ?_|refine qcall0D (BCall.ofP (allIn_ok _ _ _ _ ?_ ?_)) ⟨_,_,rfl,rfl⟩ ?_);(iterate 2 (exact sd));rintro _ _ ⟨rfl,rfl⟩)|((first|refine call0D (BCall.ofP (inRange_ok _ _ _)) ?_|refine qcall0D (BCall.ofP (inRange_ok _ _ _)) ⟨_,_,rfl,rfl⟩ ?_);rintro _ _ ⟨rfl,rfl⟩)|((first|refine call0D (BCall.ofP (scount_ok _ _ ?_ ?_)) ?_|refine qcall0D (BCall.ofP (scount_ok _ _ ?_ ?_)) ⟨_,_,rfl,rfl⟩ ?_);(iterate 2 (exact sd));rintro _ _ ⟨rfl,rfl⟩)|((first|refine call0D (soffsets_ok _ _ _ _ _ ?_ ?_ ?_) ?_|refine qcall0D (soffsets_ok _ _ _ _ _ ?_ ?_ ?_) ⟨_,_,rfl,rfl⟩ ?_);(iterate 3 (exact sd));rintro _ _ ⟨rfl,rfl⟩))<;>(try simp (disch:=omega) only [push_cast,seval,hv,hl',ha]))
 | (refine Aiz ⟨.inr rfl,_,rfl,?_⟩;(try simp (disch:=omega) only [push_cast,seval,hv,hl',ha]))))
    | true =>
      have hs:vSt st sh.length=true:=by simp [vSt,hl,ha]
      by_cases hr:0 ≤ b ∧ b ≤ 60
      · have hok:=(okV_of hv hs hr).1
        rw [vV_rest hv hs hr]
        obtain ⟨hr1,hr2⟩:=hr
        have hol:=Blz b sh st
        have hpb:=(C4z hv).2
        have hb3:(offs b sh st).length ≤ 1099511627776:=by omega
        by_cases hz:pr sh=0
        · (repeat' (first
 | (first|refine Akz ?_|refine Afz ?_)
 | ((first|refine Alz ?_|refine Aez ?_|refine Agz ?_|refine Ahz ?_);simp (disch:=omega) only [push_cast,seval,l55r0,l55r1,hv,hl',ha,hr1,hr2,hz])
 | ((first|refine Aaz ?_ ?_|refine Adz ?_ ?_|refine Acz ?_ ?_)<;>intro h<;>(try simp only [h])<;>(try simp only [bitvec_to_nat] at h)<;>(try simp only [h])<;>(first|(exfalso;omega)|(exfalso;simp_all;done)|(simp (disch:=omega) only [push_cast,seval,hv,hl',ha,hr1,hr2,hz])|skip))
 | ((first|refine callD_of false ?_|refine Ajz false ?_);simp (disch:=omega) only [push_cast,seval,hv,hl',ha,hr1,hr2,hz])
 | ((first|((first|refine call0D (BCall.ofP (A8z _ _ ?_ ?_)) ?_|refine qcall0D (BCall.ofP (A8z _ _ ?_ ?_)) ⟨_,_,rfl,rfl⟩ ?_);(iterate 2 (exact sd));rintro _ _ ⟨rfl,rfl⟩)|((first|refine call0D (BCall.ofP (allIn_ok _ _ _ _ ?_ ?_)) ?_|refine qcall0D (BCall.ofP (allIn_ok _ _ _ _ ?_ ?_)) ⟨_,_,rfl,rfl⟩ ?_);(iterate 2 (exact sd));rintro _ _ ⟨rfl,rfl⟩)|((first|refine call0D (BCall.ofP (inRange_ok _ _ _)) ?_|refine qcall0D (BCall.ofP (inRange_ok _ _ _)) ⟨_,_,rfl,rfl⟩ ?_);rintro _ _ ⟨rfl,rfl⟩)|((first|refine call0D (BCall.ofP (scount_ok _ _ ?_ ?_)) ?_|refine qcall0D (BCall.ofP (scount_ok _ _ ?_ ?_)) ⟨_,_,rfl,rfl⟩ ?_);(iterate 2 (exact sd));rintro _ _ ⟨rfl,rfl⟩)|((first|refine call0D (soffsets_ok _ _ _ _ _ ?_ ?_ ?_) ?_|refine qcall0D (soffsets_ok _ _ _ _ _ ?_ ?_ ?_) ⟨_,_,rfl,rfl⟩ ?_);(iterate 3 (exact sd));rintro _ _ ⟨rfl,rfl⟩))<;>(try simp (disch:=omega) only [push_cast,seval,hv,hl',ha,hr1,hr2,hz]))
 | (refine Aiz ⟨.inr rfl,_,rfl,?_⟩; (try simp (disch := omega) only [push_cast,seval,hv,hl',ha,hr1,hr2,hz]))))
          all_goals simp
        · (repeat' (first
 | (first|refine Akz ?_|refine Afz ?_)
 | ((first|refine Alz ?_|refine Aez ?_|refine Agz ?_|refine Ahz ?_);simp (disch:=omega) only [push_cast,seval,l55r0,l55r1,hv,hl',ha,hr1,hr2,hz])
 | ((first|refine Aaz ?_ ?_|refine Adz ?_ ?_|refine Acz ?_ ?_)<;>intro h<;>(try simp only [h])<;>(try simp only [bitvec_to_nat] at h)<;>(try simp only [h])<;>(first|(exfalso;omega)|(exfalso;simp_all;done)|(simp (disch:=omega) only [push_cast,seval,hv,hl',ha,hr1,hr2,hz])|skip))
 | ((first|refine callD_of false ?_|refine Ajz false ?_);simp (disch:=omega) only [push_cast,seval,hv,hl',ha,hr1,hr2,hz])
 | ((first|((first|refine call0D (BCall.ofP (A8z _ _ ?_ ?_)) ?_|refine qcall0D (BCall.ofP (A8z _ _ ?_ ?_)) ⟨_,_,rfl,rfl⟩ ?_);(iterate 2 (exact sd));rintro _ _ ⟨rfl,rfl⟩)|((first|refine call0D (BCall.ofP (allIn_ok _ _ _ _ ?_ ?_)) ?_|refine qcall0D (BCall.ofP (allIn_ok _ _ _ _ ?_ ?_)) ⟨_,_,rfl,rfl⟩ ?_);(iterate 2 (exact sd));rintro _ _ ⟨rfl,rfl⟩)|((first|refine call0D (BCall.ofP (inRange_ok _ _ _)) ?_|refine qcall0D (BCall.ofP (inRange_ok _ _ _)) ⟨_,_,rfl,rfl⟩ ?_);rintro _ _ ⟨rfl,rfl⟩)|((first|refine call0D (BCall.ofP (scount_ok _ _ ?_ ?_)) ?_|refine qcall0D (BCall.ofP (scount_ok _ _ ?_ ?_)) ⟨_,_,rfl,rfl⟩ ?_);(iterate 2 (exact sd));rintro _ _ ⟨rfl,rfl⟩)|((first|refine call0D (soffsets_ok _ _ _ _ _ ?_ ?_ ?_) ?_|refine qcall0D (soffsets_ok _ _ _ _ _ ?_ ?_ ?_) ⟨_,_,rfl,rfl⟩ ?_);(iterate 3 (exact sd));rintro _ _ ⟨rfl,rfl⟩))<;>(try simp (disch:=omega) only [push_cast,seval,hv,hl',ha,hr1,hr2,hz]))
 | (refine Aiz ⟨.inr rfl,_,rfl,?_⟩; (try simp (disch := omega) only [push_cast,seval,hv,hl',ha,hr1,hr2,hz]))))
          all_goals simp
      · rw [vV_base hr]
        have hr':(decide (0 ≤ b) && decide (b ≤ 60))=false:=by
          rw [Bool.eq_false_iff];intro h;simp at h;exact hr h
        (repeat' (first
 | (first|refine Akz ?_|refine Afz ?_)
 | ((first|refine Alz ?_|refine Aez ?_|refine Agz ?_|refine Ahz ?_);simp (disch:=omega) only [push_cast,seval,l55r0,l55r1,hv,hl',ha,hr'])
 | ((first|refine Aaz ?_ ?_|refine Adz ?_ ?_|refine Acz ?_ ?_)<;>intro h<;>(try simp only [h])<;>(try simp only [bitvec_to_nat] at h)<;>(try simp only [h])<;>(first|(exfalso;omega)|(exfalso;simp_all;done)|(simp (disch:=omega) only [push_cast,seval,hv,hl',ha,hr'])|skip))
 | ((first|refine callD_of false ?_|refine Ajz false ?_);simp (disch:=omega) only [push_cast,seval,hv,hl',ha,hr'])
 | ((first|((first|refine call0D (BCall.ofP (A8z _ _ ?_ ?_)) ?_|refine qcall0D (BCall.ofP (A8z _ _ ?_ ?_)) ⟨_,_,rfl,rfl⟩ ?_);(iterate 2 (exact sd));rintro _ _ ⟨rfl,rfl⟩)|((first|refine call0D (BCall.ofP (allIn_ok _ _ _ _ ?_ ?_)) ?_|refine qcall0D (BCall.ofP (allIn_ok _ _ _ _ ?_ ?_)) ⟨_,_,rfl,rfl⟩ ?_);(iterate 2 (exact sd));rintro _ _ ⟨rfl,rfl⟩)|((first|refine call0D (BCall.ofP (inRange_ok _ _ _)) ?_|refine qcall0D (BCall.ofP (inRange_ok _ _ _)) ⟨_,_,rfl,rfl⟩ ?_);rintro _ _ ⟨rfl,rfl⟩)|((first|refine call0D (BCall.ofP (scount_ok _ _ ?_ ?_)) ?_|refine qcall0D (BCall.ofP (scount_ok _ _ ?_ ?_)) ⟨_,_,rfl,rfl⟩ ?_);(iterate 2 (exact sd));rintro _ _ ⟨rfl,rfl⟩)|((first|refine call0D (soffsets_ok _ _ _ _ _ ?_ ?_ ?_) ?_|refine qcall0D (soffsets_ok _ _ _ _ _ ?_ ?_ ?_) ⟨_,_,rfl,rfl⟩ ?_);(iterate 3 (exact sd));rintro _ _ ⟨rfl,rfl⟩))<;>(try simp (disch:=omega) only [push_cast,seval,hv,hl',ha,hr']))
 | (refine Aiz ⟨.inr rfl,_,rfl,?_⟩;(try simp (disch:=omega) only [push_cast,seval,hv,hl',ha,hr']))))
  · have hl':¬ (st.length:Int)=sh.length:=by omega
    rw [vV_str (by simp [vSt,hl])]
    (repeat' (first
 | (first|refine Akz ?_|refine Afz ?_)
 | ((first|refine Alz ?_|refine Aez ?_|refine Agz ?_|refine Ahz ?_);simp (disch:=omega) only [push_cast,seval,l55r0,l55r1,hv,hl'])
 | ((first|refine Aaz ?_ ?_|refine Adz ?_ ?_|refine Acz ?_ ?_)<;>intro h<;>(try simp only [h])<;>(try simp only [bitvec_to_nat] at h)<;>(try simp only [h])<;>(first|(exfalso;omega)|(exfalso;simp_all;done)|(simp (disch:=omega) only [push_cast,seval,hv,hl'])|skip))
 | ((first|refine callD_of false ?_|refine Ajz false ?_);simp (disch:=omega) only [push_cast,seval,hv,hl'])
 | ((first|((first|refine call0D (BCall.ofP (A8z _ _ ?_ ?_)) ?_|refine qcall0D (BCall.ofP (A8z _ _ ?_ ?_)) ⟨_,_,rfl,rfl⟩ ?_);(iterate 2 (exact sd));rintro _ _ ⟨rfl,rfl⟩)|((first|refine call0D (BCall.ofP (allIn_ok _ _ _ _ ?_ ?_)) ?_|refine qcall0D (BCall.ofP (allIn_ok _ _ _ _ ?_ ?_)) ⟨_,_,rfl,rfl⟩ ?_);(iterate 2 (exact sd));rintro _ _ ⟨rfl,rfl⟩)|((first|refine call0D (BCall.ofP (inRange_ok _ _ _)) ?_|refine qcall0D (BCall.ofP (inRange_ok _ _ _)) ⟨_,_,rfl,rfl⟩ ?_);rintro _ _ ⟨rfl,rfl⟩)|((first|refine call0D (BCall.ofP (scount_ok _ _ ?_ ?_)) ?_|refine qcall0D (BCall.ofP (scount_ok _ _ ?_ ?_)) ⟨_,_,rfl,rfl⟩ ?_);(iterate 2 (exact sd));rintro _ _ ⟨rfl,rfl⟩)|((first|refine call0D (soffsets_ok _ _ _ _ _ ?_ ?_ ?_) ?_|refine qcall0D (soffsets_ok _ _ _ _ _ ?_ ?_ ?_) ⟨_,_,rfl,rfl⟩ ?_);(iterate 3 (exact sd));rintro _ _ ⟨rfl,rfl⟩))<;>(try simp (disch:=omega) only [push_cast,seval,hv,hl']))
 | (refine Aiz ⟨.inr rfl,_,rfl,?_⟩;(try simp (disch:=omega) only [push_cast,seval,hv,hl']))))


theorem A2z (b:Int) (sh st:List Int) (n m:Nat) (hn:sh.length=n) (hm:st.length=m) (hb:n ≤ 1099511627776 ∧ m ≤ 1099511627776):PCall Tryd.prog 90 [.agg [.int .i64 b,.rows false (IL sh) n,.rows false (IL st) m]] (fun r=>r=.bool (vV b sh st)):=by
  subst hn hm
  obtain ⟨hb1,hb2⟩:=hb
  refine Awz l90_eq rfl ?_
  cases hv:vSh sh with
  | false =>
    rw [vV_shape hv]
    (repeat' (first
 | (first|refine Akz ?_|refine Afz ?_)
 | ((first|refine Alz ?_|refine Aez ?_|refine Agz ?_|refine Ahz ?_);simp (disch:=omega) only [push_cast,seval,l90r0,l90r1,l90r2,l90r3,l90r4,hv])
 | ((first|refine Aaz ?_ ?_|refine Adz ?_ ?_|refine Acz ?_ ?_)<;>intro h<;>(try simp only [h])<;>(try simp only [bitvec_to_nat] at h)<;>(try simp only [h])<;>(first|(exfalso;omega)|(exfalso;simp_all;done)|(simp (disch:=omega) only [push_cast,seval,hv])|skip))
 | ((first|refine callD_of false ?_|refine Ajz false ?_);simp (disch:=omega) only [push_cast,seval,hv])
 | ((first|((first|refine call0D (BCall.ofP (Bdz _ _ ?_ ?_)) ?_|refine qcall0D (BCall.ofP (Bdz _ _ ?_ ?_)) ⟨_,_,rfl,rfl⟩ ?_);(iterate 2 (exact sd));rintro _ _ ⟨rfl,rfl⟩)|((first|refine call0D (BCall.ofP (validStrides_ok _ _ _ ?_ ?_)) ?_|refine qcall0D (BCall.ofP (validStrides_ok _ _ _ ?_ ?_)) ⟨_,_,rfl,rfl⟩ ?_);(iterate 2 (exact sd));rintro _ _ ⟨rfl,rfl⟩)|((first|refine call0D (BCall.ofP (upTo_ok _ _)) ?_|refine qcall0D (BCall.ofP (upTo_ok _ _)) ⟨_,_,rfl,rfl⟩ ?_);rintro _ _ ⟨rfl,rfl⟩)|((first|refine call0D (BCall.ofP (bounds_ok _ _ _ _ _ ?_ ?_ ?_)) ?_|refine qcall0D (BCall.ofP (bounds_ok _ _ _ _ _ ?_ ?_ ?_)) ⟨_,_,rfl,rfl⟩ ?_);(iterate 3 (exact sd));rintro _ _ ⟨rfl,rfl⟩)|((first|refine call0D (BCall.ofP (vcount_ok _ _ _ _ _ _ ?_ ?_)) ?_|refine qcall0D (BCall.ofP (vcount_ok _ _ _ _ _ _ ?_ ?_)) ⟨_,_,rfl,rfl⟩ ?_);(iterate 2 (exact sd));rintro _ _ ⟨rfl,rfl⟩))<;>(try simp (disch:=omega) only [push_cast,seval,hv]))
 | (refine Aiz ⟨.inr rfl,_,rfl,?_⟩;(try simp (disch:=omega) only [push_cast,seval,hv]))))
  | true =>
  have hg:=(C4z hv).1
  cases hs:vSt st sh.length with
  | false =>
    rw [vV_str hs]
    (repeat' (first
 | (first|refine Akz ?_|refine Afz ?_)
 | ((first|refine Alz ?_|refine Aez ?_|refine Agz ?_|refine Ahz ?_);simp (disch:=omega) only [push_cast,seval,l90r0,l90r1,l90r2,l90r3,l90r4,hv,hs])
 | ((first|refine Aaz ?_ ?_|refine Adz ?_ ?_|refine Acz ?_ ?_)<;>intro h<;>(try simp only [h])<;>(try simp only [bitvec_to_nat] at h)<;>(try simp only [h])<;>(first|(exfalso;omega)|(exfalso;simp_all;done)|(simp (disch:=omega) only [push_cast,seval,hv,hs])|skip))
 | ((first|refine callD_of false ?_|refine Ajz false ?_);simp (disch:=omega) only [push_cast,seval,hv,hs])
 | ((first|((first|refine call0D (BCall.ofP (Bdz _ _ ?_ ?_)) ?_|refine qcall0D (BCall.ofP (Bdz _ _ ?_ ?_)) ⟨_,_,rfl,rfl⟩ ?_);(iterate 2 (exact sd));rintro _ _ ⟨rfl,rfl⟩)|((first|refine call0D (BCall.ofP (validStrides_ok _ _ _ ?_ ?_)) ?_|refine qcall0D (BCall.ofP (validStrides_ok _ _ _ ?_ ?_)) ⟨_,_,rfl,rfl⟩ ?_);(iterate 2 (exact sd));rintro _ _ ⟨rfl,rfl⟩)|((first|refine call0D (BCall.ofP (upTo_ok _ _)) ?_|refine qcall0D (BCall.ofP (upTo_ok _ _)) ⟨_,_,rfl,rfl⟩ ?_);rintro _ _ ⟨rfl,rfl⟩)|((first|refine call0D (BCall.ofP (bounds_ok _ _ _ _ _ ?_ ?_ ?_)) ?_|refine qcall0D (BCall.ofP (bounds_ok _ _ _ _ _ ?_ ?_ ?_)) ⟨_,_,rfl,rfl⟩ ?_);(iterate 3 (exact sd));rintro _ _ ⟨rfl,rfl⟩)|((first|refine call0D (BCall.ofP (vcount_ok _ _ _ _ _ _ ?_ ?_)) ?_|refine qcall0D (BCall.ofP (vcount_ok _ _ _ _ _ _ ?_ ?_)) ⟨_,_,rfl,rfl⟩ ?_);(iterate 2 (exact sd));rintro _ _ ⟨rfl,rfl⟩))<;>(try simp (disch:=omega) only [push_cast,seval,hv,hs]))
 | (refine Aiz ⟨.inr rfl,_,rfl,?_⟩;(try simp (disch:=omega) only [push_cast,seval,hv,hs]))))
  | true =>
    by_cases hr:0 ≤ b ∧ b ≤ 60
    · rw [vV_rest hv hs hr]
      obtain ⟨hr1,hr2⟩:=hr
      have hbb:good4 sh ∧ vSt st sh.length=true ∧ -1000000 ≤ b ∧ b ≤ 1000000:=⟨hg,hs,by omega⟩
      by_cases hz:pr sh=0
      · (repeat' (first
 | (first|refine Akz ?_|refine Afz ?_)
 | ((first|refine Alz ?_|refine Aez ?_|refine Agz ?_|refine Ahz ?_);simp (disch:=omega) only [push_cast,seval,l90r0,l90r1,l90r2,l90r3,l90r4,hv,hs,hr1,hr2,hz])
 | ((first|refine Aaz ?_ ?_|refine Adz ?_ ?_|refine Acz ?_ ?_)<;>intro h<;>(try simp only [h])<;>(try simp only [bitvec_to_nat] at h)<;>(try simp only [h])<;>(first|(exfalso;omega)|(exfalso;simp_all;done)|(simp (disch:=omega) only [push_cast,seval,hv,hs,hr1,hr2,hz])|skip))
 | ((first|refine callD_of false ?_|refine Ajz false ?_);simp (disch:=omega) only [push_cast,seval,hv,hs,hr1,hr2,hz])
 | ((first|((first|refine call0D (BCall.ofP (Bdz _ _ ?_ ?_)) ?_|refine qcall0D (BCall.ofP (Bdz _ _ ?_ ?_)) ⟨_,_,rfl,rfl⟩ ?_);(iterate 2 (exact sd));rintro _ _ ⟨rfl,rfl⟩)|((first|refine call0D (BCall.ofP (validStrides_ok _ _ _ ?_ ?_)) ?_|refine qcall0D (BCall.ofP (validStrides_ok _ _ _ ?_ ?_)) ⟨_,_,rfl,rfl⟩ ?_);(iterate 2 (exact sd));rintro _ _ ⟨rfl,rfl⟩)|((first|refine call0D (BCall.ofP (upTo_ok _ _)) ?_|refine qcall0D (BCall.ofP (upTo_ok _ _)) ⟨_,_,rfl,rfl⟩ ?_);rintro _ _ ⟨rfl,rfl⟩)|((first|refine call0D (BCall.ofP (bounds_ok _ _ _ _ _ ?_ ?_ ?_)) ?_|refine qcall0D (BCall.ofP (bounds_ok _ _ _ _ _ ?_ ?_ ?_)) ⟨_,_,rfl,rfl⟩ ?_);(iterate 3 (exact sd));rintro _ _ ⟨rfl,rfl⟩)|((first|refine call0D (BCall.ofP (vcount_ok _ _ _ _ _ _ ?_ ?_)) ?_|refine qcall0D (BCall.ofP (vcount_ok _ _ _ _ _ _ ?_ ?_)) ⟨_,_,rfl,rfl⟩ ?_);(iterate 2 (exact sd));rintro _ _ ⟨rfl,rfl⟩))<;>(try simp (disch:=omega) only [push_cast,seval,hv,hs,hr1,hr2,hz]))
 | (refine Aiz ⟨.inr rfl,_,rfl,?_⟩;(try simp (disch:=omega) only [push_cast,seval,hv,hs,hr1,hr2,hz]))))
        all_goals simp
      · have hpb:=(C4z hv).2
        rw [bd_all hg (by omega)]
        have e1:bdL b sh st=b + lowS sh st sh.length:=if_neg hz
        have e2:bdH b sh st=b + highS sh st sh.length:=if_neg hz
        (repeat' (first
 | (first|refine Akz ?_|refine Afz ?_)
 | ((first|refine Alz ?_|refine Aez ?_|refine Agz ?_|refine Ahz ?_);simp (disch:=omega) only [push_cast,seval,l90r0,l90r1,l90r2,l90r3,l90r4,hv,hs,hr1,hr2,hz,e1,e2])
 | ((first|refine Aaz ?_ ?_|refine Adz ?_ ?_|refine Acz ?_ ?_)<;>intro h<;>(try simp only [h])<;>(try simp only [bitvec_to_nat] at h)<;>(try simp only [h])<;>(first|(exfalso;omega)|(exfalso;simp_all;done)|(simp (disch:=omega) only [push_cast,seval,hv,hs,hr1,hr2,hz,e1,e2])|skip))
 | ((first|refine callD_of false ?_|refine Ajz false ?_);simp (disch:=omega) only [push_cast,seval,hv,hs,hr1,hr2,hz,e1,e2])
 | ((first|((first|refine call0D (BCall.ofP (Bdz _ _ ?_ ?_)) ?_|refine qcall0D (BCall.ofP (Bdz _ _ ?_ ?_)) ⟨_,_,rfl,rfl⟩ ?_);(iterate 2 (exact sd));rintro _ _ ⟨rfl,rfl⟩)|((first|refine call0D (BCall.ofP (validStrides_ok _ _ _ ?_ ?_)) ?_|refine qcall0D (BCall.ofP (validStrides_ok _ _ _ ?_ ?_)) ⟨_,_,rfl,rfl⟩ ?_);(iterate 2 (exact sd));rintro _ _ ⟨rfl,rfl⟩)|((first|refine call0D (BCall.ofP (upTo_ok _ _)) ?_|refine qcall0D (BCall.ofP (upTo_ok _ _)) ⟨_,_,rfl,rfl⟩ ?_);rintro _ _ ⟨rfl,rfl⟩)|((first|refine call0D (BCall.ofP (bounds_ok _ _ _ _ _ ?_ ?_ ?_)) ?_|refine qcall0D (BCall.ofP (bounds_ok _ _ _ _ _ ?_ ?_ ?_)) ⟨_,_,rfl,rfl⟩ ?_);(iterate 3 (exact sd));rintro _ _ ⟨rfl,rfl⟩)|((first|refine call0D (BCall.ofP (vcount_ok _ _ _ _ _ _ ?_ ?_)) ?_|refine qcall0D (BCall.ofP (vcount_ok _ _ _ _ _ _ ?_ ?_)) ⟨_,_,rfl,rfl⟩ ?_);(iterate 2 (exact sd));rintro _ _ ⟨rfl,rfl⟩))<;>(try simp (disch:=omega) only [push_cast,seval,hv,hs,hr1,hr2,hz,e1,e2]))
 | (refine Aiz ⟨.inr rfl,_,rfl,?_⟩;(try simp (disch:=omega) only [push_cast,seval,hv,hs,hr1,hr2,hz,e1,e2]))))
        all_goals (simp [hz];try omega)
    · rw [vV_base hr]
      have hr':(decide (0 ≤ b) && decide (b ≤ 60))=false:=by
        rw [Bool.eq_false_iff];intro h;simp at h;exact hr h
      (repeat' (first
 | (first|refine Akz ?_|refine Afz ?_)
 | ((first|refine Alz ?_|refine Aez ?_|refine Agz ?_|refine Ahz ?_);simp (disch:=omega) only [push_cast,seval,l90r0,l90r1,l90r2,l90r3,l90r4,hv,hs,hr'])
 | ((first|refine Aaz ?_ ?_|refine Adz ?_ ?_|refine Acz ?_ ?_)<;>intro h<;>(try simp only [h])<;>(try simp only [bitvec_to_nat] at h)<;>(try simp only [h])<;>(first|(exfalso;omega)|(exfalso;simp_all;done)|(simp (disch:=omega) only [push_cast,seval,hv,hs,hr'])|skip))
 | ((first|refine callD_of false ?_|refine Ajz false ?_);simp (disch:=omega) only [push_cast,seval,hv,hs,hr'])
 | ((first|((first|refine call0D (BCall.ofP (Bdz _ _ ?_ ?_)) ?_|refine qcall0D (BCall.ofP (Bdz _ _ ?_ ?_)) ⟨_,_,rfl,rfl⟩ ?_);(iterate 2 (exact sd));rintro _ _ ⟨rfl,rfl⟩)|((first|refine call0D (BCall.ofP (validStrides_ok _ _ _ ?_ ?_)) ?_|refine qcall0D (BCall.ofP (validStrides_ok _ _ _ ?_ ?_)) ⟨_,_,rfl,rfl⟩ ?_);(iterate 2 (exact sd));rintro _ _ ⟨rfl,rfl⟩)|((first|refine call0D (BCall.ofP (upTo_ok _ _)) ?_|refine qcall0D (BCall.ofP (upTo_ok _ _)) ⟨_,_,rfl,rfl⟩ ?_);rintro _ _ ⟨rfl,rfl⟩)|((first|refine call0D (BCall.ofP (bounds_ok _ _ _ _ _ ?_ ?_ ?_)) ?_|refine qcall0D (BCall.ofP (bounds_ok _ _ _ _ _ ?_ ?_ ?_)) ⟨_,_,rfl,rfl⟩ ?_);(iterate 3 (exact sd));rintro _ _ ⟨rfl,rfl⟩)|((first|refine call0D (BCall.ofP (vcount_ok _ _ _ _ _ _ ?_ ?_)) ?_|refine qcall0D (BCall.ofP (vcount_ok _ _ _ _ _ _ ?_ ?_)) ⟨_,_,rfl,rfl⟩ ?_);(iterate 2 (exact sd));rintro _ _ ⟨rfl,rfl⟩))<;>(try simp (disch:=omega) only [push_cast,seval,hv,hs,hr']))
 | (refine Aiz ⟨.inr rfl,_,rfl,?_⟩;(try simp (disch:=omega) only [push_cast,seval,hv,hs,hr']))))


/-- What OffsetAt answers. -/
def oaV (b:Int) (sh st idx:List Int):Int:=if vV b sh st=true ∧ vIx sh idx=true then b + dot (fun i=>idx.getD i 0) st sh.length else 0
def oaB (b:Int) (sh st idx:List Int):Bool:=vV b sh st && vIx sh idx
def boL (b:Int) (sh st:List Int):Int:=if vV b sh st=true then bdL b sh st else -1
def boH (b:Int) (sh st:List Int):Int:=if vV b sh st=true then bdH b sh st else -1


def fitB (b:Int) (sh st:List Int) (s:Int):Bool:=vV b sh st && (decide (0 ≤ s) && decide (s ≤ 60)) && allI (offs b sh st) 0 (s - 1)


theorem sfits_ok (b:Int) (sh st:List Int) (s:Int) (n m:Nat) (hn:sh.length=n) (hm:st.length=m) (hb:okV b sh st ∧ -1000000 ≤ s ∧ s ≤ 1000000):PCall Tryd.prog 56 [.agg [.int .i64 b,.rows false (IL sh) n,.rows false (IL st) m],.int .i64 s] (fun r=>r=.bool (allI (offs b sh st) 0 (s - 1))):=by
  subst hn hm
  obtain ⟨hok,hs1,hs2⟩:=hb
  have hol:=Blz b sh st
  have hpb:=hok.1.2
  have hlb:(offs b sh st).length ≤ 1099511627776:=by omega
  refine Awz l56_eq rfl ?_
  (repeat' (first
 | (first|refine Akz ?_|refine Afz ?_)
 | ((first|refine Alz ?_|refine Aez ?_|refine Agz ?_|refine Ahz ?_);simp (disch:=omega) only [push_cast,seval,l56r0,l56r1])
 | ((first|refine Aaz ?_ ?_|refine Adz ?_ ?_|refine Acz ?_ ?_)<;>intro h<;>(try simp only [h])<;>(try simp only [bitvec_to_nat] at h)<;>(try simp only [h])<;>(first|(exfalso;omega)|(exfalso;simp_all;done)|(simp (disch:=omega) only [push_cast,seval])|skip))
 | ((first|refine callD_of false ?_|refine Ajz false ?_);simp (disch:=omega) only [push_cast,seval])
 | ((first|((first|refine call0D (soffsets_ok _ _ _ _ _ ?_ ?_ ?_) ?_|refine qcall0D (soffsets_ok _ _ _ _ _ ?_ ?_ ?_) ⟨_,_,rfl,rfl⟩ ?_);(iterate 3 (exact sd));rintro _ _ ⟨rfl,rfl⟩)|((first|refine call0D (BCall.ofP (allIn_ok _ _ _ _ ?_ ?_)) ?_|refine qcall0D (BCall.ofP (allIn_ok _ _ _ _ ?_ ?_)) ⟨_,_,rfl,rfl⟩ ?_);(iterate 2 (exact sd));rintro _ _ ⟨rfl,rfl⟩))<;>(try simp (disch:=omega) only [push_cast,seval]))
 | (refine Aiz ⟨.inr rfl,_,rfl,?_⟩;(try simp (disch:=omega) only [push_cast,seval]))))


theorem iFitsIn_ok (b:Int) (sh st:List Int) (s:Int) (n m:Nat) (hn:sh.length=n) (hm:st.length=m) (hb:n ≤ 1099511627776 ∧ m ≤ 1099511627776):PCall Tryd.prog 58 [.agg [.int .i64 b,.rows false (IL sh) n,.rows false (IL st) m],.int .i64 s] (fun r=>r=.bool (fitB b sh st s)):=by
  subst hn hm
  obtain ⟨hb1,hb2⟩:=hb
  refine Awz l58_eq rfl ?_
  unfold fitB
  cases hv:vV b sh st with
  | false =>
    (repeat' (first
 | (first|refine Akz ?_|refine Afz ?_)
 | ((first|refine Alz ?_|refine Aez ?_|refine Agz ?_|refine Ahz ?_);simp (disch:=omega) only [push_cast,seval,l58r0,l58r1,l58r2,l58r3,l58r4,hv])
 | ((first|refine Aaz ?_ ?_|refine Adz ?_ ?_|refine Acz ?_ ?_)<;>intro h<;>(try simp only [h])<;>(try simp only [bitvec_to_nat] at h)<;>(try simp only [h])<;>(first|(exfalso;omega)|(exfalso;simp_all;done)|(simp (disch:=omega) only [push_cast,seval,hv])|skip))
 | ((first|refine callD_of false ?_|refine Ajz false ?_);simp (disch:=omega) only [push_cast,seval,hv])
 | ((first|((first|refine call0D (BCall.ofP (A2z _ _ _ _ _ ?_ ?_ ?_)) ?_|refine qcall0D (BCall.ofP (A2z _ _ _ _ _ ?_ ?_ ?_)) ⟨_,_,rfl,rfl⟩ ?_);(iterate 3 (exact sd));rintro _ _ ⟨rfl,rfl⟩)|((first|refine call0D (BCall.ofP (upTo_ok _ _)) ?_|refine qcall0D (BCall.ofP (upTo_ok _ _)) ⟨_,_,rfl,rfl⟩ ?_);rintro _ _ ⟨rfl,rfl⟩)|((first|refine call0D (BCall.ofP (bounds_ok _ _ _ _ _ ?_ ?_ ?_)) ?_|refine qcall0D (BCall.ofP (bounds_ok _ _ _ _ _ ?_ ?_ ?_)) ⟨_,_,rfl,rfl⟩ ?_);(iterate 3 (exact sd));rintro _ _ ⟨rfl,rfl⟩))<;>(try simp (disch:=omega) only [push_cast,seval,hv]))
 | (refine Aiz ⟨.inr rfl,_,rfl,?_⟩;(try simp (disch:=omega) only [push_cast,seval,hv]))))
    all_goals simp
  | true =>
    obtain ⟨h1,h2,h3,-⟩:=vV_spec.1 hv
    have hg:=(C4z h1).1
    have q:good4 sh ∧ vSt st sh.length=true ∧ -1000000 ≤ b ∧ b ≤ 1000000:=⟨hg,h2,by omega⟩
    by_cases hr:0 ≤ s ∧ s ≤ 60
    · obtain ⟨hr1,hr2⟩:=hr
      have hpb:=(C4z h1).2
      have e:allI (offs b sh st) 0 (s - 1)=decide (bdH b sh st < s):=by
        by_cases hz:pr sh=0
        · have h0:offs b sh st=[]:=by unfold offs;rw [hz];rfl
          rw [h0,bdH,if_pos hz]
          simp [allI]
          omega
        · rw [bd_all hg (by omega),bdH,if_neg hz]
          have h5:=vV_cells hv _ (low_offs (b:=b) (st:=st) hg (by omega)).1
          rw [Bool.eq_iff_iff]
          simp
          omega
      rw [e]
      (repeat' (first
 | (first|refine Akz ?_|refine Afz ?_)
 | ((first|refine Alz ?_|refine Aez ?_|refine Agz ?_|refine Ahz ?_);simp (disch:=omega) only [push_cast,seval,l58r0,l58r1,l58r2,l58r3,l58r4,hv,hr1,hr2])
 | ((first|refine Aaz ?_ ?_|refine Adz ?_ ?_|refine Acz ?_ ?_)<;>intro h<;>(try simp only [h])<;>(try simp only [bitvec_to_nat] at h)<;>(try simp only [h])<;>(first|(exfalso;omega)|(exfalso;simp_all;done)|(simp (disch:=omega) only [push_cast,seval,hv,hr1,hr2])|skip))
 | ((first|refine callD_of false ?_|refine Ajz false ?_);simp (disch:=omega) only [push_cast,seval,hv,hr1,hr2])
 | ((first|((first|refine call0D (BCall.ofP (A2z _ _ _ _ _ ?_ ?_ ?_)) ?_|refine qcall0D (BCall.ofP (A2z _ _ _ _ _ ?_ ?_ ?_)) ⟨_,_,rfl,rfl⟩ ?_);(iterate 3 (exact sd));rintro _ _ ⟨rfl,rfl⟩)|((first|refine call0D (BCall.ofP (upTo_ok _ _)) ?_|refine qcall0D (BCall.ofP (upTo_ok _ _)) ⟨_,_,rfl,rfl⟩ ?_);rintro _ _ ⟨rfl,rfl⟩)|((first|refine call0D (BCall.ofP (bounds_ok _ _ _ _ _ ?_ ?_ ?_)) ?_|refine qcall0D (BCall.ofP (bounds_ok _ _ _ _ _ ?_ ?_ ?_)) ⟨_,_,rfl,rfl⟩ ?_);(iterate 3 (exact sd));rintro _ _ ⟨rfl,rfl⟩))<;>(try simp (disch:=omega) only [push_cast,seval,hv,hr1,hr2]))
 | (refine Aiz ⟨.inr rfl,_,rfl,?_⟩;(try simp (disch:=omega) only [push_cast,seval,hv,hr1,hr2]))))
      all_goals simp [hr1,hr2]
    · have hr':(decide (0 ≤ s) && decide (s ≤ 60))=false:=by
        rw [Bool.eq_false_iff];intro h;simp at h;exact hr h
      (repeat' (first
 | (first|refine Akz ?_|refine Afz ?_)
 | ((first|refine Alz ?_|refine Aez ?_|refine Agz ?_|refine Ahz ?_);simp (disch:=omega) only [push_cast,seval,l58r0,l58r1,l58r2,l58r3,l58r4,hv,hr'])
 | ((first|refine Aaz ?_ ?_|refine Adz ?_ ?_|refine Acz ?_ ?_)<;>intro h<;>(try simp only [h])<;>(try simp only [bitvec_to_nat] at h)<;>(try simp only [h])<;>(first|(exfalso;omega)|(exfalso;simp_all;done)|(simp (disch:=omega) only [push_cast,seval,hv,hr'])|skip))
 | ((first|refine callD_of false ?_|refine Ajz false ?_);simp (disch:=omega) only [push_cast,seval,hv,hr'])
 | ((first|((first|refine call0D (BCall.ofP (A2z _ _ _ _ _ ?_ ?_ ?_)) ?_|refine qcall0D (BCall.ofP (A2z _ _ _ _ _ ?_ ?_ ?_)) ⟨_,_,rfl,rfl⟩ ?_);(iterate 3 (exact sd));rintro _ _ ⟨rfl,rfl⟩)|((first|refine call0D (BCall.ofP (upTo_ok _ _)) ?_|refine qcall0D (BCall.ofP (upTo_ok _ _)) ⟨_,_,rfl,rfl⟩ ?_);rintro _ _ ⟨rfl,rfl⟩)|((first|refine call0D (BCall.ofP (bounds_ok _ _ _ _ _ ?_ ?_ ?_)) ?_|refine qcall0D (BCall.ofP (bounds_ok _ _ _ _ _ ?_ ?_ ?_)) ⟨_,_,rfl,rfl⟩ ?_);(iterate 3 (exact sd));rintro _ _ ⟨rfl,rfl⟩))<;>(try simp (disch:=omega) only [push_cast,seval,hv,hr']))
 | (refine Aiz ⟨.inr rfl,_,rfl,?_⟩;(try simp (disch:=omega) only [push_cast,seval,hv,hr']))))
      all_goals simp [hr']

end Go.Proofs.YtahdlohpncjdbaaDoor
set_option linter.unusedSimpArgs false
set_option linter.unusedVariables false
set_option maxRecDepth 4000
set_option maxHeartbeats 4000000
namespace Go.Proofs.YtahdlohpncjdbaaDoor
open VwM Vw Go
set_option linter.unusedSectionVars false
variable [SentA]

theorem sequal_ok (xs ys:List Int) (n m:Nat) (hn:xs.length=n) (hm:ys.length=m) (hb:n ≤ 1099511627776 ∧ m ≤ 1099511627776):PCall Tryd.prog 100 [.rows false (IL xs) n,.rows false (IL ys) m] (fun r=>r=.bool (decide (xs=ys))):=by
  subst hn hm
  refine Awz l100_eq rfl ?_
  by_cases hl:xs.length=ys.length
  · have hl':(xs.length:Int)=ys.length:=by omega
    (repeat' (first
 | (first|refine Akz ?_|refine Afz ?_)
 | ((first|refine Alz ?_|refine Asz (mid:=l100r6a) (post:=l100r6b) A9z (by decide) ?_|refine Aez ?_|refine Agz ?_|refine Ahz ?_);simp (disch:=omega) only [push_cast,seval,l100r0,l100r1,l100r2,l100r3,l100r4,l100r5,l100r6a,l100r6b,l100r6,l100r7,l100r8,l100r9,hl'])
 | ((first|refine Aaz ?_ ?_|refine Adz ?_ ?_|refine Acz ?_ ?_)<;>intro h<;>(try simp only [h])<;>(try simp only [bitvec_to_nat] at h)<;>(try simp only [h])<;>(first|(exfalso;omega)|(exfalso;simp_all;done)|(simp (disch:=omega) only [push_cast,seval,hl'])|skip))
 | (refine Aiz ⟨.inr rfl,_,rfl,?_⟩;(try simp (disch:=omega) only [push_cast,seval,hl']))))
    refine A7z (fun k:Nat=>mkS [(0,RI xs),(1,RI ys),(11,RI xs),(12,.int .i64 xs.length),(13,.int .i64 k)] []) (fun k=>k ≤ xs.length ∧ ∀ j:Nat,j < k → xs.getD j 0=ys.getD j 0) (fun k=>xs.length - k) 0 ⟨Nat.zero_le _,fun j h=>absurd h (Nat.not_lt_zero _)⟩ ?_ ?_
    · (refine Sub.of_lists ?_ ?_ ?_ ?_ ?_<;>simp [Vw.mkS,Vw.lk,Vw.hk,AV.inn,innL,Aqz,Aoz,Atz,-List.map_set,-List.getD_eq_getElem?_getD,hl])
    · rintro k ⟨hk,hj⟩
      by_cases hlt:k < xs.length
      · (repeat' (first
 | (first|refine Akz ?_|refine Afz ?_)
 | ((first|refine Alz ?_|refine Asz (mid:=l100r6a) (post:=l100r6b) A9z (by decide) ?_|refine Aez ?_|refine Agz ?_|refine Ahz ?_);simp (disch:=omega) only [push_cast,seval,l100r0,l100r1,l100r2,l100r3,l100r4,l100r5,l100r6a,l100r6b,l100r6,l100r7,l100r8,l100r9])
 | ((first|refine Aaz ?_ ?_|refine Adz ?_ ?_|refine Acz ?_ ?_)<;>intro h<;>(try simp only [h])<;>(try simp only [bitvec_to_nat] at h)<;>(try simp only [h])<;>(first|(exfalso;omega)|(exfalso;simp_all;done)|(simp (disch:=omega) only [push_cast,seval])|skip))
 | (refine Aiz ⟨.inr rfl,_,rfl,?_⟩;(try simp (disch:=omega) only [push_cast,seval]))))
        · simp;rintro rfl;exact absurd rfl ‹_›
        · refine ⟨k + 1,⟨by omega,fun j h=>?_⟩,by omega,?_⟩
          · by_cases hjk:j=k
            · subst hjk;assumption
            · exact hj j (by omega)
          · (refine Sub.of_lists ?_ ?_ ?_ ?_ ?_<;>simp [Vw.mkS,Vw.lk,Vw.hk,AV.inn,innL,Aqz,Aoz,Atz,-List.map_set,-List.getD_eq_getElem?_getD])
      · (repeat' (first
 | (first|refine Akz ?_|refine Afz ?_)
 | ((first|refine Alz ?_|refine Asz (mid:=l100r6a) (post:=l100r6b) A9z (by decide) ?_|refine Aez ?_|refine Agz ?_|refine Ahz ?_);simp (disch:=omega) only [push_cast,seval,l100r0,l100r1,l100r2,l100r3,l100r4,l100r5,l100r6a,l100r6b,l100r6,l100r7,l100r8,l100r9])
 | ((first|refine Aaz ?_ ?_|refine Adz ?_ ?_|refine Acz ?_ ?_)<;>intro h<;>(try simp only [h])<;>(try simp only [bitvec_to_nat] at h)<;>(try simp only [h])<;>(first|(exfalso;omega)|(exfalso;simp_all;done)|(simp (disch:=omega) only [push_cast,seval])|skip))
 | (refine Aiz ⟨.inr rfl,_,rfl,?_⟩;(try simp (disch:=omega) only [push_cast,seval]))))
        have:xs=ys:=Epz hl fun j h=>hj j (by omega)
        simp [this]
  · have hl':¬ (xs.length:Int)=ys.length:=by omega
    have:¬ xs=ys:=by rintro rfl;exact hl rfl
    (repeat' (first
 | (first|refine Akz ?_|refine Afz ?_)
 | ((first|refine Alz ?_|refine Asz (mid:=l100r6a) (post:=l100r6b) A9z (by decide) ?_|refine Aez ?_|refine Agz ?_|refine Ahz ?_);simp (disch:=omega) only [push_cast,seval,l100r0,l100r1,l100r2,l100r3,l100r4,l100r5,l100r6a,l100r6b,l100r6,l100r7,l100r8,l100r9,hl'])
 | ((first|refine Aaz ?_ ?_|refine Adz ?_ ?_|refine Acz ?_ ?_)<;>intro h<;>(try simp only [h])<;>(try simp only [bitvec_to_nat] at h)<;>(try simp only [h])<;>(first|(exfalso;omega)|(exfalso;simp_all;done)|(simp (disch:=omega) only [push_cast,seval,hl'])|skip))
 | (refine Aiz ⟨.inr rfl,_,rfl,?_⟩;(try simp (disch:=omega) only [push_cast,seval,hl']))))
    simp [this]


theorem sameInts_ok (xs ys:List Int) (n m:Nat) (hn:xs.length=n) (hm:ys.length=m) (hb:n ≤ 1099511627776 ∧ m ≤ 1099511627776):PCall Tryd.prog 99 [.rows false (IL xs) n,.rows false (IL ys) m] (fun r=>r=.bool (decide (xs=ys))):=by
  subst hn hm
  refine Awz l99_eq rfl ?_
  by_cases hl:xs.length=ys.length
  · have hl':(xs.length:Int)=ys.length:=by omega
    (repeat' (first
 | (first|refine Akz ?_|refine Afz ?_)
 | ((first|refine Alz ?_|refine Asz (mid:=l99r5a) (post:=l99r5b) A9z (by decide) ?_|refine Aez ?_|refine Agz ?_|refine Ahz ?_);simp (disch:=omega) only [push_cast,seval,l99r0,l99r1,l99r2,l99r3,l99r4,l99r5a,l99r5b,l99r5,l99r6,l99r7,l99r8,hl'])
 | ((first|refine Aaz ?_ ?_|refine Adz ?_ ?_|refine Acz ?_ ?_)<;>intro h<;>(try simp only [h])<;>(try simp only [bitvec_to_nat] at h)<;>(try simp only [h])<;>(first|(exfalso;omega)|(exfalso;simp_all;done)|(simp (disch:=omega) only [push_cast,seval,hl'])|skip))
 | (refine Aiz ⟨.inr rfl,_,rfl,?_⟩;(try simp (disch:=omega) only [push_cast,seval,hl']))))
    refine A7z (fun k:Nat=>mkS [(0,RI xs),(1,RI ys),(5,.int .i64 k)] []) (fun k=>k ≤ xs.length ∧ ∀ j:Nat,j < k → xs.getD j 0=ys.getD j 0) (fun k=>xs.length - k) 0 ⟨Nat.zero_le _,fun j h=>absurd h (Nat.not_lt_zero _)⟩ ?_ ?_
    · (refine Sub.of_lists ?_ ?_ ?_ ?_ ?_<;>simp [Vw.mkS,Vw.lk,Vw.hk,AV.inn,innL,Aqz,Aoz,Atz,-List.map_set,-List.getD_eq_getElem?_getD,hl])
    · rintro k ⟨hk,hj⟩
      by_cases hlt:k < xs.length
      · (repeat' (first
 | (first|refine Akz ?_|refine Afz ?_)
 | ((first|refine Alz ?_|refine Asz (mid:=l99r5a) (post:=l99r5b) A9z (by decide) ?_|refine Aez ?_|refine Agz ?_|refine Ahz ?_);simp (disch:=omega) only [push_cast,seval,l99r0,l99r1,l99r2,l99r3,l99r4,l99r5a,l99r5b,l99r5,l99r6,l99r7,l99r8])
 | ((first|refine Aaz ?_ ?_|refine Adz ?_ ?_|refine Acz ?_ ?_)<;>intro h<;>(try simp only [h])<;>(try simp only [bitvec_to_nat] at h)<;>(try simp only [h])<;>(first|(exfalso;omega)|(exfalso;simp_all;done)|(simp (disch:=omega) only [push_cast,seval])|skip))
 | (refine Aiz ⟨.inr rfl,_,rfl,?_⟩;(try simp (disch:=omega) only [push_cast,seval]))))
        · simp;rintro rfl;exact absurd rfl ‹_›
        · refine ⟨k + 1,⟨by omega,fun j h=>?_⟩,by omega,?_⟩
          · by_cases hjk:j=k
            · subst hjk;assumption
            · exact hj j (by omega)
          · (refine Sub.of_lists ?_ ?_ ?_ ?_ ?_<;>simp [Vw.mkS,Vw.lk,Vw.hk,AV.inn,innL,Aqz,Aoz,Atz,-List.map_set,-List.getD_eq_getElem?_getD])
      · (repeat' (first
 | (first|refine Akz ?_|refine Afz ?_)
 | ((first|refine Alz ?_|refine Asz (mid:=l99r5a) (post:=l99r5b) A9z (by decide) ?_|refine Aez ?_|refine Agz ?_|refine Ahz ?_);simp (disch:=omega) only [push_cast,seval,l99r0,l99r1,l99r2,l99r3,l99r4,l99r5a,l99r5b,l99r5,l99r6,l99r7,l99r8])
 | ((first|refine Aaz ?_ ?_|refine Adz ?_ ?_|refine Acz ?_ ?_)<;>intro h<;>(try simp only [h])<;>(try simp only [bitvec_to_nat] at h)<;>(try simp only [h])<;>(first|(exfalso;omega)|(exfalso;simp_all;done)|(simp (disch:=omega) only [push_cast,seval])|skip))
 | (refine Aiz ⟨.inr rfl,_,rfl,?_⟩;(try simp (disch:=omega) only [push_cast,seval]))))
        have:xs=ys:=Epz hl fun j h=>hj j (by omega)
        simp [this]
  · have hl':¬ (xs.length:Int)=ys.length:=by omega
    have:¬ xs=ys:=by rintro rfl;exact hl rfl
    (repeat' (first
 | (first|refine Akz ?_|refine Afz ?_)
 | ((first|refine Alz ?_|refine Asz (mid:=l99r5a) (post:=l99r5b) A9z (by decide) ?_|refine Aez ?_|refine Agz ?_|refine Ahz ?_);simp (disch:=omega) only [push_cast,seval,l99r0,l99r1,l99r2,l99r3,l99r4,l99r5a,l99r5b,l99r5,l99r6,l99r7,l99r8,hl'])
 | ((first|refine Aaz ?_ ?_|refine Adz ?_ ?_|refine Acz ?_ ?_)<;>intro h<;>(try simp only [h])<;>(try simp only [bitvec_to_nat] at h)<;>(try simp only [h])<;>(first|(exfalso;omega)|(exfalso;simp_all;done)|(simp (disch:=omega) only [push_cast,seval,hl'])|skip))
 | (refine Aiz ⟨.inr rfl,_,rfl,?_⟩;(try simp (disch:=omega) only [push_cast,seval,hl']))))
    simp [this]


def sameB (b:Int) (sh st:List Int) (b':Int) (sh' st':List Int):Bool:=vV b sh st && vV b' sh' st' && decide (sh=sh') && decide (offs b sh st=offs b' sh' st')

end Go.Proofs.YtahdlohpncjdbaaDoor
set_option linter.unusedSimpArgs false
set_option linter.unusedVariables false
set_option maxRecDepth 4000
set_option maxHeartbeats 4000000
namespace Go.Proofs.YtahdlohpncjdbaaDoor
open VwM Vw Go
set_option linter.unusedSectionVars false
variable [SentA]

end Go.Proofs.YtahdlohpncjdbaaDoor
