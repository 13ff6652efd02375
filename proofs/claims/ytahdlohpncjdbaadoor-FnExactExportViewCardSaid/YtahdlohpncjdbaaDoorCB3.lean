/- Texts of this verifier. -/
import Derived.Test.YtahdlohpncjdbaaDoorCB2
import Derived.Test.YtahdlohpncjdbaaDoorCM1
import Derived.Test.YtahdlohpncjdbaaDoorCW3
import Derived.WalkKit
import Derived.LaidEql
import Derived.Stop.Asserts
import Derived.RowKitTokens
set_option linter.unusedSimpArgs false
set_option linter.unusedVariables false
set_option maxRecDepth 4000
set_option maxHeartbeats 4000000
namespace Go.Proofs.YtahdlohpncjdbaaDoor
open VwM Vw Go
set_option linter.unusedSectionVars false
variable [SentA]

theorem okV_of {b:Int} {sh st:List Int} (h1:vSh sh=true) (h2:vSt st sh.length=true) (h3:0 ≤ b ∧ b ≤ 60):okV b sh st ∧ st.length=sh.length:=by
  have hg:=Ddz h1
  have hs:=(H0z.1 h2).1
  exact ⟨⟨⟨hg.1,hg.2.2⟩,by omega,by omega,fun i hi=>by have:=vSt_at h2 hi;omega⟩,hs⟩
theorem okV_valid {b:Int} {sh st:List Int} (h:vV b sh st=true):okV b sh st ∧ st.length=sh.length:=by
  obtain ⟨h1,h2,h3,_⟩:=vV_spec.1 h
  exact okV_of h1 h2 h3
theorem vV_shape {b:Int} {sh st:List Int} (h:vSh sh=false):vV b sh st=false:=by simp [vV,h]
theorem vV_str {b:Int} {sh st:List Int} (h:vSt st sh.length=false):vV b sh st=false:=by simp [vV,h]
theorem vV_base {b:Int} {sh st:List Int} (h:¬ (0 ≤ b ∧ b ≤ 60)):vV b sh st=false:=by
  rw [Bool.eq_false_iff];intro h';exact h (vV_spec.1 h').2.2.1
theorem vV_rest {b:Int} {sh st:List Int} (h1:vSh sh=true) (h2:vSt st sh.length=true) (h3:0 ≤ b ∧ b ≤ 60):vV b sh st=(decide (pr sh=0) || allI (offs b sh st) 0 59):=by
  simp [vV,h1,h2,h3]


theorem svalidView_ok (b:Int) (sh st:List Int) (n m:Nat) (hn:sh.length=n) (hm:st.length=m) (hb:n ≤ 1099511627776 ∧ m ≤ 1099511627776):PCall Tryd.prog 55 [.agg [.int .i64 b,.rows false (IL sh) n,.rows false (IL st) m]] (fun r=>r=.bool (vV b sh st)):=by
  subst hn hm
  obtain ⟨hb1,hb2⟩:=hb
  refine Ayz l55_eq rfl ?_
  cases hv:vSh sh with
  | false =>
    rw [vV_shape hv]
    (repeat' (first
 | (first|refine Ajz ?_|refine Afz ?_)
 | ((first|refine Alz ?_|refine Aez ?_|refine Agz ?_|refine Ahz ?_);simp (disch:=omega) only [push_cast,seval,l55r0,l55r1,hv])
 | ((first|refine Abz ?_ ?_|refine Adz ?_ ?_|refine Acz ?_ ?_)<;>intro h<;>(try simp only [h])<;>(try simp only [bitvec_to_nat] at h)<;>(try simp only [h])<;>(first|(exfalso;omega)|(exfalso;simp_all;done)|(simp (disch:=omega) only [push_cast,seval,hv])|skip))
 | ((first|refine Amz false ?_|refine Aiz false ?_);simp (disch:=omega) only [push_cast,seval,hv])
 | ((first|((first|refine call0D (BCall.ofP (A4z _ _ ?_ ?_)) ?_|refine qcall0D (BCall.ofP (A4z _ _ ?_ ?_)) ⟨_,_,rfl,rfl⟩ ?_);(iterate 2 (exact sd));rintro _ _ ⟨rfl,rfl⟩)|((first|refine call0D (BCall.ofP (allIn_ok _ _ _ _ ?_ ?_)) ?_|refine qcall0D (BCall.ofP (allIn_ok _ _ _ _ ?_ ?_)) ⟨_,_,rfl,rfl⟩ ?_);(iterate 2 (exact sd));rintro _ _ ⟨rfl,rfl⟩)|((first|refine call0D (BCall.ofP (inRange_ok _ _ _)) ?_|refine qcall0D (BCall.ofP (inRange_ok _ _ _)) ⟨_,_,rfl,rfl⟩ ?_);rintro _ _ ⟨rfl,rfl⟩)|((first|refine call0D (BCall.ofP (scount_ok _ _ ?_ ?_)) ?_|refine qcall0D (BCall.ofP (scount_ok _ _ ?_ ?_)) ⟨_,_,rfl,rfl⟩ ?_);(iterate 2 (exact sd));rintro _ _ ⟨rfl,rfl⟩)|((first|refine call0D (soffsets_ok _ _ _ _ _ ?_ ?_ ?_) ?_|refine qcall0D (soffsets_ok _ _ _ _ _ ?_ ?_ ?_) ⟨_,_,rfl,rfl⟩ ?_);(iterate 3 (exact sd));rintro _ _ ⟨rfl,rfl⟩))<;>(try simp (disch:=omega) only [push_cast,seval,hv]))
 | (refine Akz ⟨.inr rfl,_,rfl,?_⟩;(try simp (disch:=omega) only [push_cast,seval,hv]))))
  | true =>
  have hg:=(Ddz hv).1
  by_cases hl:st.length=sh.length
  · have hl':(st.length:Int)=sh.length:=by omega
    cases ha:allI st (-60) 60 with
    | false =>
      rw [vV_str (by simp [vSt,ha])]
      (repeat' (first
 | (first|refine Ajz ?_|refine Afz ?_)
 | ((first|refine Alz ?_|refine Aez ?_|refine Agz ?_|refine Ahz ?_);simp (disch:=omega) only [push_cast,seval,l55r0,l55r1,hv,hl',ha])
 | ((first|refine Abz ?_ ?_|refine Adz ?_ ?_|refine Acz ?_ ?_)<;>intro h<;>(try simp only [h])<;>(try simp only [bitvec_to_nat] at h)<;>(try simp only [h])<;>(first|(exfalso;omega)|(exfalso;simp_all;done)|(simp (disch:=omega) only [push_cast,seval,hv,hl',ha])|skip))
 | ((first|refine Amz false ?_|refine Aiz false ?_);simp (disch:=omega) only [push_cast,seval,hv,hl',ha])
 | ((first|((first|refine call0D (BCall.ofP (A4z _ _ ?_ ?_)) ?_|refine qcall0D (BCall.ofP (A4z _ _ ?_ ?_)) ⟨_,_,rfl,rfl⟩ ?_);(iterate 2 (exact sd));rintro _ _ ⟨rfl,rfl⟩)|((first|refine call0D (BCall.ofP (allIn_ok _ _ _ _ ?_ ?_)) ?_|refine qcall0D (BCall.ofP (allIn_ok _ _ _ _ ?_ ?_)) ⟨_,_,rfl,rfl⟩ ?_);(iterate 2 (exact sd));rintro _ _ ⟨rfl,rfl⟩)|((first|refine call0D (BCall.ofP (inRange_ok _ _ _)) ?_|refine qcall0D (BCall.ofP (inRange_ok _ _ _)) ⟨_,_,rfl,rfl⟩ ?_);rintro _ _ ⟨rfl,rfl⟩)|((first|refine call0D (BCall.ofP (scount_ok _ _ ?_ ?_)) ?_|refine qcall0D (BCall.ofP (scount_ok _ _ ?_ ?_)) ⟨_,_,rfl,rfl⟩ ?_);(iterate 2 (exact sd));rintro _ _ ⟨rfl,rfl⟩)|((first|refine call0D (soffsets_ok _ _ _ _ _ ?_ ?_ ?_) ?_|refine qcall0D (soffsets_ok _ _ _ _ _ ?_ ?_ ?_) ⟨_,_,rfl,rfl⟩ ?_);(iterate 3 (exact sd));rintro _ _ ⟨rfl,rfl⟩))<;>(try simp (disch:=omega) only [push_cast,seval,hv,hl',ha]))
 | (refine Akz ⟨.inr rfl,_,rfl,?_⟩;(try simp (disch:=omega) only [push_cast,seval,hv,hl',ha]))))
    | true =>
      have hs:vSt st sh.length=true:=by simp [vSt,hl,ha]
      by_cases hr:0 ≤ b ∧ b ≤ 60
      · have hok:=(okV_of hv hs hr).1
        rw [vV_rest hv hs hr]
        obtain ⟨hr1,hr2⟩:=hr
        have hol:=Elz b sh st
        have hpb:=(Ddz hv).2
        have hb3:(offs b sh st).length ≤ 1099511627776:=by omega
        by_cases hz:pr sh=0
        · (repeat' (first
 | (first|refine Ajz ?_|refine Afz ?_)
 | ((first|refine Alz ?_|refine Aez ?_|refine Agz ?_|refine Ahz ?_);simp (disch:=omega) only [push_cast,seval,l55r0,l55r1,hv,hl',ha,hr1,hr2,hz])
 | ((first|refine Abz ?_ ?_|refine Adz ?_ ?_|refine Acz ?_ ?_)<;>intro h<;>(try simp only [h])<;>(try simp only [bitvec_to_nat] at h)<;>(try simp only [h])<;>(first|(exfalso;omega)|(exfalso;simp_all;done)|(simp (disch:=omega) only [push_cast,seval,hv,hl',ha,hr1,hr2,hz])|skip))
 | ((first|refine Amz false ?_|refine Aiz false ?_);simp (disch:=omega) only [push_cast,seval,hv,hl',ha,hr1,hr2,hz])
 | ((first|((first|refine call0D (BCall.ofP (A4z _ _ ?_ ?_)) ?_|refine qcall0D (BCall.ofP (A4z _ _ ?_ ?_)) ⟨_,_,rfl,rfl⟩ ?_);(iterate 2 (exact sd));rintro _ _ ⟨rfl,rfl⟩)|((first|refine call0D (BCall.ofP (allIn_ok _ _ _ _ ?_ ?_)) ?_|refine qcall0D (BCall.ofP (allIn_ok _ _ _ _ ?_ ?_)) ⟨_,_,rfl,rfl⟩ ?_);(iterate 2 (exact sd));rintro _ _ ⟨rfl,rfl⟩)|((first|refine call0D (BCall.ofP (inRange_ok _ _ _)) ?_|refine qcall0D (BCall.ofP (inRange_ok _ _ _)) ⟨_,_,rfl,rfl⟩ ?_);rintro _ _ ⟨rfl,rfl⟩)|((first|refine call0D (BCall.ofP (scount_ok _ _ ?_ ?_)) ?_|refine qcall0D (BCall.ofP (scount_ok _ _ ?_ ?_)) ⟨_,_,rfl,rfl⟩ ?_);(iterate 2 (exact sd));rintro _ _ ⟨rfl,rfl⟩)|((first|refine call0D (soffsets_ok _ _ _ _ _ ?_ ?_ ?_) ?_|refine qcall0D (soffsets_ok _ _ _ _ _ ?_ ?_ ?_) ⟨_,_,rfl,rfl⟩ ?_);(iterate 3 (exact sd));rintro _ _ ⟨rfl,rfl⟩))<;>(try simp (disch:=omega) only [push_cast,seval,hv,hl',ha,hr1,hr2,hz]))
 | (refine Akz ⟨.inr rfl,_,rfl,?_⟩; (try simp (disch := omega) only [push_cast,seval,hv,hl',ha,hr1,hr2,hz]))))
          all_goals simp
        · (repeat' (first
 | (first|refine Ajz ?_|refine Afz ?_)
 | ((first|refine Alz ?_|refine Aez ?_|refine Agz ?_|refine Ahz ?_);simp (disch:=omega) only [push_cast,seval,l55r0,l55r1,hv,hl',ha,hr1,hr2,hz])
 | ((first|refine Abz ?_ ?_|refine Adz ?_ ?_|refine Acz ?_ ?_)<;>intro h<;>(try simp only [h])<;>(try simp only [bitvec_to_nat] at h)<;>(try simp only [h])<;>(first|(exfalso;omega)|(exfalso;simp_all;done)|(simp (disch:=omega) only [push_cast,seval,hv,hl',ha,hr1,hr2,hz])|skip))
 | ((first|refine Amz false ?_|refine Aiz false ?_);simp (disch:=omega) only [push_cast,seval,hv,hl',ha,hr1,hr2,hz])
 | ((first|((first|refine call0D (BCall.ofP (A4z _ _ ?_ ?_)) ?_|refine qcall0D (BCall.ofP (A4z _ _ ?_ ?_)) ⟨_,_,rfl,rfl⟩ ?_);(iterate 2 (exact sd));rintro _ _ ⟨rfl,rfl⟩)|((first|refine call0D (BCall.ofP (allIn_ok _ _ _ _ ?_ ?_)) ?_|refine qcall0D (BCall.ofP (allIn_ok _ _ _ _ ?_ ?_)) ⟨_,_,rfl,rfl⟩ ?_);(iterate 2 (exact sd));rintro _ _ ⟨rfl,rfl⟩)|((first|refine call0D (BCall.ofP (inRange_ok _ _ _)) ?_|refine qcall0D (BCall.ofP (inRange_ok _ _ _)) ⟨_,_,rfl,rfl⟩ ?_);rintro _ _ ⟨rfl,rfl⟩)|((first|refine call0D (BCall.ofP (scount_ok _ _ ?_ ?_)) ?_|refine qcall0D (BCall.ofP (scount_ok _ _ ?_ ?_)) ⟨_,_,rfl,rfl⟩ ?_);(iterate 2 (exact sd));rintro _ _ ⟨rfl,rfl⟩)|((first|refine call0D (soffsets_ok _ _ _ _ _ ?_ ?_ ?_) ?_|refine qcall0D (soffsets_ok _ _ _ _ _ ?_ ?_ ?_) ⟨_,_,rfl,rfl⟩ ?_);(iterate 3 (exact sd));rintro _ _ ⟨rfl,rfl⟩))<;>(try simp (disch:=omega) only [push_cast,seval,hv,hl',ha,hr1,hr2,hz]))
 | (refine Akz ⟨.inr rfl,_,rfl,?_⟩; (try simp (disch := omega) only [push_cast,seval,hv,hl',ha,hr1,hr2,hz]))))
          all_goals simp
      · rw [vV_base hr]
        have hr':(decide (0 ≤ b) && decide (b ≤ 60))=false:=by
          rw [Bool.eq_false_iff];intro h;simp at h;exact hr h
        (repeat' (first
 | (first|refine Ajz ?_|refine Afz ?_)
 | ((first|refine Alz ?_|refine Aez ?_|refine Agz ?_|refine Ahz ?_);simp (disch:=omega) only [push_cast,seval,l55r0,l55r1,hv,hl',ha,hr'])
 | ((first|refine Abz ?_ ?_|refine Adz ?_ ?_|refine Acz ?_ ?_)<;>intro h<;>(try simp only [h])<;>(try simp only [bitvec_to_nat] at h)<;>(try simp only [h])<;>(first|(exfalso;omega)|(exfalso;simp_all;done)|(simp (disch:=omega) only [push_cast,seval,hv,hl',ha,hr'])|skip))
 | ((first|refine Amz false ?_|refine Aiz false ?_);simp (disch:=omega) only [push_cast,seval,hv,hl',ha,hr'])
 | ((first|((first|refine call0D (BCall.ofP (A4z _ _ ?_ ?_)) ?_|refine qcall0D (BCall.ofP (A4z _ _ ?_ ?_)) ⟨_,_,rfl,rfl⟩ ?_);(iterate 2 (exact sd));rintro _ _ ⟨rfl,rfl⟩)|((first|refine call0D (BCall.ofP (allIn_ok _ _ _ _ ?_ ?_)) ?_|refine qcall0D (BCall.ofP (allIn_ok _ _ _ _ ?_ ?_)) ⟨_,_,rfl,rfl⟩ ?_);(iterate 2 (exact sd));rintro _ _ ⟨rfl,rfl⟩)|((first|refine call0D (BCall.ofP (inRange_ok _ _ _)) ?_|refine qcall0D (BCall.ofP (inRange_ok _ _ _)) ⟨_,_,rfl,rfl⟩ ?_);rintro _ _ ⟨rfl,rfl⟩)|((first|refine call0D (BCall.ofP (scount_ok _ _ ?_ ?_)) ?_|refine qcall0D (BCall.ofP (scount_ok _ _ ?_ ?_)) ⟨_,_,rfl,rfl⟩ ?_);(iterate 2 (exact sd));rintro _ _ ⟨rfl,rfl⟩)|((first|refine call0D (soffsets_ok _ _ _ _ _ ?_ ?_ ?_) ?_|refine qcall0D (soffsets_ok _ _ _ _ _ ?_ ?_ ?_) ⟨_,_,rfl,rfl⟩ ?_);(iterate 3 (exact sd));rintro _ _ ⟨rfl,rfl⟩))<;>(try simp (disch:=omega) only [push_cast,seval,hv,hl',ha,hr']))
 | (refine Akz ⟨.inr rfl,_,rfl,?_⟩;(try simp (disch:=omega) only [push_cast,seval,hv,hl',ha,hr']))))
  · have hl':¬ (st.length:Int)=sh.length:=by omega
    rw [vV_str (by simp [vSt,hl])]
    (repeat' (first
 | (first|refine Ajz ?_|refine Afz ?_)
 | ((first|refine Alz ?_|refine Aez ?_|refine Agz ?_|refine Ahz ?_);simp (disch:=omega) only [push_cast,seval,l55r0,l55r1,hv,hl'])
 | ((first|refine Abz ?_ ?_|refine Adz ?_ ?_|refine Acz ?_ ?_)<;>intro h<;>(try simp only [h])<;>(try simp only [bitvec_to_nat] at h)<;>(try simp only [h])<;>(first|(exfalso;omega)|(exfalso;simp_all;done)|(simp (disch:=omega) only [push_cast,seval,hv,hl'])|skip))
 | ((first|refine Amz false ?_|refine Aiz false ?_);simp (disch:=omega) only [push_cast,seval,hv,hl'])
 | ((first|((first|refine call0D (BCall.ofP (A4z _ _ ?_ ?_)) ?_|refine qcall0D (BCall.ofP (A4z _ _ ?_ ?_)) ⟨_,_,rfl,rfl⟩ ?_);(iterate 2 (exact sd));rintro _ _ ⟨rfl,rfl⟩)|((first|refine call0D (BCall.ofP (allIn_ok _ _ _ _ ?_ ?_)) ?_|refine qcall0D (BCall.ofP (allIn_ok _ _ _ _ ?_ ?_)) ⟨_,_,rfl,rfl⟩ ?_);(iterate 2 (exact sd));rintro _ _ ⟨rfl,rfl⟩)|((first|refine call0D (BCall.ofP (inRange_ok _ _ _)) ?_|refine qcall0D (BCall.ofP (inRange_ok _ _ _)) ⟨_,_,rfl,rfl⟩ ?_);rintro _ _ ⟨rfl,rfl⟩)|((first|refine call0D (BCall.ofP (scount_ok _ _ ?_ ?_)) ?_|refine qcall0D (BCall.ofP (scount_ok _ _ ?_ ?_)) ⟨_,_,rfl,rfl⟩ ?_);(iterate 2 (exact sd));rintro _ _ ⟨rfl,rfl⟩)|((first|refine call0D (soffsets_ok _ _ _ _ _ ?_ ?_ ?_) ?_|refine qcall0D (soffsets_ok _ _ _ _ _ ?_ ?_ ?_) ⟨_,_,rfl,rfl⟩ ?_);(iterate 3 (exact sd));rintro _ _ ⟨rfl,rfl⟩))<;>(try simp (disch:=omega) only [push_cast,seval,hv,hl']))
 | (refine Akz ⟨.inr rfl,_,rfl,?_⟩;(try simp (disch:=omega) only [push_cast,seval,hv,hl']))))


theorem A0z (b:Int) (sh st:List Int) (n m:Nat) (hn:sh.length=n) (hm:st.length=m) (hb:n ≤ 1099511627776 ∧ m ≤ 1099511627776):PCall Tryd.prog 90 [.agg [.int .i64 b,.rows false (IL sh) n,.rows false (IL st) m]] (fun r=>r=.bool (vV b sh st)):=by
  subst hn hm
  obtain ⟨hb1,hb2⟩:=hb
  refine Ayz l90_eq rfl ?_
  cases hv:vSh sh with
  | false =>
    rw [vV_shape hv]
    (repeat' (first
 | (first|refine Ajz ?_|refine Afz ?_)
 | ((first|refine Alz ?_|refine Aez ?_|refine Agz ?_|refine Ahz ?_);simp (disch:=omega) only [push_cast,seval,l90r0,l90r1,l90r2,l90r3,l90r4,hv])
 | ((first|refine Abz ?_ ?_|refine Adz ?_ ?_|refine Acz ?_ ?_)<;>intro h<;>(try simp only [h])<;>(try simp only [bitvec_to_nat] at h)<;>(try simp only [h])<;>(first|(exfalso;omega)|(exfalso;simp_all;done)|(simp (disch:=omega) only [push_cast,seval,hv])|skip))
 | ((first|refine Amz false ?_|refine Aiz false ?_);simp (disch:=omega) only [push_cast,seval,hv])
 | ((first|((first|refine call0D (BCall.ofP (A6z _ _ ?_ ?_)) ?_|refine qcall0D (BCall.ofP (A6z _ _ ?_ ?_)) ⟨_,_,rfl,rfl⟩ ?_);(iterate 2 (exact sd));rintro _ _ ⟨rfl,rfl⟩)|((first|refine call0D (BCall.ofP (validStrides_ok _ _ _ ?_ ?_)) ?_|refine qcall0D (BCall.ofP (validStrides_ok _ _ _ ?_ ?_)) ⟨_,_,rfl,rfl⟩ ?_);(iterate 2 (exact sd));rintro _ _ ⟨rfl,rfl⟩)|((first|refine call0D (BCall.ofP (upTo_ok _ _)) ?_|refine qcall0D (BCall.ofP (upTo_ok _ _)) ⟨_,_,rfl,rfl⟩ ?_);rintro _ _ ⟨rfl,rfl⟩)|((first|refine call0D (BCall.ofP (bounds_ok _ _ _ _ _ ?_ ?_ ?_)) ?_|refine qcall0D (BCall.ofP (bounds_ok _ _ _ _ _ ?_ ?_ ?_)) ⟨_,_,rfl,rfl⟩ ?_);(iterate 3 (exact sd));rintro _ _ ⟨rfl,rfl⟩)|((first|refine call0D (BCall.ofP (vcount_ok _ _ _ _ _ _ ?_ ?_)) ?_|refine qcall0D (BCall.ofP (vcount_ok _ _ _ _ _ _ ?_ ?_)) ⟨_,_,rfl,rfl⟩ ?_);(iterate 2 (exact sd));rintro _ _ ⟨rfl,rfl⟩))<;>(try simp (disch:=omega) only [push_cast,seval,hv]))
 | (refine Akz ⟨.inr rfl,_,rfl,?_⟩;(try simp (disch:=omega) only [push_cast,seval,hv]))))
  | true =>
  have hg:=(Ddz hv).1
  cases hs:vSt st sh.length with
  | false =>
    rw [vV_str hs]
    (repeat' (first
 | (first|refine Ajz ?_|refine Afz ?_)
 | ((first|refine Alz ?_|refine Aez ?_|refine Agz ?_|refine Ahz ?_);simp (disch:=omega) only [push_cast,seval,l90r0,l90r1,l90r2,l90r3,l90r4,hv,hs])
 | ((first|refine Abz ?_ ?_|refine Adz ?_ ?_|refine Acz ?_ ?_)<;>intro h<;>(try simp only [h])<;>(try simp only [bitvec_to_nat] at h)<;>(try simp only [h])<;>(first|(exfalso;omega)|(exfalso;simp_all;done)|(simp (disch:=omega) only [push_cast,seval,hv,hs])|skip))
 | ((first|refine Amz false ?_|refine Aiz false ?_);simp (disch:=omega) only [push_cast,seval,hv,hs])
 | ((first|((first|refine call0D (BCall.ofP (A6z _ _ ?_ ?_)) ?_|refine qcall0D (BCall.ofP (A6z _ _ ?_ ?_)) ⟨_,_,rfl,rfl⟩ ?_);(iterate 2 (exact sd));rintro _ _ ⟨rfl,rfl⟩)|((first|refine call0D (BCall.ofP (validStrides_ok _ _ _ ?_ ?_)) ?_|refine qcall0D (BCall.ofP (validStrides_ok _ _ _ ?_ ?_)) ⟨_,_,rfl,rfl⟩ ?_);(iterate 2 (exact sd));rintro _ _ ⟨rfl,rfl⟩)|((first|refine call0D (BCall.ofP (upTo_ok _ _)) ?_|refine qcall0D (BCall.ofP (upTo_ok _ _)) ⟨_,_,rfl,rfl⟩ ?_);rintro _ _ ⟨rfl,rfl⟩)|((first|refine call0D (BCall.ofP (bounds_ok _ _ _ _ _ ?_ ?_ ?_)) ?_|refine qcall0D (BCall.ofP (bounds_ok _ _ _ _ _ ?_ ?_ ?_)) ⟨_,_,rfl,rfl⟩ ?_);(iterate 3 (exact sd));rintro _ _ ⟨rfl,rfl⟩)|((first|refine call0D (BCall.ofP (vcount_ok _ _ _ _ _ _ ?_ ?_)) ?_|refine qcall0D (BCall.ofP (vcount_ok _ _ _ _ _ _ ?_ ?_)) ⟨_,_,rfl,rfl⟩ ?_);(iterate 2 (exact sd));rintro _ _ ⟨rfl,rfl⟩))<;>(try simp (disch:=omega) only [push_cast,seval,hv,hs]))
 | (refine Akz ⟨.inr rfl,_,rfl,?_⟩;(try simp (disch:=omega) only [push_cast,seval,hv,hs]))))
  | true =>
    by_cases hr:0 ≤ b ∧ b ≤ 60
    · rw [vV_rest hv hs hr]
      obtain ⟨hr1,hr2⟩:=hr
      have hbb:good4 sh ∧ vSt st sh.length=true ∧ -1000000 ≤ b ∧ b ≤ 1000000:=⟨hg,hs,by omega⟩
      by_cases hz:pr sh=0
      · (repeat' (first
 | (first|refine Ajz ?_|refine Afz ?_)
 | ((first|refine Alz ?_|refine Aez ?_|refine Agz ?_|refine Ahz ?_);simp (disch:=omega) only [push_cast,seval,l90r0,l90r1,l90r2,l90r3,l90r4,hv,hs,hr1,hr2,hz])
 | ((first|refine Abz ?_ ?_|refine Adz ?_ ?_|refine Acz ?_ ?_)<;>intro h<;>(try simp only [h])<;>(try simp only [bitvec_to_nat] at h)<;>(try simp only [h])<;>(first|(exfalso;omega)|(exfalso;simp_all;done)|(simp (disch:=omega) only [push_cast,seval,hv,hs,hr1,hr2,hz])|skip))
 | ((first|refine Amz false ?_|refine Aiz false ?_);simp (disch:=omega) only [push_cast,seval,hv,hs,hr1,hr2,hz])
 | ((first|((first|refine call0D (BCall.ofP (A6z _ _ ?_ ?_)) ?_|refine qcall0D (BCall.ofP (A6z _ _ ?_ ?_)) ⟨_,_,rfl,rfl⟩ ?_);(iterate 2 (exact sd));rintro _ _ ⟨rfl,rfl⟩)|((first|refine call0D (BCall.ofP (validStrides_ok _ _ _ ?_ ?_)) ?_|refine qcall0D (BCall.ofP (validStrides_ok _ _ _ ?_ ?_)) ⟨_,_,rfl,rfl⟩ ?_);(iterate 2 (exact sd));rintro _ _ ⟨rfl,rfl⟩)|((first|refine call0D (BCall.ofP (upTo_ok _ _)) ?_|refine qcall0D (BCall.ofP (upTo_ok _ _)) ⟨_,_,rfl,rfl⟩ ?_);rintro _ _ ⟨rfl,rfl⟩)|((first|refine call0D (BCall.ofP (bounds_ok _ _ _ _ _ ?_ ?_ ?_)) ?_|refine qcall0D (BCall.ofP (bounds_ok _ _ _ _ _ ?_ ?_ ?_)) ⟨_,_,rfl,rfl⟩ ?_);(iterate 3 (exact sd));rintro _ _ ⟨rfl,rfl⟩)|((first|refine call0D (BCall.ofP (vcount_ok _ _ _ _ _ _ ?_ ?_)) ?_|refine qcall0D (BCall.ofP (vcount_ok _ _ _ _ _ _ ?_ ?_)) ⟨_,_,rfl,rfl⟩ ?_);(iterate 2 (exact sd));rintro _ _ ⟨rfl,rfl⟩))<;>(try simp (disch:=omega) only [push_cast,seval,hv,hs,hr1,hr2,hz]))
 | (refine Akz ⟨.inr rfl,_,rfl,?_⟩;(try simp (disch:=omega) only [push_cast,seval,hv,hs,hr1,hr2,hz]))))
        all_goals simp
      · have hpb:=(Ddz hv).2
        rw [bd_all hg (by omega)]
        have e1:bdL b sh st=b + lowS sh st sh.length:=if_neg hz
        have e2:bdH b sh st=b + highS sh st sh.length:=if_neg hz
        (repeat' (first
 | (first|refine Ajz ?_|refine Afz ?_)
 | ((first|refine Alz ?_|refine Aez ?_|refine Agz ?_|refine Ahz ?_);simp (disch:=omega) only [push_cast,seval,l90r0,l90r1,l90r2,l90r3,l90r4,hv,hs,hr1,hr2,hz,e1,e2])
 | ((first|refine Abz ?_ ?_|refine Adz ?_ ?_|refine Acz ?_ ?_)<;>intro h<;>(try simp only [h])<;>(try simp only [bitvec_to_nat] at h)<;>(try simp only [h])<;>(first|(exfalso;omega)|(exfalso;simp_all;done)|(simp (disch:=omega) only [push_cast,seval,hv,hs,hr1,hr2,hz,e1,e2])|skip))
 | ((first|refine Amz false ?_|refine Aiz false ?_);simp (disch:=omega) only [push_cast,seval,hv,hs,hr1,hr2,hz,e1,e2])
 | ((first|((first|refine call0D (BCall.ofP (A6z _ _ ?_ ?_)) ?_|refine qcall0D (BCall.ofP (A6z _ _ ?_ ?_)) ⟨_,_,rfl,rfl⟩ ?_);(iterate 2 (exact sd));rintro _ _ ⟨rfl,rfl⟩)|((first|refine call0D (BCall.ofP (validStrides_ok _ _ _ ?_ ?_)) ?_|refine qcall0D (BCall.ofP (validStrides_ok _ _ _ ?_ ?_)) ⟨_,_,rfl,rfl⟩ ?_);(iterate 2 (exact sd));rintro _ _ ⟨rfl,rfl⟩)|((first|refine call0D (BCall.ofP (upTo_ok _ _)) ?_|refine qcall0D (BCall.ofP (upTo_ok _ _)) ⟨_,_,rfl,rfl⟩ ?_);rintro _ _ ⟨rfl,rfl⟩)|((first|refine call0D (BCall.ofP (bounds_ok _ _ _ _ _ ?_ ?_ ?_)) ?_|refine qcall0D (BCall.ofP (bounds_ok _ _ _ _ _ ?_ ?_ ?_)) ⟨_,_,rfl,rfl⟩ ?_);(iterate 3 (exact sd));rintro _ _ ⟨rfl,rfl⟩)|((first|refine call0D (BCall.ofP (vcount_ok _ _ _ _ _ _ ?_ ?_)) ?_|refine qcall0D (BCall.ofP (vcount_ok _ _ _ _ _ _ ?_ ?_)) ⟨_,_,rfl,rfl⟩ ?_);(iterate 2 (exact sd));rintro _ _ ⟨rfl,rfl⟩))<;>(try simp (disch:=omega) only [push_cast,seval,hv,hs,hr1,hr2,hz,e1,e2]))
 | (refine Akz ⟨.inr rfl,_,rfl,?_⟩;(try simp (disch:=omega) only [push_cast,seval,hv,hs,hr1,hr2,hz,e1,e2]))))
        all_goals (simp [hz];try omega)
    · rw [vV_base hr]
      have hr':(decide (0 ≤ b) && decide (b ≤ 60))=false:=by
        rw [Bool.eq_false_iff];intro h;simp at h;exact hr h
      (repeat' (first
 | (first|refine Ajz ?_|refine Afz ?_)
 | ((first|refine Alz ?_|refine Aez ?_|refine Agz ?_|refine Ahz ?_);simp (disch:=omega) only [push_cast,seval,l90r0,l90r1,l90r2,l90r3,l90r4,hv,hs,hr'])
 | ((first|refine Abz ?_ ?_|refine Adz ?_ ?_|refine Acz ?_ ?_)<;>intro h<;>(try simp only [h])<;>(try simp only [bitvec_to_nat] at h)<;>(try simp only [h])<;>(first|(exfalso;omega)|(exfalso;simp_all;done)|(simp (disch:=omega) only [push_cast,seval,hv,hs,hr'])|skip))
 | ((first|refine Amz false ?_|refine Aiz false ?_);simp (disch:=omega) only [push_cast,seval,hv,hs,hr'])
 | ((first|((first|refine call0D (BCall.ofP (A6z _ _ ?_ ?_)) ?_|refine qcall0D (BCall.ofP (A6z _ _ ?_ ?_)) ⟨_,_,rfl,rfl⟩ ?_);(iterate 2 (exact sd));rintro _ _ ⟨rfl,rfl⟩)|((first|refine call0D (BCall.ofP (validStrides_ok _ _ _ ?_ ?_)) ?_|refine qcall0D (BCall.ofP (validStrides_ok _ _ _ ?_ ?_)) ⟨_,_,rfl,rfl⟩ ?_);(iterate 2 (exact sd));rintro _ _ ⟨rfl,rfl⟩)|((first|refine call0D (BCall.ofP (upTo_ok _ _)) ?_|refine qcall0D (BCall.ofP (upTo_ok _ _)) ⟨_,_,rfl,rfl⟩ ?_);rintro _ _ ⟨rfl,rfl⟩)|((first|refine call0D (BCall.ofP (bounds_ok _ _ _ _ _ ?_ ?_ ?_)) ?_|refine qcall0D (BCall.ofP (bounds_ok _ _ _ _ _ ?_ ?_ ?_)) ⟨_,_,rfl,rfl⟩ ?_);(iterate 3 (exact sd));rintro _ _ ⟨rfl,rfl⟩)|((first|refine call0D (BCall.ofP (vcount_ok _ _ _ _ _ _ ?_ ?_)) ?_|refine qcall0D (BCall.ofP (vcount_ok _ _ _ _ _ _ ?_ ?_)) ⟨_,_,rfl,rfl⟩ ?_);(iterate 2 (exact sd));rintro _ _ ⟨rfl,rfl⟩))<;>(try simp (disch:=omega) only [push_cast,seval,hv,hs,hr']))
 | (refine Akz ⟨.inr rfl,_,rfl,?_⟩;(try simp (disch:=omega) only [push_cast,seval,hv,hs,hr']))))


/-- What OffsetAt answers. -/
def oaV (b:Int) (sh st idx:List Int):Int:=if vV b sh st=true ∧ vIx sh idx=true then b + dot (fun i=>idx.getD i 0) st sh.length else 0
def oaB (b:Int) (sh st idx:List Int):Bool:=vV b sh st && vIx sh idx
def boL (b:Int) (sh st:List Int):Int:=if vV b sh st=true then bdL b sh st else -1
def boH (b:Int) (sh st:List Int):Int:=if vV b sh st=true then bdH b sh st else -1


def fitB (b:Int) (sh st:List Int) (s:Int):Bool:=vV b sh st && (decide (0 ≤ s) && decide (s ≤ 60)) && allI (offs b sh st) 0 (s - 1)


theorem iFitsIn_ok (b:Int) (sh st:List Int) (s:Int) (n m:Nat) (hn:sh.length=n) (hm:st.length=m) (hb:n ≤ 1099511627776 ∧ m ≤ 1099511627776):PCall Tryd.prog 58 [.agg [.int .i64 b,.rows false (IL sh) n,.rows false (IL st) m],.int .i64 s] (fun r=>r=.bool (fitB b sh st s)):=by
  subst hn hm
  obtain ⟨hb1,hb2⟩:=hb
  refine Ayz l58_eq rfl ?_
  unfold fitB
  cases hv:vV b sh st with
  | false =>
    (repeat' (first
 | (first|refine Ajz ?_|refine Afz ?_)
 | ((first|refine Alz ?_|refine Aez ?_|refine Agz ?_|refine Ahz ?_);simp (disch:=omega) only [push_cast,seval,l58r0,l58r1,l58r2,l58r3,l58r4,hv])
 | ((first|refine Abz ?_ ?_|refine Adz ?_ ?_|refine Acz ?_ ?_)<;>intro h<;>(try simp only [h])<;>(try simp only [bitvec_to_nat] at h)<;>(try simp only [h])<;>(first|(exfalso;omega)|(exfalso;simp_all;done)|(simp (disch:=omega) only [push_cast,seval,hv])|skip))
 | ((first|refine Amz false ?_|refine Aiz false ?_);simp (disch:=omega) only [push_cast,seval,hv])
 | ((first|((first|refine call0D (BCall.ofP (A0z _ _ _ _ _ ?_ ?_ ?_)) ?_|refine qcall0D (BCall.ofP (A0z _ _ _ _ _ ?_ ?_ ?_)) ⟨_,_,rfl,rfl⟩ ?_);(iterate 3 (exact sd));rintro _ _ ⟨rfl,rfl⟩)|((first|refine call0D (BCall.ofP (upTo_ok _ _)) ?_|refine qcall0D (BCall.ofP (upTo_ok _ _)) ⟨_,_,rfl,rfl⟩ ?_);rintro _ _ ⟨rfl,rfl⟩)|((first|refine call0D (BCall.ofP (bounds_ok _ _ _ _ _ ?_ ?_ ?_)) ?_|refine qcall0D (BCall.ofP (bounds_ok _ _ _ _ _ ?_ ?_ ?_)) ⟨_,_,rfl,rfl⟩ ?_);(iterate 3 (exact sd));rintro _ _ ⟨rfl,rfl⟩))<;>(try simp (disch:=omega) only [push_cast,seval,hv]))
 | (refine Akz ⟨.inr rfl,_,rfl,?_⟩;(try simp (disch:=omega) only [push_cast,seval,hv]))))
    all_goals simp
  | true =>
    obtain ⟨h1,h2,h3,-⟩:=vV_spec.1 hv
    have hg:=(Ddz h1).1
    have q:good4 sh ∧ vSt st sh.length=true ∧ -1000000 ≤ b ∧ b ≤ 1000000:=⟨hg,h2,by omega⟩
    by_cases hr:0 ≤ s ∧ s ≤ 60
    · obtain ⟨hr1,hr2⟩:=hr
      have hpb:=(Ddz h1).2
      have e:allI (offs b sh st) 0 (s - 1)=decide (bdH b sh st < s):=by
        by_cases hz:pr sh=0
        · have h0:offs b sh st=[]:=by unfold offs;rw [hz];rfl
          rw [h0,bdH,if_pos hz]
          simp [allI]
          omega
        · rw [bd_all hg (by omega),bdH,if_neg hz]
          have h5:=vV_cells hv _ (low_offs (b:=b) (st:=st) hg (by omega)).1
          rw [Bool.eq_iff_iff]
          simp
          omega
      rw [e]
      (repeat' (first
 | (first|refine Ajz ?_|refine Afz ?_)
 | ((first|refine Alz ?_|refine Aez ?_|refine Agz ?_|refine Ahz ?_);simp (disch:=omega) only [push_cast,seval,l58r0,l58r1,l58r2,l58r3,l58r4,hv,hr1,hr2])
 | ((first|refine Abz ?_ ?_|refine Adz ?_ ?_|refine Acz ?_ ?_)<;>intro h<;>(try simp only [h])<;>(try simp only [bitvec_to_nat] at h)<;>(try simp only [h])<;>(first|(exfalso;omega)|(exfalso;simp_all;done)|(simp (disch:=omega) only [push_cast,seval,hv,hr1,hr2])|skip))
 | ((first|refine Amz false ?_|refine Aiz false ?_);simp (disch:=omega) only [push_cast,seval,hv,hr1,hr2])
 | ((first|((first|refine call0D (BCall.ofP (A0z _ _ _ _ _ ?_ ?_ ?_)) ?_|refine qcall0D (BCall.ofP (A0z _ _ _ _ _ ?_ ?_ ?_)) ⟨_,_,rfl,rfl⟩ ?_);(iterate 3 (exact sd));rintro _ _ ⟨rfl,rfl⟩)|((first|refine call0D (BCall.ofP (upTo_ok _ _)) ?_|refine qcall0D (BCall.ofP (upTo_ok _ _)) ⟨_,_,rfl,rfl⟩ ?_);rintro _ _ ⟨rfl,rfl⟩)|((first|refine call0D (BCall.ofP (bounds_ok _ _ _ _ _ ?_ ?_ ?_)) ?_|refine qcall0D (BCall.ofP (bounds_ok _ _ _ _ _ ?_ ?_ ?_)) ⟨_,_,rfl,rfl⟩ ?_);(iterate 3 (exact sd));rintro _ _ ⟨rfl,rfl⟩))<;>(try simp (disch:=omega) only [push_cast,seval,hv,hr1,hr2]))
 | (refine Akz ⟨.inr rfl,_,rfl,?_⟩;(try simp (disch:=omega) only [push_cast,seval,hv,hr1,hr2]))))
      all_goals simp [hr1,hr2]
    · have hr':(decide (0 ≤ s) && decide (s ≤ 60))=false:=by
        rw [Bool.eq_false_iff];intro h;simp at h;exact hr h
      (repeat' (first
 | (first|refine Ajz ?_|refine Afz ?_)
 | ((first|refine Alz ?_|refine Aez ?_|refine Agz ?_|refine Ahz ?_);simp (disch:=omega) only [push_cast,seval,l58r0,l58r1,l58r2,l58r3,l58r4,hv,hr'])
 | ((first|refine Abz ?_ ?_|refine Adz ?_ ?_|refine Acz ?_ ?_)<;>intro h<;>(try simp only [h])<;>(try simp only [bitvec_to_nat] at h)<;>(try simp only [h])<;>(first|(exfalso;omega)|(exfalso;simp_all;done)|(simp (disch:=omega) only [push_cast,seval,hv,hr'])|skip))
 | ((first|refine Amz false ?_|refine Aiz false ?_);simp (disch:=omega) only [push_cast,seval,hv,hr'])
 | ((first|((first|refine call0D (BCall.ofP (A0z _ _ _ _ _ ?_ ?_ ?_)) ?_|refine qcall0D (BCall.ofP (A0z _ _ _ _ _ ?_ ?_ ?_)) ⟨_,_,rfl,rfl⟩ ?_);(iterate 3 (exact sd));rintro _ _ ⟨rfl,rfl⟩)|((first|refine call0D (BCall.ofP (upTo_ok _ _)) ?_|refine qcall0D (BCall.ofP (upTo_ok _ _)) ⟨_,_,rfl,rfl⟩ ?_);rintro _ _ ⟨rfl,rfl⟩)|((first|refine call0D (BCall.ofP (bounds_ok _ _ _ _ _ ?_ ?_ ?_)) ?_|refine qcall0D (BCall.ofP (bounds_ok _ _ _ _ _ ?_ ?_ ?_)) ⟨_,_,rfl,rfl⟩ ?_);(iterate 3 (exact sd));rintro _ _ ⟨rfl,rfl⟩))<;>(try simp (disch:=omega) only [push_cast,seval,hv,hr']))
 | (refine Akz ⟨.inr rfl,_,rfl,?_⟩;(try simp (disch:=omega) only [push_cast,seval,hv,hr']))))
      all_goals simp [hr']

end Go.Proofs.YtahdlohpncjdbaaDoor
set_option linter.unusedSimpArgs false
set_option linter.unusedVariables false
set_option maxRecDepth 4000
set_option maxHeartbeats 4000000
namespace Go.Proofs.YtahdlohpncjdbaaDoor
open VwM Vw Go
set_option linter.unusedSectionVars false
variable [SentA]

def sameB (b:Int) (sh st:List Int) (b':Int) (sh' st':List Int):Bool:=vV b sh st && vV b' sh' st' && decide (sh=sh') && decide (offs b sh st=offs b' sh' st')

end Go.Proofs.YtahdlohpncjdbaaDoor
set_option linter.unusedSimpArgs false
set_option linter.unusedVariables false
set_option maxRecDepth 4000
set_option maxHeartbeats 4000000
namespace Go.Proofs.YtahdlohpncjdbaaDoor
open VwM Vw Go
set_option linter.unusedSectionVars false
variable [SentA]

end Go.Proofs.YtahdlohpncjdbaaDoor
set_option linter.unusedSimpArgs false
set_option linter.unusedVariables false
set_option maxRecDepth 4000
set_option maxHeartbeats 4000000
namespace Go.Proofs.YtahdlohpncjdbaaDoor
open VwM Vw Go
set_option linter.unusedSectionVars false
variable [SentA]

theorem svMem_ok (xs:List Int) (n:Nat) (hn:xs.length=n) (hb:n ≤ 1099511627776):PCall Tryd.prog 62 [.rows false (IL xs) n] (fun r=>r=.bool (vMem xs)):=by
  subst hn
  refine Ayz l62_eq rfl ?_
  by_cases h4:xs.length ≤ 60
  · cases ha:allI xs 0 255 with
    | false =>
      (repeat' (first
 | (first|refine Ajz ?_|refine Afz ?_)
 | ((first|refine Alz ?_|refine Aez ?_|refine Agz ?_|refine Ahz ?_);simp (disch:=omega) only [push_cast,seval,l62r0,l62r1,ha])
 | ((first|refine Abz ?_ ?_|refine Adz ?_ ?_|refine Acz ?_ ?_)<;>intro h<;>(try simp only [h])<;>(try simp only [bitvec_to_nat] at h)<;>(try simp only [h])<;>(first|(exfalso;omega)|(exfalso;simp_all;done)|(simp (disch:=omega) only [push_cast,seval,ha])|skip))
 | ((first|refine Amz false ?_|refine Aiz false ?_);simp (disch:=omega) only [push_cast,seval,ha])
 | ((first|((first|refine call0D (BCall.ofP (allIn_ok _ _ _ _ ?_ ?_)) ?_|refine qcall0D (BCall.ofP (allIn_ok _ _ _ _ ?_ ?_)) ⟨_,_,rfl,rfl⟩ ?_);(iterate 2 (exact sd));rintro _ _ ⟨rfl,rfl⟩))<;>(try simp (disch:=omega) only [push_cast,seval,ha]))
 | (refine Akz ⟨.inr rfl,_,rfl,?_⟩;(try simp (disch:=omega) only [push_cast,seval,ha]))))
      all_goals simp [vMem,ha]
    | true =>
      (repeat' (first
 | (first|refine Ajz ?_|refine Afz ?_)
 | ((first|refine Alz ?_|refine Aez ?_|refine Agz ?_|refine Ahz ?_);simp (disch:=omega) only [push_cast,seval,l62r0,l62r1,ha])
 | ((first|refine Abz ?_ ?_|refine Adz ?_ ?_|refine Acz ?_ ?_)<;>intro h<;>(try simp only [h])<;>(try simp only [bitvec_to_nat] at h)<;>(try simp only [h])<;>(first|(exfalso;omega)|(exfalso;simp_all;done)|(simp (disch:=omega) only [push_cast,seval,ha])|skip))
 | ((first|refine Amz false ?_|refine Aiz false ?_);simp (disch:=omega) only [push_cast,seval,ha])
 | ((first|((first|refine call0D (BCall.ofP (allIn_ok _ _ _ _ ?_ ?_)) ?_|refine qcall0D (BCall.ofP (allIn_ok _ _ _ _ ?_ ?_)) ⟨_,_,rfl,rfl⟩ ?_);(iterate 2 (exact sd));rintro _ _ ⟨rfl,rfl⟩))<;>(try simp (disch:=omega) only [push_cast,seval,ha]))
 | (refine Akz ⟨.inr rfl,_,rfl,?_⟩;(try simp (disch:=omega) only [push_cast,seval,ha]))))
      all_goals simp [vMem,ha,h4]
  · (repeat' (first
 | (first|refine Ajz ?_|refine Afz ?_)
 | ((first|refine Alz ?_|refine Aez ?_|refine Agz ?_|refine Ahz ?_);simp (disch:=omega) only [push_cast,seval,l62r0,l62r1])
 | ((first|refine Abz ?_ ?_|refine Adz ?_ ?_|refine Acz ?_ ?_)<;>intro h<;>(try simp only [h])<;>(try simp only [bitvec_to_nat] at h)<;>(try simp only [h])<;>(first|(exfalso;omega)|(exfalso;simp_all;done)|(simp (disch:=omega) only [push_cast,seval])|skip))
 | ((first|refine Amz false ?_|refine Aiz false ?_);simp (disch:=omega) only [push_cast,seval])
 | ((first|((first|refine call0D (BCall.ofP (allIn_ok _ _ _ _ ?_ ?_)) ?_|refine qcall0D (BCall.ofP (allIn_ok _ _ _ _ ?_ ?_)) ⟨_,_,rfl,rfl⟩ ?_);(iterate 2 (exact sd));rintro _ _ ⟨rfl,rfl⟩))<;>(try simp (disch:=omega) only [push_cast,seval]))
 | (refine Akz ⟨.inr rfl,_,rfl,?_⟩;(try simp (disch:=omega) only [push_cast,seval]))))
    all_goals simp [vMem,h4]


theorem validValues_ok (xs:List Int) (n:Nat) (hn:xs.length=n) (hb:n ≤ 1099511627776):PCall Tryd.prog 76 [.rows false (IL xs) n] (fun r=>r=.bool (allI xs 0 255)):=by
  subst hn
  refine Ayz l76_eq rfl ?_
  (repeat' (first
 | (first|refine Ajz ?_|refine Afz ?_)
 | ((first|refine Alz ?_|refine Aez ?_|refine Agz ?_|refine Ahz ?_);simp (disch:=omega) only [push_cast,seval,l76r0,l76r1,l76r2,l76r3,l76r4,l76r5,l76r6,l76r7])
 | ((first|refine Abz ?_ ?_|refine Adz ?_ ?_|refine Acz ?_ ?_)<;>intro h<;>(try simp only [h])<;>(try simp only [bitvec_to_nat] at h)<;>(try simp only [h])<;>(first|(exfalso;omega)|(exfalso;simp_all;done)|(simp (disch:=omega) only [push_cast,seval])|skip))
 | ((first|refine Amz false ?_|refine Aiz false ?_);simp (disch:=omega) only [push_cast,seval])
 | ((first|((first|refine call0D (BCall.ofP (upTo_ok _ _)) ?_|refine qcall0D (BCall.ofP (upTo_ok _ _)) ⟨_,_,rfl,rfl⟩ ?_);rintro _ _ ⟨rfl,rfl⟩))<;>(try simp (disch:=omega) only [push_cast,seval]))
 | (refine Akz ⟨.inr rfl,_,rfl,?_⟩;(try simp (disch:=omega) only [push_cast,seval]))))
  refine Bfz (fun k:Nat=>mkS [(5,RI xs),(6,.int .i64 xs.length),(7,.int .i64 k)] []) (fun k=>k ≤ xs.length ∧ ∀ j:Nat,j < k → 0 ≤ xs.getD j 0 ∧ xs.getD j 0 ≤ 255) (fun k=>xs.length - k) 0 ⟨Nat.zero_le _,fun j h=>absurd h (Nat.not_lt_zero _)⟩ ?_ ?_
  · (refine Sub.of_lists ?_ ?_ ?_ ?_ ?_<;>simp [Vw.mkS,Vw.lk,Vw.hk,AV.inn,innL,Asz,Apz,Avz,-List.map_set,-List.getD_eq_getElem?_getD])
  · rintro k ⟨hk,hj⟩
    by_cases hlt:k < xs.length
    · (repeat' (first
 | (first|refine Ajz ?_|refine Afz ?_)
 | ((first|refine Alz ?_|refine Aez ?_|refine Agz ?_|refine Ahz ?_);simp (disch:=omega) only [push_cast,seval,l76r0,l76r1,l76r2,l76r3,l76r4,l76r5,l76r6,l76r7])
 | ((first|refine Abz ?_ ?_|refine Adz ?_ ?_|refine Acz ?_ ?_)<;>intro h<;>(try simp only [h])<;>(try simp only [bitvec_to_nat] at h)<;>(try simp only [h])<;>(first|(exfalso;omega)|(exfalso;simp_all;done)|(simp (disch:=omega) only [push_cast,seval])|skip))
 | ((first|refine Amz false ?_|refine Aiz false ?_);simp (disch:=omega) only [push_cast,seval])
 | ((first|((first|refine call0D (BCall.ofP (upTo_ok _ _)) ?_|refine qcall0D (BCall.ofP (upTo_ok _ _)) ⟨_,_,rfl,rfl⟩ ?_);rintro _ _ ⟨rfl,rfl⟩))<;>(try simp (disch:=omega) only [push_cast,seval]))
 | (refine Akz ⟨.inr rfl,_,rfl,?_⟩;(try simp (disch:=omega) only [push_cast,seval]))))
      · rw [Ecz (j:=k) hlt (by assumption)]
      · refine ⟨k + 1,⟨by omega,fun j h=>?_⟩,by omega,?_⟩
        · by_cases hjk:j=k
          · subst hjk;assumption
          · exact hj j (by omega)
        · (refine Sub.of_lists ?_ ?_ ?_ ?_ ?_<;>simp [Vw.mkS,Vw.lk,Vw.hk,AV.inn,innL,Asz,Apz,Avz,-List.map_set,-List.getD_eq_getElem?_getD])
    · have ha:allI xs 0 255=true:=Fiz fun j h=>hj j (by omega)
      (repeat' (first
 | (first|refine Ajz ?_|refine Afz ?_)
 | ((first|refine Alz ?_|refine Aez ?_|refine Agz ?_|refine Ahz ?_);simp (disch:=omega) only [push_cast,seval,l76r0,l76r1,l76r2,l76r3,l76r4,l76r5,l76r6,l76r7])
 | ((first|refine Abz ?_ ?_|refine Adz ?_ ?_|refine Acz ?_ ?_)<;>intro h<;>(try simp only [h])<;>(try simp only [bitvec_to_nat] at h)<;>(try simp only [h])<;>(first|(exfalso;omega)|(exfalso;simp_all;done)|(simp (disch:=omega) only [push_cast,seval])|skip))
 | ((first|refine Amz false ?_|refine Aiz false ?_);simp (disch:=omega) only [push_cast,seval])
 | ((first|((first|refine call0D (BCall.ofP (upTo_ok _ _)) ?_|refine qcall0D (BCall.ofP (upTo_ok _ _)) ⟨_,_,rfl,rfl⟩ ?_);rintro _ _ ⟨rfl,rfl⟩))<;>(try simp (disch:=omega) only [push_cast,seval]))
 | (refine Akz ⟨.inr rfl,_,rfl,?_⟩;(try simp (disch:=omega) only [push_cast,seval]))))
      simp [ha]


theorem Bez (xs:List Int) (n:Nat) (hn:xs.length=n) (hb:n ≤ 1099511627776):PCall Tryd.prog 85 [.rows false (IL xs) n] (fun r=>r=.bool (vMem xs)):=by
  subst hn
  refine Ayz l85_eq rfl ?_
  by_cases h4:xs.length ≤ 60
  · (repeat' (first
 | (first|refine Ajz ?_|refine Afz ?_)
 | ((first|refine Alz ?_|refine Aez ?_|refine Agz ?_|refine Ahz ?_);simp (disch:=omega) only [push_cast,seval,l85r0,l85r1])
 | ((first|refine Abz ?_ ?_|refine Adz ?_ ?_|refine Acz ?_ ?_)<;>intro h<;>(try simp only [h])<;>(try simp only [bitvec_to_nat] at h)<;>(try simp only [h])<;>(first|(exfalso;omega)|(exfalso;simp_all;done)|(simp (disch:=omega) only [push_cast,seval])|skip))
 | ((first|refine Amz false ?_|refine Aiz false ?_);simp (disch:=omega) only [push_cast,seval])
 | ((first|((first|refine call0D (BCall.ofP (Ckz _)) ?_|refine qcall0D (BCall.ofP (Ckz _)) ⟨_,_,rfl,rfl⟩ ?_);rintro _ _ ⟨rfl,rfl⟩)|((first|refine call0D (BCall.ofP (validValues_ok _ _ ?_ ?_)) ?_|refine qcall0D (BCall.ofP (validValues_ok _ _ ?_ ?_)) ⟨_,_,rfl,rfl⟩ ?_);(iterate 2 (exact sd));rintro _ _ ⟨rfl,rfl⟩))<;>(try simp (disch:=omega) only [push_cast,seval]))
 | (refine Akz ⟨.inr rfl,_,rfl,?_⟩;(try simp (disch:=omega) only [push_cast,seval]))))
    all_goals simp [vMem,h4]
  · (repeat' (first
 | (first|refine Ajz ?_|refine Afz ?_)
 | ((first|refine Alz ?_|refine Aez ?_|refine Agz ?_|refine Ahz ?_);simp (disch:=omega) only [push_cast,seval,l85r0,l85r1])
 | ((first|refine Abz ?_ ?_|refine Adz ?_ ?_|refine Acz ?_ ?_)<;>intro h<;>(try simp only [h])<;>(try simp only [bitvec_to_nat] at h)<;>(try simp only [h])<;>(first|(exfalso;omega)|(exfalso;simp_all;done)|(simp (disch:=omega) only [push_cast,seval])|skip))
 | ((first|refine Amz false ?_|refine Aiz false ?_);simp (disch:=omega) only [push_cast,seval])
 | ((first|((first|refine call0D (BCall.ofP (Ckz _)) ?_|refine qcall0D (BCall.ofP (Ckz _)) ⟨_,_,rfl,rfl⟩ ?_);rintro _ _ ⟨rfl,rfl⟩)|((first|refine call0D (BCall.ofP (validValues_ok _ _ ?_ ?_)) ?_|refine qcall0D (BCall.ofP (validValues_ok _ _ ?_ ?_)) ⟨_,_,rfl,rfl⟩ ?_);(iterate 2 (exact sd));rintro _ _ ⟨rfl,rfl⟩))<;>(try simp (disch:=omega) only [push_cast,seval]))
 | (refine Akz ⟨.inr rfl,_,rfl,?_⟩;(try simp (disch:=omega) only [push_cast,seval]))))
    all_goals simp [vMem,h4]


/-- Two views of an equal shape fit. -/
def twoB (mem:List Int) (b:Int) (sh st:List Int) (b':Int) (sh' st':List Int):Bool:=seeB mem b sh st && seeB mem b' sh' st' && decide (sh=sh')


/-- The values can be taken by the view. -/
def takB (mem:List Int) (b:Int) (sh st vals:List Int):Bool:=seeB mem b sh st && decide ((vals.length:Int)=pr sh) && allI vals 0 255
end Go.Proofs.YtahdlohpncjdbaaDoor
set_option linter.unusedSimpArgs false
set_option linter.unusedVariables false
set_option maxRecDepth 4000
set_option maxHeartbeats 4000000
namespace Go.Proofs.YtahdlohpncjdbaaDoor
open VwM Vw Go
set_option linter.unusedSectionVars false
variable [SentA]

/-- The memory after cells were carried in an order. -/
def stpK (mem to fr:List Int) (g:Nat → Nat):Nat → List Int
  | 0=>mem
  | k + 1=>(stpK mem to fr g k).set (to.getD (g k) 0).toNat ((stpK mem to fr g k).getD (fr.getD (g k) 0).toNat 0)
end Go.Proofs.YtahdlohpncjdbaaDoor
set_option linter.unusedSimpArgs false
set_option linter.unusedVariables false
set_option maxRecDepth 4000
set_option maxHeartbeats 4000000
namespace Go.Proofs.YtahdlohpncjdbaaDoor
open VwM Vw Go
set_option linter.unusedSectionVars false
variable [SentA]

/-- The way to copy. -/
def wayI (b:Int) (sh st:List Int) (b':Int) (sh' st':List Int):Int :=
  if (vV b sh st && vV b' sh' st' && decide (sh=sh'))=true then
    (if mtL (offs b sh st) (offs b' sh' st')=false then 0 else if (!mtL (offs b' sh' st') (offs b sh st) && decide (offs b sh st).Nodup)=true then 1 else 2) else -1
end Go.Proofs.YtahdlohpncjdbaaDoor
set_option linter.unusedSimpArgs false
set_option linter.unusedVariables false
set_option maxRecDepth 4000
set_option maxHeartbeats 4000000
namespace Go.Proofs.YtahdlohpncjdbaaDoor
open VwM Vw Go
set_option linter.unusedSectionVars false
variable [SentA]

/-- A list and whether there is one: nothing without. -/
abbrev TB (v:Bool) (l:List Int):AV → List (List AV) → Prop:=fun r H'=>r=.tup [.own 0 (MVL v l).length 1,.bool v] ∧ H'=[IL (MVL v l)]
/-- The cells with different values,of memories with as many cells. -/
def chB (a b:List Int):Bool:=vMem a && vMem b && decide (a.length=b.length)


def sumV (mem:List Int) (b:Int) (sh st:List Int):Int:=if seeB mem b sh st=true then sumT (takesL mem (offs b sh st)) (offs b sh st).length else -1
end Go.Proofs.YtahdlohpncjdbaaDoor
set_option linter.unusedSimpArgs false
set_option linter.unusedVariables false
set_option maxRecDepth 4000
set_option maxHeartbeats 4000000
namespace Go.Proofs.YtahdlohpncjdbaaDoor
open VwM Vw Go
set_option linter.unusedSectionVars false
variable [SentA]

end Go.Proofs.YtahdlohpncjdbaaDoor
set_option linter.unusedSimpArgs false
set_option linter.unusedVariables false
set_option maxRecDepth 4000
set_option maxHeartbeats 4000000
namespace Go.Proofs.YtahdlohpncjdbaaDoor
open VwM Vw Go
set_option linter.unusedSectionVars false
variable [SentA]

/-- A value can be stored everywhere. -/
def filB (mem:List Int) (b:Int) (sh st:List Int) (x:Int):Bool:=seeB mem b sh st && (decide (0 ≤ x) && decide (x ≤ 255))
def filL (mem:List Int) (b:Int) (sh st:List Int) (x:Int):List Int:=putL mem (offs b sh st) (rpt [x] (pr sh).toNat)
end Go.Proofs.YtahdlohpncjdbaaDoor
set_option linter.unusedSimpArgs false
set_option linter.unusedVariables false
set_option maxRecDepth 4000
set_option maxHeartbeats 4000000
namespace Go.Proofs.YtahdlohpncjdbaaDoor
open VwM Vw Go
set_option linter.unusedSectionVars false
variable [SentA]

open Go.RowKit Go.Extern.Stop Go.Stop Go.Extern in
open Go.RowKit Go.Extern.Stop Go.Stop Go.Extern in
theorem isTypeOf1 (v:Value) (w:World):(Extern.ReflectliteType.typeOf #[.iface 137 v]).run Tryd.prog w=.ok (.iface 110 (.agg #[.pointer (some ⟨1,137,none⟩)])) w:=by kernel_rfl
open Go.RowKit Go.Extern.Stop Go.Stop Go.Extern Go.Extern.ReflectliteType in
theorem isComparable (w : World) : ((Extern.ReflectliteType.method fun t => do Extern.Rtype.noPackHeld "Comparable" t; pure (.bool (← typeInfo t).comparable)) #[.agg #[.pointer (some ⟨1,137,none⟩)]]).run Tryd.prog w = .ok (.bool true) w := by kernel_rfl
open Go.RowKit Go.Extern.Stop Go.Stop Go.Extern Go.Extern.ReflectliteType in
theorem H5z (w:World):Sem.run Tryd.prog (callFunc 127 #[.agg #[.pointer (some ⟨1,137,none⟩)]]) w=Result.ok (Next.value (Value.bool true)) w:=by
  have h := @run_callFunc_extern Tryd.prog 127 _ (Extern.ReflectliteType.method fun t => do Extern.Rtype.noPackHeld "Comparable" t; pure (.bool (← typeInfo t).comparable)) Tryd.func127 (by kernel_rfl) (by kernel_rfl) (by kernel_rfl) (by kernel_rfl)
  rw [h,isComparable]
  rfl
theorem Faz (v : Value) (w : World) : (Go.method 273 110 v "Comparable").run Tryd.prog w = .ok (127,v) w := by kernel_rfl
theorem isComp:(Tryd.prog.info? 137).map (·.comparable)=some true:=by kernel_rfl
theorem isSize:(Tryd.prog.info? 161).map (·.size)=some 1:=by kernel_rfl
open Go.RowKit Go.Extern.Stop Go.Stop Go.Extern in
set_option maxHeartbeats 16000000 in
theorem is_same (a:Addr) (w:World) :
    Calls Tryd.prog 36 #[.iface 137 (.pointer (some a)),.iface 137 (.pointer (some a))] w fun e w'=>e=.returned (.bool true) ∧ w'=w:=by
  obtain ⟨i,hi,hcmp⟩:=Option.map_eq_some_iff.1 isComp
  obtain ⟨j,hj,hjs⟩:=Option.map_eq_some_iff.1 isSize
  have h8:=@run_callFunc_extern Tryd.prog 67 _ Extern.ReflectliteType.typeOf Tryd.func67 (by kernel_rfl) (by kernel_rfl) (by kernel_rfl) (by kernel_rfl)
  have h32:=H5z
  have tT:=isTypeOf1
  have mR:=Faz
  have heq:=run_eql_iface_ptr_same (P:=Tryd.prog) w a Tryd.underlying59 Tryd.underlying137 hi hcmp hj
  go_enter Tryd.func36,Tryd.ntmps36
  go_wp2
  all_goals (try (refine wp_loop_rounds 1 ?_;rw [rounds_succ];go_wp2))
  all_goals (try (go_ret;exact ⟨rfl,rfl⟩))
open Go.RowKit Go.Extern.Stop Go.Stop Go.Extern in
theorem is_nil (b:Addr) (w:World) :
    Calls Tryd.prog 36 #[.nilIface,.iface 137 (.pointer (some b))] w fun e w'=>e=.returned (.bool false) ∧ w'=w:=by
  have hn:=run_eql_iface_nil_left (P:=Tryd.prog) w 137 (.pointer (some b)) Tryd.underlying59
  go_enter Tryd.func36,Tryd.ntmps36
  go_wp2
  go_ret
  exact ⟨rfl,rfl⟩

end Go.Proofs.YtahdlohpncjdbaaDoor
set_option linter.unusedSimpArgs false
set_option linter.unusedVariables false
set_option maxRecDepth 4000
set_option maxHeartbeats 4000000
namespace Go.Proofs.YtahdlohpncjdbaaDoor
open VwM Vw Go
set_option linter.unusedSectionVars false
variable [SentA]

theorem hang_false {d id kid n:Nat} {k:Int} {ks:List Int} {σ:List (Nat × AV)} {H:List (Nat × List AV)} {K:S → Prop} (h0:hk H id=some [.own kid n 1]) (h1:hk H kid=some (IL ks)) (hf:hk H 224=none ∧ hk H 304=none)
    (hK:K (mkS ((d,.ref 304 1 0) :: σ) ((304,[.val (.slice none 0 0)]) :: H))):callE Tryd.prog 0 69 [.ref id 1 0,.int .i64 k,.bool false] (some d) K σ H:=by
  obtain ⟨hf1,hf2⟩:=hf
  intro args ha
  refine B3z ?_
  rw [ha]
  refine G4z l69_eq rfl ?_
  show awpK Tryd.prog 0 _ _ (mkS [(0,.ref id 1 0),(1,.int .i64 k),(2,.bool false)] H)
  repeat' (first
    | (refine awpK_seq ?_)
    | (refine awpK_reg rfl ?_;simp (disch:=omega) only [push_cast,seval,l69r0,l69r1,l69r2,l69r3,h0,h1,hf1,hf2])
    | (refine awpK_cond false rfl (fun h=>by cases h) (fun _=>?_))
    | (refine awpK_skip ?_;simp (disch:=omega) only [push_cast,seval])
    | (refine awpK_ret ⟨.inr rfl,_,rfl,?_⟩))
  all_goals (show K ⟨upd (lk σ) d (.ref 304 1 0),hk ((304,[.val (.slice none 0 0)]) :: H)⟩;rw [upd_lk];exact hK)
theorem hang_true {d id kid n:Nat} {k:Int} {ks:List Int} {σ:List (Nat × AV)} {H:List (Nat × List AV)} {K:S → Prop} (h0:hk H id=some [.own kid n 1]) (h1:hk H kid=some (IL ks)) (hn:ks.length=n) (hb:n ≤ 1000) (hi:id ≠ kid) (hf:hk H 224=none ∧ hk H 304=none)
    (hK:K (mkS ((d,.ref 304 1 0) :: σ) ((304,[.val (.slice none 0 0)]) :: (id,[.own kid (n + 1) 1]) :: (kid,IL ks ++ [.int .i64 k]) :: (224,[.int .i64 k]) :: H))):callE Tryd.prog 0 69 [.ref id 1 0,.int .i64 k,.bool true] (some d) K σ H:=by
  obtain ⟨hf1,hf2⟩:=hf
  have e1:(id=224)=False:=propext ⟨fun e=>by rw [e,hf1] at h0;exact (by cases h0),False.elim⟩
  have e2:(kid=224)=False:=propext ⟨fun e=>by rw [e,hf1] at h1;exact (by cases h1),False.elim⟩
  have e3:(id=kid)=False:=propext ⟨fun e=>hi e,False.elim⟩
  have e4:(304=id)=False:=propext ⟨fun e=>by rw [← e,hf2] at h0;exact (by cases h0),False.elim⟩
  have e5:(304=kid)=False:=propext ⟨fun e=>by rw [← e,hf2] at h1;exact (by cases h1),False.elim⟩
  have hil:(IL ks).length=n:=by unfold IL;simpa using hn
  intro args ha
  refine B3z ?_
  rw [ha]
  refine G4z l69_eq rfl ?_
  show awpK Tryd.prog 0 _ _ (mkS [(0,.ref id 1 0),(1,.int .i64 k),(2,.bool true)] H)
  repeat' (first
    | (refine awpK_seq ?_)
    | (refine awpK_reg rfl ?_;simp (disch:=omega) only [push_cast,seval,l69r0,l69r1,l69r2,l69r3,h0,h1,hf1,hf2,e1,e2,e3,e4,e5,hil])
    | (refine awpK_cond true rfl (fun _=>?_) (fun h=>by cases h))
    | (refine awpK_skip ?_;simp (disch:=omega) only [push_cast,seval])
    | (refine awpK_ret ⟨.inr rfl,_,rfl,?_⟩))
  all_goals (show K ⟨upd (lk σ) d (.ref 304 1 0),_⟩;rw [upd_lk];exact hK)

end Go.Proofs.YtahdlohpncjdbaaDoor
set_option linter.unusedSimpArgs false
set_option linter.unusedVariables false
set_option maxRecDepth 4000
set_option maxHeartbeats 4000000
namespace Go.Proofs.YtahdlohpncjdbaaDoor
open VwM Vw Go
set_option linter.unusedSectionVars false
variable [SentA]

theorem SubW.rfl' {pin:Nat} {s:S}:SubW pin s s:=fun E M x w _ h=>⟨M,h⟩
theorem Hvz {P:Program} {pin f:Nat} {avs:List AV} {dst:Option Nat} {K:S → Prop} {σ:List (Nat × AV)} {H:List (Nat × List AV)} (h:callE P pin f avs dst (fun s'=>∃ s1,SubW pin s' s1 ∧ K s1) σ H):callE P pin f avs dst K σ H:=fun args ha E M a w hp hd hst=>by
  refine (h args ha E M a w hp hd hst).mono fun e w' ⟨M',s',v,⟨s1,hsub,hk⟩,he,hst'⟩=>?_
  obtain ⟨M'',h1⟩:=hsub E M' _ w' hp hst'
  exact ⟨M'',s1,v,hk,he,h1⟩
theorem adHL_id (t id sz:Nat):∀ H:List (Nat × List AV),hk H t=none → adHL [t] id sz H=H
  | [],_=>rfl
  | p :: r,h=>by
    simp only [hk] at h
    split at h
    · cases h
    · rename_i hne
      simp only [adHL,List.map_cons]
      have ih:=adHL_id t id sz r h
      simp only [adHL] at ih
      rw [ih]
      have:([t].contains p.1)=false:=by simp;exact fun e=>hne e.symm
      rw [this];rfl


theorem hang_no {d id kid n:Nat} {k:Int} {ks:List Int} {σ:List (Nat × AV)} {H:List (Nat × List AV)} {K:S → Prop} (h0:hk H id=some [.own kid n 1]) (h1:hk H kid=some (IL ks)) (hf:hk H 224=none ∧ hk H 304=none ∧ hk H 16000=none)
    (hK:K (mkS ((d,.ref 304 1 0) :: σ) ((16000,[]) :: (304,[.own 16000 0 1]) :: H))):callE Tryd.prog 0 69 [.ref id 1 0,.int .i64 k,.bool false] (some d) K σ H:=by
  refine Hvz (hang_false h0 h1 ⟨hf.1,hf.2.1⟩ ⟨_,?_,hK⟩)
  refine SubW.adoptH [304] 16000 1 (by simp [hk,hf.2.2]) ?_
  have e:adHL [304] 16000 1 ((304,[AV.val (.slice none 0 0)]) :: H)=(304,[.own 16000 0 1]) :: H:=by
    have:=adHL_id 304 16000 1 H hf.2.1
    simp only [adHL,List.map_cons] at this ⊢
    rw [this];rfl
  rw [e]
  exact SubW.rfl'
theorem hang_yes {d id kid n:Nat} {k:Int} {ks:List Int} {σ:List (Nat × AV)} {H:List (Nat × List AV)} {K:S → Prop} (h0:hk H id=some [.own kid n 1]) (h1:hk H kid=some (IL ks)) (hn:ks.length=n) (hb:n ≤ 1000) (hi:id ≠ kid) (hf:hk H 224=none ∧ hk H 304=none ∧ hk H 16000=none)
    (hK:K (mkS ((d,.ref 304 1 0) :: σ) ((16000,[]) :: (304,[.own 16000 0 1]) :: (id,[.own kid (n + 1) 1]) :: (kid,IL (ks ++ [k])) :: (224,[.int .i64 k]) :: H))):callE Tryd.prog 0 69 [.ref id 1 0,.int .i64 k,.bool true] (some d) K σ H:=by
  have n1:id ≠ 304:=fun e=>by rw [e,hf.2.1] at h0;cases h0
  have n2:kid ≠ 304:=fun e=>by rw [e,hf.2.1] at h1;cases h1
  have n3:id ≠ 16000:=fun e=>by rw [e,hf.2.2] at h0;cases h0
  have n4:kid ≠ 16000:=fun e=>by rw [e,hf.2.2] at h1;cases h1
  refine Hvz (hang_true h0 h1 hn hb hi ⟨hf.1,hf.2.1⟩ ⟨_,?_,hK⟩)
  refine SubW.adoptH [304] 16000 1 (by simp [hk,hf.2.2,Ne.symm n3,Ne.symm n4]) ?_
  have e:adHL [304] 16000 1 ((304,[AV.val (.slice none 0 0)]) :: (id,[.own kid (n + 1) 1]) :: (kid,IL ks ++ [.int .i64 k]) :: (224,[.int .i64 k]) :: H)=(304,[.own 16000 0 1]) :: (id,[.own kid (n + 1) 1]) :: (kid,IL (ks ++ [k])) :: (224,[.int .i64 k]) :: H:=by
    have hx:=adHL_id 304 16000 1 ((id,[.own kid (n + 1) 1]) :: (kid,IL ks ++ [.int .i64 k]) :: (224,[.int .i64 k]) :: H) (by simp [hk,hf.2.1,Ne.symm n1,Ne.symm n2])
    simp only [adHL,List.map_cons] at hx ⊢
    rw [hx]
    unfold IL
    simp [adA]
  rw [e]
  exact SubW.rfl'


def heldV [SentA] (n:Nat):Value:=if 0 < n then .iface 137 (.pointer (some SentA.a)) else .nilIface
theorem Czz {ρ:Nat → Option Nat} {Z:Nat → Option (List AV)} {b0:Bool} {φ:Bool → Option Bool} {m:Nat} (n:Nat):AV.ren ρ Z b0 φ (m + 1) (.val (heldV n))=.val (heldV n):=by unfold heldV;split<;>rfl
theorem C2z (σ:List (Nat × AV)) (H:List (Nat × List AV)):(mkS σ H).ev (.global 0)=.prow false [.val (.iface 137 (.pointer (some SentA.a)))] 0:=rfl
theorem Hjz:ofVal Value.nilIface=.val .nilIface:=rfl
theorem fzIf (H:Nat → Option (List AV)) (t:TypeId) (v:Value):AV.fz H 5 (.val (.iface t v))=.val (.iface t v):=rfl
theorem fzNi (H:Nat → Option (List AV)):AV.fz H 5 (.val .nilIface)=.val .nilIface:=rfl
theorem held_ok (ks:List Int) (n:Nat) (hn:ks.length=n) (hb:n ≤ 1000):PCall Tryd.prog 38 [.prow false [.rows false (IL ks) n] 0] (fun r=>r=.val (heldV n)):=by
  subst hn
  refine Ayz l38_eq rfl ?_
  unfold heldV
  by_cases h:0 < ks.length
  · rw [if_pos h]
    (repeat' (first
 | (first|refine Ajz ?_|refine Afz ?_)
 | ((first|refine Alz ?_|refine Aez ?_|refine Agz ?_|refine Ahz ?_);simp (disch:=omega) only [push_cast,seval,l38r0,l38r1,l38r2,l38r3,C2z,Hjz,fzIf,fzNi])
 | ((first|refine Abz ?_ ?_|refine Adz ?_ ?_|refine Acz ?_ ?_)<;>intro h<;>(try simp only [h])<;>(try simp only [bitvec_to_nat] at h)<;>(try simp only [h])<;>(first|(exfalso;omega)|(exfalso;simp_all;done)|(simp (disch:=omega) only [push_cast,seval,C2z,Hjz,fzIf,fzNi])|skip))
 | (refine Akz ⟨.inr rfl,_,rfl,?_⟩;(try simp (disch:=omega) only [push_cast,seval,C2z,Hjz,fzIf,fzNi]))))
  · rw [if_neg h]
    (repeat' (first
 | (first|refine Ajz ?_|refine Afz ?_)
 | ((first|refine Alz ?_|refine Aez ?_|refine Agz ?_|refine Ahz ?_);simp (disch:=omega) only [push_cast,seval,l38r0,l38r1,l38r2,l38r3,C2z,Hjz,fzIf,fzNi])
 | ((first|refine Abz ?_ ?_|refine Adz ?_ ?_|refine Acz ?_ ?_)<;>intro h<;>(try simp only [h])<;>(try simp only [bitvec_to_nat] at h)<;>(try simp only [h])<;>(first|(exfalso;omega)|(exfalso;simp_all;done)|(simp (disch:=omega) only [push_cast,seval,C2z,Hjz,fzIf,fzNi])|skip))
 | (refine Akz ⟨.inr rfl,_,rfl,?_⟩;(try simp (disch:=omega) only [push_cast,seval,C2z,Hjz,fzIf,fzNi]))))

end Go.Proofs.YtahdlohpncjdbaaDoor
