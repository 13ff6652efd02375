import Derived.Test.YtceopplkfomalaaCKw3
import Derived.Test.YtceopplkfomalaaCM1
import Derived.Test.YtceopplkfomalaaCW3
set_option linter.unusedSimpArgs false
set_option linter.unusedVariables false
set_option maxRecDepth 4000
set_option maxHeartbeats 4000000
namespace Go.Proofs.Ytceopplkfomalaa
open VwM Vw Go

def dgT (b:Int) (sh st:List Int) (d e k:Nat):List Int:=((nums 0 1 k).filter fun K=>decide (dig sh K d=dig sh K e)).map fun K=>cellK b sh st K
theorem dgT_zero (b:Int) (sh st:List Int) (d e:Nat):dgT b sh st d e 0=[]:=rfl
theorem dgT_yes {b:Int} {sh st:List Int} {d e k:Nat} (h:dig sh (k:Int) d=dig sh (k:Int) e):dgT b sh st d e (k + 1)=dgT b sh st d e k ++ [cellK b sh st k]:=by
  unfold dgT
  rw [nums_succ,List.filter_append,List.map_append]
  simp [h]
theorem dgT_no {b:Int} {sh st:List Int} {d e k:Nat} (h:¬ dig sh (k:Int) d=dig sh (k:Int) e):dgT b sh st d e (k + 1)=dgT b sh st d e k:=by
  unfold dgT
  rw [nums_succ,List.filter_append,List.map_append]
  simp [h]
theorem dgT_le (b:Int) (sh st:List Int) (d e k:Nat):(dgT b sh st d e k).length ≤ k:=by
  unfold dgT
  rw [List.length_map]
  have:=List.length_filter_le (fun K=>decide (dig sh K d=dig sh K e)) (nums 0 1 k)
  rwa [nums_length] at this
theorem dg_step {b:Int} {sh st:List Int} (hv:vV b sh st=true) {k:Nat} (hk:(k:Int) < pr sh):(∀ i,i < sh.length → (unr sh k).getD i 0=dig sh k i) ∧ oaB b sh st (unr sh k)=true ∧ oaV b sh st (unr sh k)=cellK b sh st k:=by
  have hg:=(vSh_good (vV_spec.1 hv).1).1
  have hu:=unr_isIx hg (Int.natCast_nonneg k) hk
  refine ⟨fun i hi=>unr_at hi,by unfold oaB;rw [hv,hu];rfl,?_⟩
  unfold oaV cellK
  rw [if_pos ⟨hv,hu⟩]
  congr 1
  exact dot_congr fun i hi=>unr_at hi
def dgP (r:AV):Prop:=∃ b sh st d e k1 k2,(sh.length=k1 ∧ st.length=k2 ∧ sh.length ≤ 100 ∧ st.length ≤ 100) ∧ r=.tup [.agg [.int .i64 b,.rows true (IL sh) k1,.rows true (IL st) k2],.int .i64 d,.int .i64 e]
def dgBB (r:AV) (H':List (List AV)):Prop:=∃ b sh st d e,(sh.length ≤ 100 ∧ st.length ≤ 100) ∧ r=.tup [.agg [.int .i64 b,.own 0 sh.length 1,.own 1 st.length 1],.int .i64 d,.int .i64 e] ∧ H'=[IL sh,IL st]
theorem dg_plain {P:Program} {f:Nat} {args:List AV} (h:BCall P f args [] dgBB):PCall P f args dgP:=by
  refine (BCall.plain h).mono ?_
  rintro r ⟨r0,H',⟨b,sh,st,d,e,⟨h1,h2⟩,rfl,rfl⟩,rfl⟩
  exact ⟨b,sh,st,d,e,_,_,⟨rfl,rfl,h1,h2⟩,by simp [AV.ren,nthH,List.map_map,Function.comp_def]⟩


theorem sNV_ok (xs:List Int) (hb:xs.length ≤ 10):BCall Try.prog 77 [.rows false (IL xs) xs.length] [] (fun r H'=>∃ b sh st,(sh.length ≤ 10 ∧ st.length ≤ 10) ∧ r=.agg [.int .i64 b,.own 0 sh.length 1,.own 1 st.length 1] ∧ H'=[IL sh,IL st]) :=
  (sNewView_ok xs xs.length rfl (by omega)).mono fun r H' ⟨e1,e2⟩=>⟨0,_,_,⟨by split;exact hb;exact Nat.zero_le _,by split;(rw [newSt_length];exact hb);exact Nat.zero_le _⟩,e1,e2⟩
theorem sNV2_ok (x y:Int):BCall Try.prog 77 [.rows false [.int .i64 x,.int .i64 y] 2] [] (fun r H'=>∃ b sh st,(sh.length ≤ 10 ∧ st.length ≤ 10) ∧ r=.agg [.int .i64 b,.own 0 sh.length 1,.own 1 st.length 1] ∧ H'=[IL sh,IL st]):=sNV_ok [x,y] (by simp)
theorem sNV3_ok (x y z:Int):BCall Try.prog 77 [.rows false [.int .i64 x,.int .i64 y,.int .i64 z] 3] [] (fun r H'=>∃ b sh st,(sh.length ≤ 10 ∧ st.length ≤ 10) ∧ r=.agg [.int .i64 b,.own 0 sh.length 1,.own 1 st.length 1] ∧ H'=[IL sh,IL st]):=sNV_ok [x,y,z] (by simp)




set_option maxHeartbeats 16000000 in
theorem drawDgb_ok (bs:List Int) (n:Nat) (hn:bs.length=n) (hb:n ≤ 1099511627776 ∧ ∀ x ∈ bs,0 ≤ x ∧ x ≤ 255):BCall Try.prog 26 [.rows false (UL bs) n] [] dgBB:=by
  refine bcall_of (pins:=[]) (pin:=0) l26_eq rfl rfl rfl ?_
  unfold dgBB
  (repeat' (first
 | (first|refine awp_seq ?_|refine awp_block ?_)
 | ((first|refine awp_reg ?_|refine awp_drawX (mid:=l26r7a) (post:=l26r7b) [176] mixed (by decide) ?_|refine awp_drawX (mid:=l26r9a) (post:=l26r9b) [176,32] mixed (by decide) ?_|refine awp_condB ?_|refine awp_skip ?_|refine awp_exit ?_);simp (disch:=omega) only [push_cast,seval,l26r0,l26r1,l26r2,l26r3,l26r4,l26r5,l26r6,l26r7a,l26r7b,l26r7,l26r8,l26r9a,l26r9b,l26r9])
 | ((first|refine condB_split (fun h=>?_) (fun h=>?_)|refine gIf_split (fun h=>?_) (fun h=>?_)|refine qIf_split (fun h=>?_) (fun h=>?_))<;>(try simp only [h])<;>(try simp only [bitvec_to_nat] at h)<;>(try simp only [h])<;>(first|(exfalso;omega)|(focus (exfalso;simp_all;done))|(simp (disch:=omega) only [push_cast,seval])|skip))
 | ((first|((with_reducible refine callD_of (f:=46) true ?_);simp (disch:=omega) only [push_cast,seval];(refine call0D (newReader_ok _ _ ?_ ?_) ?_;(iterate 2 (exact sd));rintro _ _ ⟨bs0,hbs0,rfl,rfl⟩))|((with_reducible refine callD_ids (f:=75) [176] true ?_);simp (disch:=omega) only [push_cast,seval];(refine call1D (id:=176) (pick_ok _ _ _ ?_ ?_) (by first|((simp (disch:=omega) only [push_cast,seval]);done)|((simp (disch:=omega) only [push_cast,seval]);rfl)) ?_;(iterate 2 (exact sd));rintro _ _ ⟨x,hx0,hx1,rfl,rfl⟩))|((with_reducible refine qcallI_of (f:=75) [176] true ?_);simp (disch:=omega) only [push_cast,seval];(refine qcall1D (id:=176) (pick_ok _ _ _ ?_ ?_) (by first|((simp (disch:=omega) only [push_cast,seval]);done)|((simp (disch:=omega) only [push_cast,seval]);rfl)) (by decide) ⟨_,_,0,by omega,Or.inr (Or.inr rfl),rfl,rfl⟩ ?_;(iterate 2 (exact sd));rintro _ _ ⟨x,hx0,hx1,rfl,rfl⟩))|((with_reducible refine callD_ids (f:=74) (args:=[Operand.tmp 15,Operand.tmp 16]) [176,256] true ?_);simp (disch:=omega) only [push_cast,seval];(refine call2D (id:=176) (id':=256) (by decide) (one_ok _ _ _ _ ?_ ?_ ?_ ?_ ?_) (by first|((simp (disch:=omega) only [push_cast,seval]);done)|((simp (disch:=omega) only [push_cast,seval]);rfl)) (by first|((simp (disch:=omega) only [push_cast,seval]);done)|((simp (disch:=omega) only [push_cast,seval]);rfl)) ?_;(iterate 5 (exact sd));rintro _ _ ⟨x,hx,hx0,rfl,rfl⟩))|((with_reducible refine callD_ids (f:=74) [176] true ?_);simp (disch:=omega) only [push_cast,seval];(refine call1D (id:=176) (oneR_ok _ _ _ _ ?_ ?_ ?_ ?_ ?_) (by first|((simp (disch:=omega) only [push_cast,seval]);done)|((simp (disch:=omega) only [push_cast,seval]);rfl)) ?_;(iterate 5 (exact sd));rintro _ _ ⟨x,hx,hx0,rfl,rfl⟩))|((with_reducible refine qcallI_of (f:=74) [176] true ?_);simp (disch:=omega) only [push_cast,seval];(refine qcall1D (id:=176) (oneR_ok _ _ _ _ ?_ ?_ ?_ ?_ ?_) (by first|((simp (disch:=omega) only [push_cast,seval]);done)|((simp (disch:=omega) only [push_cast,seval]);rfl)) (by decide) (by simp only [unI_cons,unI_nil];exact ⟨_,_,_,List.mem_cons_self,by omega,rfl,rfl⟩) ?_;(iterate 5 (exact sd));rintro _ _ ⟨x,hx,hx0,rfl,rfl⟩))|((with_reducible refine callD_ids (f:=78) [176] true ?_);simp (disch:=omega) only [push_cast,seval];(refine call1D (id:=176) (dimOfD_ok _ _ ?_ ?_) (by first|((simp (disch:=omega) only [push_cast,seval]);done)|((simp (disch:=omega) only [push_cast,seval]);rfl)) ?_;(iterate 2 (exact sd));rintro _ _ ⟨b,sh,st,d,q,⟨hl1,hl9,hl2⟩,hq,rfl,rfl⟩)))<;>(try simp (disch:=omega) only [push_cast,seval]))
 | ((first|refine callD_of false ?_|refine qcallD_of false ?_);simp (disch:=omega) only [push_cast,seval])
 | ((first|(refine call0D (sNV2_ok _ _) ?_;rintro _ _ ⟨b,sh,st,⟨hn1,hn2⟩,rfl,rfl⟩)|(refine call0D (sNV3_ok _ _ _) ?_;rintro _ _ ⟨b,sh,st,⟨hn1,hn2⟩,rfl,rfl⟩))<;>(try simp (disch:=omega) only [push_cast,seval]))))
  all_goals first
    | ((refine awp_ret ⟨.inr rfl,[336,337],[],_,by decide,rfl,?_⟩;(try simp (disch:=omega) only [push_cast,seval,↓allMem_nil,↓allMem_cons,↓List.map_cons,↓List.map_nil]));exact ⟨_,_,_,_,_,⟨by omega,by omega⟩,rfl,rfl⟩)
    | ((refine awp_ret ⟨.inr rfl,[448,449],[],_,by decide,rfl,?_⟩;(try simp (disch:=omega) only [push_cast,seval,↓allMem_nil,↓allMem_cons,↓List.map_cons,↓List.map_nil]));exact ⟨_,_,_,_,_,⟨by omega,by omega⟩,rfl,rfl⟩)
    | ((refine awp_ret ⟨.inr rfl,[672,673],[],_,by decide,rfl,?_⟩;(try simp (disch:=omega) only [push_cast,seval,↓allMem_nil,↓allMem_cons,↓List.map_cons,↓List.map_nil]));exact ⟨_,_,_,_,_,⟨by have:=hl1.2;omega,by omega⟩,rfl,rfl⟩)
theorem drawDg_ok (bs:List Int) (n:Nat) (hn:bs.length=n) (hb:n ≤ 1099511627776 ∧ ∀ x ∈ bs,0 ≤ x ∧ x ≤ 255):PCall Try.prog 26 [.rows false (UL bs) n] dgP:=dg_plain (drawDgb_ok bs n hn hb)


set_option maxHeartbeats 32000000 in
theorem lFnDg_ok (bs:List Int) (hl:bs.length ≤ 9223372036854775807) (hb:∀ x ∈ bs,0 ≤ x ∧ x ≤ 255):PCall Try.prog 6 [.rows false (UL bs) bs.length] (fun r=>r=.bool true):=by
  refine pcall_of l6_eq rfl ?_
  by_cases h:bs.length ≤ 1048576
  · have q:bs.length ≤ 1099511627776 ∧ ∀ x ∈ bs,0 ≤ x ∧ x ≤ 255:=⟨by omega,hb⟩
    (repeat' (first
 | (refine awp_joinL (c1:=.reg l6r3) (fun x:Int × List Int × List Int × Int × Int=>mkS [(3,.ref 48 3 0),(4,.int .i64 x.2.2.2.1),(5,.int .i64 x.2.2.2.2)] [(48,[.int .i64 x.1,.rows true (IL x.2.1) x.2.1.length,.rows true (IL x.2.2.1) x.2.2.1.length])]) (fun x=>x.2.1.length ≤ 100 ∧ x.2.2.1.length ≤ 100) ?_ ?_)
 | (first|refine awp_seq ?_|refine awp_block ?_)
 | ((first|refine awp_reg ?_|refine awp_draw (mid:=l6r12a) (post:=l6r12b) mixed (by decide) ?_|refine awp_condB ?_|refine awp_skip ?_|refine awp_exit ?_);simp (disch:=omega) only [push_cast,seval,l6r0,l6r1,l6r2,l6r3,l6r4,l6r5,l6r6,l6r7,l6r8,l6r9,l6r10,l6r11,l6r12a,l6r12b,l6r12,l6r13,l6r14,l6r15,l6r16,l6r17])
 | ((first|refine condB_split (fun h=>?_) (fun h=>?_)|refine gIf_split (fun h=>?_) (fun h=>?_)|refine qIf_split (fun h=>?_) (fun h=>?_))<;>(try simp only [h])<;>(try simp only [bitvec_to_nat] at h)<;>(try simp only [h])<;>(first|(exfalso;omega)|(focus (exfalso;simp_all;done))|(simp (disch:=omega) only [push_cast,seval])|skip))
 | ((first|refine callD_of false ?_|refine qcallD_of false ?_);simp (disch:=omega) only [push_cast,seval])
 | ((first|(refine call0D (BCall.ofP (drawDg_ok _ _ ?_ ?_)) ?_;(iterate 2 (exact sd));rintro _ _ ⟨⟨b,sh,st,d,e,_,_,⟨rfl,rfl,hl1,hl2⟩,rfl⟩,rfl⟩)|((first|refine call0D (iDiag_ok _ _ _ _ _ _ _ ?_ ?_ ?_) ?_|refine qcall0D (iDiag_ok _ _ _ _ _ _ _ ?_ ?_ ?_) ⟨_,_,rfl,rfl⟩ ?_);(iterate 3 (exact sd));rintro _ _ ⟨rfl,rfl⟩)|((first|refine call0D (sDiag_ok _ _ _ _ _ _ _ ?_ ?_ ?_) ?_|refine qcall0D (sDiag_ok _ _ _ _ _ _ _ ?_ ?_ ?_) ⟨_,_,rfl,rfl⟩ ?_);(iterate 3 (exact sd));rintro _ _ ⟨rfl,rfl⟩)|((first|refine call0D (BCall.ofP (equalViewL_ok _ _ _ _ _ _ _ _ _ _ ?_ ?_ ?_ ?_ ?_)) ?_|refine qcall0D (BCall.ofP (equalViewL_ok _ _ _ _ _ _ _ _ _ _ ?_ ?_ ?_ ?_ ?_)) ⟨_,_,rfl,rfl⟩ ?_);(iterate 5 (exact sd));rintro _ _ ⟨rfl,rfl⟩)|((first|refine call0D (BCall.ofP (iCountOf_ok _ _ ?_ ?_)) ?_|refine qcall0D (BCall.ofP (iCountOf_ok _ _ ?_ ?_)) ⟨_,_,rfl,rfl⟩ ?_);(iterate 2 (exact sd));rintro _ _ ⟨rfl,rfl⟩)|((first|refine call0D (iIndexAt_ok _ _ _ ?_ ?_) ?_|refine qcall0D (iIndexAt_ok _ _ _ ?_ ?_) ⟨_,_,rfl,rfl⟩ ?_);(iterate 2 (exact sd));rintro _ _ ⟨rfl,rfl⟩)|((first|refine call0D (BCall.ofP (iOffsetAt_ok _ _ _ _ _ _ _ ?_ ?_ ?_ ?_)) ?_|refine qcall0D (BCall.ofP (iOffsetAt_ok _ _ _ _ _ _ _ ?_ ?_ ?_ ?_)) ⟨_,_,rfl,rfl⟩ ?_);(iterate 4 (exact sd));rintro _ _ ⟨rfl,rfl⟩)|((first|refine call0D (iOffsetsOf_ok _ _ _ _ _ ?_ ?_ ?_) ?_|refine qcall0D (iOffsetsOf_ok _ _ _ _ _ ?_ ?_ ?_) ⟨_,_,rfl,rfl⟩ ?_);(iterate 3 (exact sd));rintro _ _ ⟨rfl,rfl⟩)|((first|refine call0D (BCall.ofP (lwithin_ok _ _ _ _ ?_ ?_ ?_)) ?_|refine qcall0D (BCall.ofP (lwithin_ok _ _ _ _ ?_ ?_ ?_)) ⟨_,_,rfl,rfl⟩ ?_);(iterate 3 (exact sd));rintro _ _ ⟨rfl,rfl⟩)|((first|refine call0D (BCall.ofP (equalInts_ok _ _ _ _ ?_ ?_ ?_)) ?_|refine qcall0D (BCall.ofP (equalInts_ok _ _ _ _ ?_ ?_ ?_)) ⟨_,_,rfl,rfl⟩ ?_);(iterate 3 (exact sd));rintro _ _ ⟨rfl,rfl⟩))<;>(try simp (disch:=omega) only [push_cast,seval]))
 | (refine awp_ret ⟨.inr rfl,_,rfl,?_⟩;(try simp (disch:=omega) only [push_cast,seval]))))
    · (refine exSub5 (Sub.of_eqs rfl rfl ?_ ?_ ?_) ?_;(focus (simp [Vw.mkS,Vw.lk,Vw.hk,AV.inn,innL,innL_ints,innL_append,innL_rep,-List.map_set,-List.getD_eq_getElem?_getD,innL_ints];done));(focus (simp [AV.inn,innL,Vw.hk,innL_ints];done));(focus (simp [AV.inn,innL,innL_ints,innL_append,innL_rep,Vw.hk,innL_ints];done));(try simp only);(first|omega|(refine ⟨?_,?_⟩<;>first|assumption|omega)|(refine ⟨?_,?_,?_⟩<;>first|assumption|omega)|(refine ⟨?_,?_,?_,?_⟩<;>first|assumption|omega)))
    · refine ⟨?_⟩
      rintro ⟨b,sh,st,d,e⟩ ⟨hl1,hl2⟩
      try simp only at hl1 hl2 ⊢
      have hq:sh.length ≤ 1099511627776 ∧ st.length ≤ 1099511627776:=by omega
      cases hV:dgOk b sh st d e with
 | false =>
        have hAl:(MVL false (wo sh e.toNat)).length=0:=rfl
        have hCl:(MVL false (dgSt sh st d.toNat e.toNat)).length=0:=rfl
        generalize hA:MVL false (wo sh e.toNat)=A at *
        generalize hC:MVL false (dgSt sh st d.toNat e.toNat)=C at *
        generalize hB:MVB false (dgB b sh e.toNat)=B at *
        have q1:(A.length ≤ 1099511627776 ∧ C.length ≤ 1099511627776) ∧ A.length ≤ 1099511627776 ∧ C.length ≤ 1099511627776:=by omega
        (repeat' (first
 | (first|refine awp_seq ?_|refine awp_block ?_)
 | ((first|refine awp_reg ?_|refine awp_draw (mid:=l6r12a) (post:=l6r12b) mixed (by decide) ?_|refine awp_condB ?_|refine awp_skip ?_|refine awp_exit ?_);simp (disch:=omega) only [push_cast,seval,l6r0,l6r1,l6r2,l6r3,l6r4,l6r5,l6r6,l6r7,l6r8,l6r9,l6r10,l6r11,l6r12a,l6r12b,l6r12,l6r13,l6r14,l6r15,l6r16,l6r17,hV,hA,hB,hC,decide_true,Bool.and_self])
 | ((first|refine condB_split (fun h=>?_) (fun h=>?_)|refine gIf_split (fun h=>?_) (fun h=>?_)|refine qIf_split (fun h=>?_) (fun h=>?_))<;>(try simp only [h])<;>(try simp only [bitvec_to_nat] at h)<;>(try simp only [h])<;>(first|(exfalso;omega)|(focus (exfalso;simp_all;done))|(simp (disch:=omega) only [push_cast,seval,hV,hA,hB,hC,decide_true,Bool.and_self])|skip))
 | ((first|refine callD_of false ?_|refine qcallD_of false ?_);simp (disch:=omega) only [push_cast,seval,hV,hA,hB,hC,decide_true,Bool.and_self])
 | ((first|(refine call0D (BCall.ofP (drawDg_ok _ _ ?_ ?_)) ?_;(iterate 2 (exact sd));rintro _ _ ⟨⟨b,sh,st,d,e,_,_,⟨rfl,rfl,hl1,hl2⟩,rfl⟩,rfl⟩)|((first|refine call0D (iDiag_ok _ _ _ _ _ _ _ ?_ ?_ ?_) ?_|refine qcall0D (iDiag_ok _ _ _ _ _ _ _ ?_ ?_ ?_) ⟨_,_,rfl,rfl⟩ ?_);(iterate 3 (exact sd));rintro _ _ ⟨rfl,rfl⟩)|((first|refine call0D (sDiag_ok _ _ _ _ _ _ _ ?_ ?_ ?_) ?_|refine qcall0D (sDiag_ok _ _ _ _ _ _ _ ?_ ?_ ?_) ⟨_,_,rfl,rfl⟩ ?_);(iterate 3 (exact sd));rintro _ _ ⟨rfl,rfl⟩)|((first|refine call0D (BCall.ofP (equalViewL_ok _ _ _ _ _ _ _ _ _ _ ?_ ?_ ?_ ?_ ?_)) ?_|refine qcall0D (BCall.ofP (equalViewL_ok _ _ _ _ _ _ _ _ _ _ ?_ ?_ ?_ ?_ ?_)) ⟨_,_,rfl,rfl⟩ ?_);(iterate 5 (exact sd));rintro _ _ ⟨rfl,rfl⟩)|((first|refine call0D (BCall.ofP (iCountOf_ok _ _ ?_ ?_)) ?_|refine qcall0D (BCall.ofP (iCountOf_ok _ _ ?_ ?_)) ⟨_,_,rfl,rfl⟩ ?_);(iterate 2 (exact sd));rintro _ _ ⟨rfl,rfl⟩)|((first|refine call0D (iIndexAt_ok _ _ _ ?_ ?_) ?_|refine qcall0D (iIndexAt_ok _ _ _ ?_ ?_) ⟨_,_,rfl,rfl⟩ ?_);(iterate 2 (exact sd));rintro _ _ ⟨rfl,rfl⟩)|((first|refine call0D (BCall.ofP (iOffsetAt_ok _ _ _ _ _ _ _ ?_ ?_ ?_ ?_)) ?_|refine qcall0D (BCall.ofP (iOffsetAt_ok _ _ _ _ _ _ _ ?_ ?_ ?_ ?_)) ⟨_,_,rfl,rfl⟩ ?_);(iterate 4 (exact sd));rintro _ _ ⟨rfl,rfl⟩)|((first|refine call0D (iOffsetsOf_ok _ _ _ _ _ ?_ ?_ ?_) ?_|refine qcall0D (iOffsetsOf_ok _ _ _ _ _ ?_ ?_ ?_) ⟨_,_,rfl,rfl⟩ ?_);(iterate 3 (exact sd));rintro _ _ ⟨rfl,rfl⟩)|((first|refine call0D (BCall.ofP (lwithin_ok _ _ _ _ ?_ ?_ ?_)) ?_|refine qcall0D (BCall.ofP (lwithin_ok _ _ _ _ ?_ ?_ ?_)) ⟨_,_,rfl,rfl⟩ ?_);(iterate 3 (exact sd));rintro _ _ ⟨rfl,rfl⟩)|((first|refine call0D (BCall.ofP (equalInts_ok _ _ _ _ ?_ ?_ ?_)) ?_|refine qcall0D (BCall.ofP (equalInts_ok _ _ _ _ ?_ ?_ ?_)) ⟨_,_,rfl,rfl⟩ ?_);(iterate 3 (exact sd));rintro _ _ ⟨rfl,rfl⟩))<;>(try simp (disch:=omega) only [push_cast,seval,hV,hA,hB,hC,decide_true,Bool.and_self]))
 | (refine awp_ret ⟨.inr rfl,_,rfl,?_⟩;(try simp (disch:=omega) only [push_cast,seval,hV,hA,hB,hC,decide_true,Bool.and_self]))))
        all_goals (try simp)
 | true =>
        have hV':=hV
        simp only [dgOk,Bool.and_eq_true,decide_eq_true_eq,Bool.not_eq_true',decide_eq_false_iff_not] at hV'
        obtain ⟨⟨⟨⟨hv,hd1,hd2⟩,he1,he2⟩,hne⟩,hx⟩:=hV'
        obtain ⟨d,rfl⟩:∃ j:Nat,d=j:=⟨d.toNat,by omega⟩
        obtain ⟨e,rfl⟩:∃ j:Nat,e=j:=⟨e.toNat,by omega⟩
        rw [Int.toNat_natCast,Int.toNat_natCast] at hx
        have hd:d < sh.length:=by omega
        have he:e < sh.length:=by omega
        have hne':d ≠ e:=by omega
        have hlen:=(okV_valid hv).2
        have hvS:=(vV_spec.1 hv).1
        have hg:=(vSh_good hvS).1
        have hpS:=(vSh_good hvS).2
        have hvd:=vV_diag hv hd he hne' hx
        have hstep:=fun k=>@dg_step b sh st hv k
        have hperm:=dg_perm (b:=b) hg hlen hd he hne' hx
        have heq:=fun h:d < e=>dg_eq (b:=b) hg hlen he h hx
        have hTl:=dgT_le b sh st d e
        have hTy:=fun k=>@dgT_yes b sh st d e k
        have hTn:=fun k=>@dgT_no b sh st d e k
        have hT0:=dgT_zero b sh st d e
        have e4:(if vSh sh=true then pr sh else -1)=pr sh:=if_pos hvS
        have huu:∀ k:Nat,(if vSh sh=true ∧ 0 ≤ (k:Int) then unr sh k else [])=unr sh k:=fun k=>if_pos ⟨hvS,by omega⟩
        have hul:∀ k:Int,(unr sh k).length=sh.length:=fun k=>unr_length sh k
        obtain ⟨N,hN⟩:∃ N:Nat,pr sh=(N:Int):=⟨(pr sh).toNat,by omega⟩
        have hTN:dgL b sh st d e=dgT b sh st d e N:=by unfold dgL dgT;rw [hN,Int.toNat_natCast]
        rw [hTN] at hperm heq
        rw [hN] at hpS e4 hstep
        have hWl:(wo sh e).length ≤ 100:=by simp [wo];omega
        have hDl:(dgSt sh st d e).length ≤ 100:=by
          have:=(okV_valid hvd).2
          omega
        clear hvS hg hTN hx
        have e5:(if vV (dgB b sh e) (wo sh e) (dgSt sh st d e)=true then offs (dgB b sh e) (wo sh e) (dgSt sh st d e) else [])=offs (dgB b sh e) (wo sh e) (dgSt sh st d e):=if_pos hvd
        generalize hgB:dgB b sh e=B at *
        generalize hgS:wo sh e=S at *
        generalize hgT:dgSt sh st d e=T at *
        generalize hL1:offs B S T=L1 at *
        have q1:(S.length ≤ 1099511627776 ∧ T.length ≤ 1099511627776) ∧ S.length ≤ 1099511627776 ∧ T.length ≤ 1099511627776:=by omega
        have q2:S.length ≤ 1099511627776 ∧ T.length ≤ 1099511627776:=by omega
        (repeat' (first
 | (first|refine awp_seq ?_|refine awp_block ?_)
 | ((first|refine awp_reg ?_|refine awp_draw (mid:=l6r12a) (post:=l6r12b) mixed (by decide) ?_|refine awp_condB ?_|refine awp_skip ?_|refine awp_exit ?_);simp (disch:=omega) only [push_cast,seval,l6r0,l6r1,l6r2,l6r3,l6r4,l6r5,l6r6,l6r7,l6r8,l6r9,l6r10,l6r11,l6r12a,l6r12b,l6r12,l6r13,l6r14,l6r15,l6r16,l6r17,hV,Int.toNat_natCast,MVL_true,MVB_true,hgB,hgS,hgT,decide_true,Bool.and_self])
 | ((first|refine condB_split (fun h=>?_) (fun h=>?_)|refine gIf_split (fun h=>?_) (fun h=>?_)|refine qIf_split (fun h=>?_) (fun h=>?_))<;>(try simp only [h])<;>(try simp only [bitvec_to_nat] at h)<;>(try simp only [h])<;>(first|(exfalso;omega)|(focus (exfalso;simp_all;done))|(simp (disch:=omega) only [push_cast,seval,hV,Int.toNat_natCast,MVL_true,MVB_true,hgB,hgS,hgT,decide_true,Bool.and_self])|skip))
 | ((first|refine callD_of false ?_|refine qcallD_of false ?_);simp (disch:=omega) only [push_cast,seval,hV,Int.toNat_natCast,MVL_true,MVB_true,hgB,hgS,hgT,decide_true,Bool.and_self])
 | ((first|(refine call0D (BCall.ofP (drawDg_ok _ _ ?_ ?_)) ?_;(iterate 2 (exact sd));rintro _ _ ⟨⟨b,sh,st,d,e,_,_,⟨rfl,rfl,hl1,hl2⟩,rfl⟩,rfl⟩)|((first|refine call0D (iDiag_ok _ _ _ _ _ _ _ ?_ ?_ ?_) ?_|refine qcall0D (iDiag_ok _ _ _ _ _ _ _ ?_ ?_ ?_) ⟨_,_,rfl,rfl⟩ ?_);(iterate 3 (exact sd));rintro _ _ ⟨rfl,rfl⟩)|((first|refine call0D (sDiag_ok _ _ _ _ _ _ _ ?_ ?_ ?_) ?_|refine qcall0D (sDiag_ok _ _ _ _ _ _ _ ?_ ?_ ?_) ⟨_,_,rfl,rfl⟩ ?_);(iterate 3 (exact sd));rintro _ _ ⟨rfl,rfl⟩)|((first|refine call0D (BCall.ofP (equalViewL_ok _ _ _ _ _ _ _ _ _ _ ?_ ?_ ?_ ?_ ?_)) ?_|refine qcall0D (BCall.ofP (equalViewL_ok _ _ _ _ _ _ _ _ _ _ ?_ ?_ ?_ ?_ ?_)) ⟨_,_,rfl,rfl⟩ ?_);(iterate 5 (exact sd));rintro _ _ ⟨rfl,rfl⟩)|((first|refine call0D (BCall.ofP (iCountOf_ok _ _ ?_ ?_)) ?_|refine qcall0D (BCall.ofP (iCountOf_ok _ _ ?_ ?_)) ⟨_,_,rfl,rfl⟩ ?_);(iterate 2 (exact sd));rintro _ _ ⟨rfl,rfl⟩)|((first|refine call0D (iIndexAt_ok _ _ _ ?_ ?_) ?_|refine qcall0D (iIndexAt_ok _ _ _ ?_ ?_) ⟨_,_,rfl,rfl⟩ ?_);(iterate 2 (exact sd));rintro _ _ ⟨rfl,rfl⟩)|((first|refine call0D (BCall.ofP (iOffsetAt_ok _ _ _ _ _ _ _ ?_ ?_ ?_ ?_)) ?_|refine qcall0D (BCall.ofP (iOffsetAt_ok _ _ _ _ _ _ _ ?_ ?_ ?_ ?_)) ⟨_,_,rfl,rfl⟩ ?_);(iterate 4 (exact sd));rintro _ _ ⟨rfl,rfl⟩)|((first|refine call0D (iOffsetsOf_ok _ _ _ _ _ ?_ ?_ ?_) ?_|refine qcall0D (iOffsetsOf_ok _ _ _ _ _ ?_ ?_ ?_) ⟨_,_,rfl,rfl⟩ ?_);(iterate 3 (exact sd));rintro _ _ ⟨rfl,rfl⟩)|((first|refine call0D (BCall.ofP (lwithin_ok _ _ _ _ ?_ ?_ ?_)) ?_|refine qcall0D (BCall.ofP (lwithin_ok _ _ _ _ ?_ ?_ ?_)) ⟨_,_,rfl,rfl⟩ ?_);(iterate 3 (exact sd));rintro _ _ ⟨rfl,rfl⟩)|((first|refine call0D (BCall.ofP (equalInts_ok _ _ _ _ ?_ ?_ ?_)) ?_|refine qcall0D (BCall.ofP (equalInts_ok _ _ _ _ ?_ ?_ ?_)) ⟨_,_,rfl,rfl⟩ ?_);(iterate 3 (exact sd));rintro _ _ ⟨rfl,rfl⟩))<;>(try simp (disch:=omega) only [push_cast,seval,hV,Int.toNat_natCast,MVL_true,MVB_true,hgB,hgS,hgT,decide_true,Bool.and_self]))
 | (refine awp_ret ⟨.inr rfl,_,rfl,?_⟩;(try simp (disch:=omega) only [push_cast,seval,hV,Int.toNat_natCast,MVL_true,MVB_true,hgB,hgS,hgT,decide_true,Bool.and_self]))))
        refine awp_loop (fun k:Nat=>mkS [(3,.ref 48 3 0),(4,.int .i64 d),(5,.int .i64 e),(6,.ref 96 3 0),(10,.own 960 (dgT b sh st d e k).length 1),(11,.int .i64 k)] [(48,[.int .i64 b,.rows true (IL sh) sh.length,.rows true (IL st) st.length]),(96,[.int .i64 B,.own 464 S.length 1,.own 465 T.length 1]),(464,IL S),(465,IL T),(960,IL (dgT b sh st d e k))]) (fun k=>k ≤ N) (fun k=>N - k) 0 (Nat.zero_le _) ?_ ?_
        · (refine Sub.of_lists ?_ ?_ ?_ ?_ ?_<;>simp [Vw.mkS,Vw.lk,Vw.hk,AV.inn,innL,innL_ints,innL_append,innL_rep,-List.map_set,-List.getD_eq_getElem?_getD,hT0])
        · intro k hk
          have hle:=hTl k
          by_cases hlt:k < N
          · have hkN:(k:Int) < (N:Int):=by omega
            obtain ⟨c1,c2,c3⟩:=hstep k hkN
            have c1d:=c1 d hd
            have c1e:=c1 e he
            have hu2:=huu k
            have hu3:=hul k
            have hTyk:=hTy k
            have hTnk:=hTn k
            clear hstep huu hul c1 hperm heq hTl hTy hTn hT0
            generalize hU:unr sh (k:Int)=U at *
            generalize hZ:cellK b sh st (k:Int)=Z at *
            generalize hxx:dig sh (k:Int) d=xx at *
            generalize hyy:dig sh (k:Int) e=yy at *
            have hdU:d < U.length:=by omega
            have heU:e < U.length:=by omega
            have q6:(sh.length ≤ 1099511627776 ∧ st.length ≤ 1099511627776) ∧ U.length ≤ 1099511627776:=by omega
            by_cases hxy:xx=yy
            · have e1:=hTyk hxy
              clear hTyk hTnk
              (repeat' (first
 | (first|refine awp_seq ?_|refine awp_block ?_)
 | ((first|refine awp_reg ?_|refine awp_draw (mid:=l6r12a) (post:=l6r12b) mixed (by decide) ?_|refine awp_condB ?_|refine awp_skip ?_|refine awp_exit ?_);simp (disch:=omega) only [push_cast,seval,l6r0,l6r1,l6r2,l6r3,l6r4,l6r5,l6r6,l6r7,l6r8,l6r9,l6r10,l6r11,l6r12a,l6r12b,l6r12,l6r13,l6r14,l6r15,l6r16,l6r17,e4,hN,hU,hu2,hkN,c1d,c1e,c2,c3,hxy,decide_true,decide_false])
 | ((first|refine condB_split (fun h=>?_) (fun h=>?_)|refine gIf_split (fun h=>?_) (fun h=>?_)|refine qIf_split (fun h=>?_) (fun h=>?_))<;>(try simp only [h])<;>(try simp only [bitvec_to_nat] at h)<;>(try simp only [h])<;>(first|(exfalso;omega)|(focus (exfalso;simp_all;done))|(simp (disch:=omega) only [push_cast,seval,e4,hN,hU,hu2,hkN,c1d,c1e,c2,c3,hxy,decide_true,decide_false])|skip))
 | ((first|refine callD_of false ?_|refine qcallD_of false ?_);simp (disch:=omega) only [push_cast,seval,e4,hN,hU,hu2,hkN,c1d,c1e,c2,c3,hxy,decide_true,decide_false])
 | ((first|(refine call0D (BCall.ofP (drawDg_ok _ _ ?_ ?_)) ?_;(iterate 2 (exact sd));rintro _ _ ⟨⟨b,sh,st,d,e,_,_,⟨rfl,rfl,hl1,hl2⟩,rfl⟩,rfl⟩)|((first|refine call0D (iDiag_ok _ _ _ _ _ _ _ ?_ ?_ ?_) ?_|refine qcall0D (iDiag_ok _ _ _ _ _ _ _ ?_ ?_ ?_) ⟨_,_,rfl,rfl⟩ ?_);(iterate 3 (exact sd));rintro _ _ ⟨rfl,rfl⟩)|((first|refine call0D (sDiag_ok _ _ _ _ _ _ _ ?_ ?_ ?_) ?_|refine qcall0D (sDiag_ok _ _ _ _ _ _ _ ?_ ?_ ?_) ⟨_,_,rfl,rfl⟩ ?_);(iterate 3 (exact sd));rintro _ _ ⟨rfl,rfl⟩)|((first|refine call0D (BCall.ofP (equalViewL_ok _ _ _ _ _ _ _ _ _ _ ?_ ?_ ?_ ?_ ?_)) ?_|refine qcall0D (BCall.ofP (equalViewL_ok _ _ _ _ _ _ _ _ _ _ ?_ ?_ ?_ ?_ ?_)) ⟨_,_,rfl,rfl⟩ ?_);(iterate 5 (exact sd));rintro _ _ ⟨rfl,rfl⟩)|((first|refine call0D (BCall.ofP (iCountOf_ok _ _ ?_ ?_)) ?_|refine qcall0D (BCall.ofP (iCountOf_ok _ _ ?_ ?_)) ⟨_,_,rfl,rfl⟩ ?_);(iterate 2 (exact sd));rintro _ _ ⟨rfl,rfl⟩)|((first|refine call0D (iIndexAt_ok _ _ _ ?_ ?_) ?_|refine qcall0D (iIndexAt_ok _ _ _ ?_ ?_) ⟨_,_,rfl,rfl⟩ ?_);(iterate 2 (exact sd));rintro _ _ ⟨rfl,rfl⟩)|((first|refine call0D (BCall.ofP (iOffsetAt_ok _ _ _ _ _ _ _ ?_ ?_ ?_ ?_)) ?_|refine qcall0D (BCall.ofP (iOffsetAt_ok _ _ _ _ _ _ _ ?_ ?_ ?_ ?_)) ⟨_,_,rfl,rfl⟩ ?_);(iterate 4 (exact sd));rintro _ _ ⟨rfl,rfl⟩)|((first|refine call0D (iOffsetsOf_ok _ _ _ _ _ ?_ ?_ ?_) ?_|refine qcall0D (iOffsetsOf_ok _ _ _ _ _ ?_ ?_ ?_) ⟨_,_,rfl,rfl⟩ ?_);(iterate 3 (exact sd));rintro _ _ ⟨rfl,rfl⟩)|((first|refine call0D (BCall.ofP (lwithin_ok _ _ _ _ ?_ ?_ ?_)) ?_|refine qcall0D (BCall.ofP (lwithin_ok _ _ _ _ ?_ ?_ ?_)) ⟨_,_,rfl,rfl⟩ ?_);(iterate 3 (exact sd));rintro _ _ ⟨rfl,rfl⟩)|((first|refine call0D (BCall.ofP (equalInts_ok _ _ _ _ ?_ ?_ ?_)) ?_|refine qcall0D (BCall.ofP (equalInts_ok _ _ _ _ ?_ ?_ ?_)) ⟨_,_,rfl,rfl⟩ ?_);(iterate 3 (exact sd));rintro _ _ ⟨rfl,rfl⟩))<;>(try simp (disch:=omega) only [push_cast,seval,e4,hN,hU,hu2,hkN,c1d,c1e,c2,c3,hxy,decide_true,decide_false]))
 | (refine awp_ret ⟨.inr rfl,_,rfl,?_⟩; (try simp (disch := omega) only [push_cast,seval,e4,hN,hU,hu2,hkN,c1d,c1e,c2,c3,hxy,decide_true,decide_false]))))
              refine ⟨k + 1,by omega,by omega,?_⟩
              (refine Sub.of_lists ?_ ?_ ?_ ?_ ?_<;>simp [Vw.mkS,Vw.lk,Vw.hk,AV.inn,innL,innL_ints,innL_append,innL_rep,-List.map_set,-List.getD_eq_getElem?_getD,e1])
            · have e1:=hTnk hxy
              clear hTyk hTnk
              (repeat' (first
 | (first|refine awp_seq ?_|refine awp_block ?_)
 | ((first|refine awp_reg ?_|refine awp_draw (mid:=l6r12a) (post:=l6r12b) mixed (by decide) ?_|refine awp_condB ?_|refine awp_skip ?_|refine awp_exit ?_);simp (disch:=omega) only [push_cast,seval,l6r0,l6r1,l6r2,l6r3,l6r4,l6r5,l6r6,l6r7,l6r8,l6r9,l6r10,l6r11,l6r12a,l6r12b,l6r12,l6r13,l6r14,l6r15,l6r16,l6r17,e4,hN,hU,hu2,hkN,c1d,c1e,c2,c3,hxy,decide_true,decide_false])
 | ((first|refine condB_split (fun h=>?_) (fun h=>?_)|refine gIf_split (fun h=>?_) (fun h=>?_)|refine qIf_split (fun h=>?_) (fun h=>?_))<;>(try simp only [h])<;>(try simp only [bitvec_to_nat] at h)<;>(try simp only [h])<;>(first|(exfalso;omega)|(focus (exfalso;simp_all;done))|(simp (disch:=omega) only [push_cast,seval,e4,hN,hU,hu2,hkN,c1d,c1e,c2,c3,hxy,decide_true,decide_false])|skip))
 | ((first|refine callD_of false ?_|refine qcallD_of false ?_);simp (disch:=omega) only [push_cast,seval,e4,hN,hU,hu2,hkN,c1d,c1e,c2,c3,hxy,decide_true,decide_false])
 | ((first|(refine call0D (BCall.ofP (drawDg_ok _ _ ?_ ?_)) ?_;(iterate 2 (exact sd));rintro _ _ ⟨⟨b,sh,st,d,e,_,_,⟨rfl,rfl,hl1,hl2⟩,rfl⟩,rfl⟩)|((first|refine call0D (iDiag_ok _ _ _ _ _ _ _ ?_ ?_ ?_) ?_|refine qcall0D (iDiag_ok _ _ _ _ _ _ _ ?_ ?_ ?_) ⟨_,_,rfl,rfl⟩ ?_);(iterate 3 (exact sd));rintro _ _ ⟨rfl,rfl⟩)|((first|refine call0D (sDiag_ok _ _ _ _ _ _ _ ?_ ?_ ?_) ?_|refine qcall0D (sDiag_ok _ _ _ _ _ _ _ ?_ ?_ ?_) ⟨_,_,rfl,rfl⟩ ?_);(iterate 3 (exact sd));rintro _ _ ⟨rfl,rfl⟩)|((first|refine call0D (BCall.ofP (equalViewL_ok _ _ _ _ _ _ _ _ _ _ ?_ ?_ ?_ ?_ ?_)) ?_|refine qcall0D (BCall.ofP (equalViewL_ok _ _ _ _ _ _ _ _ _ _ ?_ ?_ ?_ ?_ ?_)) ⟨_,_,rfl,rfl⟩ ?_);(iterate 5 (exact sd));rintro _ _ ⟨rfl,rfl⟩)|((first|refine call0D (BCall.ofP (iCountOf_ok _ _ ?_ ?_)) ?_|refine qcall0D (BCall.ofP (iCountOf_ok _ _ ?_ ?_)) ⟨_,_,rfl,rfl⟩ ?_);(iterate 2 (exact sd));rintro _ _ ⟨rfl,rfl⟩)|((first|refine call0D (iIndexAt_ok _ _ _ ?_ ?_) ?_|refine qcall0D (iIndexAt_ok _ _ _ ?_ ?_) ⟨_,_,rfl,rfl⟩ ?_);(iterate 2 (exact sd));rintro _ _ ⟨rfl,rfl⟩)|((first|refine call0D (BCall.ofP (iOffsetAt_ok _ _ _ _ _ _ _ ?_ ?_ ?_ ?_)) ?_|refine qcall0D (BCall.ofP (iOffsetAt_ok _ _ _ _ _ _ _ ?_ ?_ ?_ ?_)) ⟨_,_,rfl,rfl⟩ ?_);(iterate 4 (exact sd));rintro _ _ ⟨rfl,rfl⟩)|((first|refine call0D (iOffsetsOf_ok _ _ _ _ _ ?_ ?_ ?_) ?_|refine qcall0D (iOffsetsOf_ok _ _ _ _ _ ?_ ?_ ?_) ⟨_,_,rfl,rfl⟩ ?_);(iterate 3 (exact sd));rintro _ _ ⟨rfl,rfl⟩)|((first|refine call0D (BCall.ofP (lwithin_ok _ _ _ _ ?_ ?_ ?_)) ?_|refine qcall0D (BCall.ofP (lwithin_ok _ _ _ _ ?_ ?_ ?_)) ⟨_,_,rfl,rfl⟩ ?_);(iterate 3 (exact sd));rintro _ _ ⟨rfl,rfl⟩)|((first|refine call0D (BCall.ofP (equalInts_ok _ _ _ _ ?_ ?_ ?_)) ?_|refine qcall0D (BCall.ofP (equalInts_ok _ _ _ _ ?_ ?_ ?_)) ⟨_,_,rfl,rfl⟩ ?_);(iterate 3 (exact sd));rintro _ _ ⟨rfl,rfl⟩))<;>(try simp (disch:=omega) only [push_cast,seval,e4,hN,hU,hu2,hkN,c1d,c1e,c2,c3,hxy,decide_true,decide_false]))
 | (refine awp_ret ⟨.inr rfl,_,rfl,?_⟩; (try simp (disch := omega) only [push_cast,seval,e4,hN,hU,hu2,hkN,c1d,c1e,c2,c3,hxy,decide_true,decide_false]))))
              refine ⟨k + 1,by omega,by omega,?_⟩
              (refine Sub.of_lists ?_ ?_ ?_ ?_ ?_<;>simp [Vw.mkS,Vw.lk,Vw.hk,AV.inn,innL,innL_ints,innL_append,innL_rep,-List.map_set,-List.getD_eq_getElem?_getD,e1])
          · have hkN:¬ (k:Int) < (N:Int):=by omega
            have hkk:k=N:=by omega
            subst hkk
            have hpl:(L1.length:Int)=((dgT b sh st d e k).length:Int):=by rw [hperm.length_eq]
            have hmm:=fun x=>hperm.mem_iff (a:=x)
            clear hstep huu hul hperm hTl hTy hTn hT0
            generalize hM:dgT b sh st d e k=M at *
            have hb1:(L1.length ≤ 1099511627776 ∧ M.length ≤ 1099511627776) ∧ ∀ x ∈ L1,x ∈ M:=⟨by omega,fun x hx=>(hmm x).1 hx⟩
            have hb2:(M.length ≤ 1099511627776 ∧ L1.length ≤ 1099511627776) ∧ ∀ x ∈ M,x ∈ L1:=⟨by omega,fun x hx=>(hmm x).2 hx⟩
            have hb3:L1.length ≤ 1099511627776 ∧ M.length ≤ 1099511627776:=by omega
            clear hmm
            by_cases hde:(d:Int) > (e:Int)
            · clear heq
              (repeat' (first
 | (first|refine awp_seq ?_|refine awp_block ?_)
 | ((first|refine awp_reg ?_|refine awp_draw (mid:=l6r12a) (post:=l6r12b) mixed (by decide) ?_|refine awp_condB ?_|refine awp_skip ?_|refine awp_exit ?_);simp (disch:=omega) only [push_cast,seval,l6r0,l6r1,l6r2,l6r3,l6r4,l6r5,l6r6,l6r7,l6r8,l6r9,l6r10,l6r11,l6r12a,l6r12b,l6r12,l6r13,l6r14,l6r15,l6r16,l6r17,e4,e5,hN,hkN,hL1,hpl,hde,List.length_map,decide_true])
 | ((first|refine condB_split (fun h=>?_) (fun h=>?_)|refine gIf_split (fun h=>?_) (fun h=>?_)|refine qIf_split (fun h=>?_) (fun h=>?_))<;>(try simp only [h])<;>(try simp only [bitvec_to_nat] at h)<;>(try simp only [h])<;>(first|(exfalso;omega)|(focus (exfalso;simp_all;done))|(simp (disch:=omega) only [push_cast,seval,e4,e5,hN,hkN,hL1,hpl,hde,List.length_map,decide_true])|skip))
 | ((first|refine callD_of false ?_|refine qcallD_of false ?_);simp (disch:=omega) only [push_cast,seval,e4,e5,hN,hkN,hL1,hpl,hde,List.length_map,decide_true])
 | ((first|(refine call0D (BCall.ofP (drawDg_ok _ _ ?_ ?_)) ?_;(iterate 2 (exact sd));rintro _ _ ⟨⟨b,sh,st,d,e,_,_,⟨rfl,rfl,hl1,hl2⟩,rfl⟩,rfl⟩)|((first|refine call0D (iDiag_ok _ _ _ _ _ _ _ ?_ ?_ ?_) ?_|refine qcall0D (iDiag_ok _ _ _ _ _ _ _ ?_ ?_ ?_) ⟨_,_,rfl,rfl⟩ ?_);(iterate 3 (exact sd));rintro _ _ ⟨rfl,rfl⟩)|((first|refine call0D (sDiag_ok _ _ _ _ _ _ _ ?_ ?_ ?_) ?_|refine qcall0D (sDiag_ok _ _ _ _ _ _ _ ?_ ?_ ?_) ⟨_,_,rfl,rfl⟩ ?_);(iterate 3 (exact sd));rintro _ _ ⟨rfl,rfl⟩)|((first|refine call0D (BCall.ofP (equalViewL_ok _ _ _ _ _ _ _ _ _ _ ?_ ?_ ?_ ?_ ?_)) ?_|refine qcall0D (BCall.ofP (equalViewL_ok _ _ _ _ _ _ _ _ _ _ ?_ ?_ ?_ ?_ ?_)) ⟨_,_,rfl,rfl⟩ ?_);(iterate 5 (exact sd));rintro _ _ ⟨rfl,rfl⟩)|((first|refine call0D (BCall.ofP (iCountOf_ok _ _ ?_ ?_)) ?_|refine qcall0D (BCall.ofP (iCountOf_ok _ _ ?_ ?_)) ⟨_,_,rfl,rfl⟩ ?_);(iterate 2 (exact sd));rintro _ _ ⟨rfl,rfl⟩)|((first|refine call0D (iIndexAt_ok _ _ _ ?_ ?_) ?_|refine qcall0D (iIndexAt_ok _ _ _ ?_ ?_) ⟨_,_,rfl,rfl⟩ ?_);(iterate 2 (exact sd));rintro _ _ ⟨rfl,rfl⟩)|((first|refine call0D (BCall.ofP (iOffsetAt_ok _ _ _ _ _ _ _ ?_ ?_ ?_ ?_)) ?_|refine qcall0D (BCall.ofP (iOffsetAt_ok _ _ _ _ _ _ _ ?_ ?_ ?_ ?_)) ⟨_,_,rfl,rfl⟩ ?_);(iterate 4 (exact sd));rintro _ _ ⟨rfl,rfl⟩)|((first|refine call0D (iOffsetsOf_ok _ _ _ _ _ ?_ ?_ ?_) ?_|refine qcall0D (iOffsetsOf_ok _ _ _ _ _ ?_ ?_ ?_) ⟨_,_,rfl,rfl⟩ ?_);(iterate 3 (exact sd));rintro _ _ ⟨rfl,rfl⟩)|((first|refine call0D (BCall.ofP (lwithin_ok _ _ _ _ ?_ ?_ ?_)) ?_|refine qcall0D (BCall.ofP (lwithin_ok _ _ _ _ ?_ ?_ ?_)) ⟨_,_,rfl,rfl⟩ ?_);(iterate 3 (exact sd));rintro _ _ ⟨rfl,rfl⟩)|((first|refine call0D (BCall.ofP (equalInts_ok _ _ _ _ ?_ ?_ ?_)) ?_|refine qcall0D (BCall.ofP (equalInts_ok _ _ _ _ ?_ ?_ ?_)) ⟨_,_,rfl,rfl⟩ ?_);(iterate 3 (exact sd));rintro _ _ ⟨rfl,rfl⟩))<;>(try simp (disch:=omega) only [push_cast,seval,e4,e5,hN,hkN,hL1,hpl,hde,List.length_map,decide_true]))
 | (refine awp_ret ⟨.inr rfl,_,rfl,?_⟩; (try simp (disch := omega) only [push_cast,seval,e4,e5,hN,hkN,hL1,hpl,hde,List.length_map,decide_true]))))
              all_goals (try simp)
            · have hLM:=heq (by omega)
              clear heq hb1 hb2
              subst hLM
              have hb1:(L1.length ≤ 1099511627776 ∧ L1.length ≤ 1099511627776) ∧ ∀ x ∈ L1,x ∈ L1:=⟨by omega,fun x hx=>hx⟩
              (repeat' (first
 | (first|refine awp_seq ?_|refine awp_block ?_)
 | ((first|refine awp_reg ?_|refine awp_draw (mid:=l6r12a) (post:=l6r12b) mixed (by decide) ?_|refine awp_condB ?_|refine awp_skip ?_|refine awp_exit ?_);simp (disch:=omega) only [push_cast,seval,l6r0,l6r1,l6r2,l6r3,l6r4,l6r5,l6r6,l6r7,l6r8,l6r9,l6r10,l6r11,l6r12a,l6r12b,l6r12,l6r13,l6r14,l6r15,l6r16,l6r17,e4,e5,hN,hkN,hL1,hde,List.length_map,decide_true,decide_false])
 | ((first|refine condB_split (fun h=>?_) (fun h=>?_)|refine gIf_split (fun h=>?_) (fun h=>?_)|refine qIf_split (fun h=>?_) (fun h=>?_))<;>(try simp only [h])<;>(try simp only [bitvec_to_nat] at h)<;>(try simp only [h])<;>(first|(exfalso;omega)|(focus (exfalso;simp_all;done))|(simp (disch:=omega) only [push_cast,seval,e4,e5,hN,hkN,hL1,hde,List.length_map,decide_true,decide_false])|skip))
 | ((first|refine callD_of false ?_|refine qcallD_of false ?_);simp (disch:=omega) only [push_cast,seval,e4,e5,hN,hkN,hL1,hde,List.length_map,decide_true,decide_false])
 | ((first|(refine call0D (BCall.ofP (drawDg_ok _ _ ?_ ?_)) ?_;(iterate 2 (exact sd));rintro _ _ ⟨⟨b,sh,st,d,e,_,_,⟨rfl,rfl,hl1,hl2⟩,rfl⟩,rfl⟩)|((first|refine call0D (iDiag_ok _ _ _ _ _ _ _ ?_ ?_ ?_) ?_|refine qcall0D (iDiag_ok _ _ _ _ _ _ _ ?_ ?_ ?_) ⟨_,_,rfl,rfl⟩ ?_);(iterate 3 (exact sd));rintro _ _ ⟨rfl,rfl⟩)|((first|refine call0D (sDiag_ok _ _ _ _ _ _ _ ?_ ?_ ?_) ?_|refine qcall0D (sDiag_ok _ _ _ _ _ _ _ ?_ ?_ ?_) ⟨_,_,rfl,rfl⟩ ?_);(iterate 3 (exact sd));rintro _ _ ⟨rfl,rfl⟩)|((first|refine call0D (BCall.ofP (equalViewL_ok _ _ _ _ _ _ _ _ _ _ ?_ ?_ ?_ ?_ ?_)) ?_|refine qcall0D (BCall.ofP (equalViewL_ok _ _ _ _ _ _ _ _ _ _ ?_ ?_ ?_ ?_ ?_)) ⟨_,_,rfl,rfl⟩ ?_);(iterate 5 (exact sd));rintro _ _ ⟨rfl,rfl⟩)|((first|refine call0D (BCall.ofP (iCountOf_ok _ _ ?_ ?_)) ?_|refine qcall0D (BCall.ofP (iCountOf_ok _ _ ?_ ?_)) ⟨_,_,rfl,rfl⟩ ?_);(iterate 2 (exact sd));rintro _ _ ⟨rfl,rfl⟩)|((first|refine call0D (iIndexAt_ok _ _ _ ?_ ?_) ?_|refine qcall0D (iIndexAt_ok _ _ _ ?_ ?_) ⟨_,_,rfl,rfl⟩ ?_);(iterate 2 (exact sd));rintro _ _ ⟨rfl,rfl⟩)|((first|refine call0D (BCall.ofP (iOffsetAt_ok _ _ _ _ _ _ _ ?_ ?_ ?_ ?_)) ?_|refine qcall0D (BCall.ofP (iOffsetAt_ok _ _ _ _ _ _ _ ?_ ?_ ?_ ?_)) ⟨_,_,rfl,rfl⟩ ?_);(iterate 4 (exact sd));rintro _ _ ⟨rfl,rfl⟩)|((first|refine call0D (iOffsetsOf_ok _ _ _ _ _ ?_ ?_ ?_) ?_|refine qcall0D (iOffsetsOf_ok _ _ _ _ _ ?_ ?_ ?_) ⟨_,_,rfl,rfl⟩ ?_);(iterate 3 (exact sd));rintro _ _ ⟨rfl,rfl⟩)|((first|refine call0D (BCall.ofP (lwithin_ok _ _ _ _ ?_ ?_ ?_)) ?_|refine qcall0D (BCall.ofP (lwithin_ok _ _ _ _ ?_ ?_ ?_)) ⟨_,_,rfl,rfl⟩ ?_);(iterate 3 (exact sd));rintro _ _ ⟨rfl,rfl⟩)|((first|refine call0D (BCall.ofP (equalInts_ok _ _ _ _ ?_ ?_ ?_)) ?_|refine qcall0D (BCall.ofP (equalInts_ok _ _ _ _ ?_ ?_ ?_)) ⟨_,_,rfl,rfl⟩ ?_);(iterate 3 (exact sd));rintro _ _ ⟨rfl,rfl⟩))<;>(try simp (disch:=omega) only [push_cast,seval,e4,e5,hN,hkN,hL1,hde,List.length_map,decide_true,decide_false]))
 | (refine awp_ret ⟨.inr rfl,_,rfl,?_⟩; (try simp (disch := omega) only [push_cast,seval,e4,e5,hN,hkN,hL1,hde,List.length_map,decide_true,decide_false]))))
              all_goals (try simp)
  · (repeat' (first
 | (first|refine awp_seq ?_|refine awp_block ?_)
 | ((first|refine awp_reg ?_|refine awp_draw (mid:=l6r12a) (post:=l6r12b) mixed (by decide) ?_|refine awp_condB ?_|refine awp_skip ?_|refine awp_exit ?_);simp (disch:=omega) only [push_cast,seval,l6r0,l6r1,l6r2,l6r3,l6r4,l6r5,l6r6,l6r7,l6r8,l6r9,l6r10,l6r11,l6r12a,l6r12b,l6r12,l6r13,l6r14,l6r15,l6r16,l6r17])
 | ((first|refine condB_split (fun h=>?_) (fun h=>?_)|refine gIf_split (fun h=>?_) (fun h=>?_)|refine qIf_split (fun h=>?_) (fun h=>?_))<;>(try simp only [h])<;>(try simp only [bitvec_to_nat] at h)<;>(try simp only [h])<;>(first|(exfalso;omega)|(focus (exfalso;simp_all;done))|(simp (disch:=omega) only [push_cast,seval])|skip))
 | ((first|refine callD_of false ?_|refine qcallD_of false ?_);simp (disch:=omega) only [push_cast,seval])
 | ((first|(refine call0D (BCall.ofP (drawDg_ok _ _ ?_ ?_)) ?_;(iterate 2 (exact sd));rintro _ _ ⟨⟨b,sh,st,d,e,_,_,⟨rfl,rfl,hl1,hl2⟩,rfl⟩,rfl⟩)|((first|refine call0D (iDiag_ok _ _ _ _ _ _ _ ?_ ?_ ?_) ?_|refine qcall0D (iDiag_ok _ _ _ _ _ _ _ ?_ ?_ ?_) ⟨_,_,rfl,rfl⟩ ?_);(iterate 3 (exact sd));rintro _ _ ⟨rfl,rfl⟩)|((first|refine call0D (sDiag_ok _ _ _ _ _ _ _ ?_ ?_ ?_) ?_|refine qcall0D (sDiag_ok _ _ _ _ _ _ _ ?_ ?_ ?_) ⟨_,_,rfl,rfl⟩ ?_);(iterate 3 (exact sd));rintro _ _ ⟨rfl,rfl⟩)|((first|refine call0D (BCall.ofP (equalViewL_ok _ _ _ _ _ _ _ _ _ _ ?_ ?_ ?_ ?_ ?_)) ?_|refine qcall0D (BCall.ofP (equalViewL_ok _ _ _ _ _ _ _ _ _ _ ?_ ?_ ?_ ?_ ?_)) ⟨_,_,rfl,rfl⟩ ?_);(iterate 5 (exact sd));rintro _ _ ⟨rfl,rfl⟩)|((first|refine call0D (BCall.ofP (iCountOf_ok _ _ ?_ ?_)) ?_|refine qcall0D (BCall.ofP (iCountOf_ok _ _ ?_ ?_)) ⟨_,_,rfl,rfl⟩ ?_);(iterate 2 (exact sd));rintro _ _ ⟨rfl,rfl⟩)|((first|refine call0D (iIndexAt_ok _ _ _ ?_ ?_) ?_|refine qcall0D (iIndexAt_ok _ _ _ ?_ ?_) ⟨_,_,rfl,rfl⟩ ?_);(iterate 2 (exact sd));rintro _ _ ⟨rfl,rfl⟩)|((first|refine call0D (BCall.ofP (iOffsetAt_ok _ _ _ _ _ _ _ ?_ ?_ ?_ ?_)) ?_|refine qcall0D (BCall.ofP (iOffsetAt_ok _ _ _ _ _ _ _ ?_ ?_ ?_ ?_)) ⟨_,_,rfl,rfl⟩ ?_);(iterate 4 (exact sd));rintro _ _ ⟨rfl,rfl⟩)|((first|refine call0D (iOffsetsOf_ok _ _ _ _ _ ?_ ?_ ?_) ?_|refine qcall0D (iOffsetsOf_ok _ _ _ _ _ ?_ ?_ ?_) ⟨_,_,rfl,rfl⟩ ?_);(iterate 3 (exact sd));rintro _ _ ⟨rfl,rfl⟩)|((first|refine call0D (BCall.ofP (lwithin_ok _ _ _ _ ?_ ?_ ?_)) ?_|refine qcall0D (BCall.ofP (lwithin_ok _ _ _ _ ?_ ?_ ?_)) ⟨_,_,rfl,rfl⟩ ?_);(iterate 3 (exact sd));rintro _ _ ⟨rfl,rfl⟩)|((first|refine call0D (BCall.ofP (equalInts_ok _ _ _ _ ?_ ?_ ?_)) ?_|refine qcall0D (BCall.ofP (equalInts_ok _ _ _ _ ?_ ?_ ?_)) ⟨_,_,rfl,rfl⟩ ?_);(iterate 3 (exact sd));rintro _ _ ⟨rfl,rfl⟩))<;>(try simp (disch:=omega) only [push_cast,seval]))
 | (refine awp_ret ⟨.inr rfl,_,rfl,?_⟩;(try simp (disch:=omega) only [push_cast,seval]))))

end Go.Proofs.Ytceopplkfomalaa
