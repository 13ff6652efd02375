import Derived.Test.YtejbfjmiidofcaaCKp15
import Derived.Test.YtejbfjmiidofcaaCM1
import Derived.Test.YtejbfjmiidofcaaCW3
set_option linter.unusedSimpArgs false
set_option linter.unusedVariables false
set_option maxRecDepth 4000
set_option maxHeartbeats 4000000
namespace Go.Proofs.Ytejbfjmiidofcaa
open VwM Vw Go

theorem keT_sorted (ls:List (List Int)) (out a b:List Int) (i j k:Nat):(keT ls out a b i j k).Pairwise (· < ·):=by
  unfold keT
  refine List.Pairwise.filter _ (List.pairwise_map.2 ?_)
  refine List.Pairwise.imp ?_ (List.pairwise_lt_range (n:=k))
  intro a b h
  simp;omega
theorem klL_some {ts:List Tn} {ls:List (List Int)} {out:List Int} {i j:Int} (h:klL ts ls out i j ≠ []):∃ (e:List Int) (p q:Nat),exP ts ls out=some e ∧ i=p ∧ j=q ∧ p < ts.length ∧ q < ts.length ∧ klL ts ls out i j=keL ls out (ls.getD p []) (ls.getD q []) p q:=by
  unfold klL at h ⊢
  cases hx:exP ts ls out with
  | none=>rw [hx] at h;exact absurd rfl h
  | some e =>
    rw [hx] at h
    simp only at h ⊢
    cases hp:pairB i j ts.length with
    | false=>rw [hp] at h;exact absurd rfl h
    | true =>
      obtain ⟨p,q,rfl,rfl,h1,h2,h3⟩:=pairB_nat hp
      exact ⟨e,p,q,rfl,rfl,rfl,h1,h2,by simp⟩


set_option maxHeartbeats 64000000 in
theorem fKL_ok (bs:List Int) (hl:bs.length ≤ 9223372036854775807) (hb:∀ x ∈ bs,0 ≤ x ∧ x ≤ 255):PCall Try.prog 6 [.rows false (UL bs) bs.length] (fun r=>r=.bool true):=by
  refine pcall_of l6_eq rfl ?_
  by_cases h:bs.length ≤ 1048576
  · have q:bs.length ≤ 1099511627776 ∧ ∀ x ∈ bs,0 ≤ x ∧ x ≤ 255:=⟨by omega,hb⟩
    (repeat' (first
 | (refine awp_joinL (c1:=.reg l6r3) (fun x:List Tn × List (List Int) × List Int × Int × Int=>mkS [(3,.rows true (TL true x.1) x.1.length),(4,.rows true (LL true x.2.1) x.2.1.length),(5,.rows true (IL x.2.2.1) x.2.2.1.length),(6,.int .i64 x.2.2.2.1),(7,.int .i64 x.2.2.2.2)] []) (fun x=>prodF x.1 x.2.1 x.2.2.1) ?_ ?_)
 | (first|refine awp_seq ?_|refine awp_block ?_)
 | ((first|refine awp_reg ?_|refine awp_condB ?_|refine awp_skip ?_|refine awp_exit ?_);simp (disch:=omega) only [push_cast,seval,l6r0,l6r1,l6r2,l6r3,l6r4,l6r5,l6r6,l6r7,l6r8,l6r9,l6r10,l6r11,l6r12,l6r13,l6r14,l6r15,l6r16,l6r17,l6r18,innL_TL,innL_LL])
 | ((first|refine condB_split (fun h=>?_) (fun h=>?_)|refine gIf_split (fun h=>?_) (fun h=>?_)|refine qIf_split (fun h=>?_) (fun h=>?_))<;>(try simp only [h])<;>(try simp only [bitvec_to_nat] at h)<;>(try simp only [h])<;>(first|(exfalso;omega)|(focus (exfalso;simp_all;done))|(simp (disch:=omega) only [push_cast,seval,innL_TL,innL_LL])|skip))
 | ((first|refine callD_of false ?_|refine qcallD_of false ?_);simp (disch:=omega) only [push_cast,seval,innL_TL,innL_LL])
 | ((first|(refine call0D (BCall.ofP (drawKL_ok _ _ ?_ ?_)) ?_;(iterate 2 (exact sd));rintro _ _ ⟨⟨ts,ls,out,i,j,hpf,hij,rfl⟩,rfl⟩)|((first|refine call0D (iKL_ok _ _ _ _ _ _ _ _ ?_ ?_ ?_ ?_) ?_|refine qcall0D (iKL_ok _ _ _ _ _ _ _ _ ?_ ?_ ?_ ?_) ⟨_,_,rfl,rfl⟩ ?_);(iterate 4 (exact sd));rintro _ _ ⟨rfl,rfl⟩)|((first|refine call0D (sKL_ok _ _ _ _ _ _ _ _ ?_ ?_ ?_ ?_) ?_|refine qcall0D (sKL_ok _ _ _ _ _ _ _ _ ?_ ?_ ?_ ?_) ⟨_,_,rfl,rfl⟩ ?_);(iterate 4 (exact sd));rintro _ _ ⟨rfl,rfl⟩)|((first|refine call0D (BCall.ofP (equalInts_ok _ _ _ _ ?_ ?_ ?_)) ?_|refine qcall0D (BCall.ofP (equalInts_ok _ _ _ _ ?_ ?_ ?_)) ⟨_,_,rfl,rfl⟩ ?_);(iterate 3 (exact sd));rintro _ _ ⟨rfl,rfl⟩)|((first|refine call0D (BCall.ofP (isInL_ok _ _ _ ?_ ?_)) ?_|refine qcall0D (BCall.ofP (isInL_ok _ _ _ ?_ ?_)) ⟨_,_,rfl,rfl⟩ ?_);(iterate 2 (exact sd));rintro _ _ ⟨rfl,rfl⟩)|((first|refine call0D (BCall.ofP (ascends_ok _ _ ?_ ?_)) ?_|refine qcall0D (BCall.ofP (ascends_ok _ _ ?_ ?_)) ⟨_,_,rfl,rfl⟩ ?_);(iterate 2 (exact sd));rintro _ _ ⟨rfl,rfl⟩))<;>(try simp (disch:=omega) only [push_cast,seval,innL_TL,innL_LL]))
 | (refine awp_ret ⟨.inr rfl,_,rfl,?_⟩;(try simp (disch:=omega) only [push_cast,seval,innL_TL,innL_LL]))))
    · refine ⟨(ts,ls,out,i,j),hpf,?_⟩
      (refine Sub.of_lists ?_ ?_ ?_ ?_ ?_<;>simp [Vw.mkS,Vw.lk,Vw.hk,AV.inn,innL,innL_ints,innL_append,innL_rep,-List.map_set,-List.getD_eq_getElem?_getD,innL_TL,innL_LL])
    · refine ⟨?_⟩
      rintro ⟨ts,ls,out,i,j⟩ hpf
      try simp only at hpf ⊢
      have hq:=prodF_c hpf
      have hlb:∀ l ∈ ls,l.length ≤ 1099511627776:=fun l hl=>by have:=hq.2.2.2.2 l hl;omega
      have hob:out.length ≤ 1099511627776:=by omega
      have hcm:=klL_comm ts ls out i j
      have hkl:=klL_len ts ls out i j
      have hkb:(klL ts ls out i j).length ≤ 1099511627776:=by omega
      by_cases hne:klL ts ls out i j=[]
      · have hl0:((klL ts ls out i j).length:Int)=0:=by rw [hne];rfl
        clear hne
        generalize hKK:klL ts ls out i j=K at *
        (repeat' (first
 | (first|refine awp_seq ?_|refine awp_block ?_)
 | ((first|refine awp_reg ?_|refine awp_condB ?_|refine awp_skip ?_|refine awp_exit ?_);simp (disch:=omega) only [push_cast,seval,l6r0,l6r1,l6r2,l6r3,l6r4,l6r5,l6r6,l6r7,l6r8,l6r9,l6r10,l6r11,l6r12,l6r13,l6r14,l6r15,l6r16,l6r17,l6r18,hl0,hKK,decide_true,innL_TL,innL_LL])
 | ((first|refine condB_split (fun h=>?_) (fun h=>?_)|refine gIf_split (fun h=>?_) (fun h=>?_)|refine qIf_split (fun h=>?_) (fun h=>?_))<;>(try simp only [h])<;>(try simp only [bitvec_to_nat] at h)<;>(try simp only [h])<;>(first|(exfalso;omega)|(focus (exfalso;simp_all;done))|(simp (disch:=omega) only [push_cast,seval,hl0,hKK,decide_true,innL_TL,innL_LL])|skip))
 | ((first|refine callD_of false ?_|refine qcallD_of false ?_);simp (disch:=omega) only [push_cast,seval,hl0,hKK,decide_true,innL_TL,innL_LL])
 | ((first|(refine call0D (BCall.ofP (drawKL_ok _ _ ?_ ?_)) ?_;(iterate 2 (exact sd));rintro _ _ ⟨⟨ts,ls,out,i,j,hpf,hij,rfl⟩,rfl⟩)|((first|refine call0D (iKL_ok _ _ _ _ _ _ _ _ ?_ ?_ ?_ ?_) ?_|refine qcall0D (iKL_ok _ _ _ _ _ _ _ _ ?_ ?_ ?_ ?_) ⟨_,_,rfl,rfl⟩ ?_);(iterate 4 (exact sd));rintro _ _ ⟨rfl,rfl⟩)|((first|refine call0D (sKL_ok _ _ _ _ _ _ _ _ ?_ ?_ ?_ ?_) ?_|refine qcall0D (sKL_ok _ _ _ _ _ _ _ _ ?_ ?_ ?_ ?_) ⟨_,_,rfl,rfl⟩ ?_);(iterate 4 (exact sd));rintro _ _ ⟨rfl,rfl⟩)|((first|refine call0D (BCall.ofP (equalInts_ok _ _ _ _ ?_ ?_ ?_)) ?_|refine qcall0D (BCall.ofP (equalInts_ok _ _ _ _ ?_ ?_ ?_)) ⟨_,_,rfl,rfl⟩ ?_);(iterate 3 (exact sd));rintro _ _ ⟨rfl,rfl⟩)|((first|refine call0D (BCall.ofP (isInL_ok _ _ _ ?_ ?_)) ?_|refine qcall0D (BCall.ofP (isInL_ok _ _ _ ?_ ?_)) ⟨_,_,rfl,rfl⟩ ?_);(iterate 2 (exact sd));rintro _ _ ⟨rfl,rfl⟩)|((first|refine call0D (BCall.ofP (ascends_ok _ _ ?_ ?_)) ?_|refine qcall0D (BCall.ofP (ascends_ok _ _ ?_ ?_)) ⟨_,_,rfl,rfl⟩ ?_);(iterate 2 (exact sd));rintro _ _ ⟨rfl,rfl⟩))<;>(try simp (disch:=omega) only [push_cast,seval,hl0,hKK,decide_true,innL_TL,innL_LL]))
 | (refine awp_ret ⟨.inr rfl,_,rfl,?_⟩;(try simp (disch:=omega) only [push_cast,seval,hl0,hKK,decide_true,innL_TL,innL_LL]))))
        all_goals (try simp)
      · have hl0:¬ ((klL ts ls out i j).length:Int)=0:=by
          have:(klL ts ls out i j).length ≠ 0:=fun h=>hne (List.length_eq_zero_iff.1 h)
          omega
        obtain ⟨e,p,p',hxp,rfl,rfl,hp1,hp2,hK⟩:=klL_some hne
        obtain ⟨ho,hx⟩:=exP_some hxp
        obtain ⟨h5,f1,f2,f3,f4,f5,f6,f7⟩:=exO_facts hx
        obtain ⟨a,ha⟩:=mem_lt (l:=ls) (i:=p) (by omega)
        obtain ⟨b,hbb⟩:=mem_lt (l:=ls) (i:=p') (by omega)
        have hga:ls.getD p []=a:=by simp [List.getD,ha]
        have hgb:ls.getD p' []=b:=by simp [List.getD,hbb]
        rw [hga,hgb] at hK
        have hda:=LL_drop true ls p ha
        have hdb:=LL_drop true ls p' hbb
        have hll:=LL_length true ls
        have i3:p + 1 ≤ ls.length:=by omega
        have i4:p' + 1 ≤ ls.length:=by omega
        have hla:=hlb a (List.mem_of_getElem? ha)
        have hlbb:=hlb b (List.mem_of_getElem? hbb)
        have hmem:∀ x ∈ klL ts ls out p p',(x ∈ a ∨ x ∈ b) ∧ (x ∈ out ∨ x ∈ (besL ls p p').flatten):=fun x hx=>by rw [hK] at hx;exact (mem_keL.1 hx).2
        have hso:(klL ts ls out p p').Pairwise (· < ·):=by rw [hK];exact keT_sorted ls out a b p p' 5
        have hasc:(klL ts ls out p p').length ≤ 1099511627776 ∧ ∀ i:Nat,1 ≤ i → i < (klL ts ls out p p').length → (klL ts ls out p p').getD (i - 1) 0 < (klL ts ls out p p').getD i 0:=⟨hkb,fun i h1 h2=>by
          have:=List.pairwise_iff_getElem.1 hso (i - 1) i (by omega) h2 (by omega)
          simpa [List.getD,h2,show i - 1 < (klL ts ls out p p').length by omega] using this⟩
        clear hso
        clear hK hga hgb hne f1 f2 f3 f4 f5 f6
        generalize hKK:klL ts ls out p p'=K at *
        (repeat' (first
 | (first|refine awp_seq ?_|refine awp_block ?_)
 | ((first|refine awp_reg ?_|refine awp_condB ?_|refine awp_skip ?_|refine awp_exit ?_);simp (disch:=omega) only [push_cast,seval,l6r0,l6r1,l6r2,l6r3,l6r4,l6r5,l6r6,l6r7,l6r8,l6r9,l6r10,l6r11,l6r12,l6r13,l6r14,l6r15,l6r16,l6r17,l6r18,hl0,hKK,decide_true,innL_TL,innL_LL])
 | ((first|refine condB_split (fun h=>?_) (fun h=>?_)|refine gIf_split (fun h=>?_) (fun h=>?_)|refine qIf_split (fun h=>?_) (fun h=>?_))<;>(try simp only [h])<;>(try simp only [bitvec_to_nat] at h)<;>(try simp only [h])<;>(first|(exfalso;omega)|(focus (exfalso;simp_all;done))|(simp (disch:=omega) only [push_cast,seval,hl0,hKK,decide_true,innL_TL,innL_LL])|skip))
 | ((first|refine callD_of false ?_|refine qcallD_of false ?_);simp (disch:=omega) only [push_cast,seval,hl0,hKK,decide_true,innL_TL,innL_LL])
 | ((first|(refine call0D (BCall.ofP (drawKL_ok _ _ ?_ ?_)) ?_;(iterate 2 (exact sd));rintro _ _ ⟨⟨ts,ls,out,i,j,hpf,hij,rfl⟩,rfl⟩)|((first|refine call0D (iKL_ok _ _ _ _ _ _ _ _ ?_ ?_ ?_ ?_) ?_|refine qcall0D (iKL_ok _ _ _ _ _ _ _ _ ?_ ?_ ?_ ?_) ⟨_,_,rfl,rfl⟩ ?_);(iterate 4 (exact sd));rintro _ _ ⟨rfl,rfl⟩)|((first|refine call0D (sKL_ok _ _ _ _ _ _ _ _ ?_ ?_ ?_ ?_) ?_|refine qcall0D (sKL_ok _ _ _ _ _ _ _ _ ?_ ?_ ?_ ?_) ⟨_,_,rfl,rfl⟩ ?_);(iterate 4 (exact sd));rintro _ _ ⟨rfl,rfl⟩)|((first|refine call0D (BCall.ofP (equalInts_ok _ _ _ _ ?_ ?_ ?_)) ?_|refine qcall0D (BCall.ofP (equalInts_ok _ _ _ _ ?_ ?_ ?_)) ⟨_,_,rfl,rfl⟩ ?_);(iterate 3 (exact sd));rintro _ _ ⟨rfl,rfl⟩)|((first|refine call0D (BCall.ofP (isInL_ok _ _ _ ?_ ?_)) ?_|refine qcall0D (BCall.ofP (isInL_ok _ _ _ ?_ ?_)) ⟨_,_,rfl,rfl⟩ ?_);(iterate 2 (exact sd));rintro _ _ ⟨rfl,rfl⟩)|((first|refine call0D (BCall.ofP (ascends_ok _ _ ?_ ?_)) ?_|refine qcall0D (BCall.ofP (ascends_ok _ _ ?_ ?_)) ⟨_,_,rfl,rfl⟩ ?_);(iterate 2 (exact sd));rintro _ _ ⟨rfl,rfl⟩))<;>(try simp (disch:=omega) only [push_cast,seval,hl0,hKK,decide_true,innL_TL,innL_LL]))
 | (refine awp_ret ⟨.inr rfl,_,rfl,?_⟩;(try simp (disch:=omega) only [push_cast,seval,hl0,hKK,decide_true,innL_TL,innL_LL]))))
        refine awp_loop (fun k:Nat=>mkS [(3,.rows true (TL true ts) ts.length),(4,.rows true (LL true ls) ls.length),(5,.rows true (IL out) out.length),(6,.int .i64 p),(7,.int .i64 p'),(8,.own 464 K.length 1),(9,.int .i64 k)] [(464,IL K)]) (fun k=>k ≤ K.length) (fun k=>K.length - k) 0 (Nat.zero_le _) ?_ ?_
        · (refine Sub.of_lists ?_ ?_ ?_ ?_ ?_<;>simp [Vw.mkS,Vw.lk,Vw.hk,AV.inn,innL,innL_ints,innL_append,innL_rep,-List.map_set,-List.getD_eq_getElem?_getD,innL_TL,innL_LL])
        · intro k hk
          by_cases hlt:k < K.length
          · obtain ⟨hx2,hx3⟩:=hmem _ (getD_mem hlt)
            obtain ⟨x,hxe⟩:∃ x,K.getD k 0=x:=⟨_,rfl⟩
            rw [hxe] at hx2 hx3
            clear hmem hasc
            (repeat' (first
 | (first|refine awp_seq ?_|refine awp_block ?_)
 | ((first|refine awp_reg ?_|refine awp_condB ?_|refine awp_skip ?_|refine awp_exit ?_);simp (disch:=omega) only [push_cast,seval,l6r0,l6r1,l6r2,l6r3,l6r4,l6r5,l6r6,l6r7,l6r8,l6r9,l6r10,l6r11,l6r12,l6r13,l6r14,l6r15,l6r16,l6r17,l6r18,hxe,innL_TL,innL_LL])
 | ((first|refine condB_split (fun h=>?_) (fun h=>?_)|refine gIf_split (fun h=>?_) (fun h=>?_)|refine qIf_split (fun h=>?_) (fun h=>?_))<;>(try simp only [h])<;>(try simp only [bitvec_to_nat] at h)<;>(try simp only [h])<;>(first|(exfalso;omega)|(focus (exfalso;simp_all;done))|(simp (disch:=omega) only [push_cast,seval,hxe,innL_TL,innL_LL])|skip))
 | ((first|refine callD_of false ?_|refine qcallD_of false ?_);simp (disch:=omega) only [push_cast,seval,hxe,innL_TL,innL_LL])
 | ((first|(refine call0D (BCall.ofP (drawKL_ok _ _ ?_ ?_)) ?_;(iterate 2 (exact sd));rintro _ _ ⟨⟨ts,ls,out,i,j,hpf,hij,rfl⟩,rfl⟩)|((first|refine call0D (iKL_ok _ _ _ _ _ _ _ _ ?_ ?_ ?_ ?_) ?_|refine qcall0D (iKL_ok _ _ _ _ _ _ _ _ ?_ ?_ ?_ ?_) ⟨_,_,rfl,rfl⟩ ?_);(iterate 4 (exact sd));rintro _ _ ⟨rfl,rfl⟩)|((first|refine call0D (sKL_ok _ _ _ _ _ _ _ _ ?_ ?_ ?_ ?_) ?_|refine qcall0D (sKL_ok _ _ _ _ _ _ _ _ ?_ ?_ ?_ ?_) ⟨_,_,rfl,rfl⟩ ?_);(iterate 4 (exact sd));rintro _ _ ⟨rfl,rfl⟩)|((first|refine call0D (BCall.ofP (equalInts_ok _ _ _ _ ?_ ?_ ?_)) ?_|refine qcall0D (BCall.ofP (equalInts_ok _ _ _ _ ?_ ?_ ?_)) ⟨_,_,rfl,rfl⟩ ?_);(iterate 3 (exact sd));rintro _ _ ⟨rfl,rfl⟩)|((first|refine call0D (BCall.ofP (isInL_ok _ _ _ ?_ ?_)) ?_|refine qcall0D (BCall.ofP (isInL_ok _ _ _ ?_ ?_)) ⟨_,_,rfl,rfl⟩ ?_);(iterate 2 (exact sd));rintro _ _ ⟨rfl,rfl⟩)|((first|refine call0D (BCall.ofP (ascends_ok _ _ ?_ ?_)) ?_|refine qcall0D (BCall.ofP (ascends_ok _ _ ?_ ?_)) ⟨_,_,rfl,rfl⟩ ?_);(iterate 2 (exact sd));rintro _ _ ⟨rfl,rfl⟩))<;>(try simp (disch:=omega) only [push_cast,seval,hxe,innL_TL,innL_LL]))
 | (refine awp_ret ⟨.inr rfl,_,rfl,?_⟩; (try simp (disch := omega) only [push_cast,seval,hxe,innL_TL,innL_LL]))))
            refine awp_loop (fun q:Nat=>mkS [(3,.rows true (TL true ts) ts.length),(4,.rows true (LL true ls) ls.length),(5,.rows true (IL out) out.length),(6,.int .i64 p),(7,.int .i64 p'),(8,.own 464 K.length 1),(9,.int .i64 k),(10,.int .i64 x),(11,.bool (decide (x ∈ out) || decide (x ∈ (besT ls p p' q).flatten))),(12,.int .i64 q)] [(464,IL K)]) (fun q=>q ≤ ls.length) (fun q=>ls.length - q) 0 (Nat.zero_le _) ?_ ?_
            · have hz0:besT ls p p' 0=[]:=rfl
              (refine Sub.of_lists ?_ ?_ ?_ ?_ ?_<;>simp [Vw.mkS,Vw.lk,Vw.hk,AV.inn,innL,innL_ints,innL_append,innL_rep,-List.map_set,-List.getD_eq_getElem?_getD,innL_TL,innL_LL,hz0])
            · intro q hq
              by_cases hql:q < ls.length
              · obtain ⟨l,hlq⟩:=mem_lt hql
                have hd:=LL_drop true ls q hlq
                have hq1:q + 1 ≤ ls.length:=by omega
                have hbl:=hlb _ (List.mem_of_getElem? hlq)
                cases hN:(decide (x ∈ out) || decide (x ∈ (besT ls p p' q).flatten)) with
                | true =>
                  have hN2:(decide (x ∈ out) || decide (x ∈ (besT ls p p' (q + 1)).flatten))=true:=by
                    rw [Bool.or_eq_true,decide_eq_true_eq,decide_eq_true_eq] at hN ⊢
                    rcases hN with h|h
                    · exact .inl h
                    · exact .inr (by simp only [besT,List.flatten_append,List.mem_append];exact .inl h)
                  (repeat' (first
 | (first|refine awp_seq ?_|refine awp_block ?_)
 | ((first|refine awp_reg ?_|refine awp_condB ?_|refine awp_skip ?_|refine awp_exit ?_);simp (disch:=omega) only [push_cast,seval,l6r0,l6r1,l6r2,l6r3,l6r4,l6r5,l6r6,l6r7,l6r8,l6r9,l6r10,l6r11,l6r12,l6r13,l6r14,l6r15,l6r16,l6r17,l6r18,hd,hll,hq1,innL_TL,innL_LL])
 | ((first|refine condB_split (fun h=>?_) (fun h=>?_)|refine gIf_split (fun h=>?_) (fun h=>?_)|refine qIf_split (fun h=>?_) (fun h=>?_))<;>(try simp only [h])<;>(try simp only [bitvec_to_nat] at h)<;>(try simp only [h])<;>(first|(exfalso;omega)|(focus (exfalso;simp_all;done))|(simp (disch:=omega) only [push_cast,seval,hd,hll,hq1,innL_TL,innL_LL])|skip))
 | ((first|refine callD_of false ?_|refine qcallD_of false ?_);simp (disch:=omega) only [push_cast,seval,hd,hll,hq1,innL_TL,innL_LL])
 | ((first|(refine call0D (BCall.ofP (drawKL_ok _ _ ?_ ?_)) ?_;(iterate 2 (exact sd));rintro _ _ ⟨⟨ts,ls,out,i,j,hpf,hij,rfl⟩,rfl⟩)|((first|refine call0D (iKL_ok _ _ _ _ _ _ _ _ ?_ ?_ ?_ ?_) ?_|refine qcall0D (iKL_ok _ _ _ _ _ _ _ _ ?_ ?_ ?_ ?_) ⟨_,_,rfl,rfl⟩ ?_);(iterate 4 (exact sd));rintro _ _ ⟨rfl,rfl⟩)|((first|refine call0D (sKL_ok _ _ _ _ _ _ _ _ ?_ ?_ ?_ ?_) ?_|refine qcall0D (sKL_ok _ _ _ _ _ _ _ _ ?_ ?_ ?_ ?_) ⟨_,_,rfl,rfl⟩ ?_);(iterate 4 (exact sd));rintro _ _ ⟨rfl,rfl⟩)|((first|refine call0D (BCall.ofP (equalInts_ok _ _ _ _ ?_ ?_ ?_)) ?_|refine qcall0D (BCall.ofP (equalInts_ok _ _ _ _ ?_ ?_ ?_)) ⟨_,_,rfl,rfl⟩ ?_);(iterate 3 (exact sd));rintro _ _ ⟨rfl,rfl⟩)|((first|refine call0D (BCall.ofP (isInL_ok _ _ _ ?_ ?_)) ?_|refine qcall0D (BCall.ofP (isInL_ok _ _ _ ?_ ?_)) ⟨_,_,rfl,rfl⟩ ?_);(iterate 2 (exact sd));rintro _ _ ⟨rfl,rfl⟩)|((first|refine call0D (BCall.ofP (ascends_ok _ _ ?_ ?_)) ?_|refine qcall0D (BCall.ofP (ascends_ok _ _ ?_ ?_)) ⟨_,_,rfl,rfl⟩ ?_);(iterate 2 (exact sd));rintro _ _ ⟨rfl,rfl⟩))<;>(try simp (disch:=omega) only [push_cast,seval,hd,hll,hq1,innL_TL,innL_LL]))
 | (refine awp_ret ⟨.inr rfl,_,rfl,?_⟩; (try simp (disch := omega) only [push_cast,seval,hd,hll,hq1,innL_TL,innL_LL]))))
                  refine ⟨q + 1,by omega,by omega,?_⟩
                  rw [hN2]
                  (refine Sub.of_lists ?_ ?_ ?_ ?_ ?_<;>simp [Vw.mkS,Vw.lk,Vw.hk,AV.inn,innL,innL_ints,innL_append,innL_rep,-List.map_set,-List.getD_eq_getElem?_getD,innL_TL,innL_LL])
                | false =>
                  rw [Bool.or_eq_false_iff,decide_eq_false_iff_not,decide_eq_false_iff_not] at hN
                  by_cases hqi:q=p
                  · have hN2:(decide (x ∈ out) || decide (x ∈ (besT ls p p' (q + 1)).flatten))=false:=by
                      rw [besT_no (.inl hqi),Bool.or_eq_false_iff,decide_eq_false_iff_not,decide_eq_false_iff_not];exact hN
                    have h1':((q:Int)=p)=True:=eq_true (by omega)
                    (repeat' (first
 | (first|refine awp_seq ?_|refine awp_block ?_)
 | ((first|refine awp_reg ?_|refine awp_condB ?_|refine awp_skip ?_|refine awp_exit ?_);simp (disch:=omega) only [push_cast,seval,l6r0,l6r1,l6r2,l6r3,l6r4,l6r5,l6r6,l6r7,l6r8,l6r9,l6r10,l6r11,l6r12,l6r13,l6r14,l6r15,l6r16,l6r17,l6r18,hd,hll,hq1,h1',ne_eq,not_true_eq_false,decide_false,innL_TL,innL_LL])
 | ((first|refine condB_split (fun h=>?_) (fun h=>?_)|refine gIf_split (fun h=>?_) (fun h=>?_)|refine qIf_split (fun h=>?_) (fun h=>?_))<;>(try simp only [h])<;>(try simp only [bitvec_to_nat] at h)<;>(try simp only [h])<;>(first|(exfalso;omega)|(focus (exfalso;simp_all;done))|(simp (disch:=omega) only [push_cast,seval,hd,hll,hq1,h1',ne_eq,not_true_eq_false,decide_false,innL_TL,innL_LL])|skip))
 | ((first|refine callD_of false ?_|refine qcallD_of false ?_);simp (disch:=omega) only [push_cast,seval,hd,hll,hq1,h1',ne_eq,not_true_eq_false,decide_false,innL_TL,innL_LL])
 | ((first|(refine call0D (BCall.ofP (drawKL_ok _ _ ?_ ?_)) ?_;(iterate 2 (exact sd));rintro _ _ ⟨⟨ts,ls,out,i,j,hpf,hij,rfl⟩,rfl⟩)|((first|refine call0D (iKL_ok _ _ _ _ _ _ _ _ ?_ ?_ ?_ ?_) ?_|refine qcall0D (iKL_ok _ _ _ _ _ _ _ _ ?_ ?_ ?_ ?_) ⟨_,_,rfl,rfl⟩ ?_);(iterate 4 (exact sd));rintro _ _ ⟨rfl,rfl⟩)|((first|refine call0D (sKL_ok _ _ _ _ _ _ _ _ ?_ ?_ ?_ ?_) ?_|refine qcall0D (sKL_ok _ _ _ _ _ _ _ _ ?_ ?_ ?_ ?_) ⟨_,_,rfl,rfl⟩ ?_);(iterate 4 (exact sd));rintro _ _ ⟨rfl,rfl⟩)|((first|refine call0D (BCall.ofP (equalInts_ok _ _ _ _ ?_ ?_ ?_)) ?_|refine qcall0D (BCall.ofP (equalInts_ok _ _ _ _ ?_ ?_ ?_)) ⟨_,_,rfl,rfl⟩ ?_);(iterate 3 (exact sd));rintro _ _ ⟨rfl,rfl⟩)|((first|refine call0D (BCall.ofP (isInL_ok _ _ _ ?_ ?_)) ?_|refine qcall0D (BCall.ofP (isInL_ok _ _ _ ?_ ?_)) ⟨_,_,rfl,rfl⟩ ?_);(iterate 2 (exact sd));rintro _ _ ⟨rfl,rfl⟩)|((first|refine call0D (BCall.ofP (ascends_ok _ _ ?_ ?_)) ?_|refine qcall0D (BCall.ofP (ascends_ok _ _ ?_ ?_)) ⟨_,_,rfl,rfl⟩ ?_);(iterate 2 (exact sd));rintro _ _ ⟨rfl,rfl⟩))<;>(try simp (disch:=omega) only [push_cast,seval,hd,hll,hq1,h1',ne_eq,not_true_eq_false,decide_false,innL_TL,innL_LL]))
 | (refine awp_ret ⟨.inr rfl,_,rfl,?_⟩; (try simp (disch := omega) only [push_cast,seval,hd,hll,hq1,h1',ne_eq,not_true_eq_false,decide_false,innL_TL,innL_LL]))))
                    refine ⟨q + 1,by omega,by omega,?_⟩
                    rw [hN2]
                    (refine Sub.of_lists ?_ ?_ ?_ ?_ ?_<;>simp [Vw.mkS,Vw.lk,Vw.hk,AV.inn,innL,innL_ints,innL_append,innL_rep,-List.map_set,-List.getD_eq_getElem?_getD,innL_TL,innL_LL])
                  · have h1:((q:Int)=p)=False:=eq_false (by omega)
                    by_cases hqj:q=p'
                    · have hN2:(decide (x ∈ out) || decide (x ∈ (besT ls p p' (q + 1)).flatten))=false:=by
                        rw [besT_no (.inr hqj),Bool.or_eq_false_iff,decide_eq_false_iff_not,decide_eq_false_iff_not];exact hN
                      have h2:((q:Int)=p')=True:=eq_true (by omega)
                      (repeat' (first
 | (first|refine awp_seq ?_|refine awp_block ?_)
 | ((first|refine awp_reg ?_|refine awp_condB ?_|refine awp_skip ?_|refine awp_exit ?_);simp (disch:=omega) only [push_cast,seval,l6r0,l6r1,l6r2,l6r3,l6r4,l6r5,l6r6,l6r7,l6r8,l6r9,l6r10,l6r11,l6r12,l6r13,l6r14,l6r15,l6r16,l6r17,l6r18,hd,hll,hq1,h1,h2,innL_TL,innL_LL])
 | ((first|refine condB_split (fun h=>?_) (fun h=>?_)|refine gIf_split (fun h=>?_) (fun h=>?_)|refine qIf_split (fun h=>?_) (fun h=>?_))<;>(try simp only [h])<;>(try simp only [bitvec_to_nat] at h)<;>(try simp only [h])<;>(first|(exfalso;omega)|(focus (exfalso;simp_all;done))|(simp (disch:=omega) only [push_cast,seval,hd,hll,hq1,h1,h2,innL_TL,innL_LL])|skip))
 | ((first|refine callD_of false ?_|refine qcallD_of false ?_);simp (disch:=omega) only [push_cast,seval,hd,hll,hq1,h1,h2,innL_TL,innL_LL])
 | ((first|(refine call0D (BCall.ofP (drawKL_ok _ _ ?_ ?_)) ?_;(iterate 2 (exact sd));rintro _ _ ⟨⟨ts,ls,out,i,j,hpf,hij,rfl⟩,rfl⟩)|((first|refine call0D (iKL_ok _ _ _ _ _ _ _ _ ?_ ?_ ?_ ?_) ?_|refine qcall0D (iKL_ok _ _ _ _ _ _ _ _ ?_ ?_ ?_ ?_) ⟨_,_,rfl,rfl⟩ ?_);(iterate 4 (exact sd));rintro _ _ ⟨rfl,rfl⟩)|((first|refine call0D (sKL_ok _ _ _ _ _ _ _ _ ?_ ?_ ?_ ?_) ?_|refine qcall0D (sKL_ok _ _ _ _ _ _ _ _ ?_ ?_ ?_ ?_) ⟨_,_,rfl,rfl⟩ ?_);(iterate 4 (exact sd));rintro _ _ ⟨rfl,rfl⟩)|((first|refine call0D (BCall.ofP (equalInts_ok _ _ _ _ ?_ ?_ ?_)) ?_|refine qcall0D (BCall.ofP (equalInts_ok _ _ _ _ ?_ ?_ ?_)) ⟨_,_,rfl,rfl⟩ ?_);(iterate 3 (exact sd));rintro _ _ ⟨rfl,rfl⟩)|((first|refine call0D (BCall.ofP (isInL_ok _ _ _ ?_ ?_)) ?_|refine qcall0D (BCall.ofP (isInL_ok _ _ _ ?_ ?_)) ⟨_,_,rfl,rfl⟩ ?_);(iterate 2 (exact sd));rintro _ _ ⟨rfl,rfl⟩)|((first|refine call0D (BCall.ofP (ascends_ok _ _ ?_ ?_)) ?_|refine qcall0D (BCall.ofP (ascends_ok _ _ ?_ ?_)) ⟨_,_,rfl,rfl⟩ ?_);(iterate 2 (exact sd));rintro _ _ ⟨rfl,rfl⟩))<;>(try simp (disch:=omega) only [push_cast,seval,hd,hll,hq1,h1,h2,innL_TL,innL_LL]))
 | (refine awp_ret ⟨.inr rfl,_,rfl,?_⟩; (try simp (disch := omega) only [push_cast,seval,hd,hll,hq1,h1,h2,innL_TL,innL_LL]))))
                      refine ⟨q + 1,by omega,by omega,?_⟩
                      rw [hN2]
                      (refine Sub.of_lists ?_ ?_ ?_ ?_ ?_<;>simp [Vw.mkS,Vw.lk,Vw.hk,AV.inn,innL,innL_ints,innL_append,innL_rep,-List.map_set,-List.getD_eq_getElem?_getD,innL_TL,innL_LL])
                    · have h2:((q:Int)=p')=False:=eq_false (by omega)
                      have hN2:(decide (x ∈ out) || decide (x ∈ (besT ls p p' (q + 1)).flatten))=decide (x ∈ l):=by
                        rw [besT_yes hlq hqi hqj,Bool.eq_iff_iff]
                        simp only [Bool.or_eq_true,decide_eq_true_eq,List.flatten_append,List.mem_append,List.flatten_cons,List.flatten_nil,List.append_nil]
                        exact ⟨fun h=>by rcases h with h|h|h;exact absurd h hN.1;exact absurd h hN.2;exact h,fun h=>.inr (.inr h)⟩
                      (repeat' (first
 | (first|refine awp_seq ?_|refine awp_block ?_)
 | ((first|refine awp_reg ?_|refine awp_condB ?_|refine awp_skip ?_|refine awp_exit ?_);simp (disch:=omega) only [push_cast,seval,l6r0,l6r1,l6r2,l6r3,l6r4,l6r5,l6r6,l6r7,l6r8,l6r9,l6r10,l6r11,l6r12,l6r13,l6r14,l6r15,l6r16,l6r17,l6r18,hd,hll,hq1,h1,h2,innL_TL,innL_LL])
 | ((first|refine condB_split (fun h=>?_) (fun h=>?_)|refine gIf_split (fun h=>?_) (fun h=>?_)|refine qIf_split (fun h=>?_) (fun h=>?_))<;>(try simp only [h])<;>(try simp only [bitvec_to_nat] at h)<;>(try simp only [h])<;>(first|(exfalso;omega)|(focus (exfalso;simp_all;done))|(simp (disch:=omega) only [push_cast,seval,hd,hll,hq1,h1,h2,innL_TL,innL_LL])|skip))
 | ((first|refine callD_of false ?_|refine qcallD_of false ?_);simp (disch:=omega) only [push_cast,seval,hd,hll,hq1,h1,h2,innL_TL,innL_LL])
 | ((first|(refine call0D (BCall.ofP (drawKL_ok _ _ ?_ ?_)) ?_;(iterate 2 (exact sd));rintro _ _ ⟨⟨ts,ls,out,i,j,hpf,hij,rfl⟩,rfl⟩)|((first|refine call0D (iKL_ok _ _ _ _ _ _ _ _ ?_ ?_ ?_ ?_) ?_|refine qcall0D (iKL_ok _ _ _ _ _ _ _ _ ?_ ?_ ?_ ?_) ⟨_,_,rfl,rfl⟩ ?_);(iterate 4 (exact sd));rintro _ _ ⟨rfl,rfl⟩)|((first|refine call0D (sKL_ok _ _ _ _ _ _ _ _ ?_ ?_ ?_ ?_) ?_|refine qcall0D (sKL_ok _ _ _ _ _ _ _ _ ?_ ?_ ?_ ?_) ⟨_,_,rfl,rfl⟩ ?_);(iterate 4 (exact sd));rintro _ _ ⟨rfl,rfl⟩)|((first|refine call0D (BCall.ofP (equalInts_ok _ _ _ _ ?_ ?_ ?_)) ?_|refine qcall0D (BCall.ofP (equalInts_ok _ _ _ _ ?_ ?_ ?_)) ⟨_,_,rfl,rfl⟩ ?_);(iterate 3 (exact sd));rintro _ _ ⟨rfl,rfl⟩)|((first|refine call0D (BCall.ofP (isInL_ok _ _ _ ?_ ?_)) ?_|refine qcall0D (BCall.ofP (isInL_ok _ _ _ ?_ ?_)) ⟨_,_,rfl,rfl⟩ ?_);(iterate 2 (exact sd));rintro _ _ ⟨rfl,rfl⟩)|((first|refine call0D (BCall.ofP (ascends_ok _ _ ?_ ?_)) ?_|refine qcall0D (BCall.ofP (ascends_ok _ _ ?_ ?_)) ⟨_,_,rfl,rfl⟩ ?_);(iterate 2 (exact sd));rintro _ _ ⟨rfl,rfl⟩))<;>(try simp (disch:=omega) only [push_cast,seval,hd,hll,hq1,h1,h2,innL_TL,innL_LL]))
 | (refine awp_ret ⟨.inr rfl,_,rfl,?_⟩; (try simp (disch := omega) only [push_cast,seval,hd,hll,hq1,h1,h2,innL_TL,innL_LL]))))
                      refine ⟨q + 1,by omega,by omega,?_⟩
                      rw [hN2]
                      (refine Sub.of_lists ?_ ?_ ?_ ?_ ?_<;>simp [Vw.mkS,Vw.lk,Vw.hk,AV.inn,innL,innL_ints,innL_append,innL_rep,-List.map_set,-List.getD_eq_getElem?_getD,innL_TL,innL_LL])
              · have eq:q=ls.length:=by omega
                subst eq
                have hbs:besT ls p p' ls.length=besL ls p p':=rfl
                rw [hbs]
                have hN:(decide (x ∈ out) || decide (x ∈ (besL ls p p').flatten))=true:=by rw [Bool.or_eq_true,decide_eq_true_eq,decide_eq_true_eq];exact hx3
                rw [hN]
                by_cases hxa:x ∈ a
                · (repeat' (first
 | (first|refine awp_seq ?_|refine awp_block ?_)
 | ((first|refine awp_reg ?_|refine awp_condB ?_|refine awp_skip ?_|refine awp_exit ?_);simp (disch:=omega) only [push_cast,seval,l6r0,l6r1,l6r2,l6r3,l6r4,l6r5,l6r6,l6r7,l6r8,l6r9,l6r10,l6r11,l6r12,l6r13,l6r14,l6r15,l6r16,l6r17,l6r18,hda,hdb,i3,i4,hll,hxa,decide_true,innL_TL,innL_LL])
 | ((first|refine condB_split (fun h=>?_) (fun h=>?_)|refine gIf_split (fun h=>?_) (fun h=>?_)|refine qIf_split (fun h=>?_) (fun h=>?_))<;>(try simp only [h])<;>(try simp only [bitvec_to_nat] at h)<;>(try simp only [h])<;>(first|(exfalso;omega)|(focus (exfalso;simp_all;done))|(simp (disch:=omega) only [push_cast,seval,hda,hdb,i3,i4,hll,hxa,decide_true,innL_TL,innL_LL])|skip))
 | ((first|refine callD_of false ?_|refine qcallD_of false ?_);simp (disch:=omega) only [push_cast,seval,hda,hdb,i3,i4,hll,hxa,decide_true,innL_TL,innL_LL])
 | ((first|(refine call0D (BCall.ofP (drawKL_ok _ _ ?_ ?_)) ?_;(iterate 2 (exact sd));rintro _ _ ⟨⟨ts,ls,out,i,j,hpf,hij,rfl⟩,rfl⟩)|((first|refine call0D (iKL_ok _ _ _ _ _ _ _ _ ?_ ?_ ?_ ?_) ?_|refine qcall0D (iKL_ok _ _ _ _ _ _ _ _ ?_ ?_ ?_ ?_) ⟨_,_,rfl,rfl⟩ ?_);(iterate 4 (exact sd));rintro _ _ ⟨rfl,rfl⟩)|((first|refine call0D (sKL_ok _ _ _ _ _ _ _ _ ?_ ?_ ?_ ?_) ?_|refine qcall0D (sKL_ok _ _ _ _ _ _ _ _ ?_ ?_ ?_ ?_) ⟨_,_,rfl,rfl⟩ ?_);(iterate 4 (exact sd));rintro _ _ ⟨rfl,rfl⟩)|((first|refine call0D (BCall.ofP (equalInts_ok _ _ _ _ ?_ ?_ ?_)) ?_|refine qcall0D (BCall.ofP (equalInts_ok _ _ _ _ ?_ ?_ ?_)) ⟨_,_,rfl,rfl⟩ ?_);(iterate 3 (exact sd));rintro _ _ ⟨rfl,rfl⟩)|((first|refine call0D (BCall.ofP (isInL_ok _ _ _ ?_ ?_)) ?_|refine qcall0D (BCall.ofP (isInL_ok _ _ _ ?_ ?_)) ⟨_,_,rfl,rfl⟩ ?_);(iterate 2 (exact sd));rintro _ _ ⟨rfl,rfl⟩)|((first|refine call0D (BCall.ofP (ascends_ok _ _ ?_ ?_)) ?_|refine qcall0D (BCall.ofP (ascends_ok _ _ ?_ ?_)) ⟨_,_,rfl,rfl⟩ ?_);(iterate 2 (exact sd));rintro _ _ ⟨rfl,rfl⟩))<;>(try simp (disch:=omega) only [push_cast,seval,hda,hdb,i3,i4,hll,hxa,decide_true,innL_TL,innL_LL]))
 | (refine awp_ret ⟨.inr rfl,_,rfl,?_⟩; (try simp (disch := omega) only [push_cast,seval,hda,hdb,i3,i4,hll,hxa,decide_true,innL_TL,innL_LL]))))
                  refine ⟨k + 1,by omega,by omega,?_⟩
                  (refine Sub.of_lists ?_ ?_ ?_ ?_ ?_<;>simp [Vw.mkS,Vw.lk,Vw.hk,AV.inn,innL,innL_ints,innL_append,innL_rep,-List.map_set,-List.getD_eq_getElem?_getD,innL_TL,innL_LL])
                · have hxb:x ∈ b:=by rcases hx2 with h|h;exact absurd h hxa;exact h
                  (repeat' (first
 | (first|refine awp_seq ?_|refine awp_block ?_)
 | ((first|refine awp_reg ?_|refine awp_condB ?_|refine awp_skip ?_|refine awp_exit ?_);simp (disch:=omega) only [push_cast,seval,l6r0,l6r1,l6r2,l6r3,l6r4,l6r5,l6r6,l6r7,l6r8,l6r9,l6r10,l6r11,l6r12,l6r13,l6r14,l6r15,l6r16,l6r17,l6r18,hda,hdb,i3,i4,hll,hxa,hxb,decide_true,decide_false,innL_TL,innL_LL])
 | ((first|refine condB_split (fun h=>?_) (fun h=>?_)|refine gIf_split (fun h=>?_) (fun h=>?_)|refine qIf_split (fun h=>?_) (fun h=>?_))<;>(try simp only [h])<;>(try simp only [bitvec_to_nat] at h)<;>(try simp only [h])<;>(first|(exfalso;omega)|(focus (exfalso;simp_all;done))|(simp (disch:=omega) only [push_cast,seval,hda,hdb,i3,i4,hll,hxa,hxb,decide_true,decide_false,innL_TL,innL_LL])|skip))
 | ((first|refine callD_of false ?_|refine qcallD_of false ?_);simp (disch:=omega) only [push_cast,seval,hda,hdb,i3,i4,hll,hxa,hxb,decide_true,decide_false,innL_TL,innL_LL])
 | ((first|(refine call0D (BCall.ofP (drawKL_ok _ _ ?_ ?_)) ?_;(iterate 2 (exact sd));rintro _ _ ⟨⟨ts,ls,out,i,j,hpf,hij,rfl⟩,rfl⟩)|((first|refine call0D (iKL_ok _ _ _ _ _ _ _ _ ?_ ?_ ?_ ?_) ?_|refine qcall0D (iKL_ok _ _ _ _ _ _ _ _ ?_ ?_ ?_ ?_) ⟨_,_,rfl,rfl⟩ ?_);(iterate 4 (exact sd));rintro _ _ ⟨rfl,rfl⟩)|((first|refine call0D (sKL_ok _ _ _ _ _ _ _ _ ?_ ?_ ?_ ?_) ?_|refine qcall0D (sKL_ok _ _ _ _ _ _ _ _ ?_ ?_ ?_ ?_) ⟨_,_,rfl,rfl⟩ ?_);(iterate 4 (exact sd));rintro _ _ ⟨rfl,rfl⟩)|((first|refine call0D (BCall.ofP (equalInts_ok _ _ _ _ ?_ ?_ ?_)) ?_|refine qcall0D (BCall.ofP (equalInts_ok _ _ _ _ ?_ ?_ ?_)) ⟨_,_,rfl,rfl⟩ ?_);(iterate 3 (exact sd));rintro _ _ ⟨rfl,rfl⟩)|((first|refine call0D (BCall.ofP (isInL_ok _ _ _ ?_ ?_)) ?_|refine qcall0D (BCall.ofP (isInL_ok _ _ _ ?_ ?_)) ⟨_,_,rfl,rfl⟩ ?_);(iterate 2 (exact sd));rintro _ _ ⟨rfl,rfl⟩)|((first|refine call0D (BCall.ofP (ascends_ok _ _ ?_ ?_)) ?_|refine qcall0D (BCall.ofP (ascends_ok _ _ ?_ ?_)) ⟨_,_,rfl,rfl⟩ ?_);(iterate 2 (exact sd));rintro _ _ ⟨rfl,rfl⟩))<;>(try simp (disch:=omega) only [push_cast,seval,hda,hdb,i3,i4,hll,hxa,hxb,decide_true,decide_false,innL_TL,innL_LL]))
 | (refine awp_ret ⟨.inr rfl,_,rfl,?_⟩; (try simp (disch := omega) only [push_cast,seval,hda,hdb,i3,i4,hll,hxa,hxb,decide_true,decide_false,innL_TL,innL_LL]))))
                  refine ⟨k + 1,by omega,by omega,?_⟩
                  (refine Sub.of_lists ?_ ?_ ?_ ?_ ?_<;>simp [Vw.mkS,Vw.lk,Vw.hk,AV.inn,innL,innL_ints,innL_append,innL_rep,-List.map_set,-List.getD_eq_getElem?_getD,innL_TL,innL_LL])
          · have ek:¬ (k:Int) < K.length:=by omega
            clear hmem
            (repeat' (first
 | (first|refine awp_seq ?_|refine awp_block ?_)
 | ((first|refine awp_reg ?_|refine awp_condB ?_|refine awp_skip ?_|refine awp_exit ?_);simp (disch:=omega) only [push_cast,seval,l6r0,l6r1,l6r2,l6r3,l6r4,l6r5,l6r6,l6r7,l6r8,l6r9,l6r10,l6r11,l6r12,l6r13,l6r14,l6r15,l6r16,l6r17,l6r18,hl0,hKK,hcm,decide_true,innL_TL,innL_LL])
 | ((first|refine condB_split (fun h=>?_) (fun h=>?_)|refine gIf_split (fun h=>?_) (fun h=>?_)|refine qIf_split (fun h=>?_) (fun h=>?_))<;>(try simp only [h])<;>(try simp only [bitvec_to_nat] at h)<;>(try simp only [h])<;>(first|(exfalso;omega)|(focus (exfalso;simp_all;done))|(simp (disch:=omega) only [push_cast,seval,hl0,hKK,hcm,decide_true,innL_TL,innL_LL])|skip))
 | ((first|refine callD_of false ?_|refine qcallD_of false ?_);simp (disch:=omega) only [push_cast,seval,hl0,hKK,hcm,decide_true,innL_TL,innL_LL])
 | ((first|(refine call0D (BCall.ofP (drawKL_ok _ _ ?_ ?_)) ?_;(iterate 2 (exact sd));rintro _ _ ⟨⟨ts,ls,out,i,j,hpf,hij,rfl⟩,rfl⟩)|((first|refine call0D (iKL_ok _ _ _ _ _ _ _ _ ?_ ?_ ?_ ?_) ?_|refine qcall0D (iKL_ok _ _ _ _ _ _ _ _ ?_ ?_ ?_ ?_) ⟨_,_,rfl,rfl⟩ ?_);(iterate 4 (exact sd));rintro _ _ ⟨rfl,rfl⟩)|((first|refine call0D (sKL_ok _ _ _ _ _ _ _ _ ?_ ?_ ?_ ?_) ?_|refine qcall0D (sKL_ok _ _ _ _ _ _ _ _ ?_ ?_ ?_ ?_) ⟨_,_,rfl,rfl⟩ ?_);(iterate 4 (exact sd));rintro _ _ ⟨rfl,rfl⟩)|((first|refine call0D (BCall.ofP (equalInts_ok _ _ _ _ ?_ ?_ ?_)) ?_|refine qcall0D (BCall.ofP (equalInts_ok _ _ _ _ ?_ ?_ ?_)) ⟨_,_,rfl,rfl⟩ ?_);(iterate 3 (exact sd));rintro _ _ ⟨rfl,rfl⟩)|((first|refine call0D (BCall.ofP (isInL_ok _ _ _ ?_ ?_)) ?_|refine qcall0D (BCall.ofP (isInL_ok _ _ _ ?_ ?_)) ⟨_,_,rfl,rfl⟩ ?_);(iterate 2 (exact sd));rintro _ _ ⟨rfl,rfl⟩)|((first|refine call0D (BCall.ofP (ascends_ok _ _ ?_ ?_)) ?_|refine qcall0D (BCall.ofP (ascends_ok _ _ ?_ ?_)) ⟨_,_,rfl,rfl⟩ ?_);(iterate 2 (exact sd));rintro _ _ ⟨rfl,rfl⟩))<;>(try simp (disch:=omega) only [push_cast,seval,hl0,hKK,hcm,decide_true,innL_TL,innL_LL]))
 | (refine awp_ret ⟨.inr rfl,_,rfl,?_⟩; (try simp (disch := omega) only [push_cast,seval,hl0,hKK,hcm,decide_true,innL_TL,innL_LL]))))
            all_goals (try simp)
  · (repeat' (first
 | (first|refine awp_seq ?_|refine awp_block ?_)
 | ((first|refine awp_reg ?_|refine awp_condB ?_|refine awp_skip ?_|refine awp_exit ?_);simp (disch:=omega) only [push_cast,seval,l6r0,l6r1,l6r2,l6r3,l6r4,l6r5,l6r6,l6r7,l6r8,l6r9,l6r10,l6r11,l6r12,l6r13,l6r14,l6r15,l6r16,l6r17,l6r18])
 | ((first|refine condB_split (fun h=>?_) (fun h=>?_)|refine gIf_split (fun h=>?_) (fun h=>?_)|refine qIf_split (fun h=>?_) (fun h=>?_))<;>(try simp only [h])<;>(try simp only [bitvec_to_nat] at h)<;>(try simp only [h])<;>(first|(exfalso;omega)|(focus (exfalso;simp_all;done))|(simp (disch:=omega) only [push_cast,seval])|skip))
 | ((first|refine callD_of false ?_|refine qcallD_of false ?_);simp (disch:=omega) only [push_cast,seval])
 | ((first|(refine call0D (BCall.ofP (drawKL_ok _ _ ?_ ?_)) ?_;(iterate 2 (exact sd));rintro _ _ ⟨⟨ts,ls,out,i,j,hpf,hij,rfl⟩,rfl⟩)|((first|refine call0D (iKL_ok _ _ _ _ _ _ _ _ ?_ ?_ ?_ ?_) ?_|refine qcall0D (iKL_ok _ _ _ _ _ _ _ _ ?_ ?_ ?_ ?_) ⟨_,_,rfl,rfl⟩ ?_);(iterate 4 (exact sd));rintro _ _ ⟨rfl,rfl⟩)|((first|refine call0D (sKL_ok _ _ _ _ _ _ _ _ ?_ ?_ ?_ ?_) ?_|refine qcall0D (sKL_ok _ _ _ _ _ _ _ _ ?_ ?_ ?_ ?_) ⟨_,_,rfl,rfl⟩ ?_);(iterate 4 (exact sd));rintro _ _ ⟨rfl,rfl⟩)|((first|refine call0D (BCall.ofP (equalInts_ok _ _ _ _ ?_ ?_ ?_)) ?_|refine qcall0D (BCall.ofP (equalInts_ok _ _ _ _ ?_ ?_ ?_)) ⟨_,_,rfl,rfl⟩ ?_);(iterate 3 (exact sd));rintro _ _ ⟨rfl,rfl⟩)|((first|refine call0D (BCall.ofP (isInL_ok _ _ _ ?_ ?_)) ?_|refine qcall0D (BCall.ofP (isInL_ok _ _ _ ?_ ?_)) ⟨_,_,rfl,rfl⟩ ?_);(iterate 2 (exact sd));rintro _ _ ⟨rfl,rfl⟩)|((first|refine call0D (BCall.ofP (ascends_ok _ _ ?_ ?_)) ?_|refine qcall0D (BCall.ofP (ascends_ok _ _ ?_ ?_)) ⟨_,_,rfl,rfl⟩ ?_);(iterate 2 (exact sd));rintro _ _ ⟨rfl,rfl⟩))<;>(try simp (disch:=omega) only [push_cast,seval]))
 | (refine awp_ret ⟨.inr rfl,_,rfl,?_⟩;(try simp (disch:=omega) only [push_cast,seval]))))

end Go.Proofs.Ytejbfjmiidofcaa
