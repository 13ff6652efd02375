import Derived.Test.YtbplegbgofnolaaCKq3
import Derived.Test.YtbplegbgofnolaaCM1
set_option linter.unusedSimpArgs false
set_option linter.unusedVariables false
set_option maxRecDepth 4000
set_option maxHeartbeats 4000000
namespace Go.Proofs.Ytbplegbgofnolaa
open VwM Vw Go

theorem labelsOf1_ok (l:List Int) (n:Nat) (hn:l.length=n) (hb:n ≤ 1099511627776 ∧ ∀ x ∈ l,0 ≤ x ∧ x ≤ 4):BCall Try.prog 55 [.rows false [.rows false (IL l) n] 1] [] (OI (lbS l)):=by
  subst hn
  have h:=labelsOf_ok [l] 1 rfl ⟨by omega,fun x hx=>by simp at hx;subst hx;exact hb.1,fun x hx=>by simp at hx;subst hx;exact hb.2⟩
  rw [show ([l]:List (List Int)).flatten=l by simp] at h
  exact h


set_option maxHeartbeats 16000000 in
theorem B9z (t:Tn) (l:List Int) (n m q:Nat) (hn:t.1.length=n) (hm:t.2.length=m) (hq:l.length=q) (hb:vSh t.1=true ∧ l.length=t.1.length ∧ m ≤ 1099511627776 ∧ ∀ x ∈ l,0 ≤ x ∧ x ≤ 4) :
    PCall Try.prog 96 [.agg [.rows false (IL t.1) n,.rows false (IL t.2) m],.rows false (IL l) q] (fun r=>r=.agg (.rows false (IL t.2) m :: .rows true (IL (lbS l)) (lbS l).length :: IL (fsT l (rowS t.1) t.1.length))):=by
  obtain ⟨sh,vals⟩:=t
  simp only at hn hm hb ⊢
  subst hn hm hq
  obtain ⟨hv,hlen,hm,hl⟩:=hb
  have hg:=(A7z hv).1
  have hg4:=hg.2
  have hrl:(rowS sh).length=sh.length:=by simp [rowS]
  have hrb:∀ x ∈ rowS sh,0 ≤ x ∧ x ≤ 12960000:=fun x hx=>by
    unfold rowS at hx
    obtain ⟨i,_,rfl⟩:=List.mem_map.1 hx
    exact Crz (H8z hg (i + 1))
  have hfl:=Haz l (rowS sh)
  have q1:l.length ≤ 1099511627776 ∧ ∀ x ∈ l,0 ≤ x ∧ x ≤ 4:=⟨by omega,hl⟩
  have q2:sh.length ≤ 1099511627776:=by omega
  refine A2z l96_eq rfl ?_
  (repeat' (first
 | (first|refine Anz ?_|refine Agz ?_)
 | ((first|refine Aoz ?_|refine Blz (mid:=l96r1a) (post:=l96r1b) [] Awz (by decide) ?_|refine Afz ?_|refine Ahz ?_|refine Aiz ?_);simp (disch:=omega) only [push_cast,seval,l96r0,l96r1a,l96r1b,l96r1,l96r2,l96r3,l96r4,l96r5,l96r6,l96r7,hv,hrl,Apz])
 | ((first|refine Acz ?_ ?_|refine Aez ?_ ?_|refine Adz ?_ ?_)<;>intro h<;>(try simp only [h])<;>(try simp only [bitvec_to_nat] at h)<;>(try simp only [h])<;>(first|(exfalso;omega)|(exfalso;simp_all;done)|(simp (disch:=omega) only [push_cast,seval,hv,hrl,Apz])|skip))
 | ((first|refine Aqz false ?_|refine qcallD_of false ?_);simp (disch:=omega) only [push_cast,seval,hv,hrl,Apz])
 | ((first|((first|refine call0D (labelsOf1_ok _ _ ?_ ?_) ?_|refine qcall0D (BCall.ofP (plainI (labelsOf1_ok _ _ ?_ ?_))) ⟨_,_,rfl,rfl⟩ ?_);(iterate 2 (exact sd));rintro _ _ ⟨rfl,rfl⟩)|((first|refine call0D (labelsOf_ok _ _ ?_ ?_) ?_|refine qcall0D (BCall.ofP (plainI (labelsOf_ok _ _ ?_ ?_))) ⟨_,_,rfl,rfl⟩ ?_);(iterate 2 (exact sd));rintro _ _ ⟨rfl,rfl⟩)|((first|refine call0D (iRowStrides_ok _ _ ?_ ?_) ?_|refine qcall0D (iRowStrides_ok _ _ ?_ ?_) ⟨_,_,rfl,rfl⟩ ?_);(iterate 2 (exact sd));rintro _ _ ⟨rfl,rfl⟩))<;>(try simp (disch:=omega) only [push_cast,seval,hv,hrl,Apz]))
 | (refine Akz ⟨.inr rfl,_,rfl,?_⟩;(try simp (disch:=omega) only [push_cast,seval,hv,hrl,Apz]))))
  have hlb:=Dkz l 5
  refine Azz (fun k:Nat=>mkS [(1,.rows false (IL l) l.length),(4,.ref 64 7 0),(5,.ref 80 7 0),(16,.own 256 sh.length 1),(17,.int .i64 sh.length),(18,.int .i64 k)] [(64,[.val (.slice none 0 0),.val (.slice none 0 0),.int .i64 0,.int .i64 0,.int .i64 0,.int .i64 0,.int .i64 0]),(80,.rows false (IL vals) vals.length :: .rows true (IL (lbS l)) (lbS l).length :: IL (fsT l (rowS sh) k)),(256,IL (rowS sh))]) (fun k=>k ≤ sh.length) (fun k=>sh.length - k) 0 (Nat.zero_le _) ?_ ?_
  · have e0:IL (fsT l (rowS sh) 0)=[.int .i64 0,.int .i64 0,.int .i64 0,.int .i64 0,.int .i64 0]:=rfl
    (refine Sub.of_lists ?_ ?_ ?_ ?_ ?_<;>simp [Vw.mkS,Vw.lk,Vw.hk,AV.inn,innL,Arz,Amz,Atz,-List.map_set,-List.getD_eq_getElem?_getD,e0])
  · intro k hk
    have h5k:=hfl k
    by_cases hlt:k < sh.length
    · have hx:=hl _ (A4z (xs:=l) (j:=k) (by omega))
      have hr:=hrb _ (A4z (xs:=rowS sh) (j:=k) (by omega))
      have hbd:=fsT_bound hl hrb (by omega) k (by omega) _ hx.1
      have hstp:fsT l (rowS sh) (k + 1)=(fsT l (rowS sh) k).set (l.getD k 0).toNat (gE (fsT l (rowS sh) k) (l.getD k 0) + (rowS sh).getD k 0):=rfl
      generalize hL:fsT l (rowS sh) k=L at *
      generalize hR:(rowS sh).getD k 0=r at *
      obtain ⟨c,hc⟩:∃ c:Nat,l.getD k 0=c:=⟨(l.getD k 0).toNat,by omega⟩
      rw [hc] at hx hstp hbd
      rw [Int.toNat_natCast] at hstp
      have hge:gE L (c:Int)=L.getD c 0:=by unfold gE;rw [Int.toNat_natCast]
      rw [hge] at hstp hbd
      have hkb:(k:Int) * 12960000 ≤ 4 * 12960000:=by omega
      have hc5:c < 5:=by omega
      have hlk:k < l.length:=by omega
      (repeat' (first
 | (first|refine Anz ?_|refine Agz ?_)
 | ((first|refine Aoz ?_|refine Asz (mid:=l96r1a) (post:=l96r1b) Awz (by decide) ?_|refine Afz ?_|refine Ahz ?_|refine Aiz ?_);simp (disch:=omega) only [push_cast,seval,l96r0,l96r1a,l96r1b,l96r1,l96r2,l96r3,l96r4,l96r5,l96r6,l96r7,hc,hR,hrl,h5k,Apz,drop2,VwM.set2,Bxz])
 | ((first|refine Acz ?_ ?_|refine Aez ?_ ?_|refine Adz ?_ ?_)<;>intro h<;>(try simp only [h])<;>(try simp only [bitvec_to_nat] at h)<;>(try simp only [h])<;>(first|(exfalso;omega)|(exfalso;simp_all;done)|(simp (disch:=omega) only [push_cast,seval,hc,hR,hrl,h5k,Apz,drop2,VwM.set2,Bxz])|skip))
 | ((first|refine Aqz false ?_|refine qcallD_of false ?_);simp (disch:=omega) only [push_cast,seval,hc,hR,hrl,h5k,Apz,drop2,VwM.set2,Bxz])
 | ((first|((first|refine call0D (labelsOf1_ok _ _ ?_ ?_) ?_|refine qcall0D (labelsOf1_ok _ _ ?_ ?_) ⟨_,_,rfl,rfl⟩ ?_);(iterate 2 (exact sd));rintro _ _ ⟨rfl,rfl⟩)|((first|refine call0D (labelsOf_ok _ _ ?_ ?_) ?_|refine qcall0D (labelsOf_ok _ _ ?_ ?_) ⟨_,_,rfl,rfl⟩ ?_);(iterate 2 (exact sd));rintro _ _ ⟨rfl,rfl⟩)|((first|refine call0D (iRowStrides_ok _ _ ?_ ?_) ?_|refine qcall0D (iRowStrides_ok _ _ ?_ ?_) ⟨_,_,rfl,rfl⟩ ?_);(iterate 2 (exact sd));rintro _ _ ⟨rfl,rfl⟩))<;>(try simp (disch:=omega) only [push_cast,seval,hc,hR,hrl,h5k,Apz,drop2,VwM.set2,Bxz]))
 | (refine Akz ⟨.inr rfl,_,rfl,?_⟩;(try simp (disch:=omega) only [push_cast,seval,hc,hR,hrl,h5k,Apz,drop2,VwM.set2,Bxz]))))
      refine ⟨k + 1,by omega,by omega,?_⟩
      rw [hstp]
      (refine Sub.of_lists ?_ ?_ ?_ ?_ ?_<;>simp [Vw.mkS,Vw.lk,Vw.hk,AV.inn,innL,Arz,Amz,Atz,-List.map_set,-List.getD_eq_getElem?_getD,VwM.set2,Bxz])
    · have ek:k=sh.length:=by omega
      have h7:=fun x y a b c d e=>set72 h5k x y a b c d e
      have h7t:=fun x y=>take7 h5k x y
      rw [ek] at h5k h7 h7t
      generalize hL:fsT l (rowS sh) sh.length=L at *
      (repeat' (first
 | (first|refine Anz ?_|refine Agz ?_)
 | ((first|refine Aoz ?_|refine Asz (mid:=l96r1a) (post:=l96r1b) Awz (by decide) ?_|refine Afz ?_|refine Ahz ?_|refine Aiz ?_);simp (disch:=omega) only [push_cast,seval,l96r0,l96r1a,l96r1b,l96r1,l96r2,l96r3,l96r4,l96r5,l96r6,l96r7,h5k,h7,h7t,Apz,ek,hL])
 | ((first|refine Acz ?_ ?_|refine Aez ?_ ?_|refine Adz ?_ ?_)<;>intro h<;>(try simp only [h])<;>(try simp only [bitvec_to_nat] at h)<;>(try simp only [h])<;>(first|(exfalso;omega)|(exfalso;simp_all;done)|(simp (disch:=omega) only [push_cast,seval,h5k,h7,h7t,Apz,ek,hL])|skip))
 | ((first|refine Aqz false ?_|refine qcallD_of false ?_);simp (disch:=omega) only [push_cast,seval,h5k,h7,h7t,Apz,ek,hL])
 | ((first|((first|refine call0D (labelsOf1_ok _ _ ?_ ?_) ?_|refine qcall0D (labelsOf1_ok _ _ ?_ ?_) ⟨_,_,rfl,rfl⟩ ?_);(iterate 2 (exact sd));rintro _ _ ⟨rfl,rfl⟩)|((first|refine call0D (labelsOf_ok _ _ ?_ ?_) ?_|refine qcall0D (labelsOf_ok _ _ ?_ ?_) ⟨_,_,rfl,rfl⟩ ?_);(iterate 2 (exact sd));rintro _ _ ⟨rfl,rfl⟩)|((first|refine call0D (iRowStrides_ok _ _ ?_ ?_) ?_|refine qcall0D (iRowStrides_ok _ _ ?_ ?_) ⟨_,_,rfl,rfl⟩ ?_);(iterate 2 (exact sd));rintro _ _ ⟨rfl,rfl⟩))<;>(try simp (disch:=omega) only [push_cast,seval,h5k,h7,h7t,Apz,ek,hL]))))
      refine Akz ⟨.inr rfl,_,aresL_c7 rfl rfl h5k rfl,?_⟩
      simp (disch:=omega) only [push_cast,seval,Btz]

end Go.Proofs.Ytbplegbgofnolaa
