import Derived.Test.YtbplegbgofnolaaCKd
import Derived.Test.YtbplegbgofnolaaCM1

set_option linter.unusedSimpArgs false
set_option linter.unusedVariables false
set_option maxRecDepth 4000
set_option maxHeartbeats 4000000
namespace Go.Proofs.Ytbplegbgofnolaa
open VwM Vw Go

theorem srank_ok (sh idx:List Int) (n m:Nat) (hn:sh.length=n) (hm:idx.length=m) (hb:good4 sh ∧ vIx sh idx=true):PCall Try.prog 115 [.rows false (IL sh) n,.rows false (IL idx) m] (fun r=>r=.int .i64 (dot (fun i=>idx.getD i 0) (rowS sh) sh.length)):=by
  subst hn hm
  obtain ⟨hg,hv⟩:=hb
  have hl:=hg.2
  have hlen:=(C0z.1 hv).1
  rw [← hor_all]
  refine A2z l115_eq rfl ?_
  (repeat' (first
 | (first|refine Anz ?_|refine Agz ?_)
 | ((first|refine Aoz ?_|refine Asz (mid:=l115r4a) (post:=l115r4b) Awz (by decide) ?_|refine Afz ?_|refine Ahz ?_|refine Aiz ?_);simp (disch:=omega) only [push_cast,seval,l115r0,l115r1,l115r2,l115r3,l115r4a,l115r4b,l115r4,l115r5,l115r6])
 | ((first|refine Acz ?_ ?_|refine Aez ?_ ?_|refine Adz ?_ ?_)<;>intro h<;>(try simp only [h])<;>(try simp only [bitvec_to_nat] at h)<;>(try simp only [h])<;>(first|(exfalso;omega)|(exfalso;simp_all;done)|(simp (disch:=omega) only [push_cast,seval])|skip))
 | (refine Akz ⟨.inr rfl,_,rfl,?_⟩;(try simp (disch:=omega) only [push_cast,seval]))))
  refine Azz (fun k:Nat=>mkS [(0,RI sh),(1,RI idx),(5,.int .i64 (hor sh idx k)),(6,.int .i64 k)] []) (fun k=>k ≤ sh.length) (fun k=>sh.length - k) 0 (Nat.zero_le _) ?_ ?_
  · (refine Sub.of_lists ?_ ?_ ?_ ?_ ?_<;>simp [Vw.mkS,Vw.lk,Vw.hk,AV.inn,innL,Arz,Amz,Atz,-List.map_set,-List.getD_eq_getElem?_getD,hor])
  · intro k hk
    by_cases hlt:k < sh.length
    · have h1:=G7z hg hv (k + 1) hlt
      have h2:=Crz (Fwz hg (k + 1))
      have h3:=G7z hg hv k hk
      have h4:=Gdz hg hlt
      have h5:=(C0z.1 hv).2 k (by omega)
      have h6:0 ≤ hor sh idx k * sh.getD k 0:=Int.mul_nonneg h3.1 h4.1
      simp only [hor] at h1
      (repeat' (first
 | (first|refine Anz ?_|refine Agz ?_)
 | ((first|refine Aoz ?_|refine Asz (mid:=l115r4a) (post:=l115r4b) Awz (by decide) ?_|refine Afz ?_|refine Ahz ?_|refine Aiz ?_);simp (disch:=omega) only [push_cast,seval,l115r0,l115r1,l115r2,l115r3,l115r4a,l115r4b,l115r4,l115r5,l115r6])
 | ((first|refine Acz ?_ ?_|refine Aez ?_ ?_|refine Adz ?_ ?_)<;>intro h<;>(try simp only [h])<;>(try simp only [bitvec_to_nat] at h)<;>(try simp only [h])<;>(first|(exfalso;omega)|(exfalso;simp_all;done)|(simp (disch:=omega) only [push_cast,seval])|skip))
 | (refine Akz ⟨.inr rfl,_,rfl,?_⟩;(try simp (disch:=omega) only [push_cast,seval]))))
      refine ⟨k + 1,by omega,by omega,?_⟩
      (refine Sub.of_lists ?_ ?_ ?_ ?_ ?_<;>simp [Vw.mkS,Vw.lk,Vw.hk,AV.inn,innL,Arz,Amz,Atz,-List.map_set,-List.getD_eq_getElem?_getD,hor])
    · (repeat' (first
 | (first|refine Anz ?_|refine Agz ?_)
 | ((first|refine Aoz ?_|refine Asz (mid:=l115r4a) (post:=l115r4b) Awz (by decide) ?_|refine Afz ?_|refine Ahz ?_|refine Aiz ?_);simp (disch:=omega) only [push_cast,seval,l115r0,l115r1,l115r2,l115r3,l115r4a,l115r4b,l115r4,l115r5,l115r6])
 | ((first|refine Acz ?_ ?_|refine Aez ?_ ?_|refine Adz ?_ ?_)<;>intro h<;>(try simp only [h])<;>(try simp only [bitvec_to_nat] at h)<;>(try simp only [h])<;>(first|(exfalso;omega)|(exfalso;simp_all;done)|(simp (disch:=omega) only [push_cast,seval])|skip))
 | (refine Akz ⟨.inr rfl,_,rfl,?_⟩;(try simp (disch:=omega) only [push_cast,seval]))))
      rw [show k=sh.length by omega]

end Go.Proofs.Ytbplegbgofnolaa
