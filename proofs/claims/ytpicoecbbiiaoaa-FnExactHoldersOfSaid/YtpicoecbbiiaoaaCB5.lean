/- Texts of this verifier. -/
import Derived.Test.YtpicoecbbiiaoaaCB4
import Derived.Test.YtpicoecbbiiaoaaCM1
import Derived.Test.YtpicoecbbiiaoaaCW3
set_option linter.unusedSimpArgs false
set_option linter.unusedVariables false
set_option maxRecDepth 4000
set_option maxHeartbeats 4000000
namespace Go.Proofs.Ytpicoecbbiiaoaa
open VwM Vw Go

def VLt:List Vw3 → List AV
  | []=>[]
  | v :: r=>.int .i64 v.1 :: .rows true (IL v.2.1) v.2.1.length :: .rows true (IL v.2.2) v.2.2.length :: VLt r
theorem Doz:∀ vs:List Vw3,(VLt vs).length=vs.length * 3
  | []=>rfl
  | v :: r=>by simp only [VLt,List.length_cons,Doz r];omega
theorem Guz:∀ vs ws:List Vw3,VLt (vs ++ ws)=VLt vs ++ VLt ws
  | [],_=>rfl
  | v :: r,ws=>by simp only [List.cons_append,VLt,Guz r ws]
theorem A1z (p:Nat → Bool):∀ vs:List Vw3,innL p (VLt vs)=true
  | []=>rfl
  | v :: r=>by
    simp only [VLt,innL,AV.inn,A1z p r,Bool.and_true,Bool.true_and,Bool.and_eq_true]
    constructor<;>simp [Aqz]
theorem Hdz {p:Nat → Bool}:∀ {L:List AV},(∀ a ∈ L,a.inn p=true) → innL p L=true
  | [],_=>rfl
  | a :: r,h=>by
    simp only [innL,Bool.and_eq_true]
    exact ⟨h a (by simp),Hdz fun x hx=>h x (by simp [hx])⟩
theorem Hcz {p:Nat → Bool}:∀ {L:List AV},innL p L=true → ∀ a ∈ L,a.inn p=true
  | a :: r,h,x,hx=>by
    simp only [innL,Bool.and_eq_true] at h
    rcases List.mem_cons.1 hx with e|e
    · rw [e];exact h.1
    · exact Hcz h.2 x e
theorem zc_mem {zs:List AV} {n:Nat} {a:AV} (h:a ∈ zcells zs n):a ∈ zs ∨ a=.unk:=by
  simp only [zcells,List.mem_map,List.mem_range] at h
  obtain ⟨i,_,rfl⟩:=h
  by_cases hi:i % zs.length < zs.length
  · left;simp [List.getD,hi]
  · right;simp [List.getD,List.getElem?_eq_none (Nat.le_of_not_lt hi)]
theorem ren_VLt {ρ:Nat → Option Nat} {Zh:Nat → Option (List AV)} {n:Nat}:∀ vs:List Vw3,(VLt vs).map (AV.ren ρ Zh true some (n + 2))=VLt vs
  | []=>rfl
  | v :: r=>by
    simp only [VLt,List.map_cons,ren_VLt r,List.cons.injEq,and_true]
    refine ⟨rfl,?_,?_⟩<;>simp [AV.ren,List.map_map,Function.comp_def]
theorem set3 {A D:List AV} {p:Nat} (h:A.length=p) (hD:3 ≤ D.length) (a b c:AV):(((A ++ D).set p a).set (p + 1) b).set (p + 2) c=A ++ [a,b,c] ++ D.drop 3:=by
  subst h
  match D,hD with
  | d0 :: d1 :: d2 :: D,_ =>
    simp [List.set_append]
theorem VLt_step {vs:List Vw3} {i:Nat} {b:Int} {sh st:List Int} (hv:vs[i]?=some (b,sh,st)) {Z:List AV} (hZ:Z.length=vs.length * 3) :
    (((VLt (vs.take i) ++ Z.drop (i * 3)).set (i * 3) (.int .i64 b)).set (i * 3 + 1) (.rows true (IL sh) sh.length)).set (i * 3 + 2) (.rows true (IL st) st.length)=VLt (vs.take (i + 1)) ++ Z.drop ((i + 1) * 3):=by
  have hi:i < vs.length:=by
    rcases Nat.lt_or_ge i vs.length with h|h
    · exact h
    · rw [List.getElem?_eq_none h] at hv;cases hv
  rw [set3 (by rw [Doz,List.length_take];omega) (by rw [List.length_drop];omega),List.drop_drop,List.take_add_one,hv,Guz,show i * 3 + 3=(i + 1) * 3 by omega]
  rfl


theorem Bwz (b:Int) (sh st:List Int) (n m:Nat) (hn:sh.length=n) (hm:st.length=m) (hb:n ≤ 1099511627776 ∧ m ≤ 1099511627776):PCall Try.prog 41 [.agg [.int .i64 b,.rows false (IL sh) n,.rows false (IL st) m]] (fun r=>r=.agg [.int .i64 b,.rows true (IL sh) sh.length,.rows true (IL st) st.length]):=plainV (Bxz b sh st n m hn hm hb)


set_option maxHeartbeats 8000000 in
theorem toViewS_ok (vs:List Vw3) (n:Nat) (hn:vs.length=n) (hb:n ≤ 1048576 ∧ ∀ v ∈ vs,v.2.1.length ≤ 1099511627776 ∧ v.2.2.length ≤ 1099511627776):BCall Try.prog 10 [.rows false (VLs vs) n] [] (fun r H'=>r=.own 0 n 3 ∧ H'=[VLt vs]):=by
  subst hn
  obtain ⟨hb1,hb2⟩:=hb
  refine Bkz (pins:=[]) (pin:=0) l10_eq rfl rfl rfl ?_
  have hvl:=Bfz vs
  have hzl:(zcells [AV.int .i64 0,.val (.slice none 0 0),.val (.slice none 0 0)] vs.length).length=vs.length * 3:=by simp [zcells,Nat.mul_comm]
  have hz0:(zcells [AV.int .i64 0,.val (.slice none 0 0),.val (.slice none 0 0)] vs.length).drop (0 * 3)=zcells [AV.int .i64 0,.val (.slice none 0 0),.val (.slice none 0 0)] vs.length:=by rw [Nat.zero_mul,List.drop_zero]
  have hzi:∀ p:Nat → Bool,innL p (zcells [AV.int .i64 0,.val (.slice none 0 0),.val (.slice none 0 0)] vs.length)=true:=fun p=>Hdz fun a ha=>by
    rcases zc_mem ha with h|h
    · simp at h;rcases h with rfl|rfl<;>rfl
    · rw [h];rfl
  (repeat' (first
 | (first|refine Ajz ?_|refine Afz ?_)
 | ((first|refine Akz ?_|refine Aez ?_|refine Agz ?_|refine Ahz ?_);simp (disch:=omega) only [push_cast,seval,l10r0,l10r1,l10r2,l10r3,l10r4,l10r5,l10r6,Aaz])
 | ((first|refine Abz ?_ ?_|refine Adz ?_ ?_|refine Acz ?_ ?_)<;>intro h<;>(try simp only [h])<;>(try simp only [bitvec_to_nat] at h)<;>(try simp only [h])<;>(first|(exfalso;omega)|(exfalso;simp_all;done)|(simp (disch:=omega) only [push_cast,seval,Aaz])|skip))
 | ((first|refine Apz false ?_|refine Alz false ?_);simp (disch:=omega) only [push_cast,seval,Aaz])
 | ((first|((first|refine call0D (BCall.ofP (Bwz _ _ _ _ _ ?_ ?_ ?_)) ?_|refine qcall0D (BCall.ofP (Bwz _ _ _ _ _ ?_ ?_ ?_)) ⟨_,_,rfl,rfl⟩ ?_);(iterate 3 (exact sd));rintro _ _ ⟨rfl,rfl⟩))<;>(try simp (disch:=omega) only [push_cast,seval,Aaz]))
 | (refine Aiz ⟨.inr rfl,[112],[],_,by decide,rfl,?_⟩;(try simp (disch:=omega) only [push_cast,seval,↓Aoz,↓Amz,↓List.map_cons,↓List.map_nil,Aaz]))))
  generalize hZ:zcells [AV.int .i64 0,.val (.slice none 0 0),.val (.slice none 0 0)] vs.length=Z at *
  refine Azz (fun i:Nat=>mkS [(0,.rows false (VLs vs) vs.length),(3,.own 112 vs.length 3),(4,.int .i64 i)] [(112,VLt (vs.take i) ++ Z.drop (i * 3))]) (fun i=>i ≤ vs.length) (fun i=>vs.length - i) 0 (Nat.zero_le _) ?_ ?_
  · (refine Sub.of_lists ?_ ?_ ?_ ?_ ?_<;>simp [Vw.mkS,Vw.lk,Vw.hk,AV.inn,innL,Aqz,Anz,Asz,-List.map_set,-List.getD_eq_getElem?_getD,Aaz,VLt,hzi])
  · intro i hi
    by_cases hlt:i < vs.length
    · obtain ⟨⟨b,sh,st⟩,hvi⟩:∃ v,vs[i]?=some v:=⟨_,List.getElem?_eq_getElem hlt⟩
      have hbb:=hb2 _ (List.mem_of_getElem? hvi)
      simp only at hbb
      have hd:=Brz vs i hvi
      simp only at hd
      have hil:i * 3 + 3 ≤ vs.length * 3:=by omega
      have hst:=VLt_step hvi hzl
      have hwl:(VLt (vs.take i) ++ Z.drop (i * 3)).length=vs.length * 3:=by rw [List.length_append,Doz,List.length_take,List.length_drop,hzl];omega
      have hwi:∀ p:Nat → Bool,innL p (VLt (vs.take (i + 1)) ++ Z.drop ((i + 1) * 3))=true:=fun p=>Hdz fun a ha=>by
        rcases List.mem_append.1 ha with h|h
        · exact Hcz (A1z p _) a h
        · exact Hcz (hzi p) a (List.mem_of_mem_drop h)
      generalize hW:VLt (vs.take i) ++ Z.drop (i * 3)=W at *
      generalize hW2:VLt (vs.take (i + 1)) ++ Z.drop ((i + 1) * 3)=W2 at *
      (repeat' (first
 | (first|refine Ajz ?_|refine Afz ?_)
 | ((first|refine Akz ?_|refine Aez ?_|refine Agz ?_|refine Ahz ?_);simp (disch:=omega) only [push_cast,seval,l10r0,l10r1,l10r2,l10r3,l10r4,l10r5,l10r6,hd,hvl,hil,hwl,Aaz])
 | ((first|refine Abz ?_ ?_|refine Adz ?_ ?_|refine Acz ?_ ?_)<;>intro h<;>(try simp only [h])<;>(try simp only [bitvec_to_nat] at h)<;>(try simp only [h])<;>(first|(exfalso;omega)|(exfalso;simp_all;done)|(simp (disch:=omega) only [push_cast,seval,hd,hvl,hil,hwl,Aaz])|skip))
 | ((first|refine Apz false ?_|refine Alz false ?_);simp (disch:=omega) only [push_cast,seval,hd,hvl,hil,hwl,Aaz])
 | ((first|((first|refine call0D (BCall.ofP (Bwz _ _ _ _ _ ?_ ?_ ?_)) ?_|refine qcall0D (BCall.ofP (Bwz _ _ _ _ _ ?_ ?_ ?_)) ⟨_,_,rfl,rfl⟩ ?_);(iterate 3 (exact sd));rintro _ _ ⟨rfl,rfl⟩))<;>(try simp (disch:=omega) only [push_cast,seval,hd,hvl,hil,hwl,Aaz]))
 | (refine Aiz ⟨.inr rfl,[112],[],_,by decide,rfl,?_⟩;(try simp (disch:=omega) only [push_cast,seval,↓Aoz,↓Amz,↓List.map_cons,↓List.map_nil,hd,hvl,hil,hwl,Aaz]))))
      refine ⟨i + 1,by omega,by omega,?_⟩
      (refine Sub.of_lists ?_ ?_ ?_ ?_ ?_<;>simp [Vw.mkS,Vw.lk,Vw.hk,AV.inn,innL,Aqz,Anz,Asz,-List.map_set,-List.getD_eq_getElem?_getD,hst,hW2,hwi,Aaz])
    · have e:i=vs.length:=by omega
      subst e
      have hfin:VLt (vs.take vs.length) ++ Z.drop (vs.length * 3)=VLt vs:=by rw [List.take_length,List.drop_eq_nil_of_le (by omega),List.append_nil]
      rw [hfin]
      (repeat' (first
 | (first|refine Ajz ?_|refine Afz ?_)
 | ((first|refine Akz ?_|refine Aez ?_|refine Agz ?_|refine Ahz ?_);simp (disch:=omega) only [push_cast,seval,l10r0,l10r1,l10r2,l10r3,l10r4,l10r5,l10r6,Aaz])
 | ((first|refine Abz ?_ ?_|refine Adz ?_ ?_|refine Acz ?_ ?_)<;>intro h<;>(try simp only [h])<;>(try simp only [bitvec_to_nat] at h)<;>(try simp only [h])<;>(first|(exfalso;omega)|(exfalso;simp_all;done)|(simp (disch:=omega) only [push_cast,seval,Aaz])|skip))
 | ((first|refine Apz false ?_|refine Alz false ?_);simp (disch:=omega) only [push_cast,seval,Aaz])
 | ((first|((first|refine call0D (BCall.ofP (Bwz _ _ _ _ _ ?_ ?_ ?_)) ?_|refine qcall0D (BCall.ofP (Bwz _ _ _ _ _ ?_ ?_ ?_)) ⟨_,_,rfl,rfl⟩ ?_);(iterate 3 (exact sd));rintro _ _ ⟨rfl,rfl⟩))<;>(try simp (disch:=omega) only [push_cast,seval,Aaz]))
 | (refine Aiz ⟨.inr rfl,[112],[],_,by decide,rfl,?_⟩;(try simp (disch:=omega) only [push_cast,seval,↓Aoz,↓Amz,↓List.map_cons,↓List.map_nil,Aaz]))))
      all_goals (rw [ren_VLt])


theorem ren_VLtD {ρ:Nat → Option Nat} {Zh:Nat → Option (List AV)} {n:Nat}:∀ vs:List Vw3,(VLt vs).map (AV.ren ρ Zh false phiD (n + 2))=VLs vs
  | []=>rfl
  | v :: r=>by
    simp only [VLt,VLs,List.map_cons,ren_VLtD r,List.cons.injEq,and_true]
    refine ⟨rfl,?_,?_⟩<;>simp [AV.ren,phiD,List.map_map,Function.comp_def]
theorem ren_VLtU {ρ:Nat → Option Nat} {Zh:Nat → Option (List AV)} {n:Nat} {b:Bool}:∀ vs:List Vw3,(VLt vs).map (AV.ren ρ Zh true (phiU b) (n + 2))=VLt vs
  | []=>rfl
  | v :: r=>by
    simp only [VLt,List.map_cons,ren_VLtU r,List.cons.injEq,and_true]
    refine ⟨rfl,?_,?_⟩<;>simp [AV.ren,phiU,List.map_map,Function.comp_def]
attribute [push_cast] ren_VLtD ren_VLtU


theorem toViewSP_ok (vs:List Vw3) (n:Nat) (hn:vs.length=n) (hb:n ≤ 1048576 ∧ ∀ v ∈ vs,v.2.1.length ≤ 1099511627776 ∧ v.2.2.length ≤ 1099511627776):PCall Try.prog 10 [.rows false (VLs vs) n] (fun r=>r=.rows true (VLt vs) n):=by
  refine (BCall.plain (toViewS_ok vs n hn hb)).mono ?_
  rintro r ⟨r0,H',⟨rfl,rfl⟩,rfl⟩
  have e:=ren_VLt (ρ:=fun _=>none) (Zh:=nthH [VLt vs]) (n:=2) vs
  simp [AV.ren,nthH,Doz,hn]
  exact e


set_option maxHeartbeats 8000000 in
theorem Ghz (vs:List Vw3) (n:Nat) (k:Int) (hn:vs.length=n) (hk:0 ≤ k ∧ k ≤ 1048576) (hb:n ≤ 9223372036854775807 ∧ ∀ v ∈ vs,v.2.1.length ≤ 9223372036854775807 ∧ v.2.2.length ≤ 9223372036854775807):PCall Try.prog 8 [.rows false (VLs vs) n,.int .i64 k] (fun r=>∃ z:Int,(0 ≤ z → vs.length ≤ 1048576 ∧ ∀ v ∈ vs,v.2.1.length ≤ 1048576 ∧ v.2.2.length ≤ 1048576) ∧ r=.int .i64 z):=by
  subst hn
  obtain ⟨hb1,hb2⟩:=hb
  refine Axz l8_eq rfl ?_
  have hvl:=Bfz vs
  by_cases h0:k - (vs.length:Int) < 0
  · (repeat' (first
 | (first|refine Ajz ?_|refine Afz ?_)
 | ((first|refine Akz ?_|refine Aez ?_|refine Agz ?_|refine Ahz ?_);simp (disch:=omega) only [push_cast,seval,l8r0,l8r1,l8r2,l8r3,l8r4,l8r5,l8r6,l8r7,l8r8,l8r9,l8r10,h0,Aaz])
 | ((first|refine Abz ?_ ?_|refine Adz ?_ ?_|refine Acz ?_ ?_)<;>intro h<;>(try simp only [h])<;>(try simp only [bitvec_to_nat] at h)<;>(try simp only [h])<;>(first|(exfalso;omega)|(exfalso;simp_all;done)|(simp (disch:=omega) only [push_cast,seval,h0,Aaz])|skip))
 | ((first|refine Apz false ?_|refine Alz false ?_);simp (disch:=omega) only [push_cast,seval,h0,Aaz])
 | ((first|((first|refine call0D (BCall.ofP (Biz _ _ _ _ _ _ ?_ ?_)) ?_|refine qcall0D (BCall.ofP (Biz _ _ _ _ _ _ ?_ ?_)) ⟨_,_,rfl,rfl⟩ ?_);(iterate 2 (exact sd));rintro _ _ ⟨rfl,rfl⟩))<;>(try simp (disch:=omega) only [push_cast,seval,h0,Aaz]))
 | (refine Aiz ⟨.inr rfl,_,rfl,?_⟩;(try simp (disch:=omega) only [push_cast,seval,h0,Aaz]))))
    all_goals exact ⟨_,by omega,rfl⟩
  · (repeat' (first
 | (first|refine Ajz ?_|refine Afz ?_)
 | ((first|refine Akz ?_|refine Aez ?_|refine Agz ?_|refine Ahz ?_);simp (disch:=omega) only [push_cast,seval,l8r0,l8r1,l8r2,l8r3,l8r4,l8r5,l8r6,l8r7,l8r8,l8r9,l8r10,h0,Aaz])
 | ((first|refine Abz ?_ ?_|refine Adz ?_ ?_|refine Acz ?_ ?_)<;>intro h<;>(try simp only [h])<;>(try simp only [bitvec_to_nat] at h)<;>(try simp only [h])<;>(first|(exfalso;omega)|(exfalso;simp_all;done)|(simp (disch:=omega) only [push_cast,seval,h0,Aaz])|skip))
 | ((first|refine Apz false ?_|refine Alz false ?_);simp (disch:=omega) only [push_cast,seval,h0,Aaz])
 | ((first|((first|refine call0D (BCall.ofP (Biz _ _ _ _ _ _ ?_ ?_)) ?_|refine qcall0D (BCall.ofP (Biz _ _ _ _ _ _ ?_ ?_)) ⟨_,_,rfl,rfl⟩ ?_);(iterate 2 (exact sd));rintro _ _ ⟨rfl,rfl⟩))<;>(try simp (disch:=omega) only [push_cast,seval,h0,Aaz]))
 | (refine Aiz ⟨.inr rfl,_,rfl,?_⟩;(try simp (disch:=omega) only [push_cast,seval,h0,Aaz]))))
    refine Azz (fun x:Nat × Int=>mkS [(0,.rows false (VLs vs) vs.length),(1,.int .i64 x.2),(5,.int .i64 x.1)] []) (fun x=>x.1 ≤ vs.length ∧ (0 ≤ x.2 ∧ x.2 ≤ 1048576) ∧ ∀ j v,j < x.1 → vs[j]?=some v → v.2.1.length ≤ 1048576 ∧ v.2.2.length ≤ 1048576) (fun x=>vs.length - x.1) (0,k - vs.length) ⟨Nat.zero_le _,by simp only;omega,fun j v h=>absurd h (Nat.not_lt_zero _)⟩ ?_ ?_
    · (refine Sub.of_lists ?_ ?_ ?_ ?_ ?_<;>simp [Vw.mkS,Vw.lk,Vw.hk,AV.inn,innL,Aqz,Anz,Asz,-List.map_set,-List.getD_eq_getElem?_getD,Aaz])
    · rintro ⟨i,z⟩ ⟨hi,hz,hall⟩
      simp only at hi hz hall ⊢
      by_cases hlt:i < vs.length
      · obtain ⟨⟨b,sh,st⟩,hvi⟩:∃ v,vs[i]?=some v:=⟨_,List.getElem?_eq_getElem hlt⟩
        have hbb:=hb2 _ (List.mem_of_getElem? hvi)
        simp only at hbb
        have hd:=Brz vs i hvi
        simp only at hd
        have hil:i * 3 + 3 ≤ vs.length * 3:=by omega
        by_cases hs:z - (sh.length:Int) - st.length < 0
        · (repeat' (first
 | (first|refine Ajz ?_|refine Afz ?_)
 | ((first|refine Akz ?_|refine Aez ?_|refine Agz ?_|refine Ahz ?_);simp (disch:=omega) only [push_cast,seval,l8r0,l8r1,l8r2,l8r3,l8r4,l8r5,l8r6,l8r7,l8r8,l8r9,l8r10,hd,hvl,hil,hs,Aaz])
 | ((first|refine Abz ?_ ?_|refine Adz ?_ ?_|refine Acz ?_ ?_)<;>intro h<;>(try simp only [h])<;>(try simp only [bitvec_to_nat] at h)<;>(try simp only [h])<;>(first|(exfalso;omega)|(exfalso;simp_all;done)|(simp (disch:=omega) only [push_cast,seval,hd,hvl,hil,hs,Aaz])|skip))
 | ((first|refine Apz false ?_|refine Alz false ?_);simp (disch:=omega) only [push_cast,seval,hd,hvl,hil,hs,Aaz])
 | ((first|((first|refine call0D (BCall.ofP (Biz _ _ _ _ _ _ ?_ ?_)) ?_|refine qcall0D (BCall.ofP (Biz _ _ _ _ _ _ ?_ ?_)) ⟨_,_,rfl,rfl⟩ ?_);(iterate 2 (exact sd));rintro _ _ ⟨rfl,rfl⟩))<;>(try simp (disch:=omega) only [push_cast,seval,hd,hvl,hil,hs,Aaz]))
 | (refine Aiz ⟨.inr rfl,_,rfl,?_⟩; (try simp (disch := omega) only [push_cast,seval,hd,hvl,hil,hs,Aaz]))))
          all_goals exact ⟨_,by omega,rfl⟩
        · (repeat' (first
 | (first|refine Ajz ?_|refine Afz ?_)
 | ((first|refine Akz ?_|refine Aez ?_|refine Agz ?_|refine Ahz ?_);simp (disch:=omega) only [push_cast,seval,l8r0,l8r1,l8r2,l8r3,l8r4,l8r5,l8r6,l8r7,l8r8,l8r9,l8r10,hd,hvl,hil,hs,Aaz])
 | ((first|refine Abz ?_ ?_|refine Adz ?_ ?_|refine Acz ?_ ?_)<;>intro h<;>(try simp only [h])<;>(try simp only [bitvec_to_nat] at h)<;>(try simp only [h])<;>(first|(exfalso;omega)|(exfalso;simp_all;done)|(simp (disch:=omega) only [push_cast,seval,hd,hvl,hil,hs,Aaz])|skip))
 | ((first|refine Apz false ?_|refine Alz false ?_);simp (disch:=omega) only [push_cast,seval,hd,hvl,hil,hs,Aaz])
 | ((first|((first|refine call0D (BCall.ofP (Biz _ _ _ _ _ _ ?_ ?_)) ?_|refine qcall0D (BCall.ofP (Biz _ _ _ _ _ _ ?_ ?_)) ⟨_,_,rfl,rfl⟩ ?_);(iterate 2 (exact sd));rintro _ _ ⟨rfl,rfl⟩))<;>(try simp (disch:=omega) only [push_cast,seval,hd,hvl,hil,hs,Aaz]))
 | (refine Aiz ⟨.inr rfl,_,rfl,?_⟩; (try simp (disch := omega) only [push_cast,seval,hd,hvl,hil,hs,Aaz]))))
          refine ⟨(i + 1,z - sh.length - st.length),⟨by simp only;omega,by simp only;omega,fun j v hj hjv=>?_⟩,by simp only;omega,?_⟩
          · simp only at hj
            by_cases e:j=i
            · subst e;rw [hvi] at hjv;cases hjv;simp only;omega
            · exact hall j v (by omega) hjv
          · (refine Sub.of_lists ?_ ?_ ?_ ?_ ?_<;>simp [Vw.mkS,Vw.lk,Vw.hk,AV.inn,innL,Aqz,Anz,Asz,-List.map_set,-List.getD_eq_getElem?_getD,Aaz])
      · (repeat' (first
 | (first|refine Ajz ?_|refine Afz ?_)
 | ((first|refine Akz ?_|refine Aez ?_|refine Agz ?_|refine Ahz ?_);simp (disch:=omega) only [push_cast,seval,l8r0,l8r1,l8r2,l8r3,l8r4,l8r5,l8r6,l8r7,l8r8,l8r9,l8r10,Aaz])
 | ((first|refine Abz ?_ ?_|refine Adz ?_ ?_|refine Acz ?_ ?_)<;>intro h<;>(try simp only [h])<;>(try simp only [bitvec_to_nat] at h)<;>(try simp only [h])<;>(first|(exfalso;omega)|(exfalso;simp_all;done)|(simp (disch:=omega) only [push_cast,seval,Aaz])|skip))
 | ((first|refine Apz false ?_|refine Alz false ?_);simp (disch:=omega) only [push_cast,seval,Aaz])
 | ((first|((first|refine call0D (BCall.ofP (Biz _ _ _ _ _ _ ?_ ?_)) ?_|refine qcall0D (BCall.ofP (Biz _ _ _ _ _ _ ?_ ?_)) ⟨_,_,rfl,rfl⟩ ?_);(iterate 2 (exact sd));rintro _ _ ⟨rfl,rfl⟩))<;>(try simp (disch:=omega) only [push_cast,seval,Aaz]))
 | (refine Aiz ⟨.inr rfl,_,rfl,?_⟩;(try simp (disch:=omega) only [push_cast,seval,Aaz]))))
        all_goals (refine ⟨_,fun _=>⟨by omega,fun v hv=>?_⟩,rfl⟩;obtain ⟨j,hj,e⟩:=List.mem_iff_getElem.1 hv;exact hall j v (by omega) (by rw [List.getElem?_eq_getElem hj,e]))


set_option maxHeartbeats 8000000 in
theorem eqViewS_ok (vs:List Vw3) (n:Nat) (hn:vs.length=n) (hb:n ≤ 1099511627776 ∧ ∀ v ∈ vs,v.2.1.length ≤ 1099511627776 ∧ v.2.2.length ≤ 1099511627776):PCall Try.prog 13 [.rows false (VLs vs) n,.rows false (VLs vs) n] (fun r=>r=.bool true):=by
  subst hn
  obtain ⟨hb1,hb2⟩:=hb
  refine Axz l13_eq rfl ?_
  have hvl:=Bfz vs
  (repeat' (first
 | (first|refine Ajz ?_|refine Afz ?_)
 | ((first|refine Akz ?_|refine A5z (mid:=l13r5a) (post:=l13r5b) Csz (by decide) ?_|refine Aez ?_|refine Agz ?_|refine Ahz ?_);simp (disch:=omega) only [push_cast,seval,l13r0,l13r1,l13r2,l13r3,l13r4,l13r5a,l13r5b,l13r5,l13r6,l13r7,l13r8,Aaz,decide_true])
 | ((first|refine Abz ?_ ?_|refine Adz ?_ ?_|refine Acz ?_ ?_)<;>intro h<;>(try simp only [h])<;>(try simp only [bitvec_to_nat] at h)<;>(try simp only [h])<;>(first|(exfalso;omega)|(exfalso;simp_all;done)|(simp (disch:=omega) only [push_cast,seval,Aaz,decide_true])|skip))
 | ((first|refine Apz false ?_|refine Alz false ?_);simp (disch:=omega) only [push_cast,seval,Aaz,decide_true])
 | ((first|((first|refine call0D (BCall.ofP (Cez _ _ _ _ _ _ _ _ _ _ ?_ ?_ ?_ ?_ ?_)) ?_|refine qcall0D (BCall.ofP (Cez _ _ _ _ _ _ _ _ _ _ ?_ ?_ ?_ ?_ ?_)) ⟨_,_,rfl,rfl⟩ ?_);(iterate 5 (exact sd));rintro _ _ ⟨rfl,rfl⟩))<;>(try simp (disch:=omega) only [push_cast,seval,Aaz,decide_true]))
 | (refine Aiz ⟨.inr rfl,_,rfl,?_⟩;(try simp (disch:=omega) only [push_cast,seval,Aaz,decide_true]))))
  refine Azz (fun i:Nat=>mkS [(0,.rows false (VLs vs) vs.length),(1,.rows false (VLs vs) vs.length),(5,.int .i64 i)] []) (fun i=>i ≤ vs.length) (fun i=>vs.length - i) 0 (Nat.zero_le _) ?_ ?_
  · (refine Sub.of_lists ?_ ?_ ?_ ?_ ?_<;>simp [Vw.mkS,Vw.lk,Vw.hk,AV.inn,innL,Aqz,Anz,Asz,-List.map_set,-List.getD_eq_getElem?_getD,Aaz])
  · intro i hi
    by_cases hlt:i < vs.length
    · obtain ⟨⟨b,sh,st⟩,hvi⟩:∃ v,vs[i]?=some v:=⟨_,List.getElem?_eq_getElem hlt⟩
      have hbb:=hb2 _ (List.mem_of_getElem? hvi)
      simp only at hbb
      have hq:(sh.length ≤ 1099511627776 ∧ st.length ≤ 1099511627776) ∧ sh.length ≤ 1099511627776 ∧ st.length ≤ 1099511627776:=⟨hbb,hbb⟩
      have hd:=Brz vs i hvi
      simp only at hd
      have hil:i * 3 + 3 ≤ vs.length * 3:=by omega
      (repeat' (first
 | (first|refine Ajz ?_|refine Afz ?_)
 | ((first|refine Akz ?_|refine A5z (mid:=l13r5a) (post:=l13r5b) Csz (by decide) ?_|refine Aez ?_|refine Agz ?_|refine Ahz ?_);simp (disch:=omega) only [push_cast,seval,l13r0,l13r1,l13r2,l13r3,l13r4,l13r5a,l13r5b,l13r5,l13r6,l13r7,l13r8,hd,hvl,hil,Aaz,decide_true,Bool.and_self])
 | ((first|refine Abz ?_ ?_|refine Adz ?_ ?_|refine Acz ?_ ?_)<;>intro h<;>(try simp only [h])<;>(try simp only [bitvec_to_nat] at h)<;>(try simp only [h])<;>(first|(exfalso;omega)|(exfalso;simp_all;done)|(simp (disch:=omega) only [push_cast,seval,hd,hvl,hil,Aaz,decide_true,Bool.and_self])|skip))
 | ((first|refine Apz false ?_|refine Alz false ?_);simp (disch:=omega) only [push_cast,seval,hd,hvl,hil,Aaz,decide_true,Bool.and_self])
 | ((first|((first|refine call0D (BCall.ofP (Cez _ _ _ _ _ _ _ _ _ _ ?_ ?_ ?_ ?_ ?_)) ?_|refine qcall0D (BCall.ofP (Cez _ _ _ _ _ _ _ _ _ _ ?_ ?_ ?_ ?_ ?_)) ⟨_,_,rfl,rfl⟩ ?_);(iterate 5 (exact sd));rintro _ _ ⟨rfl,rfl⟩))<;>(try simp (disch:=omega) only [push_cast,seval,hd,hvl,hil,Aaz,decide_true,Bool.and_self]))
 | (refine Aiz ⟨.inr rfl,_,rfl,?_⟩;(try simp (disch:=omega) only [push_cast,seval,hd,hvl,hil,Aaz,decide_true,Bool.and_self]))))
      refine ⟨i + 1,by omega,by omega,?_⟩
      (refine Sub.of_lists ?_ ?_ ?_ ?_ ?_<;>simp [Vw.mkS,Vw.lk,Vw.hk,AV.inn,innL,Aqz,Anz,Asz,-List.map_set,-List.getD_eq_getElem?_getD,Aaz])
    · (repeat' (first
 | (first|refine Ajz ?_|refine Afz ?_)
 | ((first|refine Akz ?_|refine A5z (mid:=l13r5a) (post:=l13r5b) Csz (by decide) ?_|refine Aez ?_|refine Agz ?_|refine Ahz ?_);simp (disch:=omega) only [push_cast,seval,l13r0,l13r1,l13r2,l13r3,l13r4,l13r5a,l13r5b,l13r5,l13r6,l13r7,l13r8,Aaz])
 | ((first|refine Abz ?_ ?_|refine Adz ?_ ?_|refine Acz ?_ ?_)<;>intro h<;>(try simp only [h])<;>(try simp only [bitvec_to_nat] at h)<;>(try simp only [h])<;>(first|(exfalso;omega)|(exfalso;simp_all;done)|(simp (disch:=omega) only [push_cast,seval,Aaz])|skip))
 | ((first|refine Apz false ?_|refine Alz false ?_);simp (disch:=omega) only [push_cast,seval,Aaz])
 | ((first|((first|refine call0D (BCall.ofP (Cez _ _ _ _ _ _ _ _ _ _ ?_ ?_ ?_ ?_ ?_)) ?_|refine qcall0D (BCall.ofP (Cez _ _ _ _ _ _ _ _ _ _ ?_ ?_ ?_ ?_ ?_)) ⟨_,_,rfl,rfl⟩ ?_);(iterate 5 (exact sd));rintro _ _ ⟨rfl,rfl⟩))<;>(try simp (disch:=omega) only [push_cast,seval,Aaz]))
 | (refine Aiz ⟨.inr rfl,_,rfl,?_⟩;(try simp (disch:=omega) only [push_cast,seval,Aaz]))))

end Go.Proofs.Ytpicoecbbiiaoaa
set_option linter.unusedSimpArgs false
set_option linter.unusedVariables false
set_option maxRecDepth 4000
set_option maxHeartbeats 4000000
namespace Go.Proofs.Ytpicoecbbiiaoaa
open VwM Vw Go

theorem mem_ltS {α:Type} {l:List α} {i:Nat} (h:i < l.length):∃ x,l[i]?=some x:=⟨_,List.getElem?_eq_getElem h⟩
theorem Chz (j:Nat):(j + 1=0)=False:=by simp
theorem Cqz (j:Nat):(0=j + 1)=False:=by simp
theorem swown (a b id n sz:Nat) (h1:id ≠ a) (h2:id ≠ b):(AV.own id n sz).sw a b=.own id n sz:=by simp only [AV.sw,C2z h1 h2]
theorem fimne (d j id:Nat) (h:id < 1099511627776):id ≠ fim d j:=fun e=>by have:=C8z d j;omega
theorem swp112 (a d i n:Nat) (h:n < 1099511627776) (hn:n ≠ a):swp a (fim d i) n=n:=C2z hn (fimne _ _ _ h)
theorem swl2 (a d i m:Nat) (hm:m < 1099511627776) (hn:m ≠ a) (n sz:Nat):(AV.own m n sz).sw a (fim d i)=.own m n sz:=by simp only [AV.sw,swp112 a d i m hm hn]
def cellI (d:Nat) (rows:Nat → List Int) (z:AV) (i p:Nat):AV:=if p < i then .own (fim d p) (rows p).length 1 else z
end Go.Proofs.Ytpicoecbbiiaoaa
set_option linter.unusedSimpArgs false
set_option linter.unusedVariables false
set_option maxRecDepth 4000
set_option maxHeartbeats 4000000
namespace Go.Proofs.Ytpicoecbbiiaoaa
open VwM Vw Go

abbrev vsF (vs:List Vw3):Fam:=vF vs.length (vwB vs) (vwR vs)
theorem vsF_plain (vs:List Vw3):(vsF vs).plain false=VLs vs:=by
  symm
  refine G4z (Bfz vs) fun p hp=>?_
  have hp':p < vs.length * 3:=hp
  obtain ⟨⟨b,x,y⟩,ht⟩:∃ t,vs[p / 3]?=some t:=⟨vs[p / 3]'(by omega),List.getElem?_eq_getElem _⟩
  have hd:=Brz vs (p / 3) ht
  obtain ⟨h0,h1,h2⟩:=vwR_at ht
  have hm:p % 3=0 ∨ p % 3=1 ∨ p % 3=2:=by omega
  rcases hm with e|e|e
  · have:=congrArg (fun l=>l[0]?) hd
    simp only [List.getElem?_take,List.getElem?_drop] at this
    have e2:p / 3 * 3=p:=by omega
    rw [e2] at this
    simp at this
    rw [this]
    simp [Fam.atP,vF,patV,e,h0]
  · have:=congrArg (fun l=>l[1]?) hd
    simp only [List.getElem?_take,List.getElem?_drop] at this
    have e2:p / 3 * 3 + 1=p:=by omega
    rw [e2] at this
    simp at this
    rw [this]
    simp [Fam.atP,vF,patV,e,h1]
  · have:=congrArg (fun l=>l[2]?) hd
    simp only [List.getElem?_take,List.getElem?_drop] at this
    have e2:p / 3 * 3 + 2=p:=by omega
    rw [e2] at this
    simp at this
    rw [this]
    simp [Fam.atP,vF,patV,e,h2]
attribute [push_cast] vF_C vF_R vsF_plain
theorem swL_VLs (a b:Nat):∀ vs:List Vw3,swL a b (VLs vs)=VLs vs
  | []=>rfl
  | v :: r=>by
    have h:∀ xs:List Int,swL a b (List.map (AV.int .i64) xs)=List.map (AV.int .i64) xs:=fun xs=>E7z a b xs
    simp only [VLs,swL,AV.sw,swL_VLs a b r]
    simp [h]
def cellV (bs:Nat → Int) (rows:Nat → List Int) (i p:Nat):AV:=if p < i * 3 then (if p % 3=0 then .int .i64 (bs (p / 3)) else .own (fim 7 (p / 3 * 2 + (p % 3 - 1))) (rows (p / 3 * 2 + (p % 3 - 1))).length 1) else (if p % 3=0 then .int .i64 0 else .val (.slice none 0 0))
theorem cellV_inn {bs:Nat → Int} {rows:Nat → List Int} {i p:Nat} (c1:List AV) (id0:Nat):(cellV bs rows i p).inn (fun id=>(hk ((id0,c1) :: famR 7 rows (i * 2)) id).isSome)=true:=by
  unfold cellV
  split
  · split
    · rfl
    · simp only [AV.inn,hk]
      split
      · rfl
      · rw [Erz 7 rows _ _ (by omega)];rfl
  · split<;>rfl




set_option maxHeartbeats 8000000 in
theorem E6z (vs:List Vw3) (n:Nat) (hn:vs.length=n) (hb:n ≤ 1048576 ∧ ∀ v ∈ vs,v.2.1.length ≤ 1099511627776 ∧ v.2.2.length ≤ 1099511627776):BCall Try.prog 10 [.rows false (VLs vs) n] [] (fun r H'=>r=.own 0 n 3 ∧ H'=(vsF vs).cellsG (· + 1) :: (vsF vs).conts):=by
  subst hn
  obtain ⟨hb1,hb2⟩:=hb
  refine Bkz (pins:=[]) (pin:=0) l10_eq rfl rfl rfl ?_
  have hvl:=Bfz vs
  have hzl:(zcells [AV.int .i64 0,.val (.slice none 0 0),.val (.slice none 0 0)] vs.length).length=vs.length * 3:=by simp [zcells,Nat.mul_comm]
  (repeat' (first
 | (first|refine Ajz ?_|refine Afz ?_)
 | ((first|refine Akz ?_|refine Aez ?_|refine Agz ?_|refine Ahz ?_);simp (disch:=omega) only [push_cast,seval,l10r0,l10r1,l10r2,l10r3,l10r4,l10r5,l10r6,Aaz])
 | ((first|refine Abz ?_ ?_|refine Adz ?_ ?_|refine Acz ?_ ?_)<;>intro h<;>(try simp only [h])<;>(try simp only [bitvec_to_nat] at h)<;>(try simp only [h])<;>(first|(exfalso;omega)|(exfalso;simp_all;done)|(simp (disch:=omega) only [push_cast,seval,Aaz])|skip))
 | ((first|refine Apz false ?_|refine Alz false ?_);simp (disch:=omega) only [push_cast,seval,Aaz])
 | ((first|((first|refine call0D (Bxz _ _ _ _ _ ?_ ?_ ?_) ?_|refine qcall0D (Bxz _ _ _ _ _ ?_ ?_ ?_) ⟨_,_,rfl,rfl⟩ ?_);(iterate 3 (exact sd));rintro _ _ ⟨rfl,rfl⟩))<;>(try simp (disch:=omega) only [push_cast,seval,Aaz]))
 | (refine Aiz ⟨.inr rfl,[112],[],_,by decide,rfl,?_⟩;(try simp (disch:=omega) only [push_cast,seval,↓Aoz,↓Amz,↓List.map_cons,↓List.map_nil,Aaz]))))
  refine F6z (fun i:Nat=>mkS [(0,.rows false (VLs vs) vs.length),(3,.own 112 vs.length 3),(4,.int .i64 i)] ((112,row (vs.length * 3) (cellV (vwB vs) (vwR vs) i)) :: famR 7 (vwR vs) (i * 2))) (fun i=>i ≤ vs.length) (fun i=>vs.length - i) 0 (Nat.zero_le _) ?_ ?_
  · refine SubW.of ?_
    have e:row (vs.length * 3) (cellV (vwB vs) (vwR vs) 0)=zcells [AV.int .i64 0,.val (.slice none 0 0),.val (.slice none 0 0)] vs.length:=by
      symm
      refine G4z hzl fun p hp=>?_
      unfold zcells
      rw [List.getElem?_map,List.getElem?_range (by simpa using hp)]
      have hm:p % 3=0 ∨ p % 3=1 ∨ p % 3=2:=by omega
      rcases hm with h|h|h<;>simp [h,cellV]
    have hzi:∀ P:Nat → Bool,innL P (row (vs.length * 3) (cellV (vwB vs) (vwR vs) 0))=true:=fun P=>innL_row _ _ _ fun p _=>by unfold cellV;rw [if_neg (by omega)];split<;>rfl
    rw [Nat.zero_mul,famR_zero]
    rw [e] at hzi
    rw [e]
    generalize zcells [AV.int .i64 0,.val (.slice none 0 0),.val (.slice none 0 0)] vs.length=Z at *
    (refine Sub.of_lists ?_ ?_ ?_ ?_ ?_<;>simp [Vw.mkS,Vw.lk,Vw.hk,AV.inn,innL,Aqz,Anz,Asz,-List.map_set,-List.getD_eq_getElem?_getD,Aaz,VLs,hzi])
  · intro i hi
    by_cases hlt:i < vs.length
    · obtain ⟨⟨b,x,y⟩,hti⟩:=mem_ltS hlt
      have hbb:x.length ≤ 1099511627776 ∧ y.length ≤ 1099511627776:=hb2 _ (List.mem_of_getElem? hti)
      have hd:=Brz vs i hti
      simp only at hd
      have hil:i * 3 + 3 ≤ vs.length * 3:=by omega
      have hwl:=Dfz (vs.length * 3) (cellV (vwB vs) (vwR vs) i)
      obtain ⟨hr,hr0,hr1⟩:=vwR_at hti
      (repeat' (first
 | (first|refine Ajz ?_|refine Afz ?_)
 | ((first|refine Akz ?_|refine Aez ?_|refine Agz ?_|refine Ahz ?_);simp (disch:=omega) only [push_cast,seval,l10r0,l10r1,l10r2,l10r3,l10r4,l10r5,l10r6,hd,hvl,hil,hwl,Aaz])
 | ((first|refine Abz ?_ ?_|refine Adz ?_ ?_|refine Acz ?_ ?_)<;>intro h<;>(try simp only [h])<;>(try simp only [bitvec_to_nat] at h)<;>(try simp only [h])<;>(first|(exfalso;omega)|(exfalso;simp_all;done)|(simp (disch:=omega) only [push_cast,seval,hd,hvl,hil,hwl,Aaz])|skip))
 | ((first|refine Apz false ?_|refine Alz false ?_);simp (disch:=omega) only [push_cast,seval,hd,hvl,hil,hwl,Aaz])
 | ((first|((first|refine call0D (Bxz _ _ _ _ _ ?_ ?_ ?_) ?_|refine qcall0D (Bxz _ _ _ _ _ ?_ ?_ ?_) ⟨_,_,rfl,rfl⟩ ?_);(iterate 3 (exact sd));rintro _ _ ⟨rfl,rfl⟩))<;>(try simp (disch:=omega) only [push_cast,seval,hd,hvl,hil,hwl,Aaz]))))
      refine ⟨i + 1,by omega,by omega,?_⟩
      rw [show (i + 1) * 2=i * 2 + 2 by omega]
      refine SubW.fam2 (a:=320) (b:=321) (d:=7) (i:=i * 2) (id0:=112) (rows:=vwR vs) (c0:=(((row (vs.length * 3) (cellV (vwB vs) (vwR vs) i)).set (i * 3) (.int .i64 b)).set (i * 3 + 1) (.own 320 x.length 1)).set (i * 3 + 2) (.own 321 y.length 1)) ?_ ?_ ?_ ⟨by omega,by omega,by omega⟩ ?_ ?_ ?_ ?_ ?_
      · rw [hr0];rfl
      · rw [hr1];rfl
      · rfl
      · intro j hj
        simp only [hk,F0z 7 j 112 (by omega),F0z 7 j 320 (by omega),F0z 7 j 321 (by omega),if_false]
        exact Erz _ _ _ _ hj
      · rw [G2z,G2z,G2z,Cjz,Cjz]
        refine Bjz fun p hp=>?_
        by_cases e:p=i * 3 + 2
        · subst e
          rw [Auz,swl2 _ _ _ _ (by omega) (by omega)]
          unfold cellV
          rw [if_pos (by omega),if_neg (by omega),show (i * 3 + 2) / 3 * 2 + ((i * 3 + 2) % 3 - 1)=i * 2 + 1 by omega,hr1]
          simp only [AV.sw,swp_fst]
        · rw [Atz _ _ _ _ e]
          by_cases e':p=i * 3 + 1
          · subst e'
            rw [Auz]
            unfold cellV
            rw [if_pos (by omega),if_neg (by omega),show (i * 3 + 1) / 3 * 2 + ((i * 3 + 1) % 3 - 1)=i * 2 by omega,hr0]
            simp only [AV.sw,swp_fst]
            rw [C2z (Ne.symm (fimne _ _ _ (by omega))) (fun e'=>by have:=B7z e';omega)]
          · rw [Atz _ _ _ _ e']
            by_cases e2:p=i * 3
            · subst e2
              rw [Auz]
              unfold cellV
              rw [if_pos (by omega),if_pos (by omega),show i * 3 / 3=i by omega,hr]
              rfl
            · rw [Atz _ _ _ _ e2]
              unfold cellV
              by_cases hpi:p < i * 3
              · have hp2:p < (i + 1) * 3:=by omega
                rw [if_pos hpi,if_pos hp2]
                by_cases h3:p % 3=0
                · rw [if_pos h3];rfl
                · rw [if_neg h3,swown _ _ _ _ _ (Ne.symm (fimne _ _ _ (by omega))) (fun e'=>by have:=B7z e';omega)]
                  exact swown _ _ _ _ _ (Ne.symm (fimne _ _ _ (by omega))) (fun e'=>by have:=B7z e';omega)
              · have hp2:¬ p < (i + 1) * 3:=by omega
                rw [if_neg hpi,if_neg hp2]
                by_cases h3:p % 3=0
                · rw [if_pos h3];rfl
                · rw [if_neg h3];rfl
      · simp [lk,AV.sw,swL_VLs,swp112]
      · simp [AV.inn,Aaz,hk]
      · exact innL_row _ _ _ fun p _=>by rw [show i * 2 + 2=(i + 1) * 2 by omega];exact cellV_inn _ _
    · have e:i=vs.length:=by omega
      subst e
      (repeat' (first
 | (first|refine Ajz ?_|refine Afz ?_)
 | ((first|refine Akz ?_|refine Aez ?_|refine Agz ?_|refine Ahz ?_);simp (disch:=omega) only [push_cast,seval,l10r0,l10r1,l10r2,l10r3,l10r4,l10r5,l10r6,Aaz])
 | ((first|refine Abz ?_ ?_|refine Adz ?_ ?_|refine Acz ?_ ?_)<;>intro h<;>(try simp only [h])<;>(try simp only [bitvec_to_nat] at h)<;>(try simp only [h])<;>(first|(exfalso;omega)|(exfalso;simp_all;done)|(simp (disch:=omega) only [push_cast,seval,Aaz])|skip))
 | ((first|refine Apz false ?_|refine Alz false ?_);simp (disch:=omega) only [push_cast,seval,Aaz])
 | ((first|((first|refine call0D (Bxz _ _ _ _ _ ?_ ?_ ?_) ?_|refine qcall0D (Bxz _ _ _ _ _ ?_ ?_ ?_) ⟨_,_,rfl,rfl⟩ ?_);(iterate 3 (exact sd));rintro _ _ ⟨rfl,rfl⟩))<;>(try simp (disch:=omega) only [push_cast,seval,Aaz]))))
      refine Aiz ⟨.inr rfl,ret_famS (F:=vsF vs) (d:=7) rfl ?_ ?_ (by omega)⟩
      · simp only [hk,if_true]
        congr 1
        exact Bjz fun p hp=>by
          unfold cellV
          rw [if_pos hp]
          simp only [Fam.atG,vF,patV]
          by_cases h3:p % 3=0
          · rw [if_pos h3,if_pos h3]
          · rw [if_neg h3,if_neg h3]
      · intro j hj
        simp only [hk,F0z 7 j 112 (by omega),if_false]
        exact Erz _ _ _ _ hj


set_option maxHeartbeats 8000000 in
theorem Eaz (n:Nat) (bs0:Nat → Int) (rows0:Nat → List Int) (k:Int) (hk:0 ≤ k ∧ k ≤ 1125899906842624) (hb:n ≤ 1048576 ∧ ∀ j,(rows0 j).length ≤ 1048576):BCall Try.prog 14 [.own 0 n 3,.int .i64 k] ((vF n bs0 rows0).cellsG (· + 1) :: (vF n bs0 rows0).conts) (fun r H'=>∃ G k',(k ≤ k' ∧ k' ≤ k + 4398046511104) ∧ (vF n bs0 rows0).like G ∧ r=.int .i64 k' ∧ H'=G.cellsG (· + 1) :: G.conts):=by
  obtain ⟨hb2,hb3⟩:=hb
  have hb1:=hk
  clear hk
  refine Bkz (pins:=List.range (n * 2 + 1)) (pin:=n * 2 + 1) l14_eq rfl (by simp [B2z,vF_R]) (by simp [B2z,vF_R]) ?_
  rw [initB_fam,vF_R,show (vF n bs0 rows0).rows=rows0 from rfl]
  obtain ⟨cc,hcc⟩:∃ cc:(Nat → Int) → List AV,cc=fun bs=>(vF n bs rows0).cellsG (· + 1):=⟨_,rfl⟩
  have hc0:(vF n bs0 rows0).cellsG (· + 1)=cc bs0:=by rw [hcc]
  have hcl:∀ bs,(cc bs).length=n * 3:=fun bs=>by rw [hcc];exact Bvz ..
  have hset:∀ bs i x,(cc bs).set (i * 3) (.int .i64 x)=cc (upd bs i x):=fun bs i x=>by rw [hcc];exact vF_set ..
  have hat1:∀ bs i,i < n → ((cc bs).drop (i * 3 + 1)).take 1=[.own (i * 2 + 1) (rows0 (i * 2)).length 1]:=fun bs i hi=>by
    rw [hcc]
    simp only [Fam.cellsG]
    rw [vF_C,row_1 _ _ _ (by omega),vF_1]
  have hat2:∀ bs i,i < n → ((cc bs).drop (i * 3 + 2)).take 1=[.own (i * 2 + 1 + 1) (rows0 (i * 2 + 1)).length 1]:=fun bs i hi=>by
    rw [hcc]
    simp only [Fam.cellsG]
    rw [vF_C,row_1 _ _ _ (by omega),vF_2]
  have hret:∀ (bs:Nat → Int) (rows:Nat → List Int),(∀ j,(rows j).length=(rows0 j).length) → ∃ G:Fam,(vF n bs0 rows0).like G ∧ G.rows=rows ∧ G.R=n * 2 ∧ cc bs=G.cellsG (· + 1):=fun bs rows hl=>by
    refine ⟨vF n bs rows,⟨rfl,rfl,fun j _=>hl j⟩,rfl,rfl,?_⟩
    rw [hcc]
    simp only [Fam.cellsG]
    refine Bjz fun p _=>?_
    simp only [Fam.atG,vF,hl]
  rw [hc0]
  (repeat' (first
 | (first|refine Ajz ?_|refine Afz ?_)
 | ((first|refine Akz ?_|refine Aez ?_|refine Agz ?_|refine Ahz ?_);simp (disch:=omega) only [push_cast,seval,l14r0,l14r1,l14r2,l14r3,l14r4,l14r5,l14r6,l14r7,l14r8])
 | ((first|refine Abz ?_ ?_|refine Adz ?_ ?_|refine Acz ?_ ?_)<;>intro h<;>(try simp only [h])<;>(try simp only [bitvec_to_nat] at h)<;>(try simp only [h])<;>(first|(exfalso;omega)|(exfalso;simp_all;done)|(simp (disch:=omega) only [push_cast,seval])|skip))
 | ((first|((with_reducible refine qcallI_of (f:=15) [400] false ?_);simp (disch:=omega) only [push_cast,seval];(refine Bhz (id:=400) (Avz _ _ _ ?_ ?_) (by (simp (disch:=omega) only [push_cast,seval])<;>rfl) (by decide) ⟨_,_,rfl,rfl⟩ ?_;(iterate 2 (exact sd));rintro _ _ ⟨rfl,rfl⟩))|((with_reducible refine qcallI_of (f:=15) [512] false ?_);simp (disch:=omega) only [push_cast,seval];(refine Bhz (id:=512) (Avz _ _ _ ?_ ?_) (by (simp (disch:=omega) only [push_cast,seval])<;>rfl) (by decide) ⟨_,_,rfl,rfl⟩ ?_;(iterate 2 (exact sd));rintro _ _ ⟨rfl,rfl⟩))|((with_reducible refine callD_ids (f:=15) [400] false ?_);simp (disch:=omega) only [push_cast,seval];(refine Bnz (id:=400) (Avz _ _ _ ?_ ?_) (by (simp (disch:=omega) only [push_cast,seval])<;>rfl) ?_;(iterate 2 (exact sd));rintro _ _ ⟨rfl,rfl⟩))|((with_reducible refine callD_ids (f:=15) [512] false ?_);simp (disch:=omega) only [push_cast,seval];(refine Bnz (id:=512) (Avz _ _ _ ?_ ?_) (by (simp (disch:=omega) only [push_cast,seval])<;>rfl) ?_;(iterate 2 (exact sd));rintro _ _ ⟨rfl,rfl⟩)))<;>(try simp (disch:=omega) only [push_cast,seval]))))
  refine F6z (fun x:Nat × Int × (Nat → List Int) × (Nat → Int)=>mkS [(0,.own 0 n 3),(1,.int .i64 x.2.1),(5,.int .i64 x.1)] ((0,cc x.2.2.2) :: pinR x.2.2.1 (n * 2))) (fun x=>x.1 ≤ n ∧ (k ≤ x.2.1 ∧ x.2.1 ≤ k + x.1 * 4194304) ∧ ∀ j,(x.2.2.1 j).length=(rows0 j).length) (fun x=>n - x.1) (0,k,rows0,bs0) ⟨Nat.zero_le _,by simp,fun _=>rfl⟩ ?_ ?_
  · refine SubW.slots ?_
    simp [lk]
  · rintro ⟨i,kk,rows,bs⟩ ⟨hi,hkk,hl⟩
    simp only at hi hkk hl ⊢
    by_cases hlt:i < n
    · have hd:=hat1 (upd bs i kk) i hlt
      have hd2:=hat2 (upd bs i kk) i hlt
      have hkp:=Dyz rows (n * 2) (i * 2) (by omega)
      have hkp2:=Dyz rows (n * 2) (i * 2 + 1) (by omega)
      have hli:=hl (i * 2)
      have hbi:=hb3 (i * 2)
      have hli2:=hl (i * 2 + 1)
      have hbi2:=hb3 (i * 2 + 1)
      have hil:i * 3 + 3 ≤ n * 3:=by omega
      have hne:(i * 2 + 1 + 1=i * 2 + 1)=False:=by simp
      have hst:=hset bs i kk
      have hcl1:=hcl bs
      have hcl2:=hcl (upd bs i kk)
      generalize hLL:(rows0 (i * 2)).length=L at *
      generalize hLL2:(rows0 (i * 2 + 1)).length=L2 at *
      (repeat' (first
 | (first|refine Ajz ?_|refine Afz ?_)
 | ((first|refine Akz ?_|refine Aez ?_|refine Agz ?_|refine Ahz ?_);simp (disch:=omega) only [push_cast,seval,l14r0,l14r1,l14r2,l14r3,l14r4,l14r5,l14r6,l14r7,l14r8,hst,hd,hd2,hkp,hkp2,hli,hli2,hcl1,hcl2,hil,hne,Chz,Cqz])
 | ((first|refine Abz ?_ ?_|refine Adz ?_ ?_|refine Acz ?_ ?_)<;>intro h<;>(try simp only [h])<;>(try simp only [bitvec_to_nat] at h)<;>(try simp only [h])<;>(first|(exfalso;omega)|(exfalso;simp_all;done)|(simp (disch:=omega) only [push_cast,seval,hst,hd,hd2,hkp,hkp2,hli,hli2,hcl1,hcl2,hil,hne,Chz,Cqz])|skip))
 | ((first|((with_reducible refine callD_ids (f:=15) [(i * 2 + 1)] false ?_);simp (disch:=omega) only [push_cast,seval,hst,hd,hd2,hkp,hkp2,hli,hli2,hcl1,hcl2,hil,hne,Chz,Cqz];(refine Bnz (id:=(i * 2 + 1)) (Avz _ _ _ ?_ ?_) (by (simp (disch:=omega) only [push_cast,seval,hst,hd,hd2,hkp,hkp2,hli,hli2,hcl1,hcl2,hil,hne,Chz,Cqz])<;>rfl) ?_;(iterate 2 (exact sd));rintro _ _ ⟨rfl,rfl⟩))|((with_reducible refine callD_ids (f:=15) [(i * 2 + 1 + 1)] false ?_);simp (disch:=omega) only [push_cast,seval,hst,hd,hd2,hkp,hkp2,hli,hli2,hcl1,hcl2,hil,hne,Chz,Cqz];(refine Bnz (id:=(i * 2 + 1 + 1)) (Avz _ _ _ ?_ ?_) (by (simp (disch:=omega) only [push_cast,seval,hst,hd,hd2,hkp,hkp2,hli,hli2,hcl1,hcl2,hil,hne,Chz,Cqz])<;>rfl) ?_;(iterate 2 (exact sd));rintro _ _ ⟨rfl,rfl⟩)))<;>(try simp (disch:=omega) only [push_cast,seval,hst,hd,hd2,hkp,hkp2,hli,hli2,hcl1,hcl2,hil,hne,Chz,Cqz]))))
      refine ⟨(i + 1,kk + 1 + L + L2,upd (upd rows (i * 2) (upFrom (kk + 1) L)) (i * 2 + 1) (upFrom (kk + 1 + L) L2),upd bs i kk),⟨by simp only;omega,by simp only;omega,fun j=>?_⟩,by simp only;omega,?_⟩
      · simp only
        by_cases e:j=i * 2 + 1
        · subst e;rw [Auz,hLL2];simp [upFrom]
        · rw [Atz _ _ _ _ e]
          by_cases e:j=i * 2
          · subst e;rw [Auz,hLL];simp [upFrom]
          · rw [Atz _ _ _ _ e];exact hl j
      · refine SubW.heq (H':=(0,cc (upd bs i kk)) :: pinR (upd (upd rows (i * 2) (upFrom (kk + 1) L)) (i * 2 + 1) (upFrom (kk + 1 + L) L2)) (n * 2)) (fun id=>?_) (SubW.slots ?_)
        · rw [pinR_upd (by omega) id]
          simp only [hk]
          by_cases e:id=i * 2 + 1 + 1
          · rw [if_pos e,if_pos e]
          · rw [if_neg e,if_neg e]
            have h2:=pinR_upd (rows:=rows) (n:=n * 2) (j:=i * 2) (xs:=upFrom (kk + 1) L) (c0:=cc (upd bs i kk)) (by omega) id
            simp only [hk] at h2
            by_cases e0:id=0
            · subst e0;simp
            · rw [if_neg e0] at h2
              simp only [if_neg e0] at h2 ⊢
              exact h2
        · simp [lk]
    · have e:i=n:=by omega
      subst e
      (repeat' (first
 | (first|refine Ajz ?_|refine Afz ?_)
 | ((first|refine Akz ?_|refine Aez ?_|refine Agz ?_|refine Ahz ?_);simp (disch:=omega) only [push_cast,seval,l14r0,l14r1,l14r2,l14r3,l14r4,l14r5,l14r6,l14r7,l14r8,hcl])
 | ((first|refine Abz ?_ ?_|refine Adz ?_ ?_|refine Acz ?_ ?_)<;>intro h<;>(try simp only [h])<;>(try simp only [bitvec_to_nat] at h)<;>(try simp only [h])<;>(first|(exfalso;omega)|(exfalso;simp_all;done)|(simp (disch:=omega) only [push_cast,seval,hcl])|skip))
 | ((first|((with_reducible refine qcallI_of (f:=15) [400] false ?_);simp (disch:=omega) only [push_cast,seval,hcl];(refine Bhz (id:=400) (Avz _ _ _ ?_ ?_) (by (simp (disch:=omega) only [push_cast,seval,hcl])<;>rfl) (by decide) ⟨_,_,rfl,rfl⟩ ?_;(iterate 2 (exact sd));rintro _ _ ⟨rfl,rfl⟩))|((with_reducible refine qcallI_of (f:=15) [512] false ?_);simp (disch:=omega) only [push_cast,seval,hcl];(refine Bhz (id:=512) (Avz _ _ _ ?_ ?_) (by (simp (disch:=omega) only [push_cast,seval,hcl])<;>rfl) (by decide) ⟨_,_,rfl,rfl⟩ ?_;(iterate 2 (exact sd));rintro _ _ ⟨rfl,rfl⟩))|((with_reducible refine callD_ids (f:=15) [400] false ?_);simp (disch:=omega) only [push_cast,seval,hcl];(refine Bnz (id:=400) (Avz _ _ _ ?_ ?_) (by (simp (disch:=omega) only [push_cast,seval,hcl])<;>rfl) ?_;(iterate 2 (exact sd));rintro _ _ ⟨rfl,rfl⟩))|((with_reducible refine callD_ids (f:=15) [512] false ?_);simp (disch:=omega) only [push_cast,seval,hcl];(refine Bnz (id:=512) (Avz _ _ _ ?_ ?_) (by (simp (disch:=omega) only [push_cast,seval,hcl])<;>rfl) ?_;(iterate 2 (exact sd));rintro _ _ ⟨rfl,rfl⟩)))<;>(try simp (disch:=omega) only [push_cast,seval,hcl]))))
      refine Aiz ⟨.inr rfl,ret_pinS (fun _=>rfl) (by omega) (hret bs rows hl)⟩

end Go.Proofs.Ytpicoecbbiiaoaa
set_option linter.unusedSimpArgs false
set_option linter.unusedVariables false
set_option maxRecDepth 4000
set_option maxHeartbeats 4000000
namespace Go.Proofs.Ytpicoecbbiiaoaa
open VwM Vw Go

theorem vsF_b {vs:List Vw3} {n:Nat} (h1:vs.length ≤ n) (h:∀ v ∈ vs,v.2.1.length ≤ 1048576 ∧ v.2.2.length ≤ 1048576):vs.length ≤ n ∧ ∀ j,(vwR vs j).length ≤ 1048576:=by
  refine ⟨h1,fun j=>?_⟩
  unfold vwR
  by_cases hj:j / 2 < vs.length
  · have:=h vs[j / 2] (List.getElem_mem hj)
    rw [show vs.getD (j / 2) (0,[],[])=vs[j / 2] by simp [List.getD,hj]]
    split<;>omega
  · rw [show vs.getD (j / 2) (0,[],[])=(0,[],[]) by simp [List.getD,hj]]
    split<;>simp
theorem flat_V4:∀ x0:List (Int × List Int × List Int × Unit),(x0.flatMap fun p=>Vw.enI p.1 ++ (Vw.enS Vw.enI p.2.1 ++ (Vw.enS Vw.enI p.2.2.1 ++ [])))=VLs (x0.map fun p=>(p.1,p.2.1,p.2.2.1))
  | []=>rfl
  | p :: r=>by
    rw [List.flatMap_cons,flat_V4 r]
    simp [Vw.enI,Vw.enS,Vw.flat_ints,VLs]


set_option maxHeartbeats 32000000 in
theorem lHO_ok (vs:List Vw3) (k:Int) (hn:vs.length ≤ 9223372036854775807) (hb:∀ v ∈ vs,v.2.1.length ≤ 9223372036854775807 ∧ v.2.2.length ≤ 9223372036854775807):PCall Try.prog 3 [.rows false (VLs vs) vs.length,.int .i64 k] (fun r=>r=.bool true):=by
  refine Axz l3_eq rfl ?_
  have hq:vs.length ≤ 9223372036854775807 ∧ ∀ v ∈ vs,v.2.1.length ≤ 9223372036854775807 ∧ v.2.2.length ≤ 9223372036854775807:=⟨hn,hb⟩
  (repeat' (first
 | (first|refine Ajz ?_|refine Afz ?_)
 | ((first|refine Akz ?_|refine Aez ?_|refine Agz ?_|refine Ahz ?_);simp (disch:=omega) only [push_cast,seval,l3r0,l3r1,l3r2,l3r3,l3r4,l3r5,l3r6,l3r7,l3r8,l3r9,l3r10,l3r11,l3r12,l3r13,l3r14,l3r15,l3r16,l3r17,l3r18,l3r19,l3r20,l3r21,l3r22,l3r23,l3r24,l3r25,l3r26,l3r27,l3r28,l3r29,l3r30,l3r31,l3r32,l3r33,Aaz])
 | ((first|refine Abz ?_ ?_|refine Adz ?_ ?_|refine Acz ?_ ?_)<;>intro h<;>(try simp only [h])<;>(try simp only [bitvec_to_nat] at h)<;>(try simp only [h])<;>(first|(exfalso;omega)|(exfalso;simp_all;done)|(simp (disch:=omega) only [push_cast,seval,Aaz])|skip))
 | ((first|((with_reducible refine Apz (f:=10) false ?_);simp (disch:=omega) only [push_cast,seval,Aaz];(refine callFN (E6z _ _ ?_ ?_) (by (simp (disch:=omega) only [push_cast,seval,Aaz]);done) ?_;(iterate 2 (exact sd))))|((with_reducible refine callE_of (f:=14) ?_);simp (disch:=omega) only [push_cast,seval,Aaz];(refine callFM (Eaz _ _ _ _ ?_ ?_) (by (simp (disch:=omega) only [push_cast,seval,Aaz])<;>rfl) (by first|((simp (disch:=omega) only [push_cast,seval,Aaz]);done)|omega) (by first|((simp (disch:=omega) only [push_cast,seval,Aaz]);done)|((simp (disch:=omega) only [push_cast,seval,Aaz]);assumption)) (fun G kk hkk hG=>?_);(iterate 2 (exact sd))))|((with_reducible refine qcallI_of (f:=15) [416] false ?_);simp (disch:=omega) only [push_cast,seval,Aaz];(refine Bhz (id:=416) (Avz _ _ _ ?_ ?_) (by (simp (disch:=omega) only [push_cast,seval,Aaz])<;>rfl) (by decide) ⟨_,_,rfl,rfl⟩ ?_;(iterate 2 (exact sd));rintro _ _ ⟨rfl,rfl⟩))|((with_reducible refine qcallI_of (f:=15) [784] false ?_);simp (disch:=omega) only [push_cast,seval,Aaz];(refine Bhz (id:=784) (Avz _ _ _ ?_ ?_) (by (simp (disch:=omega) only [push_cast,seval,Aaz])<;>rfl) (by decide) ⟨_,_,rfl,rfl⟩ ?_;(iterate 2 (exact sd));rintro _ _ ⟨rfl,rfl⟩))|((with_reducible refine callD_ids (f:=15) [416] false ?_);simp (disch:=omega) only [push_cast,seval,Aaz];(refine Bnz (id:=416) (Avz _ _ _ ?_ ?_) (by (simp (disch:=omega) only [push_cast,seval,Aaz])<;>rfl) ?_;(iterate 2 (exact sd));rintro _ _ ⟨rfl,rfl⟩))|((with_reducible refine callD_ids (f:=15) [784] false ?_);simp (disch:=omega) only [push_cast,seval,Aaz];(refine Bnz (id:=784) (Avz _ _ _ ?_ ?_) (by (simp (disch:=omega) only [push_cast,seval,Aaz])<;>rfl) ?_;(iterate 2 (exact sd));rintro _ _ ⟨rfl,rfl⟩)))<;>(try simp (disch:=omega) only [push_cast,seval,Aaz]))
 | ((first|refine Apz false ?_|refine Alz false ?_);simp (disch:=omega) only [push_cast,seval,Aaz])
 | ((first|(refine call0D (BCall.ofP (Ghz _ _ _ ?_ ?_ ?_)) ?_;(iterate 3 (exact sd));rintro _ _ ⟨⟨z,hz,rfl⟩,rfl⟩)|((first|refine call0D (BCall.ofP (toViewSP_ok _ _ ?_ ?_)) ?_|refine qcall0D (BCall.ofP (toViewSP_ok _ _ ?_ ?_)) ⟨_,_,rfl,rfl⟩ ?_);(iterate 2 (exact sd));rintro _ _ ⟨rfl,rfl⟩)|((first|refine call0D (sHo_ok _ _ _ ?_ ?_) ?_|refine qcall0D (sHo_ok _ _ _ ?_ ?_) ⟨_,_,rfl,rfl⟩ ?_);(iterate 2 (exact sd));rintro _ _ ⟨rfl,rfl⟩)|((first|refine call0D (iHo_ok _ _ _ ?_ ?_) ?_|refine qcall0D (iHo_ok _ _ _ ?_ ?_) ⟨_,_,rfl,rfl⟩ ?_);(iterate 2 (exact sd));rintro _ _ ⟨rfl,rfl⟩)|((first|refine call0D (BCall.ofP (eqIntS_ok _ _ _ _ ?_ ?_ ?_)) ?_|refine qcall0D (BCall.ofP (eqIntS_ok _ _ _ _ ?_ ?_ ?_)) ⟨_,_,rfl,rfl⟩ ?_);(iterate 3 (exact sd));rintro _ _ ⟨rfl,rfl⟩)|((first|refine call0D (BCall.ofP (eqViewS_ok _ _ ?_ ?_)) ?_|refine qcall0D (BCall.ofP (eqViewS_ok _ _ ?_ ?_)) ⟨_,_,rfl,rfl⟩ ?_);(iterate 2 (exact sd));rintro _ _ ⟨rfl,rfl⟩)|((first|refine call0D (BCall.ofP (heldIntS_ok _ _ ?_)) ?_|refine qcall0D (BCall.ofP (heldIntS_ok _ _ ?_)) ⟨_,_,rfl,rfl⟩ ?_);(exact sd);rintro _ _ ⟨rfl,rfl⟩))<;>(try simp (disch:=omega) only [push_cast,seval,Aaz]))
 | (refine Aiz ⟨.inr rfl,_,rfl,?_⟩;(try simp (disch:=omega) only [push_cast,seval,Aaz]))))
  obtain ⟨hz1,hz2⟩:=hz h
  have q5:vs.length ≤ 1048576 ∧ ∀ v ∈ vs,v.2.1.length ≤ 1099511627776 ∧ v.2.2.length ≤ 1099511627776:=⟨hz1,fun v hv=>by have:=hz2 v hv;omega⟩
  have q6:vs.length ≤ 1099511627776 ∧ ∀ v ∈ vs,v.2.1.length ≤ 1099511627776 ∧ v.2.2.length ≤ 1099511627776:=⟨by omega,q5.2⟩
  have hbv:=vsF_b hz1 (fun v hv=>hz2 v hv)
  have hkl:(MVL (vvB vs) (hoT vs k vs.length)).length ≤ 1048576:=by
    have:=hoT_le vs k vs.length
    unfold MVL
    split<;>simp<;>omega
  generalize hW:MVL (vvB vs) (hoT vs k vs.length)=W at *
  (repeat' (first
 | (first|refine Ajz ?_|refine Afz ?_)
 | ((first|refine Akz ?_|refine Aez ?_|refine Agz ?_|refine Ahz ?_);simp (disch:=omega) only [push_cast,seval,l3r0,l3r1,l3r2,l3r3,l3r4,l3r5,l3r6,l3r7,l3r8,l3r9,l3r10,l3r11,l3r12,l3r13,l3r14,l3r15,l3r16,l3r17,l3r18,l3r19,l3r20,l3r21,l3r22,l3r23,l3r24,l3r25,l3r26,l3r27,l3r28,l3r29,l3r30,l3r31,l3r32,l3r33,hW,Aaz,A1z,decide_true])
 | ((first|refine Abz ?_ ?_|refine Adz ?_ ?_|refine Acz ?_ ?_)<;>intro h<;>(try simp only [h])<;>(try simp only [bitvec_to_nat] at h)<;>(try simp only [h])<;>(first|(exfalso;omega)|(exfalso;simp_all;done)|(simp (disch:=omega) only [push_cast,seval,hW,Aaz,A1z,decide_true])|skip))
 | ((first|((with_reducible refine Apz (f:=10) false ?_);simp (disch:=omega) only [push_cast,seval,hW,Aaz,A1z,decide_true];(refine callFN (E6z _ _ ?_ ?_) (by (simp (disch:=omega) only [push_cast,seval,hW,Aaz,A1z,decide_true]);done) ?_;(iterate 2 (exact sd))))|((with_reducible refine callE_of (f:=14) ?_);simp (disch:=omega) only [push_cast,seval,hW,Aaz,A1z,decide_true];(refine callFM (Eaz _ _ _ _ ?_ ?_) (by (simp (disch:=omega) only [push_cast,seval,hW,Aaz,A1z,decide_true])<;>rfl) (by first|((simp (disch:=omega) only [push_cast,seval,hW,Aaz,A1z,decide_true]);done)|omega) (by first|((simp (disch:=omega) only [push_cast,seval,hW,Aaz,A1z,decide_true]);done)|((simp (disch:=omega) only [push_cast,seval,hW,Aaz,A1z,decide_true]);assumption)) (fun G kk hkk hG=>?_);(iterate 2 (exact sd))))|((with_reducible refine qcallI_of (f:=15) [416] false ?_);simp (disch:=omega) only [push_cast,seval,hW,Aaz,A1z,decide_true];(refine Bhz (id:=416) (Avz _ _ _ ?_ ?_) (by (simp (disch:=omega) only [push_cast,seval,hW,Aaz,A1z,decide_true])<;>rfl) (by decide) ⟨_,_,rfl,rfl⟩ ?_;(iterate 2 (exact sd));rintro _ _ ⟨rfl,rfl⟩))|((with_reducible refine qcallI_of (f:=15) [784] false ?_);simp (disch:=omega) only [push_cast,seval,hW,Aaz,A1z,decide_true];(refine Bhz (id:=784) (Avz _ _ _ ?_ ?_) (by (simp (disch:=omega) only [push_cast,seval,hW,Aaz,A1z,decide_true])<;>rfl) (by decide) ⟨_,_,rfl,rfl⟩ ?_;(iterate 2 (exact sd));rintro _ _ ⟨rfl,rfl⟩))|((with_reducible refine callD_ids (f:=15) [416] false ?_);simp (disch:=omega) only [push_cast,seval,hW,Aaz,A1z,decide_true];(refine Bnz (id:=416) (Avz _ _ _ ?_ ?_) (by (simp (disch:=omega) only [push_cast,seval,hW,Aaz,A1z,decide_true])<;>rfl) ?_;(iterate 2 (exact sd));rintro _ _ ⟨rfl,rfl⟩))|((with_reducible refine callD_ids (f:=15) [784] false ?_);simp (disch:=omega) only [push_cast,seval,hW,Aaz,A1z,decide_true];(refine Bnz (id:=784) (Avz _ _ _ ?_ ?_) (by (simp (disch:=omega) only [push_cast,seval,hW,Aaz,A1z,decide_true])<;>rfl) ?_;(iterate 2 (exact sd));rintro _ _ ⟨rfl,rfl⟩)))<;>(try simp (disch:=omega) only [push_cast,seval,hW,Aaz,A1z,decide_true]))
 | ((first|refine Apz false ?_|refine Alz false ?_);simp (disch:=omega) only [push_cast,seval,hW,Aaz,A1z,decide_true])
 | ((first|(refine call0D (BCall.ofP (Ghz _ _ _ ?_ ?_ ?_)) ?_;(iterate 3 (exact sd));rintro _ _ ⟨⟨z,hz,rfl⟩,rfl⟩)|((first|refine call0D (BCall.ofP (toViewSP_ok _ _ ?_ ?_)) ?_|refine qcall0D (BCall.ofP (toViewSP_ok _ _ ?_ ?_)) ⟨_,_,rfl,rfl⟩ ?_);(iterate 2 (exact sd));rintro _ _ ⟨rfl,rfl⟩)|((first|refine call0D (sHo_ok _ _ _ ?_ ?_) ?_|refine qcall0D (sHo_ok _ _ _ ?_ ?_) ⟨_,_,rfl,rfl⟩ ?_);(iterate 2 (exact sd));rintro _ _ ⟨rfl,rfl⟩)|((first|refine call0D (iHo_ok _ _ _ ?_ ?_) ?_|refine qcall0D (iHo_ok _ _ _ ?_ ?_) ⟨_,_,rfl,rfl⟩ ?_);(iterate 2 (exact sd));rintro _ _ ⟨rfl,rfl⟩)|((first|refine call0D (BCall.ofP (eqIntS_ok _ _ _ _ ?_ ?_ ?_)) ?_|refine qcall0D (BCall.ofP (eqIntS_ok _ _ _ _ ?_ ?_ ?_)) ⟨_,_,rfl,rfl⟩ ?_);(iterate 3 (exact sd));rintro _ _ ⟨rfl,rfl⟩)|((first|refine call0D (BCall.ofP (eqViewS_ok _ _ ?_ ?_)) ?_|refine qcall0D (BCall.ofP (eqViewS_ok _ _ ?_ ?_)) ⟨_,_,rfl,rfl⟩ ?_);(iterate 2 (exact sd));rintro _ _ ⟨rfl,rfl⟩)|((first|refine call0D (BCall.ofP (heldIntS_ok _ _ ?_)) ?_|refine qcall0D (BCall.ofP (heldIntS_ok _ _ ?_)) ⟨_,_,rfl,rfl⟩ ?_);(exact sd);rintro _ _ ⟨rfl,rfl⟩))<;>(try simp (disch:=omega) only [push_cast,seval,hW,Aaz,A1z,decide_true]))
 | (refine Aiz ⟨.inr rfl,_,rfl,?_⟩;(try simp (disch:=omega) only [push_cast,seval,hW,Aaz,A1z,decide_true]))))
  all_goals skip
theorem lHO2_ok (x0:List (Int × List Int × List Int × Unit)) (k:Int) (h1:∀ a ∈ x0,Vw.goodI a.1 ∧ Vw.goodS Vw.goodI a.2.1 ∧ Vw.goodS Vw.goodI a.2.2.1 ∧ True) (h2:x0.length ≤ 9223372036854775807):PCall Try.prog 3 [.rows false (x0.flatMap fun p=>Vw.enI p.1 ++ (Vw.enS Vw.enI p.2.1 ++ (Vw.enS Vw.enI p.2.2.1 ++ []))) x0.length,.int .i64 k] (fun r=>r=.bool true):=by
  have h:=lHO_ok (x0.map fun p=>(p.1,p.2.1,p.2.2.1)) k (by simpa using h2) (fun v hv=>by
    obtain ⟨a,ha,rfl⟩:=List.mem_map.1 hv
    have:=h1 a ha
    exact ⟨this.2.1.2,this.2.2.1.2⟩)
  rw [List.length_map] at h
  rw [flat_V4]
  exact h

end Go.Proofs.Ytpicoecbbiiaoaa
