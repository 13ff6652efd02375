/- Texts of this verifier. -/
import Derived.Test.YtpicoecbbiiaoaaCB3
import Derived.Test.YtpicoecbbiiaoaaCM1
set_option linter.unusedSimpArgs false
set_option linter.unusedVariables false
set_option maxRecDepth 4000
set_option maxHeartbeats 4000000
namespace Go.Proofs.Ytpicoecbbiiaoaa
open VwM Vw Go

def atV (vs:List Vw3) (j:Nat):List Int:=match vs[j]? with|some v=>offs v.1 v.2.1 v.2.2|none=>[]
def hoT (vs:List Vw3) (k:Int) (i:Nat):List Int:=((List.range i).filter fun j=>decide (k ∈ atV vs j)).map fun j:Nat=>(j:Int)
theorem hoT_zero (vs:List Vw3) (k:Int):hoT vs k 0=[]:=rfl
theorem hoT_yes {vs:List Vw3} {k:Int} {i:Nat} {v:Vw3} (h:vs[i]?=some v) (hk:k ∈ offs v.1 v.2.1 v.2.2):hoT vs k (i + 1)=hoT vs k i ++ [(i:Int)]:=by
  have:k ∈ atV vs i:=by unfold atV;rw [h];exact hk
  unfold hoT
  rw [List.range_succ,List.filter_append,List.map_append]
  simp [this]
theorem hoT_no {vs:List Vw3} {k:Int} {i:Nat} {v:Vw3} (h:vs[i]?=some v) (hk:¬ k ∈ offs v.1 v.2.1 v.2.2):hoT vs k (i + 1)=hoT vs k i:=by
  have:¬ k ∈ atV vs i:=by unfold atV;rw [h];exact hk
  unfold hoT
  rw [List.range_succ,List.filter_append,List.map_append]
  simp [this]
theorem hoT_le (vs:List Vw3) (k:Int) (i:Nat):(hoT vs k i).length ≤ i:=by
  unfold hoT
  rw [List.length_map]
  have:=List.length_filter_le (fun j=>decide (k ∈ atV vs j)) (List.range i)
  rwa [List.length_range] at this


set_option maxHeartbeats 16000000 in
theorem sHo_ok (vs:List Vw3) (n:Nat) (k:Int) (hn:vs.length=n) (hb:n ≤ 1099511627776 ∧ ∀ v ∈ vs,v.2.1.length ≤ 1099511627776 ∧ v.2.2.length ≤ 1099511627776):BCall Try.prog 9 [.rows false (VLs vs) n,.int .i64 k] [] (OI (MVL (vvB vs) (hoT vs k vs.length))):=by
  subst hn
  refine Bkz (pins:=[]) (pin:=0) l9_eq rfl rfl rfl ?_
  have hvl:=Bfz vs
  cases hv:vvB vs with
  | false =>
    (repeat' (first
 | (first|refine Ajz ?_|refine Afz ?_)
 | ((first|refine Akz ?_|refine Aez ?_|refine Agz ?_|refine Ahz ?_);simp (disch:=omega) only [push_cast,seval,l9r0,l9r1,l9r2,l9r3,l9r4,l9r5,l9r6,l9r7,l9r8,l9r9,hv,Aaz])
 | ((first|refine Abz ?_ ?_|refine Adz ?_ ?_|refine Acz ?_ ?_)<;>intro h<;>(try simp only [h])<;>(try simp only [bitvec_to_nat] at h)<;>(try simp only [h])<;>(first|(exfalso;omega)|(exfalso;simp_all;done)|(simp (disch:=omega) only [push_cast,seval,hv,Aaz])|skip))
 | ((first|refine Apz false ?_|refine Alz false ?_);simp (disch:=omega) only [push_cast,seval,hv,Aaz])
 | ((first|((first|refine call0D (BCall.ofP (Dpz _ _ ?_ ?_)) ?_|refine qcall0D (BCall.ofP (Dpz _ _ ?_ ?_)) ⟨_,_,rfl,rfl⟩ ?_);(iterate 2 (exact sd));rintro _ _ ⟨rfl,rfl⟩)|((first|refine call0D (soffsets_ok _ _ _ _ _ ?_ ?_ ?_) ?_|refine qcall0D (soffsets_ok _ _ _ _ _ ?_ ?_ ?_) ⟨_,_,rfl,rfl⟩ ?_);(iterate 3 (exact sd));rintro _ _ ⟨rfl,rfl⟩)|((first|refine call0D (BCall.ofP (placeIn_ok _ _ _ ?_ ?_)) ?_|refine qcall0D (BCall.ofP (placeIn_ok _ _ _ ?_ ?_)) ⟨_,_,rfl,rfl⟩ ?_);(iterate 2 (exact sd));rintro _ _ ⟨rfl,rfl⟩))<;>(try simp (disch:=omega) only [push_cast,seval,hv,Aaz]))
 | (refine Aiz ⟨.inr rfl,[16000],[(16000,1)],_,by decide,rfl,?_⟩;(try simp (disch:=omega) only [push_cast,seval,↓Aoz,↓Amz,↓List.map_cons,↓List.map_nil,hv,Aaz]))))
    all_goals simp [OI,MVL]
  | true =>
    obtain ⟨h8,hall⟩:=D3z.1 hv
    (repeat' (first
 | (first|refine Ajz ?_|refine Afz ?_)
 | ((first|refine Akz ?_|refine Aez ?_|refine Agz ?_|refine Ahz ?_);simp (disch:=omega) only [push_cast,seval,l9r0,l9r1,l9r2,l9r3,l9r4,l9r5,l9r6,l9r7,l9r8,l9r9,hv,Aaz])
 | ((first|refine Abz ?_ ?_|refine Adz ?_ ?_|refine Acz ?_ ?_)<;>intro h<;>(try simp only [h])<;>(try simp only [bitvec_to_nat] at h)<;>(try simp only [h])<;>(first|(exfalso;omega)|(exfalso;simp_all;done)|(simp (disch:=omega) only [push_cast,seval,hv,Aaz])|skip))
 | ((first|refine Apz false ?_|refine Alz false ?_);simp (disch:=omega) only [push_cast,seval,hv,Aaz])
 | ((first|((first|refine call0D (BCall.ofP (Dpz _ _ ?_ ?_)) ?_|refine qcall0D (BCall.ofP (Dpz _ _ ?_ ?_)) ⟨_,_,rfl,rfl⟩ ?_);(iterate 2 (exact sd));rintro _ _ ⟨rfl,rfl⟩)|((first|refine call0D (soffsets_ok _ _ _ _ _ ?_ ?_ ?_) ?_|refine qcall0D (soffsets_ok _ _ _ _ _ ?_ ?_ ?_) ⟨_,_,rfl,rfl⟩ ?_);(iterate 3 (exact sd));rintro _ _ ⟨rfl,rfl⟩)|((first|refine call0D (BCall.ofP (placeIn_ok _ _ _ ?_ ?_)) ?_|refine qcall0D (BCall.ofP (placeIn_ok _ _ _ ?_ ?_)) ⟨_,_,rfl,rfl⟩ ?_);(iterate 2 (exact sd));rintro _ _ ⟨rfl,rfl⟩))<;>(try simp (disch:=omega) only [push_cast,seval,hv,Aaz]))
 | (refine Aiz ⟨.inr rfl,[160],[],_,by decide,rfl,?_⟩;(try simp (disch:=omega) only [push_cast,seval,↓Aoz,↓Amz,↓List.map_cons,↓List.map_nil,hv,Aaz]))))
    refine Azz (fun i:Nat=>mkS [(0,.rows false (VLs vs) vs.length),(1,.int .i64 k),(5,.own 160 (hoT vs k i).length 1),(6,.int .i64 i)] [(160,IL (hoT vs k i))]) (fun i=>i ≤ vs.length) (fun i=>vs.length - i) 0 (Nat.zero_le _) ?_ ?_
    · (refine Sub.of_lists ?_ ?_ ?_ ?_ ?_<;>simp [Vw.mkS,Vw.lk,Vw.hk,AV.inn,innL,Aqz,Anz,Asz,-List.map_set,-List.getD_eq_getElem?_getD,Aaz,hoT_zero])
    · intro i hi
      have hle:=hoT_le vs k i
      by_cases hlt:i < vs.length
      · obtain ⟨⟨b,sh,st⟩,hvi⟩:∃ v,vs[i]?=some v:=⟨_,List.getElem?_eq_getElem hlt⟩
        have hvv:=hall _ (List.mem_of_getElem? hvi)
        simp only at hvv
        have hok:=okV_valid hvv
        have hd:=Brz vs i hvi
        have hil:i * 3 + 3 ≤ vs.length * 3:=by omega
        have hy:=fun h=>hoT_yes (k:=k) hvi h
        have hnn:=fun h=>hoT_no (k:=k) hvi h
        simp only at hd hy hnn
        have hO60:(offs b sh st).length ≤ 60:=by have:=hok.1.1.2;rw [Cpz];omega
        generalize hO:offs b sh st=O at *
        by_cases hm:k ∈ O
        · have e1:placeI O k=((O.idxOf k:Nat):Int):=if_pos hm
          have e2:=hy hm
          clear hy hnn
          (repeat' (first
 | (first|refine Ajz ?_|refine Afz ?_)
 | ((first|refine Akz ?_|refine Aez ?_|refine Agz ?_|refine Ahz ?_);simp (disch:=omega) only [push_cast,seval,l9r0,l9r1,l9r2,l9r3,l9r4,l9r5,l9r6,l9r7,l9r8,l9r9,hd,hvl,hil,hO,e1,Aaz,List.length_map])
 | ((first|refine Abz ?_ ?_|refine Adz ?_ ?_|refine Acz ?_ ?_)<;>intro h<;>(try simp only [h])<;>(try simp only [bitvec_to_nat] at h)<;>(try simp only [h])<;>(first|(exfalso;omega)|(exfalso;simp_all;done)|(simp (disch:=omega) only [push_cast,seval,hd,hvl,hil,hO,e1,Aaz,List.length_map])|skip))
 | ((first|refine Apz false ?_|refine Alz false ?_);simp (disch:=omega) only [push_cast,seval,hd,hvl,hil,hO,e1,Aaz,List.length_map])
 | ((first|((first|refine call0D (BCall.ofP (Dpz _ _ ?_ ?_)) ?_|refine qcall0D (BCall.ofP (Dpz _ _ ?_ ?_)) ⟨_,_,rfl,rfl⟩ ?_);(iterate 2 (exact sd));rintro _ _ ⟨rfl,rfl⟩)|((first|refine call0D (soffsets_ok _ _ _ _ _ ?_ ?_ ?_) ?_|refine qcall0D (soffsets_ok _ _ _ _ _ ?_ ?_ ?_) ⟨_,_,rfl,rfl⟩ ?_);(iterate 3 (exact sd));rintro _ _ ⟨rfl,rfl⟩)|((first|refine call0D (BCall.ofP (placeIn_ok _ _ _ ?_ ?_)) ?_|refine qcall0D (BCall.ofP (placeIn_ok _ _ _ ?_ ?_)) ⟨_,_,rfl,rfl⟩ ?_);(iterate 2 (exact sd));rintro _ _ ⟨rfl,rfl⟩))<;>(try simp (disch:=omega) only [push_cast,seval,hd,hvl,hil,hO,e1,Aaz,List.length_map]))
 | (refine Aiz ⟨.inr rfl,[160],[],_,by decide,rfl,?_⟩; (try simp (disch := omega) only [push_cast,seval,↓Aoz,↓Amz,↓List.map_cons,↓List.map_nil,hd,hvl,hil,hO,e1,Aaz,List.length_map]))))
          refine ⟨i + 1,by omega,by omega,?_⟩
          (refine Sub.of_lists ?_ ?_ ?_ ?_ ?_<;>simp [Vw.mkS,Vw.lk,Vw.hk,AV.inn,innL,Aqz,Anz,Asz,-List.map_set,-List.getD_eq_getElem?_getD,e2,Aaz])
        · have e1:placeI O k=-1:=if_neg hm
          have e2:=hnn hm
          clear hy hnn
          (repeat' (first
 | (first|refine Ajz ?_|refine Afz ?_)
 | ((first|refine Akz ?_|refine Aez ?_|refine Agz ?_|refine Ahz ?_);simp (disch:=omega) only [push_cast,seval,l9r0,l9r1,l9r2,l9r3,l9r4,l9r5,l9r6,l9r7,l9r8,l9r9,hd,hvl,hil,hO,e1,Aaz,List.length_map])
 | ((first|refine Abz ?_ ?_|refine Adz ?_ ?_|refine Acz ?_ ?_)<;>intro h<;>(try simp only [h])<;>(try simp only [bitvec_to_nat] at h)<;>(try simp only [h])<;>(first|(exfalso;omega)|(exfalso;simp_all;done)|(simp (disch:=omega) only [push_cast,seval,hd,hvl,hil,hO,e1,Aaz,List.length_map])|skip))
 | ((first|refine Apz false ?_|refine Alz false ?_);simp (disch:=omega) only [push_cast,seval,hd,hvl,hil,hO,e1,Aaz,List.length_map])
 | ((first|((first|refine call0D (BCall.ofP (Dpz _ _ ?_ ?_)) ?_|refine qcall0D (BCall.ofP (Dpz _ _ ?_ ?_)) ⟨_,_,rfl,rfl⟩ ?_);(iterate 2 (exact sd));rintro _ _ ⟨rfl,rfl⟩)|((first|refine call0D (soffsets_ok _ _ _ _ _ ?_ ?_ ?_) ?_|refine qcall0D (soffsets_ok _ _ _ _ _ ?_ ?_ ?_) ⟨_,_,rfl,rfl⟩ ?_);(iterate 3 (exact sd));rintro _ _ ⟨rfl,rfl⟩)|((first|refine call0D (BCall.ofP (placeIn_ok _ _ _ ?_ ?_)) ?_|refine qcall0D (BCall.ofP (placeIn_ok _ _ _ ?_ ?_)) ⟨_,_,rfl,rfl⟩ ?_);(iterate 2 (exact sd));rintro _ _ ⟨rfl,rfl⟩))<;>(try simp (disch:=omega) only [push_cast,seval,hd,hvl,hil,hO,e1,Aaz,List.length_map]))
 | (refine Aiz ⟨.inr rfl,[160],[],_,by decide,rfl,?_⟩; (try simp (disch := omega) only [push_cast,seval,↓Aoz,↓Amz,↓List.map_cons,↓List.map_nil,hd,hvl,hil,hO,e1,Aaz,List.length_map]))))
          refine ⟨i + 1,by omega,by omega,?_⟩
          (refine Sub.of_lists ?_ ?_ ?_ ?_ ?_<;>simp [Vw.mkS,Vw.lk,Vw.hk,AV.inn,innL,Aqz,Anz,Asz,-List.map_set,-List.getD_eq_getElem?_getD,e2,Aaz])
      · have e:i=vs.length:=by omega
        subst e
        (repeat' (first
 | (first|refine Ajz ?_|refine Afz ?_)
 | ((first|refine Akz ?_|refine Aez ?_|refine Agz ?_|refine Ahz ?_);simp (disch:=omega) only [push_cast,seval,l9r0,l9r1,l9r2,l9r3,l9r4,l9r5,l9r6,l9r7,l9r8,l9r9,Aaz])
 | ((first|refine Abz ?_ ?_|refine Adz ?_ ?_|refine Acz ?_ ?_)<;>intro h<;>(try simp only [h])<;>(try simp only [bitvec_to_nat] at h)<;>(try simp only [h])<;>(first|(exfalso;omega)|(exfalso;simp_all;done)|(simp (disch:=omega) only [push_cast,seval,Aaz])|skip))
 | ((first|refine Apz false ?_|refine Alz false ?_);simp (disch:=omega) only [push_cast,seval,Aaz])
 | ((first|((first|refine call0D (BCall.ofP (Dpz _ _ ?_ ?_)) ?_|refine qcall0D (BCall.ofP (Dpz _ _ ?_ ?_)) ⟨_,_,rfl,rfl⟩ ?_);(iterate 2 (exact sd));rintro _ _ ⟨rfl,rfl⟩)|((first|refine call0D (soffsets_ok _ _ _ _ _ ?_ ?_ ?_) ?_|refine qcall0D (soffsets_ok _ _ _ _ _ ?_ ?_ ?_) ⟨_,_,rfl,rfl⟩ ?_);(iterate 3 (exact sd));rintro _ _ ⟨rfl,rfl⟩)|((first|refine call0D (BCall.ofP (placeIn_ok _ _ _ ?_ ?_)) ?_|refine qcall0D (BCall.ofP (placeIn_ok _ _ _ ?_ ?_)) ⟨_,_,rfl,rfl⟩ ?_);(iterate 2 (exact sd));rintro _ _ ⟨rfl,rfl⟩))<;>(try simp (disch:=omega) only [push_cast,seval,Aaz]))
 | (refine Aiz ⟨.inr rfl,[160],[],_,by decide,rfl,?_⟩;(try simp (disch:=omega) only [push_cast,seval,↓Aoz,↓Amz,↓List.map_cons,↓List.map_nil,Aaz]))))
        all_goals simp [OI,MVL]


set_option maxHeartbeats 16000000 in
theorem iHo_ok (vs:List Vw3) (n:Nat) (k:Int) (hn:vs.length=n) (hb:n ≤ 1099511627776 ∧ ∀ v ∈ vs,v.2.1.length ≤ 1099511627776 ∧ v.2.2.length ≤ 1099511627776):BCall Try.prog 11 [.rows false (VLs vs) n,.int .i64 k] [] (OI (MVL (vvB vs) (hoT vs k vs.length))):=by
  subst hn
  refine Bkz (pins:=[]) (pin:=0) l11_eq rfl rfl rfl ?_
  have hvl:=Bfz vs
  cases hv:vvB vs with
  | false =>
    (repeat' (first
 | (first|refine Ajz ?_|refine Afz ?_)
 | ((first|refine Akz ?_|refine Aez ?_|refine Agz ?_|refine Ahz ?_);simp (disch:=omega) only [push_cast,seval,l11r0,l11r1,l11r2,l11r3,l11r4,l11r5,l11r6,l11r7,l11r8,l11r9,l11r10,l11r11,l11r12,l11r13,hv,Aaz])
 | ((first|refine Abz ?_ ?_|refine Adz ?_ ?_|refine Acz ?_ ?_)<;>intro h<;>(try simp only [h])<;>(try simp only [bitvec_to_nat] at h)<;>(try simp only [h])<;>(first|(exfalso;omega)|(exfalso;simp_all;done)|(simp (disch:=omega) only [push_cast,seval,hv,Aaz])|skip))
 | ((first|(refine Blz (by kernel_rfl) (by (simp (disch:=omega) only [push_cast,seval,hv,Aaz])<;>rfl) ?_)|(refine A9z (t:=24) (sz:=1) (zs:=[.int .i64 0]) (by kernel_rfl) (by (simp (disch:=omega) only [push_cast,seval,hv,Aaz])<;>rfl) (by (simp (disch:=omega) only [push_cast,seval,hv,Aaz])<;>rfl) (by first|assumption|omega|(constructor<;>omega)) (by first|((simp (disch:=omega) only [push_cast,seval,hv,Aaz]);done)|((simp (disch:=omega) only [push_cast,seval,hv,Aaz]);exact ⟨rfl,by omega⟩)) ?_)|(refine A9z (t:=0) (sz:=2) (zs:=[.int .i64 0,.int .i64 0]) (by kernel_rfl) (by (simp (disch:=omega) only [push_cast,seval,hv,Aaz])<;>rfl) (by (simp (disch:=omega) only [push_cast,seval,hv,Aaz])<;>rfl) (by first|assumption|omega|(constructor<;>omega)) (by first|((simp (disch:=omega) only [push_cast,seval,hv,Aaz]);done)|((simp (disch:=omega) only [push_cast,seval,hv,Aaz]);exact ⟨rfl,by omega⟩)) ?_)|(refine Bzz (len:=3) (by kernel_rfl) (by (simp (disch:=omega) only [push_cast,seval,hv,Aaz])<;>rfl) (by (simp (disch:=omega) only [push_cast,seval,hv,Aaz])<;>rfl) (by first|assumption|omega|(constructor<;>omega)) (by first|rfl|((simp (disch:=omega) only [push_cast,seval,hv,Aaz]);rfl)) ?_)|(refine Cmz (by first|((simp (disch:=omega) only [push_cast,seval,hv,Aaz]);done)|((simp (disch:=omega) only [push_cast,seval,hv,Aaz]);exact ⟨rfl,by omega⟩)) ?_)|(refine Boz (by kernel_rfl) (by (simp (disch:=omega) only [push_cast,seval,hv,Aaz])<;>rfl) (by (simp (disch:=omega) only [push_cast,seval,hv,Aaz])<;>rfl) (by (simp (disch:=omega) only [push_cast,seval,hv,Aaz])<;>rfl) ?_)|(refine B1z (ty:=0) (by kernel_rfl) (by (simp (disch:=omega) only [push_cast,seval,hv,Aaz])<;>rfl) (by (simp (disch:=omega) only [push_cast,seval,hv,Aaz])<;>rfl) ?_))<;>(try simp (disch:=omega) only [push_cast,seval,hv,Aaz]))
 | ((first|((with_reducible refine qcallI_of (f:=43) [192] false ?_);simp (disch:=omega) only [push_cast,seval,hv,Aaz];(refine Bhz (id:=192) (Bcz _ _ _ _ _ ?_ (by assumption) ?_) (by (simp (disch:=omega) only [push_cast,seval,hv,Aaz])<;>rfl) (by decide) ⟨_,_,rfl,rfl⟩ ?_;(iterate 2 (exact sd));rintro _ _ ⟨rfl,L',c',hT',rfl⟩))|((with_reducible refine qcallI_of (f:=43) [368] false ?_);simp (disch:=omega) only [push_cast,seval,hv,Aaz];(refine Bhz (id:=368) (Bcz _ _ _ _ _ ?_ (by assumption) ?_) (by (simp (disch:=omega) only [push_cast,seval,hv,Aaz])<;>rfl) (by decide) ⟨_,_,rfl,rfl⟩ ?_;(iterate 2 (exact sd));rintro _ _ ⟨rfl,L',c',hT',rfl⟩))|((with_reducible refine callD_ids (f:=43) [192] false ?_);simp (disch:=omega) only [push_cast,seval,hv,Aaz];(refine Bnz (id:=192) (Bcz _ _ _ _ _ ?_ (by assumption) ?_) (by (simp (disch:=omega) only [push_cast,seval,hv,Aaz])<;>rfl) ?_;(iterate 2 (exact sd));rintro _ _ ⟨rfl,L',c',hT',rfl⟩))|((with_reducible refine callD_ids (f:=43) [368] false ?_);simp (disch:=omega) only [push_cast,seval,hv,Aaz];(refine Bnz (id:=368) (Bcz _ _ _ _ _ ?_ (by assumption) ?_) (by (simp (disch:=omega) only [push_cast,seval,hv,Aaz])<;>rfl) ?_;(iterate 2 (exact sd));rintro _ _ ⟨rfl,L',c',hT',rfl⟩)))<;>(try simp (disch:=omega) only [push_cast,seval,hv,Aaz]))
 | ((first|refine Apz false ?_|refine Alz false ?_);simp (disch:=omega) only [push_cast,seval,hv,Aaz])
 | ((first|((first|refine call0D (BCall.ofP (Ezz _ _ ?_ ?_)) ?_|refine qcall0D (BCall.ofP (Ezz _ _ ?_ ?_)) ⟨_,_,rfl,rfl⟩ ?_);(iterate 2 (exact sd));rintro _ _ ⟨rfl,rfl⟩)|((first|refine call0D (cells_ok _ _ _ _ _ ?_ ?_ ?_) ?_|refine qcall0D (cells_ok _ _ _ _ _ ?_ ?_ ?_) ⟨_,_,rfl,rfl⟩ ?_);(iterate 3 (exact sd));rintro _ _ ⟨rfl,rfl⟩))<;>(try simp (disch:=omega) only [push_cast,seval,hv,Aaz]))
 | (refine Aiz ⟨.inr rfl,[16000],[(16000,1)],_,by decide,rfl,?_⟩;(try simp (disch:=omega) only [push_cast,seval,↓Aoz,↓Amz,↓List.map_cons,↓List.map_nil,hv,Aaz]))))
    all_goals simp [OI,MVL]
  | true =>
    obtain ⟨h8,hall⟩:=D3z.1 hv
    (repeat' (first
 | (first|refine Ajz ?_|refine Afz ?_)
 | ((first|refine Akz ?_|refine Aez ?_|refine Agz ?_|refine Ahz ?_);simp (disch:=omega) only [push_cast,seval,l11r0,l11r1,l11r2,l11r3,l11r4,l11r5,l11r6,l11r7,l11r8,l11r9,l11r10,l11r11,l11r12,l11r13,hv,Aaz])
 | ((first|refine Abz ?_ ?_|refine Adz ?_ ?_|refine Acz ?_ ?_)<;>intro h<;>(try simp only [h])<;>(try simp only [bitvec_to_nat] at h)<;>(try simp only [h])<;>(first|(exfalso;omega)|(exfalso;simp_all;done)|(simp (disch:=omega) only [push_cast,seval,hv,Aaz])|skip))
 | ((first|(refine Blz (by kernel_rfl) (by (simp (disch:=omega) only [push_cast,seval,hv,Aaz])<;>rfl) ?_)|(refine A9z (t:=24) (sz:=1) (zs:=[.int .i64 0]) (by kernel_rfl) (by (simp (disch:=omega) only [push_cast,seval,hv,Aaz])<;>rfl) (by (simp (disch:=omega) only [push_cast,seval,hv,Aaz])<;>rfl) (by first|assumption|omega|(constructor<;>omega)) (by first|((simp (disch:=omega) only [push_cast,seval,hv,Aaz]);done)|((simp (disch:=omega) only [push_cast,seval,hv,Aaz]);exact ⟨rfl,by omega⟩)) ?_)|(refine A9z (t:=0) (sz:=2) (zs:=[.int .i64 0,.int .i64 0]) (by kernel_rfl) (by (simp (disch:=omega) only [push_cast,seval,hv,Aaz])<;>rfl) (by (simp (disch:=omega) only [push_cast,seval,hv,Aaz])<;>rfl) (by first|assumption|omega|(constructor<;>omega)) (by first|((simp (disch:=omega) only [push_cast,seval,hv,Aaz]);done)|((simp (disch:=omega) only [push_cast,seval,hv,Aaz]);exact ⟨rfl,by omega⟩)) ?_)|(refine Bzz (len:=3) (by kernel_rfl) (by (simp (disch:=omega) only [push_cast,seval,hv,Aaz])<;>rfl) (by (simp (disch:=omega) only [push_cast,seval,hv,Aaz])<;>rfl) (by first|assumption|omega|(constructor<;>omega)) (by first|rfl|((simp (disch:=omega) only [push_cast,seval,hv,Aaz]);rfl)) ?_)|(refine Cmz (by first|((simp (disch:=omega) only [push_cast,seval,hv,Aaz]);done)|((simp (disch:=omega) only [push_cast,seval,hv,Aaz]);exact ⟨rfl,by omega⟩)) ?_)|(refine Boz (by kernel_rfl) (by (simp (disch:=omega) only [push_cast,seval,hv,Aaz])<;>rfl) (by (simp (disch:=omega) only [push_cast,seval,hv,Aaz])<;>rfl) (by (simp (disch:=omega) only [push_cast,seval,hv,Aaz])<;>rfl) ?_)|(refine B1z (ty:=0) (by kernel_rfl) (by (simp (disch:=omega) only [push_cast,seval,hv,Aaz])<;>rfl) (by (simp (disch:=omega) only [push_cast,seval,hv,Aaz])<;>rfl) ?_))<;>(try simp (disch:=omega) only [push_cast,seval,hv,Aaz]))
 | ((first|((with_reducible refine qcallI_of (f:=43) [192] false ?_);simp (disch:=omega) only [push_cast,seval,hv,Aaz];(refine Bhz (id:=192) (Bcz _ _ _ _ _ ?_ (by assumption) ?_) (by (simp (disch:=omega) only [push_cast,seval,hv,Aaz])<;>rfl) (by decide) ⟨_,_,rfl,rfl⟩ ?_;(iterate 2 (exact sd));rintro _ _ ⟨rfl,L',c',hT',rfl⟩))|((with_reducible refine qcallI_of (f:=43) [368] false ?_);simp (disch:=omega) only [push_cast,seval,hv,Aaz];(refine Bhz (id:=368) (Bcz _ _ _ _ _ ?_ (by assumption) ?_) (by (simp (disch:=omega) only [push_cast,seval,hv,Aaz])<;>rfl) (by decide) ⟨_,_,rfl,rfl⟩ ?_;(iterate 2 (exact sd));rintro _ _ ⟨rfl,L',c',hT',rfl⟩))|((with_reducible refine callD_ids (f:=43) [192] false ?_);simp (disch:=omega) only [push_cast,seval,hv,Aaz];(refine Bnz (id:=192) (Bcz _ _ _ _ _ ?_ (by assumption) ?_) (by (simp (disch:=omega) only [push_cast,seval,hv,Aaz])<;>rfl) ?_;(iterate 2 (exact sd));rintro _ _ ⟨rfl,L',c',hT',rfl⟩))|((with_reducible refine callD_ids (f:=43) [368] false ?_);simp (disch:=omega) only [push_cast,seval,hv,Aaz];(refine Bnz (id:=368) (Bcz _ _ _ _ _ ?_ (by assumption) ?_) (by (simp (disch:=omega) only [push_cast,seval,hv,Aaz])<;>rfl) ?_;(iterate 2 (exact sd));rintro _ _ ⟨rfl,L',c',hT',rfl⟩)))<;>(try simp (disch:=omega) only [push_cast,seval,hv,Aaz]))
 | ((first|refine Apz false ?_|refine Alz false ?_);simp (disch:=omega) only [push_cast,seval,hv,Aaz])
 | ((first|((first|refine call0D (BCall.ofP (Ezz _ _ ?_ ?_)) ?_|refine qcall0D (BCall.ofP (Ezz _ _ ?_ ?_)) ⟨_,_,rfl,rfl⟩ ?_);(iterate 2 (exact sd));rintro _ _ ⟨rfl,rfl⟩)|((first|refine call0D (cells_ok _ _ _ _ _ ?_ ?_ ?_) ?_|refine qcall0D (cells_ok _ _ _ _ _ ?_ ?_ ?_) ⟨_,_,rfl,rfl⟩ ?_);(iterate 3 (exact sd));rintro _ _ ⟨rfl,rfl⟩))<;>(try simp (disch:=omega) only [push_cast,seval,hv,Aaz]))
 | (refine Aiz ⟨.inr rfl,[512],[],_,by decide,rfl,?_⟩;(try simp (disch:=omega) only [push_cast,seval,↓Aoz,↓Amz,↓List.map_cons,↓List.map_nil,hv,Aaz]))))
    refine F6z (fun x:Nat × List ME × Nat=>mkS [(1,.int .i64 k),(5,.own 512 (hoT vs k x.1).length 1),(6,.sref 0 192),(13,.rows false (VLs vs) vs.length),(14,.int .i64 vs.length),(15,.int .i64 x.1)] [(192,[mapC x.2.1 x.2.2]),(512,IL (hoT vs k x.1))]) (fun x=>x.1 ≤ vs.length) (fun x=>vs.length - x.1) (0,[],0) (Nat.zero_le _) ?_ ?_
    · refine SubW.adopt [5] 512 1 (by simp [Vw.hk]) (SubW.of ?_)
      simp only [adL,List.map_cons,List.map_nil,adA,List.contains_cons,List.contains_nil]
      (refine Sub.of_lists ?_ ?_ ?_ ?_ ?_<;>simp [Vw.mkS,Vw.lk,Vw.hk,AV.inn,innL,Aqz,Anz,Asz,-List.map_set,-List.getD_eq_getElem?_getD,Aaz,hoT_zero])
    · rintro ⟨i,L,c⟩ hi
      simp only at hi ⊢
      have hle:=hoT_le vs k i
      by_cases hlt:i < vs.length
      · obtain ⟨⟨b,sh,st⟩,hvi⟩:∃ v,vs[i]?=some v:=⟨_,List.getElem?_eq_getElem hlt⟩
        have hvv:=hall _ (List.mem_of_getElem? hvi)
        simp only at hvv
        have hok:=okV_valid hvv
        have hd:=Brz vs i hvi
        have hil:i * 3 + 3 ≤ vs.length * 3:=by omega
        have hy:=fun h=>hoT_yes (k:=k) hvi h
        have hnn:=fun h=>hoT_no (k:=k) hvi h
        simp only at hd hy hnn
        have hO60:(offs b sh st).length ≤ 60:=by have:=hok.1.1.2;rw [Cpz];omega
        generalize hO:offs b sh st=O at *
        have hT0:=tal_nil c
        have hO1:O.length ≤ 1000 ∧ ∀ x:Int,(fun _:Int=>0) x ≤ 1000000:=⟨by omega,fun _=>Nat.zero_le _⟩
        (repeat' (first
 | (first|refine Ajz ?_|refine Afz ?_)
 | ((first|refine Akz ?_|refine Aez ?_|refine Agz ?_|refine Ahz ?_);simp (disch:=omega) only [push_cast,seval,l11r0,l11r1,l11r2,l11r3,l11r4,l11r5,l11r6,l11r7,l11r8,l11r9,l11r10,l11r11,l11r12,l11r13,hd,hvl,hil,hO,Aaz,List.length_map])
 | ((first|refine Abz ?_ ?_|refine Adz ?_ ?_|refine Acz ?_ ?_)<;>intro h<;>(try simp only [h])<;>(try simp only [bitvec_to_nat] at h)<;>(try simp only [h])<;>(first|(exfalso;omega)|(exfalso;simp_all;done)|(simp (disch:=omega) only [push_cast,seval,hd,hvl,hil,hO,Aaz,List.length_map])|skip))
 | ((first|(refine Blz (by kernel_rfl) (by (simp (disch:=omega) only [push_cast,seval,hd,hvl,hil,hO,Aaz,List.length_map])<;>rfl) ?_)|(refine A9z (t:=24) (sz:=1) (zs:=[.int .i64 0]) (by kernel_rfl) (by (simp (disch:=omega) only [push_cast,seval,hd,hvl,hil,hO,Aaz,List.length_map])<;>rfl) (by (simp (disch:=omega) only [push_cast,seval,hd,hvl,hil,hO,Aaz,List.length_map])<;>rfl) (by first|assumption|omega|(constructor<;>omega)) (by first|((simp (disch:=omega) only [push_cast,seval,hd,hvl,hil,hO,Aaz,List.length_map]);done)|((simp (disch:=omega) only [push_cast,seval,hd,hvl,hil,hO,Aaz,List.length_map]);exact ⟨rfl,by omega⟩)) ?_)|(refine A9z (t:=0) (sz:=2) (zs:=[.int .i64 0,.int .i64 0]) (by kernel_rfl) (by (simp (disch:=omega) only [push_cast,seval,hd,hvl,hil,hO,Aaz,List.length_map])<;>rfl) (by (simp (disch:=omega) only [push_cast,seval,hd,hvl,hil,hO,Aaz,List.length_map])<;>rfl) (by first|assumption|omega|(constructor<;>omega)) (by first|((simp (disch:=omega) only [push_cast,seval,hd,hvl,hil,hO,Aaz,List.length_map]);done)|((simp (disch:=omega) only [push_cast,seval,hd,hvl,hil,hO,Aaz,List.length_map]);exact ⟨rfl,by omega⟩)) ?_)|(refine Bzz (len:=3) (by kernel_rfl) (by (simp (disch:=omega) only [push_cast,seval,hd,hvl,hil,hO,Aaz,List.length_map])<;>rfl) (by (simp (disch:=omega) only [push_cast,seval,hd,hvl,hil,hO,Aaz,List.length_map])<;>rfl) (by first|assumption|omega|(constructor<;>omega)) (by first|rfl|((simp (disch:=omega) only [push_cast,seval,hd,hvl,hil,hO,Aaz,List.length_map]);rfl)) ?_)|(refine Cmz (by first|((simp (disch:=omega) only [push_cast,seval,hd,hvl,hil,hO,Aaz,List.length_map]);done)|((simp (disch:=omega) only [push_cast,seval,hd,hvl,hil,hO,Aaz,List.length_map]);exact ⟨rfl,by omega⟩)) ?_)|(refine Boz (by kernel_rfl) (by (simp (disch:=omega) only [push_cast,seval,hd,hvl,hil,hO,Aaz,List.length_map])<;>rfl) (by (simp (disch:=omega) only [push_cast,seval,hd,hvl,hil,hO,Aaz,List.length_map])<;>rfl) (by (simp (disch:=omega) only [push_cast,seval,hd,hvl,hil,hO,Aaz,List.length_map])<;>rfl) ?_)|(refine B1z (ty:=0) (by kernel_rfl) (by (simp (disch:=omega) only [push_cast,seval,hd,hvl,hil,hO,Aaz,List.length_map])<;>rfl) (by (simp (disch:=omega) only [push_cast,seval,hd,hvl,hil,hO,Aaz,List.length_map])<;>rfl) ?_))<;>(try simp (disch:=omega) only [push_cast,seval,hd,hvl,hil,hO,Aaz,List.length_map]))
 | ((first|((with_reducible refine qcallI_of (f:=43) [192] false ?_);simp (disch:=omega) only [push_cast,seval,hd,hvl,hil,hO,Aaz,List.length_map];(refine Bhz (id:=192) (Bcz _ _ _ _ _ ?_ (by assumption) ?_) (by (simp (disch:=omega) only [push_cast,seval,hd,hvl,hil,hO,Aaz,List.length_map])<;>rfl) (by decide) ⟨_,_,rfl,rfl⟩ ?_;(iterate 2 (exact sd));rintro _ _ ⟨rfl,L',c',hT',rfl⟩))|((with_reducible refine qcallI_of (f:=43) [368] false ?_);simp (disch:=omega) only [push_cast,seval,hd,hvl,hil,hO,Aaz,List.length_map];(refine Bhz (id:=368) (Bcz _ _ _ _ _ ?_ (by assumption) ?_) (by (simp (disch:=omega) only [push_cast,seval,hd,hvl,hil,hO,Aaz,List.length_map])<;>rfl) (by decide) ⟨_,_,rfl,rfl⟩ ?_;(iterate 2 (exact sd));rintro _ _ ⟨rfl,L',c',hT',rfl⟩))|((with_reducible refine callD_ids (f:=43) [192] false ?_);simp (disch:=omega) only [push_cast,seval,hd,hvl,hil,hO,Aaz,List.length_map];(refine Bnz (id:=192) (Bcz _ _ _ _ _ ?_ (by assumption) ?_) (by (simp (disch:=omega) only [push_cast,seval,hd,hvl,hil,hO,Aaz,List.length_map])<;>rfl) ?_;(iterate 2 (exact sd));rintro _ _ ⟨rfl,L',c',hT',rfl⟩))|((with_reducible refine callD_ids (f:=43) [368] false ?_);simp (disch:=omega) only [push_cast,seval,hd,hvl,hil,hO,Aaz,List.length_map];(refine Bnz (id:=368) (Bcz _ _ _ _ _ ?_ (by assumption) ?_) (by (simp (disch:=omega) only [push_cast,seval,hd,hvl,hil,hO,Aaz,List.length_map])<;>rfl) ?_;(iterate 2 (exact sd));rintro _ _ ⟨rfl,L',c',hT',rfl⟩)))<;>(try simp (disch:=omega) only [push_cast,seval,hd,hvl,hil,hO,Aaz,List.length_map]))
 | ((first|refine Apz false ?_|refine Alz false ?_);simp (disch:=omega) only [push_cast,seval,hd,hvl,hil,hO,Aaz,List.length_map])
 | ((first|((first|refine call0D (BCall.ofP (Ezz _ _ ?_ ?_)) ?_|refine qcall0D (BCall.ofP (Ezz _ _ ?_ ?_)) ⟨_,_,rfl,rfl⟩ ?_);(iterate 2 (exact sd));rintro _ _ ⟨rfl,rfl⟩)|((first|refine call0D (cells_ok _ _ _ _ _ ?_ ?_ ?_) ?_|refine qcall0D (cells_ok _ _ _ _ _ ?_ ?_ ?_) ⟨_,_,rfl,rfl⟩ ?_);(iterate 3 (exact sd));rintro _ _ ⟨rfl,rfl⟩))<;>(try simp (disch:=omega) only [push_cast,seval,hd,hvl,hil,hO,Aaz,List.length_map]))
 | (refine Aiz ⟨.inr rfl,[512],[],_,by decide,rfl,?_⟩;(try simp (disch:=omega) only [push_cast,seval,↓Aoz,↓Amz,↓List.map_cons,↓List.map_nil,hd,hvl,hil,hO,Aaz,List.length_map]))))
        · have hmg:=hT'.1 k
          have hm:k ∈ O:=cnt_pos.1 (by simp only [addF,Nat.zero_add] at hmg;omega)
          have e2:=hy hm
          refine ⟨(i + 1,L',c'),by simp only;omega,by simp only;omega,SubW.of ?_⟩
          (refine Sub.of_lists ?_ ?_ ?_ ?_ ?_<;>simp [Vw.mkS,Vw.lk,Vw.hk,AV.inn,innL,Aqz,Anz,Asz,-List.map_set,-List.getD_eq_getElem?_getD,e2,Aaz])
        · have hmg:=hT'.1 k
          have hm:¬ k ∈ O:=fun hk=>by
            have:=cnt_pos.2 hk
            simp only [addF,Nat.zero_add] at hmg
            omega
          have e2:=hnn hm
          refine ⟨(i + 1,L',c'),by simp only;omega,by simp only;omega,SubW.of ?_⟩
          (refine Sub.of_lists ?_ ?_ ?_ ?_ ?_<;>simp [Vw.mkS,Vw.lk,Vw.hk,AV.inn,innL,Aqz,Anz,Asz,-List.map_set,-List.getD_eq_getElem?_getD,e2,Aaz])
      · have e:i=vs.length:=by omega
        subst e
        (repeat' (first
 | (first|refine Ajz ?_|refine Afz ?_)
 | ((first|refine Akz ?_|refine Aez ?_|refine Agz ?_|refine Ahz ?_);simp (disch:=omega) only [push_cast,seval,l11r0,l11r1,l11r2,l11r3,l11r4,l11r5,l11r6,l11r7,l11r8,l11r9,l11r10,l11r11,l11r12,l11r13,Aaz])
 | ((first|refine Abz ?_ ?_|refine Adz ?_ ?_|refine Acz ?_ ?_)<;>intro h<;>(try simp only [h])<;>(try simp only [bitvec_to_nat] at h)<;>(try simp only [h])<;>(first|(exfalso;omega)|(exfalso;simp_all;done)|(simp (disch:=omega) only [push_cast,seval,Aaz])|skip))
 | ((first|(refine Blz (by kernel_rfl) (by (simp (disch:=omega) only [push_cast,seval,Aaz])<;>rfl) ?_)|(refine A9z (t:=24) (sz:=1) (zs:=[.int .i64 0]) (by kernel_rfl) (by (simp (disch:=omega) only [push_cast,seval,Aaz])<;>rfl) (by (simp (disch:=omega) only [push_cast,seval,Aaz])<;>rfl) (by first|assumption|omega|(constructor<;>omega)) (by first|((simp (disch:=omega) only [push_cast,seval,Aaz]);done)|((simp (disch:=omega) only [push_cast,seval,Aaz]);exact ⟨rfl,by omega⟩)) ?_)|(refine A9z (t:=0) (sz:=2) (zs:=[.int .i64 0,.int .i64 0]) (by kernel_rfl) (by (simp (disch:=omega) only [push_cast,seval,Aaz])<;>rfl) (by (simp (disch:=omega) only [push_cast,seval,Aaz])<;>rfl) (by first|assumption|omega|(constructor<;>omega)) (by first|((simp (disch:=omega) only [push_cast,seval,Aaz]);done)|((simp (disch:=omega) only [push_cast,seval,Aaz]);exact ⟨rfl,by omega⟩)) ?_)|(refine Bzz (len:=3) (by kernel_rfl) (by (simp (disch:=omega) only [push_cast,seval,Aaz])<;>rfl) (by (simp (disch:=omega) only [push_cast,seval,Aaz])<;>rfl) (by first|assumption|omega|(constructor<;>omega)) (by first|rfl|((simp (disch:=omega) only [push_cast,seval,Aaz]);rfl)) ?_)|(refine Cmz (by first|((simp (disch:=omega) only [push_cast,seval,Aaz]);done)|((simp (disch:=omega) only [push_cast,seval,Aaz]);exact ⟨rfl,by omega⟩)) ?_)|(refine Boz (by kernel_rfl) (by (simp (disch:=omega) only [push_cast,seval,Aaz])<;>rfl) (by (simp (disch:=omega) only [push_cast,seval,Aaz])<;>rfl) (by (simp (disch:=omega) only [push_cast,seval,Aaz])<;>rfl) ?_)|(refine B1z (ty:=0) (by kernel_rfl) (by (simp (disch:=omega) only [push_cast,seval,Aaz])<;>rfl) (by (simp (disch:=omega) only [push_cast,seval,Aaz])<;>rfl) ?_))<;>(try simp (disch:=omega) only [push_cast,seval,Aaz]))
 | ((first|((with_reducible refine qcallI_of (f:=43) [192] false ?_);simp (disch:=omega) only [push_cast,seval,Aaz];(refine Bhz (id:=192) (Bcz _ _ _ _ _ ?_ (by assumption) ?_) (by (simp (disch:=omega) only [push_cast,seval,Aaz])<;>rfl) (by decide) ⟨_,_,rfl,rfl⟩ ?_;(iterate 2 (exact sd));rintro _ _ ⟨rfl,L',c',hT',rfl⟩))|((with_reducible refine qcallI_of (f:=43) [368] false ?_);simp (disch:=omega) only [push_cast,seval,Aaz];(refine Bhz (id:=368) (Bcz _ _ _ _ _ ?_ (by assumption) ?_) (by (simp (disch:=omega) only [push_cast,seval,Aaz])<;>rfl) (by decide) ⟨_,_,rfl,rfl⟩ ?_;(iterate 2 (exact sd));rintro _ _ ⟨rfl,L',c',hT',rfl⟩))|((with_reducible refine callD_ids (f:=43) [192] false ?_);simp (disch:=omega) only [push_cast,seval,Aaz];(refine Bnz (id:=192) (Bcz _ _ _ _ _ ?_ (by assumption) ?_) (by (simp (disch:=omega) only [push_cast,seval,Aaz])<;>rfl) ?_;(iterate 2 (exact sd));rintro _ _ ⟨rfl,L',c',hT',rfl⟩))|((with_reducible refine callD_ids (f:=43) [368] false ?_);simp (disch:=omega) only [push_cast,seval,Aaz];(refine Bnz (id:=368) (Bcz _ _ _ _ _ ?_ (by assumption) ?_) (by (simp (disch:=omega) only [push_cast,seval,Aaz])<;>rfl) ?_;(iterate 2 (exact sd));rintro _ _ ⟨rfl,L',c',hT',rfl⟩)))<;>(try simp (disch:=omega) only [push_cast,seval,Aaz]))
 | ((first|refine Apz false ?_|refine Alz false ?_);simp (disch:=omega) only [push_cast,seval,Aaz])
 | ((first|((first|refine call0D (BCall.ofP (Ezz _ _ ?_ ?_)) ?_|refine qcall0D (BCall.ofP (Ezz _ _ ?_ ?_)) ⟨_,_,rfl,rfl⟩ ?_);(iterate 2 (exact sd));rintro _ _ ⟨rfl,rfl⟩)|((first|refine call0D (cells_ok _ _ _ _ _ ?_ ?_ ?_) ?_|refine qcall0D (cells_ok _ _ _ _ _ ?_ ?_ ?_) ⟨_,_,rfl,rfl⟩ ?_);(iterate 3 (exact sd));rintro _ _ ⟨rfl,rfl⟩))<;>(try simp (disch:=omega) only [push_cast,seval,Aaz]))
 | (refine Aiz ⟨.inr rfl,[512],[],_,by decide,rfl,?_⟩;(try simp (disch:=omega) only [push_cast,seval,↓Aoz,↓Amz,↓List.map_cons,↓List.map_nil,Aaz]))))
        all_goals simp [OI,MVL]

end Go.Proofs.Ytpicoecbbiiaoaa
