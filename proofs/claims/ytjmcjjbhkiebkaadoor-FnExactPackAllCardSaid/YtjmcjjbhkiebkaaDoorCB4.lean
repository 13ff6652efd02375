/- Texts of this verifier. -/
import Derived.Test.YtjmcjjbhkiebkaaDoorCB3
import Derived.Test.YtjmcjjbhkiebkaaDoorCM1
import Derived.Test.YtjmcjjbhkiebkaaDoorCW3
set_option maxHeartbeats 4000000
set_option linter.unusedSimpArgs false
set_option linter.unusedVariables false
set_option maxRecDepth 4000
namespace Go.Proofs.YtjmcjjbhkiebkaaDoor
open VwM Vw Go

/-- Items one behind the other: how far,whether all is well,and the bytes. -/
def paK (al big:Bool)(s:List Int)(ls:List (List Int))(k:Nat):List Int:=((ls.take k).map (pkL al big s)).flatten
def paB (al:Bool)(s:List Int)(ls:List (List Int)):Bool:=vF s&&decide (ls.length*(fN al s).toNat≤60)&&ls.all (vI s)
def paL (al big:Bool)(s:List Int)(ls:List (List Int)):List Int:=if paB al s ls=true then paK al big s ls ls.length else []
theorem C4z (al big:Bool)(s:List Int)(ls:List (List Int)):∀ k,k≤ls.length→(paK al big s ls k).length=k*(fN al s).toNat
 | 0,_=>by simp [paK]
 | k+1,h=>by
  have ih:=C4z al big s ls k (by omega)
  unfold paK at ih ⊢
  rw [List.take_succ_eq_append_getElem (by omega),List.map_append,List.flatten_append,List.length_append,ih]
  simp [Eaz,Nat.succ_mul]
theorem paK_succ (al big:Bool)(s:List Int){ls:List (List Int)}{k:Nat}{l:List Int}(h:ls[k]?=some l):paK al big s ls k++pkL al big s l=paK al big s ls (k+1):=by
 obtain ⟨hk,he⟩:=List.getElem?_eq_some_iff.1 h
 unfold paK
 rw [List.take_succ_eq_append_getElem hk,he,List.map_append,List.flatten_append]
 simp
theorem paK_nil (al big:Bool)(s:List Int)(ls:List (List Int)):paK al big s ls 0=[]:=rfl
theorem pa_size {al:Bool}{s:List Int}(hv:vF s=true):1≤(fN al s).toNat∧(fN al s).toNat≤38∧fN al s=((fN al s).toNat:Int):=by
 obtain ⟨h,h1,h2⟩:=Bhz.1 hv
 have b:=Cqz (al:=al) hv (k:=0) (by omega)
 omega
theorem F8z {al big:Bool}{s:List Int}{ls:List (List Int)}(h:paB al s ls=false):paL al big s ls=[]:=by unfold paL;rw [h];rfl
theorem paB_bad {al:Bool}{s:List Int}{ls:List (List Int)}{k:Nat}{l:List Int}(h:ls[k]?=some l)(hi:vI s l=false):paB al s ls=false:=by
 unfold paB
 rw [Bool.and_eq_false_iff]
 exact .inr (by rw [Bool.eq_false_iff];intro e;have:=List.all_eq_true.1 e l (List.mem_of_getElem? h);rw [hi] at this;cases this)
theorem paB_big {al:Bool}{s:List Int}{ls:List (List Int)}(h:60<ls.length*(fN al s).toNat):paB al s ls=false:=by
 unfold paB
 rw [decide_eq_false (by omega)]
 simp
theorem paB_all {al:Bool}{s:List Int}{ls:List (List Int)}(hv:vF s=true)(hz:ls.length*(fN al s).toNat≤60)(h:∀ (k:Nat) (l:List Int),ls[k]?=some l→vI s l=true):paB al s ls=true:=by
 unfold paB
 rw [hv,decide_eq_true hz]
 simp only [Bool.true_and,List.all_eq_true]
 intro l hl
 obtain ⟨k,hk⟩:=List.getElem?_of_mem hl
 exact h k l hk
theorem paL_len (al big:Bool)(s:List Int)(ls:List (List Int)):(paL al big s ls).length≤60:=by
 unfold paL
 split
 ·rename_i h
  unfold paB at h
  simp only [Bool.and_eq_true,decide_eq_true_eq] at h
  rw [C4z al big s ls _ (Nat.le_refl _)]
  exact h.1.2
 ·exact Nat.zero_le _
theorem mul_le60 {N a b:Nat}(h:a≤b):a*N≤b*N:=Nat.mul_le_mul_right N h


set_option maxHeartbeats 16000000 in
theorem sPA_ok (s:List Int)(n:Nat)(big al:Bool)(ls:List (List Int))(m:Nat)(hn:s.length=n)(hm:ls.length=m)(hb:(n≤1099511627776∧m≤1048576)∧∀ l∈ls,l.length≤1099511627776) :
  BCall Tryd.prog 6 [.agg [.rows false (IL s) n,.bool big,.bool al],.rows false (LL false ls) m] [] (OI (paL al big s ls)):=by
 subst hn hm
 obtain ⟨⟨hb1,hb2⟩,hb3⟩:=hb
 refine A5z (pins:=[]) (pin:=0) l6_eq rfl rfl rfl ?_
 have hll:=Baz false ls
 cases hv:vF s with
 | false =>
  rw [F8z (by unfold paB;rw [hv];rfl)]
  (repeat' ((first
 | (first|refine Agz ?_|refine Aaz ?_)
 | (first|refine Ahz ?_|refine Abz ?_)
 | (first|refine Aoz false ?_)
 | (first|(refine Apz (Atz (svFmt_ok _ _ _ _ ?_ ?_)) ?_;(iterate 2 (exact sd));rintro _ _ ⟨rfl,rfl⟩))
 | (refine Adz ⟨.inr rfl,[16000],[(16000,1)],_,by decide,rfl,?_⟩;(try simp (disch:=omega) only [push_cast,seval,↓Aiz,↓Aez,↓List.map_cons,↓List.map_nil,hv,Afz])))<;>(try simp (disch:=omega) only [push_cast,seval,hv,Afz])))
  all_goals simp [OI]
 | true =>
  obtain ⟨hN1,hN38,hN⟩:=pa_size (al:=al) hv
  have hpk:=C4z al big s ls
  have hpl:=fun l=>Eaz al big s l
  generalize hNN:(fN al s).toNat=N at *
  (repeat' ((first
 | (first|refine Agz ?_|refine Aaz ?_)
 | (first|refine Ahz ?_|refine Abz ?_|refine Alz ?_)
 | (first|refine Aoz false ?_)
 | (first|(refine Apz (Atz (svFmt_ok _ _ _ _ ?_ ?_)) ?_;(iterate 2 (exact sd));rintro _ _ ⟨rfl,rfl⟩))
 | (refine Adz ⟨.inr rfl,[160],[],_,by decide,rfl,?_⟩;(try simp (disch:=omega) only [push_cast,seval,↓Aiz,↓Aez,↓List.map_cons,↓List.map_nil,hv,Afz])))<;>(try simp (disch:=omega) only [push_cast,seval,hv,Afz])))
  refine D5z (fun k:Nat=>mkS [(1,.rows false (LL false ls) ls.length),(2,.ref 32 3 0),(5,.own 160 (paK al big s ls k).length 1),(6,.int .i64 k)] [(160,IL (paK al big s ls k)),(32,[.rows false (IL s) s.length,.bool big,.bool al])]) (fun k=>k≤ls.length∧k*N≤60∧∀ (j:Nat) (l:List Int),j<k→ls[j]?=some l→vI s l=true) (fun k=>ls.length-k) 0 ⟨Nat.zero_le _,by omega,fun j l h=>absurd h (Nat.not_lt_zero _)⟩ ?_ ?_
  ·refine SubW.of ?_
   have e0:=paK_nil al big s ls
   (refine Sub.of_lists ?_ ?_ ?_ ?_ ?_<;>simp [Vw.mkS,Vw.lk,Vw.hk,AV.inn,innL,Akz,Ajz,Amz,-List.map_set,-List.getD_eq_getElem?_getD,Afz,e0])
  ·rintro k ⟨hk,hz,hj⟩
   try simp only at hk hz hj ⊢
   have hkl:=hpk k hk
   by_cases hlt:k<ls.length
   ·obtain ⟨l,hl⟩:∃ l,ls[k]?=some l:=⟨_,List.getElem?_eq_getElem hlt⟩
    have hd:=Drz false ls k hl
    have hlb:=hb3 l (List.mem_of_getElem? hl)
    cases hi:vI s l with
    | false =>
     rw [F8z (paB_bad hl hi)]
     (repeat' ((first
 | (first|refine Agz ?_|refine Aaz ?_)
 | (first|refine Ahz ?_|refine A4z (mid:=l6r6a) (post:=l6r6b) Cjz (by decide) ?_|refine Abz ?_|refine Alz ?_)
 | ((first|refine Acz (fun h=>?_) (fun h=>?_))<;>(try simp only [h])<;>(try simp only [bitvec_to_nat] at h)<;>(try simp only [h])<;>(first|(exfalso;omega)|(exfalso;simp_all;done)|skip))
 | (first|refine Aoz false ?_)
 | (first|(refine Apz (Atz (Cmz _ _ _ _ _ _ ?_ ?_ ?_ ?_)) ?_;(iterate 4 (exact sd));rintro _ _ ⟨rfl,rfl⟩))
 | (refine Adz ⟨.inr rfl,[16000],[(16000,1)],_,by decide,rfl,?_⟩; (try simp (disch := omega) only [push_cast,seval,↓Aiz,↓Aez,↓List.map_cons,↓List.map_nil,hd,hi,hv,hll,Afz])))<;>(try simp (disch:=omega) only [push_cast,seval,hd,hi,hv,hll,Afz])))
     all_goals simp [OI]
    | true =>
     have hvi:(vF s&&vI s l)=true:=by rw [hv,hi];rfl
     have hsc:=paK_succ al big s hl
     have hp1:=hpl l
     have hm1:(k+1)*N=k*N+N:=Nat.succ_mul k _
     have hk1:=hpk (k+1) (by omega)
     by_cases hbig:60<(k+1)*N
     ·have:=mul_le60 (N:=N) (show k+1≤ls.length by omega)
      rw [F8z (paB_big (by rw [hNN];omega))]
      generalize k*N=M at *
      (repeat' ((first
 | (first|refine Agz ?_|refine Aaz ?_)
 | (first|refine Ahz ?_|refine A4z (mid:=l6r6a) (post:=l6r6b) Cjz (by decide) ?_|refine A4z (mid:=l6r8a) (post:=l6r8b) Cjz (by decide) ?_|refine Abz ?_|refine Alz ?_)
 | ((first|refine Acz (fun h=>?_) (fun h=>?_))<;>(try simp only [h])<;>(try simp only [bitvec_to_nat] at h)<;>(try simp only [h])<;>(first|(exfalso;omega)|(exfalso;simp_all;done)|skip))
 | (first|refine Aoz false ?_|refine Bmz false ?_)
 | (first|((first|refine Apz (Atz (Cmz _ _ _ _ _ _ ?_ ?_ ?_ ?_)) ?_|refine Ayz (Atz (Cmz _ _ _ _ _ _ ?_ ?_ ?_ ?_)) ⟨_,_,rfl,rfl⟩ ?_);(iterate 4 (exact sd));rintro _ _ ⟨rfl,rfl⟩)|((first|refine Apz (C1z _ _ _ _ _ _ ?_ ?_ ?_) ?_|refine Ayz (C1z _ _ _ _ _ _ ?_ ?_ ?_) ⟨_,_,rfl,rfl⟩ ?_);(iterate 3 (exact sd));rintro _ _ ⟨rfl,rfl⟩))
 | (refine Adz ⟨.inr rfl,[16000],[(16000,1)],_,by decide,rfl,?_⟩; (try simp (disch := omega) only [push_cast,seval,↓Aiz,↓Aez,↓List.map_cons,↓List.map_nil,hd,hi,hv,hvi,hll,hp1,hkl,hNN,Afz,List.length_append,List.length_map])))<;>(try simp (disch:=omega) only [push_cast,seval,hd,hi,hv,hvi,hll,hp1,hkl,hNN,Afz,List.length_append,List.length_map])))
      all_goals simp [OI]
     ·have hR:IL (paK al big s ls k)++IL (pkL al big s l)=IL (paK al big s ls (k+1)):=by rw [← hsc];unfold IL;rw [List.map_append]
      have hjj:∀ j l',j<k+1→ls[j]?=some l'→vI s l'=true:=fun j l' h1 h2=>by
       by_cases e:j=k
       ·subst e;rw [hl] at h2;injection h2 with h2;rw [← h2];exact hi
       ·exact hj j l' (by omega) h2
      have hz1:(k+1)*N≤60:=by omega
      have hln:(paK al big s ls (k+1)).length=(paK al big s ls k).length+N:=by omega
      have hM:(paK al big s ls k).length≤60:=by omega
      (repeat' ((first
 | (first|refine Agz ?_|refine Aaz ?_)
 | (first|refine Ahz ?_|refine A4z (mid:=l6r6a) (post:=l6r6b) Cjz (by decide) ?_|refine A4z (mid:=l6r8a) (post:=l6r8b) Cjz (by decide) ?_|refine Abz ?_|refine Alz ?_)
 | ((first|refine Acz (fun h=>?_) (fun h=>?_))<;>(try simp only [h])<;>(try simp only [bitvec_to_nat] at h)<;>(try simp only [h])<;>(first|(exfalso;omega)|(exfalso;simp_all;done)|skip))
 | (first|refine Aoz false ?_|refine Bmz false ?_)
 | (first|((first|refine Apz (Atz (Cmz _ _ _ _ _ _ ?_ ?_ ?_ ?_)) ?_|refine Ayz (Atz (Cmz _ _ _ _ _ _ ?_ ?_ ?_ ?_)) ⟨_,_,rfl,rfl⟩ ?_);(iterate 4 (exact sd));rintro _ _ ⟨rfl,rfl⟩)|((first|refine Apz (C1z _ _ _ _ _ _ ?_ ?_ ?_) ?_|refine Ayz (C1z _ _ _ _ _ _ ?_ ?_ ?_) ⟨_,_,rfl,rfl⟩ ?_);(iterate 3 (exact sd));rintro _ _ ⟨rfl,rfl⟩))
 | (refine Adz ⟨.inr rfl,[160],[],_,by decide,rfl,?_⟩; (try simp (disch := omega) only [push_cast,seval,↓Aiz,↓Aez,↓List.map_cons,↓List.map_nil,hd,hi,hv,hvi,hll,hp1,hNN,Afz,List.length_append,List.length_map])))<;>(try simp (disch:=omega) only [push_cast,seval,hd,hi,hv,hvi,hll,hp1,hNN,Afz,List.length_append,List.length_map])))
      all_goals (refine ⟨k+1,⟨by omega,hz1,hjj⟩,by omega,SubW.of ?_⟩;(refine Sub.of_lists ?_ ?_ ?_ ?_ ?_<;>simp [Vw.mkS,Vw.lk,Vw.hk,AV.inn,innL,Akz,Ajz,Amz,-List.map_set,-List.getD_eq_getElem?_getD,Afz,← hR,hln,hNN]))
   ·have e:k=ls.length:=by omega
    subst e
    have hall:=paB_all hv (by rw [hNN];exact hz) fun k l h=>hj k l (List.getElem?_eq_some_iff.1 h).1 h
    have hP:paL al big s ls=paK al big s ls ls.length:=by unfold paL;rw [hall];rfl
    rw [hP]
    (repeat' (first
 | (first|refine Agz ?_|refine Aaz ?_)
 | ((first|refine Ahz ?_|refine Abz ?_|refine Arz ?_);simp (disch:=omega) only [push_cast,seval,hll,Afz])
 | ((first|refine Acz (fun h=>?_) (fun h=>?_))<;>(try simp only [h])<;>(try simp only [bitvec_to_nat] at h)<;>(try simp only [h])<;>(first|(exfalso;omega)|(exfalso;simp_all;done)|(simp (disch:=omega) only [push_cast,seval,hll,Afz])|skip))
 | (refine Adz ⟨.inr rfl,[160],[],_,by decide,rfl,?_⟩;(try simp (disch:=omega) only [push_cast,seval,↓Aiz,↓Aez,↓List.map_cons,↓List.map_nil,hll,Afz]))))
    all_goals simp [OI]


set_option maxHeartbeats 16000000 in
theorem iPA_ok (s:List Int)(n:Nat)(big al:Bool)(ls:List (List Int))(m:Nat)(hn:s.length=n)(hm:ls.length=m)(hb:(n≤1099511627776∧m≤1048576)∧∀ l∈ls,l.length≤1099511627776) :
  BCall Tryd.prog 9 [.agg [.rows false (IL s) n,.bool big,.bool al],.rows false (LL false ls) m] [] (OI (paL al big s ls)):=by
 subst hn hm
 obtain ⟨⟨hb1,hb2⟩,hb3⟩:=hb
 refine A5z (pins:=[]) (pin:=0) l9_eq rfl rfl rfl ?_
 have hll:=Baz false ls
 cases hv:vF s with
 | false =>
  rw [F8z (by unfold paB;rw [hv];rfl)]
  (repeat' ((first
 | (first|refine Agz ?_|refine Aaz ?_)
 | (first|refine Ahz ?_|refine Abz ?_)
 | (first|refine Aoz false ?_)
 | (first|(refine Apz (Atz (C8z _ _ _ _ ?_ ?_)) ?_;(iterate 2 (exact sd));rintro _ _ ⟨rfl,rfl⟩))
 | (refine Adz ⟨.inr rfl,[16000],[(16000,1)],_,by decide,rfl,?_⟩;(try simp (disch:=omega) only [push_cast,seval,↓Aiz,↓Aez,↓List.map_cons,↓List.map_nil,hv,Afz])))<;>(try simp (disch:=omega) only [push_cast,seval,hv,Afz])))
  all_goals simp [OI]
 | true =>
  obtain ⟨hN1,hN38,hN⟩:=pa_size (al:=al) hv
  have hpk:=C4z al big s ls
  have hpl:=fun l=>Eaz al big s l
  generalize hNN:(fN al s).toNat=N at *
  have hq:(60:Int).tdiv (fN al s)=((60 / N:Nat):Int):=by
   rw [hN,Int.tdiv_eq_ediv_of_nonneg (by omega)];rfl
  have hnz:fN al s≠0:=by omega
  have hdv:=Nat.div_lt_iff_lt_mul (k:=N) (x:=60) (y:=ls.length) (by omega)
  have hd60:60 / N≤60:=Nat.div_le_self _ _
  by_cases hgt:60 / N<ls.length
  ·rw [F8z (paB_big (by rw [hNN];exact hdv.1 hgt))]
   generalize hQ:60 / N=Q at *
   clear hdv hpk
   (repeat' ((first
 | (first|refine Agz ?_|refine Aaz ?_)
 | (first|refine Ahz ?_|refine Abz ?_)
 | ((first|refine Acz (fun h=>?_) (fun h=>?_))<;>(try simp only [h])<;>(try simp only [bitvec_to_nat] at h)<;>(try simp only [h])<;>(first|(exfalso;omega)|(exfalso;simp_all;done)|skip))
 | (first|refine Aoz false ?_)
 | (first|(refine Apz (Atz (C8z _ _ _ _ ?_ ?_)) ?_;(iterate 2 (exact sd));rintro _ _ ⟨rfl,rfl⟩)|(refine Apz (Atz (Gdz _ _ _ _ ?_ ?_)) ?_;(iterate 2 (exact sd));rintro _ _ ⟨rfl,rfl⟩))
 | (refine Adz ⟨.inr rfl,[16000],[(16000,1)],_,by decide,rfl,?_⟩;(try simp (disch:=omega) only [push_cast,seval,↓Aiz,↓Aez,↓List.map_cons,↓List.map_nil,hv,hq,Afz])))<;>(try simp (disch:=omega) only [push_cast,seval,hv,hq,Afz])))
   all_goals simp [OI]
  ·have hz60:ls.length*N≤60:=by
    have:=mt hdv.2 hgt
    omega
   generalize hQ:60 / N=Q at *
   clear hdv
   (repeat' ((first
 | (first|refine Agz ?_|refine Aaz ?_)
 | (first|refine Ahz ?_|refine Abz ?_|refine Alz ?_)
 | ((first|refine Acz (fun h=>?_) (fun h=>?_))<;>(try simp only [h])<;>(try simp only [bitvec_to_nat] at h)<;>(try simp only [h])<;>(first|(exfalso;omega)|(exfalso;simp_all;done)|skip))
 | (first|refine Aoz false ?_)
 | (first|(refine Apz (Atz (C8z _ _ _ _ ?_ ?_)) ?_;(iterate 2 (exact sd));rintro _ _ ⟨rfl,rfl⟩)|(refine Apz (Atz (Gdz _ _ _ _ ?_ ?_)) ?_;(iterate 2 (exact sd));rintro _ _ ⟨rfl,rfl⟩))
 | (refine Adz ⟨.inr rfl,[16000],[(16000,1)],_,by decide,rfl,?_⟩;(try simp (disch:=omega) only [push_cast,seval,↓Aiz,↓Aez,↓List.map_cons,↓List.map_nil,hv,hq,Afz])))<;>(try simp (disch:=omega) only [push_cast,seval,hv,hq,Afz])))
   refine D5z (fun k:Nat=>mkS [(2,.ref 32 3 0),(5,.own 16000 (paK al big s ls k).length 1),(19,.rows false (LL false ls) ls.length),(20,.int .i64 ls.length),(21,.int .i64 k)] [(16000,IL (paK al big s ls k)),(32,[.rows false (IL s) s.length,.bool big,.bool al])]) (fun k=>k≤ls.length∧∀ (j:Nat) (l:List Int),j<k→ls[j]?=some l→vI s l=true) (fun k=>ls.length-k) 0 ⟨Nat.zero_le _,fun j l h=>absurd h (Nat.not_lt_zero _)⟩ ?_ ?_
   ·refine SubW.adopt [5] 16000 1 (by simp [Vw.hk]) (SubW.of ?_)
    simp only [adL,List.map_cons,List.map_nil,adA,List.contains_cons,List.contains_nil]
    have e0:=paK_nil al big s ls
    (refine Sub.of_lists ?_ ?_ ?_ ?_ ?_<;>simp [Vw.mkS,Vw.lk,Vw.hk,AV.inn,innL,Akz,Ajz,Amz,-List.map_set,-List.getD_eq_getElem?_getD,Afz,e0])
   ·rintro k ⟨hk,hj⟩
    try simp only at hk hj ⊢
    have hkl:=hpk k hk
    by_cases hlt:k<ls.length
    ·obtain ⟨l,hl⟩:∃ l,ls[k]?=some l:=⟨_,List.getElem?_eq_getElem hlt⟩
     have hd:=Drz false ls k hl
     have hlb:=hb3 l (List.mem_of_getElem? hl)
     cases hi:vI s l with
     | false =>
      rw [F8z (paB_bad hl hi)]
      have hvi:(vF s&&vI s l)=false:=by rw [hi,Bool.and_false]
      (repeat' ((first
 | (first|refine Agz ?_|refine Aaz ?_)
 | (first|refine Ahz ?_|refine Abz ?_|refine Alz ?_)
 | ((first|refine Acz (fun h=>?_) (fun h=>?_))<;>(try simp only [h])<;>(try simp only [bitvec_to_nat] at h)<;>(try simp only [h])<;>(first|(exfalso;omega)|(exfalso;simp_all;done)|skip))
 | (first|refine Aoz false ?_)
 | (first|(refine Apz (Atz (Gkz _ _ _ _ _ _ ?_ ?_ ?_)) ?_;(iterate 3 (exact sd));rintro _ _ ⟨rfl,rfl⟩))
 | (refine Adz ⟨.inr rfl,[16001],[(16001,1)],_,by decide,rfl,?_⟩; (try simp (disch := omega) only [push_cast,seval,↓Aiz,↓Aez,↓List.map_cons,↓List.map_nil,hd,hvi,hv,hi,hll,Afz])))<;>(try simp (disch:=omega) only [push_cast,seval,hd,hvi,hv,hi,hll,Afz])))
      all_goals simp [OI]
     | true =>
      have hvi:(vF s&&vI s l)=true:=by rw [hv,hi];rfl
      have hsc:=paK_succ al big s hl
      have hp1:=hpl l
      have hm1:(k+1)*N=k*N+N:=Nat.succ_mul k _
      have hk1:=hpk (k+1) (by omega)
      have:=mul_le60 (N:=N) (show k+1≤ls.length by omega)
      have hR:IL (paK al big s ls k)++IL (pkL al big s l)=IL (paK al big s ls (k+1)):=by rw [← hsc];unfold IL;rw [List.map_append]
      have hjj:∀ j l',j<k+1→ls[j]?=some l'→vI s l'=true:=fun j l' h1 h2=>by
       by_cases e:j=k
       ·subst e;rw [hl] at h2;injection h2 with h2;rw [← h2];exact hi
       ·exact hj j l' (by omega) h2
      have hln:(paK al big s ls (k+1)).length=(paK al big s ls k).length+N:=by omega
      have hM:(paK al big s ls k).length≤60:=by omega
      (repeat' ((first
 | (first|refine Agz ?_|refine Aaz ?_)
 | (first|refine Ahz ?_|refine Abz ?_|refine Alz ?_)
 | ((first|refine Acz (fun h=>?_) (fun h=>?_))<;>(try simp only [h])<;>(try simp only [bitvec_to_nat] at h)<;>(try simp only [h])<;>(first|(exfalso;omega)|(exfalso;simp_all;done)|skip))
 | (first|refine Aoz false ?_)
 | (first|(refine Apz (Atz (Gkz _ _ _ _ _ _ ?_ ?_ ?_)) ?_;(iterate 3 (exact sd));rintro _ _ ⟨rfl,rfl⟩)|(refine Apz (ipacked_ok _ _ _ _ _ _ ?_ ?_ ?_) ?_;(iterate 3 (exact sd));rintro _ _ ⟨rfl,rfl⟩))
 | (refine Adz ⟨.inr rfl,[16000],[],_,by decide,rfl,?_⟩; (try simp (disch := omega) only [push_cast,seval,↓Aiz,↓Aez,↓List.map_cons,↓List.map_nil,hd,hi,hv,hvi,hll,hp1,hNN,Afz,List.length_append,List.length_map])))<;>(try simp (disch:=omega) only [push_cast,seval,hd,hi,hv,hvi,hll,hp1,hNN,Afz,List.length_append,List.length_map])))
      all_goals (refine ⟨k+1,⟨by omega,hjj⟩,by omega,SubW.of ?_⟩;(refine Sub.of_lists ?_ ?_ ?_ ?_ ?_<;>simp [Vw.mkS,Vw.lk,Vw.hk,AV.inn,innL,Akz,Ajz,Amz,-List.map_set,-List.getD_eq_getElem?_getD,Afz,← hR,hln,hNN]))
    ·have e:k=ls.length:=by omega
     subst e
     have hall:=paB_all hv (by rw [hNN];exact hz60) fun k l h=>hj k l (List.getElem?_eq_some_iff.1 h).1 h
     have hP:paL al big s ls=paK al big s ls ls.length:=by unfold paL;rw [hall];rfl
     rw [hP]
     (repeat' (first
 | (first|refine Agz ?_|refine Aaz ?_)
 | ((first|refine Ahz ?_|refine Abz ?_|refine Arz ?_);simp (disch:=omega) only [push_cast,seval,hll,Afz])
 | ((first|refine Acz (fun h=>?_) (fun h=>?_))<;>(try simp only [h])<;>(try simp only [bitvec_to_nat] at h)<;>(try simp only [h])<;>(first|(exfalso;omega)|(exfalso;simp_all;done)|(simp (disch:=omega) only [push_cast,seval,hll,Afz])|skip))
 | (refine Adz ⟨.inr rfl,[16000],[],_,by decide,rfl,?_⟩; (try simp (disch := omega) only [push_cast,seval,↓Aiz,↓Aez,↓List.map_cons,↓List.map_nil,hll,Afz]))))
     all_goals simp [OI]

end Go.Proofs.YtjmcjjbhkiebkaaDoor
namespace Go.Proofs.YtjmcjjbhkiebkaaDoor
open VwM Vw Go

theorem flat_LL (ls:List (List Int)):(ls.flatMap fun p=>Vw.enS Vw.enI p)=LL false ls:=by
 induction ls with
 | nil=>rfl
 | cons l r ih=>rw [List.flatMap_cons,ih];simp [LL,Vw.enS,Vw.enI,IL,Vw.flat_ints]
theorem lsF_bb {ls:List (List Int)}{n:Nat}(h1:ls.length≤n)(h:∀ l∈ls,l.length≤1048576):ls.length≤n∧∀ j,((lsF ls).rows j).length≤1048576:=by
 refine ⟨h1,fun j=>?_⟩
 by_cases hj:j<ls.length
 ·have:=h ls[j] (List.getElem_mem hj)
  simpa [lsF,List.getD,hj] using this
 ·simp [lsF,List.getD,hj]


set_option maxHeartbeats 64000000 in
theorem lPA_ok (s:List Int)(big al:Bool)(ls:List (List Int))(hl:s.length≤9223372036854775807)(hm:ls.length≤9223372036854775807)(hb':∀ l∈ls,l.length≤9223372036854775807):PCall Tryd.prog 3 [.agg [RI s,.bool big,.bool al],.rows false (LL false ls) ls.length] (fun r=>r=.bool true):=by
 refine Awz l3_eq rfl ?_
 have hC:=paL_len al big s ls
 generalize hQ:paL al big s ls=Q at *
 have hq':ls.length≤9223372036854775807∧∀ l∈ls,l.length≤9223372036854775807:=⟨hm,hb'⟩
 by_cases h:1048576-(s.length:Int)<0
 ·(repeat' ((first
 | (first|refine Agz ?_|refine Aaz ?_)
 | (first|refine Ahz ?_|refine Abz ?_)
 | (first|refine Aoz false ?_)
 | (first|(refine Apz (Atz (szFmt_ok _ _ _ _ _ ?_)) ?_;(exact sd);rintro _ _ ⟨rfl,rfl⟩))
 | (refine Adz ⟨.inr rfl,_,rfl,?_⟩))<;>(try simp (disch:=omega) only [push_cast,seval,h,Afz])))
 ·have h':s.length≤1048576:=by omega
  (repeat' ((first
 | (first|refine Agz ?_|refine Aaz ?_)
 | (first|refine Ahz ?_|refine Abz ?_|refine Alz ?_)
 | ((first|refine Acz (fun h=>?_) (fun h=>?_))<;>(try simp only [h])<;>(try simp only [bitvec_to_nat] at h)<;>(try simp only [h])<;>(first|(exfalso;omega)|(exfalso;simp_all;done)|skip))
 | (first|refine Aoz false ?_)
 | (first|(refine Apz (Atz (szFmt_ok _ _ _ _ _ ?_)) ?_;(exact sd);rintro _ _ ⟨rfl,rfl⟩)|(refine Apz (Atz (szIntSS_ok _ _ _ ?_ ?_ ?_)) ?_;(iterate 3 (exact sd));rintro _ _ ⟨⟨z2,hz2,rfl⟩,rfl⟩)|(refine Apz (Dhz _ _ _ _ ?_ ?_) ?_;(iterate 2 (exact sd));rintro _ _ ⟨rfl,rfl⟩))
 | (refine Adz ⟨.inr rfl,_,rfl,?_⟩))<;>(try simp (disch:=omega) only [push_cast,seval,h,Afz])))
  obtain ⟨hz5,hz6,hz7⟩:=hz2 (by assumption)
  have q6:ls.length≤1048576∧∀ l∈ls,l.length≤1099511627776:=⟨hz6,fun v hv=>by have:=hz7 v hv;omega⟩
  have q8:ls.length≤1099511627776∧∀ l∈ls,l.length≤1099511627776:=⟨by omega,q6.2⟩
  have q10:(s.length≤1099511627776∧ls.length≤1048576)∧∀ l∈ls,l.length≤1099511627776:=⟨⟨by omega,hz6⟩,q6.2⟩
  have hFl:(lsF ls).C=ls.length∧(lsF ls).R=ls.length∧∀ p,(lsF ls).pat p=.inr p:=⟨rfl,rfl,fun _=>rfl⟩
  have hbl:=lsF_bb hz6 hz7
  (repeat' ((first
 | (first|refine Agz ?_|refine Aaz ?_)
 | (first|refine Ahz ?_|refine A4z (mid:=l3r14a) (post:=l3r14b) Cjz (by decide) ?_|refine Abz ?_|refine Alz ?_)
 | ((first|refine Acz (fun h=>?_) (fun h=>?_)|refine Fkz (fun h=>?_) (fun h=>?_))<;>(try simp only [h])<;>(try simp only [bitvec_to_nat] at h)<;>(try simp only [h])<;>(first|(exfalso;omega)|(exfalso;simp_all;done)|skip))
 | (first|((with_reducible refine Aoz (f:=8) false ?_);simp (disch:=omega) only [push_cast,seval,hQ,Afz,decide_true,Bool.and_self];(refine callFN (toIntSSF_ok _ _ ?_ ?_) (by (simp (disch:=omega) only [push_cast,seval,hQ,Afz,decide_true,Bool.and_self]);done) ?_;(iterate 2 (exact sd))))|((with_reducible refine B7z (f:=13) [480] false ?_);simp (disch:=omega) only [push_cast,seval,hQ,Afz,decide_true,Bool.and_self];(refine Glz (id:=480) (G6z _ _ _ _ _ ?_ ?_) (by (simp (disch:=omega) only [push_cast,seval,hQ,Afz,decide_true,Bool.and_self])<;>rfl) ?_;(iterate 2 (exact sd));rintro _ _ ⟨rfl,rfl⟩))|((with_reducible refine callE_of (f:=14) ?_);simp (disch:=omega) only [push_cast,seval,hQ,Afz,decide_true,Bool.and_self];(refine callFM (G5z _ _ _ ?_ ?_ ?_) (by (simp (disch:=omega) only [push_cast,seval,hQ,Afz,decide_true,Bool.and_self])<;>rfl) (by first|((simp (disch:=omega) only [push_cast,seval,hQ,Afz,decide_true,Bool.and_self]);done)|omega) (by first|((simp (disch:=omega) only [push_cast,seval,hQ,Afz,decide_true,Bool.and_self]);done)|((simp (disch:=omega) only [push_cast,seval,hQ,Afz,decide_true,Bool.and_self]);assumption)) (fun G kk hkk hG=>?_);(iterate 3 (exact sd))))|((with_reducible refine B7z (f:=15) [560] false ?_);simp (disch:=omega) only [push_cast,seval,hQ,Afz,decide_true,Bool.and_self];(refine Glz (id:=560) (Dkz _ _ _ ?_ ?_) (by (simp (disch:=omega) only [push_cast,seval,hQ,Afz,decide_true,Bool.and_self])<;>rfl) ?_;(iterate 2 (exact sd));rintro _ _ ⟨rfl,rfl⟩)))
 | (first|refine Aoz false ?_|refine Bmz false ?_)
 | (first|((first|refine Apz (Dhz _ _ _ _ ?_ ?_) ?_|refine Ayz (Atz (plainF (Dhz _ _ _ _ ?_ ?_))) ⟨_,_,rfl,rfl⟩ ?_);(iterate 2 (exact sd));rintro _ _ ⟨rfl,rfl⟩)|((first|refine Apz (Atz (Evz _ _ ?_ ?_)) ?_|refine Ayz (Atz (Evz _ _ ?_ ?_)) ⟨_,_,rfl,rfl⟩ ?_);(iterate 2 (exact sd));rintro _ _ ⟨rfl,rfl⟩)|((first|refine Apz (sPA_ok _ _ _ _ _ _ ?_ ?_ ?_) ?_|refine Ayz (sPA_ok _ _ _ _ _ _ ?_ ?_ ?_) ⟨_,_,rfl,rfl⟩ ?_);(iterate 3 (exact sd));rintro _ _ ⟨rfl,rfl⟩)|((first|refine Apz (iPA_ok _ _ _ _ _ _ ?_ ?_ ?_) ?_|refine Ayz (iPA_ok _ _ _ _ _ _ ?_ ?_ ?_) ⟨_,_,rfl,rfl⟩ ?_);(iterate 3 (exact sd));rintro _ _ ⟨rfl,rfl⟩)|((first|refine Apz (Atz (Cvz _ _ _ _ ?_ ?_ ?_)) ?_|refine Ayz (Atz (Cvz _ _ _ _ ?_ ?_ ?_)) ⟨_,_,rfl,rfl⟩ ?_);(iterate 3 (exact sd));rintro _ _ ⟨rfl,rfl⟩)|((first|refine Apz (Atz (Fqz _ _ _ _ _ _ _ _ ?_ ?_ ?_)) ?_|refine Ayz (Atz (Fqz _ _ _ _ _ _ _ _ ?_ ?_ ?_)) ⟨_,_,rfl,rfl⟩ ?_);(iterate 3 (exact sd));rintro _ _ ⟨rfl,rfl⟩)|((first|refine Apz (Atz (Giz _ _ ?_ ?_)) ?_|refine Ayz (Atz (Giz _ _ ?_ ?_)) ⟨_,_,rfl,rfl⟩ ?_);(iterate 2 (exact sd));rintro _ _ ⟨rfl,rfl⟩)|((first|refine Apz (Atz (Fiz _ _ ?_)) ?_|refine Ayz (Atz (Fiz _ _ ?_)) ⟨_,_,rfl,rfl⟩ ?_);(exact sd);rintro _ _ ⟨rfl,rfl⟩))
 | (refine Adz ⟨.inr rfl,_,rfl,?_⟩))<;>(try simp (disch:=omega) only [push_cast,seval,hQ,Afz,decide_true,Bool.and_self])))
theorem lPA2_ok (s:List Int)(big al:Bool)(x1:List (List Int))(hl:s.length≤9223372036854775807)(h3:∀ a∈x1,Vw.goodS Vw.goodI a)(h4:x1.length≤9223372036854775807):PCall Tryd.prog 3 [.agg [RI s,.bool big,.bool al],.rows false (x1.flatMap fun p=>Vw.enS Vw.enI p) x1.length] (fun r=>r=.bool true):=by
 have h:=lPA_ok s big al x1 hl h4 (fun v hv=>(h3 v hv).2)
 rw [flat_LL]
 exact h

end Go.Proofs.YtjmcjjbhkiebkaaDoor
