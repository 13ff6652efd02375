import Derived.Test.YtejbfjmiidofcaaGreatCKn6
import Derived.Test.YtejbfjmiidofcaaGreatCM1
import Derived.Test.YtejbfjmiidofcaaGreatCW3
set_option linter.unusedSimpArgs false
set_option linter.unusedVariables false
set_option maxRecDepth 4000
set_option maxHeartbeats 4000000
namespace Go.Proofs.YtejbfjmiidofcaaGreat
open VwM Vw Go

def spOk (b:Int) (sh st T:List Int):Bool:=vV b sh st && vSh T && spA sh T


theorem dimSpread_ok (e s t:Int):PCall Tryz.prog 25 [.agg [.int .i64 e,.int .i64 s],.int .i64 t] (fun r=>r=.tup [.agg [.int .i64 t,.int .i64 (if e=t then s else 0)],.bool (decide (e=t) || decide (e=1))]):=by
  refine pcall_of l25_eq rfl ?_
  by_cases h:e=t
  · subst h
    (repeat' (first
 | (first|refine awp_seq ?_|refine awp_block ?_)
 | ((first|refine awp_reg ?_|refine awp_drawX (mid:=l25r3a) (post:=l25r3b) [64] mixed (by decide) ?_|refine awp_condB ?_|refine awp_skip ?_|refine awp_exit ?_);simp (disch:=omega) only [push_cast,seval,l25r0,l25r1,l25r2,l25r3a,l25r3b,l25r3])
 | ((first|refine condB_split (fun h=>?_) (fun h=>?_)|refine gIf_split (fun h=>?_) (fun h=>?_)|refine qIf_split (fun h=>?_) (fun h=>?_))<;>(try simp only [h])<;>(try simp only [bitvec_to_nat] at h)<;>(try simp only [h])<;>(first|(exfalso;omega)|(focus (exfalso;simp_all;done))|(simp (disch:=omega) only [push_cast,seval])|skip))
 | (refine awp_ret ⟨.inr rfl,_,rfl,?_⟩;(try simp (disch:=omega) only [push_cast,seval]))))
    all_goals simp
  · have h2:¬ t=e:=fun h'=>h h'.symm
    (repeat' (first
 | (first|refine awp_seq ?_|refine awp_block ?_)
 | ((first|refine awp_reg ?_|refine awp_drawX (mid:=l25r3a) (post:=l25r3b) [64] mixed (by decide) ?_|refine awp_condB ?_|refine awp_skip ?_|refine awp_exit ?_);simp (disch:=omega) only [push_cast,seval,l25r0,l25r1,l25r2,l25r3a,l25r3b,l25r3,h,h2])
 | ((first|refine condB_split (fun h=>?_) (fun h=>?_)|refine gIf_split (fun h=>?_) (fun h=>?_)|refine qIf_split (fun h=>?_) (fun h=>?_))<;>(try simp only [h])<;>(try simp only [bitvec_to_nat] at h)<;>(try simp only [h])<;>(first|(exfalso;omega)|(focus (exfalso;simp_all;done))|(simp (disch:=omega) only [push_cast,seval,h,h2])|skip))
 | (refine awp_ret ⟨.inr rfl,_,rfl,?_⟩;(try simp (disch:=omega) only [push_cast,seval,h,h2]))))
    all_goals simp [h]


set_option maxHeartbeats 8000000 in
theorem sspread_ok (b:Int) (sh st T:List Int) (n m k:Nat) (hn:sh.length=n) (hm:st.length=m) (hk:T.length=k) (hb:(m=n ∧ n ≤ k) ∧ good4 T):BCall Tryz.prog 29 [.agg [.int .i64 b,.rows false (IL sh) n,.rows false (IL st) m],.rows false (IL T) k] [] (MV (spA sh T) (stB T b) T (stE T (sprS sh st T))):=by
  subst hn hm hk
  obtain ⟨⟨hb1,hb2⟩,hg⟩:=hb
  have hg4:=hg.2
  refine bcall_of (pins:=[]) (pin:=0) l29_eq rfl rfl rfl ?_
  obtain ⟨a,ha⟩:∃ a:Nat,T.length - sh.length=a:=⟨_,rfl⟩
  have ha':(T.length:Int) - (sh.length:Int)=(a:Int):=by omega
  have hz1:List.replicate T.length (AV.int .i64 0)=IL (List.replicate T.length (0:Int)):=by simp
  have hSl:=sprS_length sh st T
  have hZl:(List.replicate T.length (0:Int)).length=T.length:=by simp
  have hZg:∀ j,(List.replicate T.length (0:Int)).getD j 0=0:=fun j=>by
    rw [List.getD,List.getElem?_replicate];split<;>rfl
  have hSlo:=fun j (h:j < T.length - sh.length)=>sprS_lo (st:=st) h
  have hShi:=fun i (h:a + i < T.length)=>sprS_hi (sh:=sh) (st:=st) ha h
  have hAt:=fun h=>spA_true (sh:=sh) (T:=T) hb2 ha h
  have hAf:=fun i=>spA_false (sh:=sh) (T:=T) (i:=i) ha
  (repeat' (first
 | (first|refine awp_seq ?_|refine awp_block ?_)
 | ((first|refine awp_reg ?_|refine awp_draw (mid:=l29r1a) (post:=l29r1b) mixed (by decide) ?_|refine awp_draw (mid:=l29r5a) (post:=l29r5b) mixed (by decide) ?_|refine awp_draw (mid:=l29r6a) (post:=l29r6b) mixed (by decide) ?_|refine awp_condB ?_|refine awp_skip ?_|refine awp_exit ?_);simp (disch:=omega) only [push_cast,seval,l29r0,l29r1a,l29r1b,l29r1,l29r2,l29r3,l29r4,l29r5a,l29r5b,l29r5,l29r6a,l29r6b,l29r6,l29r7,l29r8,l29r9,l29r10,l29r11,l29r12,l29r13,ha',hz1])
 | ((first|refine condB_split (fun h=>?_) (fun h=>?_)|refine gIf_split (fun h=>?_) (fun h=>?_)|refine qIf_split (fun h=>?_) (fun h=>?_))<;>(try simp only [h])<;>(try simp only [bitvec_to_nat] at h)<;>(try simp only [h])<;>(first|(exfalso;omega)|(focus (exfalso;simp_all;done))|(simp (disch:=omega) only [push_cast,seval,ha',hz1])|skip))
 | ((first|refine callD_of false ?_|refine qcallD_of false ?_);simp (disch:=omega) only [push_cast,seval,ha',hz1])
 | ((first|((first|refine call0D (copyInts_ok _ _ ?_ ?_) ?_|refine qcall0D (copyInts_ok _ _ ?_ ?_) ⟨_,_,rfl,rfl⟩ ?_);(iterate 2 (exact sd));rintro _ _ ⟨rfl,rfl⟩)|((first|refine call0D (BCall.ofP (scount_ok _ _ ?_ ?_)) ?_|refine qcall0D (BCall.ofP (scount_ok _ _ ?_ ?_)) ⟨_,_,rfl,rfl⟩ ?_);(iterate 2 (exact sd));rintro _ _ ⟨rfl,rfl⟩))<;>(try simp (disch:=omega) only [push_cast,seval,ha',hz1]))
 | (refine awp_ret ⟨.inr rfl,[192,240],[],_,by decide,rfl,?_⟩;(try simp (disch:=omega) only [push_cast,seval,↓allMem_nil,↓allMem_cons,↓List.map_cons,↓List.map_nil,ha',hz1]))))
  generalize sprS sh st T=S at *
  generalize hZ:List.replicate T.length (0:Int)=Z at *
  have z0:mixL S Z (a + 0)=Z:=by
    have:∀ j,j ≤ a → mixL S Z j=Z:=fun j=>by
      induction j with
 | zero=>intro _;exact mixL_zero S Z
 | succ j ih=>intro h;rw [mixL_same hSl hZl (by omega) (by rw [hSlo j (by omega),hZg]),ih (by omega)]
    exact this a (Nat.le_refl _)
  rw [Nat.add_zero] at z0
  refine awp_loop (fun i:Nat=>mkS [(1,RI T),(2,.ref 32 3 0),(4,.ref 64 3 0),(6,.ref 96 3 0),(7,.int .i64 a),(8,.int .i64 i)] [(32,[.int .i64 b,RI sh,RI st]),(64,[.int .i64 0,.val (.slice none 0 0),.val (.slice none 0 0)]),(96,[.int .i64 b,.own 192 T.length 1,.own 240 T.length 1]),(192,IL T),(240,IL (mixL S Z (a + i)))])
    (fun i=>i ≤ sh.length ∧ ∀ j,j < i → sh.getD j 0=T.getD (a + j) 0 ∨ sh.getD j 0=1) (fun i=>sh.length - i) 0 ⟨Nat.zero_le _,fun j h=>absurd h (Nat.not_lt_zero _)⟩ ?_ ?_
  · (refine Sub.of_lists ?_ ?_ ?_ ?_ ?_<;>simp [Vw.mkS,Vw.lk,Vw.hk,AV.inn,innL,innL_ints,innL_append,innL_rep,-List.map_set,-List.getD_eq_getElem?_getD,z0])
  · rintro i ⟨hi,hj⟩
    have ha0:(0:Int) ≤ (a:Int):=by omega
    by_cases hlt:i < sh.length
    · obtain ⟨p,hp⟩:∃ p,a + i=p:=⟨_,rfl⟩
      have hai:(a:Int) + (i:Int)=(p:Int):=by omega
      have hlt2:i < st.length:=by omega
      have hlt3:p < T.length:=by omega
      have ml:=mixL_length (k:=a + i) hSl hZl (by omega)
      have ms:=mixL_succ (k:=a + i) hSl hZl (by omega)
      have me:=mixL_same (k:=a + i) hSl hZl (by omega)
      have hS:=hShi i (by omega)
      have hsA:=hAf i hlt
      have e1:a + (i + 1)=a + i + 1:=by omega
      have hZp:=hZg p
      clear hSlo hShi hAt hAf hZg z0
      generalize mixL S Z (a + i)=L at *
      rw [hp] at ms me hS hsA e1
      by_cases he:sh.getD i 0=T.getD p 0
      · rw [if_pos he] at hS
        rw [hS] at ms
        (repeat' (first
 | (first|refine awp_seq ?_|refine awp_block ?_)
 | ((first|refine awp_reg ?_|refine awp_draw (mid:=l29r1a) (post:=l29r1b) mixed (by decide) ?_|refine awp_draw (mid:=l29r5a) (post:=l29r5b) mixed (by decide) ?_|refine awp_draw (mid:=l29r6a) (post:=l29r6b) mixed (by decide) ?_|refine awp_condB ?_|refine awp_skip ?_|refine awp_exit ?_);simp (disch:=omega) only [push_cast,seval,l29r0,l29r1a,l29r1b,l29r1,l29r2,l29r3,l29r4,l29r5a,l29r5b,l29r5,l29r6a,l29r6b,l29r6,l29r7,l29r8,l29r9,l29r10,l29r11,l29r12,l29r13,ha0,hai,he,ml])
 | ((first|refine condB_split (fun h=>?_) (fun h=>?_)|refine gIf_split (fun h=>?_) (fun h=>?_)|refine qIf_split (fun h=>?_) (fun h=>?_))<;>(try simp only [h])<;>(try simp only [bitvec_to_nat] at h)<;>(try simp only [h])<;>(first|(exfalso;omega)|(focus (exfalso;simp_all;done))|(simp (disch:=omega) only [push_cast,seval,ha0,hai,he,ml])|skip))
 | ((first|refine callD_of false ?_|refine qcallD_of false ?_);simp (disch:=omega) only [push_cast,seval,ha0,hai,he,ml])
 | ((first|((first|refine call0D (copyInts_ok _ _ ?_ ?_) ?_|refine qcall0D (copyInts_ok _ _ ?_ ?_) ⟨_,_,rfl,rfl⟩ ?_);(iterate 2 (exact sd));rintro _ _ ⟨rfl,rfl⟩)|((first|refine call0D (BCall.ofP (scount_ok _ _ ?_ ?_)) ?_|refine qcall0D (BCall.ofP (scount_ok _ _ ?_ ?_)) ⟨_,_,rfl,rfl⟩ ?_);(iterate 2 (exact sd));rintro _ _ ⟨rfl,rfl⟩))<;>(try simp (disch:=omega) only [push_cast,seval,ha0,hai,he,ml]))
 | (refine awp_ret ⟨.inr rfl,[192,240],[],_,by decide,rfl,?_⟩;(try simp (disch:=omega) only [push_cast,seval,↓allMem_nil,↓allMem_cons,↓List.map_cons,↓List.map_nil,ha0,hai,he,ml]))))
        refine ⟨i + 1,⟨by omega,fun j h=>?_⟩,by omega,?_⟩
        · by_cases hji:j=i
          · subst hji;rw [hp];exact .inl he
          · exact hj j (by omega)
        · rw [e1,ms]
          (refine Sub.of_lists ?_ ?_ ?_ ?_ ?_<;>simp [Vw.mkS,Vw.lk,Vw.hk,AV.inn,innL,innL_ints,innL_append,innL_rep,-List.map_set,-List.getD_eq_getElem?_getD,IL_set])
      · by_cases h1:sh.getD i 0=1
        · rw [if_neg he] at hS
          rw [hS,hZp] at me
          have me:=me rfl
          have he':decide (sh.getD i 0=T.getD p 0)=false:=by simpa using he
          have h1':decide (sh.getD i 0=1)=true:=by simpa using h1
          clear he h1 ms
          (repeat' (first
 | (first|refine awp_seq ?_|refine awp_block ?_)
 | ((first|refine awp_reg ?_|refine awp_draw (mid:=l29r1a) (post:=l29r1b) mixed (by decide) ?_|refine awp_draw (mid:=l29r5a) (post:=l29r5b) mixed (by decide) ?_|refine awp_draw (mid:=l29r6a) (post:=l29r6b) mixed (by decide) ?_|refine awp_condB ?_|refine awp_skip ?_|refine awp_exit ?_);simp (disch:=omega) only [push_cast,seval,l29r0,l29r1a,l29r1b,l29r1,l29r2,l29r3,l29r4,l29r5a,l29r5b,l29r5,l29r6a,l29r6b,l29r6,l29r7,l29r8,l29r9,l29r10,l29r11,l29r12,l29r13,ha0,hai,he',h1',ml])
 | ((first|refine condB_split (fun h=>?_) (fun h=>?_)|refine gIf_split (fun h=>?_) (fun h=>?_)|refine qIf_split (fun h=>?_) (fun h=>?_))<;>(try simp only [h])<;>(try simp only [bitvec_to_nat] at h)<;>(try simp only [h])<;>(first|(exfalso;omega)|(focus (exfalso;simp_all;done))|(simp (disch:=omega) only [push_cast,seval,ha0,hai,he',h1',ml])|skip))
 | ((first|refine callD_of false ?_|refine qcallD_of false ?_);simp (disch:=omega) only [push_cast,seval,ha0,hai,he',h1',ml])
 | ((first|((first|refine call0D (copyInts_ok _ _ ?_ ?_) ?_|refine qcall0D (copyInts_ok _ _ ?_ ?_) ⟨_,_,rfl,rfl⟩ ?_);(iterate 2 (exact sd));rintro _ _ ⟨rfl,rfl⟩)|((first|refine call0D (BCall.ofP (scount_ok _ _ ?_ ?_)) ?_|refine qcall0D (BCall.ofP (scount_ok _ _ ?_ ?_)) ⟨_,_,rfl,rfl⟩ ?_);(iterate 2 (exact sd));rintro _ _ ⟨rfl,rfl⟩))<;>(try simp (disch:=omega) only [push_cast,seval,ha0,hai,he',h1',ml]))
 | (refine awp_ret ⟨.inr rfl,[192,240],[],_,by decide,rfl,?_⟩; (try simp (disch := omega) only [push_cast,seval,↓allMem_nil,↓allMem_cons,↓List.map_cons,↓List.map_nil,ha0,hai,he',h1',ml]))))
          refine ⟨i + 1,⟨by omega,fun j h=>?_⟩,by omega,?_⟩
          · by_cases hji:j=i
            · subst hji;exact .inr (of_decide_eq_true h1')
            · exact hj j (by omega)
          · rw [e1,me]
            (refine Sub.of_lists ?_ ?_ ?_ ?_ ?_<;>simp [Vw.mkS,Vw.lk,Vw.hk,AV.inn,innL,innL_ints,innL_append,innL_rep,-List.map_set,-List.getD_eq_getElem?_getD])
        · rw [hsA he h1]
          (repeat' (first
 | (first|refine awp_seq ?_|refine awp_block ?_)
 | ((first|refine awp_reg ?_|refine awp_draw (mid:=l29r1a) (post:=l29r1b) mixed (by decide) ?_|refine awp_draw (mid:=l29r5a) (post:=l29r5b) mixed (by decide) ?_|refine awp_draw (mid:=l29r6a) (post:=l29r6b) mixed (by decide) ?_|refine awp_condB ?_|refine awp_skip ?_|refine awp_exit ?_);simp (disch:=omega) only [push_cast,seval,l29r0,l29r1a,l29r1b,l29r1,l29r2,l29r3,l29r4,l29r5a,l29r5b,l29r5,l29r6a,l29r6b,l29r6,l29r7,l29r8,l29r9,l29r10,l29r11,l29r12,l29r13,ha0,hai,he,h1,ml])
 | ((first|refine condB_split (fun h=>?_) (fun h=>?_)|refine gIf_split (fun h=>?_) (fun h=>?_)|refine qIf_split (fun h=>?_) (fun h=>?_))<;>(try simp only [h])<;>(try simp only [bitvec_to_nat] at h)<;>(try simp only [h])<;>(first|(exfalso;omega)|(focus (exfalso;simp_all;done))|(simp (disch:=omega) only [push_cast,seval,ha0,hai,he,h1,ml])|skip))
 | ((first|refine callD_of false ?_|refine qcallD_of false ?_);simp (disch:=omega) only [push_cast,seval,ha0,hai,he,h1,ml])
 | ((first|((first|refine call0D (copyInts_ok _ _ ?_ ?_) ?_|refine qcall0D (copyInts_ok _ _ ?_ ?_) ⟨_,_,rfl,rfl⟩ ?_);(iterate 2 (exact sd));rintro _ _ ⟨rfl,rfl⟩)|((first|refine call0D (BCall.ofP (scount_ok _ _ ?_ ?_)) ?_|refine qcall0D (BCall.ofP (scount_ok _ _ ?_ ?_)) ⟨_,_,rfl,rfl⟩ ?_);(iterate 2 (exact sd));rintro _ _ ⟨rfl,rfl⟩))<;>(try simp (disch:=omega) only [push_cast,seval,ha0,hai,he,h1,ml]))
 | (refine awp_ret ⟨.inr rfl,[16000,16016],[(16000,1),(16016,1)],_,by decide,rfl,?_⟩; (try simp (disch := omega) only [push_cast,seval,↓allMem_nil,↓allMem_cons,↓List.map_cons,↓List.map_nil,ha0,hai,he,h1,ml]))))
          all_goals simp [MV,MVB,MVL]
    · have hke:i=sh.length:=by omega
      subst hke
      rw [hAt hj,show a + sh.length=T.length by omega,mixL_all hSl hZl]
      unfold stB stE
      by_cases hz:pr T=0
      · rw [if_pos hz,if_pos hz]
        (repeat' (first
 | (first|refine awp_seq ?_|refine awp_block ?_)
 | ((first|refine awp_reg ?_|refine awp_draw (mid:=l29r1a) (post:=l29r1b) mixed (by decide) ?_|refine awp_draw (mid:=l29r5a) (post:=l29r5b) mixed (by decide) ?_|refine awp_draw (mid:=l29r6a) (post:=l29r6b) mixed (by decide) ?_|refine awp_condB ?_|refine awp_skip ?_|refine awp_exit ?_);simp (disch:=omega) only [push_cast,seval,l29r0,l29r1a,l29r1b,l29r1,l29r2,l29r3,l29r4,l29r5a,l29r5b,l29r5,l29r6a,l29r6b,l29r6,l29r7,l29r8,l29r9,l29r10,l29r11,l29r12,l29r13,ha0,hz,hz1,hZl])
 | ((first|refine condB_split (fun h=>?_) (fun h=>?_)|refine gIf_split (fun h=>?_) (fun h=>?_)|refine qIf_split (fun h=>?_) (fun h=>?_))<;>(try simp only [h])<;>(try simp only [bitvec_to_nat] at h)<;>(try simp only [h])<;>(first|(exfalso;omega)|(focus (exfalso;simp_all;done))|(simp (disch:=omega) only [push_cast,seval,ha0,hz,hz1,hZl])|skip))
 | ((first|refine callD_of false ?_|refine qcallD_of false ?_);simp (disch:=omega) only [push_cast,seval,ha0,hz,hz1,hZl])
 | ((first|((first|refine call0D (copyInts_ok _ _ ?_ ?_) ?_|refine qcall0D (copyInts_ok _ _ ?_ ?_) ⟨_,_,rfl,rfl⟩ ?_);(iterate 2 (exact sd));rintro _ _ ⟨rfl,rfl⟩)|((first|refine call0D (BCall.ofP (scount_ok _ _ ?_ ?_)) ?_|refine qcall0D (BCall.ofP (scount_ok _ _ ?_ ?_)) ⟨_,_,rfl,rfl⟩ ?_);(iterate 2 (exact sd));rintro _ _ ⟨rfl,rfl⟩))<;>(try simp (disch:=omega) only [push_cast,seval,ha0,hz,hz1,hZl]))
 | (refine awp_ret ⟨.inr rfl,[192,1152],[],_,by decide,rfl,?_⟩;(try simp (disch:=omega) only [push_cast,seval,↓allMem_nil,↓allMem_cons,↓List.map_cons,↓List.map_nil,ha0,hz,hz1,hZl]))))
        all_goals simp [MV,MVB,MVL,hZ,hZl]
      · rw [if_neg hz,if_neg hz]
        (repeat' (first
 | (first|refine awp_seq ?_|refine awp_block ?_)
 | ((first|refine awp_reg ?_|refine awp_draw (mid:=l29r1a) (post:=l29r1b) mixed (by decide) ?_|refine awp_draw (mid:=l29r5a) (post:=l29r5b) mixed (by decide) ?_|refine awp_draw (mid:=l29r6a) (post:=l29r6b) mixed (by decide) ?_|refine awp_condB ?_|refine awp_skip ?_|refine awp_exit ?_);simp (disch:=omega) only [push_cast,seval,l29r0,l29r1a,l29r1b,l29r1,l29r2,l29r3,l29r4,l29r5a,l29r5b,l29r5,l29r6a,l29r6b,l29r6,l29r7,l29r8,l29r9,l29r10,l29r11,l29r12,l29r13,ha0,hz])
 | ((first|refine condB_split (fun h=>?_) (fun h=>?_)|refine gIf_split (fun h=>?_) (fun h=>?_)|refine qIf_split (fun h=>?_) (fun h=>?_))<;>(try simp only [h])<;>(try simp only [bitvec_to_nat] at h)<;>(try simp only [h])<;>(first|(exfalso;omega)|(focus (exfalso;simp_all;done))|(simp (disch:=omega) only [push_cast,seval,ha0,hz])|skip))
 | ((first|refine callD_of false ?_|refine qcallD_of false ?_);simp (disch:=omega) only [push_cast,seval,ha0,hz])
 | ((first|((first|refine call0D (copyInts_ok _ _ ?_ ?_) ?_|refine qcall0D (copyInts_ok _ _ ?_ ?_) ⟨_,_,rfl,rfl⟩ ?_);(iterate 2 (exact sd));rintro _ _ ⟨rfl,rfl⟩)|((first|refine call0D (BCall.ofP (scount_ok _ _ ?_ ?_)) ?_|refine qcall0D (BCall.ofP (scount_ok _ _ ?_ ?_)) ⟨_,_,rfl,rfl⟩ ?_);(iterate 2 (exact sd));rintro _ _ ⟨rfl,rfl⟩))<;>(try simp (disch:=omega) only [push_cast,seval,ha0,hz]))
 | (refine awp_ret ⟨.inr rfl,[192,240],[],_,by decide,rfl,?_⟩;(try simp (disch:=omega) only [push_cast,seval,↓allMem_nil,↓allMem_cons,↓List.map_cons,↓List.map_nil,ha0,hz]))))
        all_goals simp [MV,MVB,MVL,hSl]
set_option maxHeartbeats 8000000 in
theorem sspreadN_ok (b:Int) (sh st T:List Int) (n m k:Nat) (hn:sh.length=n) (hm:st.length=m) (hk:T.length=k) (hb:((m=n ∧ n ≤ 1000) ∧ k < n) ∧ good4 T):BCall Tryz.prog 29 [.agg [.int .i64 b,.rows false (IL sh) n,.rows false (IL st) m],.rows false (IL T) k] [] (fun r H'=>r=.tup [.agg [.int .i64 (stB T b),.own 0 T.length 1,.own 1 T.length 1],.bool false] ∧ H'=[IL T,IL (List.replicate T.length 0)]):=by
  subst hn hm hk
  obtain ⟨⟨⟨hb1,hb3⟩,hb2⟩,hg⟩:=hb
  have hg4:=hg.2
  refine bcall_of (pins:=[]) (pin:=0) l29_eq rfl rfl rfl ?_
  obtain ⟨c,hc⟩:∃ c:Int,(T.length:Int) - (sh.length:Int)=c:=⟨_,rfl⟩
  have hc0:¬ 0 ≤ c:=by omega
  have hcr:-1000 ≤ c ∧ c ≤ 1000:=by omega
  have hz1:List.replicate T.length (AV.int .i64 0)=IL (List.replicate T.length (0:Int)):=by simp
  have hZl:(List.replicate T.length (0:Int)).length=T.length:=by simp
  (repeat' (first
 | (first|refine awp_seq ?_|refine awp_block ?_)
 | ((first|refine awp_reg ?_|refine awp_draw (mid:=l29r1a) (post:=l29r1b) mixed (by decide) ?_|refine awp_draw (mid:=l29r5a) (post:=l29r5b) mixed (by decide) ?_|refine awp_draw (mid:=l29r6a) (post:=l29r6b) mixed (by decide) ?_|refine awp_condB ?_|refine awp_skip ?_|refine awp_exit ?_);simp (disch:=omega) only [push_cast,seval,l29r0,l29r1a,l29r1b,l29r1,l29r2,l29r3,l29r4,l29r5a,l29r5b,l29r5,l29r6a,l29r6b,l29r6,l29r7,l29r8,l29r9,l29r10,l29r11,l29r12,l29r13,hc,hz1])
 | ((first|refine condB_split (fun h=>?_) (fun h=>?_)|refine gIf_split (fun h=>?_) (fun h=>?_)|refine qIf_split (fun h=>?_) (fun h=>?_))<;>(try simp only [h])<;>(try simp only [bitvec_to_nat] at h)<;>(try simp only [h])<;>(first|(exfalso;omega)|(focus (exfalso;simp_all;done))|(simp (disch:=omega) only [push_cast,seval,hc,hz1])|skip))
 | ((first|refine callD_of false ?_|refine qcallD_of false ?_);simp (disch:=omega) only [push_cast,seval,hc,hz1])
 | ((first|((first|refine call0D (copyInts_ok _ _ ?_ ?_) ?_|refine qcall0D (copyInts_ok _ _ ?_ ?_) ⟨_,_,rfl,rfl⟩ ?_);(iterate 2 (exact sd));rintro _ _ ⟨rfl,rfl⟩)|((first|refine call0D (BCall.ofP (scount_ok _ _ ?_ ?_)) ?_|refine qcall0D (BCall.ofP (scount_ok _ _ ?_ ?_)) ⟨_,_,rfl,rfl⟩ ?_);(iterate 2 (exact sd));rintro _ _ ⟨rfl,rfl⟩))<;>(try simp (disch:=omega) only [push_cast,seval,hc,hz1]))
 | (refine awp_ret ⟨.inr rfl,[192,240],[],_,by decide,rfl,?_⟩;(try simp (disch:=omega) only [push_cast,seval,↓allMem_nil,↓allMem_cons,↓List.map_cons,↓List.map_nil,hc,hz1]))))
  generalize hZ:List.replicate T.length (0:Int)=Z at *
  refine awp_loop (fun i:Nat=>mkS [(1,RI T),(2,.ref 32 3 0),(4,.ref 64 3 0),(6,.ref 96 3 0),(7,.int .i64 c),(8,.int .i64 0)] [(32,[.int .i64 b,RI sh,RI st]),(64,[.int .i64 0,.val (.slice none 0 0),.val (.slice none 0 0)]),(96,[.int .i64 b,.own 192 T.length 1,.own 240 T.length 1]),(192,IL T),(240,IL Z)])
    (fun i=>i=0) (fun i=>i) 0 rfl ?_ ?_
  · (refine Sub.of_lists ?_ ?_ ?_ ?_ ?_<;>simp [Vw.mkS,Vw.lk,Vw.hk,AV.inn,innL,innL_ints,innL_append,innL_rep,-List.map_set,-List.getD_eq_getElem?_getD])
  · intro i hi
    have hp:(0:Int) < (sh.length:Int):=by omega
    clear hc
    unfold stB
    by_cases hz:pr T=0
    · rw [if_pos hz]
      (repeat' (first
 | (first|refine awp_seq ?_|refine awp_block ?_)
 | ((first|refine awp_reg ?_|refine awp_draw (mid:=l29r1a) (post:=l29r1b) mixed (by decide) ?_|refine awp_draw (mid:=l29r5a) (post:=l29r5b) mixed (by decide) ?_|refine awp_draw (mid:=l29r6a) (post:=l29r6b) mixed (by decide) ?_|refine awp_condB ?_|refine awp_skip ?_|refine awp_exit ?_);simp (disch:=omega) only [push_cast,seval,l29r0,l29r1a,l29r1b,l29r1,l29r2,l29r3,l29r4,l29r5a,l29r5b,l29r5,l29r6a,l29r6b,l29r6,l29r7,l29r8,l29r9,l29r10,l29r11,l29r12,l29r13,hp,hc0,hz,hz1,hZl])
 | ((first|refine condB_split (fun h=>?_) (fun h=>?_)|refine gIf_split (fun h=>?_) (fun h=>?_)|refine qIf_split (fun h=>?_) (fun h=>?_))<;>(try simp only [h])<;>(try simp only [bitvec_to_nat] at h)<;>(try simp only [h])<;>(first|(exfalso;omega)|(focus (exfalso;simp_all;done))|(simp (disch:=omega) only [push_cast,seval,hp,hc0,hz,hz1,hZl])|skip))
 | ((first|refine callD_of false ?_|refine qcallD_of false ?_);simp (disch:=omega) only [push_cast,seval,hp,hc0,hz,hz1,hZl])
 | ((first|((first|refine call0D (copyInts_ok _ _ ?_ ?_) ?_|refine qcall0D (copyInts_ok _ _ ?_ ?_) ⟨_,_,rfl,rfl⟩ ?_);(iterate 2 (exact sd));rintro _ _ ⟨rfl,rfl⟩)|((first|refine call0D (BCall.ofP (scount_ok _ _ ?_ ?_)) ?_|refine qcall0D (BCall.ofP (scount_ok _ _ ?_ ?_)) ⟨_,_,rfl,rfl⟩ ?_);(iterate 2 (exact sd));rintro _ _ ⟨rfl,rfl⟩))<;>(try simp (disch:=omega) only [push_cast,seval,hp,hc0,hz,hz1,hZl]))
 | (refine awp_ret ⟨.inr rfl,[192,1152],[],_,by decide,rfl,?_⟩;(try simp (disch:=omega) only [push_cast,seval,↓allMem_nil,↓allMem_cons,↓List.map_cons,↓List.map_nil,hp,hc0,hz,hz1,hZl]))))
      all_goals simp [hZ,hZl]
    · rw [if_neg hz]
      (repeat' (first
 | (first|refine awp_seq ?_|refine awp_block ?_)
 | ((first|refine awp_reg ?_|refine awp_draw (mid:=l29r1a) (post:=l29r1b) mixed (by decide) ?_|refine awp_draw (mid:=l29r5a) (post:=l29r5b) mixed (by decide) ?_|refine awp_draw (mid:=l29r6a) (post:=l29r6b) mixed (by decide) ?_|refine awp_condB ?_|refine awp_skip ?_|refine awp_exit ?_);simp (disch:=omega) only [push_cast,seval,l29r0,l29r1a,l29r1b,l29r1,l29r2,l29r3,l29r4,l29r5a,l29r5b,l29r5,l29r6a,l29r6b,l29r6,l29r7,l29r8,l29r9,l29r10,l29r11,l29r12,l29r13,hp,hc0,hz])
 | ((first|refine condB_split (fun h=>?_) (fun h=>?_)|refine gIf_split (fun h=>?_) (fun h=>?_)|refine qIf_split (fun h=>?_) (fun h=>?_))<;>(try simp only [h])<;>(try simp only [bitvec_to_nat] at h)<;>(try simp only [h])<;>(first|(exfalso;omega)|(focus (exfalso;simp_all;done))|(simp (disch:=omega) only [push_cast,seval,hp,hc0,hz])|skip))
 | ((first|refine callD_of false ?_|refine qcallD_of false ?_);simp (disch:=omega) only [push_cast,seval,hp,hc0,hz])
 | ((first|((first|refine call0D (copyInts_ok _ _ ?_ ?_) ?_|refine qcall0D (copyInts_ok _ _ ?_ ?_) ⟨_,_,rfl,rfl⟩ ?_);(iterate 2 (exact sd));rintro _ _ ⟨rfl,rfl⟩)|((first|refine call0D (BCall.ofP (scount_ok _ _ ?_ ?_)) ?_|refine qcall0D (BCall.ofP (scount_ok _ _ ?_ ?_)) ⟨_,_,rfl,rfl⟩ ?_);(iterate 2 (exact sd));rintro _ _ ⟨rfl,rfl⟩))<;>(try simp (disch:=omega) only [push_cast,seval,hp,hc0,hz]))
 | (refine awp_ret ⟨.inr rfl,[192,240],[],_,by decide,rfl,?_⟩;(try simp (disch:=omega) only [push_cast,seval,↓allMem_nil,↓allMem_cons,↓List.map_cons,↓List.map_nil,hp,hc0,hz]))))
      all_goals simp [hZl]


set_option maxHeartbeats 8000000 in
theorem sSpread_ok (b:Int) (sh st T:List Int) (n m k:Nat) (hn:sh.length=n) (hm:st.length=m) (hk:T.length=k) (hb:(n ≤ 1099511627776 ∧ m ≤ 1099511627776) ∧ k ≤ 1099511627776) :
    BCall Tryz.prog 6 [.agg [.int .i64 b,.rows false (IL sh) n,.rows false (IL st) m],.rows false (IL T) k] [] (MV (spOk b sh st T) (stB T b) T (stE T (sprS sh st T))):=by
  subst hn hm hk
  obtain ⟨⟨hb1,hb2⟩,hb3⟩:=hb
  refine bcall_of (pins:=[]) (pin:=0) l6_eq rfl rfl rfl ?_
  cases hv:vV b sh st with
  | false =>
    have e:spOk b sh st T=false:=by simp [spOk,hv]
    rw [e]
    (repeat' (first
 | (first|refine awp_seq ?_|refine awp_block ?_)
 | ((first|refine awp_reg ?_|refine awp_condB ?_|refine awp_skip ?_|refine awp_exit ?_);simp (disch:=omega) only [push_cast,seval,l6r0,l6r1,l6r2,l6r3,l6r4,l6r5,l6r6,hv])
 | ((first|refine condB_split (fun h=>?_) (fun h=>?_)|refine gIf_split (fun h=>?_) (fun h=>?_)|refine qIf_split (fun h=>?_) (fun h=>?_))<;>(try simp only [h])<;>(try simp only [bitvec_to_nat] at h)<;>(try simp only [h])<;>(first|(exfalso;omega)|(focus (exfalso;simp_all;done))|(simp (disch:=omega) only [push_cast,seval,hv])|skip))
 | ((first|refine callD_of false ?_|refine qcallD_of false ?_);simp (disch:=omega) only [push_cast,seval,hv])
 | ((first|((first|refine call0D (BCall.ofP (svalidView_ok _ _ _ _ _ ?_ ?_ ?_)) ?_|refine qcall0D (BCall.ofP (svalidView_ok _ _ _ _ _ ?_ ?_ ?_)) ⟨_,_,rfl,rfl⟩ ?_);(iterate 3 (exact sd));rintro _ _ ⟨rfl,rfl⟩)|((first|refine call0D (BCall.ofP (svalidShape_ok _ _ ?_ ?_)) ?_|refine qcall0D (BCall.ofP (svalidShape_ok _ _ ?_ ?_)) ⟨_,_,rfl,rfl⟩ ?_);(iterate 2 (exact sd));rintro _ _ ⟨rfl,rfl⟩)|((first|refine call0D (sspread_ok _ _ _ _ _ _ _ ?_ ?_ ?_ ?_) ?_|refine qcall0D (sspread_ok _ _ _ _ _ _ _ ?_ ?_ ?_ ?_) ⟨_,_,rfl,rfl⟩ ?_);(iterate 4 (exact sd));rintro _ _ ⟨rfl,rfl⟩)|((first|refine call0D (sspreadN_ok _ _ _ _ _ _ _ ?_ ?_ ?_ ?_) ?_|refine qcall0D (sspreadN_ok _ _ _ _ _ _ _ ?_ ?_ ?_ ?_) ⟨_,_,rfl,rfl⟩ ?_);(iterate 4 (exact sd));rintro _ _ ⟨rfl,rfl⟩)|((first|refine call0D (smade_ok _ _ _ _ _ ?_ ?_ ?_) ?_|refine qcall0D (smade_ok _ _ _ _ _ ?_ ?_ ?_) ⟨_,_,rfl,rfl⟩ ?_);(iterate 3 (exact sd));rintro _ _ ⟨rfl,rfl⟩))<;>(try simp (disch:=omega) only [push_cast,seval,hv]))
 | (refine awp_ret ⟨.inr rfl,[16000,16016],[(16000,1),(16016,1)],_,by decide,rfl,?_⟩;(try simp (disch:=omega) only [push_cast,seval,↓allMem_nil,↓allMem_cons,↓List.map_cons,↓List.map_nil,hv]))))
    all_goals simp [MV,MVB,MVL]
  | true =>
  cases hT:vSh T with
  | false =>
    have e:spOk b sh st T=false:=by simp [spOk,hT]
    rw [e]
    (repeat' (first
 | (first|refine awp_seq ?_|refine awp_block ?_)
 | ((first|refine awp_reg ?_|refine awp_condB ?_|refine awp_skip ?_|refine awp_exit ?_);simp (disch:=omega) only [push_cast,seval,l6r0,l6r1,l6r2,l6r3,l6r4,l6r5,l6r6,hv,hT])
 | ((first|refine condB_split (fun h=>?_) (fun h=>?_)|refine gIf_split (fun h=>?_) (fun h=>?_)|refine qIf_split (fun h=>?_) (fun h=>?_))<;>(try simp only [h])<;>(try simp only [bitvec_to_nat] at h)<;>(try simp only [h])<;>(first|(exfalso;omega)|(focus (exfalso;simp_all;done))|(simp (disch:=omega) only [push_cast,seval,hv,hT])|skip))
 | ((first|refine callD_of false ?_|refine qcallD_of false ?_);simp (disch:=omega) only [push_cast,seval,hv,hT])
 | ((first|((first|refine call0D (BCall.ofP (svalidView_ok _ _ _ _ _ ?_ ?_ ?_)) ?_|refine qcall0D (BCall.ofP (svalidView_ok _ _ _ _ _ ?_ ?_ ?_)) ⟨_,_,rfl,rfl⟩ ?_);(iterate 3 (exact sd));rintro _ _ ⟨rfl,rfl⟩)|((first|refine call0D (BCall.ofP (svalidShape_ok _ _ ?_ ?_)) ?_|refine qcall0D (BCall.ofP (svalidShape_ok _ _ ?_ ?_)) ⟨_,_,rfl,rfl⟩ ?_);(iterate 2 (exact sd));rintro _ _ ⟨rfl,rfl⟩)|((first|refine call0D (sspread_ok _ _ _ _ _ _ _ ?_ ?_ ?_ ?_) ?_|refine qcall0D (sspread_ok _ _ _ _ _ _ _ ?_ ?_ ?_ ?_) ⟨_,_,rfl,rfl⟩ ?_);(iterate 4 (exact sd));rintro _ _ ⟨rfl,rfl⟩)|((first|refine call0D (sspreadN_ok _ _ _ _ _ _ _ ?_ ?_ ?_ ?_) ?_|refine qcall0D (sspreadN_ok _ _ _ _ _ _ _ ?_ ?_ ?_ ?_) ⟨_,_,rfl,rfl⟩ ?_);(iterate 4 (exact sd));rintro _ _ ⟨rfl,rfl⟩)|((first|refine call0D (smade_ok _ _ _ _ _ ?_ ?_ ?_) ?_|refine qcall0D (smade_ok _ _ _ _ _ ?_ ?_ ?_) ⟨_,_,rfl,rfl⟩ ?_);(iterate 3 (exact sd));rintro _ _ ⟨rfl,rfl⟩))<;>(try simp (disch:=omega) only [push_cast,seval,hv,hT]))
 | (refine awp_ret ⟨.inr rfl,[16000,16016],[(16000,1),(16016,1)],_,by decide,rfl,?_⟩;(try simp (disch:=omega) only [push_cast,seval,↓allMem_nil,↓allMem_cons,↓List.map_cons,↓List.map_nil,hv,hT]))))
    all_goals simp [MV,MVB,MVL]
  | true =>
  obtain ⟨hok,hlen⟩:=okV_valid hv
  have hl4:=hok.1.1.2
  have hg:=(vSh_good hT).1
  have hg4:=hg.2
  have e:spOk b sh st T=spA sh T:=by simp [spOk,hv,hT]
  rw [e]
  by_cases hle:sh.length ≤ T.length
  · have hq:(st.length=sh.length ∧ sh.length ≤ T.length) ∧ good4 T:=⟨⟨hlen,hle⟩,hg⟩
    cases hA:spA sh T with
    | false =>
      (repeat' (first
 | (first|refine awp_seq ?_|refine awp_block ?_)
 | ((first|refine awp_reg ?_|refine awp_condB ?_|refine awp_skip ?_|refine awp_exit ?_);simp (disch:=omega) only [push_cast,seval,l6r0,l6r1,l6r2,l6r3,l6r4,l6r5,l6r6,hv,hT,hA,MVB_false,MVL_false])
 | ((first|refine condB_split (fun h=>?_) (fun h=>?_)|refine gIf_split (fun h=>?_) (fun h=>?_)|refine qIf_split (fun h=>?_) (fun h=>?_))<;>(try simp only [h])<;>(try simp only [bitvec_to_nat] at h)<;>(try simp only [h])<;>(first|(exfalso;omega)|(focus (exfalso;simp_all;done))|(simp (disch:=omega) only [push_cast,seval,hv,hT,hA,MVB_false,MVL_false])|skip))
 | ((first|refine callD_of false ?_|refine qcallD_of false ?_);simp (disch:=omega) only [push_cast,seval,hv,hT,hA,MVB_false,MVL_false])
 | ((first|((first|refine call0D (BCall.ofP (svalidView_ok _ _ _ _ _ ?_ ?_ ?_)) ?_|refine qcall0D (BCall.ofP (svalidView_ok _ _ _ _ _ ?_ ?_ ?_)) ⟨_,_,rfl,rfl⟩ ?_);(iterate 3 (exact sd));rintro _ _ ⟨rfl,rfl⟩)|((first|refine call0D (BCall.ofP (svalidShape_ok _ _ ?_ ?_)) ?_|refine qcall0D (BCall.ofP (svalidShape_ok _ _ ?_ ?_)) ⟨_,_,rfl,rfl⟩ ?_);(iterate 2 (exact sd));rintro _ _ ⟨rfl,rfl⟩)|((first|refine call0D (sspread_ok _ _ _ _ _ _ _ ?_ ?_ ?_ ?_) ?_|refine qcall0D (sspread_ok _ _ _ _ _ _ _ ?_ ?_ ?_ ?_) ⟨_,_,rfl,rfl⟩ ?_);(iterate 4 (exact sd));rintro _ _ ⟨rfl,rfl⟩)|((first|refine call0D (sspreadN_ok _ _ _ _ _ _ _ ?_ ?_ ?_ ?_) ?_|refine qcall0D (sspreadN_ok _ _ _ _ _ _ _ ?_ ?_ ?_ ?_) ⟨_,_,rfl,rfl⟩ ?_);(iterate 4 (exact sd));rintro _ _ ⟨rfl,rfl⟩)|((first|refine call0D (smade_ok _ _ _ _ _ ?_ ?_ ?_) ?_|refine qcall0D (smade_ok _ _ _ _ _ ?_ ?_ ?_) ⟨_,_,rfl,rfl⟩ ?_);(iterate 3 (exact sd));rintro _ _ ⟨rfl,rfl⟩))<;>(try simp (disch:=omega) only [push_cast,seval,hv,hT,hA,MVB_false,MVL_false]))
 | (refine awp_ret ⟨.inr rfl,[16000,16016],[(16000,1),(16016,1)],_,by decide,rfl,?_⟩;(try simp (disch:=omega) only [push_cast,seval,↓allMem_nil,↓allMem_cons,↓List.map_cons,↓List.map_nil,hv,hT,hA,MVB_false,MVL_false]))))
      all_goals simp [MV,MVB,MVL]
    | true =>
      have hvs:=vV_spread hv hT hA
      have hEl:(stE T (sprS sh st T)).length=T.length:=by unfold stE;split<;>simp [sprS_length]
      have hq2:T.length ≤ 1099511627776 ∧ (stE T (sprS sh st T)).length ≤ 1099511627776:=by omega
      generalize hE:stE T (sprS sh st T)=E at *
      generalize hB:stB T b=B at *
      (repeat' (first
 | (first|refine awp_seq ?_|refine awp_block ?_)
 | ((first|refine awp_reg ?_|refine awp_condB ?_|refine awp_skip ?_|refine awp_exit ?_);simp (disch:=omega) only [push_cast,seval,l6r0,l6r1,l6r2,l6r3,l6r4,l6r5,l6r6,hv,hT,hA,hE,hB,hvs,MVB_true,MVL_true])
 | ((first|refine condB_split (fun h=>?_) (fun h=>?_)|refine gIf_split (fun h=>?_) (fun h=>?_)|refine qIf_split (fun h=>?_) (fun h=>?_))<;>(try simp only [h])<;>(try simp only [bitvec_to_nat] at h)<;>(try simp only [h])<;>(first|(exfalso;omega)|(focus (exfalso;simp_all;done))|(simp (disch:=omega) only [push_cast,seval,hv,hT,hA,hE,hB,hvs,MVB_true,MVL_true])|skip))
 | ((first|refine callD_of false ?_|refine qcallD_of false ?_);simp (disch:=omega) only [push_cast,seval,hv,hT,hA,hE,hB,hvs,MVB_true,MVL_true])
 | ((first|((first|refine call0D (BCall.ofP (svalidView_ok _ _ _ _ _ ?_ ?_ ?_)) ?_|refine qcall0D (BCall.ofP (svalidView_ok _ _ _ _ _ ?_ ?_ ?_)) ⟨_,_,rfl,rfl⟩ ?_);(iterate 3 (exact sd));rintro _ _ ⟨rfl,rfl⟩)|((first|refine call0D (BCall.ofP (svalidShape_ok _ _ ?_ ?_)) ?_|refine qcall0D (BCall.ofP (svalidShape_ok _ _ ?_ ?_)) ⟨_,_,rfl,rfl⟩ ?_);(iterate 2 (exact sd));rintro _ _ ⟨rfl,rfl⟩)|((first|refine call0D (sspread_ok _ _ _ _ _ _ _ ?_ ?_ ?_ ?_) ?_|refine qcall0D (sspread_ok _ _ _ _ _ _ _ ?_ ?_ ?_ ?_) ⟨_,_,rfl,rfl⟩ ?_);(iterate 4 (exact sd));rintro _ _ ⟨rfl,rfl⟩)|((first|refine call0D (sspreadN_ok _ _ _ _ _ _ _ ?_ ?_ ?_ ?_) ?_|refine qcall0D (sspreadN_ok _ _ _ _ _ _ _ ?_ ?_ ?_ ?_) ⟨_,_,rfl,rfl⟩ ?_);(iterate 4 (exact sd));rintro _ _ ⟨rfl,rfl⟩)|((first|refine call0D (smade_ok _ _ _ _ _ ?_ ?_ ?_) ?_|refine qcall0D (smade_ok _ _ _ _ _ ?_ ?_ ?_) ⟨_,_,rfl,rfl⟩ ?_);(iterate 3 (exact sd));rintro _ _ ⟨rfl,rfl⟩))<;>(try simp (disch:=omega) only [push_cast,seval,hv,hT,hA,hE,hB,hvs,MVB_true,MVL_true]))
 | (refine awp_ret ⟨.inr rfl,[432,433],[],_,by decide,rfl,?_⟩;(try simp (disch:=omega) only [push_cast,seval,↓allMem_nil,↓allMem_cons,↓List.map_cons,↓List.map_nil,hv,hT,hA,hE,hB,hvs,MVB_true,MVL_true]))))
      all_goals (try exact ⟨rfl,rfl⟩)
  · have hq:((st.length=sh.length ∧ sh.length ≤ 1000) ∧ T.length < sh.length) ∧ good4 T:=⟨⟨⟨hlen,by omega⟩,by omega⟩,hg⟩
    rw [spA_short (by omega)]
    (repeat' (first
 | (first|refine awp_seq ?_|refine awp_block ?_)
 | ((first|refine awp_reg ?_|refine awp_condB ?_|refine awp_skip ?_|refine awp_exit ?_);simp (disch:=omega) only [push_cast,seval,l6r0,l6r1,l6r2,l6r3,l6r4,l6r5,l6r6,hv,hT])
 | ((first|refine condB_split (fun h=>?_) (fun h=>?_)|refine gIf_split (fun h=>?_) (fun h=>?_)|refine qIf_split (fun h=>?_) (fun h=>?_))<;>(try simp only [h])<;>(try simp only [bitvec_to_nat] at h)<;>(try simp only [h])<;>(first|(exfalso;omega)|(focus (exfalso;simp_all;done))|(simp (disch:=omega) only [push_cast,seval,hv,hT])|skip))
 | ((first|refine callD_of false ?_|refine qcallD_of false ?_);simp (disch:=omega) only [push_cast,seval,hv,hT])
 | ((first|((first|refine call0D (BCall.ofP (svalidView_ok _ _ _ _ _ ?_ ?_ ?_)) ?_|refine qcall0D (BCall.ofP (svalidView_ok _ _ _ _ _ ?_ ?_ ?_)) ⟨_,_,rfl,rfl⟩ ?_);(iterate 3 (exact sd));rintro _ _ ⟨rfl,rfl⟩)|((first|refine call0D (BCall.ofP (svalidShape_ok _ _ ?_ ?_)) ?_|refine qcall0D (BCall.ofP (svalidShape_ok _ _ ?_ ?_)) ⟨_,_,rfl,rfl⟩ ?_);(iterate 2 (exact sd));rintro _ _ ⟨rfl,rfl⟩)|((first|refine call0D (sspread_ok _ _ _ _ _ _ _ ?_ ?_ ?_ ?_) ?_|refine qcall0D (sspread_ok _ _ _ _ _ _ _ ?_ ?_ ?_ ?_) ⟨_,_,rfl,rfl⟩ ?_);(iterate 4 (exact sd));rintro _ _ ⟨rfl,rfl⟩)|((first|refine call0D (sspreadN_ok _ _ _ _ _ _ _ ?_ ?_ ?_ ?_) ?_|refine qcall0D (sspreadN_ok _ _ _ _ _ _ _ ?_ ?_ ?_ ?_) ⟨_,_,rfl,rfl⟩ ?_);(iterate 4 (exact sd));rintro _ _ ⟨rfl,rfl⟩)|((first|refine call0D (smade_ok _ _ _ _ _ ?_ ?_ ?_) ?_|refine qcall0D (smade_ok _ _ _ _ _ ?_ ?_ ?_) ⟨_,_,rfl,rfl⟩ ?_);(iterate 3 (exact sd));rintro _ _ ⟨rfl,rfl⟩))<;>(try simp (disch:=omega) only [push_cast,seval,hv,hT]))
 | (refine awp_ret ⟨.inr rfl,[16000,16016],[(16000,1),(16016,1)],_,by decide,rfl,?_⟩;(try simp (disch:=omega) only [push_cast,seval,↓allMem_nil,↓allMem_cons,↓List.map_cons,↓List.map_nil,hv,hT]))))
    all_goals simp [MV,MVB,MVL]

end Go.Proofs.YtejbfjmiidofcaaGreat
