import Derived.Test.YtceopplkfomalaaGreatCKm1
import Derived.Test.YtceopplkfomalaaGreatCM1
import Derived.Test.YtceopplkfomalaaGreatCW3
set_option linter.unusedSimpArgs false
set_option linter.unusedVariables false
set_option maxRecDepth 4000
set_option maxHeartbeats 4000000
namespace Go.Proofs.YtceopplkfomalaaGreat
open VwM Vw Go

theorem width_ok (b:Int) (sh st:List Int) (n m:Nat) (hn:sh.length=n) (hm:st.length=m) (hb:good4 sh ∧ m=n):PCall Tryz.prog 56 [.agg [.int .i64 b,.rows false (IL sh) n,.rows false (IL st) m]] (fun r=>r=.int .i64 (wdt sh st)):=by
  subst hn hm
  obtain ⟨hg,hl⟩:=hb
  have h4:=hg.2
  refine pcall_of l56_eq rfl ?_
  unfold wdt
  by_cases h0:sh.length=0
  · have h0':(sh.length:Int)=0:=by omega
    rw [if_pos h0]
    (repeat' (first
 | (first|refine awp_seq ?_|refine awp_block ?_)
 | ((first|refine awp_reg ?_|refine awp_condB ?_|refine awp_skip ?_|refine awp_exit ?_);simp (disch:=omega) only [push_cast,seval,l56r0,l56r1,l56r2,l56r3,l56r4,h0'])
 | ((first|refine condB_split (fun h=>?_) (fun h=>?_)|refine gIf_split (fun h=>?_) (fun h=>?_)|refine qIf_split (fun h=>?_) (fun h=>?_))<;>(try simp only [h])<;>(try simp only [bitvec_to_nat] at h)<;>(try simp only [h])<;>(first|(exfalso;omega)|(focus (exfalso;simp_all;done))|(simp (disch:=omega) only [push_cast,seval,h0'])|skip))
 | (refine awp_ret ⟨.inr rfl,_,rfl,?_⟩;(try simp (disch:=omega) only [push_cast,seval,h0']))))
    all_goals simp
  · rw [if_neg h0]
    obtain ⟨k,hk⟩:∃ k,sh.length=k + 1:=⟨sh.length - 1,by omega⟩
    have hk':(sh.length:Int)=(k:Int) + 1:=by omega
    have e1:(k:Int) + 1 - 1=(k:Int):=by omega
    have hgd:=good4_at hg (k:=k) (by omega)
    have hks:k < sh.length:=by omega
    have hkt:k < st.length:=by omega
    rw [hk,Nat.add_sub_cancel]
    by_cases h1:st.getD k 0=1
    · rw [if_pos h1]
      have e2:(((sh.getD k 0).toNat:Nat):Int)=sh.getD k 0:=by omega
      rw [e2]
      (repeat' (first
 | (first|refine awp_seq ?_|refine awp_block ?_)
 | ((first|refine awp_reg ?_|refine awp_condB ?_|refine awp_skip ?_|refine awp_exit ?_);simp (disch:=omega) only [push_cast,seval,l56r0,l56r1,l56r2,l56r3,l56r4,hk',e1,h1])
 | ((first|refine condB_split (fun h=>?_) (fun h=>?_)|refine gIf_split (fun h=>?_) (fun h=>?_)|refine qIf_split (fun h=>?_) (fun h=>?_))<;>(try simp only [h])<;>(try simp only [bitvec_to_nat] at h)<;>(try simp only [h])<;>(first|(exfalso;omega)|(focus (exfalso;simp_all;done))|(simp (disch:=omega) only [push_cast,seval,hk',e1,h1])|skip))
 | (refine awp_ret ⟨.inr rfl,_,rfl,?_⟩;(try simp (disch:=omega) only [push_cast,seval,hk',e1,h1]))))
    · rw [if_neg h1]
      (repeat' (first
 | (first|refine awp_seq ?_|refine awp_block ?_)
 | ((first|refine awp_reg ?_|refine awp_condB ?_|refine awp_skip ?_|refine awp_exit ?_);simp (disch:=omega) only [push_cast,seval,l56r0,l56r1,l56r2,l56r3,l56r4,hk',e1,h1])
 | ((first|refine condB_split (fun h=>?_) (fun h=>?_)|refine gIf_split (fun h=>?_) (fun h=>?_)|refine qIf_split (fun h=>?_) (fun h=>?_))<;>(try simp only [h])<;>(try simp only [bitvec_to_nat] at h)<;>(try simp only [h])<;>(first|(exfalso;omega)|(focus (exfalso;simp_all;done))|(simp (disch:=omega) only [push_cast,seval,hk',e1,h1])|skip))
 | (refine awp_ret ⟨.inr rfl,_,rfl,?_⟩;(try simp (disch:=omega) only [push_cast,seval,hk',e1,h1]))))
      all_goals simp


theorem rowOfO_ok (xs:List Int) (n:Nat) (a w:Int) (hn:xs.length=n) (hb:(0 ≤ a ∧ 0 ≤ w) ∧ a + w ≤ n ∧ n ≤ 1000):BCall Tryz.prog 57 [.own 0 n 1,.int .i64 a,.int .i64 w] [IL xs] (fun r H'=>r=.osl 0 n a.toNat w.toNat 1 w.toNat ∧ H'=[IL xs]):=by
  subst hn
  obtain ⟨⟨h0,h1⟩,h2,h3⟩:=hb
  obtain ⟨a,rfl⟩:∃ k:Nat,a=k:=⟨a.toNat,by omega⟩
  obtain ⟨w,rfl⟩:∃ k:Nat,w=k:=⟨w.toNat,by omega⟩
  refine bcall_of (pins:=[0]) (pin:=1) l57_eq rfl rfl rfl ?_
  have e1:((a:Int) + (w:Int)).toNat=a + w:=by omega
  have e2:a + w - a=w:=by omega
  simp only [Int.toNat_natCast]
  (repeat' (first
 | (first|refine awp_seq ?_|refine awp_block ?_)
 | ((first|refine awp_reg ?_|refine awp_condB ?_|refine awp_skip ?_|refine awp_exit ?_);simp (disch:=omega) only [push_cast,seval,l57r0,l57r1,l57r2,e1,e2,Nat.zero_add,Nat.mul_one])
 | ((first|refine condB_split (fun h=>?_) (fun h=>?_)|refine gIf_split (fun h=>?_) (fun h=>?_)|refine qIf_split (fun h=>?_) (fun h=>?_))<;>(try simp only [h])<;>(try simp only [bitvec_to_nat] at h)<;>(try simp only [h])<;>(first|(exfalso;omega)|(focus (exfalso;simp_all;done))|(simp (disch:=omega) only [push_cast,seval,e1,e2,Nat.zero_add,Nat.mul_one])|skip))
 | (refine awp_ret ⟨.inr rfl,[],[],_,by decide,rfl,?_⟩;(try simp (disch:=omega) only [push_cast,seval,↓allMem_nil,↓allMem_cons,↓List.map_cons,↓List.map_nil,e1,e2,Nat.zero_add,Nat.mul_one]))))
theorem rowOfR_ok (xs:List Int) (n:Nat) (a w:Int) (hn:xs.length=n) (hb:(0 ≤ a ∧ 0 ≤ w) ∧ a + w ≤ n ∧ n ≤ 1000):BCall Tryz.prog 57 [.rows false (IL xs) n,.int .i64 a,.int .i64 w] [] (fun r H'=>r=.rows false (IL ((xs.drop a.toNat).take w.toNat)) w.toNat ∧ H'=[]):=by
  subst hn
  obtain ⟨⟨h0,h1⟩,h2,h3⟩:=hb
  obtain ⟨a,rfl⟩:∃ k:Nat,a=k:=⟨a.toNat,by omega⟩
  obtain ⟨w,rfl⟩:∃ k:Nat,w=k:=⟨w.toNat,by omega⟩
  refine bcall_of (pins:=[]) (pin:=0) l57_eq rfl rfl rfl ?_
  have e1:((a:Int) + (w:Int)).toNat=a + w:=by omega
  have e2:a + w - a=w:=by omega
  simp only [Int.toNat_natCast]
  (repeat' (first
 | (first|refine awp_seq ?_|refine awp_block ?_)
 | ((first|refine awp_reg ?_|refine awp_condB ?_|refine awp_skip ?_|refine awp_exit ?_);simp (disch:=omega) only [push_cast,seval,l57r0,l57r1,l57r2,e1,e2,IL_td,Nat.zero_add,Nat.mul_one])
 | ((first|refine condB_split (fun h=>?_) (fun h=>?_)|refine gIf_split (fun h=>?_) (fun h=>?_)|refine qIf_split (fun h=>?_) (fun h=>?_))<;>(try simp only [h])<;>(try simp only [bitvec_to_nat] at h)<;>(try simp only [h])<;>(first|(exfalso;omega)|(focus (exfalso;simp_all;done))|(simp (disch:=omega) only [push_cast,seval,e1,e2,IL_td,Nat.zero_add,Nat.mul_one])|skip))
 | (refine awp_ret ⟨.inr rfl,[],[],_,by decide,rfl,?_⟩;(try simp (disch:=omega) only [push_cast,seval,↓allMem_nil,↓allMem_cons,↓List.map_cons,↓List.map_nil,e1,e2,IL_td,Nat.zero_add,Nat.mul_one]))))


set_option maxHeartbeats 8000000 in
theorem loaded_ok (mem:List Int) (b:Int) (sh st:List Int) (q n m:Nat) (hq:mem.length=q) (hn:sh.length=n) (hm:st.length=m) (hb:seeB mem b sh st=true):BCall Tryz.prog 31 [.rows false (IL mem) q,.agg [.int .i64 b,.rows false (IL sh) n,.rows false (IL st) m]] [] (OI (takesL mem (offs b sh st))):=by
  subst hq hn hm
  obtain ⟨f1,f2,f3,f4,f5,f6⟩:=see_facts hb
  have hat:=fun k hk=>seeB_at (k:=k) hb hk
  have hol:=offs_length b sh st
  have hrow:=fun (k j:Nat) hk hj h=>offs_rowW (b:=b) (sh:=sh) (st:=st) (k:=k) (j:=j) f3 hk hj h
  have hdv:=wdt_dvd (st:=st) f3
  have hwl:=wdt_le (st:=st) f3
  have hwp:=wdt_pos (st:=st) f3
  have q1:okV b sh st ∧ st.length=sh.length:=⟨f1,f2⟩
  have q2:good4 sh ∧ st.length=sh.length:=⟨f3,f2⟩
  generalize hL:offs b sh st=L at *
  generalize hW:wdt sh st=W at *
  refine bcall_of (pins:=[]) (pin:=0) l31_eq rfl rfl rfl ?_
  (repeat' (first
 | (first|refine awp_seq ?_|refine awp_block ?_)
 | ((first|refine awp_reg ?_|refine awp_draw (mid:=l31r1a) (post:=l31r1b) mixed (by decide) ?_|refine awp_drawX (mid:=l31r5a) (post:=l31r5b) [192,240] mixed (by decide) ?_|refine awp_condB ?_|refine awp_skip ?_|refine awp_exit ?_);simp (disch:=omega) only [push_cast,seval,l31r0,l31r1a,l31r1b,l31r1,l31r2,l31r3,l31r4,l31r5a,l31r5b,l31r5,l31r6,l31r7,hL,hW])
 | ((first|refine condB_split (fun h=>?_) (fun h=>?_)|refine gIf_split (fun h=>?_) (fun h=>?_)|refine qIf_split (fun h=>?_) (fun h=>?_))<;>(try simp only [h])<;>(try simp only [bitvec_to_nat] at h)<;>(try simp only [h])<;>(first|(exfalso;omega)|(focus (exfalso;simp_all;done))|(simp (disch:=omega) only [push_cast,seval,hL,hW])|skip))
 | ((first|((with_reducible refine qcallI_of (f:=57) [160] false ?_);simp (disch:=omega) only [push_cast,seval,hL,hW];(refine qcall1D (id:=160) (rowOfO_ok _ _ _ _ ?_ ?_) (by first|((simp (disch:=omega) only [push_cast,seval,hL,hW]);done)|((simp (disch:=omega) only [push_cast,seval,hL,hW]);rfl)) (by decide) ⟨_,_,rfl,rfl⟩ ?_;(iterate 2 (exact sd));rintro _ _ ⟨rfl,rfl⟩))|((with_reducible refine qcallI_of (f:=57) [192] false ?_);simp (disch:=omega) only [push_cast,seval,hL,hW];(refine qcall1D (id:=192) (rowOfO_ok _ _ _ _ ?_ ?_) (by first|((simp (disch:=omega) only [push_cast,seval,hL,hW]);done)|((simp (disch:=omega) only [push_cast,seval,hL,hW]);rfl)) (by decide) ⟨_,_,rfl,rfl⟩ ?_;(iterate 2 (exact sd));rintro _ _ ⟨rfl,rfl⟩))|((with_reducible refine qcallI_of (f:=57) [240] false ?_);simp (disch:=omega) only [push_cast,seval,hL,hW];(refine qcall1D (id:=240) (rowOfO_ok _ _ _ _ ?_ ?_) (by first|((simp (disch:=omega) only [push_cast,seval,hL,hW]);done)|((simp (disch:=omega) only [push_cast,seval,hL,hW]);rfl)) (by decide) ⟨_,_,rfl,rfl⟩ ?_;(iterate 2 (exact sd));rintro _ _ ⟨rfl,rfl⟩))|((with_reducible refine qcallI_of (f:=57) [416] false ?_);simp (disch:=omega) only [push_cast,seval,hL,hW];(refine qcall1D (id:=416) (rowOfO_ok _ _ _ _ ?_ ?_) (by first|((simp (disch:=omega) only [push_cast,seval,hL,hW]);done)|((simp (disch:=omega) only [push_cast,seval,hL,hW]);rfl)) (by decide) ⟨_,_,rfl,rfl⟩ ?_;(iterate 2 (exact sd));rintro _ _ ⟨rfl,rfl⟩))|((with_reducible refine qcallI_of (f:=57) [528] false ?_);simp (disch:=omega) only [push_cast,seval,hL,hW];(refine qcall1D (id:=528) (rowOfO_ok _ _ _ _ ?_ ?_) (by first|((simp (disch:=omega) only [push_cast,seval,hL,hW]);done)|((simp (disch:=omega) only [push_cast,seval,hL,hW]);rfl)) (by decide) ⟨_,_,rfl,rfl⟩ ?_;(iterate 2 (exact sd));rintro _ _ ⟨rfl,rfl⟩))|((with_reducible refine qcallI_of (f:=57) [0] false ?_);simp (disch:=omega) only [push_cast,seval,hL,hW];(refine qcall1D (id:=0) (rowOfO_ok _ _ _ _ ?_ ?_) (by first|((simp (disch:=omega) only [push_cast,seval,hL,hW]);done)|((simp (disch:=omega) only [push_cast,seval,hL,hW]);rfl)) (by decide) ⟨_,_,rfl,rfl⟩ ?_;(iterate 2 (exact sd));rintro _ _ ⟨rfl,rfl⟩))|((with_reducible refine qcallI_of (f:=57) [1] false ?_);simp (disch:=omega) only [push_cast,seval,hL,hW];(refine qcall1D (id:=1) (rowOfO_ok _ _ _ _ ?_ ?_) (by first|((simp (disch:=omega) only [push_cast,seval,hL,hW]);done)|((simp (disch:=omega) only [push_cast,seval,hL,hW]);rfl)) (by decide) ⟨_,_,rfl,rfl⟩ ?_;(iterate 2 (exact sd));rintro _ _ ⟨rfl,rfl⟩))|((with_reducible refine callD_ids (f:=57) [160] false ?_);simp (disch:=omega) only [push_cast,seval,hL,hW];(refine call1D (id:=160) (rowOfO_ok _ _ _ _ ?_ ?_) (by first|((simp (disch:=omega) only [push_cast,seval,hL,hW]);done)|((simp (disch:=omega) only [push_cast,seval,hL,hW]);rfl)) ?_;(iterate 2 (exact sd));rintro _ _ ⟨rfl,rfl⟩))|((with_reducible refine callD_ids (f:=57) [192] false ?_);simp (disch:=omega) only [push_cast,seval,hL,hW];(refine call1D (id:=192) (rowOfO_ok _ _ _ _ ?_ ?_) (by first|((simp (disch:=omega) only [push_cast,seval,hL,hW]);done)|((simp (disch:=omega) only [push_cast,seval,hL,hW]);rfl)) ?_;(iterate 2 (exact sd));rintro _ _ ⟨rfl,rfl⟩))|((with_reducible refine callD_ids (f:=57) [240] false ?_);simp (disch:=omega) only [push_cast,seval,hL,hW];(refine call1D (id:=240) (rowOfO_ok _ _ _ _ ?_ ?_) (by first|((simp (disch:=omega) only [push_cast,seval,hL,hW]);done)|((simp (disch:=omega) only [push_cast,seval,hL,hW]);rfl)) ?_;(iterate 2 (exact sd));rintro _ _ ⟨rfl,rfl⟩))|((with_reducible refine callD_ids (f:=57) [416] false ?_);simp (disch:=omega) only [push_cast,seval,hL,hW];(refine call1D (id:=416) (rowOfO_ok _ _ _ _ ?_ ?_) (by first|((simp (disch:=omega) only [push_cast,seval,hL,hW]);done)|((simp (disch:=omega) only [push_cast,seval,hL,hW]);rfl)) ?_;(iterate 2 (exact sd));rintro _ _ ⟨rfl,rfl⟩))|((with_reducible refine callD_ids (f:=57) [528] false ?_);simp (disch:=omega) only [push_cast,seval,hL,hW];(refine call1D (id:=528) (rowOfO_ok _ _ _ _ ?_ ?_) (by first|((simp (disch:=omega) only [push_cast,seval,hL,hW]);done)|((simp (disch:=omega) only [push_cast,seval,hL,hW]);rfl)) ?_;(iterate 2 (exact sd));rintro _ _ ⟨rfl,rfl⟩))|((with_reducible refine callD_ids (f:=57) [0] false ?_);simp (disch:=omega) only [push_cast,seval,hL,hW];(refine call1D (id:=0) (rowOfO_ok _ _ _ _ ?_ ?_) (by first|((simp (disch:=omega) only [push_cast,seval,hL,hW]);done)|((simp (disch:=omega) only [push_cast,seval,hL,hW]);rfl)) ?_;(iterate 2 (exact sd));rintro _ _ ⟨rfl,rfl⟩))|((with_reducible refine callD_ids (f:=57) [1] false ?_);simp (disch:=omega) only [push_cast,seval,hL,hW];(refine call1D (id:=1) (rowOfO_ok _ _ _ _ ?_ ?_) (by first|((simp (disch:=omega) only [push_cast,seval,hL,hW]);done)|((simp (disch:=omega) only [push_cast,seval,hL,hW]);rfl)) ?_;(iterate 2 (exact sd));rintro _ _ ⟨rfl,rfl⟩))|((with_reducible refine callD_of (f:=57) true ?_);simp (disch:=omega) only [push_cast,seval,hL,hW];(refine call0D (rowOfR_ok _ _ _ _ ?_ ?_) ?_;(iterate 2 (exact sd));rintro _ _ ⟨rfl,rfl⟩)))<;>(try simp (disch:=omega) only [push_cast,seval,hL,hW]))
 | ((first|refine callD_of false ?_|refine qcallD_of false ?_);simp (disch:=omega) only [push_cast,seval,hL,hW])
 | ((first|((first|refine call0D (cells_ok _ _ _ _ _ ?_ ?_ ?_) ?_|refine qcall0D (cells_ok _ _ _ _ _ ?_ ?_ ?_) ⟨_,_,rfl,rfl⟩ ?_);(iterate 3 (exact sd));rintro _ _ ⟨rfl,rfl⟩)|((first|refine call0D (BCall.ofP (width_ok _ _ _ _ _ ?_ ?_ ?_)) ?_|refine qcall0D (BCall.ofP (width_ok _ _ _ _ _ ?_ ?_ ?_)) ⟨_,_,rfl,rfl⟩ ?_);(iterate 3 (exact sd));rintro _ _ ⟨rfl,rfl⟩))<;>(try simp (disch:=omega) only [push_cast,seval,hL,hW]))
 | (refine awp_ret ⟨.inr rfl,[240],[],_,by decide,rfl,?_⟩;(try simp (disch:=omega) only [push_cast,seval,↓allMem_nil,↓allMem_cons,↓List.map_cons,↓List.map_nil,hL,hW]))))
  refine awp_loop (fun k:Nat=>mkS [(0,RI mem),(5,.own 160 L.length 1),(6,.int .i64 W),(7,.own 240 L.length 1),(8,.int .i64 k)] [(240,IL (filled (fun k=>mem.getD (L.getD k 0).toNat 0) L.length k)),(160,IL L)])
    (fun k=>k ≤ L.length ∧ W ∣ k) (fun k=>L.length - k) 0 ⟨Nat.zero_le _,Nat.dvd_zero _⟩ ?_ ?_
  · (refine Sub.of_lists ?_ ?_ ?_ ?_ ?_<;>simp [Vw.mkS,Vw.lk,Vw.hk,AV.inn,innL,innL_ints,innL_append,innL_rep,-List.map_set,-List.getD_eq_getElem?_getD,filled_zero])
  · rintro k ⟨hk,hkd⟩
    have e1:=filled_length (fun k=>mem.getD (L.getD k 0).toNat 0) L.length k
    by_cases hlt:k < L.length
    · have hw1:=hwp (by omega)
      have hend:=row_end hw1 hdv hkd (by omega)
      obtain ⟨h1,h2⟩:=hat k hlt
      have hlast:=hat (k + (W - 1)) (by omega)
      rw [hrow k (W - 1) hkd (by omega) (by omega)] at hlast
      obtain ⟨c,hc⟩:∃ c:Nat,L.getD k 0=c:=⟨(L.getD k 0).toNat,by omega⟩
      have hr:=load_row (mem:=mem) (cells:=L) (n:=L.length) (k:=k) W (by omega) (by omega) (fun j hj=>by rw [hrow k j hkd hj (by omega)];omega)
      rw [hc] at hr
      rw [Int.toNat_natCast] at hr
      have hcw:c + W ≤ mem.length:=by omega
      have hkw:k + W ≤ L.length:=by omega
      have e2:min W W=W:=Nat.min_self W
      generalize hF:filled (fun k=>mem.getD (L.getD k 0).toNat 0) L.length k=F at *
      have e4:(((mem.drop c).take W).map (AV.int .i64)).take W=((mem.drop c).take W).map (AV.int .i64):=by rw [← List.map_take,List.take_take,Nat.min_self]
      have e5:((mem.drop c).take W).length=W:=by simp;omega
      (repeat' (first
 | (first|refine awp_seq ?_|refine awp_block ?_)
 | ((first|refine awp_reg ?_|refine awp_draw (mid:=l31r1a) (post:=l31r1b) mixed (by decide) ?_|refine awp_drawX (mid:=l31r5a) (post:=l31r5b) [192,240] mixed (by decide) ?_|refine awp_condB ?_|refine awp_skip ?_|refine awp_exit ?_);simp (disch:=omega) only [push_cast,seval,l31r0,l31r1a,l31r1b,l31r1,l31r2,l31r3,l31r4,l31r5a,l31r5b,l31r5,l31r6,l31r7,hc,e1,e2,e4,e5,hr,Int.toNat_natCast])
 | ((first|refine condB_split (fun h=>?_) (fun h=>?_)|refine gIf_split (fun h=>?_) (fun h=>?_)|refine qIf_split (fun h=>?_) (fun h=>?_))<;>(try simp only [h])<;>(try simp only [bitvec_to_nat] at h)<;>(try simp only [h])<;>(first|(exfalso;omega)|(focus (exfalso;simp_all;done))|(simp (disch:=omega) only [push_cast,seval,hc,e1,e2,e4,e5,hr,Int.toNat_natCast])|skip))
 | ((first|((with_reducible refine qcallI_of (f:=57) [160] false ?_);simp (disch:=omega) only [push_cast,seval,hc,e1,e2,e4,e5,hr,Int.toNat_natCast];(refine qcall1D (id:=160) (rowOfO_ok _ _ _ _ ?_ ?_) (by first|((simp (disch:=omega) only [push_cast,seval,hc,e1,e2,e4,e5,hr,Int.toNat_natCast]);done)|((simp (disch:=omega) only [push_cast,seval,hc,e1,e2,e4,e5,hr,Int.toNat_natCast]);rfl)) (by decide) ⟨_,_,rfl,rfl⟩ ?_;(iterate 2 (exact sd));rintro _ _ ⟨rfl,rfl⟩))|((with_reducible refine qcallI_of (f:=57) [192] false ?_);simp (disch:=omega) only [push_cast,seval,hc,e1,e2,e4,e5,hr,Int.toNat_natCast];(refine qcall1D (id:=192) (rowOfO_ok _ _ _ _ ?_ ?_) (by first|((simp (disch:=omega) only [push_cast,seval,hc,e1,e2,e4,e5,hr,Int.toNat_natCast]);done)|((simp (disch:=omega) only [push_cast,seval,hc,e1,e2,e4,e5,hr,Int.toNat_natCast]);rfl)) (by decide) ⟨_,_,rfl,rfl⟩ ?_;(iterate 2 (exact sd));rintro _ _ ⟨rfl,rfl⟩))|((with_reducible refine qcallI_of (f:=57) [240] false ?_);simp (disch:=omega) only [push_cast,seval,hc,e1,e2,e4,e5,hr,Int.toNat_natCast];(refine qcall1D (id:=240) (rowOfO_ok _ _ _ _ ?_ ?_) (by first|((simp (disch:=omega) only [push_cast,seval,hc,e1,e2,e4,e5,hr,Int.toNat_natCast]);done)|((simp (disch:=omega) only [push_cast,seval,hc,e1,e2,e4,e5,hr,Int.toNat_natCast]);rfl)) (by decide) ⟨_,_,rfl,rfl⟩ ?_;(iterate 2 (exact sd));rintro _ _ ⟨rfl,rfl⟩))|((with_reducible refine qcallI_of (f:=57) [416] false ?_);simp (disch:=omega) only [push_cast,seval,hc,e1,e2,e4,e5,hr,Int.toNat_natCast];(refine qcall1D (id:=416) (rowOfO_ok _ _ _ _ ?_ ?_) (by first|((simp (disch:=omega) only [push_cast,seval,hc,e1,e2,e4,e5,hr,Int.toNat_natCast]);done)|((simp (disch:=omega) only [push_cast,seval,hc,e1,e2,e4,e5,hr,Int.toNat_natCast]);rfl)) (by decide) ⟨_,_,rfl,rfl⟩ ?_;(iterate 2 (exact sd));rintro _ _ ⟨rfl,rfl⟩))|((with_reducible refine qcallI_of (f:=57) [528] false ?_);simp (disch:=omega) only [push_cast,seval,hc,e1,e2,e4,e5,hr,Int.toNat_natCast];(refine qcall1D (id:=528) (rowOfO_ok _ _ _ _ ?_ ?_) (by first|((simp (disch:=omega) only [push_cast,seval,hc,e1,e2,e4,e5,hr,Int.toNat_natCast]);done)|((simp (disch:=omega) only [push_cast,seval,hc,e1,e2,e4,e5,hr,Int.toNat_natCast]);rfl)) (by decide) ⟨_,_,rfl,rfl⟩ ?_;(iterate 2 (exact sd));rintro _ _ ⟨rfl,rfl⟩))|((with_reducible refine qcallI_of (f:=57) [0] false ?_);simp (disch:=omega) only [push_cast,seval,hc,e1,e2,e4,e5,hr,Int.toNat_natCast];(refine qcall1D (id:=0) (rowOfO_ok _ _ _ _ ?_ ?_) (by first|((simp (disch:=omega) only [push_cast,seval,hc,e1,e2,e4,e5,hr,Int.toNat_natCast]);done)|((simp (disch:=omega) only [push_cast,seval,hc,e1,e2,e4,e5,hr,Int.toNat_natCast]);rfl)) (by decide) ⟨_,_,rfl,rfl⟩ ?_;(iterate 2 (exact sd));rintro _ _ ⟨rfl,rfl⟩))|((with_reducible refine qcallI_of (f:=57) [1] false ?_);simp (disch:=omega) only [push_cast,seval,hc,e1,e2,e4,e5,hr,Int.toNat_natCast];(refine qcall1D (id:=1) (rowOfO_ok _ _ _ _ ?_ ?_) (by first|((simp (disch:=omega) only [push_cast,seval,hc,e1,e2,e4,e5,hr,Int.toNat_natCast]);done)|((simp (disch:=omega) only [push_cast,seval,hc,e1,e2,e4,e5,hr,Int.toNat_natCast]);rfl)) (by decide) ⟨_,_,rfl,rfl⟩ ?_;(iterate 2 (exact sd));rintro _ _ ⟨rfl,rfl⟩))|((with_reducible refine callD_ids (f:=57) [160] false ?_);simp (disch:=omega) only [push_cast,seval,hc,e1,e2,e4,e5,hr,Int.toNat_natCast];(refine call1D (id:=160) (rowOfO_ok _ _ _ _ ?_ ?_) (by first|((simp (disch:=omega) only [push_cast,seval,hc,e1,e2,e4,e5,hr,Int.toNat_natCast]);done)|((simp (disch:=omega) only [push_cast,seval,hc,e1,e2,e4,e5,hr,Int.toNat_natCast]);rfl)) ?_;(iterate 2 (exact sd));rintro _ _ ⟨rfl,rfl⟩))|((with_reducible refine callD_ids (f:=57) [192] false ?_);simp (disch:=omega) only [push_cast,seval,hc,e1,e2,e4,e5,hr,Int.toNat_natCast];(refine call1D (id:=192) (rowOfO_ok _ _ _ _ ?_ ?_) (by first|((simp (disch:=omega) only [push_cast,seval,hc,e1,e2,e4,e5,hr,Int.toNat_natCast]);done)|((simp (disch:=omega) only [push_cast,seval,hc,e1,e2,e4,e5,hr,Int.toNat_natCast]);rfl)) ?_;(iterate 2 (exact sd));rintro _ _ ⟨rfl,rfl⟩))|((with_reducible refine callD_ids (f:=57) [240] false ?_);simp (disch:=omega) only [push_cast,seval,hc,e1,e2,e4,e5,hr,Int.toNat_natCast];(refine call1D (id:=240) (rowOfO_ok _ _ _ _ ?_ ?_) (by first|((simp (disch:=omega) only [push_cast,seval,hc,e1,e2,e4,e5,hr,Int.toNat_natCast]);done)|((simp (disch:=omega) only [push_cast,seval,hc,e1,e2,e4,e5,hr,Int.toNat_natCast]);rfl)) ?_;(iterate 2 (exact sd));rintro _ _ ⟨rfl,rfl⟩))|((with_reducible refine callD_ids (f:=57) [416] false ?_);simp (disch:=omega) only [push_cast,seval,hc,e1,e2,e4,e5,hr,Int.toNat_natCast];(refine call1D (id:=416) (rowOfO_ok _ _ _ _ ?_ ?_) (by first|((simp (disch:=omega) only [push_cast,seval,hc,e1,e2,e4,e5,hr,Int.toNat_natCast]);done)|((simp (disch:=omega) only [push_cast,seval,hc,e1,e2,e4,e5,hr,Int.toNat_natCast]);rfl)) ?_;(iterate 2 (exact sd));rintro _ _ ⟨rfl,rfl⟩))|((with_reducible refine callD_ids (f:=57) [528] false ?_);simp (disch:=omega) only [push_cast,seval,hc,e1,e2,e4,e5,hr,Int.toNat_natCast];(refine call1D (id:=528) (rowOfO_ok _ _ _ _ ?_ ?_) (by first|((simp (disch:=omega) only [push_cast,seval,hc,e1,e2,e4,e5,hr,Int.toNat_natCast]);done)|((simp (disch:=omega) only [push_cast,seval,hc,e1,e2,e4,e5,hr,Int.toNat_natCast]);rfl)) ?_;(iterate 2 (exact sd));rintro _ _ ⟨rfl,rfl⟩))|((with_reducible refine callD_ids (f:=57) [0] false ?_);simp (disch:=omega) only [push_cast,seval,hc,e1,e2,e4,e5,hr,Int.toNat_natCast];(refine call1D (id:=0) (rowOfO_ok _ _ _ _ ?_ ?_) (by first|((simp (disch:=omega) only [push_cast,seval,hc,e1,e2,e4,e5,hr,Int.toNat_natCast]);done)|((simp (disch:=omega) only [push_cast,seval,hc,e1,e2,e4,e5,hr,Int.toNat_natCast]);rfl)) ?_;(iterate 2 (exact sd));rintro _ _ ⟨rfl,rfl⟩))|((with_reducible refine callD_ids (f:=57) [1] false ?_);simp (disch:=omega) only [push_cast,seval,hc,e1,e2,e4,e5,hr,Int.toNat_natCast];(refine call1D (id:=1) (rowOfO_ok _ _ _ _ ?_ ?_) (by first|((simp (disch:=omega) only [push_cast,seval,hc,e1,e2,e4,e5,hr,Int.toNat_natCast]);done)|((simp (disch:=omega) only [push_cast,seval,hc,e1,e2,e4,e5,hr,Int.toNat_natCast]);rfl)) ?_;(iterate 2 (exact sd));rintro _ _ ⟨rfl,rfl⟩))|((with_reducible refine callD_of (f:=57) true ?_);simp (disch:=omega) only [push_cast,seval,hc,e1,e2,e4,e5,hr,Int.toNat_natCast];(refine call0D (rowOfR_ok _ _ _ _ ?_ ?_) ?_;(iterate 2 (exact sd));rintro _ _ ⟨rfl,rfl⟩)))<;>(try simp (disch:=omega) only [push_cast,seval,hc,e1,e2,e4,e5,hr,Int.toNat_natCast]))
 | ((first|refine callD_of false ?_|refine qcallD_of false ?_);simp (disch:=omega) only [push_cast,seval,hc,e1,e2,e4,e5,hr,Int.toNat_natCast])
 | ((first|((first|refine call0D (cells_ok _ _ _ _ _ ?_ ?_ ?_) ?_|refine qcall0D (cells_ok _ _ _ _ _ ?_ ?_ ?_) ⟨_,_,rfl,rfl⟩ ?_);(iterate 3 (exact sd));rintro _ _ ⟨rfl,rfl⟩)|((first|refine call0D (BCall.ofP (width_ok _ _ _ _ _ ?_ ?_ ?_)) ?_|refine qcall0D (BCall.ofP (width_ok _ _ _ _ _ ?_ ?_ ?_)) ⟨_,_,rfl,rfl⟩ ?_);(iterate 3 (exact sd));rintro _ _ ⟨rfl,rfl⟩))<;>(try simp (disch:=omega) only [push_cast,seval,hc,e1,e2,e4,e5,hr,Int.toNat_natCast]))
 | (refine awp_ret ⟨.inr rfl,[240],[],_,by decide,rfl,?_⟩;(try simp (disch:=omega) only [push_cast,seval,↓allMem_nil,↓allMem_cons,↓List.map_cons,↓List.map_nil,hc,e1,e2,e4,e5,hr,Int.toNat_natCast]))))
      refine ⟨k + W,⟨by omega,Nat.dvd_add hkd (Nat.dvd_refl W)⟩,by omega,?_⟩
      (refine Sub.of_lists ?_ ?_ ?_ ?_ ?_<;>simp [Vw.mkS,Vw.lk,Vw.hk,AV.inn,innL,innL_ints,innL_append,innL_rep,-List.map_set,-List.getD_eq_getElem?_getD,hr])
    · have hke:k=L.length:=by omega
      subst hke
      rw [takesL_filled] at e1
      rw [takesL_filled]
      (repeat' (first
 | (first|refine awp_seq ?_|refine awp_block ?_)
 | ((first|refine awp_reg ?_|refine awp_draw (mid:=l31r1a) (post:=l31r1b) mixed (by decide) ?_|refine awp_drawX (mid:=l31r5a) (post:=l31r5b) [192,240] mixed (by decide) ?_|refine awp_condB ?_|refine awp_skip ?_|refine awp_exit ?_);simp (disch:=omega) only [push_cast,seval,l31r0,l31r1a,l31r1b,l31r1,l31r2,l31r3,l31r4,l31r5a,l31r5b,l31r5,l31r6,l31r7,e1])
 | ((first|refine condB_split (fun h=>?_) (fun h=>?_)|refine gIf_split (fun h=>?_) (fun h=>?_)|refine qIf_split (fun h=>?_) (fun h=>?_))<;>(try simp only [h])<;>(try simp only [bitvec_to_nat] at h)<;>(try simp only [h])<;>(first|(exfalso;omega)|(focus (exfalso;simp_all;done))|(simp (disch:=omega) only [push_cast,seval,e1])|skip))
 | ((first|((with_reducible refine qcallI_of (f:=57) [160] false ?_);simp (disch:=omega) only [push_cast,seval,e1];(refine qcall1D (id:=160) (rowOfO_ok _ _ _ _ ?_ ?_) (by first|((simp (disch:=omega) only [push_cast,seval,e1]);done)|((simp (disch:=omega) only [push_cast,seval,e1]);rfl)) (by decide) ⟨_,_,rfl,rfl⟩ ?_;(iterate 2 (exact sd));rintro _ _ ⟨rfl,rfl⟩))|((with_reducible refine qcallI_of (f:=57) [192] false ?_);simp (disch:=omega) only [push_cast,seval,e1];(refine qcall1D (id:=192) (rowOfO_ok _ _ _ _ ?_ ?_) (by first|((simp (disch:=omega) only [push_cast,seval,e1]);done)|((simp (disch:=omega) only [push_cast,seval,e1]);rfl)) (by decide) ⟨_,_,rfl,rfl⟩ ?_;(iterate 2 (exact sd));rintro _ _ ⟨rfl,rfl⟩))|((with_reducible refine qcallI_of (f:=57) [240] false ?_);simp (disch:=omega) only [push_cast,seval,e1];(refine qcall1D (id:=240) (rowOfO_ok _ _ _ _ ?_ ?_) (by first|((simp (disch:=omega) only [push_cast,seval,e1]);done)|((simp (disch:=omega) only [push_cast,seval,e1]);rfl)) (by decide) ⟨_,_,rfl,rfl⟩ ?_;(iterate 2 (exact sd));rintro _ _ ⟨rfl,rfl⟩))|((with_reducible refine qcallI_of (f:=57) [416] false ?_);simp (disch:=omega) only [push_cast,seval,e1];(refine qcall1D (id:=416) (rowOfO_ok _ _ _ _ ?_ ?_) (by first|((simp (disch:=omega) only [push_cast,seval,e1]);done)|((simp (disch:=omega) only [push_cast,seval,e1]);rfl)) (by decide) ⟨_,_,rfl,rfl⟩ ?_;(iterate 2 (exact sd));rintro _ _ ⟨rfl,rfl⟩))|((with_reducible refine qcallI_of (f:=57) [528] false ?_);simp (disch:=omega) only [push_cast,seval,e1];(refine qcall1D (id:=528) (rowOfO_ok _ _ _ _ ?_ ?_) (by first|((simp (disch:=omega) only [push_cast,seval,e1]);done)|((simp (disch:=omega) only [push_cast,seval,e1]);rfl)) (by decide) ⟨_,_,rfl,rfl⟩ ?_;(iterate 2 (exact sd));rintro _ _ ⟨rfl,rfl⟩))|((with_reducible refine qcallI_of (f:=57) [0] false ?_);simp (disch:=omega) only [push_cast,seval,e1];(refine qcall1D (id:=0) (rowOfO_ok _ _ _ _ ?_ ?_) (by first|((simp (disch:=omega) only [push_cast,seval,e1]);done)|((simp (disch:=omega) only [push_cast,seval,e1]);rfl)) (by decide) ⟨_,_,rfl,rfl⟩ ?_;(iterate 2 (exact sd));rintro _ _ ⟨rfl,rfl⟩))|((with_reducible refine qcallI_of (f:=57) [1] false ?_);simp (disch:=omega) only [push_cast,seval,e1];(refine qcall1D (id:=1) (rowOfO_ok _ _ _ _ ?_ ?_) (by first|((simp (disch:=omega) only [push_cast,seval,e1]);done)|((simp (disch:=omega) only [push_cast,seval,e1]);rfl)) (by decide) ⟨_,_,rfl,rfl⟩ ?_;(iterate 2 (exact sd));rintro _ _ ⟨rfl,rfl⟩))|((with_reducible refine callD_ids (f:=57) [160] false ?_);simp (disch:=omega) only [push_cast,seval,e1];(refine call1D (id:=160) (rowOfO_ok _ _ _ _ ?_ ?_) (by first|((simp (disch:=omega) only [push_cast,seval,e1]);done)|((simp (disch:=omega) only [push_cast,seval,e1]);rfl)) ?_;(iterate 2 (exact sd));rintro _ _ ⟨rfl,rfl⟩))|((with_reducible refine callD_ids (f:=57) [192] false ?_);simp (disch:=omega) only [push_cast,seval,e1];(refine call1D (id:=192) (rowOfO_ok _ _ _ _ ?_ ?_) (by first|((simp (disch:=omega) only [push_cast,seval,e1]);done)|((simp (disch:=omega) only [push_cast,seval,e1]);rfl)) ?_;(iterate 2 (exact sd));rintro _ _ ⟨rfl,rfl⟩))|((with_reducible refine callD_ids (f:=57) [240] false ?_);simp (disch:=omega) only [push_cast,seval,e1];(refine call1D (id:=240) (rowOfO_ok _ _ _ _ ?_ ?_) (by first|((simp (disch:=omega) only [push_cast,seval,e1]);done)|((simp (disch:=omega) only [push_cast,seval,e1]);rfl)) ?_;(iterate 2 (exact sd));rintro _ _ ⟨rfl,rfl⟩))|((with_reducible refine callD_ids (f:=57) [416] false ?_);simp (disch:=omega) only [push_cast,seval,e1];(refine call1D (id:=416) (rowOfO_ok _ _ _ _ ?_ ?_) (by first|((simp (disch:=omega) only [push_cast,seval,e1]);done)|((simp (disch:=omega) only [push_cast,seval,e1]);rfl)) ?_;(iterate 2 (exact sd));rintro _ _ ⟨rfl,rfl⟩))|((with_reducible refine callD_ids (f:=57) [528] false ?_);simp (disch:=omega) only [push_cast,seval,e1];(refine call1D (id:=528) (rowOfO_ok _ _ _ _ ?_ ?_) (by first|((simp (disch:=omega) only [push_cast,seval,e1]);done)|((simp (disch:=omega) only [push_cast,seval,e1]);rfl)) ?_;(iterate 2 (exact sd));rintro _ _ ⟨rfl,rfl⟩))|((with_reducible refine callD_ids (f:=57) [0] false ?_);simp (disch:=omega) only [push_cast,seval,e1];(refine call1D (id:=0) (rowOfO_ok _ _ _ _ ?_ ?_) (by first|((simp (disch:=omega) only [push_cast,seval,e1]);done)|((simp (disch:=omega) only [push_cast,seval,e1]);rfl)) ?_;(iterate 2 (exact sd));rintro _ _ ⟨rfl,rfl⟩))|((with_reducible refine callD_ids (f:=57) [1] false ?_);simp (disch:=omega) only [push_cast,seval,e1];(refine call1D (id:=1) (rowOfO_ok _ _ _ _ ?_ ?_) (by first|((simp (disch:=omega) only [push_cast,seval,e1]);done)|((simp (disch:=omega) only [push_cast,seval,e1]);rfl)) ?_;(iterate 2 (exact sd));rintro _ _ ⟨rfl,rfl⟩))|((with_reducible refine callD_of (f:=57) true ?_);simp (disch:=omega) only [push_cast,seval,e1];(refine call0D (rowOfR_ok _ _ _ _ ?_ ?_) ?_;(iterate 2 (exact sd));rintro _ _ ⟨rfl,rfl⟩)))<;>(try simp (disch:=omega) only [push_cast,seval,e1]))
 | ((first|refine callD_of false ?_|refine qcallD_of false ?_);simp (disch:=omega) only [push_cast,seval,e1])
 | ((first|((first|refine call0D (cells_ok _ _ _ _ _ ?_ ?_ ?_) ?_|refine qcall0D (cells_ok _ _ _ _ _ ?_ ?_ ?_) ⟨_,_,rfl,rfl⟩ ?_);(iterate 3 (exact sd));rintro _ _ ⟨rfl,rfl⟩)|((first|refine call0D (BCall.ofP (width_ok _ _ _ _ _ ?_ ?_ ?_)) ?_|refine qcall0D (BCall.ofP (width_ok _ _ _ _ _ ?_ ?_ ?_)) ⟨_,_,rfl,rfl⟩ ?_);(iterate 3 (exact sd));rintro _ _ ⟨rfl,rfl⟩))<;>(try simp (disch:=omega) only [push_cast,seval,e1]))
 | (refine awp_ret ⟨.inr rfl,[240],[],_,by decide,rfl,?_⟩;(try simp (disch:=omega) only [push_cast,seval,↓allMem_nil,↓allMem_cons,↓List.map_cons,↓List.map_nil,e1]))))
      all_goals simp [OI,e1]

end Go.Proofs.YtceopplkfomalaaGreat
