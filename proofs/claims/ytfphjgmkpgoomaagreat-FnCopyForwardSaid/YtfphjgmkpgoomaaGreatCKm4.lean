import Derived.Test.YtfphjgmkpgoomaaGreatCKm3
import Derived.Test.YtfphjgmkpgoomaaGreatCM1
import Derived.Test.YtfphjgmkpgoomaaGreatCW3
set_option linter.unusedSimpArgs false
set_option linter.unusedVariables false
set_option maxRecDepth 4000
set_option maxHeartbeats 4000000
namespace Go.Proofs.YtfphjgmkpgoomaaGreat
open VwM Vw Go

theorem nums_at {n k:Nat} (h:k < n):(nums 0 1 n).getD k 0=(k:Int):=by rw [nums_getD 0 1 n k h];omega
theorem nums_rev_at {n k:Nat} (h:k < n):(nums 0 1 n).reverse.getD k 0=((n - 1 - k:Nat):Int):=by
  have hl:=nums_length 0 1 n
  rw [List.getD,List.getElem?_reverse (by omega),hl]
  have:=nums_at (n:=n) (k:=n - 1 - k) (by omega)
  rw [List.getD] at this
  rw [this]
/-- The memory after cells were carried in an order. -/
def stpK (mem to fr:List Int) (g:Nat → Nat):Nat → List Int
  | 0=>mem
  | k + 1=>(stpK mem to fr g k).set (to.getD (g k) 0).toNat ((stpK mem to fr g k).getD (fr.getD (g k) 0).toNat 0)
theorem stpK_length (mem to fr:List Int) (g:Nat → Nat):∀ k,(stpK mem to fr g k).length=mem.length
  | 0=>rfl
  | k + 1=>by simp [stpK,stpK_length mem to fr g k]
theorem stpK_up (mem to fr:List Int):∀ k,stpK mem to fr (fun j=>j) k=carK mem to fr k
  | 0=>rfl
  | k + 1=>by simp only [stpK,carK,stpK_up mem to fr k]
theorem stpK_down {mem to fr:List Int} (hl:to.length=fr.length):∀ k,k ≤ fr.length → stpK mem to fr (fun j=>fr.length - 1 - j) k=carK mem to.reverse fr.reverse k
  | 0,_=>rfl
  | k + 1,h=>by
    simp only [stpK,carK,stpK_down hl k (by omega)]
    have e1:to.reverse.getD k 0=to.getD (fr.length - 1 - k) 0:=by rw [List.getD,List.getD,List.getElem?_reverse (by omega),hl]
    have e2:fr.reverse.getD k 0=fr.getD (fr.length - 1 - k) 0:=by rw [List.getD,List.getD,List.getElem?_reverse (by omega)]
    rw [e1,e2]


theorem sstep_ok (mem to fr od:List Int) (g:Nat → Nat) (q n m p:Nat) (hq:mem.length=q) (hn:to.length=n) (hm:fr.length=m) (hp:od.length=p) (hb:(n=m ∧ p=m ∧ q ≤ 60 ∧ m ≤ 60) ∧ (∀ x ∈ to,0 ≤ x ∧ x ≤ (q:Int) - 1) ∧ (∀ x ∈ fr,0 ≤ x ∧ x ≤ (q:Int) - 1) ∧ ∀ k,k < m → g k < m ∧ od.getD k 0=(g k:Int)):BCall Tryz.prog 86 [.rows false (IL mem) q,.rows false (IL to) n,.rows false (IL fr) m,.rows false (IL od) p] [] (OI (stpK mem to fr g fr.length)):=by
  subst hq hn hm hp
  obtain ⟨⟨hl,hlo,h60,hm60⟩,ht,hf,ho⟩:=hb
  have hml:mem.length ≤ 1099511627776:=by omega
  refine bcall_of (pins:=[]) (pin:=0) l86_eq rfl rfl rfl ?_
  (repeat' (first
 | (first|refine awp_seq ?_|refine awp_block ?_)
 | ((first|refine awp_reg ?_|refine awp_draw (mid:=l86r4a) (post:=l86r4b) mixed (by decide) ?_|refine awp_condB ?_|refine awp_skip ?_|refine awp_exit ?_);simp (disch:=omega) only [push_cast,seval,l86r0,l86r1,l86r2,l86r3,l86r4a,l86r4b,l86r4,l86r5,l86r6])
 | ((first|refine condB_split (fun h=>?_) (fun h=>?_)|refine gIf_split (fun h=>?_) (fun h=>?_)|refine qIf_split (fun h=>?_) (fun h=>?_))<;>(try simp only [h])<;>(try simp only [bitvec_to_nat] at h)<;>(try simp only [h])<;>(first|(exfalso;omega)|(focus (exfalso;simp_all;done))|(simp (disch:=omega) only [push_cast,seval])|skip))
 | ((first|refine callD_of false ?_|refine qcallD_of false ?_);simp (disch:=omega) only [push_cast,seval])
 | ((first|((first|refine call0D (copyInts_ok _ _ ?_ ?_) ?_|refine qcall0D (copyInts_ok _ _ ?_ ?_) ⟨_,_,rfl,rfl⟩ ?_);(iterate 2 (exact sd));rintro _ _ ⟨rfl,rfl⟩))<;>(try simp (disch:=omega) only [push_cast,seval]))
 | (refine awp_ret ⟨.inr rfl,[192],[],_,by decide,rfl,?_⟩;(try simp (disch:=omega) only [push_cast,seval,↓allMem_nil,↓allMem_cons,↓List.map_cons,↓List.map_nil]))))
  refine awp_loop (fun k:Nat=>mkS [(1,RI to),(2,RI fr),(3,RI od),(9,.own 192 mem.length 1),(10,.int .i64 k)] [(192,IL (stpK mem to fr g k))])
    (fun k=>k ≤ fr.length) (fun k=>fr.length - k) 0 (Nat.zero_le _) ?_ ?_
  · have e0:stpK mem to fr g 0=mem:=rfl
    (refine Sub.of_lists ?_ ?_ ?_ ?_ ?_<;>simp [Vw.mkS,Vw.lk,Vw.hk,AV.inn,innL,innL_ints,innL_append,innL_rep,-List.map_set,-List.getD_eq_getElem?_getD,e0])
  · intro k hk
    have e1:=stpK_length mem to fr g k
    by_cases hlt:k < fr.length
    · obtain ⟨g1,g2⟩:=ho k hlt
      have h1:=ht _ (getD_mem (xs:=to) (j:=g k) (by omega))
      have h2:=hf _ (getD_mem g1)
      have h3:(to.getD (g k) 0).toNat < mem.length:=by omega
      have h4:(fr.getD (g k) 0).toNat < mem.length:=by omega
      have h5:g k < to.length:=by omega
      have h6:k < od.length:=by omega
      have e2:stpK mem to fr g (k + 1)=(stpK mem to fr g k).set (to.getD (g k) 0).toNat ((stpK mem to fr g k).getD (fr.getD (g k) 0).toNat 0):=rfl
      generalize stpK mem to fr g k=z at *
      generalize g k=j at *
      obtain ⟨h11,h12⟩:=h1
      obtain ⟨h21,h22⟩:=h2
      (repeat' (first
 | (first|refine awp_seq ?_|refine awp_block ?_)
 | ((first|refine awp_reg ?_|refine awp_draw (mid:=l86r4a) (post:=l86r4b) mixed (by decide) ?_|refine awp_condB ?_|refine awp_skip ?_|refine awp_exit ?_);simp (disch:=omega) only [push_cast,seval,l86r0,l86r1,l86r2,l86r3,l86r4a,l86r4b,l86r4,l86r5,l86r6,e1,g2])
 | ((first|refine condB_split (fun h=>?_) (fun h=>?_)|refine gIf_split (fun h=>?_) (fun h=>?_)|refine qIf_split (fun h=>?_) (fun h=>?_))<;>(try simp only [h])<;>(try simp only [bitvec_to_nat] at h)<;>(try simp only [h])<;>(first|(exfalso;omega)|(focus (exfalso;simp_all;done))|(simp (disch:=omega) only [push_cast,seval,e1,g2])|skip))
 | ((first|refine callD_of false ?_|refine qcallD_of false ?_);simp (disch:=omega) only [push_cast,seval,e1,g2])
 | ((first|((first|refine call0D (copyInts_ok _ _ ?_ ?_) ?_|refine qcall0D (copyInts_ok _ _ ?_ ?_) ⟨_,_,rfl,rfl⟩ ?_);(iterate 2 (exact sd));rintro _ _ ⟨rfl,rfl⟩))<;>(try simp (disch:=omega) only [push_cast,seval,e1,g2]))
 | (refine awp_ret ⟨.inr rfl,[192],[],_,by decide,rfl,?_⟩;(try simp (disch:=omega) only [push_cast,seval,↓allMem_nil,↓allMem_cons,↓List.map_cons,↓List.map_nil,e1,g2]))))
      refine ⟨k + 1,by omega,by omega,?_⟩
      (refine Sub.of_lists ?_ ?_ ?_ ?_ ?_<;>simp [Vw.mkS,Vw.lk,Vw.hk,AV.inn,innL,innL_ints,innL_append,innL_rep,-List.map_set,-List.getD_eq_getElem?_getD,e2,IL_set])
    · have hke:k=fr.length:=by omega
      subst hke
      have hlt2:¬ (fr.length:Int) < (od.length:Int):=by omega
      (repeat' (first
 | (first|refine awp_seq ?_|refine awp_block ?_)
 | ((first|refine awp_reg ?_|refine awp_draw (mid:=l86r4a) (post:=l86r4b) mixed (by decide) ?_|refine awp_condB ?_|refine awp_skip ?_|refine awp_exit ?_);simp (disch:=omega) only [push_cast,seval,l86r0,l86r1,l86r2,l86r3,l86r4a,l86r4b,l86r4,l86r5,l86r6,e1,hlt2])
 | ((first|refine condB_split (fun h=>?_) (fun h=>?_)|refine gIf_split (fun h=>?_) (fun h=>?_)|refine qIf_split (fun h=>?_) (fun h=>?_))<;>(try simp only [h])<;>(try simp only [bitvec_to_nat] at h)<;>(try simp only [h])<;>(first|(exfalso;omega)|(focus (exfalso;simp_all;done))|(simp (disch:=omega) only [push_cast,seval,e1,hlt2])|skip))
 | ((first|refine callD_of false ?_|refine qcallD_of false ?_);simp (disch:=omega) only [push_cast,seval,e1,hlt2])
 | ((first|((first|refine call0D (copyInts_ok _ _ ?_ ?_) ?_|refine qcall0D (copyInts_ok _ _ ?_ ?_) ⟨_,_,rfl,rfl⟩ ?_);(iterate 2 (exact sd));rintro _ _ ⟨rfl,rfl⟩))<;>(try simp (disch:=omega) only [push_cast,seval,e1,hlt2]))
 | (refine awp_ret ⟨.inr rfl,[192],[],_,by decide,rfl,?_⟩;(try simp (disch:=omega) only [push_cast,seval,↓allMem_nil,↓allMem_cons,↓List.map_cons,↓List.map_nil,e1,hlt2]))))
      all_goals simp [OI,e1]
theorem sstepUp_ok (mem to fr:List Int) (q n m p:Nat) (hq:mem.length=q) (hn:to.length=n) (hm:fr.length=m) (hb:(n=m ∧ p=m ∧ q ≤ 60 ∧ m ≤ 60) ∧ (∀ x ∈ to,0 ≤ x ∧ x ≤ (q:Int) - 1) ∧ (∀ x ∈ fr,0 ≤ x ∧ x ≤ (q:Int) - 1)):BCall Tryz.prog 86 [.rows false (IL mem) q,.rows false (IL to) n,.rows false (IL fr) m,.rows false (IL (nums 0 1 p)) p] [] (OI (carL mem to fr)):=by
  have:=sstep_ok mem to fr (nums 0 1 p) (fun j=>j) q n m p hq hn hm (nums_length 0 1 p) ⟨hb.1,hb.2.1,hb.2.2,fun k hk=>⟨hk,nums_at (by omega)⟩⟩
  rw [stpK_up] at this
  exact this
theorem sstepDown_ok (mem to fr:List Int) (q n m p:Nat) (hq:mem.length=q) (hn:to.length=n) (hm:fr.length=m) (hb:(n=m ∧ p=m ∧ q ≤ 60 ∧ m ≤ 60) ∧ (∀ x ∈ to,0 ≤ x ∧ x ≤ (q:Int) - 1) ∧ (∀ x ∈ fr,0 ≤ x ∧ x ≤ (q:Int) - 1)):BCall Tryz.prog 86 [.rows false (IL mem) q,.rows false (IL to) n,.rows false (IL fr) m,.rows false (IL (nums 0 1 p).reverse) p] [] (OI (carL mem to.reverse fr.reverse)):=by
  obtain ⟨⟨h1,h2,h3⟩,h4,h5⟩:=hb
  have:=sstep_ok mem to fr (nums 0 1 p).reverse (fun j=>m - 1 - j) q n m p hq hn hm (by simp) ⟨⟨h1,h2,h3⟩,h4,h5,fun k hk=>⟨by omega,by rw [nums_rev_at (by omega),h2]⟩⟩
  rw [← hm,stpK_down (by omega) _ (Nat.le_refl _)] at this
  rw [← hm]
  unfold carL
  rw [List.length_reverse]
  exact this


theorem meetsLater_ok (xs ys:List Int) (n m:Nat) (hn:xs.length=n) (hm:ys.length=m) (hb:n=m ∧ m ≤ 60):PCall Tryz.prog 92 [.rows false (IL xs) n,.rows false (IL ys) m] (fun r=>r=.bool (mtL xs ys)):=by
  subst hn hm
  obtain ⟨hl,h60⟩:=hb
  refine pcall_of l92_eq rfl ?_
  (repeat' (first
 | (first|refine awp_seq ?_|refine awp_block ?_)
 | ((first|refine awp_reg ?_|refine awp_condB ?_|refine awp_skip ?_|refine awp_exit ?_);simp (disch:=omega) only [push_cast,seval,l92r0,l92r1,l92r2,l92r3,l92r4,l92r5,l92r6,l92r7])
 | ((first|refine condB_split (fun h=>?_) (fun h=>?_)|refine gIf_split (fun h=>?_) (fun h=>?_)|refine qIf_split (fun h=>?_) (fun h=>?_))<;>(try simp only [h])<;>(try simp only [bitvec_to_nat] at h)<;>(try simp only [h])<;>(first|(exfalso;omega)|(focus (exfalso;simp_all;done))|(simp (disch:=omega) only [push_cast,seval])|skip))
 | ((first|refine callD_of false ?_|refine qcallD_of false ?_);simp (disch:=omega) only [push_cast,seval])
 | ((first|((first|refine call0D (BCall.ofP (slContains_ok _ _ _ ?_ ?_)) ?_|refine qcall0D (BCall.ofP (slContains_ok _ _ _ ?_ ?_)) ⟨_,_,rfl,rfl⟩ ?_);(iterate 2 (exact sd));rintro _ _ ⟨rfl,rfl⟩))<;>(try simp (disch:=omega) only [push_cast,seval]))
 | (refine awp_ret ⟨.inr rfl,_,rfl,?_⟩;(try simp (disch:=omega) only [push_cast,seval]))))
  refine awp_loop (fun k:Nat=>mkS [(1,RI ys),(7,RI xs),(8,.int .i64 xs.length),(9,.int .i64 k)] []) (fun k=>k ≤ xs.length ∧ ∀ j:Nat,j < k → xs.getD j 0 ∉ ys.drop (j + 1)) (fun k=>xs.length - k) 0 ⟨Nat.zero_le _,fun j h=>absurd h (Nat.not_lt_zero _)⟩ ?_ ?_
  · (refine Sub.of_lists ?_ ?_ ?_ ?_ ?_<;>simp [Vw.mkS,Vw.lk,Vw.hk,AV.inn,innL,innL_ints,innL_append,innL_rep,-List.map_set,-List.getD_eq_getElem?_getD])
  · rintro k ⟨hk,hj⟩
    by_cases hlt:k < xs.length
    · have e1:((k:Int) + 1).toNat=k + 1:=by omega
      have e2:(ys.drop (k + 1)).length=ys.length - (k + 1):=by simp
      have hkl:k + 1 ≤ ys.length:=by omega
      by_cases hm:xs.getD k 0 ∈ ys.drop (k + 1)
      · have hm':decide (xs.getD k 0 ∈ ys.drop (k + 1))=true:=decide_eq_true hm
        have:mtL xs ys=true:=by
          unfold mtL
          rw [List.any_eq_true]
          exact ⟨k,List.mem_range.2 hlt,hm'⟩
        (repeat' (first
 | (first|refine awp_seq ?_|refine awp_block ?_)
 | ((first|refine awp_reg ?_|refine awp_condB ?_|refine awp_skip ?_|refine awp_exit ?_);simp (disch:=omega) only [push_cast,seval,l92r0,l92r1,l92r2,l92r3,l92r4,l92r5,l92r6,l92r7,e1,e2,hm',IL_tail])
 | ((first|refine condB_split (fun h=>?_) (fun h=>?_)|refine gIf_split (fun h=>?_) (fun h=>?_)|refine qIf_split (fun h=>?_) (fun h=>?_))<;>(try simp only [h])<;>(try simp only [bitvec_to_nat] at h)<;>(try simp only [h])<;>(first|(exfalso;omega)|(focus (exfalso;simp_all;done))|(simp (disch:=omega) only [push_cast,seval,e1,e2,hm',IL_tail])|skip))
 | ((first|refine callD_of false ?_|refine qcallD_of false ?_);simp (disch:=omega) only [push_cast,seval,e1,e2,hm',IL_tail])
 | ((first|((first|refine call0D (BCall.ofP (slContains_ok _ _ _ ?_ ?_)) ?_|refine qcall0D (BCall.ofP (slContains_ok _ _ _ ?_ ?_)) ⟨_,_,rfl,rfl⟩ ?_);(iterate 2 (exact sd));rintro _ _ ⟨rfl,rfl⟩))<;>(try simp (disch:=omega) only [push_cast,seval,e1,e2,hm',IL_tail]))
 | (refine awp_ret ⟨.inr rfl,_,rfl,?_⟩;(try simp (disch:=omega) only [push_cast,seval,e1,e2,hm',IL_tail]))))
        all_goals (try simp [this])
      · have hm':decide (xs.getD k 0 ∈ ys.drop (k + 1))=false:=decide_eq_false hm
        (repeat' (first
 | (first|refine awp_seq ?_|refine awp_block ?_)
 | ((first|refine awp_reg ?_|refine awp_condB ?_|refine awp_skip ?_|refine awp_exit ?_);simp (disch:=omega) only [push_cast,seval,l92r0,l92r1,l92r2,l92r3,l92r4,l92r5,l92r6,l92r7,e1,e2,hm',IL_tail])
 | ((first|refine condB_split (fun h=>?_) (fun h=>?_)|refine gIf_split (fun h=>?_) (fun h=>?_)|refine qIf_split (fun h=>?_) (fun h=>?_))<;>(try simp only [h])<;>(try simp only [bitvec_to_nat] at h)<;>(try simp only [h])<;>(first|(exfalso;omega)|(focus (exfalso;simp_all;done))|(simp (disch:=omega) only [push_cast,seval,e1,e2,hm',IL_tail])|skip))
 | ((first|refine callD_of false ?_|refine qcallD_of false ?_);simp (disch:=omega) only [push_cast,seval,e1,e2,hm',IL_tail])
 | ((first|((first|refine call0D (BCall.ofP (slContains_ok _ _ _ ?_ ?_)) ?_|refine qcall0D (BCall.ofP (slContains_ok _ _ _ ?_ ?_)) ⟨_,_,rfl,rfl⟩ ?_);(iterate 2 (exact sd));rintro _ _ ⟨rfl,rfl⟩))<;>(try simp (disch:=omega) only [push_cast,seval,e1,e2,hm',IL_tail]))
 | (refine awp_ret ⟨.inr rfl,_,rfl,?_⟩;(try simp (disch:=omega) only [push_cast,seval,e1,e2,hm',IL_tail]))))
        refine ⟨k + 1,⟨by omega,fun j h=>?_⟩,by omega,?_⟩
        · by_cases hjk:j=k
          · subst hjk;exact hm
          · exact hj j (by omega)
        · (refine Sub.of_lists ?_ ?_ ?_ ?_ ?_<;>simp [Vw.mkS,Vw.lk,Vw.hk,AV.inn,innL,innL_ints,innL_append,innL_rep,-List.map_set,-List.getD_eq_getElem?_getD])
    · have:mtL xs ys=false:=by
        rw [Bool.eq_false_iff]
        intro h
        unfold mtL at h
        rw [List.any_eq_true] at h
        obtain ⟨j,h1,h2⟩:=h
        rw [List.mem_range] at h1
        rw [decide_eq_true_eq] at h2
        exact hj j (by omega) h2
      (repeat' (first
 | (first|refine awp_seq ?_|refine awp_block ?_)
 | ((first|refine awp_reg ?_|refine awp_condB ?_|refine awp_skip ?_|refine awp_exit ?_);simp (disch:=omega) only [push_cast,seval,l92r0,l92r1,l92r2,l92r3,l92r4,l92r5,l92r6,l92r7])
 | ((first|refine condB_split (fun h=>?_) (fun h=>?_)|refine gIf_split (fun h=>?_) (fun h=>?_)|refine qIf_split (fun h=>?_) (fun h=>?_))<;>(try simp only [h])<;>(try simp only [bitvec_to_nat] at h)<;>(try simp only [h])<;>(first|(exfalso;omega)|(focus (exfalso;simp_all;done))|(simp (disch:=omega) only [push_cast,seval])|skip))
 | ((first|refine callD_of false ?_|refine qcallD_of false ?_);simp (disch:=omega) only [push_cast,seval])
 | ((first|((first|refine call0D (BCall.ofP (slContains_ok _ _ _ ?_ ?_)) ?_|refine qcall0D (BCall.ofP (slContains_ok _ _ _ ?_ ?_)) ⟨_,_,rfl,rfl⟩ ?_);(iterate 2 (exact sd));rintro _ _ ⟨rfl,rfl⟩))<;>(try simp (disch:=omega) only [push_cast,seval]))
 | (refine awp_ret ⟨.inr rfl,_,rfl,?_⟩;(try simp (disch:=omega) only [push_cast,seval]))))
      simp [this]

end Go.Proofs.YtfphjgmkpgoomaaGreat
