/- Texts of this verifier. -/
import Derived.Test.YtfccepgibbdfaaaDoorCB5
import Derived.Test.YtfccepgibbdfaaaDoorCM1
import Derived.Test.YtfccepgibbdfaaaDoorCW3
set_option maxHeartbeats 4000000
set_option linter.unusedSimpArgs false
set_option linter.unusedSectionVars false
set_option linter.unusedVariables false
set_option maxRecDepth 4000
namespace Go.Proofs.YtfccepgibbdfaaaDoor
open VwM Vw Go
variable [PowA]

def ndA (k:Int):Int:=([1,3,4,1,2,2,1,1]:List Int).getD k.toNat 0
def vA (k:Int) (y:List Int):Bool:=(decide (0 ≤ k) && decide (k ≤ 7)) && decide ((y.length:Int)=ndA k) && allI y (-100) 100
theorem vA_out {k:Int} {y:List Int} (h:¬ (0 ≤ k ∧ k ≤ 7)):vA k y=false:=by
  have:(decide (0 ≤ k) && decide (k ≤ 7))=false:=by
    rw [Bool.and_eq_false_iff,decide_eq_false_iff_not,decide_eq_false_iff_not];omega
  simp [vA,this]
theorem Ecz {k:Int} {y:List Int} (h:¬ (y.length:Int)=ndA k):vA k y=false:=by simp [vA,h]
theorem H6z {k:Int} {y:List Int} (h:0 ≤ k ∧ k ≤ 7) (h2:(y.length:Int)=ndA k):vA k y=allI y (-100) 100:=by simp [vA,h.1,h.2,h2]
theorem k8 {k:Int} (h:0 ≤ k ∧ k ≤ 7):k=0 ∨ k=1 ∨ k=2 ∨ k=3 ∨ k=4 ∨ k=5 ∨ k=6 ∨ k=7:=by omega
theorem Bbz (σ:List (Nat × AV)) (H:List (Nat × List AV)):(mkS σ H).ev (.global 0)=.prow false [.str (ByteArray.mk (Array.mk [115,105,122,101])),.int .i64 1,.str (ByteArray.mk (Array.mk [118,105,101,119])),.int .i64 3,.str (ByteArray.mk (Array.mk [112,97,114,116])),.int .i64 4,.str (ByteArray.mk (Array.mk [102,108,105,112])),.int .i64 1,.str (ByteArray.mk (Array.mk [102,105,108,108])),.int .i64 2,.str (ByteArray.mk (Array.mk [99,111,112,121])),.int .i64 2,.str (ByteArray.mk (Array.mk [108,111,97,100])),.int .i64 1,.str (ByteArray.mk (Array.mk [102,114,101,101])),.int .i64 1] 0:=rfl
theorem ndA_in {k:Int} (h:0 ≤ k ∧ k ≤ 7):1 ≤ ndA k ∧ ndA k ≤ 4:=by
  rcases k8 h with rfl|rfl|rfl|rfl|rfl|rfl|rfl|rfl<;>decide


theorem Fzz (k:Int) (h:0 ≤ k ∧ k ≤ 7):PCall Tryd.prog 26 [.int .i64 k] (fun r=>r=.int .i64 (ndA k)):=by
  refine A1z l26_eq rfl ?_
  rcases k8 h with rfl|rfl|rfl|rfl|rfl|rfl|rfl|rfl
  · have e:ndA 0=1:=rfl
    (repeat' (first
 | (first|refine Ahz ?_|refine Abz ?_)
 | ((first|refine Aiz ?_);simp (disch:=omega) only [push_cast,seval,l26r0,l26r1,e])
 | (refine Adz ⟨.inr rfl,_,rfl,?_⟩;(try simp (disch:=omega) only [push_cast,seval,e]))))
  · have e:ndA 1=3:=rfl
    (repeat' (first
 | (first|refine Ahz ?_|refine Abz ?_)
 | ((first|refine Aiz ?_);simp (disch:=omega) only [push_cast,seval,l26r0,l26r1,e])
 | (refine Adz ⟨.inr rfl,_,rfl,?_⟩;(try simp (disch:=omega) only [push_cast,seval,e]))))
  · have e:ndA 2=4:=rfl
    (repeat' (first
 | (first|refine Ahz ?_|refine Abz ?_)
 | ((first|refine Aiz ?_);simp (disch:=omega) only [push_cast,seval,l26r0,l26r1,e])
 | (refine Adz ⟨.inr rfl,_,rfl,?_⟩;(try simp (disch:=omega) only [push_cast,seval,e]))))
  · have e:ndA 3=1:=rfl
    (repeat' (first
 | (first|refine Ahz ?_|refine Abz ?_)
 | ((first|refine Aiz ?_);simp (disch:=omega) only [push_cast,seval,l26r0,l26r1,e])
 | (refine Adz ⟨.inr rfl,_,rfl,?_⟩;(try simp (disch:=omega) only [push_cast,seval,e]))))
  · have e:ndA 4=2:=rfl
    (repeat' (first
 | (first|refine Ahz ?_|refine Abz ?_)
 | ((first|refine Aiz ?_);simp (disch:=omega) only [push_cast,seval,l26r0,l26r1,e])
 | (refine Adz ⟨.inr rfl,_,rfl,?_⟩;(try simp (disch:=omega) only [push_cast,seval,e]))))
  · have e:ndA 5=2:=rfl
    (repeat' (first
 | (first|refine Ahz ?_|refine Abz ?_)
 | ((first|refine Aiz ?_);simp (disch:=omega) only [push_cast,seval,l26r0,l26r1,e])
 | (refine Adz ⟨.inr rfl,_,rfl,?_⟩;(try simp (disch:=omega) only [push_cast,seval,e]))))
  · have e:ndA 6=1:=rfl
    (repeat' (first
 | (first|refine Ahz ?_|refine Abz ?_)
 | ((first|refine Aiz ?_);simp (disch:=omega) only [push_cast,seval,l26r0,l26r1,e])
 | (refine Adz ⟨.inr rfl,_,rfl,?_⟩;(try simp (disch:=omega) only [push_cast,seval,e]))))
  · have e:ndA 7=1:=rfl
    (repeat' (first
 | (first|refine Ahz ?_|refine Abz ?_)
 | ((first|refine Aiz ?_);simp (disch:=omega) only [push_cast,seval,l26r0,l26r1,e])
 | (refine Adz ⟨.inr rfl,_,rfl,?_⟩;(try simp (disch:=omega) only [push_cast,seval,e]))))


theorem svA_ok (k:Int) (y:List Int) (m:Nat) (hm:y.length=m) (hb:m ≤ 1099511627776):PCall Tryd.prog 14 [.agg [.int .i64 k,.rows false (IL y) m]] (fun r=>r=.bool (vA k y)):=by
  subst hm
  refine A1z l14_eq rfl ?_
  by_cases h:0 ≤ k ∧ k ≤ 7
  · have hn:=ndA_in h
    obtain ⟨h1,h2⟩:=h
    by_cases hz:(y.length:Int)=ndA k
    · rw [H6z ⟨h1,h2⟩ hz]
      (repeat' (first
 | (first|refine Ahz ?_|refine Abz ?_)
 | ((first|refine Aiz ?_|refine Avz (mid:=l14r1a) (post:=l14r1b) Baz (by decide) ?_);simp (disch:=omega) only [push_cast,seval,l14r0,l14r1a,l14r1b,l14r1,h1,h2,hz,decide_true,Bool.and_self])
 | ((first|refine Alz false ?_|refine Atz false ?_);simp (disch:=omega) only [push_cast,seval,h1,h2,hz,decide_true,Bool.and_self])
 | ((first|((first|refine Akz (Ajz (Apz _ _ _)) ?_|refine Agz (Ajz (Apz _ _ _)) ⟨_,_,rfl,rfl⟩ ?_);rintro _ _ ⟨rfl,rfl⟩)|((first|refine Akz (Ajz (Fzz _ ?_)) ?_|refine Agz (Ajz (Fzz _ ?_)) ⟨_,_,rfl,rfl⟩ ?_);(exact sd);rintro _ _ ⟨rfl,rfl⟩)|((first|refine Akz (Ajz (Bfz _ _ _ _ ?_ ?_)) ?_|refine Agz (Ajz (Bfz _ _ _ _ ?_ ?_)) ⟨_,_,rfl,rfl⟩ ?_);(iterate 2 (exact sd));rintro _ _ ⟨rfl,rfl⟩))<;>(try simp (disch:=omega) only [push_cast,seval,h1,h2,hz,decide_true,Bool.and_self]))
 | (refine Adz ⟨.inr rfl,_,rfl,?_⟩;(try simp (disch:=omega) only [push_cast,seval,h1,h2,hz,decide_true,Bool.and_self]))))
    · rw [Ecz hz]
      (repeat' (first
 | (first|refine Ahz ?_|refine Abz ?_)
 | ((first|refine Aiz ?_|refine Avz (mid:=l14r1a) (post:=l14r1b) Baz (by decide) ?_);simp (disch:=omega) only [push_cast,seval,l14r0,l14r1a,l14r1b,l14r1,h1,h2,hz,decide_true,decide_false,Bool.and_self])
 | ((first|refine Atz false ?_);simp (disch:=omega) only [push_cast,seval,h1,h2,hz,decide_true,decide_false,Bool.and_self])
 | ((first|((first|refine Akz (Ajz (Apz _ _ _)) ?_|refine Agz (Ajz (Apz _ _ _)) ⟨_,_,rfl,rfl⟩ ?_);rintro _ _ ⟨rfl,rfl⟩)|((first|refine Akz (Ajz (Fzz _ ?_)) ?_|refine Agz (Ajz (Fzz _ ?_)) ⟨_,_,rfl,rfl⟩ ?_);(exact sd);rintro _ _ ⟨rfl,rfl⟩))<;>(try simp (disch:=omega) only [push_cast,seval,h1,h2,hz,decide_true,decide_false,Bool.and_self]))
 | (refine Adz ⟨.inr rfl,_,rfl,?_⟩;(try simp (disch:=omega) only [push_cast,seval,h1,h2,hz,decide_true,decide_false,Bool.and_self]))))
  · have hw:(decide (0 ≤ k) && decide (k ≤ 7))=false:=by
      rw [Bool.and_eq_false_iff,decide_eq_false_iff_not,decide_eq_false_iff_not];omega
    rw [vA_out h]
    (repeat' (first
 | (first|refine Ahz ?_|refine Abz ?_)
 | ((first|refine Aiz ?_|refine Avz (mid:=l14r1a) (post:=l14r1b) Baz (by decide) ?_);simp (disch:=omega) only [push_cast,seval,l14r0,l14r1a,l14r1b,l14r1,hw])
 | ((first|refine Atz false ?_);simp (disch:=omega) only [push_cast,seval,hw])
 | ((first|((first|refine Akz (Ajz (Apz _ _ _)) ?_|refine Agz (Ajz (Apz _ _ _)) ⟨_,_,rfl,rfl⟩ ?_);rintro _ _ ⟨rfl,rfl⟩))<;>(try simp (disch:=omega) only [push_cast,seval,hw]))
 | (refine Adz ⟨.inr rfl,_,rfl,?_⟩;(try simp (disch:=omega) only [push_cast,seval,hw]))))


theorem sVA_ok (k:Int) (y:List Int) (m:Nat) (hm:y.length=m) (hb:m ≤ 1099511627776):PCall Tryd.prog 12 [.agg [.int .i64 k,.rows false (IL y) m]] (fun r=>r=.bool (vA k y)):=by
  subst hm
  refine A1z l12_eq rfl ?_
  (repeat' (first
 | (first|refine Ahz ?_|refine Abz ?_)
 | ((first|refine Aiz ?_);simp (disch:=omega) only [push_cast,seval,l12r0,l12r1])
 | ((first|refine Alz false ?_);simp (disch:=omega) only [push_cast,seval])
 | ((first|((first|refine Akz (Ajz (svA_ok _ _ _ ?_ ?_)) ?_|refine Agz (Ajz (svA_ok _ _ _ ?_ ?_)) ⟨_,_,rfl,rfl⟩ ?_);(iterate 2 (exact sd));rintro _ _ ⟨rfl,rfl⟩))<;>(try simp (disch:=omega) only [push_cast,seval]))
 | (refine Adz ⟨.inr rfl,_,rfl,?_⟩;(try simp (disch:=omega) only [push_cast,seval]))))


theorem Awz (x l:Int) (h0:0 ≤ l) (h1:l ≤ 10000):PCall Tryd.prog 24 [.int .i64 x,.int .i64 l] (fun r=>r=.bool (decide (-l ≤ x) && decide (x ≤ l))):=by
  refine A1z l24_eq rfl ?_
  (repeat' (first
 | (first|refine Ahz ?_|refine Abz ?_)
 | ((first|refine Aiz ?_);simp (disch:=omega) only [push_cast,seval,l24r0,l24r1])
 | ((first|refine Bpz (fun h=>?_) (fun h=>?_))<;>(try simp only [h])<;>(try simp only [bitvec_to_nat] at h)<;>(try simp only [h])<;>(first|(exfalso;omega)|(exfalso;simp_all;done)|(simp (disch:=omega) only [push_cast,seval])|skip))
 | (refine Adz ⟨.inr rfl,_,rfl,?_⟩;(try simp (disch:=omega) only [push_cast,seval]))))
  all_goals (first|rfl|(simp_all;done)|(simp_all;omega)|(simp;omega)|(simp;grind)|(simp_all;grind)|skip)


set_option maxHeartbeats 8000000 in
theorem ivA_ok (k:Int) (y:List Int) (m:Nat) (hm:y.length=m) (hb:m ≤ 1099511627776):PCall Tryd.prog 11 [.agg [.int .i64 k,.rows false (IL y) m]] (fun r=>r=.bool (vA k y)):=by
  subst hm
  refine A1z l11_eq rfl ?_
  by_cases h:0 ≤ k ∧ k ≤ 7
  · rcases k8 h with rfl|rfl|rfl|rfl|rfl|rfl|rfl|rfl
    · have e:ndA 0=1:=rfl
      by_cases hz:(y.length:Int)=1
      · rw [H6z h (hz.trans e.symm)]
        (repeat' (first
 | (first|refine Ahz ?_|refine Abz ?_)
 | ((first|refine Aiz ?_|refine Avz (mid:=l11r1a) (post:=l11r1b) Baz (by decide) ?_|refine Afz ?_|refine Aoz ?_);simp (disch:=omega) only [push_cast,seval,l11r0,l11r1a,l11r1b,l11r1,l11r2,l11r3,l11r4,l11r5,l11r6,l11r7,l11r8,l11r9,hz,Bbz])
 | ((first|refine Atz false ?_);simp (disch:=omega) only [push_cast,seval,hz,Bbz])
 | ((first|((first|refine Akz (Ajz (A6z _ _)) ?_|refine Agz (Ajz (A6z _ _)) ⟨_,_,rfl,rfl⟩ ?_);rintro _ _ ⟨rfl,rfl⟩))<;>(try simp (disch:=omega) only [push_cast,seval,hz,Bbz]))
 | (refine Adz ⟨.inr rfl,_,rfl,?_⟩;(try simp (disch:=omega) only [push_cast,seval,hz,Bbz]))))
        refine Bez (fun k:Nat=>mkS [(21,RI y),(22,.int .i64 y.length),(23,.int .i64 k)] []) (fun k=>k ≤ y.length ∧ ∀ j:Nat,j < k → -100 ≤ y.getD j 0 ∧ y.getD j 0 ≤ 100) (fun k=>y.length - k) 0 ⟨Nat.zero_le _,fun j h=>absurd h (Nat.not_lt_zero _)⟩ ?_ ?_
        · (refine Sub.of_lists ?_ ?_ ?_ ?_ ?_<;>simp [Vw.mkS,Vw.lk,Vw.hk,AV.inn,innL,Arz,Anz,Asz,-List.map_set,-List.getD_eq_getElem?_getD,hz])
        · rintro k ⟨hk,hj⟩
          by_cases hlt:k < y.length
          · by_cases hin:-100 ≤ y.getD k 0 ∧ y.getD k 0 ≤ 100
            · have hw:(decide (-100 ≤ y.getD k 0) && decide (y.getD k 0 ≤ 100))=true:=by
                rw [Bool.and_eq_true,decide_eq_true_eq,decide_eq_true_eq];exact hin
              (repeat' (first
 | (first|refine Ahz ?_|refine Abz ?_)
 | ((first|refine Aiz ?_|refine Afz ?_|refine Aoz ?_);simp (disch:=omega) only [push_cast,seval,l11r0,l11r1a,l11r1b,l11r1,l11r2,l11r3,l11r4,l11r5,l11r6,l11r7,l11r8,l11r9,hw])
 | ((first|refine Amz (fun h=>?_) (fun h=>?_))<;>(try simp only [h])<;>(try simp only [bitvec_to_nat] at h)<;>(try simp only [h])<;>(first|(exfalso;omega)|(exfalso;simp_all;done)|(simp (disch:=omega) only [push_cast,seval,hw])|skip))
 | ((first|refine Alz false ?_);simp (disch:=omega) only [push_cast,seval,hw])
 | ((first|((first|refine Akz (Ajz (Awz _ _ ?_ ?_)) ?_|refine Agz (Ajz (Awz _ _ ?_ ?_)) ⟨_,_,rfl,rfl⟩ ?_);(iterate 2 (exact sd));rintro _ _ ⟨rfl,rfl⟩))<;>(try simp (disch:=omega) only [push_cast,seval,hw]))
 | (refine Adz ⟨.inr rfl,_,rfl,?_⟩; (try simp (disch := omega) only [push_cast,seval,hw]))))
              refine ⟨k + 1,⟨by omega,fun j h=>?_⟩,by omega,?_⟩
              · by_cases hjk:j=k
                · subst hjk;exact hin
                · exact hj j (by omega)
              · (refine Sub.of_lists ?_ ?_ ?_ ?_ ?_<;>simp [Vw.mkS,Vw.lk,Vw.hk,AV.inn,innL,Arz,Anz,Asz,-List.map_set,-List.getD_eq_getElem?_getD])
            · have hw:(decide (-100 ≤ y.getD k 0) && decide (y.getD k 0 ≤ 100))=false:=by
                rw [Bool.and_eq_false_iff,decide_eq_false_iff_not,decide_eq_false_iff_not];omega
              rw [B2z (j:=k) hlt (by omega)]
              (repeat' (first
 | (first|refine Ahz ?_|refine Abz ?_)
 | ((first|refine Aiz ?_|refine Afz ?_|refine Aoz ?_);simp (disch:=omega) only [push_cast,seval,l11r0,l11r1a,l11r1b,l11r1,l11r2,l11r3,l11r4,l11r5,l11r6,l11r7,l11r8,l11r9,hw])
 | ((first|refine Amz (fun h=>?_) (fun h=>?_))<;>(try simp only [h])<;>(try simp only [bitvec_to_nat] at h)<;>(try simp only [h])<;>(first|(exfalso;omega)|(exfalso;simp_all;done)|(simp (disch:=omega) only [push_cast,seval,hw])|skip))
 | ((first|refine Alz false ?_);simp (disch:=omega) only [push_cast,seval,hw])
 | ((first|((first|refine Akz (Ajz (Awz _ _ ?_ ?_)) ?_|refine Agz (Ajz (Awz _ _ ?_ ?_)) ⟨_,_,rfl,rfl⟩ ?_);(iterate 2 (exact sd));rintro _ _ ⟨rfl,rfl⟩))<;>(try simp (disch:=omega) only [push_cast,seval,hw]))
 | (refine Adz ⟨.inr rfl,_,rfl,?_⟩; (try simp (disch := omega) only [push_cast,seval,hw]))))
          · rw [B9z fun j h=>hj j (by omega)]
            (repeat' (first
 | (first|refine Ahz ?_|refine Abz ?_)
 | ((first|refine Aiz ?_|refine Afz ?_|refine A7z ?_);simp (disch:=omega) only [push_cast,seval,l11r0,l11r1a,l11r1b,l11r1,l11r2,l11r3,l11r4,l11r5,l11r6,l11r7,l11r8,l11r9])
 | ((first|refine Amz (fun h=>?_) (fun h=>?_))<;>(try simp only [h])<;>(try simp only [bitvec_to_nat] at h)<;>(try simp only [h])<;>(first|(exfalso;omega)|(exfalso;simp_all;done)|(simp (disch:=omega) only [push_cast,seval])|skip))
 | (refine Adz ⟨.inr rfl,_,rfl,?_⟩;(try simp (disch:=omega) only [push_cast,seval]))))
      · rw [Ecz (by rw [e];exact hz)]
        (repeat' (first
 | (first|refine Ahz ?_|refine Abz ?_)
 | ((first|refine Aiz ?_|refine Avz (mid:=l11r1a) (post:=l11r1b) Baz (by decide) ?_|refine Afz ?_);simp (disch:=omega) only [push_cast,seval,l11r0,l11r1a,l11r1b,l11r1,l11r2,l11r3,l11r4,l11r5,l11r6,l11r7,l11r8,l11r9,hz,Bbz])
 | ((first|refine Atz false ?_);simp (disch:=omega) only [push_cast,seval,hz,Bbz])
 | ((first|((first|refine Akz (Ajz (A6z _ _)) ?_|refine Agz (Ajz (A6z _ _)) ⟨_,_,rfl,rfl⟩ ?_);rintro _ _ ⟨rfl,rfl⟩))<;>(try simp (disch:=omega) only [push_cast,seval,hz,Bbz]))
 | (refine Adz ⟨.inr rfl,_,rfl,?_⟩;(try simp (disch:=omega) only [push_cast,seval,hz,Bbz]))))
    · have e:ndA 1=3:=rfl
      by_cases hz:(y.length:Int)=3
      · rw [H6z h (hz.trans e.symm)]
        (repeat' (first
 | (first|refine Ahz ?_|refine Abz ?_)
 | ((first|refine Aiz ?_|refine Avz (mid:=l11r1a) (post:=l11r1b) Baz (by decide) ?_|refine Afz ?_|refine Aoz ?_);simp (disch:=omega) only [push_cast,seval,l11r0,l11r1a,l11r1b,l11r1,l11r2,l11r3,l11r4,l11r5,l11r6,l11r7,l11r8,l11r9,hz,Bbz])
 | ((first|refine Atz false ?_);simp (disch:=omega) only [push_cast,seval,hz,Bbz])
 | ((first|((first|refine Akz (Ajz (A6z _ _)) ?_|refine Agz (Ajz (A6z _ _)) ⟨_,_,rfl,rfl⟩ ?_);rintro _ _ ⟨rfl,rfl⟩))<;>(try simp (disch:=omega) only [push_cast,seval,hz,Bbz]))
 | (refine Adz ⟨.inr rfl,_,rfl,?_⟩;(try simp (disch:=omega) only [push_cast,seval,hz,Bbz]))))
        refine Bez (fun k:Nat=>mkS [(21,RI y),(22,.int .i64 y.length),(23,.int .i64 k)] []) (fun k=>k ≤ y.length ∧ ∀ j:Nat,j < k → -100 ≤ y.getD j 0 ∧ y.getD j 0 ≤ 100) (fun k=>y.length - k) 0 ⟨Nat.zero_le _,fun j h=>absurd h (Nat.not_lt_zero _)⟩ ?_ ?_
        · (refine Sub.of_lists ?_ ?_ ?_ ?_ ?_<;>simp [Vw.mkS,Vw.lk,Vw.hk,AV.inn,innL,Arz,Anz,Asz,-List.map_set,-List.getD_eq_getElem?_getD,hz])
        · rintro k ⟨hk,hj⟩
          by_cases hlt:k < y.length
          · by_cases hin:-100 ≤ y.getD k 0 ∧ y.getD k 0 ≤ 100
            · have hw:(decide (-100 ≤ y.getD k 0) && decide (y.getD k 0 ≤ 100))=true:=by
                rw [Bool.and_eq_true,decide_eq_true_eq,decide_eq_true_eq];exact hin
              (repeat' (first
 | (first|refine Ahz ?_|refine Abz ?_)
 | ((first|refine Aiz ?_|refine Afz ?_|refine Aoz ?_);simp (disch:=omega) only [push_cast,seval,l11r0,l11r1a,l11r1b,l11r1,l11r2,l11r3,l11r4,l11r5,l11r6,l11r7,l11r8,l11r9,hw])
 | ((first|refine Amz (fun h=>?_) (fun h=>?_))<;>(try simp only [h])<;>(try simp only [bitvec_to_nat] at h)<;>(try simp only [h])<;>(first|(exfalso;omega)|(exfalso;simp_all;done)|(simp (disch:=omega) only [push_cast,seval,hw])|skip))
 | ((first|refine Alz false ?_);simp (disch:=omega) only [push_cast,seval,hw])
 | ((first|((first|refine Akz (Ajz (Awz _ _ ?_ ?_)) ?_|refine Agz (Ajz (Awz _ _ ?_ ?_)) ⟨_,_,rfl,rfl⟩ ?_);(iterate 2 (exact sd));rintro _ _ ⟨rfl,rfl⟩))<;>(try simp (disch:=omega) only [push_cast,seval,hw]))
 | (refine Adz ⟨.inr rfl,_,rfl,?_⟩; (try simp (disch := omega) only [push_cast,seval,hw]))))
              refine ⟨k + 1,⟨by omega,fun j h=>?_⟩,by omega,?_⟩
              · by_cases hjk:j=k
                · subst hjk;exact hin
                · exact hj j (by omega)
              · (refine Sub.of_lists ?_ ?_ ?_ ?_ ?_<;>simp [Vw.mkS,Vw.lk,Vw.hk,AV.inn,innL,Arz,Anz,Asz,-List.map_set,-List.getD_eq_getElem?_getD])
            · have hw:(decide (-100 ≤ y.getD k 0) && decide (y.getD k 0 ≤ 100))=false:=by
                rw [Bool.and_eq_false_iff,decide_eq_false_iff_not,decide_eq_false_iff_not];omega
              rw [B2z (j:=k) hlt (by omega)]
              (repeat' (first
 | (first|refine Ahz ?_|refine Abz ?_)
 | ((first|refine Aiz ?_|refine Afz ?_|refine Aoz ?_);simp (disch:=omega) only [push_cast,seval,l11r0,l11r1a,l11r1b,l11r1,l11r2,l11r3,l11r4,l11r5,l11r6,l11r7,l11r8,l11r9,hw])
 | ((first|refine Amz (fun h=>?_) (fun h=>?_))<;>(try simp only [h])<;>(try simp only [bitvec_to_nat] at h)<;>(try simp only [h])<;>(first|(exfalso;omega)|(exfalso;simp_all;done)|(simp (disch:=omega) only [push_cast,seval,hw])|skip))
 | ((first|refine Alz false ?_);simp (disch:=omega) only [push_cast,seval,hw])
 | ((first|((first|refine Akz (Ajz (Awz _ _ ?_ ?_)) ?_|refine Agz (Ajz (Awz _ _ ?_ ?_)) ⟨_,_,rfl,rfl⟩ ?_);(iterate 2 (exact sd));rintro _ _ ⟨rfl,rfl⟩))<;>(try simp (disch:=omega) only [push_cast,seval,hw]))
 | (refine Adz ⟨.inr rfl,_,rfl,?_⟩; (try simp (disch := omega) only [push_cast,seval,hw]))))
          · rw [B9z fun j h=>hj j (by omega)]
            (repeat' (first
 | (first|refine Ahz ?_|refine Abz ?_)
 | ((first|refine Aiz ?_|refine Afz ?_|refine A7z ?_);simp (disch:=omega) only [push_cast,seval,l11r0,l11r1a,l11r1b,l11r1,l11r2,l11r3,l11r4,l11r5,l11r6,l11r7,l11r8,l11r9])
 | ((first|refine Amz (fun h=>?_) (fun h=>?_))<;>(try simp only [h])<;>(try simp only [bitvec_to_nat] at h)<;>(try simp only [h])<;>(first|(exfalso;omega)|(exfalso;simp_all;done)|(simp (disch:=omega) only [push_cast,seval])|skip))
 | (refine Adz ⟨.inr rfl,_,rfl,?_⟩;(try simp (disch:=omega) only [push_cast,seval]))))
      · rw [Ecz (by rw [e];exact hz)]
        (repeat' (first
 | (first|refine Ahz ?_|refine Abz ?_)
 | ((first|refine Aiz ?_|refine Avz (mid:=l11r1a) (post:=l11r1b) Baz (by decide) ?_|refine Afz ?_);simp (disch:=omega) only [push_cast,seval,l11r0,l11r1a,l11r1b,l11r1,l11r2,l11r3,l11r4,l11r5,l11r6,l11r7,l11r8,l11r9,hz,Bbz])
 | ((first|refine Atz false ?_);simp (disch:=omega) only [push_cast,seval,hz,Bbz])
 | ((first|((first|refine Akz (Ajz (A6z _ _)) ?_|refine Agz (Ajz (A6z _ _)) ⟨_,_,rfl,rfl⟩ ?_);rintro _ _ ⟨rfl,rfl⟩))<;>(try simp (disch:=omega) only [push_cast,seval,hz,Bbz]))
 | (refine Adz ⟨.inr rfl,_,rfl,?_⟩;(try simp (disch:=omega) only [push_cast,seval,hz,Bbz]))))
    · have e:ndA 2=4:=rfl
      by_cases hz:(y.length:Int)=4
      · rw [H6z h (hz.trans e.symm)]
        (repeat' (first
 | (first|refine Ahz ?_|refine Abz ?_)
 | ((first|refine Aiz ?_|refine Avz (mid:=l11r1a) (post:=l11r1b) Baz (by decide) ?_|refine Afz ?_|refine Aoz ?_);simp (disch:=omega) only [push_cast,seval,l11r0,l11r1a,l11r1b,l11r1,l11r2,l11r3,l11r4,l11r5,l11r6,l11r7,l11r8,l11r9,hz,Bbz])
 | ((first|refine Atz false ?_);simp (disch:=omega) only [push_cast,seval,hz,Bbz])
 | ((first|((first|refine Akz (Ajz (A6z _ _)) ?_|refine Agz (Ajz (A6z _ _)) ⟨_,_,rfl,rfl⟩ ?_);rintro _ _ ⟨rfl,rfl⟩))<;>(try simp (disch:=omega) only [push_cast,seval,hz,Bbz]))
 | (refine Adz ⟨.inr rfl,_,rfl,?_⟩;(try simp (disch:=omega) only [push_cast,seval,hz,Bbz]))))
        refine Bez (fun k:Nat=>mkS [(21,RI y),(22,.int .i64 y.length),(23,.int .i64 k)] []) (fun k=>k ≤ y.length ∧ ∀ j:Nat,j < k → -100 ≤ y.getD j 0 ∧ y.getD j 0 ≤ 100) (fun k=>y.length - k) 0 ⟨Nat.zero_le _,fun j h=>absurd h (Nat.not_lt_zero _)⟩ ?_ ?_
        · (refine Sub.of_lists ?_ ?_ ?_ ?_ ?_<;>simp [Vw.mkS,Vw.lk,Vw.hk,AV.inn,innL,Arz,Anz,Asz,-List.map_set,-List.getD_eq_getElem?_getD,hz])
        · rintro k ⟨hk,hj⟩
          by_cases hlt:k < y.length
          · by_cases hin:-100 ≤ y.getD k 0 ∧ y.getD k 0 ≤ 100
            · have hw:(decide (-100 ≤ y.getD k 0) && decide (y.getD k 0 ≤ 100))=true:=by
                rw [Bool.and_eq_true,decide_eq_true_eq,decide_eq_true_eq];exact hin
              (repeat' (first
 | (first|refine Ahz ?_|refine Abz ?_)
 | ((first|refine Aiz ?_|refine Afz ?_|refine Aoz ?_);simp (disch:=omega) only [push_cast,seval,l11r0,l11r1a,l11r1b,l11r1,l11r2,l11r3,l11r4,l11r5,l11r6,l11r7,l11r8,l11r9,hw])
 | ((first|refine Amz (fun h=>?_) (fun h=>?_))<;>(try simp only [h])<;>(try simp only [bitvec_to_nat] at h)<;>(try simp only [h])<;>(first|(exfalso;omega)|(exfalso;simp_all;done)|(simp (disch:=omega) only [push_cast,seval,hw])|skip))
 | ((first|refine Alz false ?_);simp (disch:=omega) only [push_cast,seval,hw])
 | ((first|((first|refine Akz (Ajz (Awz _ _ ?_ ?_)) ?_|refine Agz (Ajz (Awz _ _ ?_ ?_)) ⟨_,_,rfl,rfl⟩ ?_);(iterate 2 (exact sd));rintro _ _ ⟨rfl,rfl⟩))<;>(try simp (disch:=omega) only [push_cast,seval,hw]))
 | (refine Adz ⟨.inr rfl,_,rfl,?_⟩; (try simp (disch := omega) only [push_cast,seval,hw]))))
              refine ⟨k + 1,⟨by omega,fun j h=>?_⟩,by omega,?_⟩
              · by_cases hjk:j=k
                · subst hjk;exact hin
                · exact hj j (by omega)
              · (refine Sub.of_lists ?_ ?_ ?_ ?_ ?_<;>simp [Vw.mkS,Vw.lk,Vw.hk,AV.inn,innL,Arz,Anz,Asz,-List.map_set,-List.getD_eq_getElem?_getD])
            · have hw:(decide (-100 ≤ y.getD k 0) && decide (y.getD k 0 ≤ 100))=false:=by
                rw [Bool.and_eq_false_iff,decide_eq_false_iff_not,decide_eq_false_iff_not];omega
              rw [B2z (j:=k) hlt (by omega)]
              (repeat' (first
 | (first|refine Ahz ?_|refine Abz ?_)
 | ((first|refine Aiz ?_|refine Afz ?_|refine Aoz ?_);simp (disch:=omega) only [push_cast,seval,l11r0,l11r1a,l11r1b,l11r1,l11r2,l11r3,l11r4,l11r5,l11r6,l11r7,l11r8,l11r9,hw])
 | ((first|refine Amz (fun h=>?_) (fun h=>?_))<;>(try simp only [h])<;>(try simp only [bitvec_to_nat] at h)<;>(try simp only [h])<;>(first|(exfalso;omega)|(exfalso;simp_all;done)|(simp (disch:=omega) only [push_cast,seval,hw])|skip))
 | ((first|refine Alz false ?_);simp (disch:=omega) only [push_cast,seval,hw])
 | ((first|((first|refine Akz (Ajz (Awz _ _ ?_ ?_)) ?_|refine Agz (Ajz (Awz _ _ ?_ ?_)) ⟨_,_,rfl,rfl⟩ ?_);(iterate 2 (exact sd));rintro _ _ ⟨rfl,rfl⟩))<;>(try simp (disch:=omega) only [push_cast,seval,hw]))
 | (refine Adz ⟨.inr rfl,_,rfl,?_⟩; (try simp (disch := omega) only [push_cast,seval,hw]))))
          · rw [B9z fun j h=>hj j (by omega)]
            (repeat' (first
 | (first|refine Ahz ?_|refine Abz ?_)
 | ((first|refine Aiz ?_|refine Afz ?_|refine A7z ?_);simp (disch:=omega) only [push_cast,seval,l11r0,l11r1a,l11r1b,l11r1,l11r2,l11r3,l11r4,l11r5,l11r6,l11r7,l11r8,l11r9])
 | ((first|refine Amz (fun h=>?_) (fun h=>?_))<;>(try simp only [h])<;>(try simp only [bitvec_to_nat] at h)<;>(try simp only [h])<;>(first|(exfalso;omega)|(exfalso;simp_all;done)|(simp (disch:=omega) only [push_cast,seval])|skip))
 | (refine Adz ⟨.inr rfl,_,rfl,?_⟩;(try simp (disch:=omega) only [push_cast,seval]))))
      · rw [Ecz (by rw [e];exact hz)]
        (repeat' (first
 | (first|refine Ahz ?_|refine Abz ?_)
 | ((first|refine Aiz ?_|refine Avz (mid:=l11r1a) (post:=l11r1b) Baz (by decide) ?_|refine Afz ?_);simp (disch:=omega) only [push_cast,seval,l11r0,l11r1a,l11r1b,l11r1,l11r2,l11r3,l11r4,l11r5,l11r6,l11r7,l11r8,l11r9,hz,Bbz])
 | ((first|refine Atz false ?_);simp (disch:=omega) only [push_cast,seval,hz,Bbz])
 | ((first|((first|refine Akz (Ajz (A6z _ _)) ?_|refine Agz (Ajz (A6z _ _)) ⟨_,_,rfl,rfl⟩ ?_);rintro _ _ ⟨rfl,rfl⟩))<;>(try simp (disch:=omega) only [push_cast,seval,hz,Bbz]))
 | (refine Adz ⟨.inr rfl,_,rfl,?_⟩;(try simp (disch:=omega) only [push_cast,seval,hz,Bbz]))))
    · have e:ndA 3=1:=rfl
      by_cases hz:(y.length:Int)=1
      · rw [H6z h (hz.trans e.symm)]
        (repeat' (first
 | (first|refine Ahz ?_|refine Abz ?_)
 | ((first|refine Aiz ?_|refine Avz (mid:=l11r1a) (post:=l11r1b) Baz (by decide) ?_|refine Afz ?_|refine Aoz ?_);simp (disch:=omega) only [push_cast,seval,l11r0,l11r1a,l11r1b,l11r1,l11r2,l11r3,l11r4,l11r5,l11r6,l11r7,l11r8,l11r9,hz,Bbz])
 | ((first|refine Atz false ?_);simp (disch:=omega) only [push_cast,seval,hz,Bbz])
 | ((first|((first|refine Akz (Ajz (A6z _ _)) ?_|refine Agz (Ajz (A6z _ _)) ⟨_,_,rfl,rfl⟩ ?_);rintro _ _ ⟨rfl,rfl⟩))<;>(try simp (disch:=omega) only [push_cast,seval,hz,Bbz]))
 | (refine Adz ⟨.inr rfl,_,rfl,?_⟩;(try simp (disch:=omega) only [push_cast,seval,hz,Bbz]))))
        refine Bez (fun k:Nat=>mkS [(21,RI y),(22,.int .i64 y.length),(23,.int .i64 k)] []) (fun k=>k ≤ y.length ∧ ∀ j:Nat,j < k → -100 ≤ y.getD j 0 ∧ y.getD j 0 ≤ 100) (fun k=>y.length - k) 0 ⟨Nat.zero_le _,fun j h=>absurd h (Nat.not_lt_zero _)⟩ ?_ ?_
        · (refine Sub.of_lists ?_ ?_ ?_ ?_ ?_<;>simp [Vw.mkS,Vw.lk,Vw.hk,AV.inn,innL,Arz,Anz,Asz,-List.map_set,-List.getD_eq_getElem?_getD,hz])
        · rintro k ⟨hk,hj⟩
          by_cases hlt:k < y.length
          · by_cases hin:-100 ≤ y.getD k 0 ∧ y.getD k 0 ≤ 100
            · have hw:(decide (-100 ≤ y.getD k 0) && decide (y.getD k 0 ≤ 100))=true:=by
                rw [Bool.and_eq_true,decide_eq_true_eq,decide_eq_true_eq];exact hin
              (repeat' (first
 | (first|refine Ahz ?_|refine Abz ?_)
 | ((first|refine Aiz ?_|refine Afz ?_|refine Aoz ?_);simp (disch:=omega) only [push_cast,seval,l11r0,l11r1a,l11r1b,l11r1,l11r2,l11r3,l11r4,l11r5,l11r6,l11r7,l11r8,l11r9,hw])
 | ((first|refine Amz (fun h=>?_) (fun h=>?_))<;>(try simp only [h])<;>(try simp only [bitvec_to_nat] at h)<;>(try simp only [h])<;>(first|(exfalso;omega)|(exfalso;simp_all;done)|(simp (disch:=omega) only [push_cast,seval,hw])|skip))
 | ((first|refine Alz false ?_);simp (disch:=omega) only [push_cast,seval,hw])
 | ((first|((first|refine Akz (Ajz (Awz _ _ ?_ ?_)) ?_|refine Agz (Ajz (Awz _ _ ?_ ?_)) ⟨_,_,rfl,rfl⟩ ?_);(iterate 2 (exact sd));rintro _ _ ⟨rfl,rfl⟩))<;>(try simp (disch:=omega) only [push_cast,seval,hw]))
 | (refine Adz ⟨.inr rfl,_,rfl,?_⟩; (try simp (disch := omega) only [push_cast,seval,hw]))))
              refine ⟨k + 1,⟨by omega,fun j h=>?_⟩,by omega,?_⟩
              · by_cases hjk:j=k
                · subst hjk;exact hin
                · exact hj j (by omega)
              · (refine Sub.of_lists ?_ ?_ ?_ ?_ ?_<;>simp [Vw.mkS,Vw.lk,Vw.hk,AV.inn,innL,Arz,Anz,Asz,-List.map_set,-List.getD_eq_getElem?_getD])
            · have hw:(decide (-100 ≤ y.getD k 0) && decide (y.getD k 0 ≤ 100))=false:=by
                rw [Bool.and_eq_false_iff,decide_eq_false_iff_not,decide_eq_false_iff_not];omega
              rw [B2z (j:=k) hlt (by omega)]
              (repeat' (first
 | (first|refine Ahz ?_|refine Abz ?_)
 | ((first|refine Aiz ?_|refine Afz ?_|refine Aoz ?_);simp (disch:=omega) only [push_cast,seval,l11r0,l11r1a,l11r1b,l11r1,l11r2,l11r3,l11r4,l11r5,l11r6,l11r7,l11r8,l11r9,hw])
 | ((first|refine Amz (fun h=>?_) (fun h=>?_))<;>(try simp only [h])<;>(try simp only [bitvec_to_nat] at h)<;>(try simp only [h])<;>(first|(exfalso;omega)|(exfalso;simp_all;done)|(simp (disch:=omega) only [push_cast,seval,hw])|skip))
 | ((first|refine Alz false ?_);simp (disch:=omega) only [push_cast,seval,hw])
 | ((first|((first|refine Akz (Ajz (Awz _ _ ?_ ?_)) ?_|refine Agz (Ajz (Awz _ _ ?_ ?_)) ⟨_,_,rfl,rfl⟩ ?_);(iterate 2 (exact sd));rintro _ _ ⟨rfl,rfl⟩))<;>(try simp (disch:=omega) only [push_cast,seval,hw]))
 | (refine Adz ⟨.inr rfl,_,rfl,?_⟩; (try simp (disch := omega) only [push_cast,seval,hw]))))
          · rw [B9z fun j h=>hj j (by omega)]
            (repeat' (first
 | (first|refine Ahz ?_|refine Abz ?_)
 | ((first|refine Aiz ?_|refine Afz ?_|refine A7z ?_);simp (disch:=omega) only [push_cast,seval,l11r0,l11r1a,l11r1b,l11r1,l11r2,l11r3,l11r4,l11r5,l11r6,l11r7,l11r8,l11r9])
 | ((first|refine Amz (fun h=>?_) (fun h=>?_))<;>(try simp only [h])<;>(try simp only [bitvec_to_nat] at h)<;>(try simp only [h])<;>(first|(exfalso;omega)|(exfalso;simp_all;done)|(simp (disch:=omega) only [push_cast,seval])|skip))
 | (refine Adz ⟨.inr rfl,_,rfl,?_⟩;(try simp (disch:=omega) only [push_cast,seval]))))
      · rw [Ecz (by rw [e];exact hz)]
        (repeat' (first
 | (first|refine Ahz ?_|refine Abz ?_)
 | ((first|refine Aiz ?_|refine Avz (mid:=l11r1a) (post:=l11r1b) Baz (by decide) ?_|refine Afz ?_);simp (disch:=omega) only [push_cast,seval,l11r0,l11r1a,l11r1b,l11r1,l11r2,l11r3,l11r4,l11r5,l11r6,l11r7,l11r8,l11r9,hz,Bbz])
 | ((first|refine Atz false ?_);simp (disch:=omega) only [push_cast,seval,hz,Bbz])
 | ((first|((first|refine Akz (Ajz (A6z _ _)) ?_|refine Agz (Ajz (A6z _ _)) ⟨_,_,rfl,rfl⟩ ?_);rintro _ _ ⟨rfl,rfl⟩))<;>(try simp (disch:=omega) only [push_cast,seval,hz,Bbz]))
 | (refine Adz ⟨.inr rfl,_,rfl,?_⟩;(try simp (disch:=omega) only [push_cast,seval,hz,Bbz]))))
    · have e:ndA 4=2:=rfl
      by_cases hz:(y.length:Int)=2
      · rw [H6z h (hz.trans e.symm)]
        (repeat' (first
 | (first|refine Ahz ?_|refine Abz ?_)
 | ((first|refine Aiz ?_|refine Avz (mid:=l11r1a) (post:=l11r1b) Baz (by decide) ?_|refine Afz ?_|refine Aoz ?_);simp (disch:=omega) only [push_cast,seval,l11r0,l11r1a,l11r1b,l11r1,l11r2,l11r3,l11r4,l11r5,l11r6,l11r7,l11r8,l11r9,hz,Bbz])
 | ((first|refine Atz false ?_);simp (disch:=omega) only [push_cast,seval,hz,Bbz])
 | ((first|((first|refine Akz (Ajz (A6z _ _)) ?_|refine Agz (Ajz (A6z _ _)) ⟨_,_,rfl,rfl⟩ ?_);rintro _ _ ⟨rfl,rfl⟩))<;>(try simp (disch:=omega) only [push_cast,seval,hz,Bbz]))
 | (refine Adz ⟨.inr rfl,_,rfl,?_⟩;(try simp (disch:=omega) only [push_cast,seval,hz,Bbz]))))
        refine Bez (fun k:Nat=>mkS [(21,RI y),(22,.int .i64 y.length),(23,.int .i64 k)] []) (fun k=>k ≤ y.length ∧ ∀ j:Nat,j < k → -100 ≤ y.getD j 0 ∧ y.getD j 0 ≤ 100) (fun k=>y.length - k) 0 ⟨Nat.zero_le _,fun j h=>absurd h (Nat.not_lt_zero _)⟩ ?_ ?_
        · (refine Sub.of_lists ?_ ?_ ?_ ?_ ?_<;>simp [Vw.mkS,Vw.lk,Vw.hk,AV.inn,innL,Arz,Anz,Asz,-List.map_set,-List.getD_eq_getElem?_getD,hz])
        · rintro k ⟨hk,hj⟩
          by_cases hlt:k < y.length
          · by_cases hin:-100 ≤ y.getD k 0 ∧ y.getD k 0 ≤ 100
            · have hw:(decide (-100 ≤ y.getD k 0) && decide (y.getD k 0 ≤ 100))=true:=by
                rw [Bool.and_eq_true,decide_eq_true_eq,decide_eq_true_eq];exact hin
              (repeat' (first
 | (first|refine Ahz ?_|refine Abz ?_)
 | ((first|refine Aiz ?_|refine Afz ?_|refine Aoz ?_);simp (disch:=omega) only [push_cast,seval,l11r0,l11r1a,l11r1b,l11r1,l11r2,l11r3,l11r4,l11r5,l11r6,l11r7,l11r8,l11r9,hw])
 | ((first|refine Amz (fun h=>?_) (fun h=>?_))<;>(try simp only [h])<;>(try simp only [bitvec_to_nat] at h)<;>(try simp only [h])<;>(first|(exfalso;omega)|(exfalso;simp_all;done)|(simp (disch:=omega) only [push_cast,seval,hw])|skip))
 | ((first|refine Alz false ?_);simp (disch:=omega) only [push_cast,seval,hw])
 | ((first|((first|refine Akz (Ajz (Awz _ _ ?_ ?_)) ?_|refine Agz (Ajz (Awz _ _ ?_ ?_)) ⟨_,_,rfl,rfl⟩ ?_);(iterate 2 (exact sd));rintro _ _ ⟨rfl,rfl⟩))<;>(try simp (disch:=omega) only [push_cast,seval,hw]))
 | (refine Adz ⟨.inr rfl,_,rfl,?_⟩; (try simp (disch := omega) only [push_cast,seval,hw]))))
              refine ⟨k + 1,⟨by omega,fun j h=>?_⟩,by omega,?_⟩
              · by_cases hjk:j=k
                · subst hjk;exact hin
                · exact hj j (by omega)
              · (refine Sub.of_lists ?_ ?_ ?_ ?_ ?_<;>simp [Vw.mkS,Vw.lk,Vw.hk,AV.inn,innL,Arz,Anz,Asz,-List.map_set,-List.getD_eq_getElem?_getD])
            · have hw:(decide (-100 ≤ y.getD k 0) && decide (y.getD k 0 ≤ 100))=false:=by
                rw [Bool.and_eq_false_iff,decide_eq_false_iff_not,decide_eq_false_iff_not];omega
              rw [B2z (j:=k) hlt (by omega)]
              (repeat' (first
 | (first|refine Ahz ?_|refine Abz ?_)
 | ((first|refine Aiz ?_|refine Afz ?_|refine Aoz ?_);simp (disch:=omega) only [push_cast,seval,l11r0,l11r1a,l11r1b,l11r1,l11r2,l11r3,l11r4,l11r5,l11r6,l11r7,l11r8,l11r9,hw])
 | ((first|refine Amz (fun h=>?_) (fun h=>?_))<;>(try simp only [h])<;>(try simp only [bitvec_to_nat] at h)<;>(try simp only [h])<;>(first|(exfalso;omega)|(exfalso;simp_all;done)|(simp (disch:=omega) only [push_cast,seval,hw])|skip))
 | ((first|refine Alz false ?_);simp (disch:=omega) only [push_cast,seval,hw])
 | ((first|((first|refine Akz (Ajz (Awz _ _ ?_ ?_)) ?_|refine Agz (Ajz (Awz _ _ ?_ ?_)) ⟨_,_,rfl,rfl⟩ ?_);(iterate 2 (exact sd));rintro _ _ ⟨rfl,rfl⟩))<;>(try simp (disch:=omega) only [push_cast,seval,hw]))
 | (refine Adz ⟨.inr rfl,_,rfl,?_⟩; (try simp (disch := omega) only [push_cast,seval,hw]))))
          · rw [B9z fun j h=>hj j (by omega)]
            (repeat' (first
 | (first|refine Ahz ?_|refine Abz ?_)
 | ((first|refine Aiz ?_|refine Afz ?_|refine A7z ?_);simp (disch:=omega) only [push_cast,seval,l11r0,l11r1a,l11r1b,l11r1,l11r2,l11r3,l11r4,l11r5,l11r6,l11r7,l11r8,l11r9])
 | ((first|refine Amz (fun h=>?_) (fun h=>?_))<;>(try simp only [h])<;>(try simp only [bitvec_to_nat] at h)<;>(try simp only [h])<;>(first|(exfalso;omega)|(exfalso;simp_all;done)|(simp (disch:=omega) only [push_cast,seval])|skip))
 | (refine Adz ⟨.inr rfl,_,rfl,?_⟩;(try simp (disch:=omega) only [push_cast,seval]))))
      · rw [Ecz (by rw [e];exact hz)]
        (repeat' (first
 | (first|refine Ahz ?_|refine Abz ?_)
 | ((first|refine Aiz ?_|refine Avz (mid:=l11r1a) (post:=l11r1b) Baz (by decide) ?_|refine Afz ?_);simp (disch:=omega) only [push_cast,seval,l11r0,l11r1a,l11r1b,l11r1,l11r2,l11r3,l11r4,l11r5,l11r6,l11r7,l11r8,l11r9,hz,Bbz])
 | ((first|refine Atz false ?_);simp (disch:=omega) only [push_cast,seval,hz,Bbz])
 | ((first|((first|refine Akz (Ajz (A6z _ _)) ?_|refine Agz (Ajz (A6z _ _)) ⟨_,_,rfl,rfl⟩ ?_);rintro _ _ ⟨rfl,rfl⟩))<;>(try simp (disch:=omega) only [push_cast,seval,hz,Bbz]))
 | (refine Adz ⟨.inr rfl,_,rfl,?_⟩;(try simp (disch:=omega) only [push_cast,seval,hz,Bbz]))))
    · have e:ndA 5=2:=rfl
      by_cases hz:(y.length:Int)=2
      · rw [H6z h (hz.trans e.symm)]
        (repeat' (first
 | (first|refine Ahz ?_|refine Abz ?_)
 | ((first|refine Aiz ?_|refine Avz (mid:=l11r1a) (post:=l11r1b) Baz (by decide) ?_|refine Afz ?_|refine Aoz ?_);simp (disch:=omega) only [push_cast,seval,l11r0,l11r1a,l11r1b,l11r1,l11r2,l11r3,l11r4,l11r5,l11r6,l11r7,l11r8,l11r9,hz,Bbz])
 | ((first|refine Atz false ?_);simp (disch:=omega) only [push_cast,seval,hz,Bbz])
 | ((first|((first|refine Akz (Ajz (A6z _ _)) ?_|refine Agz (Ajz (A6z _ _)) ⟨_,_,rfl,rfl⟩ ?_);rintro _ _ ⟨rfl,rfl⟩))<;>(try simp (disch:=omega) only [push_cast,seval,hz,Bbz]))
 | (refine Adz ⟨.inr rfl,_,rfl,?_⟩;(try simp (disch:=omega) only [push_cast,seval,hz,Bbz]))))
        refine Bez (fun k:Nat=>mkS [(21,RI y),(22,.int .i64 y.length),(23,.int .i64 k)] []) (fun k=>k ≤ y.length ∧ ∀ j:Nat,j < k → -100 ≤ y.getD j 0 ∧ y.getD j 0 ≤ 100) (fun k=>y.length - k) 0 ⟨Nat.zero_le _,fun j h=>absurd h (Nat.not_lt_zero _)⟩ ?_ ?_
        · (refine Sub.of_lists ?_ ?_ ?_ ?_ ?_<;>simp [Vw.mkS,Vw.lk,Vw.hk,AV.inn,innL,Arz,Anz,Asz,-List.map_set,-List.getD_eq_getElem?_getD,hz])
        · rintro k ⟨hk,hj⟩
          by_cases hlt:k < y.length
          · by_cases hin:-100 ≤ y.getD k 0 ∧ y.getD k 0 ≤ 100
            · have hw:(decide (-100 ≤ y.getD k 0) && decide (y.getD k 0 ≤ 100))=true:=by
                rw [Bool.and_eq_true,decide_eq_true_eq,decide_eq_true_eq];exact hin
              (repeat' (first
 | (first|refine Ahz ?_|refine Abz ?_)
 | ((first|refine Aiz ?_|refine Afz ?_|refine Aoz ?_);simp (disch:=omega) only [push_cast,seval,l11r0,l11r1a,l11r1b,l11r1,l11r2,l11r3,l11r4,l11r5,l11r6,l11r7,l11r8,l11r9,hw])
 | ((first|refine Amz (fun h=>?_) (fun h=>?_))<;>(try simp only [h])<;>(try simp only [bitvec_to_nat] at h)<;>(try simp only [h])<;>(first|(exfalso;omega)|(exfalso;simp_all;done)|(simp (disch:=omega) only [push_cast,seval,hw])|skip))
 | ((first|refine Alz false ?_);simp (disch:=omega) only [push_cast,seval,hw])
 | ((first|((first|refine Akz (Ajz (Awz _ _ ?_ ?_)) ?_|refine Agz (Ajz (Awz _ _ ?_ ?_)) ⟨_,_,rfl,rfl⟩ ?_);(iterate 2 (exact sd));rintro _ _ ⟨rfl,rfl⟩))<;>(try simp (disch:=omega) only [push_cast,seval,hw]))
 | (refine Adz ⟨.inr rfl,_,rfl,?_⟩; (try simp (disch := omega) only [push_cast,seval,hw]))))
              refine ⟨k + 1,⟨by omega,fun j h=>?_⟩,by omega,?_⟩
              · by_cases hjk:j=k
                · subst hjk;exact hin
                · exact hj j (by omega)
              · (refine Sub.of_lists ?_ ?_ ?_ ?_ ?_<;>simp [Vw.mkS,Vw.lk,Vw.hk,AV.inn,innL,Arz,Anz,Asz,-List.map_set,-List.getD_eq_getElem?_getD])
            · have hw:(decide (-100 ≤ y.getD k 0) && decide (y.getD k 0 ≤ 100))=false:=by
                rw [Bool.and_eq_false_iff,decide_eq_false_iff_not,decide_eq_false_iff_not];omega
              rw [B2z (j:=k) hlt (by omega)]
              (repeat' (first
 | (first|refine Ahz ?_|refine Abz ?_)
 | ((first|refine Aiz ?_|refine Afz ?_|refine Aoz ?_);simp (disch:=omega) only [push_cast,seval,l11r0,l11r1a,l11r1b,l11r1,l11r2,l11r3,l11r4,l11r5,l11r6,l11r7,l11r8,l11r9,hw])
 | ((first|refine Amz (fun h=>?_) (fun h=>?_))<;>(try simp only [h])<;>(try simp only [bitvec_to_nat] at h)<;>(try simp only [h])<;>(first|(exfalso;omega)|(exfalso;simp_all;done)|(simp (disch:=omega) only [push_cast,seval,hw])|skip))
 | ((first|refine Alz false ?_);simp (disch:=omega) only [push_cast,seval,hw])
 | ((first|((first|refine Akz (Ajz (Awz _ _ ?_ ?_)) ?_|refine Agz (Ajz (Awz _ _ ?_ ?_)) ⟨_,_,rfl,rfl⟩ ?_);(iterate 2 (exact sd));rintro _ _ ⟨rfl,rfl⟩))<;>(try simp (disch:=omega) only [push_cast,seval,hw]))
 | (refine Adz ⟨.inr rfl,_,rfl,?_⟩; (try simp (disch := omega) only [push_cast,seval,hw]))))
          · rw [B9z fun j h=>hj j (by omega)]
            (repeat' (first
 | (first|refine Ahz ?_|refine Abz ?_)
 | ((first|refine Aiz ?_|refine Afz ?_|refine A7z ?_);simp (disch:=omega) only [push_cast,seval,l11r0,l11r1a,l11r1b,l11r1,l11r2,l11r3,l11r4,l11r5,l11r6,l11r7,l11r8,l11r9])
 | ((first|refine Amz (fun h=>?_) (fun h=>?_))<;>(try simp only [h])<;>(try simp only [bitvec_to_nat] at h)<;>(try simp only [h])<;>(first|(exfalso;omega)|(exfalso;simp_all;done)|(simp (disch:=omega) only [push_cast,seval])|skip))
 | (refine Adz ⟨.inr rfl,_,rfl,?_⟩;(try simp (disch:=omega) only [push_cast,seval]))))
      · rw [Ecz (by rw [e];exact hz)]
        (repeat' (first
 | (first|refine Ahz ?_|refine Abz ?_)
 | ((first|refine Aiz ?_|refine Avz (mid:=l11r1a) (post:=l11r1b) Baz (by decide) ?_|refine Afz ?_);simp (disch:=omega) only [push_cast,seval,l11r0,l11r1a,l11r1b,l11r1,l11r2,l11r3,l11r4,l11r5,l11r6,l11r7,l11r8,l11r9,hz,Bbz])
 | ((first|refine Atz false ?_);simp (disch:=omega) only [push_cast,seval,hz,Bbz])
 | ((first|((first|refine Akz (Ajz (A6z _ _)) ?_|refine Agz (Ajz (A6z _ _)) ⟨_,_,rfl,rfl⟩ ?_);rintro _ _ ⟨rfl,rfl⟩))<;>(try simp (disch:=omega) only [push_cast,seval,hz,Bbz]))
 | (refine Adz ⟨.inr rfl,_,rfl,?_⟩;(try simp (disch:=omega) only [push_cast,seval,hz,Bbz]))))
    · have e:ndA 6=1:=rfl
      by_cases hz:(y.length:Int)=1
      · rw [H6z h (hz.trans e.symm)]
        (repeat' (first
 | (first|refine Ahz ?_|refine Abz ?_)
 | ((first|refine Aiz ?_|refine Avz (mid:=l11r1a) (post:=l11r1b) Baz (by decide) ?_|refine Afz ?_|refine Aoz ?_);simp (disch:=omega) only [push_cast,seval,l11r0,l11r1a,l11r1b,l11r1,l11r2,l11r3,l11r4,l11r5,l11r6,l11r7,l11r8,l11r9,hz,Bbz])
 | ((first|refine Atz false ?_);simp (disch:=omega) only [push_cast,seval,hz,Bbz])
 | ((first|((first|refine Akz (Ajz (A6z _ _)) ?_|refine Agz (Ajz (A6z _ _)) ⟨_,_,rfl,rfl⟩ ?_);rintro _ _ ⟨rfl,rfl⟩))<;>(try simp (disch:=omega) only [push_cast,seval,hz,Bbz]))
 | (refine Adz ⟨.inr rfl,_,rfl,?_⟩;(try simp (disch:=omega) only [push_cast,seval,hz,Bbz]))))
        refine Bez (fun k:Nat=>mkS [(21,RI y),(22,.int .i64 y.length),(23,.int .i64 k)] []) (fun k=>k ≤ y.length ∧ ∀ j:Nat,j < k → -100 ≤ y.getD j 0 ∧ y.getD j 0 ≤ 100) (fun k=>y.length - k) 0 ⟨Nat.zero_le _,fun j h=>absurd h (Nat.not_lt_zero _)⟩ ?_ ?_
        · (refine Sub.of_lists ?_ ?_ ?_ ?_ ?_<;>simp [Vw.mkS,Vw.lk,Vw.hk,AV.inn,innL,Arz,Anz,Asz,-List.map_set,-List.getD_eq_getElem?_getD,hz])
        · rintro k ⟨hk,hj⟩
          by_cases hlt:k < y.length
          · by_cases hin:-100 ≤ y.getD k 0 ∧ y.getD k 0 ≤ 100
            · have hw:(decide (-100 ≤ y.getD k 0) && decide (y.getD k 0 ≤ 100))=true:=by
                rw [Bool.and_eq_true,decide_eq_true_eq,decide_eq_true_eq];exact hin
              (repeat' (first
 | (first|refine Ahz ?_|refine Abz ?_)
 | ((first|refine Aiz ?_|refine Afz ?_|refine Aoz ?_);simp (disch:=omega) only [push_cast,seval,l11r0,l11r1a,l11r1b,l11r1,l11r2,l11r3,l11r4,l11r5,l11r6,l11r7,l11r8,l11r9,hw])
 | ((first|refine Amz (fun h=>?_) (fun h=>?_))<;>(try simp only [h])<;>(try simp only [bitvec_to_nat] at h)<;>(try simp only [h])<;>(first|(exfalso;omega)|(exfalso;simp_all;done)|(simp (disch:=omega) only [push_cast,seval,hw])|skip))
 | ((first|refine Alz false ?_);simp (disch:=omega) only [push_cast,seval,hw])
 | ((first|((first|refine Akz (Ajz (Awz _ _ ?_ ?_)) ?_|refine Agz (Ajz (Awz _ _ ?_ ?_)) ⟨_,_,rfl,rfl⟩ ?_);(iterate 2 (exact sd));rintro _ _ ⟨rfl,rfl⟩))<;>(try simp (disch:=omega) only [push_cast,seval,hw]))
 | (refine Adz ⟨.inr rfl,_,rfl,?_⟩; (try simp (disch := omega) only [push_cast,seval,hw]))))
              refine ⟨k + 1,⟨by omega,fun j h=>?_⟩,by omega,?_⟩
              · by_cases hjk:j=k
                · subst hjk;exact hin
                · exact hj j (by omega)
              · (refine Sub.of_lists ?_ ?_ ?_ ?_ ?_<;>simp [Vw.mkS,Vw.lk,Vw.hk,AV.inn,innL,Arz,Anz,Asz,-List.map_set,-List.getD_eq_getElem?_getD])
            · have hw:(decide (-100 ≤ y.getD k 0) && decide (y.getD k 0 ≤ 100))=false:=by
                rw [Bool.and_eq_false_iff,decide_eq_false_iff_not,decide_eq_false_iff_not];omega
              rw [B2z (j:=k) hlt (by omega)]
              (repeat' (first
 | (first|refine Ahz ?_|refine Abz ?_)
 | ((first|refine Aiz ?_|refine Afz ?_|refine Aoz ?_);simp (disch:=omega) only [push_cast,seval,l11r0,l11r1a,l11r1b,l11r1,l11r2,l11r3,l11r4,l11r5,l11r6,l11r7,l11r8,l11r9,hw])
 | ((first|refine Amz (fun h=>?_) (fun h=>?_))<;>(try simp only [h])<;>(try simp only [bitvec_to_nat] at h)<;>(try simp only [h])<;>(first|(exfalso;omega)|(exfalso;simp_all;done)|(simp (disch:=omega) only [push_cast,seval,hw])|skip))
 | ((first|refine Alz false ?_);simp (disch:=omega) only [push_cast,seval,hw])
 | ((first|((first|refine Akz (Ajz (Awz _ _ ?_ ?_)) ?_|refine Agz (Ajz (Awz _ _ ?_ ?_)) ⟨_,_,rfl,rfl⟩ ?_);(iterate 2 (exact sd));rintro _ _ ⟨rfl,rfl⟩))<;>(try simp (disch:=omega) only [push_cast,seval,hw]))
 | (refine Adz ⟨.inr rfl,_,rfl,?_⟩; (try simp (disch := omega) only [push_cast,seval,hw]))))
          · rw [B9z fun j h=>hj j (by omega)]
            (repeat' (first
 | (first|refine Ahz ?_|refine Abz ?_)
 | ((first|refine Aiz ?_|refine Afz ?_|refine A7z ?_);simp (disch:=omega) only [push_cast,seval,l11r0,l11r1a,l11r1b,l11r1,l11r2,l11r3,l11r4,l11r5,l11r6,l11r7,l11r8,l11r9])
 | ((first|refine Amz (fun h=>?_) (fun h=>?_))<;>(try simp only [h])<;>(try simp only [bitvec_to_nat] at h)<;>(try simp only [h])<;>(first|(exfalso;omega)|(exfalso;simp_all;done)|(simp (disch:=omega) only [push_cast,seval])|skip))
 | (refine Adz ⟨.inr rfl,_,rfl,?_⟩;(try simp (disch:=omega) only [push_cast,seval]))))
      · rw [Ecz (by rw [e];exact hz)]
        (repeat' (first
 | (first|refine Ahz ?_|refine Abz ?_)
 | ((first|refine Aiz ?_|refine Avz (mid:=l11r1a) (post:=l11r1b) Baz (by decide) ?_|refine Afz ?_);simp (disch:=omega) only [push_cast,seval,l11r0,l11r1a,l11r1b,l11r1,l11r2,l11r3,l11r4,l11r5,l11r6,l11r7,l11r8,l11r9,hz,Bbz])
 | ((first|refine Atz false ?_);simp (disch:=omega) only [push_cast,seval,hz,Bbz])
 | ((first|((first|refine Akz (Ajz (A6z _ _)) ?_|refine Agz (Ajz (A6z _ _)) ⟨_,_,rfl,rfl⟩ ?_);rintro _ _ ⟨rfl,rfl⟩))<;>(try simp (disch:=omega) only [push_cast,seval,hz,Bbz]))
 | (refine Adz ⟨.inr rfl,_,rfl,?_⟩;(try simp (disch:=omega) only [push_cast,seval,hz,Bbz]))))
    · have e:ndA 7=1:=rfl
      by_cases hz:(y.length:Int)=1
      · rw [H6z h (hz.trans e.symm)]
        (repeat' (first
 | (first|refine Ahz ?_|refine Abz ?_)
 | ((first|refine Aiz ?_|refine Avz (mid:=l11r1a) (post:=l11r1b) Baz (by decide) ?_|refine Afz ?_|refine Aoz ?_);simp (disch:=omega) only [push_cast,seval,l11r0,l11r1a,l11r1b,l11r1,l11r2,l11r3,l11r4,l11r5,l11r6,l11r7,l11r8,l11r9,hz,Bbz])
 | ((first|refine Atz false ?_);simp (disch:=omega) only [push_cast,seval,hz,Bbz])
 | ((first|((first|refine Akz (Ajz (A6z _ _)) ?_|refine Agz (Ajz (A6z _ _)) ⟨_,_,rfl,rfl⟩ ?_);rintro _ _ ⟨rfl,rfl⟩))<;>(try simp (disch:=omega) only [push_cast,seval,hz,Bbz]))
 | (refine Adz ⟨.inr rfl,_,rfl,?_⟩;(try simp (disch:=omega) only [push_cast,seval,hz,Bbz]))))
        refine Bez (fun k:Nat=>mkS [(21,RI y),(22,.int .i64 y.length),(23,.int .i64 k)] []) (fun k=>k ≤ y.length ∧ ∀ j:Nat,j < k → -100 ≤ y.getD j 0 ∧ y.getD j 0 ≤ 100) (fun k=>y.length - k) 0 ⟨Nat.zero_le _,fun j h=>absurd h (Nat.not_lt_zero _)⟩ ?_ ?_
        · (refine Sub.of_lists ?_ ?_ ?_ ?_ ?_<;>simp [Vw.mkS,Vw.lk,Vw.hk,AV.inn,innL,Arz,Anz,Asz,-List.map_set,-List.getD_eq_getElem?_getD,hz])
        · rintro k ⟨hk,hj⟩
          by_cases hlt:k < y.length
          · by_cases hin:-100 ≤ y.getD k 0 ∧ y.getD k 0 ≤ 100
            · have hw:(decide (-100 ≤ y.getD k 0) && decide (y.getD k 0 ≤ 100))=true:=by
                rw [Bool.and_eq_true,decide_eq_true_eq,decide_eq_true_eq];exact hin
              (repeat' (first
 | (first|refine Ahz ?_|refine Abz ?_)
 | ((first|refine Aiz ?_|refine Afz ?_|refine Aoz ?_);simp (disch:=omega) only [push_cast,seval,l11r0,l11r1a,l11r1b,l11r1,l11r2,l11r3,l11r4,l11r5,l11r6,l11r7,l11r8,l11r9,hw])
 | ((first|refine Amz (fun h=>?_) (fun h=>?_))<;>(try simp only [h])<;>(try simp only [bitvec_to_nat] at h)<;>(try simp only [h])<;>(first|(exfalso;omega)|(exfalso;simp_all;done)|(simp (disch:=omega) only [push_cast,seval,hw])|skip))
 | ((first|refine Alz false ?_);simp (disch:=omega) only [push_cast,seval,hw])
 | ((first|((first|refine Akz (Ajz (Awz _ _ ?_ ?_)) ?_|refine Agz (Ajz (Awz _ _ ?_ ?_)) ⟨_,_,rfl,rfl⟩ ?_);(iterate 2 (exact sd));rintro _ _ ⟨rfl,rfl⟩))<;>(try simp (disch:=omega) only [push_cast,seval,hw]))
 | (refine Adz ⟨.inr rfl,_,rfl,?_⟩; (try simp (disch := omega) only [push_cast,seval,hw]))))
              refine ⟨k + 1,⟨by omega,fun j h=>?_⟩,by omega,?_⟩
              · by_cases hjk:j=k
                · subst hjk;exact hin
                · exact hj j (by omega)
              · (refine Sub.of_lists ?_ ?_ ?_ ?_ ?_<;>simp [Vw.mkS,Vw.lk,Vw.hk,AV.inn,innL,Arz,Anz,Asz,-List.map_set,-List.getD_eq_getElem?_getD])
            · have hw:(decide (-100 ≤ y.getD k 0) && decide (y.getD k 0 ≤ 100))=false:=by
                rw [Bool.and_eq_false_iff,decide_eq_false_iff_not,decide_eq_false_iff_not];omega
              rw [B2z (j:=k) hlt (by omega)]
              (repeat' (first
 | (first|refine Ahz ?_|refine Abz ?_)
 | ((first|refine Aiz ?_|refine Afz ?_|refine Aoz ?_);simp (disch:=omega) only [push_cast,seval,l11r0,l11r1a,l11r1b,l11r1,l11r2,l11r3,l11r4,l11r5,l11r6,l11r7,l11r8,l11r9,hw])
 | ((first|refine Amz (fun h=>?_) (fun h=>?_))<;>(try simp only [h])<;>(try simp only [bitvec_to_nat] at h)<;>(try simp only [h])<;>(first|(exfalso;omega)|(exfalso;simp_all;done)|(simp (disch:=omega) only [push_cast,seval,hw])|skip))
 | ((first|refine Alz false ?_);simp (disch:=omega) only [push_cast,seval,hw])
 | ((first|((first|refine Akz (Ajz (Awz _ _ ?_ ?_)) ?_|refine Agz (Ajz (Awz _ _ ?_ ?_)) ⟨_,_,rfl,rfl⟩ ?_);(iterate 2 (exact sd));rintro _ _ ⟨rfl,rfl⟩))<;>(try simp (disch:=omega) only [push_cast,seval,hw]))
 | (refine Adz ⟨.inr rfl,_,rfl,?_⟩; (try simp (disch := omega) only [push_cast,seval,hw]))))
          · rw [B9z fun j h=>hj j (by omega)]
            (repeat' (first
 | (first|refine Ahz ?_|refine Abz ?_)
 | ((first|refine Aiz ?_|refine Afz ?_|refine A7z ?_);simp (disch:=omega) only [push_cast,seval,l11r0,l11r1a,l11r1b,l11r1,l11r2,l11r3,l11r4,l11r5,l11r6,l11r7,l11r8,l11r9])
 | ((first|refine Amz (fun h=>?_) (fun h=>?_))<;>(try simp only [h])<;>(try simp only [bitvec_to_nat] at h)<;>(try simp only [h])<;>(first|(exfalso;omega)|(exfalso;simp_all;done)|(simp (disch:=omega) only [push_cast,seval])|skip))
 | (refine Adz ⟨.inr rfl,_,rfl,?_⟩;(try simp (disch:=omega) only [push_cast,seval]))))
      · rw [Ecz (by rw [e];exact hz)]
        (repeat' (first
 | (first|refine Ahz ?_|refine Abz ?_)
 | ((first|refine Aiz ?_|refine Avz (mid:=l11r1a) (post:=l11r1b) Baz (by decide) ?_|refine Afz ?_);simp (disch:=omega) only [push_cast,seval,l11r0,l11r1a,l11r1b,l11r1,l11r2,l11r3,l11r4,l11r5,l11r6,l11r7,l11r8,l11r9,hz,Bbz])
 | ((first|refine Atz false ?_);simp (disch:=omega) only [push_cast,seval,hz,Bbz])
 | ((first|((first|refine Akz (Ajz (A6z _ _)) ?_|refine Agz (Ajz (A6z _ _)) ⟨_,_,rfl,rfl⟩ ?_);rintro _ _ ⟨rfl,rfl⟩))<;>(try simp (disch:=omega) only [push_cast,seval,hz,Bbz]))
 | (refine Adz ⟨.inr rfl,_,rfl,?_⟩;(try simp (disch:=omega) only [push_cast,seval,hz,Bbz]))))
  · have hw:(decide (0 ≤ k) && decide (k ≤ 7))=false:=by
      rw [Bool.and_eq_false_iff,decide_eq_false_iff_not,decide_eq_false_iff_not];omega
    rw [vA_out h]
    (repeat' (first
 | (first|refine Ahz ?_|refine Abz ?_)
 | ((first|refine Aiz ?_|refine Avz (mid:=l11r1a) (post:=l11r1b) Baz (by decide) ?_|refine Afz ?_);simp (disch:=omega) only [push_cast,seval,l11r0,l11r1a,l11r1b,l11r1,l11r2,l11r3,l11r4,l11r5,l11r6,l11r7,l11r8,l11r9,hw])
 | ((first|refine Atz false ?_);simp (disch:=omega) only [push_cast,seval,hw])
 | ((first|((first|refine Akz (Ajz (A6z _ _)) ?_|refine Agz (Ajz (A6z _ _)) ⟨_,_,rfl,rfl⟩ ?_);rintro _ _ ⟨rfl,rfl⟩))<;>(try simp (disch:=omega) only [push_cast,seval,hw]))
 | (refine Adz ⟨.inr rfl,_,rfl,?_⟩;(try simp (disch:=omega) only [push_cast,seval,hw]))))

end Go.Proofs.YtfccepgibbdfaaaDoor
