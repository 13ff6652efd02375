import Derived.Test.YtbplegbgofnolaaCKb
import Derived.Test.YtbplegbgofnolaaCM1

set_option linter.unusedSimpArgs false
set_option linter.unusedVariables false
set_option maxRecDepth 4000
set_option maxHeartbeats 4000000
namespace Go.Proofs.Ytbplegbgofnolaa
open VwM Vw Go

theorem progression_ok (a c k:Int) (h1:-100000 ≤ a ∧ a ≤ 100000 ∧ -100000 ≤ c ∧ c ≤ 100000 ∧ -1000 ≤ k ∧ k ≤ 1000) (h2:1 ≤ k → -1000000 ≤ (k - 1) * c ∧ (k - 1) * c ≤ 1000000):PCall Try.prog 64 [.int .i64 a,.int .i64 c,.int .i64 k] (fun r=>r=PR a c k):=by
  obtain ⟨h3,h4,h5,h6,h7,h8⟩:=h1
  refine A2z l64_eq rfl ?_
  by_cases g1:k < 1
  · (repeat' (first
 | (first|refine Anz ?_|refine Agz ?_)
 | ((first|refine Aoz ?_|refine Afz ?_|refine Ahz ?_|refine Aiz ?_);simp (disch:=omega) only [push_cast,seval,l64r0,l64r1,l64r2,l64r3,l64r4,l64r5,l64r6,l64r7,l64r8,g1])
 | ((first|refine Acz ?_ ?_|refine Aez ?_ ?_|refine Adz ?_ ?_)<;>intro h<;>(try simp only [h])<;>(try simp only [bitvec_to_nat] at h)<;>(try simp only [h])<;>(first|(exfalso;omega)|(exfalso;simp_all;done)|(simp (disch:=omega) only [push_cast,seval,g1])|skip))
 | (refine Akz ⟨.inr rfl,_,rfl,?_⟩;(try simp (disch:=omega) only [push_cast,seval,g1]))))
    all_goals (have:k ≤ 1:=by omega);simp [pS,pE,pC,g1,this]
  · have h2:=h2 (by omega)
    by_cases g2:k=1
    · subst g2
      (repeat' (first
 | (first|refine Anz ?_|refine Agz ?_)
 | ((first|refine Aoz ?_|refine Afz ?_|refine Ahz ?_|refine Aiz ?_);simp (disch:=omega) only [push_cast,seval,l64r0,l64r1,l64r2,l64r3,l64r4,l64r5,l64r6,l64r7,l64r8])
 | ((first|refine Acz ?_ ?_|refine Aez ?_ ?_|refine Adz ?_ ?_)<;>intro h<;>(try simp only [h])<;>(try simp only [bitvec_to_nat] at h)<;>(try simp only [h])<;>(first|(exfalso;omega)|(exfalso;simp_all;done)|(simp (disch:=omega) only [push_cast,seval])|skip))
 | (refine Akz ⟨.inr rfl,_,rfl,?_⟩;(try simp (disch:=omega) only [push_cast,seval]))))
      all_goals simp [pS,pE,pC]
    · have g3:¬ k ≤ 1:=by omega
      by_cases g4:c < 0
      · (repeat' (first
 | (first|refine Anz ?_|refine Agz ?_)
 | ((first|refine Aoz ?_|refine Afz ?_|refine Ahz ?_|refine Aiz ?_);simp (disch:=omega) only [push_cast,seval,l64r0,l64r1,l64r2,l64r3,l64r4,l64r5,l64r6,l64r7,l64r8,g1,g2,g4])
 | ((first|refine Acz ?_ ?_|refine Aez ?_ ?_|refine Adz ?_ ?_)<;>intro h<;>(try simp only [h])<;>(try simp only [bitvec_to_nat] at h)<;>(try simp only [h])<;>(first|(exfalso;omega)|(exfalso;simp_all;done)|(simp (disch:=omega) only [push_cast,seval,g1,g2,g4])|skip))
 | (refine Akz ⟨.inr rfl,_,rfl,?_⟩;(try simp (disch:=omega) only [push_cast,seval,g1,g2,g4]))))
        all_goals simp [pS,pE,pC,g1,g2,g3,g4]
      · (repeat' (first
 | (first|refine Anz ?_|refine Agz ?_)
 | ((first|refine Aoz ?_|refine Afz ?_|refine Ahz ?_|refine Aiz ?_);simp (disch:=omega) only [push_cast,seval,l64r0,l64r1,l64r2,l64r3,l64r4,l64r5,l64r6,l64r7,l64r8,g1,g2,g4])
 | ((first|refine Acz ?_ ?_|refine Aez ?_ ?_|refine Adz ?_ ?_)<;>intro h<;>(try simp only [h])<;>(try simp only [bitvec_to_nat] at h)<;>(try simp only [h])<;>(first|(exfalso;omega)|(exfalso;simp_all;done)|(simp (disch:=omega) only [push_cast,seval,g1,g2,g4])|skip))
 | (refine Akz ⟨.inr rfl,_,rfl,?_⟩;(try simp (disch:=omega) only [push_cast,seval,g1,g2,g4]))))
        all_goals simp [pS,pE,pC,g1,g2,g3,g4]

end Go.Proofs.Ytbplegbgofnolaa
