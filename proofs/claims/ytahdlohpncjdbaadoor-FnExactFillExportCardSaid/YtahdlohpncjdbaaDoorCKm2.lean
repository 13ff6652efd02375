import Derived.Test.YtahdlohpncjdbaaDoorCKm1
import Derived.Test.YtahdlohpncjdbaaDoorCM1
import Derived.Test.YtahdlohpncjdbaaDoorCW3
set_option linter.unusedSimpArgs false
set_option linter.unusedVariables false
set_option maxRecDepth 4000
set_option maxHeartbeats 4000000
namespace Go.Proofs.YtahdlohpncjdbaaDoor
open VwM Vw Go
set_option linter.unusedSectionVars false
variable [SentA]

theorem width_ok (b : Int) (sh st : List Int) (n m : Nat) (hn : sh.length = n) (hm : st.length = m) (hb : good4 sh ∧ m = n) : PCall Tryd.prog 95 [.agg [.int .i64 b,.rows false (IL sh) n,.rows false (IL st) m]] (fun r => r = .int .i64 (wdt sh st)) := by
  subst hn hm
  obtain ⟨hg,hl⟩ := hb
  have h4 := hg.2
  refine pcall_of l95_eq rfl ?_
  unfold wdt
  by_cases h0 : sh.length = 0
  · have h0' : (sh.length : Int) = 0 := by omega
    rw [if_pos h0]
    (repeat' (first
 | (first | refine awp_seq ?_ | refine awp_block ?_)
 | ((first | refine awp_reg ?_ | refine awp_condB ?_ | refine awp_skip ?_ | refine awp_exit ?_); simp (disch := omega) only [push_cast,seval,l95r0,l95r1,l95r2,l95r3,l95r4,h0'])
 | ((first | refine condB_split (fun h => ?_) (fun h => ?_) | refine gIf_split (fun h => ?_) (fun h => ?_) | refine qIf_split (fun h => ?_) (fun h => ?_)) <;> (try simp only [h]) <;> (try simp only [bitvec_to_nat] at h) <;> (try simp only [h]) <;> (first | (exfalso; omega) | (focus (exfalso; simp_all; done)) | (simp (disch := omega) only [push_cast,seval,h0']) | skip))
 | (refine awp_ret ⟨.inr rfl,_,rfl,?_⟩; (try simp (disch := omega) only [push_cast,seval,h0']))))
    all_goals simp
  · rw [if_neg h0]
    obtain ⟨k,hk⟩ : ∃ k,sh.length = k + 1 := ⟨sh.length - 1,by omega⟩
    have hk' : (sh.length : Int) = (k : Int) + 1 := by omega
    have e1 : (k : Int) + 1 - 1 = (k : Int) := by omega
    have hgd := good4_at hg (k := k) (by omega)
    have hks : k < sh.length := by omega
    have hkt : k < st.length := by omega
    rw [hk,Nat.add_sub_cancel]
    by_cases h1 : st.getD k 0 = 1
    · rw [if_pos h1]
      have e2 : (((sh.getD k 0).toNat : Nat) : Int) = sh.getD k 0 := by omega
      rw [e2]
      (repeat' (first
 | (first | refine awp_seq ?_ | refine awp_block ?_)
 | ((first | refine awp_reg ?_ | refine awp_condB ?_ | refine awp_skip ?_ | refine awp_exit ?_); simp (disch := omega) only [push_cast,seval,l95r0,l95r1,l95r2,l95r3,l95r4,hk',e1,h1])
 | ((first | refine condB_split (fun h => ?_) (fun h => ?_) | refine gIf_split (fun h => ?_) (fun h => ?_) | refine qIf_split (fun h => ?_) (fun h => ?_)) <;> (try simp only [h]) <;> (try simp only [bitvec_to_nat] at h) <;> (try simp only [h]) <;> (first | (exfalso; omega) | (focus (exfalso; simp_all; done)) | (simp (disch := omega) only [push_cast,seval,hk',e1,h1]) | skip))
 | (refine awp_ret ⟨.inr rfl,_,rfl,?_⟩; (try simp (disch := omega) only [push_cast,seval,hk',e1,h1]))))
    · rw [if_neg h1]
      (repeat' (first
 | (first | refine awp_seq ?_ | refine awp_block ?_)
 | ((first | refine awp_reg ?_ | refine awp_condB ?_ | refine awp_skip ?_ | refine awp_exit ?_); simp (disch := omega) only [push_cast,seval,l95r0,l95r1,l95r2,l95r3,l95r4,hk',e1,h1])
 | ((first | refine condB_split (fun h => ?_) (fun h => ?_) | refine gIf_split (fun h => ?_) (fun h => ?_) | refine qIf_split (fun h => ?_) (fun h => ?_)) <;> (try simp only [h]) <;> (try simp only [bitvec_to_nat] at h) <;> (try simp only [h]) <;> (first | (exfalso; omega) | (focus (exfalso; simp_all; done)) | (simp (disch := omega) only [push_cast,seval,hk',e1,h1]) | skip))
 | (refine awp_ret ⟨.inr rfl,_,rfl,?_⟩; (try simp (disch := omega) only [push_cast,seval,hk',e1,h1]))))
      all_goals simp


theorem rowOfO_ok (xs : List Int) (n : Nat) (a w : Int) (hn : xs.length = n) (hb : (0 ≤ a ∧ 0 ≤ w) ∧ a + w ≤ n ∧ n ≤ 1000) : BCall Tryd.prog 96 [.own 0 n 1,.int .i64 a,.int .i64 w] [IL xs] (fun r H' => r = .osl 0 n a.toNat w.toNat 1 w.toNat ∧ H' = [IL xs]) := by
  subst hn
  obtain ⟨⟨h0,h1⟩,h2,h3⟩ := hb
  obtain ⟨a,rfl⟩ : ∃ k : Nat,a = k := ⟨a.toNat,by omega⟩
  obtain ⟨w,rfl⟩ : ∃ k : Nat,w = k := ⟨w.toNat,by omega⟩
  refine bcall_of (pins := [0]) (pin := 1) l96_eq rfl rfl rfl ?_
  have e1 : ((a : Int) + (w : Int)).toNat = a + w := by omega
  have e2 : a + w - a = w := by omega
  simp only [Int.toNat_natCast]
  (repeat' (first
 | (first | refine awp_seq ?_ | refine awp_block ?_)
 | ((first | refine awp_reg ?_ | refine awp_condB ?_ | refine awp_skip ?_ | refine awp_exit ?_); simp (disch := omega) only [push_cast,seval,l96r0,l96r1,l96r2,e1,e2,Nat.zero_add,Nat.mul_one])
 | ((first | refine condB_split (fun h => ?_) (fun h => ?_) | refine gIf_split (fun h => ?_) (fun h => ?_) | refine qIf_split (fun h => ?_) (fun h => ?_)) <;> (try simp only [h]) <;> (try simp only [bitvec_to_nat] at h) <;> (try simp only [h]) <;> (first | (exfalso; omega) | (focus (exfalso; simp_all; done)) | (simp (disch := omega) only [push_cast,seval,e1,e2,Nat.zero_add,Nat.mul_one]) | skip))
 | (refine awp_ret ⟨.inr rfl,[],[],_,by decide,rfl,?_⟩; (try simp (disch := omega) only [push_cast,seval,↓allMem_nil,↓allMem_cons,↓List.map_cons,↓List.map_nil,e1,e2,Nat.zero_add,Nat.mul_one]))))
theorem rowOfR_ok (xs : List Int) (n : Nat) (a w : Int) (hn : xs.length = n) (hb : (0 ≤ a ∧ 0 ≤ w) ∧ a + w ≤ n ∧ n ≤ 1000) : BCall Tryd.prog 96 [.rows false (IL xs) n,.int .i64 a,.int .i64 w] [] (fun r H' => r = .rows false (IL ((xs.drop a.toNat).take w.toNat)) w.toNat ∧ H' = []) := by
  subst hn
  obtain ⟨⟨h0,h1⟩,h2,h3⟩ := hb
  obtain ⟨a,rfl⟩ : ∃ k : Nat,a = k := ⟨a.toNat,by omega⟩
  obtain ⟨w,rfl⟩ : ∃ k : Nat,w = k := ⟨w.toNat,by omega⟩
  refine bcall_of (pins := []) (pin := 0) l96_eq rfl rfl rfl ?_
  have e1 : ((a : Int) + (w : Int)).toNat = a + w := by omega
  have e2 : a + w - a = w := by omega
  simp only [Int.toNat_natCast]
  (repeat' (first
 | (first | refine awp_seq ?_ | refine awp_block ?_)
 | ((first | refine awp_reg ?_ | refine awp_condB ?_ | refine awp_skip ?_ | refine awp_exit ?_); simp (disch := omega) only [push_cast,seval,l96r0,l96r1,l96r2,e1,e2,IL_td,Nat.zero_add,Nat.mul_one])
 | ((first | refine condB_split (fun h => ?_) (fun h => ?_) | refine gIf_split (fun h => ?_) (fun h => ?_) | refine qIf_split (fun h => ?_) (fun h => ?_)) <;> (try simp only [h]) <;> (try simp only [bitvec_to_nat] at h) <;> (try simp only [h]) <;> (first | (exfalso; omega) | (focus (exfalso; simp_all; done)) | (simp (disch := omega) only [push_cast,seval,e1,e2,IL_td,Nat.zero_add,Nat.mul_one]) | skip))
 | (refine awp_ret ⟨.inr rfl,[],[],_,by decide,rfl,?_⟩; (try simp (disch := omega) only [push_cast,seval,↓allMem_nil,↓allMem_cons,↓List.map_cons,↓List.map_nil,e1,e2,IL_td,Nat.zero_add,Nat.mul_one]))))

end Go.Proofs.YtahdlohpncjdbaaDoor
