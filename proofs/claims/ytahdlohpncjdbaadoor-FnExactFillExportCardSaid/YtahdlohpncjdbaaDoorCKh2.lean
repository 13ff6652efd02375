import Derived.Test.YtahdlohpncjdbaaDoorCKh1
import Derived.Test.YtahdlohpncjdbaaDoorCM1
import Derived.Test.YtahdlohpncjdbaaDoorCW3
set_option linter.unusedSimpArgs false
set_option linter.unusedVariables false
set_option maxRecDepth 4000
set_option maxHeartbeats 4000000
namespace Go.Proofs.YtahdlohpncjdbaaDoor
open VwM Vw Go
set_option linter.unusedSectionVars false
variable [SentA]

theorem hang_false {d id kid n : Nat} {k : Int} {ks : List Int} {σ : List (Nat × AV)} {H : List (Nat × List AV)} {K : S → Prop} (h0 : hk H id = some [.own kid n 1]) (h1 : hk H kid = some (IL ks)) (hf : hk H 224 = none ∧ hk H 304 = none)
    (hK : K (mkS ((d,.ref 304 1 0) :: σ) ((304,[.val (.slice none 0 0)]) :: H))) : callE Tryd.prog 0 69 [.ref id 1 0,.int .i64 k,.bool false] (some d) K σ H := by
  obtain ⟨hf1,hf2⟩ := hf
  intro args ha
  refine callOwed_of_A ?_
  rw [ha]
  refine call_inline l69_eq rfl ?_
  show awpK Tryd.prog 0 _ _ (mkS [(0,.ref id 1 0),(1,.int .i64 k),(2,.bool false)] H)
  repeat' (first
    | (refine awpK_seq ?_)
    | (refine awpK_reg rfl ?_; simp (disch := omega) only [push_cast,seval,l69r0,l69r1,l69r2,l69r3,h0,h1,hf1,hf2])
    | (refine awpK_cond false rfl (fun h => by cases h) (fun _ => ?_))
    | (refine awpK_skip ?_; simp (disch := omega) only [push_cast,seval])
    | (refine awpK_ret ⟨.inr rfl,_,rfl,?_⟩))
  all_goals (show K ⟨upd (lk σ) d (.ref 304 1 0),hk ((304,[.val (.slice none 0 0)]) :: H)⟩; rw [upd_lk]; exact hK)
theorem hang_true {d id kid n : Nat} {k : Int} {ks : List Int} {σ : List (Nat × AV)} {H : List (Nat × List AV)} {K : S → Prop} (h0 : hk H id = some [.own kid n 1]) (h1 : hk H kid = some (IL ks)) (hn : ks.length = n) (hb : n ≤ 1000) (hi : id ≠ kid) (hf : hk H 224 = none ∧ hk H 304 = none)
    (hK : K (mkS ((d,.ref 304 1 0) :: σ) ((304,[.val (.slice none 0 0)]) :: (id,[.own kid (n + 1) 1]) :: (kid,IL ks ++ [.int .i64 k]) :: (224,[.int .i64 k]) :: H))) : callE Tryd.prog 0 69 [.ref id 1 0,.int .i64 k,.bool true] (some d) K σ H := by
  obtain ⟨hf1,hf2⟩ := hf
  have e1 : (id = 224) = False := propext ⟨fun e => by rw [e,hf1] at h0; exact (by cases h0),False.elim⟩
  have e2 : (kid = 224) = False := propext ⟨fun e => by rw [e,hf1] at h1; exact (by cases h1),False.elim⟩
  have e3 : (id = kid) = False := propext ⟨fun e => hi e,False.elim⟩
  have e4 : (304 = id) = False := propext ⟨fun e => by rw [← e,hf2] at h0; exact (by cases h0),False.elim⟩
  have e5 : (304 = kid) = False := propext ⟨fun e => by rw [← e,hf2] at h1; exact (by cases h1),False.elim⟩
  have hil : (IL ks).length = n := by unfold IL; simpa using hn
  intro args ha
  refine callOwed_of_A ?_
  rw [ha]
  refine call_inline l69_eq rfl ?_
  show awpK Tryd.prog 0 _ _ (mkS [(0,.ref id 1 0),(1,.int .i64 k),(2,.bool true)] H)
  repeat' (first
    | (refine awpK_seq ?_)
    | (refine awpK_reg rfl ?_; simp (disch := omega) only [push_cast,seval,l69r0,l69r1,l69r2,l69r3,h0,h1,hf1,hf2,e1,e2,e3,e4,e5,hil])
    | (refine awpK_cond true rfl (fun _ => ?_) (fun h => by cases h))
    | (refine awpK_skip ?_; simp (disch := omega) only [push_cast,seval])
    | (refine awpK_ret ⟨.inr rfl,_,rfl,?_⟩))
  all_goals (show K ⟨upd (lk σ) d (.ref 304 1 0),_⟩; rw [upd_lk]; exact hK)

end Go.Proofs.YtahdlohpncjdbaaDoor
