import Derived.Test.YtahdlohpncjdbaaDoorCKh2
import Derived.Test.YtahdlohpncjdbaaDoorCM1
import Derived.Test.YtahdlohpncjdbaaDoorCW3
set_option linter.unusedSimpArgs false
set_option linter.unusedVariables false
set_option maxRecDepth 4000
set_option maxHeartbeats 4000000
namespace Go.Proofs.YtahdlohpncjdbaaDoor
open VwM Vw Go
set_option linter.unusedSectionVars false
variable [SentA]

theorem SubW.rfl' {pin : Nat} {s : S} : SubW pin s s := fun E M x w _ h => ⟨M,h⟩
theorem callE_subW {P : Program} {pin f : Nat} {avs : List AV} {dst : Option Nat} {K : S → Prop} {σ : List (Nat × AV)} {H : List (Nat × List AV)} (h : callE P pin f avs dst (fun s' => ∃ s1,SubW pin s' s1 ∧ K s1) σ H) : callE P pin f avs dst K σ H := fun args ha E M a w hp hd hst => by
  refine (h args ha E M a w hp hd hst).mono fun e w' ⟨M',s',v,⟨s1,hsub,hk⟩,he,hst'⟩ => ?_
  obtain ⟨M'',h1⟩ := hsub E M' _ w' hp hst'
  exact ⟨M'',s1,v,hk,he,h1⟩
theorem adHL_id (t id sz : Nat) : ∀ H : List (Nat × List AV),hk H t = none → adHL [t] id sz H = H
  | [],_ => rfl
  | p :: r,h => by
    simp only [hk] at h
    split at h
    · cases h
    · rename_i hne
      simp only [adHL,List.map_cons]
      have ih := adHL_id t id sz r h
      simp only [adHL] at ih
      rw [ih]
      have : ([t].contains p.1) = false := by simp; exact fun e => hne e.symm
      rw [this]; rfl


theorem hang_no {d id kid n : Nat} {k : Int} {ks : List Int} {σ : List (Nat × AV)} {H : List (Nat × List AV)} {K : S → Prop} (h0 : hk H id = some [.own kid n 1]) (h1 : hk H kid = some (IL ks)) (hf : hk H 224 = none ∧ hk H 304 = none ∧ hk H 16000 = none)
    (hK : K (mkS ((d,.ref 304 1 0) :: σ) ((16000,[]) :: (304,[.own 16000 0 1]) :: H))) : callE Tryd.prog 0 69 [.ref id 1 0,.int .i64 k,.bool false] (some d) K σ H := by
  refine callE_subW (hang_false h0 h1 ⟨hf.1,hf.2.1⟩ ⟨_,?_,hK⟩)
  refine SubW.adoptH [304] 16000 1 (by simp [hk,hf.2.2]) ?_
  have e : adHL [304] 16000 1 ((304,[AV.val (.slice none 0 0)]) :: H) = (304,[.own 16000 0 1]) :: H := by
    have := adHL_id 304 16000 1 H hf.2.1
    simp only [adHL,List.map_cons] at this ⊢
    rw [this]; rfl
  rw [e]
  exact SubW.rfl'
theorem hang_yes {d id kid n : Nat} {k : Int} {ks : List Int} {σ : List (Nat × AV)} {H : List (Nat × List AV)} {K : S → Prop} (h0 : hk H id = some [.own kid n 1]) (h1 : hk H kid = some (IL ks)) (hn : ks.length = n) (hb : n ≤ 1000) (hi : id ≠ kid) (hf : hk H 224 = none ∧ hk H 304 = none ∧ hk H 16000 = none)
    (hK : K (mkS ((d,.ref 304 1 0) :: σ) ((16000,[]) :: (304,[.own 16000 0 1]) :: (id,[.own kid (n + 1) 1]) :: (kid,IL (ks ++ [k])) :: (224,[.int .i64 k]) :: H))) : callE Tryd.prog 0 69 [.ref id 1 0,.int .i64 k,.bool true] (some d) K σ H := by
  have n1 : id ≠ 304 := fun e => by rw [e,hf.2.1] at h0; cases h0
  have n2 : kid ≠ 304 := fun e => by rw [e,hf.2.1] at h1; cases h1
  have n3 : id ≠ 16000 := fun e => by rw [e,hf.2.2] at h0; cases h0
  have n4 : kid ≠ 16000 := fun e => by rw [e,hf.2.2] at h1; cases h1
  refine callE_subW (hang_true h0 h1 hn hb hi ⟨hf.1,hf.2.1⟩ ⟨_,?_,hK⟩)
  refine SubW.adoptH [304] 16000 1 (by simp [hk,hf.2.2,Ne.symm n3,Ne.symm n4]) ?_
  have e : adHL [304] 16000 1 ((304,[AV.val (.slice none 0 0)]) :: (id,[.own kid (n + 1) 1]) :: (kid,IL ks ++ [.int .i64 k]) :: (224,[.int .i64 k]) :: H) = (304,[.own 16000 0 1]) :: (id,[.own kid (n + 1) 1]) :: (kid,IL (ks ++ [k])) :: (224,[.int .i64 k]) :: H := by
    have hx := adHL_id 304 16000 1 ((id,[.own kid (n + 1) 1]) :: (kid,IL ks ++ [.int .i64 k]) :: (224,[.int .i64 k]) :: H) (by simp [hk,hf.2.1,Ne.symm n1,Ne.symm n2])
    simp only [adHL,List.map_cons] at hx ⊢
    rw [hx]
    unfold IL
    simp [adA]
  rw [e]
  exact SubW.rfl'


def heldV [SentA] (n : Nat) : Value := if 0 < n then .iface 137 (.pointer (some SentA.a)) else .nilIface
theorem renHeld {ρ : Nat → Option Nat} {Z : Nat → Option (List AV)} {b0 : Bool} {φ : Bool → Option Bool} {m : Nat} (n : Nat) : AV.ren ρ Z b0 φ (m + 1) (.val (heldV n)) = .val (heldV n) := by unfold heldV; split <;> rfl
theorem globE (σ : List (Nat × AV)) (H : List (Nat × List AV)) : (mkS σ H).ev (.global 0) = .prow false [.val (.iface 137 (.pointer (some SentA.a)))] 0 := rfl
theorem ofNilI : ofVal Value.nilIface = .val .nilIface := rfl
theorem fzIf (H : Nat → Option (List AV)) (t : TypeId) (v : Value) : AV.fz H 5 (.val (.iface t v)) = .val (.iface t v) := rfl
theorem fzNi (H : Nat → Option (List AV)) : AV.fz H 5 (.val .nilIface) = .val .nilIface := rfl
theorem held_ok (ks : List Int) (n : Nat) (hn : ks.length = n) (hb : n ≤ 1000) : PCall Tryd.prog 38 [.prow false [.rows false (IL ks) n] 0] (fun r => r = .val (heldV n)) := by
  subst hn
  refine pcall_of l38_eq rfl ?_
  unfold heldV
  by_cases h : 0 < ks.length
  · rw [if_pos h]
    (repeat' (first
 | (first | refine awp_seq ?_ | refine awp_block ?_)
 | ((first | refine awp_reg ?_ | refine awp_condB ?_ | refine awp_skip ?_ | refine awp_exit ?_); simp (disch := omega) only [push_cast,seval,l38r0,l38r1,l38r2,l38r3,globE,ofNilI,fzIf,fzNi])
 | ((first | refine condB_split (fun h => ?_) (fun h => ?_) | refine gIf_split (fun h => ?_) (fun h => ?_) | refine qIf_split (fun h => ?_) (fun h => ?_)) <;> (try simp only [h]) <;> (try simp only [bitvec_to_nat] at h) <;> (try simp only [h]) <;> (first | (exfalso; omega) | (focus (exfalso; simp_all; done)) | (simp (disch := omega) only [push_cast,seval,globE,ofNilI,fzIf,fzNi]) | skip))
 | (refine awp_ret ⟨.inr rfl,_,rfl,?_⟩; (try simp (disch := omega) only [push_cast,seval,globE,ofNilI,fzIf,fzNi]))))
  · rw [if_neg h]
    (repeat' (first
 | (first | refine awp_seq ?_ | refine awp_block ?_)
 | ((first | refine awp_reg ?_ | refine awp_condB ?_ | refine awp_skip ?_ | refine awp_exit ?_); simp (disch := omega) only [push_cast,seval,l38r0,l38r1,l38r2,l38r3,globE,ofNilI,fzIf,fzNi])
 | ((first | refine condB_split (fun h => ?_) (fun h => ?_) | refine gIf_split (fun h => ?_) (fun h => ?_) | refine qIf_split (fun h => ?_) (fun h => ?_)) <;> (try simp only [h]) <;> (try simp only [bitvec_to_nat] at h) <;> (try simp only [h]) <;> (first | (exfalso; omega) | (focus (exfalso; simp_all; done)) | (simp (disch := omega) only [push_cast,seval,globE,ofNilI,fzIf,fzNi]) | skip))
 | (refine awp_ret ⟨.inr rfl,_,rfl,?_⟩; (try simp (disch := omega) only [push_cast,seval,globE,ofNilI,fzIf,fzNi]))))

end Go.Proofs.YtahdlohpncjdbaaDoor
