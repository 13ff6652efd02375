import Derived.Test.YtfphjgmkpgoomaaGreatCKj6
import Derived.Test.YtfphjgmkpgoomaaGreatCM1
import Derived.Test.YtfphjgmkpgoomaaGreatCW3
set_option linter.unusedSimpArgs false
set_option linter.unusedVariables false
set_option maxRecDepth 4000
set_option maxHeartbeats 4000000
namespace Go.Proofs.YtfphjgmkpgoomaaGreat
open VwM Vw Go

theorem cf_getD {mem:List Int} (hm:∀ x ∈ mem,0 ≤ x ∧ x ≤ 255) (j:Nat):0 ≤ mem.getD j 0 ∧ mem.getD j 0 ≤ 255:=by
  by_cases hl:j < mem.length
  · exact hm _ (getD_mem hl)
  · rw [List.getD,List.getElem?_eq_none (Nat.le_of_not_lt hl)];simp
theorem carK_byte {mem to fr:List Int} (hm:∀ x ∈ mem,0 ≤ x ∧ x ≤ 255):∀ k,∀ x ∈ carK mem to fr k,0 ≤ x ∧ x ≤ 255
  | 0,x,hx=>hm x hx
  | k + 1,x,hx=>by
    simp only [carK] at hx
    rcases List.mem_or_eq_of_mem_set hx with h1|h1
    · exact carK_byte hm k x h1
    · subst h1;exact cf_getD (carK_byte hm k) _
theorem chK_diff {a b:List Int} {x:Int}:∀ {k},x ∈ chK a b k → (0 ≤ x ∧ x < k) ∧ a.getD x.toNat 0 ≠ b.getD x.toNat 0
  | 0,h=>by simp [chK] at h
  | k + 1,h=>by
    simp only [chK] at h
    split at h
    · have:=chK_diff (k:=k) h
      exact ⟨by omega,this.2⟩
    · rename_i hne
      rcases List.mem_append.1 h with h1|h1
      · have:=chK_diff (k:=k) h1
        exact ⟨by omega,this.2⟩
      · rw [List.mem_singleton] at h1
        subst h1
        exact ⟨by omega,by simpa using hne⟩
theorem car_changed {mem to fr:List Int} (ht:∀ x ∈ to,0 ≤ x ∧ x ≤ 59) (hl:to.length=fr.length):∀ x ∈ chL mem (carL mem to fr),x ∈ bothL to to:=by
  intro x hx
  obtain ⟨h1,h2⟩:=chK_diff hx
  refine Classical.byContradiction fun hn=>h2 ?_
  unfold carL
  rw [carK_out fr.length]
  intro i hi he
  have hm:to.getD i 0 ∈ to:=getD_mem (by omega)
  have:=ht _ hm
  have hxe:to.getD i 0=x:=by omega
  rw [hxe] at hm
  exact hn (mem_bothL.2 ⟨ht x hm,hm,hm⟩)

end Go.Proofs.YtfphjgmkpgoomaaGreat
