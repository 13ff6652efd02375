import Derived.Test.YtajhakhncalabaaCKp9
import Derived.Test.YtajhakhncalabaaCM1
import Derived.Test.YtajhakhncalabaaCW3
set_option linter.unusedSimpArgs false
set_option linter.unusedVariables false
set_option maxRecDepth 4000
set_option maxHeartbeats 4000000
namespace Go.Proofs.Ytajhakhncalabaa
open VwM Vw Go

/-- The better of the best so far and one more. -/
def stp (c : Int → Int → Int) (s : Option (Nat × Nat)) (p : Nat × Nat) : Option (Nat × Nat) := match s with | none => some p | some t => if c p.1 p.2 < c t.1 t.2 then some p else some t
def inT (c : Int → Int → Int) (i : Nat) (s : Option (Nat × Nat)) : Nat → Option (Nat × Nat)
  | 0 => s
  | k + 1 => stp c (inT c i s k) (i,i + 1 + k)
def outT (c : Int → Int → Int) (n : Nat) : Nat → Option (Nat × Nat)
  | 0 => none
  | i + 1 => inT c i (outT c n i) (n - (i + 1))
def fI (s : Option (Nat × Nat)) : Int := match s with | none => -1 | some t => t.1
def sI (s : Option (Nat × Nat)) : Int := match s with | none => -1 | some t => t.2
def bI (c : Int → Int → Int) (s : Option (Nat × Nat)) : Int := match s with | none => 0 | some t => c t.1 t.2
theorem stp_some (c : Int → Int → Int) (s : Option (Nat × Nat)) (p : Nat × Nat) : (stp c s p).isSome = true := by
  unfold stp
  split
  · rfl
  · split <;> rfl
theorem inT_some (c : Int → Int → Int) (i : Nat) (s : Option (Nat × Nat)) : ∀ k,0 < k ∨ s.isSome = true → (inT c i s k).isSome = true
  | 0,h => by rcases h with h | h; exact absurd h (by omega); exact h
  | k + 1,_ => stp_some ..
theorem outT_some (c : Int → Int → Int) (n : Nat) (hn : 2 ≤ n) : ∀ i,0 < i → (outT c n i).isSome = true
  | i + 1,_ => by
    simp only [outT]
    refine inT_some _ _ _ _ ?_
    cases i with
    | zero => left; omega
    | succ i => right; exact outT_some c n hn (i + 1) (by omega)
theorem stp_lt {c : Int → Int → Int} {s : Option (Nat × Nat)} {i q : Nat} (h : fI s < 0 ∨ c i q < bI c s) : stp c s (i,q) = some (i,q) := by
  cases s with
  | none => rfl
  | some t =>
    simp only [fI,bI] at h
    unfold stp
    simp only
    rw [if_pos]
    rcases h with h | h
    · omega
    · exact h
theorem stp_ge {c : Int → Int → Int} {s : Option (Nat × Nat)} {i q : Nat} (h1 : ¬ fI s < 0) (h2 : ¬ c i q < bI c s) : stp c s (i,q) = s := by
  cases s with
  | none => simp [fI] at h1
  | some t =>
    simp only [bI] at h2
    unfold stp
    simp only
    rw [if_neg h2]
def fJ (s : Option (Nat × Nat)) : Int := (s.getD (0,1)).1
def sJ (s : Option (Nat × Nat)) : Int := (s.getD (0,1)).2
theorem stpJ_lt {c : Int → Int → Int} {s : Option (Nat × Nat)} {i q : Nat} (h : c i q < c (fJ s) (sJ s)) : stp c s (i,q) = some (i,q) := by
  cases s with
  | none => rfl
  | some t =>
    simp only [fJ,sJ,Option.getD_some] at h
    unfold stp
    simp only
    rw [if_pos h]
theorem stpJ_ge {c : Int → Int → Int} {s : Option (Nat × Nat)} {i q : Nat} (hs : s = none → i = 0 ∧ q = 1) (h : ¬ c i q < c (fJ s) (sJ s)) : fJ (stp c s (i,q)) = fJ s ∧ sJ (stp c s (i,q)) = sJ s := by
  cases s with
  | none => obtain ⟨rfl,rfl⟩ := hs rfl; exact ⟨rfl,rfl⟩
  | some t =>
    simp only [fJ,sJ,Option.getD_some] at h
    unfold stp
    simp only
    rw [if_neg h]
    exact ⟨rfl,rfl⟩
theorem fI_some {s : Option (Nat × Nat)} (h : s.isSome = true) : fI s = fJ s ∧ sI s = sJ s := by
  cases s with
  | none => cases h
  | some t => exact ⟨rfl,rfl⟩
def bpS (ts : List Tn) (ls : List (List Int)) (out : List Int) : Option (Nat × Nat) := match exP ts ls out with | none => none | some e => outT (fun i j => cbN e ls out i.toNat j.toNat) ts.length ts.length
theorem outT_one (c : Int → Int → Int) (n : Nat) (h : n < 2) : outT c n n = none := by
  match n,h with
  | 0,_ => rfl
  | 1,_ => rfl
theorem fI_bound {c : Int → Int → Int} {n i : Nat} : ∀ {k : Nat} {s : Option (Nat × Nat)},(∀ t,s = some t → t.1 < n ∧ t.2 < n ∧ t.1 ≠ t.2) → i + k < n → ∀ t,inT c i s k = some t → t.1 < n ∧ t.2 < n ∧ t.1 ≠ t.2
  | 0,s,hs,_,t,h => hs t h
  | k + 1,s,hs,hk,t,h => by
    have ih := fI_bound (c := c) (n := n) (i := i) (k := k) hs (by omega)
    simp only [inT] at h
    generalize inT c i s k = u at *
    cases u with
    | none => simp only [stp] at h; cases h; simp only; omega
    | some w =>
      simp only [stp] at h
      split at h
      · cases h; simp only; omega
      · cases h; exact ih _ rfl
theorem outT_bound {c : Int → Int → Int} {n : Nat} : ∀ {i : Nat},i ≤ n → ∀ t,outT c n i = some t → t.1 < n ∧ t.2 < n ∧ t.1 ≠ t.2
  | 0,_,t,h => by simp [outT] at h
  | i + 1,hi,t,h => fI_bound (i := i) (k := n - (i + 1)) (outT_bound (i := i) (by omega)) (by omega) t h


set_option maxHeartbeats 16000000 in
theorem sBest_ok (ts : List Tn) (ls : List (List Int)) (out : List Int) (n m q : Nat) (hn : ts.length = n) (hm : ls.length = m) (hq : out.length = q) (hb : n ≤ 1048576 ∧ m ≤ 1048576 ∧ q ≤ 1048576 ∧ (∀ t ∈ ts,t.1.length ≤ 1048576 ∧ t.2.length ≤ 1048576) ∧ ∀ l ∈ ls,l.length ≤ 1048576) :
    PCall Try.prog 38 [.rows false (TL false ts) n,.rows false (LL false ls) m,.rows false (IL out) q] (fun r => r = .tup [.int .i64 (fI (bpS ts ls out)),.int .i64 (sI (bpS ts ls out))]) := by
  subst hn hm hq
  obtain ⟨hb0,hb1,hb2,hb3,hb4⟩ := hb
  have q0 : ts.length ≤ 1099511627776 ∧ ls.length ≤ 1099511627776 ∧ (∀ t ∈ ts,t.1.length ≤ 1099511627776 ∧ t.2.length ≤ 1099511627776) ∧ ∀ l ∈ ls,l.length ≤ 1099511627776 := ⟨by omega,by omega,fun t ht => by have := hb3 t ht; omega,fun l hl => by have := hb4 l hl; omega⟩
  refine pcall_of l38_eq rfl ?_
  cases hx : exO ts ls with
  | none =>
    have hp : bpS ts ls out = none := by unfold bpS; rw [exP_eq,hx]; split <;> rename_i h1 <;> (split at h1 <;> first | rfl | cases h1)
    rw [hp]
    (repeat' (first
 | (first | refine awp_seq ?_ | refine awp_block ?_)
 | ((first | refine awp_reg ?_ | refine awp_condB ?_ | refine awp_skip ?_ | refine awp_exit ?_); simp (disch := omega) only [push_cast,seval,l38r0,l38r1,l38r2,l38r3,l38r4,l38r5,l38r6,l38r7,l38r8,l38r9,l38r10,l38r11,l38r12,l38r13,l38r14,l38r15,l38r16,l38r17,l38r18,hx,Option.isSome_none,fI,sI,innL_TL,innL_LL])
 | ((first | refine condB_split (fun h => ?_) (fun h => ?_) | refine gIf_split (fun h => ?_) (fun h => ?_) | refine qIf_split (fun h => ?_) (fun h => ?_)) <;> (try simp only [h]) <;> (try simp only [bitvec_to_nat] at h) <;> (try simp only [h]) <;> (first | (exfalso; omega) | (focus (exfalso; simp_all; done)) | (simp (disch := omega) only [push_cast,seval,hx,Option.isSome_none,fI,sI,innL_TL,innL_LL]) | skip))
 | ((first | refine callD_of false ?_ | refine qcallD_of false ?_); simp (disch := omega) only [push_cast,seval,hx,Option.isSome_none,fI,sI,innL_TL,innL_LL])
 | ((first | ((first | refine call0D (sExO_ok _ _ _ _ ?_ ?_ ?_) ?_ | refine qcall0D (BCall.ofP (plainI (sExO_ok _ _ _ _ ?_ ?_ ?_))) ⟨_,_,rfl,rfl⟩ ?_); (iterate 3 (exact sd)); rintro _ _ ⟨rfl,rfl⟩) | ((first | refine call0D (BCall.ofP (allIn_ok _ _ _ _ ?_ ?_)) ?_ | refine qcall0D (BCall.ofP (allIn_ok _ _ _ _ ?_ ?_)) ⟨_,_,rfl,rfl⟩ ?_); (iterate 2 (exact sd)); rintro _ _ ⟨rfl,rfl⟩) | ((first | refine call0D (BCall.ofP (scostBy_ok _ _ _ _ _ _ _ _ _ _ (by assumption) (by assumption) ?_ ?_ ?_ ?_)) ?_ | refine qcall0D (BCall.ofP (scostBy_ok _ _ _ _ _ _ _ _ _ _ (by assumption) (by assumption) ?_ ?_ ?_ ?_)) ⟨_,_,rfl,rfl⟩ ?_); (iterate 4 (exact sd)); rintro _ _ ⟨rfl,rfl⟩)) <;> (try simp (disch := omega) only [push_cast,seval,hx,Option.isSome_none,fI,sI,innL_TL,innL_LL]))
 | (refine awp_ret ⟨.inr rfl,_,rfl,?_⟩; (try simp (disch := omega) only [push_cast,seval,hx,Option.isSome_none,fI,sI,innL_TL,innL_LL]))))
  | some e =>
    cases ho : allI out 0 4 with
    | false =>
      have hp : bpS ts ls out = none := by unfold bpS; rw [exP_eq,ho]; rfl
      rw [hp]
      (repeat' (first
 | (first | refine awp_seq ?_ | refine awp_block ?_)
 | ((first | refine awp_reg ?_ | refine awp_condB ?_ | refine awp_skip ?_ | refine awp_exit ?_); simp (disch := omega) only [push_cast,seval,l38r0,l38r1,l38r2,l38r3,l38r4,l38r5,l38r6,l38r7,l38r8,l38r9,l38r10,l38r11,l38r12,l38r13,l38r14,l38r15,l38r16,l38r17,l38r18,hx,ho,Option.isSome_some,fI,sI,innL_TL,innL_LL])
 | ((first | refine condB_split (fun h => ?_) (fun h => ?_) | refine gIf_split (fun h => ?_) (fun h => ?_) | refine qIf_split (fun h => ?_) (fun h => ?_)) <;> (try simp only [h]) <;> (try simp only [bitvec_to_nat] at h) <;> (try simp only [h]) <;> (first | (exfalso; omega) | (focus (exfalso; simp_all; done)) | (simp (disch := omega) only [push_cast,seval,hx,ho,Option.isSome_some,fI,sI,innL_TL,innL_LL]) | skip))
 | ((first | refine callD_of false ?_ | refine qcallD_of false ?_); simp (disch := omega) only [push_cast,seval,hx,ho,Option.isSome_some,fI,sI,innL_TL,innL_LL])
 | ((first | ((first | refine call0D (sExO_ok _ _ _ _ ?_ ?_ ?_) ?_ | refine qcall0D (BCall.ofP (plainI (sExO_ok _ _ _ _ ?_ ?_ ?_))) ⟨_,_,rfl,rfl⟩ ?_); (iterate 3 (exact sd)); rintro _ _ ⟨rfl,rfl⟩) | ((first | refine call0D (BCall.ofP (allIn_ok _ _ _ _ ?_ ?_)) ?_ | refine qcall0D (BCall.ofP (allIn_ok _ _ _ _ ?_ ?_)) ⟨_,_,rfl,rfl⟩ ?_); (iterate 2 (exact sd)); rintro _ _ ⟨rfl,rfl⟩) | ((first | refine call0D (BCall.ofP (scostBy_ok _ _ _ _ _ _ _ _ _ _ (by assumption) (by assumption) ?_ ?_ ?_ ?_)) ?_ | refine qcall0D (BCall.ofP (scostBy_ok _ _ _ _ _ _ _ _ _ _ (by assumption) (by assumption) ?_ ?_ ?_ ?_)) ⟨_,_,rfl,rfl⟩ ?_); (iterate 4 (exact sd)); rintro _ _ ⟨rfl,rfl⟩)) <;> (try simp (disch := omega) only [push_cast,seval,hx,ho,Option.isSome_some,fI,sI,innL_TL,innL_LL]))
 | (refine awp_ret ⟨.inr rfl,_,rfl,?_⟩; (try simp (disch := omega) only [push_cast,seval,hx,ho,Option.isSome_some,fI,sI,innL_TL,innL_LL]))))
    | true =>
      have hp : bpS ts ls out = outT (fun i j => cbN e ls out i.toNat j.toNat) ts.length ts.length := by unfold bpS; rw [exP_eq,ho,hx]; rfl
      rw [hp]
      clear hp
      obtain ⟨h5,f1,f2,f3,f4,f5,f6,f7⟩ := exO_facts hx
      obtain ⟨l1,l2⟩ := lab_len hx
      have q9 : (e.length = 5 ∧ ls.length ≤ 1000 ∧ out.length ≤ 100000000) ∧ (∀ l ∈ ls,l.length ≤ 100000000) ∧ ∀ k : Nat,k < 5 → (k : Int) ∈ ls.flatten → e.getD k 0 ≤ 60 := ⟨⟨h5,by omega,by omega⟩,fun l hl => by have := l2 l hl; omega,fun k hk hm => (f2 k hk hm).2⟩
      generalize hC : (fun i j : Int => cbN e ls out i.toNat j.toNat) = C
      have hCe : ∀ p q : Nat,∀ a b,ls[p]? = some a → ls[q]? = some b → cbE e ls out a b p q = C p q := fun p q a b ha hb => by
        rw [← hC,← cbN_at ha hb]; simp only [Int.toNat_natCast]
      (repeat' (first
 | (first | refine awp_seq ?_ | refine awp_block ?_)
 | ((first | refine awp_reg ?_ | refine awp_condB ?_ | refine awp_skip ?_ | refine awp_exit ?_); simp (disch := omega) only [push_cast,seval,l38r0,l38r1,l38r2,l38r3,l38r4,l38r5,l38r6,l38r7,l38r8,l38r9,l38r10,l38r11,l38r12,l38r13,l38r14,l38r15,l38r16,l38r17,l38r18,hx,ho,Option.isSome_some,Option.getD_some,innL_TL,innL_LL])
 | ((first | refine condB_split (fun h => ?_) (fun h => ?_) | refine gIf_split (fun h => ?_) (fun h => ?_) | refine qIf_split (fun h => ?_) (fun h => ?_)) <;> (try simp only [h]) <;> (try simp only [bitvec_to_nat] at h) <;> (try simp only [h]) <;> (first | (exfalso; omega) | (focus (exfalso; simp_all; done)) | (simp (disch := omega) only [push_cast,seval,hx,ho,Option.isSome_some,Option.getD_some,innL_TL,innL_LL]) | skip))
 | ((first | refine callD_of false ?_ | refine qcallD_of false ?_); simp (disch := omega) only [push_cast,seval,hx,ho,Option.isSome_some,Option.getD_some,innL_TL,innL_LL])
 | ((first | ((first | refine call0D (sExO_ok _ _ _ _ ?_ ?_ ?_) ?_ | refine qcall0D (BCall.ofP (plainI (sExO_ok _ _ _ _ ?_ ?_ ?_))) ⟨_,_,rfl,rfl⟩ ?_); (iterate 3 (exact sd)); rintro _ _ ⟨rfl,rfl⟩) | ((first | refine call0D (BCall.ofP (allIn_ok _ _ _ _ ?_ ?_)) ?_ | refine qcall0D (BCall.ofP (allIn_ok _ _ _ _ ?_ ?_)) ⟨_,_,rfl,rfl⟩ ?_); (iterate 2 (exact sd)); rintro _ _ ⟨rfl,rfl⟩) | ((first | refine call0D (BCall.ofP (scostBy_ok _ _ _ _ _ _ _ _ _ _ (by assumption) (by assumption) ?_ ?_ ?_ ?_)) ?_ | refine qcall0D (BCall.ofP (scostBy_ok _ _ _ _ _ _ _ _ _ _ (by assumption) (by assumption) ?_ ?_ ?_ ?_)) ⟨_,_,rfl,rfl⟩ ?_); (iterate 4 (exact sd)); rintro _ _ ⟨rfl,rfl⟩)) <;> (try simp (disch := omega) only [push_cast,seval,hx,ho,Option.isSome_some,Option.getD_some,innL_TL,innL_LL]))
 | (refine awp_ret ⟨.inr rfl,_,rfl,?_⟩; (try simp (disch := omega) only [push_cast,seval,hx,ho,Option.isSome_some,Option.getD_some,innL_TL,innL_LL]))))
      refine awp_loop (fun i : Nat => mkS [(0,.rows false (TL false ts) ts.length),(1,.rows false (LL false ls) ls.length),(2,RI out),(8,.own 304 e.length 1),(10,.int .i64 (fI (outT C ts.length i))),(11,.int .i64 (sI (outT C ts.length i))),(12,.int .i64 (bI C (outT C ts.length i))),(13,.int .i64 i)] [(304,IL e)]) (fun i => i ≤ ts.length) (fun i => ts.length - i) 0 (Nat.zero_le _) ?_ ?_
      · (refine Sub.of_lists ?_ ?_ ?_ ?_ ?_ <;> simp [Vw.mkS,Vw.lk,Vw.hk,AV.inn,innL,innL_ints,innL_append,innL_rep,-List.map_set,-List.getD_eq_getElem?_getD,innL_TL,innL_LL,outT,fI,sI,bI])
      · intro i hi
        by_cases hlt : i < ts.length
        · obtain ⟨a,ha⟩ := mem_lt (l := ls) (i := i) (by omega)
          (repeat' (first
 | (first | refine awp_seq ?_ | refine awp_block ?_)
 | ((first | refine awp_reg ?_ | refine awp_condB ?_ | refine awp_skip ?_ | refine awp_exit ?_); simp (disch := omega) only [push_cast,seval,l38r0,l38r1,l38r2,l38r3,l38r4,l38r5,l38r6,l38r7,l38r8,l38r9,l38r10,l38r11,l38r12,l38r13,l38r14,l38r15,l38r16,l38r17,l38r18,innL_TL,innL_LL])
 | ((first | refine condB_split (fun h => ?_) (fun h => ?_) | refine gIf_split (fun h => ?_) (fun h => ?_) | refine qIf_split (fun h => ?_) (fun h => ?_)) <;> (try simp only [h]) <;> (try simp only [bitvec_to_nat] at h) <;> (try simp only [h]) <;> (first | (exfalso; omega) | (focus (exfalso; simp_all; done)) | (simp (disch := omega) only [push_cast,seval,innL_TL,innL_LL]) | skip))
 | ((first | refine callD_of false ?_ | refine qcallD_of false ?_); simp (disch := omega) only [push_cast,seval,innL_TL,innL_LL])
 | ((first | ((first | refine call0D (sExO_ok _ _ _ _ ?_ ?_ ?_) ?_ | refine qcall0D (sExO_ok _ _ _ _ ?_ ?_ ?_) ⟨_,_,rfl,rfl⟩ ?_); (iterate 3 (exact sd)); rintro _ _ ⟨rfl,rfl⟩) | ((first | refine call0D (BCall.ofP (allIn_ok _ _ _ _ ?_ ?_)) ?_ | refine qcall0D (BCall.ofP (allIn_ok _ _ _ _ ?_ ?_)) ⟨_,_,rfl,rfl⟩ ?_); (iterate 2 (exact sd)); rintro _ _ ⟨rfl,rfl⟩) | ((first | refine call0D (BCall.ofP (scostBy_ok _ _ _ _ _ _ _ _ _ _ (by assumption) (by assumption) ?_ ?_ ?_ ?_)) ?_ | refine qcall0D (BCall.ofP (scostBy_ok _ _ _ _ _ _ _ _ _ _ (by assumption) (by assumption) ?_ ?_ ?_ ?_)) ⟨_,_,rfl,rfl⟩ ?_); (iterate 4 (exact sd)); rintro _ _ ⟨rfl,rfl⟩)) <;> (try simp (disch := omega) only [push_cast,seval,innL_TL,innL_LL]))
 | (refine awp_ret ⟨.inr rfl,_,rfl,?_⟩; (try simp (disch := omega) only [push_cast,seval,innL_TL,innL_LL]))))
          refine awp_loop (fun k : Nat => mkS [(0,.rows false (TL false ts) ts.length),(1,.rows false (LL false ls) ls.length),(2,RI out),(8,.own 304 e.length 1),(10,.int .i64 (fI (inT C i (outT C ts.length i) k))),(11,.int .i64 (sI (inT C i (outT C ts.length i) k))),(12,.int .i64 (bI C (inT C i (outT C ts.length i) k))),(13,.int .i64 i),(14,.int .i64 ((i : Int) + 1 + k))] [(304,IL e)]) (fun k => i + 1 + k ≤ ts.length) (fun k => ts.length - k) 0 (by omega) ?_ ?_
          · (refine Sub.of_lists ?_ ?_ ?_ ?_ ?_ <;> simp [Vw.mkS,Vw.lk,Vw.hk,AV.inn,innL,innL_ints,innL_append,innL_rep,-List.map_set,-List.getD_eq_getElem?_getD,innL_TL,innL_LL,inT])
          · intro k hk
            by_cases hkl : i + 1 + k < ts.length
            · obtain ⟨b,hb⟩ := mem_lt (l := ls) (i := i + 1 + k) (by omega)
              have hce := hCe i (i + 1 + k) a b ha hb
              have hij : (i : Int) + 1 + k = ((i + 1 + k : Nat) : Int) := by omega
              have hstp : inT C i (outT C ts.length i) (k + 1) = stp C (inT C i (outT C ts.length i) k) (i,i + 1 + k) := rfl
              have hlt2 : (((i + 1 + k : Nat) : Int)) < ts.length := by omega
              rw [hij]
              obtain ⟨r,hr⟩ : ∃ r : Nat,i + 1 + k = r := ⟨_,rfl⟩
              rw [hr] at hce hb hlt2 hstp ⊢
              generalize hS : inT C i (outT C ts.length i) k = S at *
              generalize hS2 : inT C i (outT C ts.length i) (k + 1) = S2 at *
              by_cases hg : fI S < 0
              · have e1 := stp_lt (c := C) (s := S) (i := i) (q := r) (.inl hg)
                rw [e1] at hstp
                (repeat' (first
 | (first | refine awp_seq ?_ | refine awp_block ?_)
 | ((first | refine awp_reg ?_ | refine awp_condB ?_ | refine awp_skip ?_ | refine awp_exit ?_); simp (disch := omega) only [push_cast,seval,l38r0,l38r1,l38r2,l38r3,l38r4,l38r5,l38r6,l38r7,l38r8,l38r9,l38r10,l38r11,l38r12,l38r13,l38r14,l38r15,l38r16,l38r17,l38r18,hce,hg,innL_TL,innL_LL])
 | ((first | refine condB_split (fun h => ?_) (fun h => ?_) | refine gIf_split (fun h => ?_) (fun h => ?_) | refine qIf_split (fun h => ?_) (fun h => ?_)) <;> (try simp only [h]) <;> (try simp only [bitvec_to_nat] at h) <;> (try simp only [h]) <;> (first | (exfalso; omega) | (focus (exfalso; simp_all; done)) | (simp (disch := omega) only [push_cast,seval,hce,hg,innL_TL,innL_LL]) | skip))
 | ((first | refine callD_of false ?_ | refine qcallD_of false ?_); simp (disch := omega) only [push_cast,seval,hce,hg,innL_TL,innL_LL])
 | ((first | ((first | refine call0D (sExO_ok _ _ _ _ ?_ ?_ ?_) ?_ | refine qcall0D (sExO_ok _ _ _ _ ?_ ?_ ?_) ⟨_,_,rfl,rfl⟩ ?_); (iterate 3 (exact sd)); rintro _ _ ⟨rfl,rfl⟩) | ((first | refine call0D (BCall.ofP (allIn_ok _ _ _ _ ?_ ?_)) ?_ | refine qcall0D (BCall.ofP (allIn_ok _ _ _ _ ?_ ?_)) ⟨_,_,rfl,rfl⟩ ?_); (iterate 2 (exact sd)); rintro _ _ ⟨rfl,rfl⟩) | ((first | refine call0D (BCall.ofP (scostBy_ok _ _ _ _ _ _ _ _ _ _ (by assumption) (by assumption) ?_ ?_ ?_ ?_)) ?_ | refine qcall0D (BCall.ofP (scostBy_ok _ _ _ _ _ _ _ _ _ _ (by assumption) (by assumption) ?_ ?_ ?_ ?_)) ⟨_,_,rfl,rfl⟩ ?_); (iterate 4 (exact sd)); rintro _ _ ⟨rfl,rfl⟩)) <;> (try simp (disch := omega) only [push_cast,seval,hce,hg,innL_TL,innL_LL]))
 | (refine awp_ret ⟨.inr rfl,_,rfl,?_⟩; (try simp (disch := omega) only [push_cast,seval,hce,hg,innL_TL,innL_LL]))))
                refine ⟨k + 1,by omega,by omega,?_⟩
                rw [hS2,hstp]
                have e5 : (i : Int) + 1 + ((k + 1 : Nat) : Int) = (r : Int) + 1 := by omega
                simp only [e5]
                (refine Sub.of_lists ?_ ?_ ?_ ?_ ?_ <;> simp [Vw.mkS,Vw.lk,Vw.hk,AV.inn,innL,innL_ints,innL_append,innL_rep,-List.map_set,-List.getD_eq_getElem?_getD,innL_TL,innL_LL,fI,sI,bI])
              · by_cases hg2 : C i r < bI C S
                · have e1 := stp_lt (c := C) (s := S) (i := i) (q := r) (.inr hg2)
                  rw [e1] at hstp
                  (repeat' (first
 | (first | refine awp_seq ?_ | refine awp_block ?_)
 | ((first | refine awp_reg ?_ | refine awp_condB ?_ | refine awp_skip ?_ | refine awp_exit ?_); simp (disch := omega) only [push_cast,seval,l38r0,l38r1,l38r2,l38r3,l38r4,l38r5,l38r6,l38r7,l38r8,l38r9,l38r10,l38r11,l38r12,l38r13,l38r14,l38r15,l38r16,l38r17,l38r18,hce,hg,hg2,innL_TL,innL_LL])
 | ((first | refine condB_split (fun h => ?_) (fun h => ?_) | refine gIf_split (fun h => ?_) (fun h => ?_) | refine qIf_split (fun h => ?_) (fun h => ?_)) <;> (try simp only [h]) <;> (try simp only [bitvec_to_nat] at h) <;> (try simp only [h]) <;> (first | (exfalso; omega) | (focus (exfalso; simp_all; done)) | (simp (disch := omega) only [push_cast,seval,hce,hg,hg2,innL_TL,innL_LL]) | skip))
 | ((first | refine callD_of false ?_ | refine qcallD_of false ?_); simp (disch := omega) only [push_cast,seval,hce,hg,hg2,innL_TL,innL_LL])
 | ((first | ((first | refine call0D (sExO_ok _ _ _ _ ?_ ?_ ?_) ?_ | refine qcall0D (sExO_ok _ _ _ _ ?_ ?_ ?_) ⟨_,_,rfl,rfl⟩ ?_); (iterate 3 (exact sd)); rintro _ _ ⟨rfl,rfl⟩) | ((first | refine call0D (BCall.ofP (allIn_ok _ _ _ _ ?_ ?_)) ?_ | refine qcall0D (BCall.ofP (allIn_ok _ _ _ _ ?_ ?_)) ⟨_,_,rfl,rfl⟩ ?_); (iterate 2 (exact sd)); rintro _ _ ⟨rfl,rfl⟩) | ((first | refine call0D (BCall.ofP (scostBy_ok _ _ _ _ _ _ _ _ _ _ (by assumption) (by assumption) ?_ ?_ ?_ ?_)) ?_ | refine qcall0D (BCall.ofP (scostBy_ok _ _ _ _ _ _ _ _ _ _ (by assumption) (by assumption) ?_ ?_ ?_ ?_)) ⟨_,_,rfl,rfl⟩ ?_); (iterate 4 (exact sd)); rintro _ _ ⟨rfl,rfl⟩)) <;> (try simp (disch := omega) only [push_cast,seval,hce,hg,hg2,innL_TL,innL_LL]))
 | (refine awp_ret ⟨.inr rfl,_,rfl,?_⟩; (try simp (disch := omega) only [push_cast,seval,hce,hg,hg2,innL_TL,innL_LL]))))
                  refine ⟨k + 1,by omega,by omega,?_⟩
                  rw [hS2,hstp]
                  have e5 : (i : Int) + 1 + ((k + 1 : Nat) : Int) = (r : Int) + 1 := by omega
                  simp only [e5]
                  (refine Sub.of_lists ?_ ?_ ?_ ?_ ?_ <;> simp [Vw.mkS,Vw.lk,Vw.hk,AV.inn,innL,innL_ints,innL_append,innL_rep,-List.map_set,-List.getD_eq_getElem?_getD,innL_TL,innL_LL,fI,sI,bI])
                · have e1 := stp_ge (c := C) (s := S) (i := i) (q := r) hg hg2
                  rw [e1] at hstp
                  (repeat' (first
 | (first | refine awp_seq ?_ | refine awp_block ?_)
 | ((first | refine awp_reg ?_ | refine awp_condB ?_ | refine awp_skip ?_ | refine awp_exit ?_); simp (disch := omega) only [push_cast,seval,l38r0,l38r1,l38r2,l38r3,l38r4,l38r5,l38r6,l38r7,l38r8,l38r9,l38r10,l38r11,l38r12,l38r13,l38r14,l38r15,l38r16,l38r17,l38r18,hce,hg,hg2,innL_TL,innL_LL])
 | ((first | refine condB_split (fun h => ?_) (fun h => ?_) | refine gIf_split (fun h => ?_) (fun h => ?_) | refine qIf_split (fun h => ?_) (fun h => ?_)) <;> (try simp only [h]) <;> (try simp only [bitvec_to_nat] at h) <;> (try simp only [h]) <;> (first | (exfalso; omega) | (focus (exfalso; simp_all; done)) | (simp (disch := omega) only [push_cast,seval,hce,hg,hg2,innL_TL,innL_LL]) | skip))
 | ((first | refine callD_of false ?_ | refine qcallD_of false ?_); simp (disch := omega) only [push_cast,seval,hce,hg,hg2,innL_TL,innL_LL])
 | ((first | ((first | refine call0D (sExO_ok _ _ _ _ ?_ ?_ ?_) ?_ | refine qcall0D (sExO_ok _ _ _ _ ?_ ?_ ?_) ⟨_,_,rfl,rfl⟩ ?_); (iterate 3 (exact sd)); rintro _ _ ⟨rfl,rfl⟩) | ((first | refine call0D (BCall.ofP (allIn_ok _ _ _ _ ?_ ?_)) ?_ | refine qcall0D (BCall.ofP (allIn_ok _ _ _ _ ?_ ?_)) ⟨_,_,rfl,rfl⟩ ?_); (iterate 2 (exact sd)); rintro _ _ ⟨rfl,rfl⟩) | ((first | refine call0D (BCall.ofP (scostBy_ok _ _ _ _ _ _ _ _ _ _ (by assumption) (by assumption) ?_ ?_ ?_ ?_)) ?_ | refine qcall0D (BCall.ofP (scostBy_ok _ _ _ _ _ _ _ _ _ _ (by assumption) (by assumption) ?_ ?_ ?_ ?_)) ⟨_,_,rfl,rfl⟩ ?_); (iterate 4 (exact sd)); rintro _ _ ⟨rfl,rfl⟩)) <;> (try simp (disch := omega) only [push_cast,seval,hce,hg,hg2,innL_TL,innL_LL]))
 | (refine awp_ret ⟨.inr rfl,_,rfl,?_⟩; (try simp (disch := omega) only [push_cast,seval,hce,hg,hg2,innL_TL,innL_LL]))))
                  refine ⟨k + 1,by omega,by omega,?_⟩
                  rw [hS2,hstp]
                  have e5 : (i : Int) + 1 + ((k + 1 : Nat) : Int) = (r : Int) + 1 := by omega
                  simp only [e5]
                  (refine Sub.of_lists ?_ ?_ ?_ ?_ ?_ <;> simp [Vw.mkS,Vw.lk,Vw.hk,AV.inn,innL,innL_ints,innL_append,innL_rep,-List.map_set,-List.getD_eq_getElem?_getD,innL_TL,innL_LL])
            · have ek : k = ts.length - (i + 1) := by omega
              have eo : inT C i (outT C ts.length i) k = outT C ts.length (i + 1) := by rw [ek]; rfl
              rw [eo]
              have hge : ¬ (i : Int) + 1 + k < ts.length := by omega
              generalize hS : outT C ts.length (i + 1) = S at *
              (repeat' (first
 | (first | refine awp_seq ?_ | refine awp_block ?_)
 | ((first | refine awp_reg ?_ | refine awp_condB ?_ | refine awp_skip ?_ | refine awp_exit ?_); simp (disch := omega) only [push_cast,seval,l38r0,l38r1,l38r2,l38r3,l38r4,l38r5,l38r6,l38r7,l38r8,l38r9,l38r10,l38r11,l38r12,l38r13,l38r14,l38r15,l38r16,l38r17,l38r18,hge,innL_TL,innL_LL])
 | ((first | refine condB_split (fun h => ?_) (fun h => ?_) | refine gIf_split (fun h => ?_) (fun h => ?_) | refine qIf_split (fun h => ?_) (fun h => ?_)) <;> (try simp only [h]) <;> (try simp only [bitvec_to_nat] at h) <;> (try simp only [h]) <;> (first | (exfalso; omega) | (focus (exfalso; simp_all; done)) | (simp (disch := omega) only [push_cast,seval,hge,innL_TL,innL_LL]) | skip))
 | ((first | refine callD_of false ?_ | refine qcallD_of false ?_); simp (disch := omega) only [push_cast,seval,hge,innL_TL,innL_LL])
 | ((first | ((first | refine call0D (sExO_ok _ _ _ _ ?_ ?_ ?_) ?_ | refine qcall0D (sExO_ok _ _ _ _ ?_ ?_ ?_) ⟨_,_,rfl,rfl⟩ ?_); (iterate 3 (exact sd)); rintro _ _ ⟨rfl,rfl⟩) | ((first | refine call0D (BCall.ofP (allIn_ok _ _ _ _ ?_ ?_)) ?_ | refine qcall0D (BCall.ofP (allIn_ok _ _ _ _ ?_ ?_)) ⟨_,_,rfl,rfl⟩ ?_); (iterate 2 (exact sd)); rintro _ _ ⟨rfl,rfl⟩) | ((first | refine call0D (BCall.ofP (scostBy_ok _ _ _ _ _ _ _ _ _ _ (by assumption) (by assumption) ?_ ?_ ?_ ?_)) ?_ | refine qcall0D (BCall.ofP (scostBy_ok _ _ _ _ _ _ _ _ _ _ (by assumption) (by assumption) ?_ ?_ ?_ ?_)) ⟨_,_,rfl,rfl⟩ ?_); (iterate 4 (exact sd)); rintro _ _ ⟨rfl,rfl⟩)) <;> (try simp (disch := omega) only [push_cast,seval,hge,innL_TL,innL_LL]))
 | (refine awp_ret ⟨.inr rfl,_,rfl,?_⟩; (try simp (disch := omega) only [push_cast,seval,hge,innL_TL,innL_LL]))))
              refine ⟨i + 1,by omega,by omega,?_⟩
              rw [hS]
              (refine Sub.of_lists ?_ ?_ ?_ ?_ ?_ <;> simp [Vw.mkS,Vw.lk,Vw.hk,AV.inn,innL,innL_ints,innL_append,innL_rep,-List.map_set,-List.getD_eq_getElem?_getD,innL_TL,innL_LL])
        · have ei : i = ts.length := by omega
          subst ei
          generalize outT C ts.length ts.length = S at *
          (repeat' (first
 | (first | refine awp_seq ?_ | refine awp_block ?_)
 | ((first | refine awp_reg ?_ | refine awp_condB ?_ | refine awp_skip ?_ | refine awp_exit ?_); simp (disch := omega) only [push_cast,seval,l38r0,l38r1,l38r2,l38r3,l38r4,l38r5,l38r6,l38r7,l38r8,l38r9,l38r10,l38r11,l38r12,l38r13,l38r14,l38r15,l38r16,l38r17,l38r18,innL_TL,innL_LL])
 | ((first | refine condB_split (fun h => ?_) (fun h => ?_) | refine gIf_split (fun h => ?_) (fun h => ?_) | refine qIf_split (fun h => ?_) (fun h => ?_)) <;> (try simp only [h]) <;> (try simp only [bitvec_to_nat] at h) <;> (try simp only [h]) <;> (first | (exfalso; omega) | (focus (exfalso; simp_all; done)) | (simp (disch := omega) only [push_cast,seval,innL_TL,innL_LL]) | skip))
 | ((first | refine callD_of false ?_ | refine qcallD_of false ?_); simp (disch := omega) only [push_cast,seval,innL_TL,innL_LL])
 | ((first | ((first | refine call0D (sExO_ok _ _ _ _ ?_ ?_ ?_) ?_ | refine qcall0D (sExO_ok _ _ _ _ ?_ ?_ ?_) ⟨_,_,rfl,rfl⟩ ?_); (iterate 3 (exact sd)); rintro _ _ ⟨rfl,rfl⟩) | ((first | refine call0D (BCall.ofP (allIn_ok _ _ _ _ ?_ ?_)) ?_ | refine qcall0D (BCall.ofP (allIn_ok _ _ _ _ ?_ ?_)) ⟨_,_,rfl,rfl⟩ ?_); (iterate 2 (exact sd)); rintro _ _ ⟨rfl,rfl⟩) | ((first | refine call0D (BCall.ofP (scostBy_ok _ _ _ _ _ _ _ _ _ _ (by assumption) (by assumption) ?_ ?_ ?_ ?_)) ?_ | refine qcall0D (BCall.ofP (scostBy_ok _ _ _ _ _ _ _ _ _ _ (by assumption) (by assumption) ?_ ?_ ?_ ?_)) ⟨_,_,rfl,rfl⟩ ?_); (iterate 4 (exact sd)); rintro _ _ ⟨rfl,rfl⟩)) <;> (try simp (disch := omega) only [push_cast,seval,innL_TL,innL_LL]))
 | (refine awp_ret ⟨.inr rfl,_,rfl,?_⟩; (try simp (disch := omega) only [push_cast,seval,innL_TL,innL_LL]))))


set_option maxHeartbeats 16000000 in
theorem iBest_ok (ts : List Tn) (ls : List (List Int)) (out : List Int) (n m q : Nat) (hn : ts.length = n) (hm : ls.length = m) (hq : out.length = q) (hb : n ≤ 1048576 ∧ m ≤ 1048576 ∧ q ≤ 1048576 ∧ (∀ t ∈ ts,t.1.length ≤ 1048576 ∧ t.2.length ≤ 1048576) ∧ ∀ l ∈ ls,l.length ≤ 1048576) :
    PCall Try.prog 39 [.rows false (TL false ts) n,.rows false (LL false ls) m,.rows false (IL out) q] (fun r => r = .tup [.int .i64 (fI (bpS ts ls out)),.int .i64 (sI (bpS ts ls out))]) := by
  subst hn hm hq
  have qb := hb
  obtain ⟨hb0,hb1,hb2,hb3,hb4⟩ := hb
  have q0 : ts.length ≤ 1099511627776 ∧ ls.length ≤ 1099511627776 ∧ out.length ≤ 1099511627776 ∧ (∀ t ∈ ts,t.1.length ≤ 1099511627776 ∧ t.2.length ≤ 1099511627776) ∧ ∀ l ∈ ls,l.length ≤ 1099511627776 := ⟨by omega,by omega,by omega,fun t ht => by have := hb3 t ht; omega,fun l hl => by have := hb4 l hl; omega⟩
  refine pcall_of l39_eq rfl ?_
  cases hxp : exP ts ls out with
  | none =>
    have hp : bpS ts ls out = none := by unfold bpS; rw [hxp]
    rw [hp]
    (repeat' (first
 | (first | refine awp_seq ?_ | refine awp_block ?_)
 | ((first | refine awp_reg ?_ | refine awp_condB ?_ | refine awp_skip ?_ | refine awp_exit ?_); simp (disch := omega) only [push_cast,seval,l39r0,l39r1,l39r2,l39r3,l39r4,l39r5,l39r6,l39r7,l39r8,l39r9,l39r10,l39r11,l39r12,l39r13,l39r14,hxp,set5,tak5,len5c,Option.isSome_none,fI,sI,innL_TL,innL_LL])
 | ((first | refine condB_split (fun h => ?_) (fun h => ?_) | refine gIf_split (fun h => ?_) (fun h => ?_) | refine qIf_split (fun h => ?_) (fun h => ?_)) <;> (try simp only [h]) <;> (try simp only [bitvec_to_nat] at h) <;> (try simp only [h]) <;> (first | (exfalso; omega) | (focus (exfalso; simp_all; done)) | (simp (disch := omega) only [push_cast,seval,hxp,set5,tak5,len5c,Option.isSome_none,fI,sI,innL_TL,innL_LL]) | skip))
 | ((first | refine callD_of false ?_ | refine qcallD_of false ?_); simp (disch := omega) only [push_cast,seval,hxp,set5,tak5,len5c,Option.isSome_none,fI,sI,innL_TL,innL_LL])
 | ((first | (refine call0D (BCall.ofP (extentsOf_ok _ _ _ _ _ _ ?_ ?_ ?_ ?_)) ?_; (iterate 4 (exact sd)); rintro _ _ ⟨⟨g,hg5,rfl⟩,rfl⟩; (try simp only [hxp,Option.getD_none,Option.getD_some] at hg5)) | (refine call0D (BCall.ofP (extentsOfN_ok _ _ _ _ ?_ ?_ ?_)) ?_; (iterate 3 (exact sd)); rintro _ _ ⟨⟨g,hg5,rfl⟩,rfl⟩; (try simp only [hxp,Option.getD_none,Option.getD_some] at hg5)) | ((first | refine call0D (BCall.ofP (iCostBy_ok _ _ _ _ _ _ _ _ ?_ ?_ ?_ ?_)) ?_ | refine qcall0D (BCall.ofP (iCostBy_ok _ _ _ _ _ _ _ _ ?_ ?_ ?_ ?_)) ⟨_,_,rfl,rfl⟩ ?_); (iterate 4 (exact sd)); rintro _ _ ⟨rfl,rfl⟩)) <;> (try simp (disch := omega) only [push_cast,seval,hxp,set5,tak5,len5c,Option.isSome_none,fI,sI,innL_TL,innL_LL]))
 | (refine awp_ret ⟨.inr rfl,_,rfl,?_⟩; (try simp (disch := omega) only [push_cast,seval,hxp,set5,tak5,len5c,Option.isSome_none,fI,sI,innL_TL,innL_LL]))))
  | some e =>
    have hp : bpS ts ls out = outT (fun i j => cbN e ls out i.toNat j.toNat) ts.length ts.length := by unfold bpS; rw [hxp]
    rw [hp]
    clear hp
    obtain ⟨ho,hx⟩ := exP_some hxp
    obtain ⟨h5,f1,f2,f3,f4,f5,f6,f7⟩ := exO_facts hx
    generalize hC : (fun i j : Int => cbN e ls out i.toNat j.toNat) = C
    by_cases h2 : (ts.length : Int) < 2
    · rw [outT_one C _ (by omega)]
      (repeat' (first
 | (first | refine awp_seq ?_ | refine awp_block ?_)
 | ((first | refine awp_reg ?_ | refine awp_condB ?_ | refine awp_skip ?_ | refine awp_exit ?_); simp (disch := omega) only [push_cast,seval,l39r0,l39r1,l39r2,l39r3,l39r4,l39r5,l39r6,l39r7,l39r8,l39r9,l39r10,l39r11,l39r12,l39r13,l39r14,hxp,h2,h5,set5,tak5,len5c,Option.isSome_some,Option.getD_some,fI,sI,innL_TL,innL_LL])
 | ((first | refine condB_split (fun h => ?_) (fun h => ?_) | refine gIf_split (fun h => ?_) (fun h => ?_) | refine qIf_split (fun h => ?_) (fun h => ?_)) <;> (try simp only [h]) <;> (try simp only [bitvec_to_nat] at h) <;> (try simp only [h]) <;> (first | (exfalso; omega) | (focus (exfalso; simp_all; done)) | (simp (disch := omega) only [push_cast,seval,hxp,h2,h5,set5,tak5,len5c,Option.isSome_some,Option.getD_some,fI,sI,innL_TL,innL_LL]) | skip))
 | ((first | refine callD_of false ?_ | refine qcallD_of false ?_); simp (disch := omega) only [push_cast,seval,hxp,h2,h5,set5,tak5,len5c,Option.isSome_some,Option.getD_some,fI,sI,innL_TL,innL_LL])
 | ((first | (refine call0D (BCall.ofP (extentsOf_ok _ _ _ _ _ _ ?_ ?_ ?_ ?_)) ?_; (iterate 4 (exact sd)); rintro _ _ ⟨⟨g,hg5,rfl⟩,rfl⟩; (try simp only [hxp,Option.getD_none,Option.getD_some] at hg5)) | (refine call0D (BCall.ofP (extentsOfN_ok _ _ _ _ ?_ ?_ ?_)) ?_; (iterate 3 (exact sd)); rintro _ _ ⟨⟨g,hg5,rfl⟩,rfl⟩; (try simp only [hxp,Option.getD_none,Option.getD_some] at hg5)) | ((first | refine call0D (BCall.ofP (iCostBy_ok _ _ _ _ _ _ _ _ ?_ ?_ ?_ ?_)) ?_ | refine qcall0D (BCall.ofP (iCostBy_ok _ _ _ _ _ _ _ _ ?_ ?_ ?_ ?_)) ⟨_,_,rfl,rfl⟩ ?_); (iterate 4 (exact sd)); rintro _ _ ⟨rfl,rfl⟩)) <;> (try simp (disch := omega) only [push_cast,seval,hxp,h2,h5,set5,tak5,len5c,Option.isSome_some,Option.getD_some,fI,sI,innL_TL,innL_LL]))
 | (refine awp_ret ⟨.inr rfl,_,rfl,?_⟩; (try simp (disch := omega) only [push_cast,seval,hxp,h2,h5,set5,tak5,len5c,Option.isSome_some,Option.getD_some,fI,sI,innL_TL,innL_LL]))))
    · have hcb : ∀ p q : Nat,p < ts.length → q < ts.length → p ≠ q → cbI ts ls out p q = C p q := fun p q h1 h2 h3 => by
        unfold cbI
        rw [hxp,← hC]
        simp only
        rw [if_pos]
        simp only [pairB,Bool.and_eq_true,Bool.not_eq_true',decide_eq_false_iff_not,decide_eq_true_eq]
        omega
      have hJ : ∀ S : Option (Nat × Nat),(∀ t,S = some t → t.1 < ts.length ∧ t.2 < ts.length ∧ t.1 ≠ t.2) → cbI ts ls out (fJ S) (sJ S) = C (fJ S) (sJ S) := fun S hS => by
        cases S with
        | none => exact hcb 0 1 (by omega) (by omega) (by omega)
        | some t => have := hS t rfl; exact hcb t.1 t.2 this.1 this.2.1 this.2.2
      (repeat' (first
 | (first | refine awp_seq ?_ | refine awp_block ?_)
 | ((first | refine awp_reg ?_ | refine awp_condB ?_ | refine awp_skip ?_ | refine awp_exit ?_); simp (disch := omega) only [push_cast,seval,l39r0,l39r1,l39r2,l39r3,l39r4,l39r5,l39r6,l39r7,l39r8,l39r9,l39r10,l39r11,l39r12,l39r13,l39r14,hxp,h2,h5,set5,tak5,len5c,Option.isSome_some,Option.getD_some,innL_TL,innL_LL])
 | ((first | refine condB_split (fun h => ?_) (fun h => ?_) | refine gIf_split (fun h => ?_) (fun h => ?_) | refine qIf_split (fun h => ?_) (fun h => ?_)) <;> (try simp only [h]) <;> (try simp only [bitvec_to_nat] at h) <;> (try simp only [h]) <;> (first | (exfalso; omega) | (focus (exfalso; simp_all; done)) | (simp (disch := omega) only [push_cast,seval,hxp,h2,h5,set5,tak5,len5c,Option.isSome_some,Option.getD_some,innL_TL,innL_LL]) | skip))
 | ((first | refine callD_of false ?_ | refine qcallD_of false ?_); simp (disch := omega) only [push_cast,seval,hxp,h2,h5,set5,tak5,len5c,Option.isSome_some,Option.getD_some,innL_TL,innL_LL])
 | ((first | (refine call0D (BCall.ofP (extentsOf_ok _ _ _ _ _ _ ?_ ?_ ?_ ?_)) ?_; (iterate 4 (exact sd)); rintro _ _ ⟨⟨g,hg5,rfl⟩,rfl⟩; (try simp only [hxp,Option.getD_none,Option.getD_some] at hg5)) | (refine call0D (BCall.ofP (extentsOfN_ok _ _ _ _ ?_ ?_ ?_)) ?_; (iterate 3 (exact sd)); rintro _ _ ⟨⟨g,hg5,rfl⟩,rfl⟩; (try simp only [hxp,Option.getD_none,Option.getD_some] at hg5)) | ((first | refine call0D (BCall.ofP (iCostBy_ok _ _ _ _ _ _ _ _ ?_ ?_ ?_ ?_)) ?_ | refine qcall0D (BCall.ofP (iCostBy_ok _ _ _ _ _ _ _ _ ?_ ?_ ?_ ?_)) ⟨_,_,rfl,rfl⟩ ?_); (iterate 4 (exact sd)); rintro _ _ ⟨rfl,rfl⟩)) <;> (try simp (disch := omega) only [push_cast,seval,hxp,h2,h5,set5,tak5,len5c,Option.isSome_some,Option.getD_some,innL_TL,innL_LL]))
 | (refine awp_ret ⟨.inr rfl,_,rfl,?_⟩; (try simp (disch := omega) only [push_cast,seval,hxp,h2,h5,set5,tak5,len5c,Option.isSome_some,Option.getD_some,innL_TL,innL_LL]))))
      refine awp_loop (fun i : Nat => mkS [(0,.rows false (TL false ts) ts.length),(1,.rows false (LL false ls) ls.length),(2,RI out),(10,.int .i64 (fJ (outT C ts.length i))),(11,.int .i64 (sJ (outT C ts.length i))),(29,.int .i64 ts.length),(30,.int .i64 i)] []) (fun i => i ≤ ts.length) (fun i => ts.length - i) 0 (Nat.zero_le _) ?_ ?_
      · (refine Sub.of_lists ?_ ?_ ?_ ?_ ?_ <;> simp [Vw.mkS,Vw.lk,Vw.hk,AV.inn,innL,innL_ints,innL_append,innL_rep,-List.map_set,-List.getD_eq_getElem?_getD,innL_TL,innL_LL,outT,fJ,sJ])
      · intro i hi
        by_cases hlt : i < ts.length
        · (repeat' (first
 | (first | refine awp_seq ?_ | refine awp_block ?_)
 | ((first | refine awp_reg ?_ | refine awp_condB ?_ | refine awp_skip ?_ | refine awp_exit ?_); simp (disch := omega) only [push_cast,seval,l39r0,l39r1,l39r2,l39r3,l39r4,l39r5,l39r6,l39r7,l39r8,l39r9,l39r10,l39r11,l39r12,l39r13,l39r14,innL_TL,innL_LL])
 | ((first | refine condB_split (fun h => ?_) (fun h => ?_) | refine gIf_split (fun h => ?_) (fun h => ?_) | refine qIf_split (fun h => ?_) (fun h => ?_)) <;> (try simp only [h]) <;> (try simp only [bitvec_to_nat] at h) <;> (try simp only [h]) <;> (first | (exfalso; omega) | (focus (exfalso; simp_all; done)) | (simp (disch := omega) only [push_cast,seval,innL_TL,innL_LL]) | skip))
 | ((first | refine callD_of false ?_ | refine qcallD_of false ?_); simp (disch := omega) only [push_cast,seval,innL_TL,innL_LL])
 | ((first | (refine call0D (BCall.ofP (extentsOf_ok _ _ _ _ _ _ ?_ ?_ ?_ ?_)) ?_; (iterate 4 (exact sd)); rintro _ _ ⟨⟨g,hg5,rfl⟩,rfl⟩; (try simp only [hxp,Option.getD_none,Option.getD_some] at hg5)) | (refine call0D (BCall.ofP (extentsOfN_ok _ _ _ _ ?_ ?_ ?_)) ?_; (iterate 3 (exact sd)); rintro _ _ ⟨⟨g,hg5,rfl⟩,rfl⟩; (try simp only [hxp,Option.getD_none,Option.getD_some] at hg5)) | ((first | refine call0D (BCall.ofP (iCostBy_ok _ _ _ _ _ _ _ _ ?_ ?_ ?_ ?_)) ?_ | refine qcall0D (BCall.ofP (iCostBy_ok _ _ _ _ _ _ _ _ ?_ ?_ ?_ ?_)) ⟨_,_,rfl,rfl⟩ ?_); (iterate 4 (exact sd)); rintro _ _ ⟨rfl,rfl⟩)) <;> (try simp (disch := omega) only [push_cast,seval,innL_TL,innL_LL]))
 | (refine awp_ret ⟨.inr rfl,_,rfl,?_⟩; (try simp (disch := omega) only [push_cast,seval,innL_TL,innL_LL]))))
          refine awp_loop (fun k : Nat => mkS [(0,.rows false (TL false ts) ts.length),(1,.rows false (LL false ls) ls.length),(2,RI out),(10,.int .i64 (fJ (inT C i (outT C ts.length i) k))),(11,.int .i64 (sJ (inT C i (outT C ts.length i) k))),(12,.int .i64 i),(13,.int .i64 ((i : Int) + 1 + k)),(29,.int .i64 ts.length),(30,.int .i64 i)] []) (fun k => i + 1 + k ≤ ts.length) (fun k => ts.length - k) 0 (by omega) ?_ ?_
          · (refine Sub.of_lists ?_ ?_ ?_ ?_ ?_ <;> simp [Vw.mkS,Vw.lk,Vw.hk,AV.inn,innL,innL_ints,innL_append,innL_rep,-List.map_set,-List.getD_eq_getElem?_getD,innL_TL,innL_LL,inT])
          · intro k hk
            by_cases hkl : i + 1 + k < ts.length
            · have hce := hcb i (i + 1 + k) (by omega) (by omega) (by omega)
              have hij : (i : Int) + 1 + k = ((i + 1 + k : Nat) : Int) := by omega
              have hstp : inT C i (outT C ts.length i) (k + 1) = stp C (inT C i (outT C ts.length i) k) (i,i + 1 + k) := rfl
              have hlt2 : (((i + 1 + k : Nat) : Int)) < ts.length := by omega
              have hbd := fI_bound (c := C) (n := ts.length) (i := i) (k := k) (outT_bound (c := C) (n := ts.length) (i := i) (by omega)) (by omega)
              have hnone : inT C i (outT C ts.length i) k = none → i = 0 ∧ i + 1 + k = 1 := fun h => by
                by_cases hi0 : i = 0
                · subst hi0
                  by_cases hk0 : k = 0
                  · subst hk0; exact ⟨rfl,rfl⟩
                  · have := inT_some C 0 (outT C ts.length 0) k (.inl (by omega)); rw [h] at this; cases this
                · have := inT_some C i (outT C ts.length i) k (.inr (outT_some C _ (by omega) i (by omega))); rw [h] at this; cases this
              have hj := hJ _ hbd
              rw [hij]
              obtain ⟨r,hr⟩ : ∃ r : Nat,i + 1 + k = r := ⟨_,rfl⟩
              rw [hr] at hce hlt2 hstp hnone ⊢
              clear hbd
              generalize hS : inT C i (outT C ts.length i) k = S at *
              generalize hS2 : inT C i (outT C ts.length i) (k + 1) = S2 at *
              by_cases hg2 : C i r < C (fJ S) (sJ S)
              · have e1 := stpJ_lt (c := C) (s := S) (i := i) (q := r) hg2
                rw [e1] at hstp
                (repeat' (first
 | (first | refine awp_seq ?_ | refine awp_block ?_)
 | ((first | refine awp_reg ?_ | refine awp_condB ?_ | refine awp_skip ?_ | refine awp_exit ?_); simp (disch := omega) only [push_cast,seval,l39r0,l39r1,l39r2,l39r3,l39r4,l39r5,l39r6,l39r7,l39r8,l39r9,l39r10,l39r11,l39r12,l39r13,l39r14,hce,hj,hg2,innL_TL,innL_LL])
 | ((first | refine condB_split (fun h => ?_) (fun h => ?_) | refine gIf_split (fun h => ?_) (fun h => ?_) | refine qIf_split (fun h => ?_) (fun h => ?_)) <;> (try simp only [h]) <;> (try simp only [bitvec_to_nat] at h) <;> (try simp only [h]) <;> (first | (exfalso; omega) | (focus (exfalso; simp_all; done)) | (simp (disch := omega) only [push_cast,seval,hce,hj,hg2,innL_TL,innL_LL]) | skip))
 | ((first | refine callD_of false ?_ | refine qcallD_of false ?_); simp (disch := omega) only [push_cast,seval,hce,hj,hg2,innL_TL,innL_LL])
 | ((first | (refine call0D (BCall.ofP (extentsOf_ok _ _ _ _ _ _ ?_ ?_ ?_ ?_)) ?_; (iterate 4 (exact sd)); rintro _ _ ⟨⟨g,hg5,rfl⟩,rfl⟩; (try simp only [hxp,Option.getD_none,Option.getD_some] at hg5)) | (refine call0D (BCall.ofP (extentsOfN_ok _ _ _ _ ?_ ?_ ?_)) ?_; (iterate 3 (exact sd)); rintro _ _ ⟨⟨g,hg5,rfl⟩,rfl⟩; (try simp only [hxp,Option.getD_none,Option.getD_some] at hg5)) | ((first | refine call0D (BCall.ofP (iCostBy_ok _ _ _ _ _ _ _ _ ?_ ?_ ?_ ?_)) ?_ | refine qcall0D (BCall.ofP (iCostBy_ok _ _ _ _ _ _ _ _ ?_ ?_ ?_ ?_)) ⟨_,_,rfl,rfl⟩ ?_); (iterate 4 (exact sd)); rintro _ _ ⟨rfl,rfl⟩)) <;> (try simp (disch := omega) only [push_cast,seval,hce,hj,hg2,innL_TL,innL_LL]))
 | (refine awp_ret ⟨.inr rfl,_,rfl,?_⟩; (try simp (disch := omega) only [push_cast,seval,hce,hj,hg2,innL_TL,innL_LL]))))
                refine ⟨k + 1,by omega,by omega,?_⟩
                rw [hS2,hstp]
                have e5 : (i : Int) + 1 + ((k + 1 : Nat) : Int) = (r : Int) + 1 := by omega
                simp only [e5]
                (refine Sub.of_lists ?_ ?_ ?_ ?_ ?_ <;> simp [Vw.mkS,Vw.lk,Vw.hk,AV.inn,innL,innL_ints,innL_append,innL_rep,-List.map_set,-List.getD_eq_getElem?_getD,innL_TL,innL_LL,fJ,sJ])
              · obtain ⟨e1,e2⟩ := stpJ_ge (c := C) (s := S) (i := i) (q := r) hnone hg2
                rw [← hstp] at e1 e2
                (repeat' (first
 | (first | refine awp_seq ?_ | refine awp_block ?_)
 | ((first | refine awp_reg ?_ | refine awp_condB ?_ | refine awp_skip ?_ | refine awp_exit ?_); simp (disch := omega) only [push_cast,seval,l39r0,l39r1,l39r2,l39r3,l39r4,l39r5,l39r6,l39r7,l39r8,l39r9,l39r10,l39r11,l39r12,l39r13,l39r14,hce,hj,hg2,innL_TL,innL_LL])
 | ((first | refine condB_split (fun h => ?_) (fun h => ?_) | refine gIf_split (fun h => ?_) (fun h => ?_) | refine qIf_split (fun h => ?_) (fun h => ?_)) <;> (try simp only [h]) <;> (try simp only [bitvec_to_nat] at h) <;> (try simp only [h]) <;> (first | (exfalso; omega) | (focus (exfalso; simp_all; done)) | (simp (disch := omega) only [push_cast,seval,hce,hj,hg2,innL_TL,innL_LL]) | skip))
 | ((first | refine callD_of false ?_ | refine qcallD_of false ?_); simp (disch := omega) only [push_cast,seval,hce,hj,hg2,innL_TL,innL_LL])
 | ((first | (refine call0D (BCall.ofP (extentsOf_ok _ _ _ _ _ _ ?_ ?_ ?_ ?_)) ?_; (iterate 4 (exact sd)); rintro _ _ ⟨⟨g,hg5,rfl⟩,rfl⟩; (try simp only [hxp,Option.getD_none,Option.getD_some] at hg5)) | (refine call0D (BCall.ofP (extentsOfN_ok _ _ _ _ ?_ ?_ ?_)) ?_; (iterate 3 (exact sd)); rintro _ _ ⟨⟨g,hg5,rfl⟩,rfl⟩; (try simp only [hxp,Option.getD_none,Option.getD_some] at hg5)) | ((first | refine call0D (BCall.ofP (iCostBy_ok _ _ _ _ _ _ _ _ ?_ ?_ ?_ ?_)) ?_ | refine qcall0D (BCall.ofP (iCostBy_ok _ _ _ _ _ _ _ _ ?_ ?_ ?_ ?_)) ⟨_,_,rfl,rfl⟩ ?_); (iterate 4 (exact sd)); rintro _ _ ⟨rfl,rfl⟩)) <;> (try simp (disch := omega) only [push_cast,seval,hce,hj,hg2,innL_TL,innL_LL]))
 | (refine awp_ret ⟨.inr rfl,_,rfl,?_⟩; (try simp (disch := omega) only [push_cast,seval,hce,hj,hg2,innL_TL,innL_LL]))))
                refine ⟨k + 1,by omega,by omega,?_⟩
                rw [hS2,e1,e2]
                have e5 : (i : Int) + 1 + ((k + 1 : Nat) : Int) = (r : Int) + 1 := by omega
                simp only [e5]
                (refine Sub.of_lists ?_ ?_ ?_ ?_ ?_ <;> simp [Vw.mkS,Vw.lk,Vw.hk,AV.inn,innL,innL_ints,innL_append,innL_rep,-List.map_set,-List.getD_eq_getElem?_getD,innL_TL,innL_LL])
            · have ek : k = ts.length - (i + 1) := by omega
              have eo : inT C i (outT C ts.length i) k = outT C ts.length (i + 1) := by rw [ek]; rfl
              rw [eo]
              have hge : ¬ (i : Int) + 1 + k < ts.length := by omega
              generalize hS : outT C ts.length (i + 1) = S at *
              (repeat' (first
 | (first | refine awp_seq ?_ | refine awp_block ?_)
 | ((first | refine awp_reg ?_ | refine awp_condB ?_ | refine awp_skip ?_ | refine awp_exit ?_); simp (disch := omega) only [push_cast,seval,l39r0,l39r1,l39r2,l39r3,l39r4,l39r5,l39r6,l39r7,l39r8,l39r9,l39r10,l39r11,l39r12,l39r13,l39r14,hge,innL_TL,innL_LL])
 | ((first | refine condB_split (fun h => ?_) (fun h => ?_) | refine gIf_split (fun h => ?_) (fun h => ?_) | refine qIf_split (fun h => ?_) (fun h => ?_)) <;> (try simp only [h]) <;> (try simp only [bitvec_to_nat] at h) <;> (try simp only [h]) <;> (first | (exfalso; omega) | (focus (exfalso; simp_all; done)) | (simp (disch := omega) only [push_cast,seval,hge,innL_TL,innL_LL]) | skip))
 | ((first | refine callD_of false ?_ | refine qcallD_of false ?_); simp (disch := omega) only [push_cast,seval,hge,innL_TL,innL_LL])
 | ((first | (refine call0D (BCall.ofP (extentsOf_ok _ _ _ _ _ _ ?_ ?_ ?_ ?_)) ?_; (iterate 4 (exact sd)); rintro _ _ ⟨⟨g,hg5,rfl⟩,rfl⟩; (try simp only [hxp,Option.getD_none,Option.getD_some] at hg5)) | (refine call0D (BCall.ofP (extentsOfN_ok _ _ _ _ ?_ ?_ ?_)) ?_; (iterate 3 (exact sd)); rintro _ _ ⟨⟨g,hg5,rfl⟩,rfl⟩; (try simp only [hxp,Option.getD_none,Option.getD_some] at hg5)) | ((first | refine call0D (BCall.ofP (iCostBy_ok _ _ _ _ _ _ _ _ ?_ ?_ ?_ ?_)) ?_ | refine qcall0D (BCall.ofP (iCostBy_ok _ _ _ _ _ _ _ _ ?_ ?_ ?_ ?_)) ⟨_,_,rfl,rfl⟩ ?_); (iterate 4 (exact sd)); rintro _ _ ⟨rfl,rfl⟩)) <;> (try simp (disch := omega) only [push_cast,seval,hge,innL_TL,innL_LL]))
 | (refine awp_ret ⟨.inr rfl,_,rfl,?_⟩; (try simp (disch := omega) only [push_cast,seval,hge,innL_TL,innL_LL]))))
              refine ⟨i + 1,by omega,by omega,?_⟩
              rw [hS]
              (refine Sub.of_lists ?_ ?_ ?_ ?_ ?_ <;> simp [Vw.mkS,Vw.lk,Vw.hk,AV.inn,innL,innL_ints,innL_append,innL_rep,-List.map_set,-List.getD_eq_getElem?_getD,innL_TL,innL_LL])
        · have ei : i = ts.length := by omega
          subst ei
          obtain ⟨e1,e2⟩ := fI_some (outT_some C ts.length (by omega) ts.length (by omega))
          rw [e1,e2]
          generalize outT C ts.length ts.length = S at *
          (repeat' (first
 | (first | refine awp_seq ?_ | refine awp_block ?_)
 | ((first | refine awp_reg ?_ | refine awp_condB ?_ | refine awp_skip ?_ | refine awp_exit ?_); simp (disch := omega) only [push_cast,seval,l39r0,l39r1,l39r2,l39r3,l39r4,l39r5,l39r6,l39r7,l39r8,l39r9,l39r10,l39r11,l39r12,l39r13,l39r14,innL_TL,innL_LL])
 | ((first | refine condB_split (fun h => ?_) (fun h => ?_) | refine gIf_split (fun h => ?_) (fun h => ?_) | refine qIf_split (fun h => ?_) (fun h => ?_)) <;> (try simp only [h]) <;> (try simp only [bitvec_to_nat] at h) <;> (try simp only [h]) <;> (first | (exfalso; omega) | (focus (exfalso; simp_all; done)) | (simp (disch := omega) only [push_cast,seval,innL_TL,innL_LL]) | skip))
 | ((first | refine callD_of false ?_ | refine qcallD_of false ?_); simp (disch := omega) only [push_cast,seval,innL_TL,innL_LL])
 | ((first | (refine call0D (BCall.ofP (extentsOf_ok _ _ _ _ _ _ ?_ ?_ ?_ ?_)) ?_; (iterate 4 (exact sd)); rintro _ _ ⟨⟨g,hg5,rfl⟩,rfl⟩; (try simp only [hxp,Option.getD_none,Option.getD_some] at hg5)) | (refine call0D (BCall.ofP (extentsOfN_ok _ _ _ _ ?_ ?_ ?_)) ?_; (iterate 3 (exact sd)); rintro _ _ ⟨⟨g,hg5,rfl⟩,rfl⟩; (try simp only [hxp,Option.getD_none,Option.getD_some] at hg5)) | ((first | refine call0D (BCall.ofP (iCostBy_ok _ _ _ _ _ _ _ _ ?_ ?_ ?_ ?_)) ?_ | refine qcall0D (BCall.ofP (iCostBy_ok _ _ _ _ _ _ _ _ ?_ ?_ ?_ ?_)) ⟨_,_,rfl,rfl⟩ ?_); (iterate 4 (exact sd)); rintro _ _ ⟨rfl,rfl⟩)) <;> (try simp (disch := omega) only [push_cast,seval,innL_TL,innL_LL]))
 | (refine awp_ret ⟨.inr rfl,_,rfl,?_⟩; (try simp (disch := omega) only [push_cast,seval,innL_TL,innL_LL]))))


set_option maxHeartbeats 16000000 in
theorem lCostBy_ok (ts : List Tn) (ls : List (List Int)) (out : List Int) (i j : Int) (hn : ts.length ≤ 9223372036854775807) (hm : ls.length ≤ 9223372036854775807) (hq : out.length ≤ 9223372036854775807) (hb : ∀ t ∈ ts,t.1.length ≤ 9223372036854775807 ∧ t.2.length ≤ 9223372036854775807) (hb' : ∀ l ∈ ls,l.length ≤ 9223372036854775807) : PCall Try.prog 6 [.rows false (TL false ts) ts.length,.rows false (LL false ls) ls.length,RI out,.int .i64 i,.int .i64 j] (fun r => r = .bool true) := by
  refine pcall_of l6_eq rfl ?_
  have hq1 : ts.length ≤ 9223372036854775807 ∧ ∀ t ∈ ts,t.1.length ≤ 9223372036854775807 ∧ t.2.length ≤ 9223372036854775807 := ⟨hn,hb⟩
  have hq' : ls.length ≤ 9223372036854775807 ∧ ∀ l ∈ ls,l.length ≤ 9223372036854775807 := ⟨hm,hb'⟩
  by_cases ho : out.length ≤ 1048576
  · (repeat' (first
 | (first | refine awp_seq ?_ | refine awp_block ?_)
 | ((first | refine awp_reg ?_ | refine awp_condB ?_ | refine awp_skip ?_ | refine awp_exit ?_); simp (disch := omega) only [push_cast,seval,l6r0,l6r1,l6r2,l6r3,l6r4,l6r5,l6r6,l6r7,l6r8,l6r9,l6r10,l6r11,l6r12,l6r13,l6r14,l6r15,l6r16,l6r17,l6r18,l6r19,l6r20,l6r21,l6r22,l6r23,innL_TL,innL_LL])
 | ((first | refine condB_split (fun h => ?_) (fun h => ?_) | refine gIf_split (fun h => ?_) (fun h => ?_) | refine qIf_split (fun h => ?_) (fun h => ?_)) <;> (try simp only [h]) <;> (try simp only [bitvec_to_nat] at h) <;> (try simp only [h]) <;> (first | (exfalso; omega) | (focus (exfalso; simp_all; done)) | (simp (disch := omega) only [push_cast,seval,innL_TL,innL_LL]) | skip))
 | ((first | refine callD_of false ?_ | refine qcallD_of false ?_); simp (disch := omega) only [push_cast,seval,innL_TL,innL_LL])
 | ((first | (refine call0D (BCall.ofP (szTensorS_ok _ _ _ ?_ ?_ ?_)) ?_; (iterate 3 (exact sd)); rintro _ _ ⟨⟨z,hz,rfl⟩,rfl⟩) | (refine call0D (BCall.ofP (szIntSS_ok _ _ _ ?_ ?_ ?_)) ?_; (iterate 3 (exact sd)); rintro _ _ ⟨⟨z2,hz2,rfl⟩,rfl⟩) | ((first | refine call0D (BCall.ofP (toTensorSP_ok _ _ ?_ ?_)) ?_ | refine qcall0D (BCall.ofP (toTensorSP_ok _ _ ?_ ?_)) ⟨_,_,rfl,rfl⟩ ?_); (iterate 2 (exact sd)); rintro _ _ ⟨rfl,rfl⟩) | ((first | refine call0D (BCall.ofP (toIntSSP_ok _ _ ?_ ?_)) ?_ | refine qcall0D (BCall.ofP (toIntSSP_ok _ _ ?_ ?_)) ⟨_,_,rfl,rfl⟩ ?_); (iterate 2 (exact sd)); rintro _ _ ⟨rfl,rfl⟩) | ((first | refine call0D (toIntS_ok _ _ ?_ ?_) ?_ | refine qcall0D (toIntS_ok _ _ ?_ ?_) ⟨_,_,rfl,rfl⟩ ?_); (iterate 2 (exact sd)); rintro _ _ ⟨rfl,rfl⟩) | ((first | refine call0D (BCall.ofP (sCostBy_ok _ _ _ _ _ _ _ _ ?_ ?_ ?_ ?_)) ?_ | refine qcall0D (BCall.ofP (sCostBy_ok _ _ _ _ _ _ _ _ ?_ ?_ ?_ ?_)) ⟨_,_,rfl,rfl⟩ ?_); (iterate 4 (exact sd)); rintro _ _ ⟨rfl,rfl⟩) | ((first | refine call0D (BCall.ofP (iCostBy_ok _ _ _ _ _ _ _ _ ?_ ?_ ?_ ?_)) ?_ | refine qcall0D (BCall.ofP (iCostBy_ok _ _ _ _ _ _ _ _ ?_ ?_ ?_ ?_)) ⟨_,_,rfl,rfl⟩ ?_); (iterate 4 (exact sd)); rintro _ _ ⟨rfl,rfl⟩) | ((first | refine call0D (BCall.ofP (eqTensorS_ok _ _ ?_ ?_)) ?_ | refine qcall0D (BCall.ofP (eqTensorS_ok _ _ ?_ ?_)) ⟨_,_,rfl,rfl⟩ ?_); (iterate 2 (exact sd)); rintro _ _ ⟨rfl,rfl⟩) | ((first | refine call0D (BCall.ofP (eqIntSS_ok _ _ ?_ ?_)) ?_ | refine qcall0D (BCall.ofP (eqIntSS_ok _ _ ?_ ?_)) ⟨_,_,rfl,rfl⟩ ?_); (iterate 2 (exact sd)); rintro _ _ ⟨rfl,rfl⟩) | ((first | refine call0D (BCall.ofP (eqIntS_ok _ _ _ _ ?_ ?_ ?_)) ?_ | refine qcall0D (BCall.ofP (eqIntS_ok _ _ _ _ ?_ ?_ ?_)) ⟨_,_,rfl,rfl⟩ ?_); (iterate 3 (exact sd)); rintro _ _ ⟨rfl,rfl⟩)) <;> (try simp (disch := omega) only [push_cast,seval,innL_TL,innL_LL]))
 | (refine awp_ret ⟨.inr rfl,_,rfl,?_⟩; (try simp (disch := omega) only [push_cast,seval,innL_TL,innL_LL]))))
    obtain ⟨hz1,hz3,hz4⟩ := hz (by assumption)
    obtain ⟨hz5,hz6,hz7⟩ := hz2 (by assumption)
    have q5 : ts.length ≤ 1048576 ∧ ∀ t ∈ ts,t.1.length ≤ 1099511627776 ∧ t.2.length ≤ 1099511627776 := ⟨hz3,fun v hv => by have := hz4 v hv; omega⟩
    have q6 : ls.length ≤ 1048576 ∧ ∀ l ∈ ls,l.length ≤ 1099511627776 := ⟨hz6,fun v hv => by have := hz7 v hv; omega⟩
    have q7 : ts.length ≤ 1099511627776 ∧ ∀ t ∈ ts,t.1.length ≤ 1099511627776 ∧ t.2.length ≤ 1099511627776 := ⟨by omega,q5.2⟩
    have q8 : ls.length ≤ 1099511627776 ∧ ∀ l ∈ ls,l.length ≤ 1099511627776 := ⟨by omega,q6.2⟩
    have q9 : ts.length ≤ 1048576 ∧ ls.length ≤ 1048576 ∧ out.length ≤ 1048576 ∧ (∀ t ∈ ts,t.1.length ≤ 1048576 ∧ t.2.length ≤ 1048576) ∧ ∀ l ∈ ls,l.length ≤ 1048576 := ⟨hz3,hz6,ho,hz4,hz7⟩
    (repeat' (first
 | (first | refine awp_seq ?_ | refine awp_block ?_)
 | ((first | refine awp_reg ?_ | refine awp_condB ?_ | refine awp_skip ?_ | refine awp_exit ?_); simp (disch := omega) only [push_cast,seval,l6r0,l6r1,l6r2,l6r3,l6r4,l6r5,l6r6,l6r7,l6r8,l6r9,l6r10,l6r11,l6r12,l6r13,l6r14,l6r15,l6r16,l6r17,l6r18,l6r19,l6r20,l6r21,l6r22,l6r23,innL_TL,innL_LL,decide_true])
 | ((first | refine condB_split (fun h => ?_) (fun h => ?_) | refine gIf_split (fun h => ?_) (fun h => ?_) | refine qIf_split (fun h => ?_) (fun h => ?_)) <;> (try simp only [h]) <;> (try simp only [bitvec_to_nat] at h) <;> (try simp only [h]) <;> (first | (exfalso; omega) | (focus (exfalso; simp_all; done)) | (simp (disch := omega) only [push_cast,seval,innL_TL,innL_LL,decide_true]) | skip))
 | ((first | refine callD_of false ?_ | refine qcallD_of false ?_); simp (disch := omega) only [push_cast,seval,innL_TL,innL_LL,decide_true])
 | ((first | (refine call0D (BCall.ofP (szTensorS_ok _ _ _ ?_ ?_ ?_)) ?_; (iterate 3 (exact sd)); rintro _ _ ⟨⟨z,hz,rfl⟩,rfl⟩) | (refine call0D (BCall.ofP (szIntSS_ok _ _ _ ?_ ?_ ?_)) ?_; (iterate 3 (exact sd)); rintro _ _ ⟨⟨z2,hz2,rfl⟩,rfl⟩) | ((first | refine call0D (BCall.ofP (toTensorSP_ok _ _ ?_ ?_)) ?_ | refine qcall0D (BCall.ofP (toTensorSP_ok _ _ ?_ ?_)) ⟨_,_,rfl,rfl⟩ ?_); (iterate 2 (exact sd)); rintro _ _ ⟨rfl,rfl⟩) | ((first | refine call0D (BCall.ofP (toIntSSP_ok _ _ ?_ ?_)) ?_ | refine qcall0D (BCall.ofP (toIntSSP_ok _ _ ?_ ?_)) ⟨_,_,rfl,rfl⟩ ?_); (iterate 2 (exact sd)); rintro _ _ ⟨rfl,rfl⟩) | ((first | refine call0D (toIntS_ok _ _ ?_ ?_) ?_ | refine qcall0D (toIntS_ok _ _ ?_ ?_) ⟨_,_,rfl,rfl⟩ ?_); (iterate 2 (exact sd)); rintro _ _ ⟨rfl,rfl⟩) | ((first | refine call0D (BCall.ofP (sCostBy_ok _ _ _ _ _ _ _ _ ?_ ?_ ?_ ?_)) ?_ | refine qcall0D (BCall.ofP (sCostBy_ok _ _ _ _ _ _ _ _ ?_ ?_ ?_ ?_)) ⟨_,_,rfl,rfl⟩ ?_); (iterate 4 (exact sd)); rintro _ _ ⟨rfl,rfl⟩) | ((first | refine call0D (BCall.ofP (iCostBy_ok _ _ _ _ _ _ _ _ ?_ ?_ ?_ ?_)) ?_ | refine qcall0D (BCall.ofP (iCostBy_ok _ _ _ _ _ _ _ _ ?_ ?_ ?_ ?_)) ⟨_,_,rfl,rfl⟩ ?_); (iterate 4 (exact sd)); rintro _ _ ⟨rfl,rfl⟩) | ((first | refine call0D (BCall.ofP (eqTensorS_ok _ _ ?_ ?_)) ?_ | refine qcall0D (BCall.ofP (eqTensorS_ok _ _ ?_ ?_)) ⟨_,_,rfl,rfl⟩ ?_); (iterate 2 (exact sd)); rintro _ _ ⟨rfl,rfl⟩) | ((first | refine call0D (BCall.ofP (eqIntSS_ok _ _ ?_ ?_)) ?_ | refine qcall0D (BCall.ofP (eqIntSS_ok _ _ ?_ ?_)) ⟨_,_,rfl,rfl⟩ ?_); (iterate 2 (exact sd)); rintro _ _ ⟨rfl,rfl⟩) | ((first | refine call0D (BCall.ofP (eqIntS_ok _ _ _ _ ?_ ?_ ?_)) ?_ | refine qcall0D (BCall.ofP (eqIntS_ok _ _ _ _ ?_ ?_ ?_)) ⟨_,_,rfl,rfl⟩ ?_); (iterate 3 (exact sd)); rintro _ _ ⟨rfl,rfl⟩)) <;> (try simp (disch := omega) only [push_cast,seval,innL_TL,innL_LL,decide_true]))
 | (refine awp_ret ⟨.inr rfl,_,rfl,?_⟩; (try simp (disch := omega) only [push_cast,seval,innL_TL,innL_LL,decide_true]))))
    all_goals skip
  · (repeat' (first
 | (first | refine awp_seq ?_ | refine awp_block ?_)
 | ((first | refine awp_reg ?_ | refine awp_condB ?_ | refine awp_skip ?_ | refine awp_exit ?_); simp (disch := omega) only [push_cast,seval,l6r0,l6r1,l6r2,l6r3,l6r4,l6r5,l6r6,l6r7,l6r8,l6r9,l6r10,l6r11,l6r12,l6r13,l6r14,l6r15,l6r16,l6r17,l6r18,l6r19,l6r20,l6r21,l6r22,l6r23,innL_TL,innL_LL])
 | ((first | refine condB_split (fun h => ?_) (fun h => ?_) | refine gIf_split (fun h => ?_) (fun h => ?_) | refine qIf_split (fun h => ?_) (fun h => ?_)) <;> (try simp only [h]) <;> (try simp only [bitvec_to_nat] at h) <;> (try simp only [h]) <;> (first | (exfalso; omega) | (focus (exfalso; simp_all; done)) | (simp (disch := omega) only [push_cast,seval,innL_TL,innL_LL]) | skip))
 | ((first | refine callD_of false ?_ | refine qcallD_of false ?_); simp (disch := omega) only [push_cast,seval,innL_TL,innL_LL])
 | ((first | (refine call0D (BCall.ofP (szTensorS_ok _ _ _ ?_ ?_ ?_)) ?_; (iterate 3 (exact sd)); rintro _ _ ⟨⟨z,hz,rfl⟩,rfl⟩) | (refine call0D (BCall.ofP (szIntSS_ok _ _ _ ?_ ?_ ?_)) ?_; (iterate 3 (exact sd)); rintro _ _ ⟨⟨z2,hz2,rfl⟩,rfl⟩) | ((first | refine call0D (BCall.ofP (toTensorSP_ok _ _ ?_ ?_)) ?_ | refine qcall0D (BCall.ofP (toTensorSP_ok _ _ ?_ ?_)) ⟨_,_,rfl,rfl⟩ ?_); (iterate 2 (exact sd)); rintro _ _ ⟨rfl,rfl⟩) | ((first | refine call0D (BCall.ofP (toIntSSP_ok _ _ ?_ ?_)) ?_ | refine qcall0D (BCall.ofP (toIntSSP_ok _ _ ?_ ?_)) ⟨_,_,rfl,rfl⟩ ?_); (iterate 2 (exact sd)); rintro _ _ ⟨rfl,rfl⟩) | ((first | refine call0D (toIntS_ok _ _ ?_ ?_) ?_ | refine qcall0D (toIntS_ok _ _ ?_ ?_) ⟨_,_,rfl,rfl⟩ ?_); (iterate 2 (exact sd)); rintro _ _ ⟨rfl,rfl⟩) | ((first | refine call0D (BCall.ofP (sCostBy_ok _ _ _ _ _ _ _ _ ?_ ?_ ?_ ?_)) ?_ | refine qcall0D (BCall.ofP (sCostBy_ok _ _ _ _ _ _ _ _ ?_ ?_ ?_ ?_)) ⟨_,_,rfl,rfl⟩ ?_); (iterate 4 (exact sd)); rintro _ _ ⟨rfl,rfl⟩) | ((first | refine call0D (BCall.ofP (iCostBy_ok _ _ _ _ _ _ _ _ ?_ ?_ ?_ ?_)) ?_ | refine qcall0D (BCall.ofP (iCostBy_ok _ _ _ _ _ _ _ _ ?_ ?_ ?_ ?_)) ⟨_,_,rfl,rfl⟩ ?_); (iterate 4 (exact sd)); rintro _ _ ⟨rfl,rfl⟩) | ((first | refine call0D (BCall.ofP (eqTensorS_ok _ _ ?_ ?_)) ?_ | refine qcall0D (BCall.ofP (eqTensorS_ok _ _ ?_ ?_)) ⟨_,_,rfl,rfl⟩ ?_); (iterate 2 (exact sd)); rintro _ _ ⟨rfl,rfl⟩) | ((first | refine call0D (BCall.ofP (eqIntSS_ok _ _ ?_ ?_)) ?_ | refine qcall0D (BCall.ofP (eqIntSS_ok _ _ ?_ ?_)) ⟨_,_,rfl,rfl⟩ ?_); (iterate 2 (exact sd)); rintro _ _ ⟨rfl,rfl⟩) | ((first | refine call0D (BCall.ofP (eqIntS_ok _ _ _ _ ?_ ?_ ?_)) ?_ | refine qcall0D (BCall.ofP (eqIntS_ok _ _ _ _ ?_ ?_ ?_)) ⟨_,_,rfl,rfl⟩ ?_); (iterate 3 (exact sd)); rintro _ _ ⟨rfl,rfl⟩)) <;> (try simp (disch := omega) only [push_cast,seval,innL_TL,innL_LL]))
 | (refine awp_ret ⟨.inr rfl,_,rfl,?_⟩; (try simp (disch := omega) only [push_cast,seval,innL_TL,innL_LL]))))
theorem lCostBy2_ok (x0 : List (List Int × List Int × Unit)) (x1 : List (List Int)) (x2 : List Int) (i j : Int) (h1 : ∀ a ∈ x0,Vw.goodS Vw.goodI a.1 ∧ Vw.goodS Vw.goodI a.2.1 ∧ True) (h2 : x0.length ≤ 9223372036854775807) (h3 : ∀ a ∈ x1,Vw.goodS Vw.goodI a) (h4 : x1.length ≤ 9223372036854775807) (h5 : x2.length ≤ 9223372036854775807) : PCall Try.prog 6 [.rows false (x0.flatMap fun p => Vw.enS Vw.enI p.1 ++ (Vw.enS Vw.enI p.2.1 ++ [])) x0.length,.rows false (x1.flatMap fun p => Vw.enS Vw.enI p) x1.length,RI x2,.int .i64 i,.int .i64 j] (fun r => r = .bool true) := by
  have h := lCostBy_ok (x0.map fun p => (p.1,p.2.1)) x1 x2 i j (by simpa using h2) h4 h5 (fun v hv => by
    obtain ⟨a,ha,rfl⟩ := List.mem_map.1 hv
    have := h1 a ha
    exact ⟨this.1.2,this.2.1.2⟩) (fun v hv => (h3 v hv).2)
  rw [List.length_map] at h
  rw [flat_T3,flat_L2]
  exact h


set_option maxHeartbeats 16000000 in
theorem lBestPair_ok (ts : List Tn) (ls : List (List Int)) (out : List Int) (hn : ts.length ≤ 9223372036854775807) (hm : ls.length ≤ 9223372036854775807) (hq : out.length ≤ 9223372036854775807) (hb : ∀ t ∈ ts,t.1.length ≤ 9223372036854775807 ∧ t.2.length ≤ 9223372036854775807) (hb' : ∀ l ∈ ls,l.length ≤ 9223372036854775807) : PCall Try.prog 7 [.rows false (TL false ts) ts.length,.rows false (LL false ls) ls.length,RI out] (fun r => r = .bool true) := by
  refine pcall_of l7_eq rfl ?_
  have hq1 : ts.length ≤ 9223372036854775807 ∧ ∀ t ∈ ts,t.1.length ≤ 9223372036854775807 ∧ t.2.length ≤ 9223372036854775807 := ⟨hn,hb⟩
  have hq' : ls.length ≤ 9223372036854775807 ∧ ∀ l ∈ ls,l.length ≤ 9223372036854775807 := ⟨hm,hb'⟩
  by_cases ho : out.length ≤ 1048576
  · (repeat' (first
 | (first | refine awp_seq ?_ | refine awp_block ?_)
 | ((first | refine awp_reg ?_ | refine awp_condB ?_ | refine awp_skip ?_ | refine awp_exit ?_); simp (disch := omega) only [push_cast,seval,l7r0,l7r1,l7r2,l7r3,l7r4,l7r5,l7r6,l7r7,l7r8,l7r9,l7r10,l7r11,l7r12,l7r13,l7r14,l7r15,l7r16,l7r17,l7r18,l7r19,l7r20,l7r21,l7r22,l7r23,innL_TL,innL_LL])
 | ((first | refine condB_split (fun h => ?_) (fun h => ?_) | refine gIf_split (fun h => ?_) (fun h => ?_) | refine qIf_split (fun h => ?_) (fun h => ?_)) <;> (try simp only [h]) <;> (try simp only [bitvec_to_nat] at h) <;> (try simp only [h]) <;> (first | (exfalso; omega) | (focus (exfalso; simp_all; done)) | (simp (disch := omega) only [push_cast,seval,innL_TL,innL_LL]) | skip))
 | ((first | refine callD_of false ?_ | refine qcallD_of false ?_); simp (disch := omega) only [push_cast,seval,innL_TL,innL_LL])
 | ((first | (refine call0D (BCall.ofP (szTensorS_ok _ _ _ ?_ ?_ ?_)) ?_; (iterate 3 (exact sd)); rintro _ _ ⟨⟨z,hz,rfl⟩,rfl⟩) | (refine call0D (BCall.ofP (szIntSS_ok _ _ _ ?_ ?_ ?_)) ?_; (iterate 3 (exact sd)); rintro _ _ ⟨⟨z2,hz2,rfl⟩,rfl⟩) | ((first | refine call0D (BCall.ofP (toTensorSP_ok _ _ ?_ ?_)) ?_ | refine qcall0D (BCall.ofP (toTensorSP_ok _ _ ?_ ?_)) ⟨_,_,rfl,rfl⟩ ?_); (iterate 2 (exact sd)); rintro _ _ ⟨rfl,rfl⟩) | ((first | refine call0D (BCall.ofP (toIntSSP_ok _ _ ?_ ?_)) ?_ | refine qcall0D (BCall.ofP (toIntSSP_ok _ _ ?_ ?_)) ⟨_,_,rfl,rfl⟩ ?_); (iterate 2 (exact sd)); rintro _ _ ⟨rfl,rfl⟩) | ((first | refine call0D (toIntS_ok _ _ ?_ ?_) ?_ | refine qcall0D (toIntS_ok _ _ ?_ ?_) ⟨_,_,rfl,rfl⟩ ?_); (iterate 2 (exact sd)); rintro _ _ ⟨rfl,rfl⟩) | ((first | refine call0D (BCall.ofP (sBest_ok _ _ _ _ _ _ ?_ ?_ ?_ ?_)) ?_ | refine qcall0D (BCall.ofP (sBest_ok _ _ _ _ _ _ ?_ ?_ ?_ ?_)) ⟨_,_,rfl,rfl⟩ ?_); (iterate 4 (exact sd)); rintro _ _ ⟨rfl,rfl⟩) | ((first | refine call0D (BCall.ofP (iBest_ok _ _ _ _ _ _ ?_ ?_ ?_ ?_)) ?_ | refine qcall0D (BCall.ofP (iBest_ok _ _ _ _ _ _ ?_ ?_ ?_ ?_)) ⟨_,_,rfl,rfl⟩ ?_); (iterate 4 (exact sd)); rintro _ _ ⟨rfl,rfl⟩) | ((first | refine call0D (BCall.ofP (eqTensorS_ok _ _ ?_ ?_)) ?_ | refine qcall0D (BCall.ofP (eqTensorS_ok _ _ ?_ ?_)) ⟨_,_,rfl,rfl⟩ ?_); (iterate 2 (exact sd)); rintro _ _ ⟨rfl,rfl⟩) | ((first | refine call0D (BCall.ofP (eqIntSS_ok _ _ ?_ ?_)) ?_ | refine qcall0D (BCall.ofP (eqIntSS_ok _ _ ?_ ?_)) ⟨_,_,rfl,rfl⟩ ?_); (iterate 2 (exact sd)); rintro _ _ ⟨rfl,rfl⟩) | ((first | refine call0D (BCall.ofP (eqIntS_ok _ _ _ _ ?_ ?_ ?_)) ?_ | refine qcall0D (BCall.ofP (eqIntS_ok _ _ _ _ ?_ ?_ ?_)) ⟨_,_,rfl,rfl⟩ ?_); (iterate 3 (exact sd)); rintro _ _ ⟨rfl,rfl⟩)) <;> (try simp (disch := omega) only [push_cast,seval,innL_TL,innL_LL]))
 | (refine awp_ret ⟨.inr rfl,_,rfl,?_⟩; (try simp (disch := omega) only [push_cast,seval,innL_TL,innL_LL]))))
    obtain ⟨hz1,hz3,hz4⟩ := hz (by assumption)
    obtain ⟨hz5,hz6,hz7⟩ := hz2 (by assumption)
    have q5 : ts.length ≤ 1048576 ∧ ∀ t ∈ ts,t.1.length ≤ 1099511627776 ∧ t.2.length ≤ 1099511627776 := ⟨hz3,fun v hv => by have := hz4 v hv; omega⟩
    have q6 : ls.length ≤ 1048576 ∧ ∀ l ∈ ls,l.length ≤ 1099511627776 := ⟨hz6,fun v hv => by have := hz7 v hv; omega⟩
    have q7 : ts.length ≤ 1099511627776 ∧ ∀ t ∈ ts,t.1.length ≤ 1099511627776 ∧ t.2.length ≤ 1099511627776 := ⟨by omega,q5.2⟩
    have q8 : ls.length ≤ 1099511627776 ∧ ∀ l ∈ ls,l.length ≤ 1099511627776 := ⟨by omega,q6.2⟩
    have q9 : ts.length ≤ 1048576 ∧ ls.length ≤ 1048576 ∧ out.length ≤ 1048576 ∧ (∀ t ∈ ts,t.1.length ≤ 1048576 ∧ t.2.length ≤ 1048576) ∧ ∀ l ∈ ls,l.length ≤ 1048576 := ⟨hz3,hz6,ho,hz4,hz7⟩
    (repeat' (first
 | (first | refine awp_seq ?_ | refine awp_block ?_)
 | ((first | refine awp_reg ?_ | refine awp_condB ?_ | refine awp_skip ?_ | refine awp_exit ?_); simp (disch := omega) only [push_cast,seval,l7r0,l7r1,l7r2,l7r3,l7r4,l7r5,l7r6,l7r7,l7r8,l7r9,l7r10,l7r11,l7r12,l7r13,l7r14,l7r15,l7r16,l7r17,l7r18,l7r19,l7r20,l7r21,l7r22,l7r23,innL_TL,innL_LL,decide_true])
 | ((first | refine condB_split (fun h => ?_) (fun h => ?_) | refine gIf_split (fun h => ?_) (fun h => ?_) | refine qIf_split (fun h => ?_) (fun h => ?_)) <;> (try simp only [h]) <;> (try simp only [bitvec_to_nat] at h) <;> (try simp only [h]) <;> (first | (exfalso; omega) | (focus (exfalso; simp_all; done)) | (simp (disch := omega) only [push_cast,seval,innL_TL,innL_LL,decide_true]) | skip))
 | ((first | refine callD_of false ?_ | refine qcallD_of false ?_); simp (disch := omega) only [push_cast,seval,innL_TL,innL_LL,decide_true])
 | ((first | (refine call0D (BCall.ofP (szTensorS_ok _ _ _ ?_ ?_ ?_)) ?_; (iterate 3 (exact sd)); rintro _ _ ⟨⟨z,hz,rfl⟩,rfl⟩) | (refine call0D (BCall.ofP (szIntSS_ok _ _ _ ?_ ?_ ?_)) ?_; (iterate 3 (exact sd)); rintro _ _ ⟨⟨z2,hz2,rfl⟩,rfl⟩) | ((first | refine call0D (BCall.ofP (toTensorSP_ok _ _ ?_ ?_)) ?_ | refine qcall0D (BCall.ofP (toTensorSP_ok _ _ ?_ ?_)) ⟨_,_,rfl,rfl⟩ ?_); (iterate 2 (exact sd)); rintro _ _ ⟨rfl,rfl⟩) | ((first | refine call0D (BCall.ofP (toIntSSP_ok _ _ ?_ ?_)) ?_ | refine qcall0D (BCall.ofP (toIntSSP_ok _ _ ?_ ?_)) ⟨_,_,rfl,rfl⟩ ?_); (iterate 2 (exact sd)); rintro _ _ ⟨rfl,rfl⟩) | ((first | refine call0D (toIntS_ok _ _ ?_ ?_) ?_ | refine qcall0D (toIntS_ok _ _ ?_ ?_) ⟨_,_,rfl,rfl⟩ ?_); (iterate 2 (exact sd)); rintro _ _ ⟨rfl,rfl⟩) | ((first | refine call0D (BCall.ofP (sBest_ok _ _ _ _ _ _ ?_ ?_ ?_ ?_)) ?_ | refine qcall0D (BCall.ofP (sBest_ok _ _ _ _ _ _ ?_ ?_ ?_ ?_)) ⟨_,_,rfl,rfl⟩ ?_); (iterate 4 (exact sd)); rintro _ _ ⟨rfl,rfl⟩) | ((first | refine call0D (BCall.ofP (iBest_ok _ _ _ _ _ _ ?_ ?_ ?_ ?_)) ?_ | refine qcall0D (BCall.ofP (iBest_ok _ _ _ _ _ _ ?_ ?_ ?_ ?_)) ⟨_,_,rfl,rfl⟩ ?_); (iterate 4 (exact sd)); rintro _ _ ⟨rfl,rfl⟩) | ((first | refine call0D (BCall.ofP (eqTensorS_ok _ _ ?_ ?_)) ?_ | refine qcall0D (BCall.ofP (eqTensorS_ok _ _ ?_ ?_)) ⟨_,_,rfl,rfl⟩ ?_); (iterate 2 (exact sd)); rintro _ _ ⟨rfl,rfl⟩) | ((first | refine call0D (BCall.ofP (eqIntSS_ok _ _ ?_ ?_)) ?_ | refine qcall0D (BCall.ofP (eqIntSS_ok _ _ ?_ ?_)) ⟨_,_,rfl,rfl⟩ ?_); (iterate 2 (exact sd)); rintro _ _ ⟨rfl,rfl⟩) | ((first | refine call0D (BCall.ofP (eqIntS_ok _ _ _ _ ?_ ?_ ?_)) ?_ | refine qcall0D (BCall.ofP (eqIntS_ok _ _ _ _ ?_ ?_ ?_)) ⟨_,_,rfl,rfl⟩ ?_); (iterate 3 (exact sd)); rintro _ _ ⟨rfl,rfl⟩)) <;> (try simp (disch := omega) only [push_cast,seval,innL_TL,innL_LL,decide_true]))
 | (refine awp_ret ⟨.inr rfl,_,rfl,?_⟩; (try simp (disch := omega) only [push_cast,seval,innL_TL,innL_LL,decide_true]))))
    all_goals skip
  · (repeat' (first
 | (first | refine awp_seq ?_ | refine awp_block ?_)
 | ((first | refine awp_reg ?_ | refine awp_condB ?_ | refine awp_skip ?_ | refine awp_exit ?_); simp (disch := omega) only [push_cast,seval,l7r0,l7r1,l7r2,l7r3,l7r4,l7r5,l7r6,l7r7,l7r8,l7r9,l7r10,l7r11,l7r12,l7r13,l7r14,l7r15,l7r16,l7r17,l7r18,l7r19,l7r20,l7r21,l7r22,l7r23,innL_TL,innL_LL])
 | ((first | refine condB_split (fun h => ?_) (fun h => ?_) | refine gIf_split (fun h => ?_) (fun h => ?_) | refine qIf_split (fun h => ?_) (fun h => ?_)) <;> (try simp only [h]) <;> (try simp only [bitvec_to_nat] at h) <;> (try simp only [h]) <;> (first | (exfalso; omega) | (focus (exfalso; simp_all; done)) | (simp (disch := omega) only [push_cast,seval,innL_TL,innL_LL]) | skip))
 | ((first | refine callD_of false ?_ | refine qcallD_of false ?_); simp (disch := omega) only [push_cast,seval,innL_TL,innL_LL])
 | ((first | (refine call0D (BCall.ofP (szTensorS_ok _ _ _ ?_ ?_ ?_)) ?_; (iterate 3 (exact sd)); rintro _ _ ⟨⟨z,hz,rfl⟩,rfl⟩) | (refine call0D (BCall.ofP (szIntSS_ok _ _ _ ?_ ?_ ?_)) ?_; (iterate 3 (exact sd)); rintro _ _ ⟨⟨z2,hz2,rfl⟩,rfl⟩) | ((first | refine call0D (BCall.ofP (toTensorSP_ok _ _ ?_ ?_)) ?_ | refine qcall0D (BCall.ofP (toTensorSP_ok _ _ ?_ ?_)) ⟨_,_,rfl,rfl⟩ ?_); (iterate 2 (exact sd)); rintro _ _ ⟨rfl,rfl⟩) | ((first | refine call0D (BCall.ofP (toIntSSP_ok _ _ ?_ ?_)) ?_ | refine qcall0D (BCall.ofP (toIntSSP_ok _ _ ?_ ?_)) ⟨_,_,rfl,rfl⟩ ?_); (iterate 2 (exact sd)); rintro _ _ ⟨rfl,rfl⟩) | ((first | refine call0D (toIntS_ok _ _ ?_ ?_) ?_ | refine qcall0D (toIntS_ok _ _ ?_ ?_) ⟨_,_,rfl,rfl⟩ ?_); (iterate 2 (exact sd)); rintro _ _ ⟨rfl,rfl⟩) | ((first | refine call0D (BCall.ofP (sBest_ok _ _ _ _ _ _ ?_ ?_ ?_ ?_)) ?_ | refine qcall0D (BCall.ofP (sBest_ok _ _ _ _ _ _ ?_ ?_ ?_ ?_)) ⟨_,_,rfl,rfl⟩ ?_); (iterate 4 (exact sd)); rintro _ _ ⟨rfl,rfl⟩) | ((first | refine call0D (BCall.ofP (iBest_ok _ _ _ _ _ _ ?_ ?_ ?_ ?_)) ?_ | refine qcall0D (BCall.ofP (iBest_ok _ _ _ _ _ _ ?_ ?_ ?_ ?_)) ⟨_,_,rfl,rfl⟩ ?_); (iterate 4 (exact sd)); rintro _ _ ⟨rfl,rfl⟩) | ((first | refine call0D (BCall.ofP (eqTensorS_ok _ _ ?_ ?_)) ?_ | refine qcall0D (BCall.ofP (eqTensorS_ok _ _ ?_ ?_)) ⟨_,_,rfl,rfl⟩ ?_); (iterate 2 (exact sd)); rintro _ _ ⟨rfl,rfl⟩) | ((first | refine call0D (BCall.ofP (eqIntSS_ok _ _ ?_ ?_)) ?_ | refine qcall0D (BCall.ofP (eqIntSS_ok _ _ ?_ ?_)) ⟨_,_,rfl,rfl⟩ ?_); (iterate 2 (exact sd)); rintro _ _ ⟨rfl,rfl⟩) | ((first | refine call0D (BCall.ofP (eqIntS_ok _ _ _ _ ?_ ?_ ?_)) ?_ | refine qcall0D (BCall.ofP (eqIntS_ok _ _ _ _ ?_ ?_ ?_)) ⟨_,_,rfl,rfl⟩ ?_); (iterate 3 (exact sd)); rintro _ _ ⟨rfl,rfl⟩)) <;> (try simp (disch := omega) only [push_cast,seval,innL_TL,innL_LL]))
 | (refine awp_ret ⟨.inr rfl,_,rfl,?_⟩; (try simp (disch := omega) only [push_cast,seval,innL_TL,innL_LL]))))
theorem lBestPair2_ok (x0 : List (List Int × List Int × Unit)) (x1 : List (List Int)) (x2 : List Int) (h1 : ∀ a ∈ x0,Vw.goodS Vw.goodI a.1 ∧ Vw.goodS Vw.goodI a.2.1 ∧ True) (h2 : x0.length ≤ 9223372036854775807) (h3 : ∀ a ∈ x1,Vw.goodS Vw.goodI a) (h4 : x1.length ≤ 9223372036854775807) (h5 : x2.length ≤ 9223372036854775807) : PCall Try.prog 7 [.rows false (x0.flatMap fun p => Vw.enS Vw.enI p.1 ++ (Vw.enS Vw.enI p.2.1 ++ [])) x0.length,.rows false (x1.flatMap fun p => Vw.enS Vw.enI p) x1.length,RI x2] (fun r => r = .bool true) := by
  have h := lBestPair_ok (x0.map fun p => (p.1,p.2.1)) x1 x2 (by simpa using h2) h4 h5 (fun v hv => by
    obtain ⟨a,ha,rfl⟩ := List.mem_map.1 hv
    have := h1 a ha
    exact ⟨this.1.2,this.2.1.2⟩) (fun v hv => (h3 v hv).2)
  rw [List.length_map] at h
  rw [flat_T3,flat_L2]
  exact h

end Go.Proofs.Ytajhakhncalabaa
