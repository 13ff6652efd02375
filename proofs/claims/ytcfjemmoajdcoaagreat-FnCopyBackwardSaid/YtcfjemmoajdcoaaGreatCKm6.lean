import Derived.Test.YtcfjemmoajdcoaaGreatCKm5
import Derived.Test.YtcfjemmoajdcoaaGreatCM1
import Derived.Test.YtcfjemmoajdcoaaGreatCW3
set_option linter.unusedSimpArgs false
set_option linter.unusedVariables false
set_option maxRecDepth 4000
set_option maxHeartbeats 4000000
namespace Go.Proofs.YtcfjemmoajdcoaaGreat
open VwM Vw Go

/-- A list and whether there is one: nothing without. -/
abbrev TB (v : Bool) (l : List Int) : AV → List (List AV) → Prop := fun r H' => r = .tup [.own 0 (MVL v l).length 1,.bool v] ∧ H' = [IL (MVL v l)]
theorem MVL_true (l : List Int) : MVL true l = l := rfl
theorem MVL_false (l : List Int) : MVL false l = [] := rfl
theorem two_facts {mem : List Int} {b b' : Int} {sh st sh' st' : List Int} (h : twoB mem b sh st b' sh' st' = true) : seeB mem b sh st = true ∧ seeB mem b' sh' st' = true ∧ sh = sh' := by
  simp only [twoB,Bool.and_eq_true,decide_eq_true_eq] at h
  exact ⟨h.1.1,h.1.2,h.2⟩
theorem take_facts {mem vals : List Int} {b : Int} {sh st : List Int} (h : takB mem b sh st vals = true) : seeB mem b sh st = true ∧ (vals.length : Int) = pr sh ∧ ∀ x ∈ vals,0 ≤ x ∧ x ≤ 255 := by
  simp only [takB,Bool.and_eq_true,decide_eq_true_eq,allI_iff] at h
  exact ⟨h.1.1,h.1.2,h.2⟩


set_option maxHeartbeats 8000000 in
theorem iCopy_ok (mem : List Int) (b : Int) (sh st : List Int) (b' : Int) (sh' st' : List Int) (q n m n' m' : Nat) (hq : mem.length = q) (hn : sh.length = n) (hm : st.length = m) (hn' : sh'.length = n') (hm' : st'.length = m') (hb : (q ≤ 1099511627776 ∧ n ≤ 1099511627776 ∧ m ≤ 1099511627776) ∧ n' ≤ 1099511627776 ∧ m' ≤ 1099511627776) : BCall Tryz.prog 8 [.rows false (IL mem) q,.agg [.int .i64 b,.rows false (IL sh) n,.rows false (IL st) m],.agg [.int .i64 b',.rows false (IL sh') n',.rows false (IL st') m']] [] (TB (twoB mem b sh st b' sh' st') (putL mem (offs b sh st) (takesL mem (offs b' sh' st')))) := by
  subst hq hn hm hn' hm'
  obtain ⟨⟨hb0,hb1,hb2⟩,hb3,hb4⟩ := hb
  have q0 : (mem.length ≤ 1099511627776 ∧ sh.length ≤ 1099511627776 ∧ st.length ≤ 1099511627776) ∧ sh'.length ≤ 1099511627776 ∧ st'.length ≤ 1099511627776 := ⟨⟨hb0,hb1,hb2⟩,hb3,hb4⟩
  refine bcall_of (pins := []) (pin := 0) l8_eq rfl rfl rfl ?_
  cases h : twoB mem b sh st b' sh' st' with
  | false =>
    (repeat' (first
 | (first | refine awp_seq ?_ | refine awp_block ?_)
 | ((first | refine awp_reg ?_ | refine awp_draw (mid := l8r3a) (post := l8r3b) mixed (by decide) ?_ | refine awp_condB ?_ | refine awp_skip ?_ | refine awp_exit ?_); simp (disch := omega) only [push_cast,seval,l8r0,l8r1,l8r2,l8r3a,l8r3b,l8r3,h])
 | ((first | refine condB_split (fun h => ?_) (fun h => ?_) | refine gIf_split (fun h => ?_) (fun h => ?_) | refine qIf_split (fun h => ?_) (fun h => ?_)) <;> (try simp only [h]) <;> (try simp only [bitvec_to_nat] at h) <;> (try simp only [h]) <;> (first | (exfalso; omega) | (focus (exfalso; simp_all; done)) | (simp (disch := omega) only [push_cast,seval,h]) | skip))
 | ((first | refine callD_of false ?_ | refine qcallD_of false ?_); simp (disch := omega) only [push_cast,seval,h])
 | ((first | ((first | refine call0D (BCall.ofP (holdsPair_ok _ _ _ _ _ _ _ _ _ _ _ _ ?_ ?_ ?_ ?_ ?_ ?_)) ?_ | refine qcall0D (BCall.ofP (holdsPair_ok _ _ _ _ _ _ _ _ _ _ _ _ ?_ ?_ ?_ ?_ ?_ ?_)) ⟨_,_,rfl,rfl⟩ ?_); (iterate 6 (exact sd)); rintro _ _ ⟨rfl,rfl⟩) | ((first | refine call0D (loaded_ok _ _ _ _ _ _ _ ?_ ?_ ?_ ?_) ?_ | refine qcall0D (loaded_ok _ _ _ _ _ _ _ ?_ ?_ ?_ ?_) ⟨_,_,rfl,rfl⟩ ?_); (iterate 4 (exact sd)); rintro _ _ ⟨rfl,rfl⟩) | ((first | refine call0D (stored_ok _ _ _ _ _ _ _ _ _ ?_ ?_ ?_ ?_ ?_) ?_ | refine qcall0D (stored_ok _ _ _ _ _ _ _ _ _ ?_ ?_ ?_ ?_ ?_) ⟨_,_,rfl,rfl⟩ ?_); (iterate 5 (exact sd)); rintro _ _ ⟨rfl,rfl⟩)) <;> (try simp (disch := omega) only [push_cast,seval,h]))
 | (refine awp_ret ⟨.inr rfl,[16000],[(16000,1)],_,by decide,rfl,?_⟩; (try simp (disch := omega) only [push_cast,seval,↓allMem_nil,↓allMem_cons,↓List.map_cons,↓List.map_nil,h]))))
    all_goals simp [TB,MVL]
  | true =>
    obtain ⟨h1,h2,h3⟩ := two_facts h
    subst h3
    obtain ⟨f1,f2,f3,f4,f5,f6⟩ := see_facts h1
    obtain ⟨g1,g2,_,_,_,_⟩ := see_facts h2
    have o1 := offs_length b sh st
    have o2 := offs_length b' sh st'
    have c1 := (seeB_spec.1 h1).2.2
    have c2 := (seeB_spec.1 h2).2.2
    have q1 : okV b sh st ∧ st.length = sh.length := ⟨f1,f2⟩
    have q2 : okV b' sh st' ∧ st'.length = sh.length := ⟨g1,g2⟩
    have hp : (pr sh).toNat ≤ 60 := by omega
    have hpc : (((pr sh).toNat : Nat) : Int) = pr sh := by omega
    have hsp : ∃ c : Nat,pr sh = (c : Int) ∧ c ≤ 60 := ⟨(pr sh).toNat,by omega,by omega⟩
    obtain ⟨c,hc,hc60⟩ := hsp
    have hlL : (offs b sh st).length = c := by omega
    have hlL' : (offs b' sh st').length = c := by omega
    generalize hL : offs b sh st = L at *
    generalize hL' : offs b' sh st' = L' at *
    have tl := takesL_length mem L'
    have k1 : seeB mem b sh st = true ∧ (L'.length : Int) = pr sh := ⟨h1,by omega⟩
    have k2 : (c = c ∧ c = c ∧ mem.length ≤ 60 ∧ c ≤ 60) ∧ (∀ x ∈ L,0 ≤ x ∧ x ≤ (mem.length : Int) - 1) ∧ ∀ x ∈ L',0 ≤ x ∧ x ≤ (mem.length : Int) - 1 := ⟨⟨rfl,rfl,f6,hc60⟩,c1,c2⟩
    have k3 : (c = c ∧ mem.length ≤ 60 ∧ c ≤ 60) ∧ (∀ x ∈ L,0 ≤ x ∧ x ≤ (mem.length : Int) - 1) ∧ ∀ x ∈ L',0 ≤ x ∧ x ≤ (mem.length : Int) - 1 := ⟨⟨rfl,f6,hc60⟩,c1,c2⟩
    have k4 : (c = c ∧ mem.length ≤ 60 ∧ c ≤ 60) ∧ (∀ x ∈ L.reverse,0 ≤ x ∧ x ≤ (mem.length : Int) - 1) ∧ ∀ x ∈ L'.reverse,0 ≤ x ∧ x ≤ (mem.length : Int) - 1 := ⟨⟨rfl,f6,hc60⟩,fun x hx => c1 x (List.mem_reverse.1 hx),fun x hx => c2 x (List.mem_reverse.1 hx)⟩
    have k5 : c ≤ 1000 := by omega
    have lrL : L.reverse.length = c := by rw [List.length_reverse]; exact hlL
    have lrL' : L'.reverse.length = c := by rw [List.length_reverse]; exact hlL'
    (repeat' (first
 | (first | refine awp_seq ?_ | refine awp_block ?_)
 | ((first | refine awp_reg ?_ | refine awp_draw (mid := l8r3a) (post := l8r3b) mixed (by decide) ?_ | refine awp_condB ?_ | refine awp_skip ?_ | refine awp_exit ?_); simp (disch := omega) only [push_cast,seval,l8r0,l8r1,l8r2,l8r3a,l8r3b,l8r3,h,hL,hL',hc,hlL,hlL',tl,lrL,lrL',List.length_reverse,nums_length,Int.toNat_natCast])
 | ((first | refine condB_split (fun h => ?_) (fun h => ?_) | refine gIf_split (fun h => ?_) (fun h => ?_) | refine qIf_split (fun h => ?_) (fun h => ?_)) <;> (try simp only [h]) <;> (try simp only [bitvec_to_nat] at h) <;> (try simp only [h]) <;> (first | (exfalso; omega) | (focus (exfalso; simp_all; done)) | (simp (disch := omega) only [push_cast,seval,h,hL,hL',hc,hlL,hlL',tl,lrL,lrL',List.length_reverse,nums_length,Int.toNat_natCast]) | skip))
 | ((first | refine callD_of false ?_ | refine qcallD_of false ?_); simp (disch := omega) only [push_cast,seval,h,hL,hL',hc,hlL,hlL',tl,lrL,lrL',List.length_reverse,nums_length,Int.toNat_natCast])
 | ((first | ((first | refine call0D (BCall.ofP (holdsPair_ok _ _ _ _ _ _ _ _ _ _ _ _ ?_ ?_ ?_ ?_ ?_ ?_)) ?_ | refine qcall0D (BCall.ofP (holdsPair_ok _ _ _ _ _ _ _ _ _ _ _ _ ?_ ?_ ?_ ?_ ?_ ?_)) ⟨_,_,rfl,rfl⟩ ?_); (iterate 6 (exact sd)); rintro _ _ ⟨rfl,rfl⟩) | ((first | refine call0D (loaded_ok _ _ _ _ _ _ _ ?_ ?_ ?_ ?_) ?_ | refine qcall0D (loaded_ok _ _ _ _ _ _ _ ?_ ?_ ?_ ?_) ⟨_,_,rfl,rfl⟩ ?_); (iterate 4 (exact sd)); rintro _ _ ⟨rfl,rfl⟩) | ((first | refine call0D (stored_ok _ _ _ _ _ _ _ _ _ ?_ ?_ ?_ ?_ ?_) ?_ | refine qcall0D (stored_ok _ _ _ _ _ _ _ _ _ ?_ ?_ ?_ ?_ ?_) ⟨_,_,rfl,rfl⟩ ?_); (iterate 5 (exact sd)); rintro _ _ ⟨rfl,rfl⟩)) <;> (try simp (disch := omega) only [push_cast,seval,h,hL,hL',hc,hlL,hlL',tl,lrL,lrL',List.length_reverse,nums_length,Int.toNat_natCast]))
 | (refine awp_ret ⟨.inr rfl,[288],[],_,by decide,rfl,?_⟩; (try simp (disch := omega) only [push_cast,seval,↓allMem_nil,↓allMem_cons,↓List.map_cons,↓List.map_nil,h,hL,hL',hc,hlL,hlL',tl,lrL,lrL',List.length_reverse,nums_length,Int.toNat_natCast]))))
    all_goals simp [TB,MVL]


set_option maxHeartbeats 8000000 in
theorem iCopyF_ok (mem : List Int) (b : Int) (sh st : List Int) (b' : Int) (sh' st' : List Int) (q n m n' m' : Nat) (hq : mem.length = q) (hn : sh.length = n) (hm : st.length = m) (hn' : sh'.length = n') (hm' : st'.length = m') (hb : (q ≤ 1099511627776 ∧ n ≤ 1099511627776 ∧ m ≤ 1099511627776) ∧ n' ≤ 1099511627776 ∧ m' ≤ 1099511627776) : BCall Tryz.prog 10 [.rows false (IL mem) q,.agg [.int .i64 b,.rows false (IL sh) n,.rows false (IL st) m],.agg [.int .i64 b',.rows false (IL sh') n',.rows false (IL st') m']] [] (TB (twoB mem b sh st b' sh' st') (carL mem (offs b sh st) (offs b' sh' st'))) := by
  subst hq hn hm hn' hm'
  obtain ⟨⟨hb0,hb1,hb2⟩,hb3,hb4⟩ := hb
  have q0 : (mem.length ≤ 1099511627776 ∧ sh.length ≤ 1099511627776 ∧ st.length ≤ 1099511627776) ∧ sh'.length ≤ 1099511627776 ∧ st'.length ≤ 1099511627776 := ⟨⟨hb0,hb1,hb2⟩,hb3,hb4⟩
  refine bcall_of (pins := []) (pin := 0) l10_eq rfl rfl rfl ?_
  cases h : twoB mem b sh st b' sh' st' with
  | false =>
    (repeat' (first
 | (first | refine awp_seq ?_ | refine awp_block ?_)
 | ((first | refine awp_reg ?_ | refine awp_draw (mid := l10r3a) (post := l10r3b) mixed (by decide) ?_ | refine awp_condB ?_ | refine awp_skip ?_ | refine awp_exit ?_); simp (disch := omega) only [push_cast,seval,l10r0,l10r1,l10r2,l10r3a,l10r3b,l10r3,h])
 | ((first | refine condB_split (fun h => ?_) (fun h => ?_) | refine gIf_split (fun h => ?_) (fun h => ?_) | refine qIf_split (fun h => ?_) (fun h => ?_)) <;> (try simp only [h]) <;> (try simp only [bitvec_to_nat] at h) <;> (try simp only [h]) <;> (first | (exfalso; omega) | (focus (exfalso; simp_all; done)) | (simp (disch := omega) only [push_cast,seval,h]) | skip))
 | ((first | refine callD_of false ?_ | refine qcallD_of false ?_); simp (disch := omega) only [push_cast,seval,h])
 | ((first | ((first | refine call0D (BCall.ofP (holdsPair_ok _ _ _ _ _ _ _ _ _ _ _ _ ?_ ?_ ?_ ?_ ?_ ?_)) ?_ | refine qcall0D (BCall.ofP (holdsPair_ok _ _ _ _ _ _ _ _ _ _ _ _ ?_ ?_ ?_ ?_ ?_ ?_)) ⟨_,_,rfl,rfl⟩ ?_); (iterate 6 (exact sd)); rintro _ _ ⟨rfl,rfl⟩) | ((first | refine call0D (cells_ok _ _ _ _ _ ?_ ?_ ?_) ?_ | refine qcall0D (cells_ok _ _ _ _ _ ?_ ?_ ?_) ⟨_,_,rfl,rfl⟩ ?_); (iterate 3 (exact sd)); rintro _ _ ⟨rfl,rfl⟩) | ((first | refine call0D (carried_ok _ _ _ _ _ _ ?_ ?_ ?_ ?_) ?_ | refine qcall0D (carried_ok _ _ _ _ _ _ ?_ ?_ ?_ ?_) ⟨_,_,rfl,rfl⟩ ?_); (iterate 4 (exact sd)); rintro _ _ ⟨rfl,rfl⟩)) <;> (try simp (disch := omega) only [push_cast,seval,h]))
 | (refine awp_ret ⟨.inr rfl,[16000],[(16000,1)],_,by decide,rfl,?_⟩; (try simp (disch := omega) only [push_cast,seval,↓allMem_nil,↓allMem_cons,↓List.map_cons,↓List.map_nil,h]))))
    all_goals simp [TB,MVL]
  | true =>
    obtain ⟨h1,h2,h3⟩ := two_facts h
    subst h3
    obtain ⟨f1,f2,f3,f4,f5,f6⟩ := see_facts h1
    obtain ⟨g1,g2,_,_,_,_⟩ := see_facts h2
    have o1 := offs_length b sh st
    have o2 := offs_length b' sh st'
    have c1 := (seeB_spec.1 h1).2.2
    have c2 := (seeB_spec.1 h2).2.2
    have q1 : okV b sh st ∧ st.length = sh.length := ⟨f1,f2⟩
    have q2 : okV b' sh st' ∧ st'.length = sh.length := ⟨g1,g2⟩
    have hp : (pr sh).toNat ≤ 60 := by omega
    have hpc : (((pr sh).toNat : Nat) : Int) = pr sh := by omega
    have hsp : ∃ c : Nat,pr sh = (c : Int) ∧ c ≤ 60 := ⟨(pr sh).toNat,by omega,by omega⟩
    obtain ⟨c,hc,hc60⟩ := hsp
    have hlL : (offs b sh st).length = c := by omega
    have hlL' : (offs b' sh st').length = c := by omega
    generalize hL : offs b sh st = L at *
    generalize hL' : offs b' sh st' = L' at *
    have tl := takesL_length mem L'
    have k1 : seeB mem b sh st = true ∧ (L'.length : Int) = pr sh := ⟨h1,by omega⟩
    have k2 : (c = c ∧ c = c ∧ mem.length ≤ 60 ∧ c ≤ 60) ∧ (∀ x ∈ L,0 ≤ x ∧ x ≤ (mem.length : Int) - 1) ∧ ∀ x ∈ L',0 ≤ x ∧ x ≤ (mem.length : Int) - 1 := ⟨⟨rfl,rfl,f6,hc60⟩,c1,c2⟩
    have k3 : (c = c ∧ mem.length ≤ 60 ∧ c ≤ 60) ∧ (∀ x ∈ L,0 ≤ x ∧ x ≤ (mem.length : Int) - 1) ∧ ∀ x ∈ L',0 ≤ x ∧ x ≤ (mem.length : Int) - 1 := ⟨⟨rfl,f6,hc60⟩,c1,c2⟩
    have k4 : (c = c ∧ mem.length ≤ 60 ∧ c ≤ 60) ∧ (∀ x ∈ L.reverse,0 ≤ x ∧ x ≤ (mem.length : Int) - 1) ∧ ∀ x ∈ L'.reverse,0 ≤ x ∧ x ≤ (mem.length : Int) - 1 := ⟨⟨rfl,f6,hc60⟩,fun x hx => c1 x (List.mem_reverse.1 hx),fun x hx => c2 x (List.mem_reverse.1 hx)⟩
    have k5 : c ≤ 1000 := by omega
    have lrL : L.reverse.length = c := by rw [List.length_reverse]; exact hlL
    have lrL' : L'.reverse.length = c := by rw [List.length_reverse]; exact hlL'
    (repeat' (first
 | (first | refine awp_seq ?_ | refine awp_block ?_)
 | ((first | refine awp_reg ?_ | refine awp_draw (mid := l10r3a) (post := l10r3b) mixed (by decide) ?_ | refine awp_condB ?_ | refine awp_skip ?_ | refine awp_exit ?_); simp (disch := omega) only [push_cast,seval,l10r0,l10r1,l10r2,l10r3a,l10r3b,l10r3,h,hL,hL',hc,hlL,hlL',tl,lrL,lrL',List.length_reverse,nums_length,Int.toNat_natCast])
 | ((first | refine condB_split (fun h => ?_) (fun h => ?_) | refine gIf_split (fun h => ?_) (fun h => ?_) | refine qIf_split (fun h => ?_) (fun h => ?_)) <;> (try simp only [h]) <;> (try simp only [bitvec_to_nat] at h) <;> (try simp only [h]) <;> (first | (exfalso; omega) | (focus (exfalso; simp_all; done)) | (simp (disch := omega) only [push_cast,seval,h,hL,hL',hc,hlL,hlL',tl,lrL,lrL',List.length_reverse,nums_length,Int.toNat_natCast]) | skip))
 | ((first | refine callD_of false ?_ | refine qcallD_of false ?_); simp (disch := omega) only [push_cast,seval,h,hL,hL',hc,hlL,hlL',tl,lrL,lrL',List.length_reverse,nums_length,Int.toNat_natCast])
 | ((first | ((first | refine call0D (BCall.ofP (holdsPair_ok _ _ _ _ _ _ _ _ _ _ _ _ ?_ ?_ ?_ ?_ ?_ ?_)) ?_ | refine qcall0D (BCall.ofP (holdsPair_ok _ _ _ _ _ _ _ _ _ _ _ _ ?_ ?_ ?_ ?_ ?_ ?_)) ⟨_,_,rfl,rfl⟩ ?_); (iterate 6 (exact sd)); rintro _ _ ⟨rfl,rfl⟩) | ((first | refine call0D (cells_ok _ _ _ _ _ ?_ ?_ ?_) ?_ | refine qcall0D (cells_ok _ _ _ _ _ ?_ ?_ ?_) ⟨_,_,rfl,rfl⟩ ?_); (iterate 3 (exact sd)); rintro _ _ ⟨rfl,rfl⟩) | ((first | refine call0D (carried_ok _ _ _ _ _ _ ?_ ?_ ?_ ?_) ?_ | refine qcall0D (carried_ok _ _ _ _ _ _ ?_ ?_ ?_ ?_) ⟨_,_,rfl,rfl⟩ ?_); (iterate 4 (exact sd)); rintro _ _ ⟨rfl,rfl⟩)) <;> (try simp (disch := omega) only [push_cast,seval,h,hL,hL',hc,hlL,hlL',tl,lrL,lrL',List.length_reverse,nums_length,Int.toNat_natCast]))
 | (refine awp_ret ⟨.inr rfl,[288],[],_,by decide,rfl,?_⟩; (try simp (disch := omega) only [push_cast,seval,↓allMem_nil,↓allMem_cons,↓List.map_cons,↓List.map_nil,h,hL,hL',hc,hlL,hlL',tl,lrL,lrL',List.length_reverse,nums_length,Int.toNat_natCast]))))
    all_goals simp [TB,MVL]


set_option maxHeartbeats 8000000 in
theorem sCopyB_ok (mem : List Int) (b : Int) (sh st : List Int) (b' : Int) (sh' st' : List Int) (q n m n' m' : Nat) (hq : mem.length = q) (hn : sh.length = n) (hm : st.length = m) (hn' : sh'.length = n') (hm' : st'.length = m') (hb : (q ≤ 1099511627776 ∧ n ≤ 1099511627776 ∧ m ≤ 1099511627776) ∧ n' ≤ 1099511627776 ∧ m' ≤ 1099511627776) : BCall Tryz.prog 6 [.rows false (IL mem) q,.agg [.int .i64 b,.rows false (IL sh) n,.rows false (IL st) m],.agg [.int .i64 b',.rows false (IL sh') n',.rows false (IL st') m']] [] (TB (twoB mem b sh st b' sh' st') (carL mem (offs b sh st).reverse (offs b' sh' st').reverse)) := by
  subst hq hn hm hn' hm'
  obtain ⟨⟨hb0,hb1,hb2⟩,hb3,hb4⟩ := hb
  have q0 : (mem.length ≤ 1099511627776 ∧ sh.length ≤ 1099511627776 ∧ st.length ≤ 1099511627776) ∧ sh'.length ≤ 1099511627776 ∧ st'.length ≤ 1099511627776 := ⟨⟨hb0,hb1,hb2⟩,hb3,hb4⟩
  refine bcall_of (pins := []) (pin := 0) l6_eq rfl rfl rfl ?_
  cases h : twoB mem b sh st b' sh' st' with
  | false =>
    (repeat' (first
 | (first | refine awp_seq ?_ | refine awp_block ?_)
 | ((first | refine awp_reg ?_ | refine awp_draw (mid := l6r3a) (post := l6r3b) mixed (by decide) ?_ | refine awp_condB ?_ | refine awp_skip ?_ | refine awp_exit ?_); simp (disch := omega) only [push_cast,seval,l6r0,l6r1,l6r2,l6r3a,l6r3b,l6r3,h])
 | ((first | refine condB_split (fun h => ?_) (fun h => ?_) | refine gIf_split (fun h => ?_) (fun h => ?_) | refine qIf_split (fun h => ?_) (fun h => ?_)) <;> (try simp only [h]) <;> (try simp only [bitvec_to_nat] at h) <;> (try simp only [h]) <;> (first | (exfalso; omega) | (focus (exfalso; simp_all; done)) | (simp (disch := omega) only [push_cast,seval,h]) | skip))
 | ((first | refine callD_of false ?_ | refine qcallD_of false ?_); simp (disch := omega) only [push_cast,seval,h])
 | ((first | ((first | refine call0D (BCall.ofP (pair_ok _ _ _ _ _ _ _ _ _ _ _ _ ?_ ?_ ?_ ?_ ?_ ?_)) ?_ | refine qcall0D (BCall.ofP (pair_ok _ _ _ _ _ _ _ _ _ _ _ _ ?_ ?_ ?_ ?_ ?_ ?_)) ⟨_,_,rfl,rfl⟩ ?_); (iterate 6 (exact sd)); rintro _ _ ⟨rfl,rfl⟩) | ((first | refine call0D (soffsets_ok _ _ _ _ _ ?_ ?_ ?_) ?_ | refine qcall0D (soffsets_ok _ _ _ _ _ ?_ ?_ ?_) ⟨_,_,rfl,rfl⟩ ?_); (iterate 3 (exact sd)); rintro _ _ ⟨rfl,rfl⟩) | ((first | refine call0D (BCall.ofP (scount_ok _ _ ?_ ?_)) ?_ | refine qcall0D (BCall.ofP (scount_ok _ _ ?_ ?_)) ⟨_,_,rfl,rfl⟩ ?_); (iterate 2 (exact sd)); rintro _ _ ⟨rfl,rfl⟩) | ((first | refine call0D (supTo_ok _ ?_) ?_ | refine qcall0D (supTo_ok _ ?_) ⟨_,_,rfl,rfl⟩ ?_); (exact sd); rintro _ _ ⟨rfl,rfl⟩) | ((first | refine call0D (sreversed_ok _ _ ?_ ?_) ?_ | refine qcall0D (sreversed_ok _ _ ?_ ?_) ⟨_,_,rfl,rfl⟩ ?_); (iterate 2 (exact sd)); rintro _ _ ⟨rfl,rfl⟩) | ((with_reducible refine call0D (sstepUp_ok _ _ _ _ _ _ _ ?_ ?_ ?_ ?_) ?_); (iterate 4 (exact sd)); rintro _ _ ⟨rfl,rfl⟩) | ((with_reducible refine qcall0D (sstepUp_ok _ _ _ _ _ _ _ ?_ ?_ ?_ ?_) ⟨_,_,rfl,rfl⟩ ?_); (iterate 4 (exact sd)); rintro _ _ ⟨rfl,rfl⟩) | ((with_reducible refine call0D (sstepDown_ok _ _ _ _ _ _ _ ?_ ?_ ?_ ?_) ?_); (iterate 4 (exact sd)); rintro _ _ ⟨rfl,rfl⟩) | ((with_reducible refine qcall0D (sstepDown_ok _ _ _ _ _ _ _ ?_ ?_ ?_ ?_) ⟨_,_,rfl,rfl⟩ ?_); (iterate 4 (exact sd)); rintro _ _ ⟨rfl,rfl⟩)) <;> (try simp (disch := omega) only [push_cast,seval,h]))
 | (refine awp_ret ⟨.inr rfl,[16000],[(16000,1)],_,by decide,rfl,?_⟩; (try simp (disch := omega) only [push_cast,seval,↓allMem_nil,↓allMem_cons,↓List.map_cons,↓List.map_nil,h]))))
    all_goals simp [TB,MVL]
  | true =>
    obtain ⟨h1,h2,h3⟩ := two_facts h
    subst h3
    obtain ⟨f1,f2,f3,f4,f5,f6⟩ := see_facts h1
    obtain ⟨g1,g2,_,_,_,_⟩ := see_facts h2
    have o1 := offs_length b sh st
    have o2 := offs_length b' sh st'
    have c1 := (seeB_spec.1 h1).2.2
    have c2 := (seeB_spec.1 h2).2.2
    have q1 : okV b sh st ∧ st.length = sh.length := ⟨f1,f2⟩
    have q2 : okV b' sh st' ∧ st'.length = sh.length := ⟨g1,g2⟩
    have hp : (pr sh).toNat ≤ 60 := by omega
    have hpc : (((pr sh).toNat : Nat) : Int) = pr sh := by omega
    have hsp : ∃ c : Nat,pr sh = (c : Int) ∧ c ≤ 60 := ⟨(pr sh).toNat,by omega,by omega⟩
    obtain ⟨c,hc,hc60⟩ := hsp
    have hlL : (offs b sh st).length = c := by omega
    have hlL' : (offs b' sh st').length = c := by omega
    generalize hL : offs b sh st = L at *
    generalize hL' : offs b' sh st' = L' at *
    have tl := takesL_length mem L'
    have k1 : seeB mem b sh st = true ∧ (L'.length : Int) = pr sh := ⟨h1,by omega⟩
    have k2 : (c = c ∧ c = c ∧ mem.length ≤ 60 ∧ c ≤ 60) ∧ (∀ x ∈ L,0 ≤ x ∧ x ≤ (mem.length : Int) - 1) ∧ ∀ x ∈ L',0 ≤ x ∧ x ≤ (mem.length : Int) - 1 := ⟨⟨rfl,rfl,f6,hc60⟩,c1,c2⟩
    have k3 : (c = c ∧ mem.length ≤ 60 ∧ c ≤ 60) ∧ (∀ x ∈ L,0 ≤ x ∧ x ≤ (mem.length : Int) - 1) ∧ ∀ x ∈ L',0 ≤ x ∧ x ≤ (mem.length : Int) - 1 := ⟨⟨rfl,f6,hc60⟩,c1,c2⟩
    have k4 : (c = c ∧ mem.length ≤ 60 ∧ c ≤ 60) ∧ (∀ x ∈ L.reverse,0 ≤ x ∧ x ≤ (mem.length : Int) - 1) ∧ ∀ x ∈ L'.reverse,0 ≤ x ∧ x ≤ (mem.length : Int) - 1 := ⟨⟨rfl,f6,hc60⟩,fun x hx => c1 x (List.mem_reverse.1 hx),fun x hx => c2 x (List.mem_reverse.1 hx)⟩
    have k5 : c ≤ 1000 := by omega
    have lrL : L.reverse.length = c := by rw [List.length_reverse]; exact hlL
    have lrL' : L'.reverse.length = c := by rw [List.length_reverse]; exact hlL'
    (repeat' (first
 | (first | refine awp_seq ?_ | refine awp_block ?_)
 | ((first | refine awp_reg ?_ | refine awp_draw (mid := l6r3a) (post := l6r3b) mixed (by decide) ?_ | refine awp_condB ?_ | refine awp_skip ?_ | refine awp_exit ?_); simp (disch := omega) only [push_cast,seval,l6r0,l6r1,l6r2,l6r3a,l6r3b,l6r3,h,hL,hL',hc,hlL,hlL',tl,lrL,lrL',List.length_reverse,nums_length,Int.toNat_natCast])
 | ((first | refine condB_split (fun h => ?_) (fun h => ?_) | refine gIf_split (fun h => ?_) (fun h => ?_) | refine qIf_split (fun h => ?_) (fun h => ?_)) <;> (try simp only [h]) <;> (try simp only [bitvec_to_nat] at h) <;> (try simp only [h]) <;> (first | (exfalso; omega) | (focus (exfalso; simp_all; done)) | (simp (disch := omega) only [push_cast,seval,h,hL,hL',hc,hlL,hlL',tl,lrL,lrL',List.length_reverse,nums_length,Int.toNat_natCast]) | skip))
 | ((first | refine callD_of false ?_ | refine qcallD_of false ?_); simp (disch := omega) only [push_cast,seval,h,hL,hL',hc,hlL,hlL',tl,lrL,lrL',List.length_reverse,nums_length,Int.toNat_natCast])
 | ((first | ((first | refine call0D (BCall.ofP (pair_ok _ _ _ _ _ _ _ _ _ _ _ _ ?_ ?_ ?_ ?_ ?_ ?_)) ?_ | refine qcall0D (BCall.ofP (pair_ok _ _ _ _ _ _ _ _ _ _ _ _ ?_ ?_ ?_ ?_ ?_ ?_)) ⟨_,_,rfl,rfl⟩ ?_); (iterate 6 (exact sd)); rintro _ _ ⟨rfl,rfl⟩) | ((first | refine call0D (soffsets_ok _ _ _ _ _ ?_ ?_ ?_) ?_ | refine qcall0D (soffsets_ok _ _ _ _ _ ?_ ?_ ?_) ⟨_,_,rfl,rfl⟩ ?_); (iterate 3 (exact sd)); rintro _ _ ⟨rfl,rfl⟩) | ((first | refine call0D (BCall.ofP (scount_ok _ _ ?_ ?_)) ?_ | refine qcall0D (BCall.ofP (scount_ok _ _ ?_ ?_)) ⟨_,_,rfl,rfl⟩ ?_); (iterate 2 (exact sd)); rintro _ _ ⟨rfl,rfl⟩) | ((first | refine call0D (supTo_ok _ ?_) ?_ | refine qcall0D (BCall.ofP (plainI (supTo_ok _ ?_))) ⟨_,_,rfl,rfl⟩ ?_); (exact sd); rintro _ _ ⟨rfl,rfl⟩) | ((first | refine call0D (sreversed_ok _ _ ?_ ?_) ?_ | refine qcall0D (sreversed_ok _ _ ?_ ?_) ⟨_,_,rfl,rfl⟩ ?_); (iterate 2 (exact sd)); rintro _ _ ⟨rfl,rfl⟩) | ((with_reducible refine call0D (sstepUp_ok _ _ _ _ _ _ _ ?_ ?_ ?_ ?_) ?_); (iterate 4 (exact sd)); rintro _ _ ⟨rfl,rfl⟩) | ((with_reducible refine qcall0D (sstepUp_ok _ _ _ _ _ _ _ ?_ ?_ ?_ ?_) ⟨_,_,rfl,rfl⟩ ?_); (iterate 4 (exact sd)); rintro _ _ ⟨rfl,rfl⟩) | ((with_reducible refine call0D (sstepDown_ok _ _ _ _ _ _ _ ?_ ?_ ?_ ?_) ?_); (iterate 4 (exact sd)); rintro _ _ ⟨rfl,rfl⟩) | ((with_reducible refine qcall0D (sstepDown_ok _ _ _ _ _ _ _ ?_ ?_ ?_ ?_) ⟨_,_,rfl,rfl⟩ ?_); (iterate 4 (exact sd)); rintro _ _ ⟨rfl,rfl⟩)) <;> (try simp (disch := omega) only [push_cast,seval,h,hL,hL',hc,hlL,hlL',tl,lrL,lrL',List.length_reverse,nums_length,Int.toNat_natCast]))
 | (refine awp_ret ⟨.inr rfl,[368],[],_,by decide,rfl,?_⟩; (try simp (disch := omega) only [push_cast,seval,↓allMem_nil,↓allMem_cons,↓List.map_cons,↓List.map_nil,h,hL,hL',hc,hlL,hlL',tl,lrL,lrL',List.length_reverse,nums_length,Int.toNat_natCast]))))
    all_goals simp [TB,MVL]


set_option maxHeartbeats 8000000 in
theorem iCopyB_ok (mem : List Int) (b : Int) (sh st : List Int) (b' : Int) (sh' st' : List Int) (q n m n' m' : Nat) (hq : mem.length = q) (hn : sh.length = n) (hm : st.length = m) (hn' : sh'.length = n') (hm' : st'.length = m') (hb : (q ≤ 1099511627776 ∧ n ≤ 1099511627776 ∧ m ≤ 1099511627776) ∧ n' ≤ 1099511627776 ∧ m' ≤ 1099511627776) : BCall Tryz.prog 5 [.rows false (IL mem) q,.agg [.int .i64 b,.rows false (IL sh) n,.rows false (IL st) m],.agg [.int .i64 b',.rows false (IL sh') n',.rows false (IL st') m']] [] (TB (twoB mem b sh st b' sh' st') (carL mem (offs b sh st).reverse (offs b' sh' st').reverse)) := by
  subst hq hn hm hn' hm'
  obtain ⟨⟨hb0,hb1,hb2⟩,hb3,hb4⟩ := hb
  have q0 : (mem.length ≤ 1099511627776 ∧ sh.length ≤ 1099511627776 ∧ st.length ≤ 1099511627776) ∧ sh'.length ≤ 1099511627776 ∧ st'.length ≤ 1099511627776 := ⟨⟨hb0,hb1,hb2⟩,hb3,hb4⟩
  refine bcall_of (pins := []) (pin := 0) l5_eq rfl rfl rfl ?_
  cases h : twoB mem b sh st b' sh' st' with
  | false =>
    (repeat' (first
 | (first | refine awp_seq ?_ | refine awp_block ?_)
 | ((first | refine awp_reg ?_ | refine awp_draw (mid := l5r3a) (post := l5r3b) mixed (by decide) ?_ | refine awp_condB ?_ | refine awp_skip ?_ | refine awp_exit ?_); simp (disch := omega) only [push_cast,seval,l5r0,l5r1,l5r2,l5r3a,l5r3b,l5r3,h])
 | ((first | refine condB_split (fun h => ?_) (fun h => ?_) | refine gIf_split (fun h => ?_) (fun h => ?_) | refine qIf_split (fun h => ?_) (fun h => ?_)) <;> (try simp only [h]) <;> (try simp only [bitvec_to_nat] at h) <;> (try simp only [h]) <;> (first | (exfalso; omega) | (focus (exfalso; simp_all; done)) | (simp (disch := omega) only [push_cast,seval,h]) | skip))
 | ((first | refine callD_of false ?_ | refine qcallD_of false ?_); simp (disch := omega) only [push_cast,seval,h])
 | ((first | ((first | refine call0D (BCall.ofP (holdsPair_ok _ _ _ _ _ _ _ _ _ _ _ _ ?_ ?_ ?_ ?_ ?_ ?_)) ?_ | refine qcall0D (BCall.ofP (holdsPair_ok _ _ _ _ _ _ _ _ _ _ _ _ ?_ ?_ ?_ ?_ ?_ ?_)) ⟨_,_,rfl,rfl⟩ ?_); (iterate 6 (exact sd)); rintro _ _ ⟨rfl,rfl⟩) | ((first | refine call0D (backwards_ok _ _ _ _ _ ?_ ?_ ?_) ?_ | refine qcall0D (backwards_ok _ _ _ _ _ ?_ ?_ ?_) ⟨_,_,rfl,rfl⟩ ?_); (iterate 3 (exact sd)); rintro _ _ ⟨rfl,rfl⟩) | ((first | refine call0D (carried_ok _ _ _ _ _ _ ?_ ?_ ?_ ?_) ?_ | refine qcall0D (carried_ok _ _ _ _ _ _ ?_ ?_ ?_ ?_) ⟨_,_,rfl,rfl⟩ ?_); (iterate 4 (exact sd)); rintro _ _ ⟨rfl,rfl⟩)) <;> (try simp (disch := omega) only [push_cast,seval,h]))
 | (refine awp_ret ⟨.inr rfl,[16000],[(16000,1)],_,by decide,rfl,?_⟩; (try simp (disch := omega) only [push_cast,seval,↓allMem_nil,↓allMem_cons,↓List.map_cons,↓List.map_nil,h]))))
    all_goals simp [TB,MVL]
  | true =>
    obtain ⟨h1,h2,h3⟩ := two_facts h
    subst h3
    obtain ⟨f1,f2,f3,f4,f5,f6⟩ := see_facts h1
    obtain ⟨g1,g2,_,_,_,_⟩ := see_facts h2
    have o1 := offs_length b sh st
    have o2 := offs_length b' sh st'
    have c1 := (seeB_spec.1 h1).2.2
    have c2 := (seeB_spec.1 h2).2.2
    have q1 : okV b sh st ∧ st.length = sh.length := ⟨f1,f2⟩
    have q2 : okV b' sh st' ∧ st'.length = sh.length := ⟨g1,g2⟩
    have hp : (pr sh).toNat ≤ 60 := by omega
    have hpc : (((pr sh).toNat : Nat) : Int) = pr sh := by omega
    have hsp : ∃ c : Nat,pr sh = (c : Int) ∧ c ≤ 60 := ⟨(pr sh).toNat,by omega,by omega⟩
    obtain ⟨c,hc,hc60⟩ := hsp
    have hlL : (offs b sh st).length = c := by omega
    have hlL' : (offs b' sh st').length = c := by omega
    generalize hL : offs b sh st = L at *
    generalize hL' : offs b' sh st' = L' at *
    have tl := takesL_length mem L'
    have k1 : seeB mem b sh st = true ∧ (L'.length : Int) = pr sh := ⟨h1,by omega⟩
    have k2 : (c = c ∧ c = c ∧ mem.length ≤ 60 ∧ c ≤ 60) ∧ (∀ x ∈ L,0 ≤ x ∧ x ≤ (mem.length : Int) - 1) ∧ ∀ x ∈ L',0 ≤ x ∧ x ≤ (mem.length : Int) - 1 := ⟨⟨rfl,rfl,f6,hc60⟩,c1,c2⟩
    have k3 : (c = c ∧ mem.length ≤ 60 ∧ c ≤ 60) ∧ (∀ x ∈ L,0 ≤ x ∧ x ≤ (mem.length : Int) - 1) ∧ ∀ x ∈ L',0 ≤ x ∧ x ≤ (mem.length : Int) - 1 := ⟨⟨rfl,f6,hc60⟩,c1,c2⟩
    have k4 : (c = c ∧ mem.length ≤ 60 ∧ c ≤ 60) ∧ (∀ x ∈ L.reverse,0 ≤ x ∧ x ≤ (mem.length : Int) - 1) ∧ ∀ x ∈ L'.reverse,0 ≤ x ∧ x ≤ (mem.length : Int) - 1 := ⟨⟨rfl,f6,hc60⟩,fun x hx => c1 x (List.mem_reverse.1 hx),fun x hx => c2 x (List.mem_reverse.1 hx)⟩
    have k5 : c ≤ 1000 := by omega
    have lrL : L.reverse.length = c := by rw [List.length_reverse]; exact hlL
    have lrL' : L'.reverse.length = c := by rw [List.length_reverse]; exact hlL'
    (repeat' (first
 | (first | refine awp_seq ?_ | refine awp_block ?_)
 | ((first | refine awp_reg ?_ | refine awp_draw (mid := l5r3a) (post := l5r3b) mixed (by decide) ?_ | refine awp_condB ?_ | refine awp_skip ?_ | refine awp_exit ?_); simp (disch := omega) only [push_cast,seval,l5r0,l5r1,l5r2,l5r3a,l5r3b,l5r3,h,hL,hL',hc,hlL,hlL',tl,lrL,lrL',List.length_reverse,nums_length,Int.toNat_natCast])
 | ((first | refine condB_split (fun h => ?_) (fun h => ?_) | refine gIf_split (fun h => ?_) (fun h => ?_) | refine qIf_split (fun h => ?_) (fun h => ?_)) <;> (try simp only [h]) <;> (try simp only [bitvec_to_nat] at h) <;> (try simp only [h]) <;> (first | (exfalso; omega) | (focus (exfalso; simp_all; done)) | (simp (disch := omega) only [push_cast,seval,h,hL,hL',hc,hlL,hlL',tl,lrL,lrL',List.length_reverse,nums_length,Int.toNat_natCast]) | skip))
 | ((first | refine callD_of false ?_ | refine qcallD_of false ?_); simp (disch := omega) only [push_cast,seval,h,hL,hL',hc,hlL,hlL',tl,lrL,lrL',List.length_reverse,nums_length,Int.toNat_natCast])
 | ((first | ((first | refine call0D (BCall.ofP (holdsPair_ok _ _ _ _ _ _ _ _ _ _ _ _ ?_ ?_ ?_ ?_ ?_ ?_)) ?_ | refine qcall0D (BCall.ofP (holdsPair_ok _ _ _ _ _ _ _ _ _ _ _ _ ?_ ?_ ?_ ?_ ?_ ?_)) ⟨_,_,rfl,rfl⟩ ?_); (iterate 6 (exact sd)); rintro _ _ ⟨rfl,rfl⟩) | ((first | refine call0D (backwards_ok _ _ _ _ _ ?_ ?_ ?_) ?_ | refine qcall0D (backwards_ok _ _ _ _ _ ?_ ?_ ?_) ⟨_,_,rfl,rfl⟩ ?_); (iterate 3 (exact sd)); rintro _ _ ⟨rfl,rfl⟩) | ((first | refine call0D (carried_ok _ _ _ _ _ _ ?_ ?_ ?_ ?_) ?_ | refine qcall0D (carried_ok _ _ _ _ _ _ ?_ ?_ ?_ ?_) ⟨_,_,rfl,rfl⟩ ?_); (iterate 4 (exact sd)); rintro _ _ ⟨rfl,rfl⟩)) <;> (try simp (disch := omega) only [push_cast,seval,h,hL,hL',hc,hlL,hlL',tl,lrL,lrL',List.length_reverse,nums_length,Int.toNat_natCast]))
 | (refine awp_ret ⟨.inr rfl,[288],[],_,by decide,rfl,?_⟩; (try simp (disch := omega) only [push_cast,seval,↓allMem_nil,↓allMem_cons,↓List.map_cons,↓List.map_nil,h,hL,hL',hc,hlL,hlL',tl,lrL,lrL',List.length_reverse,nums_length,Int.toNat_natCast]))))
    all_goals simp [TB,MVL]


/-- The cells with different values,of memories with as many cells. -/
def chB (a b : List Int) : Bool := vMem a && vMem b && decide (a.length = b.length)


def sumV (mem : List Int) (b : Int) (sh st : List Int) : Int := if seeB mem b sh st = true then sumT (takesL mem (offs b sh st)) (offs b sh st).length else -1
theorem takes_bound {mem L : List Int} (h : ∀ x ∈ mem,0 ≤ x ∧ x ≤ 255) : ∀ x ∈ takesL mem L,0 ≤ x ∧ x ≤ 255 := by
  intro x hx
  unfold takesL at hx
  obtain ⟨i,_,rfl⟩ := List.mem_map.1 hx
  by_cases hl : i.toNat < mem.length
  · exact h _ (getD_mem hl)
  · rw [List.getD,List.getElem?_eq_none (Nat.le_of_not_lt hl)]
    exact ⟨Int.le_refl 0,by decide⟩

end Go.Proofs.YtcfjemmoajdcoaaGreat
