import Derived.Test.YtcfjemmoajdcoaaGreatCKm2
import Derived.Test.YtcfjemmoajdcoaaGreatCM1
import Derived.Test.YtcfjemmoajdcoaaGreatCW3
set_option linter.unusedSimpArgs false
set_option linter.unusedVariables false
set_option maxRecDepth 4000
set_option maxHeartbeats 4000000
namespace Go.Proofs.YtcfjemmoajdcoaaGreat
open VwM Vw Go

set_option maxHeartbeats 8000000 in
theorem stored_ok (mem : List Int) (b : Int) (sh st vals : List Int) (q n m v : Nat) (hq : mem.length = q) (hn : sh.length = n) (hm : st.length = m) (hv : vals.length = v) (hb : seeB mem b sh st = true ∧ (v : Int) = pr sh) : BCall Tryz.prog 23 [.rows false (IL mem) q,.agg [.int .i64 b,.rows false (IL sh) n,.rows false (IL st) m],.rows false (IL vals) v] [] (OI (putL mem (offs b sh st) vals)) := by
  subst hq hn hm hv
  obtain ⟨hb,hvp⟩ := hb
  obtain ⟨f1,f2,f3,f4,f5,f6⟩ := see_facts hb
  have hat := fun k hk => seeB_at (k := k) hb hk
  have hol := offs_length b sh st
  have hrow := fun (k j : Nat) hk hj h => offs_rowW (b := b) (sh := sh) (st := st) (k := k) (j := j) f3 hk hj h
  have hdv := wdt_dvd (st := st) f3
  have hwl := wdt_le (st := st) f3
  have hwp := wdt_pos (st := st) f3
  have q1 : okV b sh st ∧ st.length = sh.length := ⟨f1,f2⟩
  have q2 : good4 sh ∧ st.length = sh.length := ⟨f3,f2⟩
  have hvl : vals.length = (offs b sh st).length := by omega
  generalize hL : offs b sh st = L at *
  generalize hW : wdt sh st = W at *
  have hml : mem.length ≤ 1099511627776 := by omega
  refine bcall_of (pins := []) (pin := 0) l23_eq rfl rfl rfl ?_
  (repeat' (first
 | (first | refine awp_seq ?_ | refine awp_block ?_)
 | ((first | refine awp_reg ?_ | refine awp_draw (mid := l23r2a) (post := l23r2b) mixed (by decide) ?_ | refine awp_condB ?_ | refine awp_skip ?_ | refine awp_exit ?_); simp (disch := omega) only [push_cast,seval,l23r0,l23r1,l23r2a,l23r2b,l23r2,l23r3,l23r4,l23r5,l23r6,l23r7,hL,hW])
 | ((first | refine condB_split (fun h => ?_) (fun h => ?_) | refine gIf_split (fun h => ?_) (fun h => ?_) | refine qIf_split (fun h => ?_) (fun h => ?_)) <;> (try simp only [h]) <;> (try simp only [bitvec_to_nat] at h) <;> (try simp only [h]) <;> (first | (exfalso; omega) | (focus (exfalso; simp_all; done)) | (simp (disch := omega) only [push_cast,seval,hL,hW]) | skip))
 | ((first | ((with_reducible refine qcallI_of (f := 42) [192] false ?_); simp (disch := omega) only [push_cast,seval,hL,hW]; (refine qcall1D (id := 192) (rowOfO_ok _ _ _ _ ?_ ?_) (by (simp (disch := omega) only [push_cast,seval,hL,hW]); rfl) (by decide) ⟨_,_,rfl,rfl⟩ ?_; (iterate 2 (exact sd)); rintro _ _ ⟨rfl,rfl⟩)) | ((with_reducible refine qcallI_of (f := 42) [224] false ?_); simp (disch := omega) only [push_cast,seval,hL,hW]; (refine qcall1D (id := 224) (rowOfO_ok _ _ _ _ ?_ ?_) (by (simp (disch := omega) only [push_cast,seval,hL,hW]); rfl) (by decide) ⟨_,_,rfl,rfl⟩ ?_; (iterate 2 (exact sd)); rintro _ _ ⟨rfl,rfl⟩)) | ((with_reducible refine qcallI_of (f := 42) [256] false ?_); simp (disch := omega) only [push_cast,seval,hL,hW]; (refine qcall1D (id := 256) (rowOfO_ok _ _ _ _ ?_ ?_) (by (simp (disch := omega) only [push_cast,seval,hL,hW]); rfl) (by decide) ⟨_,_,rfl,rfl⟩ ?_; (iterate 2 (exact sd)); rintro _ _ ⟨rfl,rfl⟩)) | ((with_reducible refine qcallI_of (f := 42) [480] false ?_); simp (disch := omega) only [push_cast,seval,hL,hW]; (refine qcall1D (id := 480) (rowOfO_ok _ _ _ _ ?_ ?_) (by (simp (disch := omega) only [push_cast,seval,hL,hW]); rfl) (by decide) ⟨_,_,rfl,rfl⟩ ?_; (iterate 2 (exact sd)); rintro _ _ ⟨rfl,rfl⟩)) | ((with_reducible refine qcallI_of (f := 42) [544] false ?_); simp (disch := omega) only [push_cast,seval,hL,hW]; (refine qcall1D (id := 544) (rowOfO_ok _ _ _ _ ?_ ?_) (by (simp (disch := omega) only [push_cast,seval,hL,hW]); rfl) (by decide) ⟨_,_,rfl,rfl⟩ ?_; (iterate 2 (exact sd)); rintro _ _ ⟨rfl,rfl⟩)) | ((with_reducible refine qcallI_of (f := 42) [0] false ?_); simp (disch := omega) only [push_cast,seval,hL,hW]; (refine qcall1D (id := 0) (rowOfO_ok _ _ _ _ ?_ ?_) (by (simp (disch := omega) only [push_cast,seval,hL,hW]); rfl) (by decide) ⟨_,_,rfl,rfl⟩ ?_; (iterate 2 (exact sd)); rintro _ _ ⟨rfl,rfl⟩)) | ((with_reducible refine qcallI_of (f := 42) [1] false ?_); simp (disch := omega) only [push_cast,seval,hL,hW]; (refine qcall1D (id := 1) (rowOfO_ok _ _ _ _ ?_ ?_) (by (simp (disch := omega) only [push_cast,seval,hL,hW]); rfl) (by decide) ⟨_,_,rfl,rfl⟩ ?_; (iterate 2 (exact sd)); rintro _ _ ⟨rfl,rfl⟩)) | ((with_reducible refine callD_ids (f := 42) [192] false ?_); simp (disch := omega) only [push_cast,seval,hL,hW]; (refine call1D (id := 192) (rowOfO_ok _ _ _ _ ?_ ?_) (by (simp (disch := omega) only [push_cast,seval,hL,hW]); rfl) ?_; (iterate 2 (exact sd)); rintro _ _ ⟨rfl,rfl⟩)) | ((with_reducible refine callD_ids (f := 42) [224] false ?_); simp (disch := omega) only [push_cast,seval,hL,hW]; (refine call1D (id := 224) (rowOfO_ok _ _ _ _ ?_ ?_) (by (simp (disch := omega) only [push_cast,seval,hL,hW]); rfl) ?_; (iterate 2 (exact sd)); rintro _ _ ⟨rfl,rfl⟩)) | ((with_reducible refine callD_ids (f := 42) [256] false ?_); simp (disch := omega) only [push_cast,seval,hL,hW]; (refine call1D (id := 256) (rowOfO_ok _ _ _ _ ?_ ?_) (by (simp (disch := omega) only [push_cast,seval,hL,hW]); rfl) ?_; (iterate 2 (exact sd)); rintro _ _ ⟨rfl,rfl⟩)) | ((with_reducible refine callD_ids (f := 42) [480] false ?_); simp (disch := omega) only [push_cast,seval,hL,hW]; (refine call1D (id := 480) (rowOfO_ok _ _ _ _ ?_ ?_) (by (simp (disch := omega) only [push_cast,seval,hL,hW]); rfl) ?_; (iterate 2 (exact sd)); rintro _ _ ⟨rfl,rfl⟩)) | ((with_reducible refine callD_ids (f := 42) [544] false ?_); simp (disch := omega) only [push_cast,seval,hL,hW]; (refine call1D (id := 544) (rowOfO_ok _ _ _ _ ?_ ?_) (by (simp (disch := omega) only [push_cast,seval,hL,hW]); rfl) ?_; (iterate 2 (exact sd)); rintro _ _ ⟨rfl,rfl⟩)) | ((with_reducible refine callD_ids (f := 42) [0] false ?_); simp (disch := omega) only [push_cast,seval,hL,hW]; (refine call1D (id := 0) (rowOfO_ok _ _ _ _ ?_ ?_) (by (simp (disch := omega) only [push_cast,seval,hL,hW]); rfl) ?_; (iterate 2 (exact sd)); rintro _ _ ⟨rfl,rfl⟩)) | ((with_reducible refine callD_ids (f := 42) [1] false ?_); simp (disch := omega) only [push_cast,seval,hL,hW]; (refine call1D (id := 1) (rowOfO_ok _ _ _ _ ?_ ?_) (by (simp (disch := omega) only [push_cast,seval,hL,hW]); rfl) ?_; (iterate 2 (exact sd)); rintro _ _ ⟨rfl,rfl⟩)) | ((with_reducible refine callD_of (f := 42) true ?_); simp (disch := omega) only [push_cast,seval,hL,hW]; (refine call0D (rowOfR_ok _ _ _ _ ?_ ?_) ?_; (iterate 2 (exact sd)); rintro _ _ ⟨rfl,rfl⟩))) <;> (try simp (disch := omega) only [push_cast,seval,hL,hW]))
 | ((first | refine callD_of false ?_ | refine qcallD_of false ?_); simp (disch := omega) only [push_cast,seval,hL,hW])
 | ((first | ((first | refine call0D (clone_ok _ _ ?_ ?_) ?_ | refine qcall0D (clone_ok _ _ ?_ ?_) ⟨_,_,rfl,rfl⟩ ?_); (iterate 2 (exact sd)); rintro _ _ ⟨rfl,rfl⟩) | ((first | refine call0D (cells_ok _ _ _ _ _ ?_ ?_ ?_) ?_ | refine qcall0D (cells_ok _ _ _ _ _ ?_ ?_ ?_) ⟨_,_,rfl,rfl⟩ ?_); (iterate 3 (exact sd)); rintro _ _ ⟨rfl,rfl⟩) | ((first | refine call0D (BCall.ofP (width_ok _ _ _ _ _ ?_ ?_ ?_)) ?_ | refine qcall0D (BCall.ofP (width_ok _ _ _ _ _ ?_ ?_ ?_)) ⟨_,_,rfl,rfl⟩ ?_); (iterate 3 (exact sd)); rintro _ _ ⟨rfl,rfl⟩)) <;> (try simp (disch := omega) only [push_cast,seval,hL,hW]))
 | (refine awp_ret ⟨.inr rfl,[192],[],_,by decide,rfl,?_⟩; (try simp (disch := omega) only [push_cast,seval,↓allMem_nil,↓allMem_cons,↓List.map_cons,↓List.map_nil,hL,hW]))))
  refine awp_loop (fun k : Nat => mkS [(2,RI vals),(7,.own 192 mem.length 1),(8,.own 224 L.length 1),(9,.int .i64 W),(10,.int .i64 k)] [(192,IL (putK mem L vals k)),(224,IL L)])
    (fun k => k ≤ L.length ∧ W ∣ k) (fun k => L.length - k) 0 ⟨Nat.zero_le _,Nat.dvd_zero _⟩ ?_ ?_
  · have e0 : putK mem L vals 0 = mem := rfl
    (refine Sub.of_lists ?_ ?_ ?_ ?_ ?_ <;> simp [Vw.mkS,Vw.lk,Vw.hk,AV.inn,innL,innL_ints,innL_append,innL_rep,-List.map_set,-List.getD_eq_getElem?_getD,e0])
  · rintro k ⟨hk,hkd⟩
    have e1 := putK_length mem L vals k
    by_cases hlt : k < L.length
    · have hw1 := hwp (by omega)
      have hend := row_end hw1 hdv hkd (by omega)
      obtain ⟨h1,h2⟩ := hat k hlt
      have hlast := hat (k + (W - 1)) (by omega)
      rw [hrow k (W - 1) hkd (by omega) (by omega)] at hlast
      obtain ⟨c,hc⟩ : ∃ c : Nat,L.getD k 0 = c := ⟨(L.getD k 0).toNat,by omega⟩
      have hr := putK_row (mem := mem) (cells := L) (vals := vals) (k := k) W (by omega) (fun j hj => by rw [hrow k j hkd hj (by omega)]; omega)
      rw [hc] at hr
      rw [Int.toNat_natCast] at hr
      have hcw : c + W ≤ mem.length := by omega
      have hkw : k + W ≤ vals.length := by omega
      have e2 : min W W = W := Nat.min_self W
      generalize hF : putK mem L vals k = F at *
      have e4 : (((vals.drop k).take W).map (AV.int .i64)).take W = ((vals.drop k).take W).map (AV.int .i64) := by rw [← List.map_take,List.take_take,Nat.min_self]
      have e5 : ((vals.drop k).take W).length = W := by simp; omega
      (repeat' (first
 | (first | refine awp_seq ?_ | refine awp_block ?_)
 | ((first | refine awp_reg ?_ | refine awp_draw (mid := l23r2a) (post := l23r2b) mixed (by decide) ?_ | refine awp_condB ?_ | refine awp_skip ?_ | refine awp_exit ?_); simp (disch := omega) only [push_cast,seval,l23r0,l23r1,l23r2a,l23r2b,l23r2,l23r3,l23r4,l23r5,l23r6,l23r7,hc,e1,e2,e4,e5,hr,Int.toNat_natCast])
 | ((first | refine condB_split (fun h => ?_) (fun h => ?_) | refine gIf_split (fun h => ?_) (fun h => ?_) | refine qIf_split (fun h => ?_) (fun h => ?_)) <;> (try simp only [h]) <;> (try simp only [bitvec_to_nat] at h) <;> (try simp only [h]) <;> (first | (exfalso; omega) | (focus (exfalso; simp_all; done)) | (simp (disch := omega) only [push_cast,seval,hc,e1,e2,e4,e5,hr,Int.toNat_natCast]) | skip))
 | ((first | ((with_reducible refine qcallI_of (f := 42) [192] false ?_); simp (disch := omega) only [push_cast,seval,hc,e1,e2,e4,e5,hr,Int.toNat_natCast]; (refine qcall1D (id := 192) (rowOfO_ok _ _ _ _ ?_ ?_) (by (simp (disch := omega) only [push_cast,seval,hc,e1,e2,e4,e5,hr,Int.toNat_natCast]); rfl) (by decide) ⟨_,_,rfl,rfl⟩ ?_; (iterate 2 (exact sd)); rintro _ _ ⟨rfl,rfl⟩)) | ((with_reducible refine qcallI_of (f := 42) [224] false ?_); simp (disch := omega) only [push_cast,seval,hc,e1,e2,e4,e5,hr,Int.toNat_natCast]; (refine qcall1D (id := 224) (rowOfO_ok _ _ _ _ ?_ ?_) (by (simp (disch := omega) only [push_cast,seval,hc,e1,e2,e4,e5,hr,Int.toNat_natCast]); rfl) (by decide) ⟨_,_,rfl,rfl⟩ ?_; (iterate 2 (exact sd)); rintro _ _ ⟨rfl,rfl⟩)) | ((with_reducible refine qcallI_of (f := 42) [256] false ?_); simp (disch := omega) only [push_cast,seval,hc,e1,e2,e4,e5,hr,Int.toNat_natCast]; (refine qcall1D (id := 256) (rowOfO_ok _ _ _ _ ?_ ?_) (by (simp (disch := omega) only [push_cast,seval,hc,e1,e2,e4,e5,hr,Int.toNat_natCast]); rfl) (by decide) ⟨_,_,rfl,rfl⟩ ?_; (iterate 2 (exact sd)); rintro _ _ ⟨rfl,rfl⟩)) | ((with_reducible refine qcallI_of (f := 42) [480] false ?_); simp (disch := omega) only [push_cast,seval,hc,e1,e2,e4,e5,hr,Int.toNat_natCast]; (refine qcall1D (id := 480) (rowOfO_ok _ _ _ _ ?_ ?_) (by (simp (disch := omega) only [push_cast,seval,hc,e1,e2,e4,e5,hr,Int.toNat_natCast]); rfl) (by decide) ⟨_,_,rfl,rfl⟩ ?_; (iterate 2 (exact sd)); rintro _ _ ⟨rfl,rfl⟩)) | ((with_reducible refine qcallI_of (f := 42) [544] false ?_); simp (disch := omega) only [push_cast,seval,hc,e1,e2,e4,e5,hr,Int.toNat_natCast]; (refine qcall1D (id := 544) (rowOfO_ok _ _ _ _ ?_ ?_) (by (simp (disch := omega) only [push_cast,seval,hc,e1,e2,e4,e5,hr,Int.toNat_natCast]); rfl) (by decide) ⟨_,_,rfl,rfl⟩ ?_; (iterate 2 (exact sd)); rintro _ _ ⟨rfl,rfl⟩)) | ((with_reducible refine qcallI_of (f := 42) [0] false ?_); simp (disch := omega) only [push_cast,seval,hc,e1,e2,e4,e5,hr,Int.toNat_natCast]; (refine qcall1D (id := 0) (rowOfO_ok _ _ _ _ ?_ ?_) (by (simp (disch := omega) only [push_cast,seval,hc,e1,e2,e4,e5,hr,Int.toNat_natCast]); rfl) (by decide) ⟨_,_,rfl,rfl⟩ ?_; (iterate 2 (exact sd)); rintro _ _ ⟨rfl,rfl⟩)) | ((with_reducible refine qcallI_of (f := 42) [1] false ?_); simp (disch := omega) only [push_cast,seval,hc,e1,e2,e4,e5,hr,Int.toNat_natCast]; (refine qcall1D (id := 1) (rowOfO_ok _ _ _ _ ?_ ?_) (by (simp (disch := omega) only [push_cast,seval,hc,e1,e2,e4,e5,hr,Int.toNat_natCast]); rfl) (by decide) ⟨_,_,rfl,rfl⟩ ?_; (iterate 2 (exact sd)); rintro _ _ ⟨rfl,rfl⟩)) | ((with_reducible refine callD_ids (f := 42) [192] false ?_); simp (disch := omega) only [push_cast,seval,hc,e1,e2,e4,e5,hr,Int.toNat_natCast]; (refine call1D (id := 192) (rowOfO_ok _ _ _ _ ?_ ?_) (by (simp (disch := omega) only [push_cast,seval,hc,e1,e2,e4,e5,hr,Int.toNat_natCast]); rfl) ?_; (iterate 2 (exact sd)); rintro _ _ ⟨rfl,rfl⟩)) | ((with_reducible refine callD_ids (f := 42) [224] false ?_); simp (disch := omega) only [push_cast,seval,hc,e1,e2,e4,e5,hr,Int.toNat_natCast]; (refine call1D (id := 224) (rowOfO_ok _ _ _ _ ?_ ?_) (by (simp (disch := omega) only [push_cast,seval,hc,e1,e2,e4,e5,hr,Int.toNat_natCast]); rfl) ?_; (iterate 2 (exact sd)); rintro _ _ ⟨rfl,rfl⟩)) | ((with_reducible refine callD_ids (f := 42) [256] false ?_); simp (disch := omega) only [push_cast,seval,hc,e1,e2,e4,e5,hr,Int.toNat_natCast]; (refine call1D (id := 256) (rowOfO_ok _ _ _ _ ?_ ?_) (by (simp (disch := omega) only [push_cast,seval,hc,e1,e2,e4,e5,hr,Int.toNat_natCast]); rfl) ?_; (iterate 2 (exact sd)); rintro _ _ ⟨rfl,rfl⟩)) | ((with_reducible refine callD_ids (f := 42) [480] false ?_); simp (disch := omega) only [push_cast,seval,hc,e1,e2,e4,e5,hr,Int.toNat_natCast]; (refine call1D (id := 480) (rowOfO_ok _ _ _ _ ?_ ?_) (by (simp (disch := omega) only [push_cast,seval,hc,e1,e2,e4,e5,hr,Int.toNat_natCast]); rfl) ?_; (iterate 2 (exact sd)); rintro _ _ ⟨rfl,rfl⟩)) | ((with_reducible refine callD_ids (f := 42) [544] false ?_); simp (disch := omega) only [push_cast,seval,hc,e1,e2,e4,e5,hr,Int.toNat_natCast]; (refine call1D (id := 544) (rowOfO_ok _ _ _ _ ?_ ?_) (by (simp (disch := omega) only [push_cast,seval,hc,e1,e2,e4,e5,hr,Int.toNat_natCast]); rfl) ?_; (iterate 2 (exact sd)); rintro _ _ ⟨rfl,rfl⟩)) | ((with_reducible refine callD_ids (f := 42) [0] false ?_); simp (disch := omega) only [push_cast,seval,hc,e1,e2,e4,e5,hr,Int.toNat_natCast]; (refine call1D (id := 0) (rowOfO_ok _ _ _ _ ?_ ?_) (by (simp (disch := omega) only [push_cast,seval,hc,e1,e2,e4,e5,hr,Int.toNat_natCast]); rfl) ?_; (iterate 2 (exact sd)); rintro _ _ ⟨rfl,rfl⟩)) | ((with_reducible refine callD_ids (f := 42) [1] false ?_); simp (disch := omega) only [push_cast,seval,hc,e1,e2,e4,e5,hr,Int.toNat_natCast]; (refine call1D (id := 1) (rowOfO_ok _ _ _ _ ?_ ?_) (by (simp (disch := omega) only [push_cast,seval,hc,e1,e2,e4,e5,hr,Int.toNat_natCast]); rfl) ?_; (iterate 2 (exact sd)); rintro _ _ ⟨rfl,rfl⟩)) | ((with_reducible refine callD_of (f := 42) true ?_); simp (disch := omega) only [push_cast,seval,hc,e1,e2,e4,e5,hr,Int.toNat_natCast]; (refine call0D (rowOfR_ok _ _ _ _ ?_ ?_) ?_; (iterate 2 (exact sd)); rintro _ _ ⟨rfl,rfl⟩))) <;> (try simp (disch := omega) only [push_cast,seval,hc,e1,e2,e4,e5,hr,Int.toNat_natCast]))
 | ((first | refine callD_of false ?_ | refine qcallD_of false ?_); simp (disch := omega) only [push_cast,seval,hc,e1,e2,e4,e5,hr,Int.toNat_natCast])
 | ((first | ((first | refine call0D (clone_ok _ _ ?_ ?_) ?_ | refine qcall0D (clone_ok _ _ ?_ ?_) ⟨_,_,rfl,rfl⟩ ?_); (iterate 2 (exact sd)); rintro _ _ ⟨rfl,rfl⟩) | ((first | refine call0D (cells_ok _ _ _ _ _ ?_ ?_ ?_) ?_ | refine qcall0D (cells_ok _ _ _ _ _ ?_ ?_ ?_) ⟨_,_,rfl,rfl⟩ ?_); (iterate 3 (exact sd)); rintro _ _ ⟨rfl,rfl⟩) | ((first | refine call0D (BCall.ofP (width_ok _ _ _ _ _ ?_ ?_ ?_)) ?_ | refine qcall0D (BCall.ofP (width_ok _ _ _ _ _ ?_ ?_ ?_)) ⟨_,_,rfl,rfl⟩ ?_); (iterate 3 (exact sd)); rintro _ _ ⟨rfl,rfl⟩)) <;> (try simp (disch := omega) only [push_cast,seval,hc,e1,e2,e4,e5,hr,Int.toNat_natCast]))
 | (refine awp_ret ⟨.inr rfl,[192],[],_,by decide,rfl,?_⟩; (try simp (disch := omega) only [push_cast,seval,↓allMem_nil,↓allMem_cons,↓List.map_cons,↓List.map_nil,hc,e1,e2,e4,e5,hr,Int.toNat_natCast]))))
      refine ⟨k + W,⟨by omega,Nat.dvd_add hkd (Nat.dvd_refl W)⟩,by omega,?_⟩
      (refine Sub.of_lists ?_ ?_ ?_ ?_ ?_ <;> simp [Vw.mkS,Vw.lk,Vw.hk,AV.inn,innL,innL_ints,innL_append,innL_rep,-List.map_set,-List.getD_eq_getElem?_getD,hr])
    · have hke : k = L.length := by omega
      have e3 : putK mem L vals k = putL mem L vals := by rw [hke]; rfl
      rw [e3] at e1
      rw [e3]
      (repeat' (first
 | (first | refine awp_seq ?_ | refine awp_block ?_)
 | ((first | refine awp_reg ?_ | refine awp_draw (mid := l23r2a) (post := l23r2b) mixed (by decide) ?_ | refine awp_condB ?_ | refine awp_skip ?_ | refine awp_exit ?_); simp (disch := omega) only [push_cast,seval,l23r0,l23r1,l23r2a,l23r2b,l23r2,l23r3,l23r4,l23r5,l23r6,l23r7,e1])
 | ((first | refine condB_split (fun h => ?_) (fun h => ?_) | refine gIf_split (fun h => ?_) (fun h => ?_) | refine qIf_split (fun h => ?_) (fun h => ?_)) <;> (try simp only [h]) <;> (try simp only [bitvec_to_nat] at h) <;> (try simp only [h]) <;> (first | (exfalso; omega) | (focus (exfalso; simp_all; done)) | (simp (disch := omega) only [push_cast,seval,e1]) | skip))
 | ((first | ((with_reducible refine qcallI_of (f := 42) [192] false ?_); simp (disch := omega) only [push_cast,seval,e1]; (refine qcall1D (id := 192) (rowOfO_ok _ _ _ _ ?_ ?_) (by (simp (disch := omega) only [push_cast,seval,e1]); rfl) (by decide) ⟨_,_,rfl,rfl⟩ ?_; (iterate 2 (exact sd)); rintro _ _ ⟨rfl,rfl⟩)) | ((with_reducible refine qcallI_of (f := 42) [224] false ?_); simp (disch := omega) only [push_cast,seval,e1]; (refine qcall1D (id := 224) (rowOfO_ok _ _ _ _ ?_ ?_) (by (simp (disch := omega) only [push_cast,seval,e1]); rfl) (by decide) ⟨_,_,rfl,rfl⟩ ?_; (iterate 2 (exact sd)); rintro _ _ ⟨rfl,rfl⟩)) | ((with_reducible refine qcallI_of (f := 42) [256] false ?_); simp (disch := omega) only [push_cast,seval,e1]; (refine qcall1D (id := 256) (rowOfO_ok _ _ _ _ ?_ ?_) (by (simp (disch := omega) only [push_cast,seval,e1]); rfl) (by decide) ⟨_,_,rfl,rfl⟩ ?_; (iterate 2 (exact sd)); rintro _ _ ⟨rfl,rfl⟩)) | ((with_reducible refine qcallI_of (f := 42) [480] false ?_); simp (disch := omega) only [push_cast,seval,e1]; (refine qcall1D (id := 480) (rowOfO_ok _ _ _ _ ?_ ?_) (by (simp (disch := omega) only [push_cast,seval,e1]); rfl) (by decide) ⟨_,_,rfl,rfl⟩ ?_; (iterate 2 (exact sd)); rintro _ _ ⟨rfl,rfl⟩)) | ((with_reducible refine qcallI_of (f := 42) [544] false ?_); simp (disch := omega) only [push_cast,seval,e1]; (refine qcall1D (id := 544) (rowOfO_ok _ _ _ _ ?_ ?_) (by (simp (disch := omega) only [push_cast,seval,e1]); rfl) (by decide) ⟨_,_,rfl,rfl⟩ ?_; (iterate 2 (exact sd)); rintro _ _ ⟨rfl,rfl⟩)) | ((with_reducible refine qcallI_of (f := 42) [0] false ?_); simp (disch := omega) only [push_cast,seval,e1]; (refine qcall1D (id := 0) (rowOfO_ok _ _ _ _ ?_ ?_) (by (simp (disch := omega) only [push_cast,seval,e1]); rfl) (by decide) ⟨_,_,rfl,rfl⟩ ?_; (iterate 2 (exact sd)); rintro _ _ ⟨rfl,rfl⟩)) | ((with_reducible refine qcallI_of (f := 42) [1] false ?_); simp (disch := omega) only [push_cast,seval,e1]; (refine qcall1D (id := 1) (rowOfO_ok _ _ _ _ ?_ ?_) (by (simp (disch := omega) only [push_cast,seval,e1]); rfl) (by decide) ⟨_,_,rfl,rfl⟩ ?_; (iterate 2 (exact sd)); rintro _ _ ⟨rfl,rfl⟩)) | ((with_reducible refine callD_ids (f := 42) [192] false ?_); simp (disch := omega) only [push_cast,seval,e1]; (refine call1D (id := 192) (rowOfO_ok _ _ _ _ ?_ ?_) (by (simp (disch := omega) only [push_cast,seval,e1]); rfl) ?_; (iterate 2 (exact sd)); rintro _ _ ⟨rfl,rfl⟩)) | ((with_reducible refine callD_ids (f := 42) [224] false ?_); simp (disch := omega) only [push_cast,seval,e1]; (refine call1D (id := 224) (rowOfO_ok _ _ _ _ ?_ ?_) (by (simp (disch := omega) only [push_cast,seval,e1]); rfl) ?_; (iterate 2 (exact sd)); rintro _ _ ⟨rfl,rfl⟩)) | ((with_reducible refine callD_ids (f := 42) [256] false ?_); simp (disch := omega) only [push_cast,seval,e1]; (refine call1D (id := 256) (rowOfO_ok _ _ _ _ ?_ ?_) (by (simp (disch := omega) only [push_cast,seval,e1]); rfl) ?_; (iterate 2 (exact sd)); rintro _ _ ⟨rfl,rfl⟩)) | ((with_reducible refine callD_ids (f := 42) [480] false ?_); simp (disch := omega) only [push_cast,seval,e1]; (refine call1D (id := 480) (rowOfO_ok _ _ _ _ ?_ ?_) (by (simp (disch := omega) only [push_cast,seval,e1]); rfl) ?_; (iterate 2 (exact sd)); rintro _ _ ⟨rfl,rfl⟩)) | ((with_reducible refine callD_ids (f := 42) [544] false ?_); simp (disch := omega) only [push_cast,seval,e1]; (refine call1D (id := 544) (rowOfO_ok _ _ _ _ ?_ ?_) (by (simp (disch := omega) only [push_cast,seval,e1]); rfl) ?_; (iterate 2 (exact sd)); rintro _ _ ⟨rfl,rfl⟩)) | ((with_reducible refine callD_ids (f := 42) [0] false ?_); simp (disch := omega) only [push_cast,seval,e1]; (refine call1D (id := 0) (rowOfO_ok _ _ _ _ ?_ ?_) (by (simp (disch := omega) only [push_cast,seval,e1]); rfl) ?_; (iterate 2 (exact sd)); rintro _ _ ⟨rfl,rfl⟩)) | ((with_reducible refine callD_ids (f := 42) [1] false ?_); simp (disch := omega) only [push_cast,seval,e1]; (refine call1D (id := 1) (rowOfO_ok _ _ _ _ ?_ ?_) (by (simp (disch := omega) only [push_cast,seval,e1]); rfl) ?_; (iterate 2 (exact sd)); rintro _ _ ⟨rfl,rfl⟩)) | ((with_reducible refine callD_of (f := 42) true ?_); simp (disch := omega) only [push_cast,seval,e1]; (refine call0D (rowOfR_ok _ _ _ _ ?_ ?_) ?_; (iterate 2 (exact sd)); rintro _ _ ⟨rfl,rfl⟩))) <;> (try simp (disch := omega) only [push_cast,seval,e1]))
 | ((first | refine callD_of false ?_ | refine qcallD_of false ?_); simp (disch := omega) only [push_cast,seval,e1])
 | ((first | ((first | refine call0D (clone_ok _ _ ?_ ?_) ?_ | refine qcall0D (clone_ok _ _ ?_ ?_) ⟨_,_,rfl,rfl⟩ ?_); (iterate 2 (exact sd)); rintro _ _ ⟨rfl,rfl⟩) | ((first | refine call0D (cells_ok _ _ _ _ _ ?_ ?_ ?_) ?_ | refine qcall0D (cells_ok _ _ _ _ _ ?_ ?_ ?_) ⟨_,_,rfl,rfl⟩ ?_); (iterate 3 (exact sd)); rintro _ _ ⟨rfl,rfl⟩) | ((first | refine call0D (BCall.ofP (width_ok _ _ _ _ _ ?_ ?_ ?_)) ?_ | refine qcall0D (BCall.ofP (width_ok _ _ _ _ _ ?_ ?_ ?_)) ⟨_,_,rfl,rfl⟩ ?_); (iterate 3 (exact sd)); rintro _ _ ⟨rfl,rfl⟩)) <;> (try simp (disch := omega) only [push_cast,seval,e1]))
 | (refine awp_ret ⟨.inr rfl,[192],[],_,by decide,rfl,?_⟩; (try simp (disch := omega) only [push_cast,seval,↓allMem_nil,↓allMem_cons,↓List.map_cons,↓List.map_nil,e1]))))
      all_goals simp [OI,e1]


theorem carried_ok (mem to fr : List Int) (q n m : Nat) (hq : mem.length = q) (hn : to.length = n) (hm : fr.length = m) (hb : (n = m ∧ q ≤ 60 ∧ m ≤ 60) ∧ (∀ x ∈ to,0 ≤ x ∧ x ≤ (q : Int) - 1) ∧ ∀ x ∈ fr,0 ≤ x ∧ x ≤ (q : Int) - 1) : BCall Tryz.prog 15 [.rows false (IL mem) q,.rows false (IL to) n,.rows false (IL fr) m] [] (OI (carL mem to fr)) := by
  subst hq hn hm
  obtain ⟨⟨hl,h60,hm60⟩,ht,hf⟩ := hb
  have hml : mem.length ≤ 1099511627776 := by omega
  refine bcall_of (pins := []) (pin := 0) l15_eq rfl rfl rfl ?_
  (repeat' (first
 | (first | refine awp_seq ?_ | refine awp_block ?_)
 | ((first | refine awp_reg ?_ | refine awp_draw (mid := l15r5a) (post := l15r5b) mixed (by decide) ?_ | refine awp_condB ?_ | refine awp_skip ?_ | refine awp_exit ?_); simp (disch := omega) only [push_cast,seval,l15r0,l15r1,l15r2,l15r3,l15r4,l15r5a,l15r5b,l15r5,l15r6,l15r7])
 | ((first | refine condB_split (fun h => ?_) (fun h => ?_) | refine gIf_split (fun h => ?_) (fun h => ?_) | refine qIf_split (fun h => ?_) (fun h => ?_)) <;> (try simp only [h]) <;> (try simp only [bitvec_to_nat] at h) <;> (try simp only [h]) <;> (first | (exfalso; omega) | (focus (exfalso; simp_all; done)) | (simp (disch := omega) only [push_cast,seval]) | skip))
 | ((first | refine callD_of false ?_ | refine qcallD_of false ?_); simp (disch := omega) only [push_cast,seval])
 | ((first | ((first | refine call0D (clone_ok _ _ ?_ ?_) ?_ | refine qcall0D (clone_ok _ _ ?_ ?_) ⟨_,_,rfl,rfl⟩ ?_); (iterate 2 (exact sd)); rintro _ _ ⟨rfl,rfl⟩)) <;> (try simp (disch := omega) only [push_cast,seval]))
 | (refine awp_ret ⟨.inr rfl,[176],[],_,by decide,rfl,?_⟩; (try simp (disch := omega) only [push_cast,seval,↓allMem_nil,↓allMem_cons,↓List.map_cons,↓List.map_nil]))))
  refine awp_loop (fun k : Nat => mkS [(1,RI to),(7,.own 176 mem.length 1),(12,RI fr),(13,.int .i64 fr.length),(14,.int .i64 k)] [(176,IL (carK mem to fr k))])
    (fun k => k ≤ fr.length) (fun k => fr.length - k) 0 (Nat.zero_le _) ?_ ?_
  · have e0 : carK mem to fr 0 = mem := rfl
    (refine Sub.of_lists ?_ ?_ ?_ ?_ ?_ <;> simp [Vw.mkS,Vw.lk,Vw.hk,AV.inn,innL,innL_ints,innL_append,innL_rep,-List.map_set,-List.getD_eq_getElem?_getD,e0])
  · intro k hk
    have e1 := carK_length mem to fr k
    by_cases hlt : k < fr.length
    · have h1 := ht _ (getD_mem (xs := to) (j := k) (by omega))
      have h2 := hf _ (getD_mem hlt)
      have h3 : (to.getD k 0).toNat < mem.length := by omega
      have h4 : (fr.getD k 0).toNat < mem.length := by omega
      have h5 : k < to.length := by omega
      have e2 : carK mem to fr (k + 1) = (carK mem to fr k).set (to.getD k 0).toNat ((carK mem to fr k).getD (fr.getD k 0).toNat 0) := rfl
      generalize carK mem to fr k = p at *
      obtain ⟨h11,h12⟩ := h1
      obtain ⟨h21,h22⟩ := h2
      (repeat' (first
 | (first | refine awp_seq ?_ | refine awp_block ?_)
 | ((first | refine awp_reg ?_ | refine awp_draw (mid := l15r5a) (post := l15r5b) mixed (by decide) ?_ | refine awp_condB ?_ | refine awp_skip ?_ | refine awp_exit ?_); simp (disch := omega) only [push_cast,seval,l15r0,l15r1,l15r2,l15r3,l15r4,l15r5a,l15r5b,l15r5,l15r6,l15r7,e1])
 | ((first | refine condB_split (fun h => ?_) (fun h => ?_) | refine gIf_split (fun h => ?_) (fun h => ?_) | refine qIf_split (fun h => ?_) (fun h => ?_)) <;> (try simp only [h]) <;> (try simp only [bitvec_to_nat] at h) <;> (try simp only [h]) <;> (first | (exfalso; omega) | (focus (exfalso; simp_all; done)) | (simp (disch := omega) only [push_cast,seval,e1]) | skip))
 | ((first | refine callD_of false ?_ | refine qcallD_of false ?_); simp (disch := omega) only [push_cast,seval,e1])
 | ((first | ((first | refine call0D (clone_ok _ _ ?_ ?_) ?_ | refine qcall0D (clone_ok _ _ ?_ ?_) ⟨_,_,rfl,rfl⟩ ?_); (iterate 2 (exact sd)); rintro _ _ ⟨rfl,rfl⟩)) <;> (try simp (disch := omega) only [push_cast,seval,e1]))
 | (refine awp_ret ⟨.inr rfl,[176],[],_,by decide,rfl,?_⟩; (try simp (disch := omega) only [push_cast,seval,↓allMem_nil,↓allMem_cons,↓List.map_cons,↓List.map_nil,e1]))))
      refine ⟨k + 1,by omega,by omega,?_⟩
      (refine Sub.of_lists ?_ ?_ ?_ ?_ ?_ <;> simp [Vw.mkS,Vw.lk,Vw.hk,AV.inn,innL,innL_ints,innL_append,innL_rep,-List.map_set,-List.getD_eq_getElem?_getD,e2,IL_set])
    · have hke : k = fr.length := by omega
      have e3 : carK mem to fr k = carL mem to fr := by rw [hke]; rfl
      rw [e3] at e1
      rw [e3]
      (repeat' (first
 | (first | refine awp_seq ?_ | refine awp_block ?_)
 | ((first | refine awp_reg ?_ | refine awp_draw (mid := l15r5a) (post := l15r5b) mixed (by decide) ?_ | refine awp_condB ?_ | refine awp_skip ?_ | refine awp_exit ?_); simp (disch := omega) only [push_cast,seval,l15r0,l15r1,l15r2,l15r3,l15r4,l15r5a,l15r5b,l15r5,l15r6,l15r7,e1])
 | ((first | refine condB_split (fun h => ?_) (fun h => ?_) | refine gIf_split (fun h => ?_) (fun h => ?_) | refine qIf_split (fun h => ?_) (fun h => ?_)) <;> (try simp only [h]) <;> (try simp only [bitvec_to_nat] at h) <;> (try simp only [h]) <;> (first | (exfalso; omega) | (focus (exfalso; simp_all; done)) | (simp (disch := omega) only [push_cast,seval,e1]) | skip))
 | ((first | refine callD_of false ?_ | refine qcallD_of false ?_); simp (disch := omega) only [push_cast,seval,e1])
 | ((first | ((first | refine call0D (clone_ok _ _ ?_ ?_) ?_ | refine qcall0D (clone_ok _ _ ?_ ?_) ⟨_,_,rfl,rfl⟩ ?_); (iterate 2 (exact sd)); rintro _ _ ⟨rfl,rfl⟩)) <;> (try simp (disch := omega) only [push_cast,seval,e1]))
 | (refine awp_ret ⟨.inr rfl,[176],[],_,by decide,rfl,?_⟩; (try simp (disch := omega) only [push_cast,seval,↓allMem_nil,↓allMem_cons,↓List.map_cons,↓List.map_nil,e1]))))
      all_goals simp [OI,e1]


theorem reverse_ok (xs : List Int) (n : Nat) (hn : xs.length = n) (hb : n ≤ 1000) : BCall Tryz.prog 35 [.own 0 n 1] [IL xs] (fun r H' => r = .tup [] ∧ H' = [IL xs.reverse]) := by
  subst hn
  refine bcall_of (pins := [0]) (pin := 1) l35_eq rfl rfl rfl ?_
  (repeat' (first
 | (first | refine awp_seq ?_ | refine awp_block ?_)
 | ((first | refine awp_reg ?_ | refine awp_drawX (mid := l35r2a) (post := l35r2b) [0,1000000020,1000000021,1000000024,1000000025,1000000026] mixed (by decide) ?_ | refine awp_condB ?_ | refine awp_skip ?_ | refine awp_exit ?_); simp (disch := omega) only [push_cast,seval,l35r0,l35r1,l35r2a,l35r2b,l35r2,l35r3])
 | ((first | refine condB_split (fun h => ?_) (fun h => ?_) | refine gIf_split (fun h => ?_) (fun h => ?_) | refine qIf_split (fun h => ?_) (fun h => ?_)) <;> (try simp only [h]) <;> (try simp only [bitvec_to_nat] at h) <;> (try simp only [h]) <;> (first | (exfalso; omega) | (focus (exfalso; simp_all; done)) | (simp (disch := omega) only [push_cast,seval]) | skip))
 | (refine awp_ret ⟨.inr rfl,[],[],_,by decide,rfl,?_⟩; (try simp (disch := omega) only [push_cast,seval,↓allMem_nil,↓allMem_cons,↓List.map_cons,↓List.map_nil]))))
  refine awp_loop (fun k : Nat => mkS [(0,.own 0 xs.length 1),(2,.int .i64 k),(3,.int .i64 ((xs.length : Int) - 1 - k))] [(0,IL (rvK xs k))])
    (fun k => 2 * k ≤ xs.length + 1) (fun k => xs.length - k) 0 (by omega) ?_ ?_
  · have e0 : (xs.length : Int) - 1 - ((0 : Nat) : Int) = (xs.length : Int) - 1 := by omega
    (refine Sub.of_lists ?_ ?_ ?_ ?_ ?_ <;> simp [Vw.mkS,Vw.lk,Vw.hk,AV.inn,innL,innL_ints,innL_append,innL_rep,-List.map_set,-List.getD_eq_getElem?_getD,rvK_zero,e0])
  · intro k hk
    have e1 := rvK_length xs k
    by_cases hlt : 2 * k + 1 < xs.length
    · have e2 := rvK_step hlt
      obtain ⟨j,hj⟩ : ∃ j : Nat,xs.length - 1 - k = j := ⟨_,rfl⟩
      have hj' : (xs.length : Int) - 1 - (k : Int) = (j : Int) := by omega
      have g1 := rvK_getD (xs := xs) (k := k) (j := k) (by omega)
      have g2 := rvK_getD (xs := xs) (k := k) (j := j) (by omega)
      rw [if_neg (by omega)] at g1 g2
      rw [hj] at e2
      have hkj : (k : Int) < (j : Int) := by omega
      have hjl : j < xs.length := by omega
      have hkl : k < xs.length := by omega
      generalize rvK xs k = p at *
      rw [hj']
      (repeat' (first
 | (first | refine awp_seq ?_ | refine awp_block ?_)
 | ((first | refine awp_reg ?_ | refine awp_drawX (mid := l35r2a) (post := l35r2b) [0,1000000020,1000000021,1000000024,1000000025,1000000026] mixed (by decide) ?_ | refine awp_condB ?_ | refine awp_skip ?_ | refine awp_exit ?_); simp (disch := omega) only [push_cast,seval,l35r0,l35r1,l35r2a,l35r2b,l35r2,l35r3,e1,g1,g2,List.length_set,List.length_map])
 | ((first | refine condB_split (fun h => ?_) (fun h => ?_) | refine gIf_split (fun h => ?_) (fun h => ?_) | refine qIf_split (fun h => ?_) (fun h => ?_)) <;> (try simp only [h]) <;> (try simp only [bitvec_to_nat] at h) <;> (try simp only [h]) <;> (first | (exfalso; omega) | (focus (exfalso; simp_all; done)) | (simp (disch := omega) only [push_cast,seval,e1,g1,g2,List.length_set,List.length_map]) | skip))
 | (refine awp_ret ⟨.inr rfl,[],[],_,by decide,rfl,?_⟩; (try simp (disch := omega) only [push_cast,seval,↓allMem_nil,↓allMem_cons,↓List.map_cons,↓List.map_nil,e1,g1,g2,List.length_set,List.length_map]))))
      refine ⟨k + 1,by omega,by omega,?_⟩
      have e3 : (xs.length : Int) - 1 - ((k + 1 : Nat) : Int) = (j : Int) - 1 := by omega
      rw [e3,← e2]
      (refine Sub.of_lists ?_ ?_ ?_ ?_ ?_ <;> simp [Vw.mkS,Vw.lk,Vw.hk,AV.inn,innL,innL_ints,innL_append,innL_rep,-List.map_set,-List.getD_eq_getElem?_getD,IL_set])
    · have e3 := rvK_all (xs := xs) (k := k) (by omega)
      have hkj : ¬ (k : Int) < (xs.length : Int) - 1 - (k : Int) := by omega
      rw [e3]
      rw [e3] at e1
      (repeat' (first
 | (first | refine awp_seq ?_ | refine awp_block ?_)
 | ((first | refine awp_reg ?_ | refine awp_drawX (mid := l35r2a) (post := l35r2b) [0,1000000020,1000000021,1000000024,1000000025,1000000026] mixed (by decide) ?_ | refine awp_condB ?_ | refine awp_skip ?_ | refine awp_exit ?_); simp (disch := omega) only [push_cast,seval,l35r0,l35r1,l35r2a,l35r2b,l35r2,l35r3,e1,hkj])
 | ((first | refine condB_split (fun h => ?_) (fun h => ?_) | refine gIf_split (fun h => ?_) (fun h => ?_) | refine qIf_split (fun h => ?_) (fun h => ?_)) <;> (try simp only [h]) <;> (try simp only [bitvec_to_nat] at h) <;> (try simp only [h]) <;> (first | (exfalso; omega) | (focus (exfalso; simp_all; done)) | (simp (disch := omega) only [push_cast,seval,e1,hkj]) | skip))
 | (refine awp_ret ⟨.inr rfl,[],[],_,by decide,rfl,?_⟩; (try simp (disch := omega) only [push_cast,seval,↓allMem_nil,↓allMem_cons,↓List.map_cons,↓List.map_nil,e1,hkj]))))
      exact ⟨[],[],[],⟨by decide,by simp⟩,rfl,by simp,rfl,rfl⟩


theorem backwards_ok (b : Int) (sh st : List Int) (n m : Nat) (hn : sh.length = n) (hm : st.length = m) (hb : okV b sh st ∧ st.length = sh.length) : BCall Tryz.prog 16 [.agg [.int .i64 b,.rows false (IL sh) n,.rows false (IL st) m]] [] (OI (offs b sh st).reverse) := by
  subst hn hm
  have hol := offs_length b sh st
  have hpb := hb.1.1.2
  have hp60 : (offs b sh st).length ≤ 1000 := by omega
  refine bcall_of (pins := []) (pin := 0) l16_eq rfl rfl rfl ?_
  generalize hL : offs b sh st = L at *
  (repeat' (first
 | (first | refine awp_seq ?_ | refine awp_block ?_)
 | ((first | refine awp_reg ?_ | refine awp_condB ?_ | refine awp_skip ?_ | refine awp_exit ?_); simp (disch := omega) only [push_cast,seval,l16r0,l16r1,l16r2,l16r3,hL,List.length_reverse,List.length_map])
 | ((first | refine condB_split (fun h => ?_) (fun h => ?_) | refine gIf_split (fun h => ?_) (fun h => ?_) | refine qIf_split (fun h => ?_) (fun h => ?_)) <;> (try simp only [h]) <;> (try simp only [bitvec_to_nat] at h) <;> (try simp only [h]) <;> (first | (exfalso; omega) | (focus (exfalso; simp_all; done)) | (simp (disch := omega) only [push_cast,seval,hL,List.length_reverse,List.length_map]) | skip))
 | ((first | ((with_reducible refine qcallI_of (f := 35) [80] false ?_); simp (disch := omega) only [push_cast,seval,hL,List.length_reverse,List.length_map]; (refine qcall1D (id := 80) (reverse_ok _ _ ?_ ?_) (by (simp (disch := omega) only [push_cast,seval,hL,List.length_reverse,List.length_map]); rfl) (by decide) ⟨_,_,rfl,rfl⟩ ?_; (iterate 2 (exact sd)); rintro _ _ ⟨rfl,rfl⟩)) | ((with_reducible refine callD_ids (f := 35) [80] false ?_); simp (disch := omega) only [push_cast,seval,hL,List.length_reverse,List.length_map]; (refine call1D (id := 80) (reverse_ok _ _ ?_ ?_) (by (simp (disch := omega) only [push_cast,seval,hL,List.length_reverse,List.length_map]); rfl) ?_; (iterate 2 (exact sd)); rintro _ _ ⟨rfl,rfl⟩))) <;> (try simp (disch := omega) only [push_cast,seval,hL,List.length_reverse,List.length_map]))
 | ((first | refine callD_of false ?_ | refine qcallD_of false ?_); simp (disch := omega) only [push_cast,seval,hL,List.length_reverse,List.length_map])
 | ((first | ((first | refine call0D (cells_ok _ _ _ _ _ ?_ ?_ ?_) ?_ | refine qcall0D (cells_ok _ _ _ _ _ ?_ ?_ ?_) ⟨_,_,rfl,rfl⟩ ?_); (iterate 3 (exact sd)); rintro _ _ ⟨rfl,rfl⟩)) <;> (try simp (disch := omega) only [push_cast,seval,hL,List.length_reverse,List.length_map]))
 | (refine awp_ret ⟨.inr rfl,[80],[],_,by decide,rfl,?_⟩; (try simp (disch := omega) only [push_cast,seval,↓allMem_nil,↓allMem_cons,↓List.map_cons,↓List.map_nil,hL,List.length_reverse,List.length_map]))))
  all_goals simp [OI]

end Go.Proofs.YtcfjemmoajdcoaaGreat
