import Derived.Test.YtajhakhncalabaaCKp4
import Derived.Test.YtajhakhncalabaaCM1
import Derived.Test.YtajhakhncalabaaCW3
set_option linter.unusedSimpArgs false
set_option linter.unusedVariables false
set_option maxRecDepth 4000
set_option maxHeartbeats 4000000
namespace Go.Proofs.Ytajhakhncalabaa
open VwM Vw Go

theorem innL_all7 {p : Nat → Bool} : ∀ {L : List AV},(∀ a ∈ L,a.inn p = true) → innL p L = true
  | [],_ => rfl
  | a :: r,h => by
    simp only [innL,Bool.and_eq_true]
    exact ⟨h a (by simp),innL_all7 fun x hx => h x (by simp [hx])⟩
theorem innL_mem7 {p : Nat → Bool} : ∀ {L : List AV},innL p L = true → ∀ a ∈ L,a.inn p = true
  | a :: r,h,x,hx => by
    simp only [innL,Bool.and_eq_true] at h
    rcases List.mem_cons.1 hx with e | e
    · rw [e]; exact h.1
    · exact innL_mem7 h.2 x e
theorem zc_mem7 {zs : List AV} {n : Nat} {a : AV} (h : a ∈ zcells zs n) : a ∈ zs ∨ a = .unk := by
  simp only [zcells,List.mem_map,List.mem_range] at h
  obtain ⟨i,_,rfl⟩ := h
  by_cases hi : i % zs.length < zs.length
  · left; simp [List.getD,hi]
  · right; simp [List.getD,List.getElem?_eq_none (Nat.le_of_not_lt hi)]
theorem set2 {A D : List AV} {p : Nat} (h : A.length = p) (hD : 2 ≤ D.length) (a b : AV) : ((A ++ D).set p a).set (p + 1) b = A ++ [a,b] ++ D.drop 2 := by
  subst h
  match D,hD with
  | d0 :: d1 :: D,_ => simp [List.set_append]
theorem set1 {A D : List AV} {p : Nat} (h : A.length = p) (hD : 1 ≤ D.length) (a : AV) : (A ++ D).set p a = A ++ [a] ++ D.drop 1 := by
  subst h
  match D,hD with
  | d0 :: D,_ => simp [List.set_append]
theorem TL_step {ts : List Tn} {i : Nat} {x y : List Int} (hv : ts[i]? = some (x,y)) {Z : List AV} (hZ : Z.length = ts.length * 2) :
    ((TL true (ts.take i) ++ Z.drop (i * 2)).set (i * 2) (.rows true (IL x) x.length)).set (i * 2 + 1) (.rows true (IL y) y.length) = TL true (ts.take (i + 1)) ++ Z.drop ((i + 1) * 2) := by
  have hi : i < ts.length := (List.getElem?_eq_some_iff.1 hv).1
  rw [set2 (by rw [TL_length,List.length_take]; omega) (by rw [List.length_drop]; omega),List.drop_drop,List.take_add_one,hv,TL_append,show i * 2 + 2 = (i + 1) * 2 by omega]
  rfl
theorem LL_step {ls : List (List Int)} {i : Nat} {l : List Int} (hv : ls[i]? = some l) {Z : List AV} (hZ : Z.length = ls.length) :
    (LL true (ls.take i) ++ Z.drop i).set i (.rows true (IL l) l.length) = LL true (ls.take (i + 1)) ++ Z.drop (i + 1) := by
  have hi : i < ls.length := (List.getElem?_eq_some_iff.1 hv).1
  rw [set1 (by rw [LL_length,List.length_take]; omega) (by rw [List.length_drop]; omega),List.drop_drop,List.take_add_one,hv,LL_append]
  rfl
theorem exB_some {ts : List Tn} {n : Nat} (h : ∀ t ∈ ts,t.1.length ≤ n ∧ t.2.length ≤ n) {i : Nat} {x y : List Int} (ht : ts[i]? = some (x,y)) : x.length ≤ n ∧ y.length ≤ n := h _ (List.mem_of_getElem? ht)


set_option maxHeartbeats 8000000 in
theorem toTensorS_ok (ts : List Tn) (n : Nat) (hn : ts.length = n) (hb : n ≤ 1048576 ∧ ∀ t ∈ ts,t.1.length ≤ 1099511627776 ∧ t.2.length ≤ 1099511627776) : BCall Try.prog 31 [.rows false (TL false ts) n] [] (fun r H' => r = .own 0 n 2 ∧ H' = [TL true ts]) := by
  subst hn
  obtain ⟨hb1,hb2⟩ := hb
  refine bcall_of (pins := []) (pin := 0) l31_eq rfl rfl rfl ?_
  have htl := TL_length false ts
  have hzl : (zcells [AV.val (.slice none 0 0),.val (.slice none 0 0)] ts.length).length = ts.length * 2 := by simp [zcells,Nat.mul_comm]
  have hz0 : (zcells [AV.val (.slice none 0 0),.val (.slice none 0 0)] ts.length).drop (0 * 2) = zcells [AV.val (.slice none 0 0),.val (.slice none 0 0)] ts.length := by rw [Nat.zero_mul,List.drop_zero]
  have hzi : ∀ p : Nat → Bool,innL p (zcells [AV.val (.slice none 0 0),.val (.slice none 0 0)] ts.length) = true := fun p => innL_all7 fun a ha => by
    rcases zc_mem7 ha with h | h
    · simp at h; rw [h]; rfl
    · rw [h]; rfl
  (repeat' (first
 | (first | refine awp_seq ?_ | refine awp_block ?_)
 | ((first | refine awp_reg ?_ | refine awp_condB ?_ | refine awp_skip ?_ | refine awp_exit ?_); simp (disch := omega) only [push_cast,seval,l31r0,l31r1,l31r2,l31r3,l31r4,l31r5,l31r6,innL_TL])
 | ((first | refine condB_split (fun h => ?_) (fun h => ?_) | refine gIf_split (fun h => ?_) (fun h => ?_) | refine qIf_split (fun h => ?_) (fun h => ?_)) <;> (try simp only [h]) <;> (try simp only [bitvec_to_nat] at h) <;> (try simp only [h]) <;> (first | (exfalso; omega) | (focus (exfalso; simp_all; done)) | (simp (disch := omega) only [push_cast,seval,innL_TL]) | skip))
 | ((first | refine callD_of false ?_ | refine qcallD_of false ?_); simp (disch := omega) only [push_cast,seval,innL_TL])
 | ((first | ((first | refine call0D (BCall.ofP (toTensorP_ok _ _ _ _ ?_ ?_ ?_)) ?_ | refine qcall0D (BCall.ofP (toTensorP_ok _ _ _ _ ?_ ?_ ?_)) ⟨_,_,rfl,rfl⟩ ?_); (iterate 3 (exact sd)); rintro _ _ ⟨rfl,rfl⟩)) <;> (try simp (disch := omega) only [push_cast,seval,innL_TL]))
 | (refine awp_ret ⟨.inr rfl,[112],[],_,by decide,rfl,?_⟩; (try simp (disch := omega) only [push_cast,seval,↓allMem_nil,↓allMem_cons,↓List.map_cons,↓List.map_nil,innL_TL]))))
  generalize hZ : zcells [AV.val (.slice none 0 0),.val (.slice none 0 0)] ts.length = Z at *
  refine awp_loop (fun i : Nat => mkS [(0,.rows false (TL false ts) ts.length),(3,.own 112 ts.length 2),(4,.int .i64 i)] [(112,TL true (ts.take i) ++ Z.drop (i * 2))]) (fun i => i ≤ ts.length) (fun i => ts.length - i) 0 (Nat.zero_le _) ?_ ?_
  · (refine Sub.of_lists ?_ ?_ ?_ ?_ ?_ <;> simp [Vw.mkS,Vw.lk,Vw.hk,AV.inn,innL,innL_ints,innL_append,innL_rep,-List.map_set,-List.getD_eq_getElem?_getD,innL_TL,TL,hzi])
  · intro i hi
    by_cases hlt : i < ts.length
    · obtain ⟨⟨x,y⟩,hti⟩ := mem_lt hlt
      have hbb := exB_some hb2 hti
      have hd := TL_drop false ts i hti
      simp only at hd
      have hil : i * 2 + 2 ≤ ts.length * 2 := by omega
      have hst := TL_step hti hzl
      have hwl : (TL true (ts.take i) ++ Z.drop (i * 2)).length = ts.length * 2 := by rw [List.length_append,TL_length,List.length_take,List.length_drop,hzl]; omega
      have hwi : ∀ p : Nat → Bool,innL p (TL true (ts.take (i + 1)) ++ Z.drop ((i + 1) * 2)) = true := fun p => innL_all7 fun a ha => by
        rcases List.mem_append.1 ha with h | h
        · exact innL_mem7 (innL_TL true p _) a h
        · exact innL_mem7 (hzi p) a (List.mem_of_mem_drop h)
      generalize hW : TL true (ts.take i) ++ Z.drop (i * 2) = W at *
      generalize hW2 : TL true (ts.take (i + 1)) ++ Z.drop ((i + 1) * 2) = W2 at *
      (repeat' (first
 | (first | refine awp_seq ?_ | refine awp_block ?_)
 | ((first | refine awp_reg ?_ | refine awp_condB ?_ | refine awp_skip ?_ | refine awp_exit ?_); simp (disch := omega) only [push_cast,seval,l31r0,l31r1,l31r2,l31r3,l31r4,l31r5,l31r6,hd,htl,hil,hwl,innL_TL])
 | ((first | refine condB_split (fun h => ?_) (fun h => ?_) | refine gIf_split (fun h => ?_) (fun h => ?_) | refine qIf_split (fun h => ?_) (fun h => ?_)) <;> (try simp only [h]) <;> (try simp only [bitvec_to_nat] at h) <;> (try simp only [h]) <;> (first | (exfalso; omega) | (focus (exfalso; simp_all; done)) | (simp (disch := omega) only [push_cast,seval,hd,htl,hil,hwl,innL_TL]) | skip))
 | ((first | refine callD_of false ?_ | refine qcallD_of false ?_); simp (disch := omega) only [push_cast,seval,hd,htl,hil,hwl,innL_TL])
 | ((first | ((first | refine call0D (BCall.ofP (toTensorP_ok _ _ _ _ ?_ ?_ ?_)) ?_ | refine qcall0D (BCall.ofP (toTensorP_ok _ _ _ _ ?_ ?_ ?_)) ⟨_,_,rfl,rfl⟩ ?_); (iterate 3 (exact sd)); rintro _ _ ⟨rfl,rfl⟩)) <;> (try simp (disch := omega) only [push_cast,seval,hd,htl,hil,hwl,innL_TL]))
 | (refine awp_ret ⟨.inr rfl,[112],[],_,by decide,rfl,?_⟩; (try simp (disch := omega) only [push_cast,seval,↓allMem_nil,↓allMem_cons,↓List.map_cons,↓List.map_nil,hd,htl,hil,hwl,innL_TL]))))
      refine ⟨i + 1,by omega,by omega,?_⟩
      (refine Sub.of_lists ?_ ?_ ?_ ?_ ?_ <;> simp [Vw.mkS,Vw.lk,Vw.hk,AV.inn,innL,innL_ints,innL_append,innL_rep,-List.map_set,-List.getD_eq_getElem?_getD,hst,hW2,hwi,innL_TL])
    · have e : i = ts.length := by omega
      subst e
      have hfin : TL true (ts.take ts.length) ++ Z.drop (ts.length * 2) = TL true ts := by rw [List.take_length,List.drop_eq_nil_of_le (by omega),List.append_nil]
      rw [hfin]
      (repeat' (first
 | (first | refine awp_seq ?_ | refine awp_block ?_)
 | ((first | refine awp_reg ?_ | refine awp_condB ?_ | refine awp_skip ?_ | refine awp_exit ?_); simp (disch := omega) only [push_cast,seval,l31r0,l31r1,l31r2,l31r3,l31r4,l31r5,l31r6,innL_TL])
 | ((first | refine condB_split (fun h => ?_) (fun h => ?_) | refine gIf_split (fun h => ?_) (fun h => ?_) | refine qIf_split (fun h => ?_) (fun h => ?_)) <;> (try simp only [h]) <;> (try simp only [bitvec_to_nat] at h) <;> (try simp only [h]) <;> (first | (exfalso; omega) | (focus (exfalso; simp_all; done)) | (simp (disch := omega) only [push_cast,seval,innL_TL]) | skip))
 | ((first | refine callD_of false ?_ | refine qcallD_of false ?_); simp (disch := omega) only [push_cast,seval,innL_TL])
 | ((first | ((first | refine call0D (BCall.ofP (toTensorP_ok _ _ _ _ ?_ ?_ ?_)) ?_ | refine qcall0D (BCall.ofP (toTensorP_ok _ _ _ _ ?_ ?_ ?_)) ⟨_,_,rfl,rfl⟩ ?_); (iterate 3 (exact sd)); rintro _ _ ⟨rfl,rfl⟩)) <;> (try simp (disch := omega) only [push_cast,seval,innL_TL]))
 | (refine awp_ret ⟨.inr rfl,[112],[],_,by decide,rfl,?_⟩; (try simp (disch := omega) only [push_cast,seval,↓allMem_nil,↓allMem_cons,↓List.map_cons,↓List.map_nil,innL_TL]))))
      all_goals (first | exact ⟨rfl,rfl⟩ | skip)


theorem toTensorSP_ok (ts : List Tn) (n : Nat) (hn : ts.length = n) (hb : n ≤ 1048576 ∧ ∀ t ∈ ts,t.1.length ≤ 1099511627776 ∧ t.2.length ≤ 1099511627776) : PCall Try.prog 31 [.rows false (TL false ts) n] (fun r => r = .rows true (TL true ts) n) := by
  refine (BCall.plain (toTensorS_ok ts n hn hb)).mono ?_
  rintro r ⟨r0,H',⟨rfl,rfl⟩,rfl⟩
  have e := ren_TLs (ρ := fun _ => none) (Zh := nthH [TL true ts]) (b0 := true) (n := 2) true ts
  simp [AV.ren,nthH,TL_length,hn]
  exact e


theorem toIntSP_ok (xs : List Int) (n : Nat) (hn : xs.length = n) (hb : n ≤ 1099511627776) : PCall Try.prog 19 [.rows false (IL xs) n] (fun r => r = .rows true (IL xs) xs.length) := plainI (toIntS_ok xs n hn hb)


set_option maxHeartbeats 8000000 in
theorem toIntSS_ok (ls : List (List Int)) (n : Nat) (hn : ls.length = n) (hb : n ≤ 1048576 ∧ ∀ l ∈ ls,l.length ≤ 1099511627776) : BCall Try.prog 32 [.rows false (LL false ls) n] [] (fun r H' => r = .own 0 n 1 ∧ H' = [LL true ls]) := by
  subst hn
  obtain ⟨hb1,hb2⟩ := hb
  refine bcall_of (pins := []) (pin := 0) l32_eq rfl rfl rfl ?_
  have hll := LL_length false ls
  have hzl : (List.replicate ls.length (AV.val (.slice none 0 0))).length = ls.length := by simp
  have hz0 : (List.replicate ls.length (AV.val (.slice none 0 0))).drop 0 = List.replicate ls.length (AV.val (.slice none 0 0)) := List.drop_zero ..
  have hzi : ∀ p : Nat → Bool,innL p (List.replicate ls.length (AV.val (.slice none 0 0))) = true := fun p => innL_all7 fun a ha => by
    rw [(List.mem_replicate.1 ha).2]; rfl
  (repeat' (first
 | (first | refine awp_seq ?_ | refine awp_block ?_)
 | ((first | refine awp_reg ?_ | refine awp_condB ?_ | refine awp_skip ?_ | refine awp_exit ?_); simp (disch := omega) only [push_cast,seval,l32r0,l32r1,l32r2,l32r3,l32r4,l32r5,l32r6,innL_LL])
 | ((first | refine condB_split (fun h => ?_) (fun h => ?_) | refine gIf_split (fun h => ?_) (fun h => ?_) | refine qIf_split (fun h => ?_) (fun h => ?_)) <;> (try simp only [h]) <;> (try simp only [bitvec_to_nat] at h) <;> (try simp only [h]) <;> (first | (exfalso; omega) | (focus (exfalso; simp_all; done)) | (simp (disch := omega) only [push_cast,seval,innL_LL]) | skip))
 | ((first | refine callD_of false ?_ | refine qcallD_of false ?_); simp (disch := omega) only [push_cast,seval,innL_LL])
 | ((first | ((first | refine call0D (BCall.ofP (toIntSP_ok _ _ ?_ ?_)) ?_ | refine qcall0D (BCall.ofP (toIntSP_ok _ _ ?_ ?_)) ⟨_,_,rfl,rfl⟩ ?_); (iterate 2 (exact sd)); rintro _ _ ⟨rfl,rfl⟩)) <;> (try simp (disch := omega) only [push_cast,seval,innL_LL]))
 | (refine awp_ret ⟨.inr rfl,[112],[],_,by decide,rfl,?_⟩; (try simp (disch := omega) only [push_cast,seval,↓allMem_nil,↓allMem_cons,↓List.map_cons,↓List.map_nil,innL_LL]))))
  generalize hZ : List.replicate ls.length (AV.val (.slice none 0 0)) = Z at *
  refine awp_loop (fun i : Nat => mkS [(0,.rows false (LL false ls) ls.length),(3,.own 112 ls.length 1),(4,.int .i64 i)] [(112,LL true (ls.take i) ++ Z.drop i)]) (fun i => i ≤ ls.length) (fun i => ls.length - i) 0 (Nat.zero_le _) ?_ ?_
  · (refine Sub.of_lists ?_ ?_ ?_ ?_ ?_ <;> simp [Vw.mkS,Vw.lk,Vw.hk,AV.inn,innL,innL_ints,innL_append,innL_rep,-List.map_set,-List.getD_eq_getElem?_getD,innL_LL,LL,hzi])
  · intro i hi
    by_cases hlt : i < ls.length
    · obtain ⟨l,hli⟩ := mem_lt hlt
      have hbb := hb2 _ (List.mem_of_getElem? hli)
      have hd := LL_drop false ls i hli
      have hil : i + 1 ≤ ls.length := by omega
      have hst := LL_step hli hzl
      have hwl : (LL true (ls.take i) ++ Z.drop i).length = ls.length := by rw [List.length_append,LL_length,List.length_take,List.length_drop,hzl]; omega
      have hwi : ∀ p : Nat → Bool,innL p (LL true (ls.take (i + 1)) ++ Z.drop (i + 1)) = true := fun p => innL_all7 fun a ha => by
        rcases List.mem_append.1 ha with h | h
        · exact innL_mem7 (innL_LL true p _) a h
        · exact innL_mem7 (hzi p) a (List.mem_of_mem_drop h)
      generalize hW : LL true (ls.take i) ++ Z.drop i = W at *
      generalize hW2 : LL true (ls.take (i + 1)) ++ Z.drop (i + 1) = W2 at *
      (repeat' (first
 | (first | refine awp_seq ?_ | refine awp_block ?_)
 | ((first | refine awp_reg ?_ | refine awp_condB ?_ | refine awp_skip ?_ | refine awp_exit ?_); simp (disch := omega) only [push_cast,seval,l32r0,l32r1,l32r2,l32r3,l32r4,l32r5,l32r6,hd,hll,hil,hwl,innL_LL])
 | ((first | refine condB_split (fun h => ?_) (fun h => ?_) | refine gIf_split (fun h => ?_) (fun h => ?_) | refine qIf_split (fun h => ?_) (fun h => ?_)) <;> (try simp only [h]) <;> (try simp only [bitvec_to_nat] at h) <;> (try simp only [h]) <;> (first | (exfalso; omega) | (focus (exfalso; simp_all; done)) | (simp (disch := omega) only [push_cast,seval,hd,hll,hil,hwl,innL_LL]) | skip))
 | ((first | refine callD_of false ?_ | refine qcallD_of false ?_); simp (disch := omega) only [push_cast,seval,hd,hll,hil,hwl,innL_LL])
 | ((first | ((first | refine call0D (BCall.ofP (toIntSP_ok _ _ ?_ ?_)) ?_ | refine qcall0D (BCall.ofP (toIntSP_ok _ _ ?_ ?_)) ⟨_,_,rfl,rfl⟩ ?_); (iterate 2 (exact sd)); rintro _ _ ⟨rfl,rfl⟩)) <;> (try simp (disch := omega) only [push_cast,seval,hd,hll,hil,hwl,innL_LL]))
 | (refine awp_ret ⟨.inr rfl,[112],[],_,by decide,rfl,?_⟩; (try simp (disch := omega) only [push_cast,seval,↓allMem_nil,↓allMem_cons,↓List.map_cons,↓List.map_nil,hd,hll,hil,hwl,innL_LL]))))
      refine ⟨i + 1,by omega,by omega,?_⟩
      (refine Sub.of_lists ?_ ?_ ?_ ?_ ?_ <;> simp [Vw.mkS,Vw.lk,Vw.hk,AV.inn,innL,innL_ints,innL_append,innL_rep,-List.map_set,-List.getD_eq_getElem?_getD,hst,hW2,hwi,innL_LL])
    · have e : i = ls.length := by omega
      subst e
      have hfin : LL true (ls.take ls.length) ++ Z.drop ls.length = LL true ls := by rw [List.take_length,List.drop_eq_nil_of_le (by omega),List.append_nil]
      rw [hfin]
      (repeat' (first
 | (first | refine awp_seq ?_ | refine awp_block ?_)
 | ((first | refine awp_reg ?_ | refine awp_condB ?_ | refine awp_skip ?_ | refine awp_exit ?_); simp (disch := omega) only [push_cast,seval,l32r0,l32r1,l32r2,l32r3,l32r4,l32r5,l32r6,innL_LL])
 | ((first | refine condB_split (fun h => ?_) (fun h => ?_) | refine gIf_split (fun h => ?_) (fun h => ?_) | refine qIf_split (fun h => ?_) (fun h => ?_)) <;> (try simp only [h]) <;> (try simp only [bitvec_to_nat] at h) <;> (try simp only [h]) <;> (first | (exfalso; omega) | (focus (exfalso; simp_all; done)) | (simp (disch := omega) only [push_cast,seval,innL_LL]) | skip))
 | ((first | refine callD_of false ?_ | refine qcallD_of false ?_); simp (disch := omega) only [push_cast,seval,innL_LL])
 | ((first | ((first | refine call0D (BCall.ofP (toIntSP_ok _ _ ?_ ?_)) ?_ | refine qcall0D (BCall.ofP (toIntSP_ok _ _ ?_ ?_)) ⟨_,_,rfl,rfl⟩ ?_); (iterate 2 (exact sd)); rintro _ _ ⟨rfl,rfl⟩)) <;> (try simp (disch := omega) only [push_cast,seval,innL_LL]))
 | (refine awp_ret ⟨.inr rfl,[112],[],_,by decide,rfl,?_⟩; (try simp (disch := omega) only [push_cast,seval,↓allMem_nil,↓allMem_cons,↓List.map_cons,↓List.map_nil,innL_LL]))))
      all_goals (first | exact ⟨rfl,rfl⟩ | skip)




theorem toIntSSP_ok (ls : List (List Int)) (n : Nat) (hn : ls.length = n) (hb : n ≤ 1048576 ∧ ∀ l ∈ ls,l.length ≤ 1099511627776) : PCall Try.prog 32 [.rows false (LL false ls) n] (fun r => r = .rows true (LL true ls) n) := by
  refine (BCall.plain (toIntSS_ok ls n hn hb)).mono ?_
  rintro r ⟨r0,H',⟨rfl,rfl⟩,rfl⟩
  have e := ren_LLs (ρ := fun _ => none) (Zh := nthH [LL true ls]) (b0 := true) (n := 2) true ls
  simp [AV.ren,nthH,LL_length,hn]
  exact e


set_option maxHeartbeats 8000000 in
theorem szTensorS_ok (ts : List Tn) (n : Nat) (k : Int) (hn : ts.length = n) (hk : 0 ≤ k ∧ k ≤ 1048576) (hb : n ≤ 9223372036854775807 ∧ ∀ t ∈ ts,t.1.length ≤ 9223372036854775807 ∧ t.2.length ≤ 9223372036854775807) : PCall Try.prog 28 [.rows false (TL false ts) n,.int .i64 k] (fun r => ∃ z : Int,(0 ≤ z → z ≤ 1048576 ∧ ts.length ≤ 1048576 ∧ ∀ t ∈ ts,t.1.length ≤ 1048576 ∧ t.2.length ≤ 1048576) ∧ r = .int .i64 z) := by
  subst hn
  obtain ⟨hb1,hb2⟩ := hb
  refine pcall_of l28_eq rfl ?_
  have htl := TL_length false ts
  by_cases h0 : k - (ts.length : Int) < 0
  · (repeat' (first
 | (first | refine awp_seq ?_ | refine awp_block ?_)
 | ((first | refine awp_reg ?_ | refine awp_condB ?_ | refine awp_skip ?_ | refine awp_exit ?_); simp (disch := omega) only [push_cast,seval,l28r0,l28r1,l28r2,l28r3,l28r4,l28r5,l28r6,l28r7,l28r8,l28r9,l28r10,h0,innL_TL])
 | ((first | refine condB_split (fun h => ?_) (fun h => ?_) | refine gIf_split (fun h => ?_) (fun h => ?_) | refine qIf_split (fun h => ?_) (fun h => ?_)) <;> (try simp only [h]) <;> (try simp only [bitvec_to_nat] at h) <;> (try simp only [h]) <;> (first | (exfalso; omega) | (focus (exfalso; simp_all; done)) | (simp (disch := omega) only [push_cast,seval,h0,innL_TL]) | skip))
 | ((first | refine callD_of false ?_ | refine qcallD_of false ?_); simp (disch := omega) only [push_cast,seval,h0,innL_TL])
 | ((first | ((first | refine call0D (BCall.ofP (szTensor_ok _ _ _ _ _ ?_ ?_)) ?_ | refine qcall0D (BCall.ofP (szTensor_ok _ _ _ _ _ ?_ ?_)) ⟨_,_,rfl,rfl⟩ ?_); (iterate 2 (exact sd)); rintro _ _ ⟨rfl,rfl⟩)) <;> (try simp (disch := omega) only [push_cast,seval,h0,innL_TL]))
 | (refine awp_ret ⟨.inr rfl,_,rfl,?_⟩; (try simp (disch := omega) only [push_cast,seval,h0,innL_TL]))))
    all_goals exact ⟨_,by omega,rfl⟩
  · (repeat' (first
 | (first | refine awp_seq ?_ | refine awp_block ?_)
 | ((first | refine awp_reg ?_ | refine awp_condB ?_ | refine awp_skip ?_ | refine awp_exit ?_); simp (disch := omega) only [push_cast,seval,l28r0,l28r1,l28r2,l28r3,l28r4,l28r5,l28r6,l28r7,l28r8,l28r9,l28r10,h0,innL_TL])
 | ((first | refine condB_split (fun h => ?_) (fun h => ?_) | refine gIf_split (fun h => ?_) (fun h => ?_) | refine qIf_split (fun h => ?_) (fun h => ?_)) <;> (try simp only [h]) <;> (try simp only [bitvec_to_nat] at h) <;> (try simp only [h]) <;> (first | (exfalso; omega) | (focus (exfalso; simp_all; done)) | (simp (disch := omega) only [push_cast,seval,h0,innL_TL]) | skip))
 | ((first | refine callD_of false ?_ | refine qcallD_of false ?_); simp (disch := omega) only [push_cast,seval,h0,innL_TL])
 | ((first | ((first | refine call0D (BCall.ofP (szTensor_ok _ _ _ _ _ ?_ ?_)) ?_ | refine qcall0D (BCall.ofP (szTensor_ok _ _ _ _ _ ?_ ?_)) ⟨_,_,rfl,rfl⟩ ?_); (iterate 2 (exact sd)); rintro _ _ ⟨rfl,rfl⟩)) <;> (try simp (disch := omega) only [push_cast,seval,h0,innL_TL]))
 | (refine awp_ret ⟨.inr rfl,_,rfl,?_⟩; (try simp (disch := omega) only [push_cast,seval,h0,innL_TL]))))
    refine awp_loop (fun x : Nat × Int => mkS [(0,.rows false (TL false ts) ts.length),(1,.int .i64 x.2),(5,.int .i64 x.1)] []) (fun x => x.1 ≤ ts.length ∧ (0 ≤ x.2 ∧ x.2 ≤ 1048576) ∧ ∀ j t,j < x.1 → ts[j]? = some t → t.1.length ≤ 1048576 ∧ t.2.length ≤ 1048576) (fun x => ts.length - x.1) (0,k - ts.length) ⟨Nat.zero_le _,by simp only; omega,fun j v h => absurd h (Nat.not_lt_zero _)⟩ ?_ ?_
    · (refine Sub.of_lists ?_ ?_ ?_ ?_ ?_ <;> simp [Vw.mkS,Vw.lk,Vw.hk,AV.inn,innL,innL_ints,innL_append,innL_rep,-List.map_set,-List.getD_eq_getElem?_getD,innL_TL])
    · rintro ⟨i,z⟩ ⟨hi,hz,hall⟩
      simp only at hi hz hall ⊢
      by_cases hlt : i < ts.length
      · obtain ⟨⟨x,y⟩,hti⟩ := mem_lt hlt
        have hbb := exB_some hb2 hti
        have hd := TL_drop false ts i hti
        simp only at hd
        have hil : i * 2 + 2 ≤ ts.length * 2 := by omega
        by_cases hs : z - (x.length : Int) - y.length < 0
        · (repeat' (first
 | (first | refine awp_seq ?_ | refine awp_block ?_)
 | ((first | refine awp_reg ?_ | refine awp_condB ?_ | refine awp_skip ?_ | refine awp_exit ?_); simp (disch := omega) only [push_cast,seval,l28r0,l28r1,l28r2,l28r3,l28r4,l28r5,l28r6,l28r7,l28r8,l28r9,l28r10,hd,htl,hil,hs,innL_TL])
 | ((first | refine condB_split (fun h => ?_) (fun h => ?_) | refine gIf_split (fun h => ?_) (fun h => ?_) | refine qIf_split (fun h => ?_) (fun h => ?_)) <;> (try simp only [h]) <;> (try simp only [bitvec_to_nat] at h) <;> (try simp only [h]) <;> (first | (exfalso; omega) | (focus (exfalso; simp_all; done)) | (simp (disch := omega) only [push_cast,seval,hd,htl,hil,hs,innL_TL]) | skip))
 | ((first | refine callD_of false ?_ | refine qcallD_of false ?_); simp (disch := omega) only [push_cast,seval,hd,htl,hil,hs,innL_TL])
 | ((first | ((first | refine call0D (BCall.ofP (szTensor_ok _ _ _ _ _ ?_ ?_)) ?_ | refine qcall0D (BCall.ofP (szTensor_ok _ _ _ _ _ ?_ ?_)) ⟨_,_,rfl,rfl⟩ ?_); (iterate 2 (exact sd)); rintro _ _ ⟨rfl,rfl⟩)) <;> (try simp (disch := omega) only [push_cast,seval,hd,htl,hil,hs,innL_TL]))
 | (refine awp_ret ⟨.inr rfl,_,rfl,?_⟩; (try simp (disch := omega) only [push_cast,seval,hd,htl,hil,hs,innL_TL]))))
          all_goals exact ⟨_,by omega,rfl⟩
        · (repeat' (first
 | (first | refine awp_seq ?_ | refine awp_block ?_)
 | ((first | refine awp_reg ?_ | refine awp_condB ?_ | refine awp_skip ?_ | refine awp_exit ?_); simp (disch := omega) only [push_cast,seval,l28r0,l28r1,l28r2,l28r3,l28r4,l28r5,l28r6,l28r7,l28r8,l28r9,l28r10,hd,htl,hil,hs,innL_TL])
 | ((first | refine condB_split (fun h => ?_) (fun h => ?_) | refine gIf_split (fun h => ?_) (fun h => ?_) | refine qIf_split (fun h => ?_) (fun h => ?_)) <;> (try simp only [h]) <;> (try simp only [bitvec_to_nat] at h) <;> (try simp only [h]) <;> (first | (exfalso; omega) | (focus (exfalso; simp_all; done)) | (simp (disch := omega) only [push_cast,seval,hd,htl,hil,hs,innL_TL]) | skip))
 | ((first | refine callD_of false ?_ | refine qcallD_of false ?_); simp (disch := omega) only [push_cast,seval,hd,htl,hil,hs,innL_TL])
 | ((first | ((first | refine call0D (BCall.ofP (szTensor_ok _ _ _ _ _ ?_ ?_)) ?_ | refine qcall0D (BCall.ofP (szTensor_ok _ _ _ _ _ ?_ ?_)) ⟨_,_,rfl,rfl⟩ ?_); (iterate 2 (exact sd)); rintro _ _ ⟨rfl,rfl⟩)) <;> (try simp (disch := omega) only [push_cast,seval,hd,htl,hil,hs,innL_TL]))
 | (refine awp_ret ⟨.inr rfl,_,rfl,?_⟩; (try simp (disch := omega) only [push_cast,seval,hd,htl,hil,hs,innL_TL]))))
          refine ⟨(i + 1,z - x.length - y.length),⟨by simp only; omega,by simp only; omega,fun j v hj hjv => ?_⟩,by simp only; omega,?_⟩
          · simp only at hj
            by_cases e : j = i
            · subst e; rw [hti] at hjv; cases hjv; simp only; omega
            · exact hall j v (by omega) hjv
          · (refine Sub.of_lists ?_ ?_ ?_ ?_ ?_ <;> simp [Vw.mkS,Vw.lk,Vw.hk,AV.inn,innL,innL_ints,innL_append,innL_rep,-List.map_set,-List.getD_eq_getElem?_getD,innL_TL])
      · (repeat' (first
 | (first | refine awp_seq ?_ | refine awp_block ?_)
 | ((first | refine awp_reg ?_ | refine awp_condB ?_ | refine awp_skip ?_ | refine awp_exit ?_); simp (disch := omega) only [push_cast,seval,l28r0,l28r1,l28r2,l28r3,l28r4,l28r5,l28r6,l28r7,l28r8,l28r9,l28r10,innL_TL])
 | ((first | refine condB_split (fun h => ?_) (fun h => ?_) | refine gIf_split (fun h => ?_) (fun h => ?_) | refine qIf_split (fun h => ?_) (fun h => ?_)) <;> (try simp only [h]) <;> (try simp only [bitvec_to_nat] at h) <;> (try simp only [h]) <;> (first | (exfalso; omega) | (focus (exfalso; simp_all; done)) | (simp (disch := omega) only [push_cast,seval,innL_TL]) | skip))
 | ((first | refine callD_of false ?_ | refine qcallD_of false ?_); simp (disch := omega) only [push_cast,seval,innL_TL])
 | ((first | ((first | refine call0D (BCall.ofP (szTensor_ok _ _ _ _ _ ?_ ?_)) ?_ | refine qcall0D (BCall.ofP (szTensor_ok _ _ _ _ _ ?_ ?_)) ⟨_,_,rfl,rfl⟩ ?_); (iterate 2 (exact sd)); rintro _ _ ⟨rfl,rfl⟩)) <;> (try simp (disch := omega) only [push_cast,seval,innL_TL]))
 | (refine awp_ret ⟨.inr rfl,_,rfl,?_⟩; (try simp (disch := omega) only [push_cast,seval,innL_TL]))))
        all_goals (refine ⟨_,fun _ => ⟨by omega,by omega,fun v hv => ?_⟩,rfl⟩; obtain ⟨j,hj,e⟩ := List.mem_iff_getElem.1 hv; exact hall j v (by omega) (by rw [List.getElem?_eq_getElem hj,e]))


set_option maxHeartbeats 8000000 in
theorem szIntSS_ok (ls : List (List Int)) (n : Nat) (k : Int) (hn : ls.length = n) (hk : 0 ≤ k ∧ k ≤ 1048576) (hb : n ≤ 9223372036854775807 ∧ ∀ l ∈ ls,l.length ≤ 9223372036854775807) : PCall Try.prog 29 [.rows false (LL false ls) n,.int .i64 k] (fun r => ∃ z : Int,(0 ≤ z → z ≤ 1048576 ∧ ls.length ≤ 1048576 ∧ ∀ l ∈ ls,l.length ≤ 1048576) ∧ r = .int .i64 z) := by
  subst hn
  obtain ⟨hb1,hb2⟩ := hb
  refine pcall_of l29_eq rfl ?_
  have hll := LL_length false ls
  by_cases h0 : k - (ls.length : Int) < 0
  · (repeat' (first
 | (first | refine awp_seq ?_ | refine awp_block ?_)
 | ((first | refine awp_reg ?_ | refine awp_condB ?_ | refine awp_skip ?_ | refine awp_exit ?_); simp (disch := omega) only [push_cast,seval,l29r0,l29r1,l29r2,l29r3,l29r4,l29r5,l29r6,l29r7,l29r8,l29r9,l29r10,h0,innL_LL])
 | ((first | refine condB_split (fun h => ?_) (fun h => ?_) | refine gIf_split (fun h => ?_) (fun h => ?_) | refine qIf_split (fun h => ?_) (fun h => ?_)) <;> (try simp only [h]) <;> (try simp only [bitvec_to_nat] at h) <;> (try simp only [h]) <;> (first | (exfalso; omega) | (focus (exfalso; simp_all; done)) | (simp (disch := omega) only [push_cast,seval,h0,innL_LL]) | skip))
 | ((first | refine callD_of false ?_ | refine qcallD_of false ?_); simp (disch := omega) only [push_cast,seval,h0,innL_LL])
 | ((first | ((first | refine call0D (BCall.ofP (szIntS_ok _ _ _ ?_ ?_)) ?_ | refine qcall0D (BCall.ofP (szIntS_ok _ _ _ ?_ ?_)) ⟨_,_,rfl,rfl⟩ ?_); (iterate 2 (exact sd)); rintro _ _ ⟨rfl,rfl⟩)) <;> (try simp (disch := omega) only [push_cast,seval,h0,innL_LL]))
 | (refine awp_ret ⟨.inr rfl,_,rfl,?_⟩; (try simp (disch := omega) only [push_cast,seval,h0,innL_LL]))))
    all_goals exact ⟨_,by omega,rfl⟩
  · (repeat' (first
 | (first | refine awp_seq ?_ | refine awp_block ?_)
 | ((first | refine awp_reg ?_ | refine awp_condB ?_ | refine awp_skip ?_ | refine awp_exit ?_); simp (disch := omega) only [push_cast,seval,l29r0,l29r1,l29r2,l29r3,l29r4,l29r5,l29r6,l29r7,l29r8,l29r9,l29r10,h0,innL_LL])
 | ((first | refine condB_split (fun h => ?_) (fun h => ?_) | refine gIf_split (fun h => ?_) (fun h => ?_) | refine qIf_split (fun h => ?_) (fun h => ?_)) <;> (try simp only [h]) <;> (try simp only [bitvec_to_nat] at h) <;> (try simp only [h]) <;> (first | (exfalso; omega) | (focus (exfalso; simp_all; done)) | (simp (disch := omega) only [push_cast,seval,h0,innL_LL]) | skip))
 | ((first | refine callD_of false ?_ | refine qcallD_of false ?_); simp (disch := omega) only [push_cast,seval,h0,innL_LL])
 | ((first | ((first | refine call0D (BCall.ofP (szIntS_ok _ _ _ ?_ ?_)) ?_ | refine qcall0D (BCall.ofP (szIntS_ok _ _ _ ?_ ?_)) ⟨_,_,rfl,rfl⟩ ?_); (iterate 2 (exact sd)); rintro _ _ ⟨rfl,rfl⟩)) <;> (try simp (disch := omega) only [push_cast,seval,h0,innL_LL]))
 | (refine awp_ret ⟨.inr rfl,_,rfl,?_⟩; (try simp (disch := omega) only [push_cast,seval,h0,innL_LL]))))
    refine awp_loop (fun x : Nat × Int => mkS [(0,.rows false (LL false ls) ls.length),(1,.int .i64 x.2),(5,.int .i64 x.1)] []) (fun x => x.1 ≤ ls.length ∧ (0 ≤ x.2 ∧ x.2 ≤ 1048576) ∧ ∀ j l,j < x.1 → ls[j]? = some l → l.length ≤ 1048576) (fun x => ls.length - x.1) (0,k - ls.length) ⟨Nat.zero_le _,by simp only; omega,fun j v h => absurd h (Nat.not_lt_zero _)⟩ ?_ ?_
    · (refine Sub.of_lists ?_ ?_ ?_ ?_ ?_ <;> simp [Vw.mkS,Vw.lk,Vw.hk,AV.inn,innL,innL_ints,innL_append,innL_rep,-List.map_set,-List.getD_eq_getElem?_getD,innL_LL])
    · rintro ⟨i,z⟩ ⟨hi,hz,hall⟩
      simp only at hi hz hall ⊢
      by_cases hlt : i < ls.length
      · obtain ⟨l,hli⟩ := mem_lt hlt
        have hbb := hb2 _ (List.mem_of_getElem? hli)
        have hd := LL_drop false ls i hli
        have hil : i + 1 ≤ ls.length := by omega
        by_cases hs : z - (l.length : Int) < 0
        · (repeat' (first
 | (first | refine awp_seq ?_ | refine awp_block ?_)
 | ((first | refine awp_reg ?_ | refine awp_condB ?_ | refine awp_skip ?_ | refine awp_exit ?_); simp (disch := omega) only [push_cast,seval,l29r0,l29r1,l29r2,l29r3,l29r4,l29r5,l29r6,l29r7,l29r8,l29r9,l29r10,hd,hll,hil,hs,innL_LL])
 | ((first | refine condB_split (fun h => ?_) (fun h => ?_) | refine gIf_split (fun h => ?_) (fun h => ?_) | refine qIf_split (fun h => ?_) (fun h => ?_)) <;> (try simp only [h]) <;> (try simp only [bitvec_to_nat] at h) <;> (try simp only [h]) <;> (first | (exfalso; omega) | (focus (exfalso; simp_all; done)) | (simp (disch := omega) only [push_cast,seval,hd,hll,hil,hs,innL_LL]) | skip))
 | ((first | refine callD_of false ?_ | refine qcallD_of false ?_); simp (disch := omega) only [push_cast,seval,hd,hll,hil,hs,innL_LL])
 | ((first | ((first | refine call0D (BCall.ofP (szIntS_ok _ _ _ ?_ ?_)) ?_ | refine qcall0D (BCall.ofP (szIntS_ok _ _ _ ?_ ?_)) ⟨_,_,rfl,rfl⟩ ?_); (iterate 2 (exact sd)); rintro _ _ ⟨rfl,rfl⟩)) <;> (try simp (disch := omega) only [push_cast,seval,hd,hll,hil,hs,innL_LL]))
 | (refine awp_ret ⟨.inr rfl,_,rfl,?_⟩; (try simp (disch := omega) only [push_cast,seval,hd,hll,hil,hs,innL_LL]))))
          all_goals exact ⟨_,by omega,rfl⟩
        · (repeat' (first
 | (first | refine awp_seq ?_ | refine awp_block ?_)
 | ((first | refine awp_reg ?_ | refine awp_condB ?_ | refine awp_skip ?_ | refine awp_exit ?_); simp (disch := omega) only [push_cast,seval,l29r0,l29r1,l29r2,l29r3,l29r4,l29r5,l29r6,l29r7,l29r8,l29r9,l29r10,hd,hll,hil,hs,innL_LL])
 | ((first | refine condB_split (fun h => ?_) (fun h => ?_) | refine gIf_split (fun h => ?_) (fun h => ?_) | refine qIf_split (fun h => ?_) (fun h => ?_)) <;> (try simp only [h]) <;> (try simp only [bitvec_to_nat] at h) <;> (try simp only [h]) <;> (first | (exfalso; omega) | (focus (exfalso; simp_all; done)) | (simp (disch := omega) only [push_cast,seval,hd,hll,hil,hs,innL_LL]) | skip))
 | ((first | refine callD_of false ?_ | refine qcallD_of false ?_); simp (disch := omega) only [push_cast,seval,hd,hll,hil,hs,innL_LL])
 | ((first | ((first | refine call0D (BCall.ofP (szIntS_ok _ _ _ ?_ ?_)) ?_ | refine qcall0D (BCall.ofP (szIntS_ok _ _ _ ?_ ?_)) ⟨_,_,rfl,rfl⟩ ?_); (iterate 2 (exact sd)); rintro _ _ ⟨rfl,rfl⟩)) <;> (try simp (disch := omega) only [push_cast,seval,hd,hll,hil,hs,innL_LL]))
 | (refine awp_ret ⟨.inr rfl,_,rfl,?_⟩; (try simp (disch := omega) only [push_cast,seval,hd,hll,hil,hs,innL_LL]))))
          refine ⟨(i + 1,z - l.length),⟨by simp only; omega,by simp only; omega,fun j v hj hjv => ?_⟩,by simp only; omega,?_⟩
          · simp only at hj
            by_cases e : j = i
            · subst e; rw [hli] at hjv; cases hjv; omega
            · exact hall j v (by omega) hjv
          · (refine Sub.of_lists ?_ ?_ ?_ ?_ ?_ <;> simp [Vw.mkS,Vw.lk,Vw.hk,AV.inn,innL,innL_ints,innL_append,innL_rep,-List.map_set,-List.getD_eq_getElem?_getD,innL_LL])
      · (repeat' (first
 | (first | refine awp_seq ?_ | refine awp_block ?_)
 | ((first | refine awp_reg ?_ | refine awp_condB ?_ | refine awp_skip ?_ | refine awp_exit ?_); simp (disch := omega) only [push_cast,seval,l29r0,l29r1,l29r2,l29r3,l29r4,l29r5,l29r6,l29r7,l29r8,l29r9,l29r10,innL_LL])
 | ((first | refine condB_split (fun h => ?_) (fun h => ?_) | refine gIf_split (fun h => ?_) (fun h => ?_) | refine qIf_split (fun h => ?_) (fun h => ?_)) <;> (try simp only [h]) <;> (try simp only [bitvec_to_nat] at h) <;> (try simp only [h]) <;> (first | (exfalso; omega) | (focus (exfalso; simp_all; done)) | (simp (disch := omega) only [push_cast,seval,innL_LL]) | skip))
 | ((first | refine callD_of false ?_ | refine qcallD_of false ?_); simp (disch := omega) only [push_cast,seval,innL_LL])
 | ((first | ((first | refine call0D (BCall.ofP (szIntS_ok _ _ _ ?_ ?_)) ?_ | refine qcall0D (BCall.ofP (szIntS_ok _ _ _ ?_ ?_)) ⟨_,_,rfl,rfl⟩ ?_); (iterate 2 (exact sd)); rintro _ _ ⟨rfl,rfl⟩)) <;> (try simp (disch := omega) only [push_cast,seval,innL_LL]))
 | (refine awp_ret ⟨.inr rfl,_,rfl,?_⟩; (try simp (disch := omega) only [push_cast,seval,innL_LL]))))
        all_goals (refine ⟨_,fun _ => ⟨by omega,by omega,fun v hv => ?_⟩,rfl⟩; obtain ⟨j,hj,e⟩ := List.mem_iff_getElem.1 hv; exact hall j v (by omega) (by rw [List.getElem?_eq_getElem hj,e]))


set_option maxHeartbeats 8000000 in
theorem eqTensorS_ok (ts : List Tn) (n : Nat) (hn : ts.length = n) (hb : n ≤ 1099511627776 ∧ ∀ t ∈ ts,t.1.length ≤ 1099511627776 ∧ t.2.length ≤ 1099511627776) : PCall Try.prog 34 [.rows false (TL false ts) n,.rows false (TL false ts) n] (fun r => r = .bool true) := by
  subst hn
  obtain ⟨hb1,hb2⟩ := hb
  refine pcall_of l34_eq rfl ?_
  have htl := TL_length false ts
  (repeat' (first
 | (first | refine awp_seq ?_ | refine awp_block ?_)
 | ((first | refine awp_reg ?_ | refine awp_draw (mid := l34r5a) (post := l34r5b) mixed (by decide) ?_ | refine awp_condB ?_ | refine awp_skip ?_ | refine awp_exit ?_); simp (disch := omega) only [push_cast,seval,l34r0,l34r1,l34r2,l34r3,l34r4,l34r5a,l34r5b,l34r5,l34r6,l34r7,l34r8,innL_TL,decide_true])
 | ((first | refine condB_split (fun h => ?_) (fun h => ?_) | refine gIf_split (fun h => ?_) (fun h => ?_) | refine qIf_split (fun h => ?_) (fun h => ?_)) <;> (try simp only [h]) <;> (try simp only [bitvec_to_nat] at h) <;> (try simp only [h]) <;> (first | (exfalso; omega) | (focus (exfalso; simp_all; done)) | (simp (disch := omega) only [push_cast,seval,innL_TL,decide_true]) | skip))
 | ((first | refine callD_of false ?_ | refine qcallD_of false ?_); simp (disch := omega) only [push_cast,seval,innL_TL,decide_true])
 | ((first | ((first | refine call0D (BCall.ofP (eqTensor_ok _ _ _ _ _ _ _ _ ?_ ?_ ?_ ?_ ?_)) ?_ | refine qcall0D (BCall.ofP (eqTensor_ok _ _ _ _ _ _ _ _ ?_ ?_ ?_ ?_ ?_)) ⟨_,_,rfl,rfl⟩ ?_); (iterate 5 (exact sd)); rintro _ _ ⟨rfl,rfl⟩)) <;> (try simp (disch := omega) only [push_cast,seval,innL_TL,decide_true]))
 | (refine awp_ret ⟨.inr rfl,_,rfl,?_⟩; (try simp (disch := omega) only [push_cast,seval,innL_TL,decide_true]))))
  refine awp_loop (fun i : Nat => mkS [(0,.rows false (TL false ts) ts.length),(1,.rows false (TL false ts) ts.length),(5,.int .i64 i)] []) (fun i => i ≤ ts.length) (fun i => ts.length - i) 0 (Nat.zero_le _) ?_ ?_
  · (refine Sub.of_lists ?_ ?_ ?_ ?_ ?_ <;> simp [Vw.mkS,Vw.lk,Vw.hk,AV.inn,innL,innL_ints,innL_append,innL_rep,-List.map_set,-List.getD_eq_getElem?_getD,innL_TL])
  · intro i hi
    by_cases hlt : i < ts.length
    · obtain ⟨⟨x,y⟩,hti⟩ := mem_lt hlt
      have hbb := exB_some hb2 hti
      have hd := TL_drop false ts i hti
      simp only at hd
      have hil : i * 2 + 2 ≤ ts.length * 2 := by omega
      (repeat' (first
 | (first | refine awp_seq ?_ | refine awp_block ?_)
 | ((first | refine awp_reg ?_ | refine awp_draw (mid := l34r5a) (post := l34r5b) mixed (by decide) ?_ | refine awp_condB ?_ | refine awp_skip ?_ | refine awp_exit ?_); simp (disch := omega) only [push_cast,seval,l34r0,l34r1,l34r2,l34r3,l34r4,l34r5a,l34r5b,l34r5,l34r6,l34r7,l34r8,hd,htl,hil,innL_TL,decide_true,Bool.and_self])
 | ((first | refine condB_split (fun h => ?_) (fun h => ?_) | refine gIf_split (fun h => ?_) (fun h => ?_) | refine qIf_split (fun h => ?_) (fun h => ?_)) <;> (try simp only [h]) <;> (try simp only [bitvec_to_nat] at h) <;> (try simp only [h]) <;> (first | (exfalso; omega) | (focus (exfalso; simp_all; done)) | (simp (disch := omega) only [push_cast,seval,hd,htl,hil,innL_TL,decide_true,Bool.and_self]) | skip))
 | ((first | refine callD_of false ?_ | refine qcallD_of false ?_); simp (disch := omega) only [push_cast,seval,hd,htl,hil,innL_TL,decide_true,Bool.and_self])
 | ((first | ((first | refine call0D (BCall.ofP (eqTensor_ok _ _ _ _ _ _ _ _ ?_ ?_ ?_ ?_ ?_)) ?_ | refine qcall0D (BCall.ofP (eqTensor_ok _ _ _ _ _ _ _ _ ?_ ?_ ?_ ?_ ?_)) ⟨_,_,rfl,rfl⟩ ?_); (iterate 5 (exact sd)); rintro _ _ ⟨rfl,rfl⟩)) <;> (try simp (disch := omega) only [push_cast,seval,hd,htl,hil,innL_TL,decide_true,Bool.and_self]))
 | (refine awp_ret ⟨.inr rfl,_,rfl,?_⟩; (try simp (disch := omega) only [push_cast,seval,hd,htl,hil,innL_TL,decide_true,Bool.and_self]))))
      refine ⟨i + 1,by omega,by omega,?_⟩
      (refine Sub.of_lists ?_ ?_ ?_ ?_ ?_ <;> simp [Vw.mkS,Vw.lk,Vw.hk,AV.inn,innL,innL_ints,innL_append,innL_rep,-List.map_set,-List.getD_eq_getElem?_getD,innL_TL])
    · (repeat' (first
 | (first | refine awp_seq ?_ | refine awp_block ?_)
 | ((first | refine awp_reg ?_ | refine awp_draw (mid := l34r5a) (post := l34r5b) mixed (by decide) ?_ | refine awp_condB ?_ | refine awp_skip ?_ | refine awp_exit ?_); simp (disch := omega) only [push_cast,seval,l34r0,l34r1,l34r2,l34r3,l34r4,l34r5a,l34r5b,l34r5,l34r6,l34r7,l34r8,innL_TL])
 | ((first | refine condB_split (fun h => ?_) (fun h => ?_) | refine gIf_split (fun h => ?_) (fun h => ?_) | refine qIf_split (fun h => ?_) (fun h => ?_)) <;> (try simp only [h]) <;> (try simp only [bitvec_to_nat] at h) <;> (try simp only [h]) <;> (first | (exfalso; omega) | (focus (exfalso; simp_all; done)) | (simp (disch := omega) only [push_cast,seval,innL_TL]) | skip))
 | ((first | refine callD_of false ?_ | refine qcallD_of false ?_); simp (disch := omega) only [push_cast,seval,innL_TL])
 | ((first | ((first | refine call0D (BCall.ofP (eqTensor_ok _ _ _ _ _ _ _ _ ?_ ?_ ?_ ?_ ?_)) ?_ | refine qcall0D (BCall.ofP (eqTensor_ok _ _ _ _ _ _ _ _ ?_ ?_ ?_ ?_ ?_)) ⟨_,_,rfl,rfl⟩ ?_); (iterate 5 (exact sd)); rintro _ _ ⟨rfl,rfl⟩)) <;> (try simp (disch := omega) only [push_cast,seval,innL_TL]))
 | (refine awp_ret ⟨.inr rfl,_,rfl,?_⟩; (try simp (disch := omega) only [push_cast,seval,innL_TL]))))


set_option maxHeartbeats 8000000 in
theorem eqIntSS_ok (ls : List (List Int)) (n : Nat) (hn : ls.length = n) (hb : n ≤ 1099511627776 ∧ ∀ l ∈ ls,l.length ≤ 1099511627776) : PCall Try.prog 35 [.rows false (LL false ls) n,.rows false (LL false ls) n] (fun r => r = .bool true) := by
  subst hn
  obtain ⟨hb1,hb2⟩ := hb
  refine pcall_of l35_eq rfl ?_
  have hll := LL_length false ls
  (repeat' (first
 | (first | refine awp_seq ?_ | refine awp_block ?_)
 | ((first | refine awp_reg ?_ | refine awp_draw (mid := l35r5a) (post := l35r5b) mixed (by decide) ?_ | refine awp_condB ?_ | refine awp_skip ?_ | refine awp_exit ?_); simp (disch := omega) only [push_cast,seval,l35r0,l35r1,l35r2,l35r3,l35r4,l35r5a,l35r5b,l35r5,l35r6,l35r7,l35r8,innL_LL,decide_true])
 | ((first | refine condB_split (fun h => ?_) (fun h => ?_) | refine gIf_split (fun h => ?_) (fun h => ?_) | refine qIf_split (fun h => ?_) (fun h => ?_)) <;> (try simp only [h]) <;> (try simp only [bitvec_to_nat] at h) <;> (try simp only [h]) <;> (first | (exfalso; omega) | (focus (exfalso; simp_all; done)) | (simp (disch := omega) only [push_cast,seval,innL_LL,decide_true]) | skip))
 | ((first | refine callD_of false ?_ | refine qcallD_of false ?_); simp (disch := omega) only [push_cast,seval,innL_LL,decide_true])
 | ((first | ((first | refine call0D (BCall.ofP (eqIntS_ok _ _ _ _ ?_ ?_ ?_)) ?_ | refine qcall0D (BCall.ofP (eqIntS_ok _ _ _ _ ?_ ?_ ?_)) ⟨_,_,rfl,rfl⟩ ?_); (iterate 3 (exact sd)); rintro _ _ ⟨rfl,rfl⟩)) <;> (try simp (disch := omega) only [push_cast,seval,innL_LL,decide_true]))
 | (refine awp_ret ⟨.inr rfl,_,rfl,?_⟩; (try simp (disch := omega) only [push_cast,seval,innL_LL,decide_true]))))
  refine awp_loop (fun i : Nat => mkS [(0,.rows false (LL false ls) ls.length),(1,.rows false (LL false ls) ls.length),(5,.int .i64 i)] []) (fun i => i ≤ ls.length) (fun i => ls.length - i) 0 (Nat.zero_le _) ?_ ?_
  · (refine Sub.of_lists ?_ ?_ ?_ ?_ ?_ <;> simp [Vw.mkS,Vw.lk,Vw.hk,AV.inn,innL,innL_ints,innL_append,innL_rep,-List.map_set,-List.getD_eq_getElem?_getD,innL_LL])
  · intro i hi
    by_cases hlt : i < ls.length
    · obtain ⟨l,hli⟩ := mem_lt hlt
      have hbb := hb2 _ (List.mem_of_getElem? hli)
      have hd := LL_drop false ls i hli
      have hil : i + 1 ≤ ls.length := by omega
      (repeat' (first
 | (first | refine awp_seq ?_ | refine awp_block ?_)
 | ((first | refine awp_reg ?_ | refine awp_draw (mid := l35r5a) (post := l35r5b) mixed (by decide) ?_ | refine awp_condB ?_ | refine awp_skip ?_ | refine awp_exit ?_); simp (disch := omega) only [push_cast,seval,l35r0,l35r1,l35r2,l35r3,l35r4,l35r5a,l35r5b,l35r5,l35r6,l35r7,l35r8,hd,hll,hil,innL_LL,decide_true,Bool.and_self])
 | ((first | refine condB_split (fun h => ?_) (fun h => ?_) | refine gIf_split (fun h => ?_) (fun h => ?_) | refine qIf_split (fun h => ?_) (fun h => ?_)) <;> (try simp only [h]) <;> (try simp only [bitvec_to_nat] at h) <;> (try simp only [h]) <;> (first | (exfalso; omega) | (focus (exfalso; simp_all; done)) | (simp (disch := omega) only [push_cast,seval,hd,hll,hil,innL_LL,decide_true,Bool.and_self]) | skip))
 | ((first | refine callD_of false ?_ | refine qcallD_of false ?_); simp (disch := omega) only [push_cast,seval,hd,hll,hil,innL_LL,decide_true,Bool.and_self])
 | ((first | ((first | refine call0D (BCall.ofP (eqIntS_ok _ _ _ _ ?_ ?_ ?_)) ?_ | refine qcall0D (BCall.ofP (eqIntS_ok _ _ _ _ ?_ ?_ ?_)) ⟨_,_,rfl,rfl⟩ ?_); (iterate 3 (exact sd)); rintro _ _ ⟨rfl,rfl⟩)) <;> (try simp (disch := omega) only [push_cast,seval,hd,hll,hil,innL_LL,decide_true,Bool.and_self]))
 | (refine awp_ret ⟨.inr rfl,_,rfl,?_⟩; (try simp (disch := omega) only [push_cast,seval,hd,hll,hil,innL_LL,decide_true,Bool.and_self]))))
      refine ⟨i + 1,by omega,by omega,?_⟩
      (refine Sub.of_lists ?_ ?_ ?_ ?_ ?_ <;> simp [Vw.mkS,Vw.lk,Vw.hk,AV.inn,innL,innL_ints,innL_append,innL_rep,-List.map_set,-List.getD_eq_getElem?_getD,innL_LL])
    · (repeat' (first
 | (first | refine awp_seq ?_ | refine awp_block ?_)
 | ((first | refine awp_reg ?_ | refine awp_draw (mid := l35r5a) (post := l35r5b) mixed (by decide) ?_ | refine awp_condB ?_ | refine awp_skip ?_ | refine awp_exit ?_); simp (disch := omega) only [push_cast,seval,l35r0,l35r1,l35r2,l35r3,l35r4,l35r5a,l35r5b,l35r5,l35r6,l35r7,l35r8,innL_LL])
 | ((first | refine condB_split (fun h => ?_) (fun h => ?_) | refine gIf_split (fun h => ?_) (fun h => ?_) | refine qIf_split (fun h => ?_) (fun h => ?_)) <;> (try simp only [h]) <;> (try simp only [bitvec_to_nat] at h) <;> (try simp only [h]) <;> (first | (exfalso; omega) | (focus (exfalso; simp_all; done)) | (simp (disch := omega) only [push_cast,seval,innL_LL]) | skip))
 | ((first | refine callD_of false ?_ | refine qcallD_of false ?_); simp (disch := omega) only [push_cast,seval,innL_LL])
 | ((first | ((first | refine call0D (BCall.ofP (eqIntS_ok _ _ _ _ ?_ ?_ ?_)) ?_ | refine qcall0D (BCall.ofP (eqIntS_ok _ _ _ _ ?_ ?_ ?_)) ⟨_,_,rfl,rfl⟩ ?_); (iterate 3 (exact sd)); rintro _ _ ⟨rfl,rfl⟩)) <;> (try simp (disch := omega) only [push_cast,seval,innL_LL]))
 | (refine awp_ret ⟨.inr rfl,_,rfl,?_⟩; (try simp (disch := omega) only [push_cast,seval,innL_LL]))))


theorem flat_T3 : ∀ x0 : List (List Int × List Int × Unit),(x0.flatMap fun p => Vw.enS Vw.enI p.1 ++ (Vw.enS Vw.enI p.2.1 ++ [])) = TL false (x0.map fun p => (p.1,p.2.1))
  | [] => rfl
  | p :: r => by
    rw [List.flatMap_cons,flat_T3 r]
    simp [Vw.enI,Vw.enS,Vw.flat_ints,TL]
theorem flat_L2 : ∀ x0 : List (List Int),(x0.flatMap fun p => Vw.enS Vw.enI p) = LL false x0
  | [] => rfl
  | p :: r => by
    rw [List.flatMap_cons,flat_L2 r]
    simp [Vw.enI,Vw.enS,Vw.flat_ints,LL]

end Go.Proofs.Ytajhakhncalabaa
