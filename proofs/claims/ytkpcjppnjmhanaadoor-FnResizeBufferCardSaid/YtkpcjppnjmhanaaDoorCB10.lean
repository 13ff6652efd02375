/- Texts of this verifier. -/
import Derived.Test.YtkpcjppnjmhanaaDoorCB9
import Derived.Test.YtkpcjppnjmhanaaDoorCM1
set_option maxHeartbeats 4000000
set_option linter.unusedSimpArgs false
set_option linter.unusedSectionVars false
set_option linter.unusedVariables false
set_option maxRecDepth 4000
namespace Go.Proofs.YtkpcjppnjmhanaaDoor
open VwM Vw Go
variable [SentA]

theorem Gvz {cs:List Int} {es:List Ex}:vB cs es=true ↔ vMem cs=true ∧ es.length ≤ 8 ∧ ∀ i e,es[i]?=some e → sxV cs.length es i e=true:=by
  unfold vB
  simp only [Bool.and_eq_true,decide_eq_true_eq,Dqz]
  constructor
  · rintro ⟨⟨h1,h2⟩,h3⟩
    exact ⟨h1,h2,fun i e he=>h3 i e (List.getElem?_eq_some_iff.1 he).1 he⟩
  · rintro ⟨h1,h2,h3⟩
    exact ⟨⟨h1,h2⟩,fun i e _ he=>h3 i e he⟩
theorem Ewz {m:Int} {es:List Ex} {i:Nat} {e:Ex}:sxV m es i e=true ↔ ((-1 ≤ e.1 ∧ e.1 ≤ (i:Int) - 1) ∧ vV e.2.1.1 e.2.1.2.1 e.2.1.2.2=true) ∧ (e.2.2=true → allI (offs e.2.1.1 e.2.1.2.1 e.2.1.2.2) 0 (m - 1)=true ∧ (e.1 < 0 ∨ opE es e.1=true)):=by
  unfold sxV exV
  simp only [Bool.and_eq_true,Bool.or_eq_true,Bool.not_eq_true',decide_eq_true_eq]
  cases e.2.2<;>simp [and_assoc]
theorem vB_cells {cs cs':List Int} {es:List Ex} (h:vB cs es=true) (hl:cs'.length=cs.length) (hm:vMem cs'=true):vB cs' es=true:=by
  rw [Gvz] at h ⊢
  rw [hl]
  exact ⟨hm,h.2⟩
theorem vB_size {cs cs':List Int} {es:List Ex} (h:vB cs es=true) (ho:opensT es es.length=[]) (hm:vMem cs'=true):vB cs' es=true:=by
  rw [Gvz] at h ⊢
  refine ⟨hm,h.2.1,fun i e he=>?_⟩
  have h1:=Ewz.1 (h.2.2 i e he)
  have h2:=Faz.1 ho i e (List.getElem?_eq_some_iff.1 he).1 he
  exact Ewz.2 ⟨h1.1,fun h3=>absurd h3 h2⟩
theorem vB_rel {cs:List Int} {es:List Ex} {q:Nat} (h:vB cs es=true) (hk:kidsT es (q:Int) es.length=[]):vB cs (relE es q)=true:=by
  cases he:es[q]? with
  | none=>simp only [relE,he];exact h
  | some f =>
    rw [Gvz] at h ⊢
    have hq:q < es.length:=(List.getElem?_eq_some_iff.1 he).1
    rw [relE_at he]
    refine ⟨h.1,by simpa using h.2.1,fun i e hi=>?_⟩
    rw [List.getElem?_set] at hi
    by_cases e1:q=i
    · subst e1
      rw [if_pos rfl,if_pos hq] at hi
      injection hi with hi
      subst hi
      have h1:=Ewz.1 (h.2.2 q f he)
      exact Ewz.2 ⟨h1.1,fun h3=>by cases h3⟩
    · rw [if_neg e1] at hi
      have h1:=Ewz.1 (h.2.2 i e hi)
      refine Ewz.2 ⟨h1.1,fun h3=>⟨(h1.2 h3).1,?_⟩⟩
      rcases (h1.2 h3).2 with h4|h4
      · exact .inl h4
      · by_cases h5:e.1 < 0
        · exact .inl h5
        · refine .inr ?_
          have hne:q ≠ e.1.toNat:=fun e2=>by
            have:=Foz.1 hk i e (List.getElem?_eq_some_iff.1 hi).1 hi
            exact this ⟨h3,by omega⟩
          unfold opE at h4 ⊢
          rw [List.getElem?_set,if_neg hne]
          exact h4
theorem vB_add {cs:List Int} {es:List Ex} {p b:Int} {x y:List Int} (h:vB cs es=true) (h8:es.length ≠ 8) (hv:vV b x y=true) (hf:allI (offs b x y) 0 ((cs.length:Int) - 1)=true) (hp:p=-1 ∨ (0 ≤ p ∧ p < es.length ∧ opE es p=true)):vB cs (es ++ [(p,(b,x,y),true)])=true:=by
  rw [Gvz] at h ⊢
  refine ⟨h.1,by rw [List.length_append,List.length_singleton];omega,fun i e hi=>?_⟩
  have hop:∀ r:Int,0 ≤ r → r < es.length → opE es r=true → opE (es ++ [(p,(b,x,y),true)]) r=true:=fun r h1 h2 h3=>by
    unfold opE at h3 ⊢
    rw [List.getElem?_append_left (by omega)]
    exact h3
  by_cases hl:i < es.length
  · rw [List.getElem?_append_left hl] at hi
    have h1:=Ewz.1 (h.2.2 i e hi)
    refine Ewz.2 ⟨h1.1,fun h3=>⟨(h1.2 h3).1,?_⟩⟩
    rcases (h1.2 h3).2 with h4|h4
    · exact .inl h4
    · by_cases h5:e.1 < 0
      · exact .inl h5
      · exact .inr (hop e.1 (by omega) (by omega) h4)
  · rw [List.getElem?_append_right (by omega)] at hi
    have hil:i=es.length:=by
      have:=(List.getElem?_eq_some_iff.1 hi).1
      simp at this
      omega
    subst hil
    rw [Nat.sub_self] at hi
    injection hi with hi
    subst hi
    refine Ewz.2 ⟨⟨?_,hv⟩,fun _=>⟨hf,?_⟩⟩
    · simp only
      rcases hp with h1|h1<;>omega
    · rcases hp with h1|h1
      · exact .inl (by simp only;omega)
      · exact .inr (hop p h1.1 h1.2.1 h1.2.2)
theorem cut_sub {b:Int} {sh st:List Int} {j:Nat} {f t w:Int} {hf ht:Bool} (hv:vV b sh st=true) (hj:j < sh.length) (hs:vS f t w hf ht=true) {x:Int} (hx:x ∈ offs (cutB b sh st j f t w hf ht) (cutSh sh j f t w hf ht) (cutSt sh st j f t w hf ht)):x ∈ offs b sh st:=by
  have hg:=(Cxz (Daz.1 hv).1).1
  have hg2:=(Cxz (Daz.1 (vV_cut hv hj hs)).1).1
  by_cases hz:pr (cutSh sh j f t w hf ht)=0
  · have:=List.length_pos_of_mem hx
    rw [Cez,hz] at this
    exact absurd this (by decide)
  · rw [C2z hg2] at hx
    rw [C2z hg]
    obtain ⟨g,h1,h2⟩:=hx
    refine ⟨cutIx sh j f w hf g,cutIx_ix hv hj hs h1,?_⟩
    rw [← cut_dot hv hj hs hz h1]
    rw [Chz] at h2
    exact h2
theorem sdOk_facts {b:Int} {sh st:List Int} {d f t w:Int} {hf ht:Bool} (h:sdOk b sh st d f t w hf ht=true):vV b sh st=true ∧ d.toNat < sh.length ∧ vS f t w hf ht=true ∧ vV (cutB b sh st d.toNat f t w hf ht) (cutSh sh d.toNat f t w hf ht) (cutSt sh st d.toNat f t w hf ht)=true:=by
  unfold sdOk at h
  simp only [Bool.and_eq_true,decide_eq_true_eq] at h
  exact ⟨h.1.1.1,by omega,h.1.2,h.2⟩
theorem vB_ep {cs:List Int} {es:List Ex} {id d f t w:Int} {hf ht:Bool} (h:epG cs es id d f t w hf ht=true):vB cs (epE es id d f t w hf ht)=true:=by
  unfold epG at h
  simp only [Bool.and_eq_true,Bool.not_eq_true',decide_eq_false_iff_not] at h
  obtain ⟨⟨⟨hv,hr⟩,h8⟩,ho⟩:=h
  obtain ⟨q,p,b,x,y,rfl,hq,he,hvw⟩:=Ioz hr
  unfold epO at ho
  unfold epE epV
  rw [hvw] at ho ⊢
  simp only at ho ⊢
  obtain ⟨g1,g2,g3,g4⟩:=sdOk_facts ho
  have hs:=vB_see hv he
  unfold seeB at hs
  simp only [Bool.and_eq_true] at hs
  refine vB_add hv h8 g4 ?_ (.inr ⟨by omega,by omega,?_⟩)
  · rw [C9z] at hs ⊢
    exact fun z hz=>hs.2 z (cut_sub g1 g2 g3 hz)
  · unfold opE
    rw [Int.toNat_natCast,he]
theorem vB_ev {cs:List Int} {es:List Ex} {b:Int} {x y:List Int} (h:evG cs es b x y=true):vB cs (es ++ [(-1,(b,x,y),true)])=true:=by
  unfold evG at h
  simp only [Bool.and_eq_true,Bool.not_eq_true',decide_eq_false_iff_not] at h
  obtain ⟨⟨hv,hf⟩,h8⟩:=h
  unfold fitB at hf
  simp only [Bool.and_eq_true] at hf
  exact vB_add hv h8 hf.1.1 hf.2 (.inl rfl)
theorem vB_relG {cs:List Int} {es:List Ex} {id:Int} (h:relG cs es id=true):vB cs (relE es id.toNat)=true:=by
  unfold relG at h
  simp only [Bool.and_eq_true,decide_eq_true_eq,List.length_eq_zero_iff] at h
  obtain ⟨q,_,_,_,_,rfl,_⟩:=Ioz h.1.2
  rw [Int.toNat_natCast]
  exact vB_rel h.1.1 h.2
theorem getD_rng {mem:List Int} (hm:∀ x ∈ mem,0 ≤ x ∧ x ≤ 255) (j:Nat):0 ≤ mem.getD j 0 ∧ mem.getD j 0 ≤ 255:=by
  by_cases hl:j < mem.length
  · exact hm _ (Doz hl)
  · rw [List.getD,List.getElem?_eq_none (Nat.le_of_not_lt hl)];simp
theorem putK_rng {mem cells vals:List Int} (hm:∀ x ∈ mem,0 ≤ x ∧ x ≤ 255) (hv:∀ j,0 ≤ vals.getD j 0 ∧ vals.getD j 0 ≤ 255):∀ k,∀ x ∈ putK mem cells vals k,0 ≤ x ∧ x ≤ 255
  | 0,x,hx=>hm x hx
  | k + 1,x,hx=>by
    simp only [putK] at hx
    rcases List.mem_or_eq_of_mem_set hx with h1|h1
    · exact putK_rng hm hv k x h1
    · subst h1;exact hv k
theorem vMem_put {cs:List Int} (h:vMem cs=true) (os vs:List Int) (hvs:∀ x ∈ vs,0 ≤ x ∧ x ≤ 255):vMem (putL cs os vs)=true:=by
  rw [D2z] at h ⊢
  exact ⟨by rw [Emz];exact h.1,putK_rng h.2 (getD_rng hvs) _⟩

end Go.Proofs.YtkpcjppnjmhanaaDoor
namespace Go.Proofs.YtkpcjppnjmhanaaDoor
open VwM Vw Go
variable [SentA]

theorem A9z (n:Int) (hn:0 ≤ n ∧ n < 10):PCall Tryd.prog 71 [.int .i64 n] (fun r=>∃ s:ByteArray,s.size ≤ 5 ∧ r=.str s):=by
  refine A5z l71_eq rfl ?_
  have h1:(n < 0)=False:=eq_false (by omega)
  have h2:n < 10:=by omega
  have hs:∀ (σ:List (Nat × AV)),lk σ 19=.int .i64 n → lk σ 21=.int .i64 (n + 1) → arun (mkS σ []) 0 22 (.sliceS (.const (.string { data:={ toList:=[48,49,50,51,52,53,54,55,56,57] } })) (some (.tmp 19)) (some (.tmp 21)))=some (.str (ByteArray.extract { data:={ toList:=[48,49,50,51,52,53,54,55,56,57] } } n.toNat (n + 1).toNat),none):=fun σ e1 e2 =>
    arun_sliceS2 rfl e1 e2 ⟨by omega,by show n + 1 ≤ 10;omega⟩
  (repeat' (first
 | (first|refine Apz ?_|refine Aiz ?_)
 | ((first|refine Aqz ?_|refine Ahz ?_|refine Ajz ?_|refine Akz ?_);simp (disch:=omega) only [push_cast,seval,l71r0,l71r1,l71r2,l71r3,l71r4,l71r5,l71r6,l71r7,h1,h2,decide_false])
 | ((first|refine Acz ?_ ?_|refine Agz ?_ ?_|refine Afz ?_ ?_)<;>intro h<;>(try simp only [h])<;>(try simp only [bitvec_to_nat] at h)<;>(try simp only [h])<;>(first|(exfalso;omega)|(exfalso;simp_all;done)|(simp (disch:=omega) only [push_cast,seval,h1,h2,decide_false])|skip))
 | ((first|refine Arz false ?_|refine Anz false ?_);simp (disch:=omega) only [push_cast,seval,h1,h2,decide_false])
 | ((first|((first|refine Adz (Aez (A9z _ ?_)) ?_|refine Abz (Aez (A9z _ ?_)) ⟨.str ByteArray.empty,[],⟨ByteArray.empty,Nat.zero_le _,rfl⟩,rfl⟩ ?_);(exact sd);rintro _ _ ⟨⟨sn,hsn,rfl⟩,rfl⟩))<;>(try simp (disch:=omega) only [push_cast,seval,h1,h2,decide_false]))
 | (refine Amz ⟨.inr rfl,_,rfl,?_⟩;(try simp (disch:=omega) only [push_cast,seval,h1,h2,decide_false]))))
  rw [hs _ rfl rfl]
  simp (disch:=omega) only [push_cast,seval]
  (repeat' (first
 | (first|refine Apz ?_|refine Aiz ?_)
 | ((first|refine Aqz ?_|refine Ahz ?_|refine Ajz ?_|refine Akz ?_);simp (disch:=omega) only [push_cast,seval,l71r0,l71r1,l71r2,l71r3,l71r4,l71r5,l71r6,l71r7,h1,h2,decide_false])
 | ((first|refine Acz ?_ ?_|refine Agz ?_ ?_|refine Afz ?_ ?_)<;>intro h<;>(try simp only [h])<;>(try simp only [bitvec_to_nat] at h)<;>(try simp only [h])<;>(first|(exfalso;omega)|(exfalso;simp_all;done)|(simp (disch:=omega) only [push_cast,seval,h1,h2,decide_false])|skip))
 | ((first|refine Arz false ?_|refine Anz false ?_);simp (disch:=omega) only [push_cast,seval,h1,h2,decide_false])
 | ((first|((first|refine Adz (Aez (A9z _ ?_)) ?_|refine Abz (Aez (A9z _ ?_)) ⟨.str ByteArray.empty,[],⟨ByteArray.empty,Nat.zero_le _,rfl⟩,rfl⟩ ?_);(exact sd);rintro _ _ ⟨⟨sn,hsn,rfl⟩,rfl⟩))<;>(try simp (disch:=omega) only [push_cast,seval,h1,h2,decide_false]))
 | (refine Amz ⟨.inr rfl,_,rfl,?_⟩;(try simp (disch:=omega) only [push_cast,seval,h1,h2,decide_false]))))
  exact ⟨_,by rw [ByteArray.size_extract];omega,rfl⟩


theorem Bez (n:Int) (hn:0 ≤ n ∧ n < 100):PCall Tryd.prog 71 [.int .i64 n] (fun r=>∃ s:ByteArray,s.size ≤ 10 ∧ r=.str s):=by
  by_cases h:n < 10
  · exact (A9z n ⟨hn.1,h⟩).mono fun r ⟨s,h1,h2⟩=>⟨s,by omega,h2⟩
  refine A5z l71_eq rfl ?_
  have h1:(n < 0)=False:=eq_false (by omega)
  have h2:¬ n < 10:=by omega
  have q1:0 ≤ n.tdiv 10 ∧ n.tdiv 10 < 10:=by rw [Int.tdiv_eq_ediv_of_nonneg hn.1];omega
  have q2:=Eiz hn.1 (n:=10) (by omega)
  (repeat' (first
 | (first|refine Apz ?_|refine Aiz ?_)
 | ((first|refine Aqz ?_|refine Ahz ?_|refine Ajz ?_|refine Akz ?_);simp (disch:=omega) only [push_cast,seval,l71r0,l71r1,l71r2,l71r3,l71r4,l71r5,l71r6,l71r7,h1,h2,decide_false])
 | ((first|refine Acz ?_ ?_|refine Agz ?_ ?_|refine Afz ?_ ?_)<;>intro h<;>(try simp only [h])<;>(try simp only [bitvec_to_nat] at h)<;>(try simp only [h])<;>(first|(exfalso;omega)|(exfalso;simp_all;done)|(simp (disch:=omega) only [push_cast,seval,h1,h2,decide_false])|skip))
 | ((first|refine Arz false ?_|refine Anz false ?_);simp (disch:=omega) only [push_cast,seval,h1,h2,decide_false])
 | ((first|((first|refine Adz (Aez (A9z _ ?_)) ?_|refine Abz (Aez (A9z _ ?_)) ⟨.str ByteArray.empty,[],⟨ByteArray.empty,Nat.zero_le _,rfl⟩,rfl⟩ ?_);(exact sd);rintro _ _ ⟨⟨sn,hsn,rfl⟩,rfl⟩)|((first|refine Adz (Aez (Bez _ ?_)) ?_|refine Abz (Aez (Bez _ ?_)) ⟨.str ByteArray.empty,[],⟨ByteArray.empty,Nat.zero_le _,rfl⟩,rfl⟩ ?_);(exact sd);rintro _ _ ⟨⟨sn,hsn,rfl⟩,rfl⟩))<;>(try simp (disch:=omega) only [push_cast,seval,h1,h2,decide_false]))
 | (refine Amz ⟨.inr rfl,_,rfl,?_⟩;(try simp (disch:=omega) only [push_cast,seval,h1,h2,decide_false]))))
  exact ⟨_,by rw [ByteArray.size_append];omega,rfl⟩


theorem Blz (n:Int) (hn:0 ≤ n ∧ n < 1000):PCall Tryd.prog 71 [.int .i64 n] (fun r=>∃ s:ByteArray,s.size ≤ 20 ∧ r=.str s):=by
  by_cases h:n < 100
  · exact (Bez n ⟨hn.1,h⟩).mono fun r ⟨s,h1,h2⟩=>⟨s,by omega,h2⟩
  refine A5z l71_eq rfl ?_
  have h1:(n < 0)=False:=eq_false (by omega)
  have h2:¬ n < 10:=by omega
  have q1:0 ≤ n.tdiv 10 ∧ n.tdiv 10 < 100:=by rw [Int.tdiv_eq_ediv_of_nonneg hn.1];omega
  have q2:=Eiz hn.1 (n:=10) (by omega)
  (repeat' (first
 | (first|refine Apz ?_|refine Aiz ?_)
 | ((first|refine Aqz ?_|refine Ahz ?_|refine Ajz ?_|refine Akz ?_);simp (disch:=omega) only [push_cast,seval,l71r0,l71r1,l71r2,l71r3,l71r4,l71r5,l71r6,l71r7,h1,h2,decide_false])
 | ((first|refine Acz ?_ ?_|refine Agz ?_ ?_|refine Afz ?_ ?_)<;>intro h<;>(try simp only [h])<;>(try simp only [bitvec_to_nat] at h)<;>(try simp only [h])<;>(first|(exfalso;omega)|(exfalso;simp_all;done)|(simp (disch:=omega) only [push_cast,seval,h1,h2,decide_false])|skip))
 | ((first|refine Arz false ?_|refine Anz false ?_);simp (disch:=omega) only [push_cast,seval,h1,h2,decide_false])
 | ((first|((first|refine Adz (Aez (A9z _ ?_)) ?_|refine Abz (Aez (A9z _ ?_)) ⟨.str ByteArray.empty,[],⟨ByteArray.empty,Nat.zero_le _,rfl⟩,rfl⟩ ?_);(exact sd);rintro _ _ ⟨⟨sn,hsn,rfl⟩,rfl⟩)|((first|refine Adz (Aez (Bez _ ?_)) ?_|refine Abz (Aez (Bez _ ?_)) ⟨.str ByteArray.empty,[],⟨ByteArray.empty,Nat.zero_le _,rfl⟩,rfl⟩ ?_);(exact sd);rintro _ _ ⟨⟨sn,hsn,rfl⟩,rfl⟩)|((first|refine Adz (Aez (Blz _ ?_)) ?_|refine Abz (Aez (Blz _ ?_)) ⟨.str ByteArray.empty,[],⟨ByteArray.empty,Nat.zero_le _,rfl⟩,rfl⟩ ?_);(exact sd);rintro _ _ ⟨⟨sn,hsn,rfl⟩,rfl⟩))<;>(try simp (disch:=omega) only [push_cast,seval,h1,h2,decide_false]))
 | (refine Amz ⟨.inr rfl,_,rfl,?_⟩;(try simp (disch:=omega) only [push_cast,seval,h1,h2,decide_false]))))
  exact ⟨_,by rw [ByteArray.size_append];omega,rfl⟩


set_option maxHeartbeats 8000000 in
theorem D9z (xs:List Int) (n:Nat) (hn:xs.length=n) (hb:n ≤ 100 ∧ ∀ x ∈ xs,0 ≤ x ∧ x < 1000):PCall Tryd.prog 69 [.rows false (IL xs) n] (fun r=>∃ s:ByteArray,s.size ≤ 3000 ∧ r=.str s):=by
  subst hn
  obtain ⟨hb1,hb2⟩:=hb
  refine A5z l69_eq rfl ?_
  (repeat' (first
 | (first|refine Apz ?_|refine Aiz ?_)
 | ((first|refine Aqz ?_|refine Ahz ?_|refine Ajz ?_|refine Akz ?_);simp (disch:=omega) only [push_cast,seval,l69r0,l69r1,l69r2,l69r3,l69r4,l69r5,l69r6])
 | ((first|refine Acz ?_ ?_|refine Agz ?_ ?_|refine Afz ?_ ?_)<;>intro h<;>(try simp only [h])<;>(try simp only [bitvec_to_nat] at h)<;>(try simp only [h])<;>(first|(exfalso;omega)|(exfalso;simp_all;done)|(simp (disch:=omega) only [push_cast,seval])|skip))
 | ((first|refine Arz false ?_|refine Anz false ?_);simp (disch:=omega) only [push_cast,seval])
 | ((first|((first|refine Adz (Aez (A9z _ ?_)) ?_|refine Abz (Aez (A9z _ ?_)) ⟨.str ByteArray.empty,[],⟨ByteArray.empty,Nat.zero_le _,rfl⟩,rfl⟩ ?_);(exact sd);rintro _ _ ⟨⟨sn,hsn,rfl⟩,rfl⟩)|((first|refine Adz (Aez (Bez _ ?_)) ?_|refine Abz (Aez (Bez _ ?_)) ⟨.str ByteArray.empty,[],⟨ByteArray.empty,Nat.zero_le _,rfl⟩,rfl⟩ ?_);(exact sd);rintro _ _ ⟨⟨sn,hsn,rfl⟩,rfl⟩)|((first|refine Adz (Aez (Blz _ ?_)) ?_|refine Abz (Aez (Blz _ ?_)) ⟨.str ByteArray.empty,[],⟨ByteArray.empty,Nat.zero_le _,rfl⟩,rfl⟩ ?_);(exact sd);rintro _ _ ⟨⟨sn,hsn,rfl⟩,rfl⟩))<;>(try simp (disch:=omega) only [push_cast,seval]))
 | (refine Amz ⟨.inr rfl,_,rfl,?_⟩;(try simp (disch:=omega) only [push_cast,seval]))))
  refine B3z (fun x:Nat × ByteArray=>mkS [(0,.rows false (IL xs) xs.length),(3,.str x.2),(4,.int .i64 x.1)] []) (fun x=>x.1 ≤ xs.length ∧ x.2.size ≤ x.1 * 25) (fun x=>xs.length - x.1) (0,{ data:={ toList:=[] } }) ⟨Nat.zero_le _,by simp [bsz]⟩ ?_ ?_
  · (refine Sub.of_lists ?_ ?_ ?_ ?_ ?_<;>simp [Vw.mkS,Vw.lk,Vw.hk,AV.inn,innL,Awz,Atz,Ayz,-List.map_set,-List.getD_eq_getElem?_getD])
  · rintro ⟨i,t⟩ ⟨hi,ht⟩
    simp only at hi ht ⊢
    by_cases hlt:i < xs.length
    · have hx:=hb2 _ (Doz hlt)
      have h32:({ data:={ toList:=[32] } }:ByteArray).size=1:=rfl
      have ht2:(t ++ ({ data:={ toList:=[32] } }:ByteArray)).size=t.size + 1:=by rw [ByteArray.size_append];rfl
      have hadd:=abin_addS t { data:={ toList:=[32] } } (by rw [h32];omega)
      (repeat' (first
 | (first|refine Apz ?_|refine Aiz ?_)
 | ((first|refine Aqz ?_|refine Ahz ?_|refine Ajz ?_|refine Akz ?_);simp (disch:=omega) only [push_cast,seval,l69r0,l69r1,l69r2,l69r3,l69r4,l69r5,l69r6,hlt,hadd])
 | ((first|refine Acz ?_ ?_|refine Agz ?_ ?_|refine Afz ?_ ?_)<;>intro h<;>(try simp only [h])<;>(try simp only [bitvec_to_nat] at h)<;>(try simp only [h])<;>(first|(exfalso;omega)|(exfalso;simp_all;done)|(simp (disch:=omega) only [push_cast,seval,hlt,hadd])|skip))
 | ((first|refine Arz false ?_|refine Anz false ?_);simp (disch:=omega) only [push_cast,seval,hlt,hadd])
 | ((first|((first|refine Adz (Aez (A9z _ ?_)) ?_|refine Abz (Aez (A9z _ ?_)) ⟨.str ByteArray.empty,[],⟨ByteArray.empty,Nat.zero_le _,rfl⟩,rfl⟩ ?_);(exact sd);rintro _ _ ⟨⟨sn,hsn,rfl⟩,rfl⟩)|((first|refine Adz (Aez (Bez _ ?_)) ?_|refine Abz (Aez (Bez _ ?_)) ⟨.str ByteArray.empty,[],⟨ByteArray.empty,Nat.zero_le _,rfl⟩,rfl⟩ ?_);(exact sd);rintro _ _ ⟨⟨sn,hsn,rfl⟩,rfl⟩)|((first|refine Adz (Aez (Blz _ ?_)) ?_|refine Abz (Aez (Blz _ ?_)) ⟨.str ByteArray.empty,[],⟨ByteArray.empty,Nat.zero_le _,rfl⟩,rfl⟩ ?_);(exact sd);rintro _ _ ⟨⟨sn,hsn,rfl⟩,rfl⟩))<;>(try simp (disch:=omega) only [push_cast,seval,hlt,hadd]))
 | (refine Amz ⟨.inr rfl,_,rfl,?_⟩;(try simp (disch:=omega) only [push_cast,seval,hlt,hadd]))))
      refine ⟨(i + 1,t ++ { data:={ toList:=[32] } } ++ sn),⟨by simp only;omega,by simp only [ByteArray.size_append,h32];omega⟩,by simp only;omega,?_⟩
      (refine Sub.of_lists ?_ ?_ ?_ ?_ ?_<;>simp [Vw.mkS,Vw.lk,Vw.hk,AV.inn,innL,Awz,Atz,Ayz,-List.map_set,-List.getD_eq_getElem?_getD])
    · have e:i=xs.length:=by omega
      subst e
      (repeat' (first
 | (first|refine Apz ?_|refine Aiz ?_)
 | ((first|refine Aqz ?_|refine Ahz ?_|refine Ajz ?_|refine Akz ?_);simp (disch:=omega) only [push_cast,seval,l69r0,l69r1,l69r2,l69r3,l69r4,l69r5,l69r6])
 | ((first|refine Acz ?_ ?_|refine Agz ?_ ?_|refine Afz ?_ ?_)<;>intro h<;>(try simp only [h])<;>(try simp only [bitvec_to_nat] at h)<;>(try simp only [h])<;>(first|(exfalso;omega)|(exfalso;simp_all;done)|(simp (disch:=omega) only [push_cast,seval])|skip))
 | ((first|refine Arz false ?_|refine Anz false ?_);simp (disch:=omega) only [push_cast,seval])
 | ((first|((first|refine Adz (Aez (A9z _ ?_)) ?_|refine Abz (Aez (A9z _ ?_)) ⟨.str ByteArray.empty,[],⟨ByteArray.empty,Nat.zero_le _,rfl⟩,rfl⟩ ?_);(exact sd);rintro _ _ ⟨⟨sn,hsn,rfl⟩,rfl⟩)|((first|refine Adz (Aez (Bez _ ?_)) ?_|refine Abz (Aez (Bez _ ?_)) ⟨.str ByteArray.empty,[],⟨ByteArray.empty,Nat.zero_le _,rfl⟩,rfl⟩ ?_);(exact sd);rintro _ _ ⟨⟨sn,hsn,rfl⟩,rfl⟩)|((first|refine Adz (Aez (Blz _ ?_)) ?_|refine Abz (Aez (Blz _ ?_)) ⟨.str ByteArray.empty,[],⟨ByteArray.empty,Nat.zero_le _,rfl⟩,rfl⟩ ?_);(exact sd);rintro _ _ ⟨⟨sn,hsn,rfl⟩,rfl⟩))<;>(try simp (disch:=omega) only [push_cast,seval]))
 | (refine Amz ⟨.inr rfl,_,rfl,?_⟩;(try simp (disch:=omega) only [push_cast,seval]))))
      exact ⟨_,by omega,rfl⟩

end Go.Proofs.YtkpcjppnjmhanaaDoor
namespace Go.Proofs.YtkpcjppnjmhanaaDoor
open VwM Vw Go
variable [SentA]

theorem J9z {cs:List Int} {es:List Ex} (h:vB cs es=true):cs.length ≤ 60 ∧ es.length ≤ 8 ∧ exB 4 es:=by
  obtain ⟨h1,h2,_⟩:=vB_8 h
  refine ⟨h2,h1,fun e he=>?_⟩
  obtain ⟨i,hi,e1⟩:=List.mem_iff_getElem.1 he
  have hs:=Ewz.1 ((Gvz.1 h).2.2 i e (by rw [List.getElem?_eq_getElem hi,e1]))
  have hv:=hs.1.2
  have hg:=(Cxz (Daz.1 hv).1).1.2
  have hl:=(Eoz hv).2
  exact ⟨hg,by omega⟩
theorem vB_x {cs:List Int} {es:List Ex} (h:vB cs es=true):cs.length ≤ 1099511627776 ∧ es.length ≤ 1099511627776 ∧ exB 1099511627776 es:=by
  obtain ⟨h1,h2,h3⟩:=J9z h
  exact ⟨by omega,by omega,fun e he=>by have:=h3 e he;omega⟩
theorem zz_rng {cs:List Int} {N:Nat} (h:∀ x ∈ cs,0 ≤ x ∧ x ≤ 255):∀ x ∈ zz cs N,0 ≤ x ∧ x ≤ 255:=fun x hx=>by
  unfold zz at hx
  obtain ⟨j,_,rfl⟩:=List.mem_map.1 hx
  exact getD_rng h j
theorem vB_rz {cs:List Int} {es:List Ex} {s:Int} (h:rzG cs es s=true):vB (zz cs s.toNat) es=true:=by
  unfold rzG at h
  simp only [Bool.and_eq_true,decide_eq_true_eq,List.length_eq_zero_iff] at h
  refine vB_size h.1.1 h.2 (D2z.2 ⟨by rw [Ftz];omega,zz_rng (D2z.1 (Gvz.1 h.1.1).1).2⟩)
theorem rpt_rng {x:Int} {n:Nat} (h:0 ≤ x ∧ x ≤ 255):∀ y ∈ rpt [x] n,0 ≤ y ∧ y ≤ 255:=fun y hy=>by
  rw [rpt_one] at hy
  rw [(List.mem_replicate.1 hy).2]
  exact h
theorem vB_xf {cs:List Int} {es:List Ex} {id v:Int} (h:xfG cs es id v=true):vB (xfC cs es id v) es=true:=by
  unfold xfG at h
  simp only [Bool.and_eq_true,decide_eq_true_eq] at h
  exact vB_cells h.1.1 (Juz ..) (vMem_put (Gvz.1 h.1.1).1 _ _ (rpt_rng h.2))
theorem vB_xc {cs:List Int} {es:List Ex} {t f:Int} (h:xcG cs es t f=true):vB (xcC cs es t f) es=true:=by
  unfold xcG at h
  simp only [Bool.and_eq_true] at h
  have hm:=(Gvz.1 h.1.1.1).1
  exact vB_cells h.1.1.1 (Emz ..) (vMem_put hm _ _ (I5z (D2z.1 hm).2))
abbrev OBd (q:Prop):AV → List (List AV) → Prop:=fun r H'=>∃ ok cs' es',(ok=true → vB cs' es'=true ∧ (q → 1 ≤ es'.length)) ∧ (cs'.length ≤ 60 ∧ es'.length ≤ 8 ∧ exB 4 es') ∧ r=.tup [.agg [.own 0 cs'.length 1,.own 1 es'.length 5],.bool ok] ∧ H'=[IL cs',EL true es']
theorem Kuz {q:Prop} {P:Program} {f:Nat} {args:List AV} {G:Bool} {C:List Int} {E:List Ex} (hc:BCall P f args [] (OBs G (ifB G C) (ifB G E))) (h:G=true → vB C E=true ∧ (q → 1 ≤ E.length)):BCall P f args [] (OBd q):=hc.mono fun r H' h1=>by
  refine ⟨G,ifB G C,ifB G E,fun hg=>?_,?_,h1.1,h1.2⟩
  · subst hg;exact h rfl
  · cases hG:G with
    | false=>exact ⟨Nat.zero_le _,Nat.zero_le _,fun e he=>by cases he⟩
    | true=>exact J9z (h hG).1
/-- The numbers that an act has. -/
def actK (k:Int) (nums:List Int):Prop:=(k=0 ∧ ∃ a,nums=[a]) ∨ (k=1 ∧ ∃ a e s,nums=[a,e,s]) ∨ (k=2 ∧ ∃ a b c d,nums=[a,b,c,d]) ∨ (k=3 ∧ ∃ a,nums=[a]) ∨ (k=4 ∧ ∃ a v,nums=[a,v]) ∨ (k=5 ∧ ∃ a b,nums=[a,b]) ∨ (k=6 ∧ ∃ a,nums=[a]) ∨ (k=7 ∧ ∃ a,nums=[a])


theorem Ecz (cs:List Int) (es:List Ex) (m n:Nat) (s:Int) (hm:cs.length=m) (hn:es.length=n) (hv:vB cs es=true) :
    BCall Tryd.prog 22 [.agg [.rows false (IL cs) m,.rows false (EL false es) n],.int .i64 s] [] (OBd False):=by
  subst hm hn
  exact Kuz (sRz_ok cs es _ _ s rfl rfl (vB_x hv)) fun h=>⟨vB_rz h,fun h=>h.elim⟩


theorem Efz (cs:List Int) (es:List Ex) (m n:Nat) (b e s:Int) (hm:cs.length=m) (hn:es.length=n) (hv:vB cs es=true) :
    BCall Tryd.prog 77 [.agg [.rows false (IL cs) m,.rows false (EL false es) n],.agg [.int .i64 b,.rows false [.int .i64 e] 1,.rows false [.int .i64 s] 1]] [] (OBd True):=by
  subst hm hn
  exact Kuz (sEV_ok cs es _ _ b [e] [s] 1 1 rfl rfl rfl rfl ⟨⟨by decide,by decide⟩,vB_x hv⟩) fun h=>⟨vB_ev h,fun _=>by simp⟩


theorem Egz (cs:List Int) (es:List Ex) (m n:Nat) (id d f t w:Int) (hf ht:Bool) (hm:cs.length=m) (hn:es.length=n) (hv:vB cs es=true) :
    BCall Tryd.prog 78 [.agg [.rows false (IL cs) m,.rows false (EL false es) n],.int .i64 id,.int .i64 d,slc f t w hf ht] [] (OBd True):=by
  subst hm hn
  exact Kuz (sEP_ok cs es _ _ id d f t w hf ht rfl rfl (vB_x hv)) fun h=>⟨vB_ep h,fun _=>by unfold epE;simp⟩


theorem Eaz (cs:List Int) (es:List Ex) (m n:Nat) (id v:Int) (hm:cs.length=m) (hn:es.length=n) (hv:vB cs es=true) :
    BCall Tryd.prog 79 [.agg [.rows false (IL cs) m,.rows false (EL false es) n],.int .i64 id,.int .i64 v] [] (OBd False):=by
  subst hm hn
  exact Kuz (sFE_ok cs es _ _ id v rfl rfl (vB_x hv)) fun h=>⟨vB_xf h,fun h=>h.elim⟩


theorem Ebz (cs:List Int) (es:List Ex) (m n:Nat) (t f:Int) (hm:cs.length=m) (hn:es.length=n) (hv:vB cs es=true) :
    BCall Tryd.prog 80 [.agg [.rows false (IL cs) m,.rows false (EL false es) n],.int .i64 t,.int .i64 f] [] (OBd False):=by
  subst hm hn
  exact Kuz (sCE_ok cs es _ _ t f rfl rfl (vB_x hv)) fun h=>⟨vB_xc h,fun h=>h.elim⟩


theorem Edz (cs:List Int) (es:List Ex) (m n:Nat) (id:Int) (hm:cs.length=m) (hn:es.length=n) (hv:vB cs es=true) :
    BCall Tryd.prog 81 [.agg [.rows false (IL cs) m,.rows false (EL false es) n],.int .i64 id] [] (OBd False):=by
  subst hm hn
  exact Kuz (sRel_ok cs es _ _ id rfl rfl (vB_x hv)) fun h=>⟨vB_relG h,fun h=>h.elim⟩


set_option maxHeartbeats 16000000 in
theorem done_ok (cs:List Int) (es:List Ex) (m n:Nat) (k:Int) (nums:List Int) (l:Nat) (hm:cs.length=m) (hn:es.length=n) (hl:nums.length=l) (hv:vB cs es=true) (hk:actK k nums) (h6:k ≠ 6) :
    BCall Tryd.prog 68 [.agg [.rows false (IL cs) m,.rows false (EL false es) n],.agg [.int .i64 k,.rows false (IL nums) l]] [] (OBd (k=1 ∨ k=2 ∨ k=3)):=by
  subst hm hn hl
  have hel:=A4z false es
  refine A3z (pins:=[]) (pin:=0) l68_eq rfl rfl rfl ?_
  rcases hk with ⟨rfl,a,rfl⟩|⟨rfl,a,e,s,rfl⟩|⟨rfl,a,b,c,d,rfl⟩|⟨rfl,a,rfl⟩|⟨rfl,a,v,rfl⟩|⟨rfl,a,b,rfl⟩|⟨rfl,a,rfl⟩|⟨rfl,a,rfl⟩
  · (repeat' (first
 | (first|refine Apz ?_|refine Aiz ?_)
 | ((first|refine Aqz ?_|refine Asz (mid:=l68r4a) (post:=l68r4b) Axz (by decide) ?_|refine Asz (mid:=l68r6a) (post:=l68r6b) Axz (by decide) ?_|refine Asz (mid:=l68r8a) (post:=l68r8b) Axz (by decide) ?_|refine Asz (mid:=l68r10a) (post:=l68r10b) Axz (by decide) ?_|refine Asz (mid:=l68r12a) (post:=l68r12b) Axz (by decide) ?_|refine Asz (mid:=l68r14a) (post:=l68r14b) Axz (by decide) ?_|refine Asz (mid:=l68r16a) (post:=l68r16b) Axz (by decide) ?_|refine Asz (mid:=l68r17a) (post:=l68r17b) Axz (by decide) ?_|refine Ahz ?_|refine Ajz ?_|refine Akz ?_);simp (disch:=omega) only [push_cast,seval,l68r0,l68r1,l68r2,l68r3,l68r4a,l68r4b,l68r4,l68r5,l68r6a,l68r6b,l68r6,l68r7,l68r8a,l68r8b,l68r8,l68r9,l68r10a,l68r10b,l68r10,l68r11,l68r12a,l68r12b,l68r12,l68r13,l68r14a,l68r14b,l68r14,l68r15,l68r16a,l68r16b,l68r16,l68r17a,l68r17b,l68r17,hel,Aaz,IL])
 | ((first|refine Acz ?_ ?_|refine Agz ?_ ?_|refine Afz ?_ ?_)<;>intro h<;>(try simp only [h])<;>(try simp only [bitvec_to_nat] at h)<;>(try simp only [h])<;>(first|(exfalso;omega)|(exfalso;simp_all;done)|(simp (disch:=omega) only [push_cast,seval,hel,Aaz,IL])|skip))
 | ((first|refine Arz false ?_|refine Anz false ?_);simp (disch:=omega) only [push_cast,seval,hel,Aaz,IL])
 | ((first|((first|refine Adz (Ecz _ _ _ _ _ ?_ ?_ ?_) ?_|refine Abz (Ecz _ _ _ _ _ ?_ ?_ ?_) ⟨_,_,false,[],[],(fun h=>by cases h),⟨Nat.zero_le _,Nat.zero_le _,fun e he=>by cases he⟩,rfl,rfl⟩ ?_);(iterate 3 (exact sd));rintro _ _ ⟨ok,cs',es',hok,hbd,rfl,rfl⟩)|((first|refine Adz (Efz _ _ _ _ _ _ _ ?_ ?_ ?_) ?_|refine Abz (Efz _ _ _ _ _ _ _ ?_ ?_ ?_) ⟨_,_,false,[],[],(fun h=>by cases h),⟨Nat.zero_le _,Nat.zero_le _,fun e he=>by cases he⟩,rfl,rfl⟩ ?_);(iterate 3 (exact sd));rintro _ _ ⟨ok,cs',es',hok,hbd,rfl,rfl⟩)|((first|refine Adz (Egz _ _ _ _ _ _ _ _ _ _ _ ?_ ?_ ?_) ?_|refine Abz (Egz _ _ _ _ _ _ _ _ _ _ _ ?_ ?_ ?_) ⟨_,_,false,[],[],(fun h=>by cases h),⟨Nat.zero_le _,Nat.zero_le _,fun e he=>by cases he⟩,rfl,rfl⟩ ?_);(iterate 3 (exact sd));rintro _ _ ⟨ok,cs',es',hok,hbd,rfl,rfl⟩)|((first|refine Adz (Eaz _ _ _ _ _ _ ?_ ?_ ?_) ?_|refine Abz (Eaz _ _ _ _ _ _ ?_ ?_ ?_) ⟨_,_,false,[],[],(fun h=>by cases h),⟨Nat.zero_le _,Nat.zero_le _,fun e he=>by cases he⟩,rfl,rfl⟩ ?_);(iterate 3 (exact sd));rintro _ _ ⟨ok,cs',es',hok,hbd,rfl,rfl⟩)|((first|refine Adz (Ebz _ _ _ _ _ _ ?_ ?_ ?_) ?_|refine Abz (Ebz _ _ _ _ _ _ ?_ ?_ ?_) ⟨_,_,false,[],[],(fun h=>by cases h),⟨Nat.zero_le _,Nat.zero_le _,fun e he=>by cases he⟩,rfl,rfl⟩ ?_);(iterate 3 (exact sd));rintro _ _ ⟨ok,cs',es',hok,hbd,rfl,rfl⟩)|((first|refine Adz (Edz _ _ _ _ _ ?_ ?_ ?_) ?_|refine Abz (Edz _ _ _ _ _ ?_ ?_ ?_) ⟨_,_,false,[],[],(fun h=>by cases h),⟨Nat.zero_le _,Nat.zero_le _,fun e he=>by cases he⟩,rfl,rfl⟩ ?_);(iterate 3 (exact sd));rintro _ _ ⟨ok,cs',es',hok,hbd,rfl,rfl⟩)|((first|refine Adz (Aez (Bfz _ _ _ _ _ ?_ ?_ ?_)) ?_|refine Abz (Aez (Bfz _ _ _ _ _ ?_ ?_ ?_)) ⟨_,_,rfl,rfl⟩ ?_);(iterate 3 (exact sd));rintro _ _ ⟨rfl,rfl⟩))<;>(try simp (disch:=omega) only [push_cast,seval,hel,Aaz,IL]))
 | (refine Amz ⟨.inr rfl,[272,273],[],_,by decide,rfl,?_⟩;(try simp (disch:=omega) only [push_cast,seval,↓Aoz,↓Alz,↓List.map_cons,↓List.map_nil,hel,Aaz,IL]))))
    all_goals exact ⟨ok,cs',es',fun h=>⟨(hok h).1,fun hq=>by first|exact (hok h).2 trivial|(exact absurd hq (by decide))⟩,hbd,rfl,rfl⟩
  · (repeat' (first
 | (first|refine Apz ?_|refine Aiz ?_)
 | ((first|refine Aqz ?_|refine A6z (mid:=l68r4a) (post:=l68r4b) [] Axz (by decide) ?_|refine A6z (mid:=l68r6a) (post:=l68r6b) [] Axz (by decide) ?_|refine A6z (mid:=l68r8a) (post:=l68r8b) [] Axz (by decide) ?_|refine A6z (mid:=l68r10a) (post:=l68r10b) [] Axz (by decide) ?_|refine A6z (mid:=l68r12a) (post:=l68r12b) [] Axz (by decide) ?_|refine A6z (mid:=l68r14a) (post:=l68r14b) [] Axz (by decide) ?_|refine A6z (mid:=l68r16a) (post:=l68r16b) [] Axz (by decide) ?_|refine A6z (mid:=l68r17a) (post:=l68r17b) [] Axz (by decide) ?_|refine Ahz ?_|refine Ajz ?_|refine Akz ?_);simp (disch:=omega) only [push_cast,seval,l68r0,l68r1,l68r2,l68r3,l68r4a,l68r4b,l68r4,l68r5,l68r6a,l68r6b,l68r6,l68r7,l68r8a,l68r8b,l68r8,l68r9,l68r10a,l68r10b,l68r10,l68r11,l68r12a,l68r12b,l68r12,l68r13,l68r14a,l68r14b,l68r14,l68r15,l68r16a,l68r16b,l68r16,l68r17a,l68r17b,l68r17,hel,Aaz,IL])
 | ((first|refine Acz ?_ ?_|refine Agz ?_ ?_|refine Afz ?_ ?_)<;>intro h<;>(try simp only [h])<;>(try simp only [bitvec_to_nat] at h)<;>(try simp only [h])<;>(first|(exfalso;omega)|(exfalso;simp_all;done)|(simp (disch:=omega) only [push_cast,seval,hel,Aaz,IL])|skip))
 | ((first|refine Arz false ?_|refine Anz false ?_);simp (disch:=omega) only [push_cast,seval,hel,Aaz,IL])
 | ((first|((first|refine Adz (Ecz _ _ _ _ _ ?_ ?_ ?_) ?_|refine Abz (Ecz _ _ _ _ _ ?_ ?_ ?_) ⟨_,_,false,[],[],(fun h=>by cases h),⟨Nat.zero_le _,Nat.zero_le _,fun e he=>by cases he⟩,rfl,rfl⟩ ?_);(iterate 3 (exact sd));rintro _ _ ⟨ok,cs',es',hok,hbd,rfl,rfl⟩)|((first|refine Adz (Efz _ _ _ _ _ _ _ ?_ ?_ ?_) ?_|refine Abz (Efz _ _ _ _ _ _ _ ?_ ?_ ?_) ⟨_,_,false,[],[],(fun h=>by cases h),⟨Nat.zero_le _,Nat.zero_le _,fun e he=>by cases he⟩,rfl,rfl⟩ ?_);(iterate 3 (exact sd));rintro _ _ ⟨ok,cs',es',hok,hbd,rfl,rfl⟩)|((first|refine Adz (Egz _ _ _ _ _ _ _ _ _ _ _ ?_ ?_ ?_) ?_|refine Abz (Egz _ _ _ _ _ _ _ _ _ _ _ ?_ ?_ ?_) ⟨_,_,false,[],[],(fun h=>by cases h),⟨Nat.zero_le _,Nat.zero_le _,fun e he=>by cases he⟩,rfl,rfl⟩ ?_);(iterate 3 (exact sd));rintro _ _ ⟨ok,cs',es',hok,hbd,rfl,rfl⟩)|((first|refine Adz (Eaz _ _ _ _ _ _ ?_ ?_ ?_) ?_|refine Abz (Eaz _ _ _ _ _ _ ?_ ?_ ?_) ⟨_,_,false,[],[],(fun h=>by cases h),⟨Nat.zero_le _,Nat.zero_le _,fun e he=>by cases he⟩,rfl,rfl⟩ ?_);(iterate 3 (exact sd));rintro _ _ ⟨ok,cs',es',hok,hbd,rfl,rfl⟩)|((first|refine Adz (Ebz _ _ _ _ _ _ ?_ ?_ ?_) ?_|refine Abz (Ebz _ _ _ _ _ _ ?_ ?_ ?_) ⟨_,_,false,[],[],(fun h=>by cases h),⟨Nat.zero_le _,Nat.zero_le _,fun e he=>by cases he⟩,rfl,rfl⟩ ?_);(iterate 3 (exact sd));rintro _ _ ⟨ok,cs',es',hok,hbd,rfl,rfl⟩)|((first|refine Adz (Edz _ _ _ _ _ ?_ ?_ ?_) ?_|refine Abz (Edz _ _ _ _ _ ?_ ?_ ?_) ⟨_,_,false,[],[],(fun h=>by cases h),⟨Nat.zero_le _,Nat.zero_le _,fun e he=>by cases he⟩,rfl,rfl⟩ ?_);(iterate 3 (exact sd));rintro _ _ ⟨ok,cs',es',hok,hbd,rfl,rfl⟩)|((first|refine Adz (Aez (Bfz _ _ _ _ _ ?_ ?_ ?_)) ?_|refine Abz (Aez (Bfz _ _ _ _ _ ?_ ?_ ?_)) ⟨_,_,rfl,rfl⟩ ?_);(iterate 3 (exact sd));rintro _ _ ⟨rfl,rfl⟩))<;>(try simp (disch:=omega) only [push_cast,seval,hel,Aaz,IL]))
 | (refine Amz ⟨.inr rfl,[560,561],[],_,by decide,rfl,?_⟩;(try simp (disch:=omega) only [push_cast,seval,↓Aoz,↓Alz,↓List.map_cons,↓List.map_nil,hel,Aaz,IL]))))
    all_goals exact ⟨ok,cs',es',fun h=>⟨(hok h).1,fun hq=>by first|exact (hok h).2 trivial|(exact absurd hq (by decide))⟩,hbd,rfl,rfl⟩
  · (repeat' (first
 | (first|refine Apz ?_|refine Aiz ?_)
 | ((first|refine Aqz ?_|refine Asz (mid:=l68r4a) (post:=l68r4b) Axz (by decide) ?_|refine Asz (mid:=l68r6a) (post:=l68r6b) Axz (by decide) ?_|refine Asz (mid:=l68r8a) (post:=l68r8b) Axz (by decide) ?_|refine Asz (mid:=l68r10a) (post:=l68r10b) Axz (by decide) ?_|refine Asz (mid:=l68r12a) (post:=l68r12b) Axz (by decide) ?_|refine Asz (mid:=l68r14a) (post:=l68r14b) Axz (by decide) ?_|refine Asz (mid:=l68r16a) (post:=l68r16b) Axz (by decide) ?_|refine Asz (mid:=l68r17a) (post:=l68r17b) Axz (by decide) ?_|refine Ahz ?_|refine Ajz ?_|refine Akz ?_);simp (disch:=omega) only [push_cast,seval,l68r0,l68r1,l68r2,l68r3,l68r4a,l68r4b,l68r4,l68r5,l68r6a,l68r6b,l68r6,l68r7,l68r8a,l68r8b,l68r8,l68r9,l68r10a,l68r10b,l68r10,l68r11,l68r12a,l68r12b,l68r12,l68r13,l68r14a,l68r14b,l68r14,l68r15,l68r16a,l68r16b,l68r16,l68r17a,l68r17b,l68r17,hel,Aaz,IL])
 | ((first|refine Acz ?_ ?_|refine Agz ?_ ?_|refine Afz ?_ ?_)<;>intro h<;>(try simp only [h])<;>(try simp only [bitvec_to_nat] at h)<;>(try simp only [h])<;>(first|(exfalso;omega)|(exfalso;simp_all;done)|(simp (disch:=omega) only [push_cast,seval,hel,Aaz,IL])|skip))
 | ((first|refine Arz false ?_|refine Anz false ?_);simp (disch:=omega) only [push_cast,seval,hel,Aaz,IL])
 | ((first|((first|refine Adz (Ecz _ _ _ _ _ ?_ ?_ ?_) ?_|refine Abz (Ecz _ _ _ _ _ ?_ ?_ ?_) ⟨_,_,false,[],[],(fun h=>by cases h),⟨Nat.zero_le _,Nat.zero_le _,fun e he=>by cases he⟩,rfl,rfl⟩ ?_);(iterate 3 (exact sd));rintro _ _ ⟨ok,cs',es',hok,hbd,rfl,rfl⟩)|((first|refine Adz (Efz _ _ _ _ _ _ _ ?_ ?_ ?_) ?_|refine Abz (Efz _ _ _ _ _ _ _ ?_ ?_ ?_) ⟨_,_,false,[],[],(fun h=>by cases h),⟨Nat.zero_le _,Nat.zero_le _,fun e he=>by cases he⟩,rfl,rfl⟩ ?_);(iterate 3 (exact sd));rintro _ _ ⟨ok,cs',es',hok,hbd,rfl,rfl⟩)|((first|refine Adz (Egz _ _ _ _ _ _ _ _ _ _ _ ?_ ?_ ?_) ?_|refine Abz (Egz _ _ _ _ _ _ _ _ _ _ _ ?_ ?_ ?_) ⟨_,_,false,[],[],(fun h=>by cases h),⟨Nat.zero_le _,Nat.zero_le _,fun e he=>by cases he⟩,rfl,rfl⟩ ?_);(iterate 3 (exact sd));rintro _ _ ⟨ok,cs',es',hok,hbd,rfl,rfl⟩)|((first|refine Adz (Eaz _ _ _ _ _ _ ?_ ?_ ?_) ?_|refine Abz (Eaz _ _ _ _ _ _ ?_ ?_ ?_) ⟨_,_,false,[],[],(fun h=>by cases h),⟨Nat.zero_le _,Nat.zero_le _,fun e he=>by cases he⟩,rfl,rfl⟩ ?_);(iterate 3 (exact sd));rintro _ _ ⟨ok,cs',es',hok,hbd,rfl,rfl⟩)|((first|refine Adz (Ebz _ _ _ _ _ _ ?_ ?_ ?_) ?_|refine Abz (Ebz _ _ _ _ _ _ ?_ ?_ ?_) ⟨_,_,false,[],[],(fun h=>by cases h),⟨Nat.zero_le _,Nat.zero_le _,fun e he=>by cases he⟩,rfl,rfl⟩ ?_);(iterate 3 (exact sd));rintro _ _ ⟨ok,cs',es',hok,hbd,rfl,rfl⟩)|((first|refine Adz (Edz _ _ _ _ _ ?_ ?_ ?_) ?_|refine Abz (Edz _ _ _ _ _ ?_ ?_ ?_) ⟨_,_,false,[],[],(fun h=>by cases h),⟨Nat.zero_le _,Nat.zero_le _,fun e he=>by cases he⟩,rfl,rfl⟩ ?_);(iterate 3 (exact sd));rintro _ _ ⟨ok,cs',es',hok,hbd,rfl,rfl⟩)|((first|refine Adz (Aez (Bfz _ _ _ _ _ ?_ ?_ ?_)) ?_|refine Abz (Aez (Bfz _ _ _ _ _ ?_ ?_ ?_)) ⟨_,_,rfl,rfl⟩ ?_);(iterate 3 (exact sd));rintro _ _ ⟨rfl,rfl⟩))<;>(try simp (disch:=omega) only [push_cast,seval,hel,Aaz,IL]))
 | (refine Amz ⟨.inr rfl,[864,865],[],_,by decide,rfl,?_⟩;(try simp (disch:=omega) only [push_cast,seval,↓Aoz,↓Alz,↓List.map_cons,↓List.map_nil,hel,Aaz,IL]))))
    all_goals exact ⟨ok,cs',es',fun h=>⟨(hok h).1,fun hq=>by first|exact (hok h).2 trivial|(exact absurd hq (by decide))⟩,hbd,rfl,rfl⟩
  · (repeat' (first
 | (first|refine Apz ?_|refine Aiz ?_)
 | ((first|refine Aqz ?_|refine Asz (mid:=l68r4a) (post:=l68r4b) Axz (by decide) ?_|refine Asz (mid:=l68r6a) (post:=l68r6b) Axz (by decide) ?_|refine Asz (mid:=l68r8a) (post:=l68r8b) Axz (by decide) ?_|refine Asz (mid:=l68r10a) (post:=l68r10b) Axz (by decide) ?_|refine Asz (mid:=l68r12a) (post:=l68r12b) Axz (by decide) ?_|refine Asz (mid:=l68r14a) (post:=l68r14b) Axz (by decide) ?_|refine Asz (mid:=l68r16a) (post:=l68r16b) Axz (by decide) ?_|refine Asz (mid:=l68r17a) (post:=l68r17b) Axz (by decide) ?_|refine Ahz ?_|refine Ajz ?_|refine Akz ?_);simp (disch:=omega) only [push_cast,seval,l68r0,l68r1,l68r2,l68r3,l68r4a,l68r4b,l68r4,l68r5,l68r6a,l68r6b,l68r6,l68r7,l68r8a,l68r8b,l68r8,l68r9,l68r10a,l68r10b,l68r10,l68r11,l68r12a,l68r12b,l68r12,l68r13,l68r14a,l68r14b,l68r14,l68r15,l68r16a,l68r16b,l68r16,l68r17a,l68r17b,l68r17,hel,Aaz,IL])
 | ((first|refine Acz ?_ ?_|refine Agz ?_ ?_|refine Afz ?_ ?_)<;>intro h<;>(try simp only [h])<;>(try simp only [bitvec_to_nat] at h)<;>(try simp only [h])<;>(first|(exfalso;omega)|(exfalso;simp_all;done)|(simp (disch:=omega) only [push_cast,seval,hel,Aaz,IL])|skip))
 | ((first|refine Arz false ?_|refine Anz false ?_);simp (disch:=omega) only [push_cast,seval,hel,Aaz,IL])
 | ((first|((first|refine Adz (Ecz _ _ _ _ _ ?_ ?_ ?_) ?_|refine Abz (Ecz _ _ _ _ _ ?_ ?_ ?_) ⟨_,_,false,[],[],(fun h=>by cases h),⟨Nat.zero_le _,Nat.zero_le _,fun e he=>by cases he⟩,rfl,rfl⟩ ?_);(iterate 3 (exact sd));rintro _ _ ⟨ok,cs',es',hok,hbd,rfl,rfl⟩)|((first|refine Adz (Efz _ _ _ _ _ _ _ ?_ ?_ ?_) ?_|refine Abz (Efz _ _ _ _ _ _ _ ?_ ?_ ?_) ⟨_,_,false,[],[],(fun h=>by cases h),⟨Nat.zero_le _,Nat.zero_le _,fun e he=>by cases he⟩,rfl,rfl⟩ ?_);(iterate 3 (exact sd));rintro _ _ ⟨ok,cs',es',hok,hbd,rfl,rfl⟩)|((first|refine Adz (Egz _ _ _ _ _ _ _ _ _ _ _ ?_ ?_ ?_) ?_|refine Abz (Egz _ _ _ _ _ _ _ _ _ _ _ ?_ ?_ ?_) ⟨_,_,false,[],[],(fun h=>by cases h),⟨Nat.zero_le _,Nat.zero_le _,fun e he=>by cases he⟩,rfl,rfl⟩ ?_);(iterate 3 (exact sd));rintro _ _ ⟨ok,cs',es',hok,hbd,rfl,rfl⟩)|((first|refine Adz (Eaz _ _ _ _ _ _ ?_ ?_ ?_) ?_|refine Abz (Eaz _ _ _ _ _ _ ?_ ?_ ?_) ⟨_,_,false,[],[],(fun h=>by cases h),⟨Nat.zero_le _,Nat.zero_le _,fun e he=>by cases he⟩,rfl,rfl⟩ ?_);(iterate 3 (exact sd));rintro _ _ ⟨ok,cs',es',hok,hbd,rfl,rfl⟩)|((first|refine Adz (Ebz _ _ _ _ _ _ ?_ ?_ ?_) ?_|refine Abz (Ebz _ _ _ _ _ _ ?_ ?_ ?_) ⟨_,_,false,[],[],(fun h=>by cases h),⟨Nat.zero_le _,Nat.zero_le _,fun e he=>by cases he⟩,rfl,rfl⟩ ?_);(iterate 3 (exact sd));rintro _ _ ⟨ok,cs',es',hok,hbd,rfl,rfl⟩)|((first|refine Adz (Edz _ _ _ _ _ ?_ ?_ ?_) ?_|refine Abz (Edz _ _ _ _ _ ?_ ?_ ?_) ⟨_,_,false,[],[],(fun h=>by cases h),⟨Nat.zero_le _,Nat.zero_le _,fun e he=>by cases he⟩,rfl,rfl⟩ ?_);(iterate 3 (exact sd));rintro _ _ ⟨ok,cs',es',hok,hbd,rfl,rfl⟩)|((first|refine Adz (Aez (Bfz _ _ _ _ _ ?_ ?_ ?_)) ?_|refine Abz (Aez (Bfz _ _ _ _ _ ?_ ?_ ?_)) ⟨_,_,rfl,rfl⟩ ?_);(iterate 3 (exact sd));rintro _ _ ⟨rfl,rfl⟩))<;>(try simp (disch:=omega) only [push_cast,seval,hel,Aaz,IL]))
 | (refine Amz ⟨.inr rfl,[1024,1025],[],_,by decide,rfl,?_⟩;(try simp (disch:=omega) only [push_cast,seval,↓Aoz,↓Alz,↓List.map_cons,↓List.map_nil,hel,Aaz,IL]))))
    all_goals exact ⟨ok,cs',es',fun h=>⟨(hok h).1,fun hq=>by first|exact (hok h).2 trivial|(exact absurd hq (by decide))⟩,hbd,rfl,rfl⟩
  · (repeat' (first
 | (first|refine Apz ?_|refine Aiz ?_)
 | ((first|refine Aqz ?_|refine Asz (mid:=l68r4a) (post:=l68r4b) Axz (by decide) ?_|refine Asz (mid:=l68r6a) (post:=l68r6b) Axz (by decide) ?_|refine Asz (mid:=l68r8a) (post:=l68r8b) Axz (by decide) ?_|refine Asz (mid:=l68r10a) (post:=l68r10b) Axz (by decide) ?_|refine Asz (mid:=l68r12a) (post:=l68r12b) Axz (by decide) ?_|refine Asz (mid:=l68r14a) (post:=l68r14b) Axz (by decide) ?_|refine Asz (mid:=l68r16a) (post:=l68r16b) Axz (by decide) ?_|refine Asz (mid:=l68r17a) (post:=l68r17b) Axz (by decide) ?_|refine Ahz ?_|refine Ajz ?_|refine Akz ?_);simp (disch:=omega) only [push_cast,seval,l68r0,l68r1,l68r2,l68r3,l68r4a,l68r4b,l68r4,l68r5,l68r6a,l68r6b,l68r6,l68r7,l68r8a,l68r8b,l68r8,l68r9,l68r10a,l68r10b,l68r10,l68r11,l68r12a,l68r12b,l68r12,l68r13,l68r14a,l68r14b,l68r14,l68r15,l68r16a,l68r16b,l68r16,l68r17a,l68r17b,l68r17,hel,Aaz,IL])
 | ((first|refine Acz ?_ ?_|refine Agz ?_ ?_|refine Afz ?_ ?_)<;>intro h<;>(try simp only [h])<;>(try simp only [bitvec_to_nat] at h)<;>(try simp only [h])<;>(first|(exfalso;omega)|(exfalso;simp_all;done)|(simp (disch:=omega) only [push_cast,seval,hel,Aaz,IL])|skip))
 | ((first|refine Arz false ?_|refine Anz false ?_);simp (disch:=omega) only [push_cast,seval,hel,Aaz,IL])
 | ((first|((first|refine Adz (Ecz _ _ _ _ _ ?_ ?_ ?_) ?_|refine Abz (Ecz _ _ _ _ _ ?_ ?_ ?_) ⟨_,_,false,[],[],(fun h=>by cases h),⟨Nat.zero_le _,Nat.zero_le _,fun e he=>by cases he⟩,rfl,rfl⟩ ?_);(iterate 3 (exact sd));rintro _ _ ⟨ok,cs',es',hok,hbd,rfl,rfl⟩)|((first|refine Adz (Efz _ _ _ _ _ _ _ ?_ ?_ ?_) ?_|refine Abz (Efz _ _ _ _ _ _ _ ?_ ?_ ?_) ⟨_,_,false,[],[],(fun h=>by cases h),⟨Nat.zero_le _,Nat.zero_le _,fun e he=>by cases he⟩,rfl,rfl⟩ ?_);(iterate 3 (exact sd));rintro _ _ ⟨ok,cs',es',hok,hbd,rfl,rfl⟩)|((first|refine Adz (Egz _ _ _ _ _ _ _ _ _ _ _ ?_ ?_ ?_) ?_|refine Abz (Egz _ _ _ _ _ _ _ _ _ _ _ ?_ ?_ ?_) ⟨_,_,false,[],[],(fun h=>by cases h),⟨Nat.zero_le _,Nat.zero_le _,fun e he=>by cases he⟩,rfl,rfl⟩ ?_);(iterate 3 (exact sd));rintro _ _ ⟨ok,cs',es',hok,hbd,rfl,rfl⟩)|((first|refine Adz (Eaz _ _ _ _ _ _ ?_ ?_ ?_) ?_|refine Abz (Eaz _ _ _ _ _ _ ?_ ?_ ?_) ⟨_,_,false,[],[],(fun h=>by cases h),⟨Nat.zero_le _,Nat.zero_le _,fun e he=>by cases he⟩,rfl,rfl⟩ ?_);(iterate 3 (exact sd));rintro _ _ ⟨ok,cs',es',hok,hbd,rfl,rfl⟩)|((first|refine Adz (Ebz _ _ _ _ _ _ ?_ ?_ ?_) ?_|refine Abz (Ebz _ _ _ _ _ _ ?_ ?_ ?_) ⟨_,_,false,[],[],(fun h=>by cases h),⟨Nat.zero_le _,Nat.zero_le _,fun e he=>by cases he⟩,rfl,rfl⟩ ?_);(iterate 3 (exact sd));rintro _ _ ⟨ok,cs',es',hok,hbd,rfl,rfl⟩)|((first|refine Adz (Edz _ _ _ _ _ ?_ ?_ ?_) ?_|refine Abz (Edz _ _ _ _ _ ?_ ?_ ?_) ⟨_,_,false,[],[],(fun h=>by cases h),⟨Nat.zero_le _,Nat.zero_le _,fun e he=>by cases he⟩,rfl,rfl⟩ ?_);(iterate 3 (exact sd));rintro _ _ ⟨ok,cs',es',hok,hbd,rfl,rfl⟩)|((first|refine Adz (Aez (Bfz _ _ _ _ _ ?_ ?_ ?_)) ?_|refine Abz (Aez (Bfz _ _ _ _ _ ?_ ?_ ?_)) ⟨_,_,rfl,rfl⟩ ?_);(iterate 3 (exact sd));rintro _ _ ⟨rfl,rfl⟩))<;>(try simp (disch:=omega) only [push_cast,seval,hel,Aaz,IL]))
 | (refine Amz ⟨.inr rfl,[1216,1217],[],_,by decide,rfl,?_⟩;(try simp (disch:=omega) only [push_cast,seval,↓Aoz,↓Alz,↓List.map_cons,↓List.map_nil,hel,Aaz,IL]))))
    all_goals exact ⟨ok,cs',es',fun h=>⟨(hok h).1,fun hq=>by first|exact (hok h).2 trivial|(exact absurd hq (by decide))⟩,hbd,rfl,rfl⟩
  · (repeat' (first
 | (first|refine Apz ?_|refine Aiz ?_)
 | ((first|refine Aqz ?_|refine Asz (mid:=l68r4a) (post:=l68r4b) Axz (by decide) ?_|refine Asz (mid:=l68r6a) (post:=l68r6b) Axz (by decide) ?_|refine Asz (mid:=l68r8a) (post:=l68r8b) Axz (by decide) ?_|refine Asz (mid:=l68r10a) (post:=l68r10b) Axz (by decide) ?_|refine Asz (mid:=l68r12a) (post:=l68r12b) Axz (by decide) ?_|refine Asz (mid:=l68r14a) (post:=l68r14b) Axz (by decide) ?_|refine Asz (mid:=l68r16a) (post:=l68r16b) Axz (by decide) ?_|refine Asz (mid:=l68r17a) (post:=l68r17b) Axz (by decide) ?_|refine Ahz ?_|refine Ajz ?_|refine Akz ?_);simp (disch:=omega) only [push_cast,seval,l68r0,l68r1,l68r2,l68r3,l68r4a,l68r4b,l68r4,l68r5,l68r6a,l68r6b,l68r6,l68r7,l68r8a,l68r8b,l68r8,l68r9,l68r10a,l68r10b,l68r10,l68r11,l68r12a,l68r12b,l68r12,l68r13,l68r14a,l68r14b,l68r14,l68r15,l68r16a,l68r16b,l68r16,l68r17a,l68r17b,l68r17,hel,Aaz,IL])
 | ((first|refine Acz ?_ ?_|refine Agz ?_ ?_|refine Afz ?_ ?_)<;>intro h<;>(try simp only [h])<;>(try simp only [bitvec_to_nat] at h)<;>(try simp only [h])<;>(first|(exfalso;omega)|(exfalso;simp_all;done)|(simp (disch:=omega) only [push_cast,seval,hel,Aaz,IL])|skip))
 | ((first|refine Arz false ?_|refine Anz false ?_);simp (disch:=omega) only [push_cast,seval,hel,Aaz,IL])
 | ((first|((first|refine Adz (Ecz _ _ _ _ _ ?_ ?_ ?_) ?_|refine Abz (Ecz _ _ _ _ _ ?_ ?_ ?_) ⟨_,_,false,[],[],(fun h=>by cases h),⟨Nat.zero_le _,Nat.zero_le _,fun e he=>by cases he⟩,rfl,rfl⟩ ?_);(iterate 3 (exact sd));rintro _ _ ⟨ok,cs',es',hok,hbd,rfl,rfl⟩)|((first|refine Adz (Efz _ _ _ _ _ _ _ ?_ ?_ ?_) ?_|refine Abz (Efz _ _ _ _ _ _ _ ?_ ?_ ?_) ⟨_,_,false,[],[],(fun h=>by cases h),⟨Nat.zero_le _,Nat.zero_le _,fun e he=>by cases he⟩,rfl,rfl⟩ ?_);(iterate 3 (exact sd));rintro _ _ ⟨ok,cs',es',hok,hbd,rfl,rfl⟩)|((first|refine Adz (Egz _ _ _ _ _ _ _ _ _ _ _ ?_ ?_ ?_) ?_|refine Abz (Egz _ _ _ _ _ _ _ _ _ _ _ ?_ ?_ ?_) ⟨_,_,false,[],[],(fun h=>by cases h),⟨Nat.zero_le _,Nat.zero_le _,fun e he=>by cases he⟩,rfl,rfl⟩ ?_);(iterate 3 (exact sd));rintro _ _ ⟨ok,cs',es',hok,hbd,rfl,rfl⟩)|((first|refine Adz (Eaz _ _ _ _ _ _ ?_ ?_ ?_) ?_|refine Abz (Eaz _ _ _ _ _ _ ?_ ?_ ?_) ⟨_,_,false,[],[],(fun h=>by cases h),⟨Nat.zero_le _,Nat.zero_le _,fun e he=>by cases he⟩,rfl,rfl⟩ ?_);(iterate 3 (exact sd));rintro _ _ ⟨ok,cs',es',hok,hbd,rfl,rfl⟩)|((first|refine Adz (Ebz _ _ _ _ _ _ ?_ ?_ ?_) ?_|refine Abz (Ebz _ _ _ _ _ _ ?_ ?_ ?_) ⟨_,_,false,[],[],(fun h=>by cases h),⟨Nat.zero_le _,Nat.zero_le _,fun e he=>by cases he⟩,rfl,rfl⟩ ?_);(iterate 3 (exact sd));rintro _ _ ⟨ok,cs',es',hok,hbd,rfl,rfl⟩)|((first|refine Adz (Edz _ _ _ _ _ ?_ ?_ ?_) ?_|refine Abz (Edz _ _ _ _ _ ?_ ?_ ?_) ⟨_,_,false,[],[],(fun h=>by cases h),⟨Nat.zero_le _,Nat.zero_le _,fun e he=>by cases he⟩,rfl,rfl⟩ ?_);(iterate 3 (exact sd));rintro _ _ ⟨ok,cs',es',hok,hbd,rfl,rfl⟩)|((first|refine Adz (Aez (Bfz _ _ _ _ _ ?_ ?_ ?_)) ?_|refine Abz (Aez (Bfz _ _ _ _ _ ?_ ?_ ?_)) ⟨_,_,rfl,rfl⟩ ?_);(iterate 3 (exact sd));rintro _ _ ⟨rfl,rfl⟩))<;>(try simp (disch:=omega) only [push_cast,seval,hel,Aaz,IL]))
 | (refine Amz ⟨.inr rfl,[1408,1409],[],_,by decide,rfl,?_⟩;(try simp (disch:=omega) only [push_cast,seval,↓Aoz,↓Alz,↓List.map_cons,↓List.map_nil,hel,Aaz,IL]))))
    all_goals exact ⟨ok,cs',es',fun h=>⟨(hok h).1,fun hq=>by first|exact (hok h).2 trivial|(exact absurd hq (by decide))⟩,hbd,rfl,rfl⟩
  · exact absurd rfl h6
  · (repeat' (first
 | (first|refine Apz ?_|refine Aiz ?_)
 | ((first|refine Aqz ?_|refine Asz (mid:=l68r4a) (post:=l68r4b) Axz (by decide) ?_|refine Asz (mid:=l68r6a) (post:=l68r6b) Axz (by decide) ?_|refine Asz (mid:=l68r8a) (post:=l68r8b) Axz (by decide) ?_|refine Asz (mid:=l68r10a) (post:=l68r10b) Axz (by decide) ?_|refine Asz (mid:=l68r12a) (post:=l68r12b) Axz (by decide) ?_|refine Asz (mid:=l68r14a) (post:=l68r14b) Axz (by decide) ?_|refine Asz (mid:=l68r16a) (post:=l68r16b) Axz (by decide) ?_|refine Asz (mid:=l68r17a) (post:=l68r17b) Axz (by decide) ?_|refine Ahz ?_|refine Ajz ?_|refine Akz ?_);simp (disch:=omega) only [push_cast,seval,l68r0,l68r1,l68r2,l68r3,l68r4a,l68r4b,l68r4,l68r5,l68r6a,l68r6b,l68r6,l68r7,l68r8a,l68r8b,l68r8,l68r9,l68r10a,l68r10b,l68r10,l68r11,l68r12a,l68r12b,l68r12,l68r13,l68r14a,l68r14b,l68r14,l68r15,l68r16a,l68r16b,l68r16,l68r17a,l68r17b,l68r17,hel,Aaz,IL])
 | ((first|refine Acz ?_ ?_|refine Agz ?_ ?_|refine Afz ?_ ?_)<;>intro h<;>(try simp only [h])<;>(try simp only [bitvec_to_nat] at h)<;>(try simp only [h])<;>(first|(exfalso;omega)|(exfalso;simp_all;done)|(simp (disch:=omega) only [push_cast,seval,hel,Aaz,IL])|skip))
 | ((first|refine Arz false ?_|refine Anz false ?_);simp (disch:=omega) only [push_cast,seval,hel,Aaz,IL])
 | ((first|((first|refine Adz (Ecz _ _ _ _ _ ?_ ?_ ?_) ?_|refine Abz (Ecz _ _ _ _ _ ?_ ?_ ?_) ⟨_,_,false,[],[],(fun h=>by cases h),⟨Nat.zero_le _,Nat.zero_le _,fun e he=>by cases he⟩,rfl,rfl⟩ ?_);(iterate 3 (exact sd));rintro _ _ ⟨ok,cs',es',hok,hbd,rfl,rfl⟩)|((first|refine Adz (Efz _ _ _ _ _ _ _ ?_ ?_ ?_) ?_|refine Abz (Efz _ _ _ _ _ _ _ ?_ ?_ ?_) ⟨_,_,false,[],[],(fun h=>by cases h),⟨Nat.zero_le _,Nat.zero_le _,fun e he=>by cases he⟩,rfl,rfl⟩ ?_);(iterate 3 (exact sd));rintro _ _ ⟨ok,cs',es',hok,hbd,rfl,rfl⟩)|((first|refine Adz (Egz _ _ _ _ _ _ _ _ _ _ _ ?_ ?_ ?_) ?_|refine Abz (Egz _ _ _ _ _ _ _ _ _ _ _ ?_ ?_ ?_) ⟨_,_,false,[],[],(fun h=>by cases h),⟨Nat.zero_le _,Nat.zero_le _,fun e he=>by cases he⟩,rfl,rfl⟩ ?_);(iterate 3 (exact sd));rintro _ _ ⟨ok,cs',es',hok,hbd,rfl,rfl⟩)|((first|refine Adz (Eaz _ _ _ _ _ _ ?_ ?_ ?_) ?_|refine Abz (Eaz _ _ _ _ _ _ ?_ ?_ ?_) ⟨_,_,false,[],[],(fun h=>by cases h),⟨Nat.zero_le _,Nat.zero_le _,fun e he=>by cases he⟩,rfl,rfl⟩ ?_);(iterate 3 (exact sd));rintro _ _ ⟨ok,cs',es',hok,hbd,rfl,rfl⟩)|((first|refine Adz (Ebz _ _ _ _ _ _ ?_ ?_ ?_) ?_|refine Abz (Ebz _ _ _ _ _ _ ?_ ?_ ?_) ⟨_,_,false,[],[],(fun h=>by cases h),⟨Nat.zero_le _,Nat.zero_le _,fun e he=>by cases he⟩,rfl,rfl⟩ ?_);(iterate 3 (exact sd));rintro _ _ ⟨ok,cs',es',hok,hbd,rfl,rfl⟩)|((first|refine Adz (Edz _ _ _ _ _ ?_ ?_ ?_) ?_|refine Abz (Edz _ _ _ _ _ ?_ ?_ ?_) ⟨_,_,false,[],[],(fun h=>by cases h),⟨Nat.zero_le _,Nat.zero_le _,fun e he=>by cases he⟩,rfl,rfl⟩ ?_);(iterate 3 (exact sd));rintro _ _ ⟨ok,cs',es',hok,hbd,rfl,rfl⟩)|((first|refine Adz (Aez (Bfz _ _ _ _ _ ?_ ?_ ?_)) ?_|refine Abz (Aez (Bfz _ _ _ _ _ ?_ ?_ ?_)) ⟨_,_,rfl,rfl⟩ ?_);(iterate 3 (exact sd));rintro _ _ ⟨rfl,rfl⟩))<;>(try simp (disch:=omega) only [push_cast,seval,hel,Aaz,IL]))
 | (refine Amz ⟨.inr rfl,[1552,1553],[],_,by decide,rfl,?_⟩;(try simp (disch:=omega) only [push_cast,seval,↓Aoz,↓Alz,↓List.map_cons,↓List.map_nil,hel,Aaz,IL]))))
    all_goals exact ⟨ok,cs',es',fun h=>⟨(hok h).1,fun hq=>by first|exact (hok h).2 trivial|(exact absurd hq (by decide))⟩,hbd,rfl,rfl⟩


abbrev OBe (q:List Ex → Prop):AV → List (List AV) → Prop:=fun r H'=>(∃ cs' es',r=.tup [.agg [.own 0 cs'.length 1,.own 1 es'.length 5],.bool false] ∧ H'=[IL cs',EL true es']) ∨ ∃ cs' es',(vB cs' es'=true ∧ (cs'.length ≤ 60 ∧ es'.length ≤ 8 ∧ exB 4 es') ∧ q es') ∧ r=.tup [.agg [.own 0 cs'.length 1,.own 1 es'.length 5],.bool true] ∧ H'=[IL cs',EL true es']
theorem OBe_of {P:Program} {f:Nat} {args:List AV} {p:Prop} {q:List Ex → Prop} (h:BCall P f args [] (OBd p)) (hq:∀ es:List Ex,(p → 1 ≤ es.length) → q es):BCall P f args [] (OBe q):=h.mono fun r H'=>by
  rintro ⟨ok,cs',es',hok,hbd,h1,h2⟩
  cases ok with
  | false=>exact .inl ⟨cs',es',h1,h2⟩
  | true=>exact .inr ⟨cs',es',⟨(hok rfl).1,hbd,hq _ (hok rfl).2⟩,h1,h2⟩


theorem I0z (cs:List Int) (es:List Ex) (m n:Nat) (k:Int) (nums:List Int) (l:Nat) (hm:cs.length=m) (hn:es.length=n) (hl:nums.length=l) (hv:vB cs es=true) (hk:actK k nums) (h6:k=1 ∨ k=2 ∨ k=3) :
    BCall Tryd.prog 68 [.agg [.rows false (IL cs) m,.rows false (EL false es) n],.agg [.int .i64 k,.rows false (IL nums) l]] [] (OBe fun es=>1 ≤ es.length) :=
  OBe_of (done_ok cs es m n k nums l hm hn hl hv hk (by omega)) fun es h=>h h6
theorem Izz (cs:List Int) (es:List Ex) (m n:Nat) (k:Int) (nums:List Int) (l:Nat) (hm:cs.length=m) (hn:es.length=n) (hl:nums.length=l) (hv:vB cs es=true) (hk:actK k nums) (h6:¬ (k=1 ∨ k=2 ∨ k=3) ∧ k ≠ 6) :
    BCall Tryd.prog 68 [.agg [.rows false (IL cs) m,.rows false (EL false es) n],.agg [.int .i64 k,.rows false (IL nums) l]] [] (OBe fun _=>True) :=
  OBe_of (done_ok cs es m n k nums l hm hn hl hv hk h6.2) fun _ _=>trivial

end Go.Proofs.YtkpcjppnjmhanaaDoor
