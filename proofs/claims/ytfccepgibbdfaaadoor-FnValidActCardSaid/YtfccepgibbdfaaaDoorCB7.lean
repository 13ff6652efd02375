/- Texts of this verifier. -/
import Derived.Test.YtfccepgibbdfaaaDoorCB6
import Derived.Test.YtfccepgibbdfaaaDoorCM1
set_option maxHeartbeats 4000000
set_option linter.unusedSimpArgs false
set_option linter.unusedSectionVars false
set_option linter.unusedVariables false
set_option maxRecDepth 4000
namespace Go.Proofs.YtfccepgibbdfaaaDoor
open VwM Vw Go
variable [PowA]

theorem Ebz {cs:List Int} {es:List Ex}:vB cs es=true ↔ vMem cs=true ∧ es.length ≤ 8 ∧ ∀ i e,es[i]?=some e → sxV cs.length es i e=true:=by
  unfold vB
  simp only [Bool.and_eq_true,decide_eq_true_eq,Eaz]
  constructor
  · rintro ⟨⟨h1,h2⟩,h3⟩
    exact ⟨h1,h2,fun i e he=>h3 i e (List.getElem?_eq_some_iff.1 he).1 he⟩
  · rintro ⟨h1,h2,h3⟩
    exact ⟨⟨h1,h2⟩,fun i e _ he=>h3 i e he⟩
theorem Cvz {m:Int} {es:List Ex} {i:Nat} {e:Ex}:sxV m es i e=true ↔ ((-1 ≤ e.1 ∧ e.1 ≤ (i:Int) - 1) ∧ vV e.2.1.1 e.2.1.2.1 e.2.1.2.2=true) ∧ (e.2.2=true → allI (offs e.2.1.1 e.2.1.2.1 e.2.1.2.2) 0 (m - 1)=true ∧ (e.1 < 0 ∨ opE es e.1=true)):=by
  unfold sxV exV
  simp only [Bool.and_eq_true,Bool.or_eq_true,Bool.not_eq_true',decide_eq_true_eq]
  cases e.2.2<;>simp [and_assoc]
theorem vB_cells {cs cs':List Int} {es:List Ex} (h:vB cs es=true) (hl:cs'.length=cs.length) (hm:vMem cs'=true):vB cs' es=true:=by
  rw [Ebz] at h ⊢
  rw [hl]
  exact ⟨hm,h.2⟩
theorem vB_size {cs cs':List Int} {es:List Ex} (h:vB cs es=true) (ho:opensT es es.length=[]) (hm:vMem cs'=true):vB cs' es=true:=by
  rw [Ebz] at h ⊢
  refine ⟨hm,h.2.1,fun i e he=>?_⟩
  have h1:=Cvz.1 (h.2.2 i e he)
  have h2:=D0z.1 ho i e (List.getElem?_eq_some_iff.1 he).1 he
  exact Cvz.2 ⟨h1.1,fun h3=>absurd h3 h2⟩
theorem vB_rel {cs:List Int} {es:List Ex} {q:Nat} (h:vB cs es=true) (hk:kidsT es (q:Int) es.length=[]):vB cs (relE es q)=true:=by
  cases he:es[q]? with
  | none=>simp only [relE,he];exact h
  | some f =>
    rw [Ebz] at h ⊢
    have hq:q < es.length:=(List.getElem?_eq_some_iff.1 he).1
    rw [relE_at he]
    refine ⟨h.1,by simpa using h.2.1,fun i e hi=>?_⟩
    rw [List.getElem?_set] at hi
    by_cases e1:q=i
    · subst e1
      rw [if_pos rfl,if_pos hq] at hi
      injection hi with hi
      subst hi
      have h1:=Cvz.1 (h.2.2 q f he)
      exact Cvz.2 ⟨h1.1,fun h3=>by cases h3⟩
    · rw [if_neg e1] at hi
      have h1:=Cvz.1 (h.2.2 i e hi)
      refine Cvz.2 ⟨h1.1,fun h3=>⟨(h1.2 h3).1,?_⟩⟩
      rcases (h1.2 h3).2 with h4|h4
      · exact .inl h4
      · by_cases h5:e.1 < 0
        · exact .inl h5
        · refine .inr ?_
          have hne:q ≠ e.1.toNat:=fun e2=>by
            have:=F1z.1 hk i e (List.getElem?_eq_some_iff.1 hi).1 hi
            exact this ⟨h3,by omega⟩
          unfold opE at h4 ⊢
          rw [List.getElem?_set,if_neg hne]
          exact h4
theorem vB_add {cs:List Int} {es:List Ex} {p b:Int} {x y:List Int} (h:vB cs es=true) (h8:es.length ≠ 8) (hv:vV b x y=true) (hf:allI (offs b x y) 0 ((cs.length:Int) - 1)=true) (hp:p=-1 ∨ (0 ≤ p ∧ p < es.length ∧ opE es p=true)):vB cs (es ++ [(p,(b,x,y),true)])=true:=by
  rw [Ebz] at h ⊢
  refine ⟨h.1,by rw [List.length_append,List.length_singleton];omega,fun i e hi=>?_⟩
  have hop:∀ r:Int,0 ≤ r → r < es.length → opE es r=true → opE (es ++ [(p,(b,x,y),true)]) r=true:=fun r h1 h2 h3=>by
    unfold opE at h3 ⊢
    rw [List.getElem?_append_left (by omega)]
    exact h3
  by_cases hl:i < es.length
  · rw [List.getElem?_append_left hl] at hi
    have h1:=Cvz.1 (h.2.2 i e hi)
    refine Cvz.2 ⟨h1.1,fun h3=>⟨(h1.2 h3).1,?_⟩⟩
    rcases (h1.2 h3).2 with h4|h4
    · exact .inl h4
    · by_cases h5:e.1 < 0
      · exact .inl h5
      · exact .inr (hop e.1 (by omega) (by omega) h4)
  · rw [List.getElem?_append_right (by omega)] at hi
    have hil:i=es.length:=by
      have:=(List.getElem?_eq_some_iff.1 hi).1
      simp at this
      omega
    subst hil
    rw [Nat.sub_self] at hi
    injection hi with hi
    subst hi
    refine Cvz.2 ⟨⟨?_,hv⟩,fun _=>⟨hf,?_⟩⟩
    · simp only
      rcases hp with h1|h1<;>omega
    · rcases hp with h1|h1
      · exact .inl (by simp only;omega)
      · exact .inr (hop p h1.1 h1.2.1 h1.2.2)
theorem cut_sub {b:Int} {sh st:List Int} {j:Nat} {f t w:Int} {hf ht:Bool} (hv:vV b sh st=true) (hj:j < sh.length) (hs:vS f t w hf ht=true) {x:Int} (hx:x ∈ offs (cutB b sh st j f t w hf ht) (cutSh sh j f t w hf ht) (cutSt sh st j f t w hf ht)):x ∈ offs b sh st:=by
  have hg:=(Cez (B3z.1 hv).1).1
  have hg2:=(Cez (B3z.1 (vV_cut hv hj hs)).1).1
  by_cases hz:pr (cutSh sh j f t w hf ht)=0
  · have:=List.length_pos_of_mem hx
    rw [Bkz,hz] at this
    exact absurd this (by decide)
  · rw [Dez hg2] at hx
    rw [Dez hg]
    obtain ⟨g,h1,h2⟩:=hx
    refine ⟨cutIx sh j f w hf g,cutIx_ix hv hj hs h1,?_⟩
    rw [← cut_dot hv hj hs hz h1]
    rw [Bqz] at h2
    exact h2
theorem sdOk_facts {b:Int} {sh st:List Int} {d f t w:Int} {hf ht:Bool} (h:sdOk b sh st d f t w hf ht=true):vV b sh st=true ∧ d.toNat < sh.length ∧ vS f t w hf ht=true ∧ vV (cutB b sh st d.toNat f t w hf ht) (cutSh sh d.toNat f t w hf ht) (cutSt sh st d.toNat f t w hf ht)=true:=by
  unfold sdOk at h
  simp only [Bool.and_eq_true,decide_eq_true_eq] at h
  exact ⟨h.1.1.1,by omega,h.1.2,h.2⟩
theorem vB_ep {cs:List Int} {es:List Ex} {id d f t w:Int} {hf ht:Bool} (h:epG cs es id d f t w hf ht=true):vB cs (epE es id d f t w hf ht)=true:=by
  unfold epG at h
  simp only [Bool.and_eq_true,Bool.not_eq_true',decide_eq_false_iff_not] at h
  obtain ⟨⟨⟨hv,hr⟩,h8⟩,ho⟩:=h
  obtain ⟨q,p,b,x,y,rfl,hq,he,hvw⟩:=Foz hr
  unfold epO at ho
  unfold epE epV
  rw [hvw] at ho ⊢
  simp only at ho ⊢
  obtain ⟨g1,g2,g3,g4⟩:=sdOk_facts ho
  have hs:=vB_see hv he
  unfold seeB at hs
  simp only [Bool.and_eq_true] at hs
  refine vB_add hv h8 g4 ?_ (.inr ⟨by omega,by omega,?_⟩)
  · rw [B8z] at hs ⊢
    exact fun z hz=>hs.2 z (cut_sub g1 g2 g3 hz)
  · unfold opE
    rw [Int.toNat_natCast,he]
theorem vB_ev {cs:List Int} {es:List Ex} {b:Int} {x y:List Int} (h:evG cs es b x y=true):vB cs (es ++ [(-1,(b,x,y),true)])=true:=by
  unfold evG at h
  simp only [Bool.and_eq_true,Bool.not_eq_true',decide_eq_false_iff_not] at h
  obtain ⟨⟨hv,hf⟩,h8⟩:=h
  unfold fitB at hf
  simp only [Bool.and_eq_true] at hf
  exact vB_add hv h8 hf.1.1 hf.2 (.inl rfl)
theorem vB_relG {cs:List Int} {es:List Ex} {id:Int} (h:relG cs es id=true):vB cs (relE es id.toNat)=true:=by
  unfold relG at h
  simp only [Bool.and_eq_true,decide_eq_true_eq,List.length_eq_zero_iff] at h
  obtain ⟨q,_,_,_,_,rfl,_⟩:=Foz h.1.2
  rw [Int.toNat_natCast]
  exact vB_rel h.1.1 h.2
theorem getD_rng {mem:List Int} (hm:∀ x ∈ mem,0 ≤ x ∧ x ≤ 255) (j:Nat):0 ≤ mem.getD j 0 ∧ mem.getD j 0 ≤ 255:=by
  by_cases hl:j < mem.length
  · exact hm _ (Cuz hl)
  · rw [List.getD,List.getElem?_eq_none (Nat.le_of_not_lt hl)];simp
theorem putK_rng {mem cells vals:List Int} (hm:∀ x ∈ mem,0 ≤ x ∧ x ≤ 255) (hv:∀ j,0 ≤ vals.getD j 0 ∧ vals.getD j 0 ≤ 255):∀ k,∀ x ∈ putK mem cells vals k,0 ≤ x ∧ x ≤ 255
  | 0,x,hx=>hm x hx
  | k + 1,x,hx=>by
    simp only [putK] at hx
    rcases List.mem_or_eq_of_mem_set hx with h1|h1
    · exact putK_rng hm hv k x h1
    · subst h1;exact hv k
theorem vMem_put {cs:List Int} (h:vMem cs=true) (os vs:List Int) (hvs:∀ x ∈ vs,0 ≤ x ∧ x ≤ 255):vMem (putL cs os vs)=true:=by
  rw [Chz] at h ⊢
  exact ⟨by rw [Cnz];exact h.1,putK_rng h.2 (getD_rng hvs) _⟩

end Go.Proofs.YtfccepgibbdfaaaDoor
namespace Go.Proofs.YtfccepgibbdfaaaDoor
open VwM Vw Go
variable [PowA]

theorem Bvz (n:Int) (hn:0 ≤ n ∧ n < 10):PCall Tryd.prog 28 [.int .i64 n] (fun r=>∃ s:ByteArray,s.size ≤ 5 ∧ r=.str s):=by
  refine A1z l28_eq rfl ?_
  have h1:(n < 0)=False:=eq_false (by omega)
  have h2:n < 10:=by omega
  have hs:∀ (σ:List (Nat × AV)),lk σ 19=.int .i64 n → lk σ 21=.int .i64 (n + 1) → arun (mkS σ []) 0 22 (.sliceS (.const (.string { data:={ toList:=[48,49,50,51,52,53,54,55,56,57] } })) (some (.tmp 19)) (some (.tmp 21)))=some (.str (ByteArray.extract { data:={ toList:=[48,49,50,51,52,53,54,55,56,57] } } n.toNat (n + 1).toNat),none):=fun σ e1 e2 =>
    arun_sliceS2 rfl e1 e2 ⟨by omega,by show n + 1 ≤ 10;omega⟩
  (repeat' (first
 | (first|refine Ahz ?_|refine Abz ?_)
 | ((first|refine Aiz ?_|refine Afz ?_|refine Aoz ?_);simp (disch:=omega) only [push_cast,seval,l28r0,l28r1,l28r2,l28r3,l28r4,l28r5,l28r6,l28r7,h1,h2,decide_false])
 | (refine Adz ⟨.inr rfl,_,rfl,?_⟩;(try simp (disch:=omega) only [push_cast,seval,h1,h2,decide_false]))))
  rw [hs _ rfl rfl]
  simp (disch:=omega) only [push_cast,seval]
  (repeat' (first
 | (first|refine Ahz ?_|refine Abz ?_)
 | (refine Adz ⟨.inr rfl,_,rfl,?_⟩;(try simp (disch:=omega) only [push_cast,seval,h1,h2,decide_false]))))
  exact ⟨_,by rw [ByteArray.size_extract];omega,rfl⟩


theorem Fez (n:Int) (hn:0 ≤ n ∧ n < 100):PCall Tryd.prog 28 [.int .i64 n] (fun r=>∃ s:ByteArray,s.size ≤ 10 ∧ r=.str s):=by
  by_cases h:n < 10
  · exact (Bvz n ⟨hn.1,h⟩).mono fun r ⟨s,h1,h2⟩=>⟨s,by omega,h2⟩
  refine A1z l28_eq rfl ?_
  have h1:(n < 0)=False:=eq_false (by omega)
  have h2:¬ n < 10:=by omega
  have q1:0 ≤ n.tdiv 10 ∧ n.tdiv 10 < 10:=by rw [Int.tdiv_eq_ediv_of_nonneg hn.1];omega
  have q2:=Clz hn.1 (n:=10) (by omega)
  (repeat' (first
 | (first|refine Ahz ?_|refine Abz ?_)
 | ((first|refine Aiz ?_|refine Afz ?_|refine Aoz ?_);simp (disch:=omega) only [push_cast,seval,l28r0,l28r1,l28r2,l28r3,l28r4,l28r5,l28r6,l28r7,h1,h2,decide_false])
 | ((first|refine Alz false ?_);simp (disch:=omega) only [push_cast,seval,h1,h2,decide_false])
 | ((first|((first|refine Akz (Ajz (Bvz _ ?_)) ?_|refine Agz (Ajz (Bvz _ ?_)) ⟨.str ByteArray.empty,[],⟨ByteArray.empty,Nat.zero_le _,rfl⟩,rfl⟩ ?_);(exact sd);rintro _ _ ⟨⟨sn,hsn,rfl⟩,rfl⟩))<;>(try simp (disch:=omega) only [push_cast,seval,h1,h2,decide_false]))
 | (refine Adz ⟨.inr rfl,_,rfl,?_⟩;(try simp (disch:=omega) only [push_cast,seval,h1,h2,decide_false]))))
  exact ⟨_,by rw [ByteArray.size_append];omega,rfl⟩


theorem Hqz (n:Int) (hn:0 ≤ n ∧ n < 1000):PCall Tryd.prog 28 [.int .i64 n] (fun r=>∃ s:ByteArray,s.size ≤ 20 ∧ r=.str s):=by
  by_cases h:n < 100
  · exact (Fez n ⟨hn.1,h⟩).mono fun r ⟨s,h1,h2⟩=>⟨s,by omega,h2⟩
  refine A1z l28_eq rfl ?_
  have h1:(n < 0)=False:=eq_false (by omega)
  have h2:¬ n < 10:=by omega
  have q1:0 ≤ n.tdiv 10 ∧ n.tdiv 10 < 100:=by rw [Int.tdiv_eq_ediv_of_nonneg hn.1];omega
  have q2:=Clz hn.1 (n:=10) (by omega)
  (repeat' (first
 | (first|refine Ahz ?_|refine Abz ?_)
 | ((first|refine Aiz ?_|refine Afz ?_|refine Aoz ?_);simp (disch:=omega) only [push_cast,seval,l28r0,l28r1,l28r2,l28r3,l28r4,l28r5,l28r6,l28r7,h1,h2,decide_false])
 | ((first|refine Alz false ?_);simp (disch:=omega) only [push_cast,seval,h1,h2,decide_false])
 | ((first|((first|refine Akz (Ajz (Bvz _ ?_)) ?_|refine Agz (Ajz (Bvz _ ?_)) ⟨.str ByteArray.empty,[],⟨ByteArray.empty,Nat.zero_le _,rfl⟩,rfl⟩ ?_);(exact sd);rintro _ _ ⟨⟨sn,hsn,rfl⟩,rfl⟩)|((first|refine Akz (Ajz (Fez _ ?_)) ?_|refine Agz (Ajz (Fez _ ?_)) ⟨.str ByteArray.empty,[],⟨ByteArray.empty,Nat.zero_le _,rfl⟩,rfl⟩ ?_);(exact sd);rintro _ _ ⟨⟨sn,hsn,rfl⟩,rfl⟩))<;>(try simp (disch:=omega) only [push_cast,seval,h1,h2,decide_false]))
 | (refine Adz ⟨.inr rfl,_,rfl,?_⟩;(try simp (disch:=omega) only [push_cast,seval,h1,h2,decide_false]))))
  exact ⟨_,by rw [ByteArray.size_append];omega,rfl⟩


set_option maxHeartbeats 8000000 in
theorem numT_ok (xs:List Int) (n:Nat) (hn:xs.length=n) (hb:n ≤ 100 ∧ ∀ x ∈ xs,0 ≤ x ∧ x < 1000):PCall Tryd.prog 16 [.rows false (IL xs) n] (fun r=>∃ s:ByteArray,s.size ≤ 3000 ∧ r=.str s):=by
  subst hn
  obtain ⟨hb1,hb2⟩:=hb
  refine A1z l16_eq rfl ?_
  (repeat' (first
 | (first|refine Ahz ?_|refine Abz ?_)
 | ((first|refine Aiz ?_);simp (disch:=omega) only [push_cast,seval,l16r0,l16r1,l16r2,l16r3,l16r4,l16r5,l16r6])
 | (refine Adz ⟨.inr rfl,_,rfl,?_⟩;(try simp (disch:=omega) only [push_cast,seval]))))
  refine Bez (fun x:Nat × ByteArray=>mkS [(0,.rows false (IL xs) xs.length),(3,.str x.2),(4,.int .i64 x.1)] []) (fun x=>x.1 ≤ xs.length ∧ x.2.size ≤ x.1 * 25) (fun x=>xs.length - x.1) (0,{ data:={ toList:=[] } }) ⟨Nat.zero_le _,by simp [bsz]⟩ ?_ ?_
  · (refine Sub.of_lists ?_ ?_ ?_ ?_ ?_<;>simp [Vw.mkS,Vw.lk,Vw.hk,AV.inn,innL,Arz,Anz,Asz,-List.map_set,-List.getD_eq_getElem?_getD])
  · rintro ⟨i,t⟩ ⟨hi,ht⟩
    simp only at hi ht ⊢
    by_cases hlt:i < xs.length
    · have hx:=hb2 _ (Cuz hlt)
      have h32:({ data:={ toList:=[32] } }:ByteArray).size=1:=rfl
      have ht2:(t ++ ({ data:={ toList:=[32] } }:ByteArray)).size=t.size + 1:=by rw [ByteArray.size_append];rfl
      have hadd:=abin_addS t { data:={ toList:=[32] } } (by rw [h32];omega)
      (repeat' (first
 | (first|refine Ahz ?_|refine Abz ?_)
 | ((first|refine Aiz ?_|refine Afz ?_|refine Aoz ?_);simp (disch:=omega) only [push_cast,seval,l16r0,l16r1,l16r2,l16r3,l16r4,l16r5,l16r6,hlt,hadd])
 | ((first|refine Amz (fun h=>?_) (fun h=>?_))<;>(try simp only [h])<;>(try simp only [bitvec_to_nat] at h)<;>(try simp only [h])<;>(first|(exfalso;omega)|(exfalso;simp_all;done)|(simp (disch:=omega) only [push_cast,seval,hlt,hadd])|skip))
 | ((first|refine Alz false ?_);simp (disch:=omega) only [push_cast,seval,hlt,hadd])
 | ((first|((first|refine Akz (Ajz (Hqz _ ?_)) ?_|refine Agz (Ajz (Hqz _ ?_)) ⟨.str ByteArray.empty,[],⟨ByteArray.empty,Nat.zero_le _,rfl⟩,rfl⟩ ?_);(exact sd);rintro _ _ ⟨⟨sn,hsn,rfl⟩,rfl⟩))<;>(try simp (disch:=omega) only [push_cast,seval,hlt,hadd]))
 | (refine Adz ⟨.inr rfl,_,rfl,?_⟩;(try simp (disch:=omega) only [push_cast,seval,hlt,hadd]))))
      refine ⟨(i + 1,t ++ { data:={ toList:=[32] } } ++ sn),⟨by simp only;omega,by simp only [ByteArray.size_append,h32];omega⟩,by simp only;omega,?_⟩
      (refine Sub.of_lists ?_ ?_ ?_ ?_ ?_<;>simp [Vw.mkS,Vw.lk,Vw.hk,AV.inn,innL,Arz,Anz,Asz,-List.map_set,-List.getD_eq_getElem?_getD])
    · have e:i=xs.length:=by omega
      subst e
      (repeat' (first
 | (first|refine Ahz ?_|refine Abz ?_)
 | ((first|refine Aiz ?_|refine Afz ?_|refine A7z ?_);simp (disch:=omega) only [push_cast,seval,l16r0,l16r1,l16r2,l16r3,l16r4,l16r5,l16r6])
 | ((first|refine Amz (fun h=>?_) (fun h=>?_))<;>(try simp only [h])<;>(try simp only [bitvec_to_nat] at h)<;>(try simp only [h])<;>(first|(exfalso;omega)|(exfalso;simp_all;done)|(simp (disch:=omega) only [push_cast,seval])|skip))
 | (refine Adz ⟨.inr rfl,_,rfl,?_⟩;(try simp (disch:=omega) only [push_cast,seval]))))
      exact ⟨_,by omega,rfl⟩

end Go.Proofs.YtfccepgibbdfaaaDoor
namespace Go.Proofs.YtfccepgibbdfaaaDoor
open VwM Vw Go
variable [PowA]

theorem Hez {cs:List Int} {es:List Ex} (h:vB cs es=true):cs.length ≤ 60 ∧ es.length ≤ 8 ∧ exB 4 es:=by
  obtain ⟨h1,h2,_⟩:=vB_8 h
  refine ⟨h2,h1,fun e he=>?_⟩
  obtain ⟨i,hi,e1⟩:=List.mem_iff_getElem.1 he
  have hs:=Cvz.1 ((Ebz.1 h).2.2 i e (by rw [List.getElem?_eq_getElem hi,e1]))
  have hv:=hs.1.2
  have hg:=(Cez (B3z.1 hv).1).1.2
  have hl:=(Cqz hv).2
  exact ⟨hg,by omega⟩
theorem vB_x {cs:List Int} {es:List Ex} (h:vB cs es=true):cs.length ≤ 1099511627776 ∧ es.length ≤ 1099511627776 ∧ exB 1099511627776 es:=by
  obtain ⟨h1,h2,h3⟩:=Hez h
  exact ⟨by omega,by omega,fun e he=>by have:=h3 e he;omega⟩
theorem zz_rng {cs:List Int} {N:Nat} (h:∀ x ∈ cs,0 ≤ x ∧ x ≤ 255):∀ x ∈ zz cs N,0 ≤ x ∧ x ≤ 255:=fun x hx=>by
  unfold zz at hx
  obtain ⟨j,_,rfl⟩:=List.mem_map.1 hx
  exact getD_rng h j
theorem vB_rz {cs:List Int} {es:List Ex} {s:Int} (h:rzG cs es s=true):vB (zz cs s.toNat) es=true:=by
  unfold rzG at h
  simp only [Bool.and_eq_true,decide_eq_true_eq,List.length_eq_zero_iff] at h
  refine vB_size h.1.1 h.2 (Chz.2 ⟨by rw [zz_length];omega,zz_rng (Chz.1 (Ebz.1 h.1.1).1).2⟩)
theorem rpt_rng {x:Int} {n:Nat} (h:0 ≤ x ∧ x ≤ 255):∀ y ∈ rpt [x] n,0 ≤ y ∧ y ≤ 255:=fun y hy=>by
  rw [rpt_one] at hy
  rw [(List.mem_replicate.1 hy).2]
  exact h
theorem vB_xf {cs:List Int} {es:List Ex} {id v:Int} (h:xfG cs es id v=true):vB (xfC cs es id v) es=true:=by
  unfold xfG at h
  simp only [Bool.and_eq_true,decide_eq_true_eq] at h
  exact vB_cells h.1.1 (Gxz ..) (vMem_put (Ebz.1 h.1.1).1 _ _ (rpt_rng h.2))
theorem vB_xc {cs:List Int} {es:List Ex} {t f:Int} (h:xcG cs es t f=true):vB (xcC cs es t f) es=true:=by
  unfold xcG at h
  simp only [Bool.and_eq_true] at h
  have hm:=(Ebz.1 h.1.1.1).1
  exact vB_cells h.1.1.1 (Cnz ..) (vMem_put hm _ _ (F6z (Chz.1 hm).2))
abbrev OBd (q:Prop):AV → List (List AV) → Prop:=fun r H'=>∃ ok cs' es',(ok=true → vB cs' es'=true ∧ (q → 1 ≤ es'.length)) ∧ (cs'.length ≤ 60 ∧ es'.length ≤ 8 ∧ exB 4 es') ∧ r=.tup [.agg [.own 0 cs'.length 1,.own 1 es'.length 5],.bool ok] ∧ H'=[IL cs',EL true es']
theorem H2z {q:Prop} {P:Program} {f:Nat} {args:List AV} {G:Bool} {C:List Int} {E:List Ex} (hc:BCall P f args [] (OBs G (ifB G C) (ifB G E))) (h:G=true → vB C E=true ∧ (q → 1 ≤ E.length)):BCall P f args [] (OBd q):=hc.mono fun r H' h1=>by
  refine ⟨G,ifB G C,ifB G E,fun hg=>?_,?_,h1.1,h1.2⟩
  · subst hg;exact h rfl
  · cases hG:G with
    | false=>exact ⟨Nat.zero_le _,Nat.zero_le _,fun e he=>by cases he⟩
    | true=>exact Hez (h hG).1
/-- The numbers that an act has. -/
def actK (k:Int) (nums:List Int):Prop:=(k=0 ∧ ∃ a,nums=[a]) ∨ (k=1 ∧ ∃ a e s,nums=[a,e,s]) ∨ (k=2 ∧ ∃ a b c d,nums=[a,b,c,d]) ∨ (k=3 ∧ ∃ a,nums=[a]) ∨ (k=4 ∧ ∃ a v,nums=[a,v]) ∨ (k=5 ∧ ∃ a b,nums=[a,b]) ∨ (k=6 ∧ ∃ a,nums=[a]) ∨ (k=7 ∧ ∃ a,nums=[a])


theorem rzD_ok (cs:List Int) (es:List Ex) (m n:Nat) (s:Int) (hm:cs.length=m) (hn:es.length=n) (hv:vB cs es=true) :
    BCall Tryd.prog 41 [.agg [.rows false (IL cs) m,.rows false (EL false es) n],.int .i64 s] [] (OBd False):=by
  subst hm hn
  exact H2z (sRz_ok cs es _ _ s rfl rfl (vB_x hv)) fun h=>⟨vB_rz h,fun h=>h.elim⟩


theorem evD_ok (cs:List Int) (es:List Ex) (m n:Nat) (b e s:Int) (hm:cs.length=m) (hn:es.length=n) (hv:vB cs es=true) :
    BCall Tryd.prog 42 [.agg [.rows false (IL cs) m,.rows false (EL false es) n],.agg [.int .i64 b,.rows false [.int .i64 e] 1,.rows false [.int .i64 s] 1]] [] (OBd True):=by
  subst hm hn
  exact H2z (sEV_ok cs es _ _ b [e] [s] 1 1 rfl rfl rfl rfl ⟨⟨by decide,by decide⟩,vB_x hv⟩) fun h=>⟨vB_ev h,fun _=>by simp⟩


theorem epD_ok (cs:List Int) (es:List Ex) (m n:Nat) (id d f t w:Int) (hf ht:Bool) (hm:cs.length=m) (hn:es.length=n) (hv:vB cs es=true) :
    BCall Tryd.prog 43 [.agg [.rows false (IL cs) m,.rows false (EL false es) n],.int .i64 id,.int .i64 d,slc f t w hf ht] [] (OBd True):=by
  subst hm hn
  exact H2z (sEP_ok cs es _ _ id d f t w hf ht rfl rfl (vB_x hv)) fun h=>⟨vB_ep h,fun _=>by unfold epE;simp⟩


theorem xfD_ok (cs:List Int) (es:List Ex) (m n:Nat) (id v:Int) (hm:cs.length=m) (hn:es.length=n) (hv:vB cs es=true) :
    BCall Tryd.prog 44 [.agg [.rows false (IL cs) m,.rows false (EL false es) n],.int .i64 id,.int .i64 v] [] (OBd False):=by
  subst hm hn
  exact H2z (sFE_ok cs es _ _ id v rfl rfl (vB_x hv)) fun h=>⟨vB_xf h,fun h=>h.elim⟩


theorem xcD_ok (cs:List Int) (es:List Ex) (m n:Nat) (t f:Int) (hm:cs.length=m) (hn:es.length=n) (hv:vB cs es=true) :
    BCall Tryd.prog 45 [.agg [.rows false (IL cs) m,.rows false (EL false es) n],.int .i64 t,.int .i64 f] [] (OBd False):=by
  subst hm hn
  exact H2z (sCE_ok cs es _ _ t f rfl rfl (vB_x hv)) fun h=>⟨vB_xc h,fun h=>h.elim⟩


theorem rlD_ok (cs:List Int) (es:List Ex) (m n:Nat) (id:Int) (hm:cs.length=m) (hn:es.length=n) (hv:vB cs es=true) :
    BCall Tryd.prog 46 [.agg [.rows false (IL cs) m,.rows false (EL false es) n],.int .i64 id] [] (OBd False):=by
  subst hm hn
  exact H2z (sRel_ok cs es _ _ id rfl rfl (vB_x hv)) fun h=>⟨vB_relG h,fun h=>h.elim⟩


set_option maxHeartbeats 16000000 in
theorem done_ok (cs:List Int) (es:List Ex) (m n:Nat) (k:Int) (nums:List Int) (l:Nat) (hm:cs.length=m) (hn:es.length=n) (hl:nums.length=l) (hv:vB cs es=true) (hk:actK k nums) (h6:k ≠ 6) :
    BCall Tryd.prog 37 [.agg [.rows false (IL cs) m,.rows false (EL false es) n],.agg [.int .i64 k,.rows false (IL nums) l]] [] (OBd (k=1 ∨ k=2 ∨ k=3)):=by
  subst hm hn hl
  have hel:=A0z false es
  refine Axz (pins:=[]) (pin:=0) l37_eq rfl rfl rfl ?_
  rcases hk with ⟨rfl,a,rfl⟩|⟨rfl,a,e,s,rfl⟩|⟨rfl,a,b,c,d,rfl⟩|⟨rfl,a,rfl⟩|⟨rfl,a,v,rfl⟩|⟨rfl,a,b,rfl⟩|⟨rfl,a,rfl⟩|⟨rfl,a,rfl⟩
  · (repeat' (first
 | (first|refine Ahz ?_|refine Abz ?_)
 | ((first|refine Aiz ?_|refine Avz (mid:=l37r4a) (post:=l37r4b) Baz (by decide) ?_|refine Afz ?_);simp (disch:=omega) only [push_cast,seval,l37r0,l37r1,l37r2,l37r3,l37r4a,l37r4b,l37r4,l37r5,l37r6a,l37r6b,l37r6,l37r7,l37r8a,l37r8b,l37r8,l37r9,l37r10a,l37r10b,l37r10,l37r11,l37r12a,l37r12b,l37r12,l37r13,l37r14a,l37r14b,l37r14,l37r15,l37r16a,l37r16b,l37r16,l37r17a,l37r17b,l37r17,hel,Aaz,IL])
 | ((first|refine Atz false ?_);simp (disch:=omega) only [push_cast,seval,hel,Aaz,IL])
 | ((first|((first|refine Akz (rzD_ok _ _ _ _ _ ?_ ?_ ?_) ?_|refine Agz (rzD_ok _ _ _ _ _ ?_ ?_ ?_) ⟨_,_,false,[],[],(fun h=>by cases h),⟨Nat.zero_le _,Nat.zero_le _,fun e he=>by cases he⟩,rfl,rfl⟩ ?_);(iterate 3 (exact sd));rintro _ _ ⟨ok,cs',es',hok,hbd,rfl,rfl⟩))<;>(try simp (disch:=omega) only [push_cast,seval,hel,Aaz,IL]))
 | (refine Adz ⟨.inr rfl,[272,273],[],_,by decide,rfl,?_⟩;(try simp (disch:=omega) only [push_cast,seval,↓Aez,↓Acz,↓List.map_cons,↓List.map_nil,hel,Aaz,IL]))))
    all_goals exact ⟨ok,cs',es',fun h=>⟨(hok h).1,fun hq=>by first|exact (hok h).2 trivial|(exact absurd hq (by decide))⟩,hbd,rfl,rfl⟩
  · (repeat' (first
 | (first|refine Ahz ?_|refine Abz ?_)
 | ((first|refine Aiz ?_|refine B7z (mid:=l37r6a) (post:=l37r6b) [] Baz (by decide) ?_|refine Afz ?_);simp (disch:=omega) only [push_cast,seval,l37r0,l37r1,l37r2,l37r3,l37r4a,l37r4b,l37r4,l37r5,l37r6a,l37r6b,l37r6,l37r7,l37r8a,l37r8b,l37r8,l37r9,l37r10a,l37r10b,l37r10,l37r11,l37r12a,l37r12b,l37r12,l37r13,l37r14a,l37r14b,l37r14,l37r15,l37r16a,l37r16b,l37r16,l37r17a,l37r17b,l37r17,hel,Aaz,IL])
 | ((first|refine Atz false ?_);simp (disch:=omega) only [push_cast,seval,hel,Aaz,IL])
 | ((first|((first|refine Akz (evD_ok _ _ _ _ _ _ _ ?_ ?_ ?_) ?_|refine Agz (evD_ok _ _ _ _ _ _ _ ?_ ?_ ?_) ⟨_,_,false,[],[],(fun h=>by cases h),⟨Nat.zero_le _,Nat.zero_le _,fun e he=>by cases he⟩,rfl,rfl⟩ ?_);(iterate 3 (exact sd));rintro _ _ ⟨ok,cs',es',hok,hbd,rfl,rfl⟩))<;>(try simp (disch:=omega) only [push_cast,seval,hel,Aaz,IL]))
 | (refine Adz ⟨.inr rfl,[560,561],[],_,by decide,rfl,?_⟩;(try simp (disch:=omega) only [push_cast,seval,↓Aez,↓Acz,↓List.map_cons,↓List.map_nil,hel,Aaz,IL]))))
    all_goals exact ⟨ok,cs',es',fun h=>⟨(hok h).1,fun hq=>by first|exact (hok h).2 trivial|(exact absurd hq (by decide))⟩,hbd,rfl,rfl⟩
  · (repeat' (first
 | (first|refine Ahz ?_|refine Abz ?_)
 | ((first|refine Aiz ?_|refine Avz (mid:=l37r8a) (post:=l37r8b) Baz (by decide) ?_|refine Afz ?_);simp (disch:=omega) only [push_cast,seval,l37r0,l37r1,l37r2,l37r3,l37r4a,l37r4b,l37r4,l37r5,l37r6a,l37r6b,l37r6,l37r7,l37r8a,l37r8b,l37r8,l37r9,l37r10a,l37r10b,l37r10,l37r11,l37r12a,l37r12b,l37r12,l37r13,l37r14a,l37r14b,l37r14,l37r15,l37r16a,l37r16b,l37r16,l37r17a,l37r17b,l37r17,hel,Aaz,IL])
 | ((first|refine Atz false ?_);simp (disch:=omega) only [push_cast,seval,hel,Aaz,IL])
 | ((first|((first|refine Akz (epD_ok _ _ _ _ _ _ _ _ _ _ _ ?_ ?_ ?_) ?_|refine Agz (epD_ok _ _ _ _ _ _ _ _ _ _ _ ?_ ?_ ?_) ⟨_,_,false,[],[],(fun h=>by cases h),⟨Nat.zero_le _,Nat.zero_le _,fun e he=>by cases he⟩,rfl,rfl⟩ ?_);(iterate 3 (exact sd));rintro _ _ ⟨ok,cs',es',hok,hbd,rfl,rfl⟩))<;>(try simp (disch:=omega) only [push_cast,seval,hel,Aaz,IL]))
 | (refine Adz ⟨.inr rfl,[864,865],[],_,by decide,rfl,?_⟩;(try simp (disch:=omega) only [push_cast,seval,↓Aez,↓Acz,↓List.map_cons,↓List.map_nil,hel,Aaz,IL]))))
    all_goals exact ⟨ok,cs',es',fun h=>⟨(hok h).1,fun hq=>by first|exact (hok h).2 trivial|(exact absurd hq (by decide))⟩,hbd,rfl,rfl⟩
  · (repeat' (first
 | (first|refine Ahz ?_|refine Abz ?_)
 | ((first|refine Aiz ?_|refine Avz (mid:=l37r10a) (post:=l37r10b) Baz (by decide) ?_|refine Afz ?_);simp (disch:=omega) only [push_cast,seval,l37r0,l37r1,l37r2,l37r3,l37r4a,l37r4b,l37r4,l37r5,l37r6a,l37r6b,l37r6,l37r7,l37r8a,l37r8b,l37r8,l37r9,l37r10a,l37r10b,l37r10,l37r11,l37r12a,l37r12b,l37r12,l37r13,l37r14a,l37r14b,l37r14,l37r15,l37r16a,l37r16b,l37r16,l37r17a,l37r17b,l37r17,hel,Aaz,IL])
 | ((first|refine Atz false ?_);simp (disch:=omega) only [push_cast,seval,hel,Aaz,IL])
 | ((first|((first|refine Akz (epD_ok _ _ _ _ _ _ _ _ _ _ _ ?_ ?_ ?_) ?_|refine Agz (epD_ok _ _ _ _ _ _ _ _ _ _ _ ?_ ?_ ?_) ⟨_,_,false,[],[],(fun h=>by cases h),⟨Nat.zero_le _,Nat.zero_le _,fun e he=>by cases he⟩,rfl,rfl⟩ ?_);(iterate 3 (exact sd));rintro _ _ ⟨ok,cs',es',hok,hbd,rfl,rfl⟩))<;>(try simp (disch:=omega) only [push_cast,seval,hel,Aaz,IL]))
 | (refine Adz ⟨.inr rfl,[1024,1025],[],_,by decide,rfl,?_⟩;(try simp (disch:=omega) only [push_cast,seval,↓Aez,↓Acz,↓List.map_cons,↓List.map_nil,hel,Aaz,IL]))))
    all_goals exact ⟨ok,cs',es',fun h=>⟨(hok h).1,fun hq=>by first|exact (hok h).2 trivial|(exact absurd hq (by decide))⟩,hbd,rfl,rfl⟩
  · (repeat' (first
 | (first|refine Ahz ?_|refine Abz ?_)
 | ((first|refine Aiz ?_|refine Avz (mid:=l37r12a) (post:=l37r12b) Baz (by decide) ?_|refine Afz ?_);simp (disch:=omega) only [push_cast,seval,l37r0,l37r1,l37r2,l37r3,l37r4a,l37r4b,l37r4,l37r5,l37r6a,l37r6b,l37r6,l37r7,l37r8a,l37r8b,l37r8,l37r9,l37r10a,l37r10b,l37r10,l37r11,l37r12a,l37r12b,l37r12,l37r13,l37r14a,l37r14b,l37r14,l37r15,l37r16a,l37r16b,l37r16,l37r17a,l37r17b,l37r17,hel,Aaz,IL])
 | ((first|refine Atz false ?_);simp (disch:=omega) only [push_cast,seval,hel,Aaz,IL])
 | ((first|((first|refine Akz (xfD_ok _ _ _ _ _ _ ?_ ?_ ?_) ?_|refine Agz (xfD_ok _ _ _ _ _ _ ?_ ?_ ?_) ⟨_,_,false,[],[],(fun h=>by cases h),⟨Nat.zero_le _,Nat.zero_le _,fun e he=>by cases he⟩,rfl,rfl⟩ ?_);(iterate 3 (exact sd));rintro _ _ ⟨ok,cs',es',hok,hbd,rfl,rfl⟩))<;>(try simp (disch:=omega) only [push_cast,seval,hel,Aaz,IL]))
 | (refine Adz ⟨.inr rfl,[1216,1217],[],_,by decide,rfl,?_⟩;(try simp (disch:=omega) only [push_cast,seval,↓Aez,↓Acz,↓List.map_cons,↓List.map_nil,hel,Aaz,IL]))))
    all_goals exact ⟨ok,cs',es',fun h=>⟨(hok h).1,fun hq=>by first|exact (hok h).2 trivial|(exact absurd hq (by decide))⟩,hbd,rfl,rfl⟩
  · (repeat' (first
 | (first|refine Ahz ?_|refine Abz ?_)
 | ((first|refine Aiz ?_|refine Avz (mid:=l37r14a) (post:=l37r14b) Baz (by decide) ?_|refine Afz ?_);simp (disch:=omega) only [push_cast,seval,l37r0,l37r1,l37r2,l37r3,l37r4a,l37r4b,l37r4,l37r5,l37r6a,l37r6b,l37r6,l37r7,l37r8a,l37r8b,l37r8,l37r9,l37r10a,l37r10b,l37r10,l37r11,l37r12a,l37r12b,l37r12,l37r13,l37r14a,l37r14b,l37r14,l37r15,l37r16a,l37r16b,l37r16,l37r17a,l37r17b,l37r17,hel,Aaz,IL])
 | ((first|refine Atz false ?_);simp (disch:=omega) only [push_cast,seval,hel,Aaz,IL])
 | ((first|((first|refine Akz (xcD_ok _ _ _ _ _ _ ?_ ?_ ?_) ?_|refine Agz (xcD_ok _ _ _ _ _ _ ?_ ?_ ?_) ⟨_,_,false,[],[],(fun h=>by cases h),⟨Nat.zero_le _,Nat.zero_le _,fun e he=>by cases he⟩,rfl,rfl⟩ ?_);(iterate 3 (exact sd));rintro _ _ ⟨ok,cs',es',hok,hbd,rfl,rfl⟩))<;>(try simp (disch:=omega) only [push_cast,seval,hel,Aaz,IL]))
 | (refine Adz ⟨.inr rfl,[1408,1409],[],_,by decide,rfl,?_⟩;(try simp (disch:=omega) only [push_cast,seval,↓Aez,↓Acz,↓List.map_cons,↓List.map_nil,hel,Aaz,IL]))))
    all_goals exact ⟨ok,cs',es',fun h=>⟨(hok h).1,fun hq=>by first|exact (hok h).2 trivial|(exact absurd hq (by decide))⟩,hbd,rfl,rfl⟩
  · exact absurd rfl h6
  · (repeat' (first
 | (first|refine Ahz ?_|refine Abz ?_)
 | ((first|refine Aiz ?_|refine Avz (mid:=l37r16a) (post:=l37r16b) Baz (by decide) ?_|refine Afz ?_);simp (disch:=omega) only [push_cast,seval,l37r0,l37r1,l37r2,l37r3,l37r4a,l37r4b,l37r4,l37r5,l37r6a,l37r6b,l37r6,l37r7,l37r8a,l37r8b,l37r8,l37r9,l37r10a,l37r10b,l37r10,l37r11,l37r12a,l37r12b,l37r12,l37r13,l37r14a,l37r14b,l37r14,l37r15,l37r16a,l37r16b,l37r16,l37r17a,l37r17b,l37r17,hel,Aaz,IL])
 | ((first|refine Atz false ?_);simp (disch:=omega) only [push_cast,seval,hel,Aaz,IL])
 | ((first|((first|refine Akz (rlD_ok _ _ _ _ _ ?_ ?_ ?_) ?_|refine Agz (rlD_ok _ _ _ _ _ ?_ ?_ ?_) ⟨_,_,false,[],[],(fun h=>by cases h),⟨Nat.zero_le _,Nat.zero_le _,fun e he=>by cases he⟩,rfl,rfl⟩ ?_);(iterate 3 (exact sd));rintro _ _ ⟨ok,cs',es',hok,hbd,rfl,rfl⟩))<;>(try simp (disch:=omega) only [push_cast,seval,hel,Aaz,IL]))
 | (refine Adz ⟨.inr rfl,[1552,1553],[],_,by decide,rfl,?_⟩;(try simp (disch:=omega) only [push_cast,seval,↓Aez,↓Acz,↓List.map_cons,↓List.map_nil,hel,Aaz,IL]))))
    all_goals exact ⟨ok,cs',es',fun h=>⟨(hok h).1,fun hq=>by first|exact (hok h).2 trivial|(exact absurd hq (by decide))⟩,hbd,rfl,rfl⟩


abbrev OBe (q:List Ex → Prop):AV → List (List AV) → Prop:=fun r H'=>(∃ cs' es',r=.tup [.agg [.own 0 cs'.length 1,.own 1 es'.length 5],.bool false] ∧ H'=[IL cs',EL true es']) ∨ ∃ cs' es',(vB cs' es'=true ∧ (cs'.length ≤ 60 ∧ es'.length ≤ 8 ∧ exB 4 es') ∧ q es') ∧ r=.tup [.agg [.own 0 cs'.length 1,.own 1 es'.length 5],.bool true] ∧ H'=[IL cs',EL true es']
theorem OBe_of {P:Program} {f:Nat} {args:List AV} {p:Prop} {q:List Ex → Prop} (h:BCall P f args [] (OBd p)) (hq:∀ es:List Ex,(p → 1 ≤ es.length) → q es):BCall P f args [] (OBe q):=h.mono fun r H'=>by
  rintro ⟨ok,cs',es',hok,hbd,h1,h2⟩
  cases ok with
  | false=>exact .inl ⟨cs',es',h1,h2⟩
  | true=>exact .inr ⟨cs',es',⟨(hok rfl).1,hbd,hq _ (hok rfl).2⟩,h1,h2⟩


theorem Ivz (cs:List Int) (es:List Ex) (m n:Nat) (k:Int) (nums:List Int) (l:Nat) (hm:cs.length=m) (hn:es.length=n) (hl:nums.length=l) (hv:vB cs es=true) (hk:actK k nums) (h6:k=1 ∨ k=2 ∨ k=3) :
    BCall Tryd.prog 37 [.agg [.rows false (IL cs) m,.rows false (EL false es) n],.agg [.int .i64 k,.rows false (IL nums) l]] [] (OBe fun es=>1 ≤ es.length) :=
  OBe_of (done_ok cs es m n k nums l hm hn hl hv hk (by omega)) fun es h=>h h6
theorem doneO_ok (cs:List Int) (es:List Ex) (m n:Nat) (k:Int) (nums:List Int) (l:Nat) (hm:cs.length=m) (hn:es.length=n) (hl:nums.length=l) (hv:vB cs es=true) (hk:actK k nums) (h6:¬ (k=1 ∨ k=2 ∨ k=3) ∧ k ≠ 6) :
    BCall Tryd.prog 37 [.agg [.rows false (IL cs) m,.rows false (EL false es) n],.agg [.int .i64 k,.rows false (IL nums) l]] [] (OBe fun _=>True) :=
  OBe_of (done_ok cs es m n k nums l hm hn hl hv hk h6.2) fun _ _=>trivial

end Go.Proofs.YtfccepgibbdfaaaDoor
namespace Go.Proofs.YtfccepgibbdfaaaDoor
open VwM Vw Go
variable [PowA]



theorem done6_ok (cs:List Int) (es:List Ex) (m n:Nat) (a:Int) (hm:cs.length=m) (hn:es.length=n) (hv:vB cs es=true) :
    BCall Tryd.prog 37 [.agg [.own 0 m 1,.own 1 n 5],.agg [.int .i64 6,.own 2 1 1]] [IL cs,EL false es,[.int .i64 a]] (fun r H'=>r=.tup [.agg [.own 0 m 1,.own 1 n 5],.bool (opA es a)] ∧ H'=[IL cs,EL false es,[.int .i64 a]]):=by
  subst hm hn
  have hel:=A0z false es
  have hb2:cs.length ≤ 1099511627776 ∧ es.length ≤ 1099511627776:=⟨(vB_x hv).1,(vB_x hv).2.1⟩
  refine Axz (pins:=[0,1,2]) (pin:=3) l37_eq rfl rfl rfl ?_
  (repeat' (first
 | (first|refine Ahz ?_|refine Abz ?_)
 | ((first|refine Aiz ?_|refine Avz (mid:=l37r17a) (post:=l37r17b) Baz (by decide) ?_|refine Afz ?_|refine Aoz ?_);simp (disch:=omega) only [push_cast,seval,l37r0,l37r1,l37r2,l37r3,l37r4a,l37r4b,l37r4,l37r5,l37r6a,l37r6b,l37r6,l37r7,l37r8a,l37r8b,l37r8,l37r9,l37r10a,l37r10b,l37r10,l37r11,l37r12a,l37r12b,l37r12,l37r13,l37r14a,l37r14b,l37r14,l37r15,l37r16a,l37r16b,l37r16,l37r17a,l37r17b,l37r17,hel,Aaz])
 | ((first|refine Atz false ?_);simp (disch:=omega) only [push_cast,seval,hel,Aaz])
 | ((first|((first|refine Akz (Ajz (Blz _ _ _ _ _ ?_ ?_ ?_)) ?_|refine Agz (Ajz (Blz _ _ _ _ _ ?_ ?_ ?_)) ⟨_,_,rfl,rfl⟩ ?_);(iterate 3 (exact sd));rintro _ _ ⟨rfl,rfl⟩))<;>(try simp (disch:=omega) only [push_cast,seval,hel,Aaz]))
 | (refine Adz ⟨.inr rfl,[],[],_,by decide,rfl,?_⟩;(try simp (disch:=omega) only [push_cast,seval,↓Aez,↓Acz,↓List.map_cons,↓List.map_nil,hel,Aaz]))))
  all_goals skip


abbrev OBa (cs:List Int) (es:List Ex) (nums:List Int) (m n:Nat):AV → List (List AV) → Prop:=fun r H'=>(∃ s,r=.tup [.agg [.own 0 m 1,.own 1 n 5],.str s] ∧ H'=[IL cs,EL false es,IL nums]) ∨ ∃ cs' es' s,vB cs' es'=true ∧ r=.tup [.agg [.own 3 cs'.length 1,.own 4 es'.length 5],.str s] ∧ H'=[IL cs,EL false es,IL nums,IL cs',EL true es']


set_option maxHeartbeats 16000000 in
theorem apply6_ok (cs:List Int) (es:List Ex) (a:Int) (hv:vB cs es=true) :
    BCall Tryd.prog 34 [.agg [.own 0 cs.length 1,.own 1 es.length 5],.agg [.int .i64 6,.own 2 1 1]] [IL cs,EL false es,[.int .i64 a]] (OBa cs es [a] cs.length es.length):=by
  have hel:=A0z false es
  have hbb:=Hez hv
  refine Axz (pins:=[0,1,2]) (pin:=3) l34_eq rfl rfl rfl ?_
  cases ho:opA es a with
  | false =>
    (repeat' (first
 | (first|refine Ahz ?_|refine Abz ?_)
 | ((first|refine Aiz ?_|refine Afz ?_);simp (disch:=omega) only [push_cast,seval,l34r0,l34r1,l34r2,l34r3,l34r4,l34r5a,l34r5b,l34r5,l34r6,l34r7a,l34r7b,l34r7,l34r8,ho,hel,Aaz])
 | ((first|((with_reducible refine Ayz (f:=37) [0,1,2] true ?_);simp (disch:=omega) only [push_cast,seval,ho,hel,Aaz];(refine callND (by decide) (done6_ok _ _ _ _ _ ?_ ?_ ?_) (by (simp (disch:=omega) only [push_cast,seval,ho,hel,Aaz])<;>rfl) ?_;(iterate 3 (exact sd));rintro _ _ ⟨rfl,rfl⟩)))<;>(try simp (disch:=omega) only [push_cast,seval,ho,hel,Aaz]))
 | (refine Adz ⟨.inr rfl,[],[],_,by decide,rfl,?_⟩;(try simp (disch:=omega) only [push_cast,seval,↓Aez,↓Acz,↓List.map_cons,↓List.map_nil,ho,hel,Aaz]))))
    all_goals exact .inl ⟨_,rfl,rfl⟩
  | true =>
    obtain ⟨q,p,b,x,y,rfl,hq,he,hvw⟩:=Foz ho
    have hs:=vB_see hv he
    have hil:q * 5 + 5 ≤ es.length * 5:=by omega
    have h3:=I0z he
    have hi:=(see_prX hs).1
    have htl:(takesL cs (offs b x y)).length=(offs b x y).length:=Daz ..
    have htb:=F6z (L:=offs b x y) (Chz.1 (Ebz.1 hv).1).2
    have hq5:(takesL cs (offs b x y)).length ≤ 100 ∧ ∀ v ∈ takesL cs (offs b x y),0 ≤ v ∧ v < 1000:=⟨by omega,fun v hv=>by have:=htb v hv;omega⟩
    have h3s:({ data:={ toList:=[104,97,115] } }:ByteArray).size=3:=rfl
    (repeat' (first
 | (first|refine Ahz ?_|refine Abz ?_)
 | ((first|refine Aiz ?_|refine B7z (mid:=l34r5a) (post:=l34r5b) [64] Baz (by decide) ?_|refine Afz ?_);simp (disch:=omega) only [push_cast,seval,l34r0,l34r1,l34r2,l34r3,l34r4,l34r5a,l34r5b,l34r5,l34r6,l34r7a,l34r7b,l34r7,l34r8,ho,hel,hil,h3,Aaz])
 | ((first|((with_reducible refine Ayz (f:=37) [0,1,2] true ?_);simp (disch:=omega) only [push_cast,seval,ho,hel,hil,h3,Aaz];(refine callND (by decide) (done6_ok _ _ _ _ _ ?_ ?_ ?_) (by (simp (disch:=omega) only [push_cast,seval,ho,hel,hil,h3,Aaz])<;>rfl) ?_;(iterate 3 (exact sd));rintro _ _ ⟨rfl,rfl⟩)))<;>(try simp (disch:=omega) only [push_cast,seval,ho,hel,hil,h3,Aaz]))
 | ((first|refine Atz false ?_);simp (disch:=omega) only [push_cast,seval,ho,hel,hil,h3,Aaz])
 | ((first|((first|refine Akz (Fvz _ _ _ _ _ _ _ ?_ ?_ ?_ ?_) ?_|refine Agz (Ajz (Efz (Fvz _ _ _ _ _ _ _ ?_ ?_ ?_ ?_))) ⟨_,_,rfl,rfl⟩ ?_);(iterate 4 (exact sd));rintro _ _ ⟨rfl,rfl⟩)|((first|refine Akz (Ajz (numT_ok _ _ ?_ ?_)) ?_|refine Agz (Ajz (numT_ok _ _ ?_ ?_)) ⟨.str ByteArray.empty,[],⟨ByteArray.empty,Nat.zero_le _,rfl⟩,rfl⟩ ?_);(iterate 2 (exact sd));rintro _ _ ⟨⟨st,hst,rfl⟩,rfl⟩))<;>(try simp (disch:=omega) only [push_cast,seval,ho,hel,hil,h3,Aaz]))
 | (refine Adz ⟨.inr rfl,[],[],_,by decide,rfl,?_⟩;(try simp (disch:=omega) only [push_cast,seval,↓Aez,↓Acz,↓List.map_cons,↓List.map_nil,ho,hel,hil,h3,Aaz]))))
    all_goals exact .inl ⟨_,rfl,rfl⟩




set_option maxHeartbeats 16000000 in
theorem apply_ok (cs:List Int) (es:List Ex) (m n:Nat) (k:Int) (nums:List Int) (l:Nat) (hm:cs.length=m) (hn:es.length=n) (hl:nums.length=l) (hv:vB cs es=true) (hk:actK k nums) :
    BCall Tryd.prog 34 [.agg [.own 0 m 1,.own 1 n 5],.agg [.int .i64 k,.own 2 l 1]] [IL cs,EL false es,IL nums] (OBa cs es nums m n):=by
  subst hm hn hl
  by_cases h6:k=6
  · subst h6
    have hk':∃ a,nums=[a]:=by
      rcases hk with h|h|h|h|h|h|h|h
      all_goals first|exact h.2|(exact absurd h.1 (by decide))
    obtain ⟨a,rfl⟩:=hk'
    exact apply6_ok cs es a hv
  have hel:=A0z false es
  have hbb:=Hez hv
  refine Axz (pins:=[0,1,2]) (pin:=3) l34_eq rfl rfl rfl ?_
  by_cases h13:k=1 ∨ k=2 ∨ k=3
  · have h3s:({ data:={ toList:=[97,116,32] } }:ByteArray).size=3:=rfl
    rcases h13 with rfl|rfl|rfl
    · (repeat' (first
 | (first|refine Ahz ?_|refine Abz ?_)
 | ((first|refine Aiz ?_|refine B7z (mid:=l34r7a) (post:=l34r7b) [64] Baz (by decide) ?_|refine Afz ?_);simp (disch:=omega) only [push_cast,seval,l34r0,l34r1,l34r2,l34r3,l34r4,l34r5a,l34r5b,l34r5,l34r6,l34r7a,l34r7b,l34r7,l34r8,hel,Aaz])
 | ((first|refine Alz false ?_|refine Atz false ?_);simp (disch:=omega) only [push_cast,seval,hel,Aaz])
 | ((first|(refine Akz (Ivz _ _ _ _ _ _ _ ?_ ?_ ?_ ?_ ?_ ?_) ?_;(iterate 6 (exact sd));rintro _ _ (⟨csF,esF',rfl,rfl⟩|⟨cs',es',⟨hvD,hbD,hqD⟩,rfl,rfl⟩))|((first|refine Akz (Ajz (Bvz _ ?_)) ?_|refine Agz (Ajz (Bvz _ ?_)) ⟨.str ByteArray.empty,[],⟨ByteArray.empty,Nat.zero_le _,rfl⟩,rfl⟩ ?_);(exact sd);rintro _ _ ⟨⟨sn,hsn,rfl⟩,rfl⟩))<;>(try simp (disch:=omega) only [push_cast,seval,hel,Aaz]))))
      all_goals first|((refine Adz ⟨.inr rfl,[176,177],[],_,by decide,rfl,?_⟩;(try simp (disch:=omega) only [push_cast,seval,↓Aez,↓Acz,↓List.map_cons,↓List.map_nil,hel,Aaz]));exact .inr ⟨_,_,_,hvD,rfl,rfl⟩)|((refine Adz ⟨.inr rfl,[],[],_,by decide,rfl,?_⟩;(try simp (disch:=omega) only [push_cast,seval,↓Aez,↓Acz,↓List.map_cons,↓List.map_nil,hel,Aaz]));exact .inl ⟨_,rfl,rfl⟩)|skip
    · (repeat' (first
 | (first|refine Ahz ?_|refine Abz ?_)
 | ((first|refine Aiz ?_|refine B7z (mid:=l34r7a) (post:=l34r7b) [64] Baz (by decide) ?_|refine Afz ?_);simp (disch:=omega) only [push_cast,seval,l34r0,l34r1,l34r2,l34r3,l34r4,l34r5a,l34r5b,l34r5,l34r6,l34r7a,l34r7b,l34r7,l34r8,hel,Aaz])
 | ((first|refine Alz false ?_|refine Atz false ?_);simp (disch:=omega) only [push_cast,seval,hel,Aaz])
 | ((first|(refine Akz (Ivz _ _ _ _ _ _ _ ?_ ?_ ?_ ?_ ?_ ?_) ?_;(iterate 6 (exact sd));rintro _ _ (⟨csF,esF',rfl,rfl⟩|⟨cs',es',⟨hvD,hbD,hqD⟩,rfl,rfl⟩))|((first|refine Akz (Ajz (Bvz _ ?_)) ?_|refine Agz (Ajz (Bvz _ ?_)) ⟨.str ByteArray.empty,[],⟨ByteArray.empty,Nat.zero_le _,rfl⟩,rfl⟩ ?_);(exact sd);rintro _ _ ⟨⟨sn,hsn,rfl⟩,rfl⟩))<;>(try simp (disch:=omega) only [push_cast,seval,hel,Aaz]))))
      all_goals first|((refine Adz ⟨.inr rfl,[176,177],[],_,by decide,rfl,?_⟩;(try simp (disch:=omega) only [push_cast,seval,↓Aez,↓Acz,↓List.map_cons,↓List.map_nil,hel,Aaz]));exact .inr ⟨_,_,_,hvD,rfl,rfl⟩)|((refine Adz ⟨.inr rfl,[],[],_,by decide,rfl,?_⟩;(try simp (disch:=omega) only [push_cast,seval,↓Aez,↓Acz,↓List.map_cons,↓List.map_nil,hel,Aaz]));exact .inl ⟨_,rfl,rfl⟩)|skip
    · (repeat' (first
 | (first|refine Ahz ?_|refine Abz ?_)
 | ((first|refine Aiz ?_|refine B7z (mid:=l34r7a) (post:=l34r7b) [64] Baz (by decide) ?_|refine Afz ?_);simp (disch:=omega) only [push_cast,seval,l34r0,l34r1,l34r2,l34r3,l34r4,l34r5a,l34r5b,l34r5,l34r6,l34r7a,l34r7b,l34r7,l34r8,hel,Aaz])
 | ((first|refine Alz false ?_|refine Atz false ?_);simp (disch:=omega) only [push_cast,seval,hel,Aaz])
 | ((first|(refine Akz (Ivz _ _ _ _ _ _ _ ?_ ?_ ?_ ?_ ?_ ?_) ?_;(iterate 6 (exact sd));rintro _ _ (⟨csF,esF',rfl,rfl⟩|⟨cs',es',⟨hvD,hbD,hqD⟩,rfl,rfl⟩))|((first|refine Akz (Ajz (Bvz _ ?_)) ?_|refine Agz (Ajz (Bvz _ ?_)) ⟨.str ByteArray.empty,[],⟨ByteArray.empty,Nat.zero_le _,rfl⟩,rfl⟩ ?_);(exact sd);rintro _ _ ⟨⟨sn,hsn,rfl⟩,rfl⟩))<;>(try simp (disch:=omega) only [push_cast,seval,hel,Aaz]))))
      all_goals first|((refine Adz ⟨.inr rfl,[176,177],[],_,by decide,rfl,?_⟩;(try simp (disch:=omega) only [push_cast,seval,↓Aez,↓Acz,↓List.map_cons,↓List.map_nil,hel,Aaz]));exact .inr ⟨_,_,_,hvD,rfl,rfl⟩)|((refine Adz ⟨.inr rfl,[],[],_,by decide,rfl,?_⟩;(try simp (disch:=omega) only [push_cast,seval,↓Aez,↓Acz,↓List.map_cons,↓List.map_nil,hel,Aaz]));exact .inl ⟨_,rfl,rfl⟩)|skip
  · have h14:¬ (k=1 ∨ k=2 ∨ k=3) ∧ k ≠ 6:=⟨h13,h6⟩
    have n6:(k=6)=False:=eq_false h6
    have n1:(k=1)=False:=eq_false (by omega)
    have n2:(k=2)=False:=eq_false (by omega)
    have n3:(k=3)=False:=eq_false (by omega)
    (repeat' (first
 | (first|refine Ahz ?_|refine Abz ?_)
 | ((first|refine Aiz ?_|refine Afz ?_|refine Aoz ?_);simp (disch:=omega) only [push_cast,seval,l34r0,l34r1,l34r2,l34r3,l34r4,l34r5a,l34r5b,l34r5,l34r6,l34r7a,l34r7b,l34r7,l34r8,hel,n6,n1,n2,n3,Aaz])
 | ((first|refine Alz false ?_);simp (disch:=omega) only [push_cast,seval,hel,n6,n1,n2,n3,Aaz])
 | ((first|(refine Akz (doneO_ok _ _ _ _ _ _ _ ?_ ?_ ?_ ?_ ?_ ?_) ?_;(iterate 6 (exact sd));rintro _ _ (⟨csF,esF',rfl,rfl⟩|⟨cs',es',⟨hvD,hbD,hqD⟩,rfl,rfl⟩)))<;>(try simp (disch:=omega) only [push_cast,seval,hel,n6,n1,n2,n3,Aaz]))))
    all_goals first|((refine Adz ⟨.inr rfl,[176,177],[],_,by decide,rfl,?_⟩;(try simp (disch:=omega) only [push_cast,seval,↓Aez,↓Acz,↓List.map_cons,↓List.map_nil,hel,Aaz]));exact .inr ⟨_,_,_,hvD,rfl,rfl⟩)|((refine Adz ⟨.inr rfl,[],[],_,by decide,rfl,?_⟩;(try simp (disch:=omega) only [push_cast,seval,↓Aez,↓Acz,↓List.map_cons,↓List.map_nil,hel,Aaz]));exact .inl ⟨_,rfl,rfl⟩)|skip

end Go.Proofs.YtfccepgibbdfaaaDoor
namespace Go.Proofs.YtfccepgibbdfaaaDoor
open VwM Vw Go
variable [PowA]

theorem actK_rest {k a:Int} (hx:k ∈ unI [AV.int IntKind.i64 1,AV.int IntKind.i64 2,AV.int IntKind.i64 3,AV.int IntKind.i64 4,AV.int IntKind.i64 5,AV.int IntKind.i64 6,AV.int IntKind.i64 7,AV.int IntKind.i64 0,AV.int IntKind.i64 6,AV.int IntKind.i64 4]) (h:(k ≠ 0 ∧ k ≠ 1 ∧ k ≠ 2) ∧ k ≠ 4 ∧ k ≠ 5):actK k [a]:=by
  simp only [Fuz,H7z,List.mem_cons,List.not_mem_nil,or_false] at hx
  have h3:k=3 ∨ k=6 ∨ k=7:=by omega
  rcases h3 with rfl|rfl|rfl
  · exact .inr (.inr (.inr (.inl ⟨rfl,_,rfl⟩)))
  · exact .inr (.inr (.inr (.inr (.inr (.inr (.inl ⟨rfl,_,rfl⟩))))))
  · exact .inr (.inr (.inr (.inr (.inr (.inr (.inr ⟨rfl,_,rfl⟩))))))


set_option maxHeartbeats 16000000 in
theorem someAct_ok (bs:List Int) (p:Int) (cs:List Int) (es:List Ex) (m n:Nat) (hm:cs.length=m) (hn:es.length=n) (hbs:okB bs) (hp:0 ≤ p ∧ p ≤ 900000) (hv:vB cs es=true) :
    BCall Tryd.prog 30 [.ref 0 2 0,.agg [.own 1 m 1,.own 2 n 5]] [RD bs p,IL cs,EL false es] (fun r H'=>∃ k nums p',actK k nums ∧ (p ≤ p' ∧ p' ≤ p + 10) ∧ r=.agg [.int .i64 k,.own 3 nums.length 1] ∧ H'=[RD bs p',IL cs,EL false es,IL nums]):=by
  subst hm hn
  have hel:=A0z false es
  have hq8:=vB_x hv
  obtain ⟨hp1,hp2⟩:=hp
  obtain ⟨v1,v2,v3⟩:=Hez hv
  have hol:=Hoz cs es
  generalize hO:opensA cs es=O at *
  refine Axz (pins:=[0,1,2]) (pin:=3) l30_eq rfl rfl rfl ?_
  (repeat' (first
 | (first|refine Ahz ?_|refine Abz ?_)
 | ((first|refine Aiz ?_|refine Afz ?_|refine Aoz ?_);simp (disch:=omega) only [push_cast,seval,l30r0,l30r1,l30r2,l30r3,l30r4,l30r5,l30r6,l30r7,l30r8,l30r9,l30r10,l30r11,l30r12,l30r13,l30r14,l30r15,l30r16,l30r17,hO,hel,Aaz])
 | ((first|refine Amz (fun h=>?_) (fun h=>?_)|refine Bpz (fun h=>?_) (fun h=>?_))<;>(try simp only [h])<;>(try simp only [bitvec_to_nat] at h)<;>(try simp only [h])<;>(first|(exfalso;omega)|(exfalso;simp_all;done)|(simp (disch:=omega) only [push_cast,seval,hO,hel,Aaz])|skip))
 | ((first|((with_reducible refine Ayz (f:=31) [0] true ?_);simp (disch:=omega) only [push_cast,seval,hO,hel,Aaz];(refine H0z (id:=0) (Gfz _ _ _ ?_ ?_) (by (simp (disch:=omega) only [push_cast,seval,hO,hel,Aaz])<;>rfl) ?_;(iterate 2 (exact sd));rintro _ _ ⟨x,hx0,hx1,rfl,rfl⟩))|((with_reducible refine Ayz (f:=32) (args:=[Operand.tmp 31,Operand.tmp 32]) [0,512] true ?_);simp (disch:=omega) only [push_cast,seval,hO,hel,Aaz];(refine B6z (id:=0) (id':=512) (by decide) (Cpz _ _ _ _ ?_ ?_ ?_ ?_ ?_) (by (simp (disch:=omega) only [push_cast,seval,hO,hel,Aaz])<;>rfl) (by (simp (disch:=omega) only [push_cast,seval,hO,hel,Aaz])<;>rfl) ?_;(iterate 5 (exact sd));rintro _ _ ⟨x,hx,hx0,rfl,rfl⟩))|((with_reducible refine Ayz (f:=32) (args:=[Operand.tmp 42,Operand.tmp 43]) [0,688] true ?_);simp (disch:=omega) only [push_cast,seval,hO,hel,Aaz];(refine B6z (id:=0) (id':=688) (by decide) (Cpz _ _ _ _ ?_ ?_ ?_ ?_ ?_) (by (simp (disch:=omega) only [push_cast,seval,hO,hel,Aaz])<;>rfl) (by (simp (disch:=omega) only [push_cast,seval,hO,hel,Aaz])<;>rfl) ?_;(iterate 5 (exact sd));rintro _ _ ⟨x,hx,hx0,rfl,rfl⟩))|((with_reducible refine Ayz (f:=32) (args:=[Operand.tmp 52,Operand.tmp 53]) [0,848] true ?_);simp (disch:=omega) only [push_cast,seval,hO,hel,Aaz];(refine B6z (id:=0) (id':=848) (by decide) (Cpz _ _ _ _ ?_ ?_ ?_ ?_ ?_) (by (simp (disch:=omega) only [push_cast,seval,hO,hel,Aaz])<;>rfl) (by (simp (disch:=omega) only [push_cast,seval,hO,hel,Aaz])<;>rfl) ?_;(iterate 5 (exact sd));rintro _ _ ⟨x,hx,hx0,rfl,rfl⟩))|((with_reducible refine Ayz (f:=32) (args:=[Operand.tmp 55,Operand.tmp 56]) [0,896] true ?_);simp (disch:=omega) only [push_cast,seval,hO,hel,Aaz];(refine B6z (id:=0) (id':=896) (by decide) (Cpz _ _ _ _ ?_ ?_ ?_ ?_ ?_) (by (simp (disch:=omega) only [push_cast,seval,hO,hel,Aaz])<;>rfl) (by (simp (disch:=omega) only [push_cast,seval,hO,hel,Aaz])<;>rfl) ?_;(iterate 5 (exact sd));rintro _ _ ⟨x,hx,hx0,rfl,rfl⟩))|((with_reducible refine Ayz (f:=32) (args:=[Operand.tmp 66,Operand.tmp 67]) [0,1072] true ?_);simp (disch:=omega) only [push_cast,seval,hO,hel,Aaz];(refine B6z (id:=0) (id':=1072) (by decide) (Cpz _ _ _ _ ?_ ?_ ?_ ?_ ?_) (by (simp (disch:=omega) only [push_cast,seval,hO,hel,Aaz])<;>rfl) (by (simp (disch:=omega) only [push_cast,seval,hO,hel,Aaz])<;>rfl) ?_;(iterate 5 (exact sd));rintro _ _ ⟨x,hx,hx0,rfl,rfl⟩))|((with_reducible refine Ayz (f:=32) (args:=[Operand.tmp 69,Operand.tmp 70]) [0,1120] true ?_);simp (disch:=omega) only [push_cast,seval,hO,hel,Aaz];(refine B6z (id:=0) (id':=1120) (by decide) (Cpz _ _ _ _ ?_ ?_ ?_ ?_ ?_) (by (simp (disch:=omega) only [push_cast,seval,hO,hel,Aaz])<;>rfl) (by (simp (disch:=omega) only [push_cast,seval,hO,hel,Aaz])<;>rfl) ?_;(iterate 5 (exact sd));rintro _ _ ⟨x,hx,hx0,rfl,rfl⟩)))<;>(try simp (disch:=omega) only [push_cast,seval,hO,hel,Aaz]))
 | ((first|refine Alz false ?_);simp (disch:=omega) only [push_cast,seval,hO,hel,Aaz])
 | ((first|((first|refine Akz (Ctz _ _ _ _ ?_ ?_ ?_) ?_|refine Agz (Ctz _ _ _ _ ?_ ?_ ?_) ⟨_,_,rfl,rfl⟩ ?_);(iterate 3 (exact sd));rintro _ _ ⟨rfl,rfl⟩))<;>(try simp (disch:=omega) only [push_cast,seval,hO,hel,Aaz]))))
  all_goals first
    | ((refine Adz ⟨.inr rfl,[720],[],_,by decide,rfl,?_⟩;(try simp (disch:=omega) only [push_cast,seval,↓Aez,↓Acz,↓List.map_cons,↓List.map_nil,hO,Aaz]));exact ⟨_,[_],_,.inl ⟨(by first|rfl|omega),_,rfl⟩,by omega,rfl,rfl⟩)
    | ((refine Adz ⟨.inr rfl,[928],[],_,by decide,rfl,?_⟩;(try simp (disch:=omega) only [push_cast,seval,↓Aez,↓Acz,↓List.map_cons,↓List.map_nil,hO,Aaz]));exact ⟨_,[_,_,_],_,.inr (.inl ⟨(by first|rfl|omega),_,_,_,rfl⟩),by omega,rfl,rfl⟩)
    | ((refine Adz ⟨.inr rfl,[1152],[],_,by decide,rfl,?_⟩;(try simp (disch:=omega) only [push_cast,seval,↓Aez,↓Acz,↓List.map_cons,↓List.map_nil,hO,Aaz]));exact ⟨_,[_,_,_,_],_,.inr (.inr (.inl ⟨(by first|rfl|omega),_,_,_,_,rfl⟩)),by omega,rfl,rfl⟩)
    | ((refine Adz ⟨.inr rfl,[1280],[],_,by decide,rfl,?_⟩;(try simp (disch:=omega) only [push_cast,seval,↓Aez,↓Acz,↓List.map_cons,↓List.map_nil,hO,Aaz]));exact ⟨_,[_,_],_,.inr (.inr (.inr (.inr (.inl ⟨(by first|rfl|omega),_,_,rfl⟩)))),by omega,rfl,rfl⟩)
    | ((refine Adz ⟨.inr rfl,[1472],[],_,by decide,rfl,?_⟩;(try simp (disch:=omega) only [push_cast,seval,↓Aez,↓Acz,↓List.map_cons,↓List.map_nil,hO,Aaz]));exact ⟨_,[_,_],_,.inr (.inr (.inr (.inr (.inr (.inl ⟨(by first|rfl|omega),_,_,rfl⟩))))),by omega,rfl,rfl⟩)
    | ((refine Adz ⟨.inr rfl,[592],[],_,by decide,rfl,?_⟩;(try simp (disch:=omega) only [push_cast,seval,↓Aez,↓Acz,↓List.map_cons,↓List.map_nil,hO,Aaz]));exact ⟨_,[_],_,actK_rest hx (by omega),by omega,rfl,rfl⟩)
    | skip

end Go.Proofs.YtfccepgibbdfaaaDoor
