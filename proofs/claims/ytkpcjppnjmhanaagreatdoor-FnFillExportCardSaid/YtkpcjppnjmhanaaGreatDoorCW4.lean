/- A region that draws,cut in two by one operation,each part with what it keeps for itself. -/
import Derived.Test.YtkpcjppnjmhanaaGreatDoorCW3
set_option linter.unusedSimpArgs false
set_option linter.unusedSectionVars false
set_option linter.unusedVariables false
namespace Vw
open Go
variable [Inhabited GlobT]
section
variable {P:Program} {pin:Nat} {F:Bool → Nat → Option (List AV)} {Z:Bool → List Nat} {K:S → Prop} {s s':S}
def qMixS (P:Program) (pin:Nat) (F:Bool → Nat → Option (List AV)) (Z:Bool → List Nat) (sg D:Nat → Bool) (al:List AOper):List Nat → (S → Prop) → S → Prop
  | [],K,s=>K s
  | i :: r,K,s=>if D i=true then qone P pin (F (sg i)) (Z (sg i)) (nth al i) (qMixS P pin F Z sg D al r K) s else gstep P pin (nth al i) (fun s'=>(∀ j ∈ r,D j=true → Sees (F (sg j)) s') ∧ qMixS P pin F Z sg D al r K s') s
theorem I7z {sg D:Nat → Bool} {al:List AOper} {i:Nat} (hin:D i=true):∀ {l1 l2:List Nat} {s:S},(∀ j ∈ l1,(D j=true ∧ sg j=sg i) ∧ (nth al j).apart (Z (sg i)) (nth al i)=true) → qMixS P pin F Z sg D al (l1 ++ i :: l2) K s → qone P pin (F (sg i)) (Z (sg i)) (nth al i) (qMixS P pin F Z sg D al (l1 ++ l2) K) s
  | [],_,_,_,h=>by simpa [qMixS,hin] using h
  | y :: l1,l2,s,ha,h=>by
    have hy:=ha y (by simp)
    simp only [List.cons_append,qMixS,if_pos hy.1.1,hy.1.2] at h ⊢
    exact I4z hy.2 (Elz (fun s hs=>I7z hin (fun z hz=>ha z (by simp [hz])) hs) h)
def drawOkS (Z:Bool → List Nat) (sg D:Nat → Bool) (al:List AOper):Bool :=
  (List.range al.length).all fun i=>(nth al i).after.all (fun j=>decide (j < i)) && (List.range i).all fun j=>((masksFrom [] al).getD i 0).testBit j || (((D i && D j) && (sg j == sg i)) && (nth al j).apart (Z (sg i)) (nth al i))
theorem Ifz {sg D:Nat → Bool} {al:List AOper} (h:drawOkS Z sg D al=true) {i:Nat} (hi:i < al.length) :
    (∀ j ∈ (nth al i).after,j < i) ∧ ∀ j,j < i → ¬ Anc al i j → ((D i=true ∧ D j=true) ∧ sg j=sg i) ∧ (nth al j).apart (Z (sg i)) (nth al i)=true:=by
  have:=List.all_eq_true.1 h i (List.mem_range.2 hi)
  rw [Bool.and_eq_true] at this
  refine ⟨fun j hj=>by simpa using List.all_eq_true.1 this.1 j hj,fun j hj hn=>?_⟩
  have:=List.all_eq_true.1 this.2 j (List.mem_range.2 hj)
  rw [Bool.or_eq_true] at this
  rcases this with h|h
  · exact absurd (Dbz (al:=al) (post:=al) (pre:=[]) rfl rfl (fun i j h=>by simp at h) i j h) hn
  · simpa using h
theorem ready_noneS {sg D:Nat → Bool} {nt:NT} {ops:Array Oper} {al:List AOper} {listed:Array Bool} (hl:Lows P nt 0 ops al) (hok:drawOkS Z sg D al=true) (hsz:listed.size=ops.size)
    (hr:Region.ready .any ops listed=[]):left ops.size listed=[]:=by
  have h1:=hl.len
  cases hc:left ops.size listed with
  | nil=>rfl
  | cons x r =>
    have hx:x ∈ left ops.size listed:=by rw [hc];simp
    have hnil:∀ j,j < x → listed.getD j true=true:=by
      intro j hj
      cases hg:listed.getD j true with
      | true=>rfl
      | false =>
        have hm:j ∈ left ops.size listed:=mem_left.2 ⟨by have:=(mem_left.1 hx).1;omega,hg⟩
        obtain ⟨m1,m2,h5,h6,_,_⟩:=Dwz hm
        rw [hc] at h5
        cases m1 with
        | nil=>simp at h5;omega
        | cons y m1=>simp at h5;have:=(h6 y (by simp)).1;omega
    have:x ∈ Region.ready .any ops listed:=(Cxz hl).2 ⟨hx,fun j hj=>by
      have hjx:=(Ifz hok (by rw [h1];simpa using (mem_left.1 hx).1)).1 j hj
      have:=hnil j hjx
      have hlt:j < listed.size:=by have:=(mem_left.1 hx).1;omega
      simpa [Array.getD_eq_getD_getElem?,hlt] using this⟩
    rw [hr] at this
    cases this
theorem qAnyS {sg D:Nat → Bool} {E:Env} {ops:Array Oper} {al:List AOper} {Q:Exit → Act → World → Prop} (hl:Lows P E.nt 0 ops al) (hok:drawOkS Z sg D al=true) (hZ:∀ b,∀ id ∈ Z b,F b id=none) (hFF:∀ s,Sees (F false) s) (hsg:∀ i j,sg i=false → i < j → sg j=false)
    (hQ:∀ a w,Told E K a w → Q .normal a w):∀ (fuel:Nat) (listed:Array Bool) (M:Nat → Option Nat) (s:S) (a:Act) (w:World),listed.size=ops.size → (left ops.size listed).length ≤ fuel → St E M s a w → (∀ i ∈ left ops.size listed,D i=true → Sees (F (sg i)) s) → (∀ i,i < ops.size → listed.getD i true=true → ∀ j ∈ (nth al i).after,listed.getD j false=true) →
    qMixS P E.pin F Z sg D al (left ops.size listed) K s → wpAnyIn (FW E.nt.rnd) 3 P .any ops Q fuel listed a w
  | 0,listed,M,s,a,w,hsz,hf,h,_,_,hs=>by
    have hnil:left ops.size listed=[]:=List.eq_nil_of_length_eq_zero (Nat.le_zero.1 hf)
    rw [hnil] at hs
    refine ⟨?_,hQ _ _ ⟨M,s,h,hs⟩⟩
    refine List.eq_nil_iff_forall_not_mem.2 fun i hi=>?_
    have:=((Cxz hl).1 hi).1
    rw [hnil] at this
    cases this
  | fuel + 1,listed,M,s,a,w,hsz,hf,h,hF,hcl,hs=>by
    refine ⟨fun hr=>?_,fun i hi=>?_⟩
    · rw [ready_noneS hl hok hsz hr] at hs
      exact hQ _ _ ⟨M,s,h,hs⟩
    · have h1:=hl.len
      have h2:=hl.each
      obtain ⟨hil,hia⟩:=(Cxz hl).1 hi
      obtain ⟨l1,l2,h3,h4,h5,h8⟩:=Dwz hil
      have hin:=(mem_left.1 hil).1
      have hap:∀ j ∈ l1,((D i=true ∧ D j=true) ∧ sg j=sg i) ∧ (nth al j).apart (Z (sg i)) (nth al i)=true:=fun j hj=>by
        refine (Ifz hok (by rw [h1];simpa using hin)).2 j (h4 j hj).1 fun hja=>?_
        have hanc:∀ i j,Anc al i j → i < ops.size → (∀ k ∈ (nth al i).after,listed.getD k false=true) → listed.getD j false=true:=by
          intro i j hA
          induction hA with
          | one hm=>exact fun _ hk=>hk _ hm
          | more hm _ ih =>
            intro hi1 hk
            have hk1:=hk _ hm
            have hlt1:∀ k,listed.getD k false=true → k < ops.size:=fun k hk=>by
              rcases Nat.lt_or_ge k listed.size with h|h
              · omega
              · simp [Array.getD_eq_getD_getElem?,Array.getElem?_eq_none h] at hk
            have h9:=hlt1 _ hk1
            exact ih h9 (hcl _ h9 (by
              have hlt2:=h9
              rw [← hsz] at hlt2
              simpa [Array.getD_eq_getD_getElem?,hlt2] using hk1))
        have hja':=hanc i j hja hin hia
        have hlt:j < listed.size:=by have:=(h4 j hj).1;omega
        have h6:=(h4 j hj).2
        simp [Array.getD_eq_getD_getElem?,hlt] at hja' h6
        rw [hja'] at h6
        cases h6
      have ho:ops[i]?=some ops[i]:=by simp [hin]
      have next:∀ a' w' M' s',St E M' s' a' w' → (∀ j ∈ l1 ++ l2,D j=true → Sees (F (sg j)) s') → qMixS P E.pin F Z sg D al (l1 ++ l2) K s' → wpAnyIn (FW E.nt.rnd) 3 P .any ops Q fuel (listed.setIfInBounds i true) a' w':=fun a' w' M' s' hst hF' hk=>by
        refine qAnyS hl hok hZ hFF hsg hQ fuel _ M' s' a' w' (by simpa using hsz) ?_ hst ?_ ?_ ?_
        · rw [h5]
          rw [h3] at hf
          simp at hf ⊢
          omega
        · rw [h5]
          exact hF'
        · intro k hk1 hk2 j hj
          have hmono:∀ q,listed.getD q false=true → (listed.setIfInBounds i true).getD q false=true:=fun q hq=>by
            by_cases hqi:q=i
            · subst hqi
              have hlq:q < listed.size:=by omega
              simp [Array.getD_eq_getD_getElem?,hlq]
            · rw [B8z hqi];exact hq
          by_cases hki:k=i
          · subst hki;exact hmono j (hia j hj)
          · rw [B8z hki] at hk2
            exact hmono j (hcl k hk1 hk2 j hj)
        · rw [h5]
          exact hk
      rw [h3] at hs hF
      obtain ⟨ao0,hlo,_,hao⟩:=h2 i _ (show ops.toList[i]?=some ops[i] by simp [hin])
      have hao:nth al i=ao0:=hao.resolve_right (fun h=>absurd h.1 (Nat.not_lt_zero _))
      cases hn:D i with
      | true=>exact Lmz ho h (hF i (by simp) hn) (hZ _) hlo (.inl hao) (fun a w M s a1 a2 a3=>next a w M s a1 (fun j hj hD=>by
          cases hsj:sg j with
          | false=>exact hFF s
          | true =>
            cases hsi:sg i with
            | true=>rw [hsi] at a2;exact a2
            | false =>
              rcases List.mem_append.1 hj with h9|h9
              · have:=(hap j h9).1.2;rw [hsj,hsi] at this;cases this
              · have:=hsg i j hsi (h8 j h9);rw [hsj] at this;cases this) a3) (I7z hn (fun j hj=>⟨⟨(hap j hj).1.1.2,(hap j hj).1.2⟩,(hap j hj).2⟩) hs)
      | false =>
        cases l1 with
        | cons j l1=>have:=(hap j (by simp)).1.1.1;rw [hn] at this;cases this
        | nil =>
          simp only [List.nil_append,qMixS,hn,Bool.false_eq_true,if_false] at hs
          refine H2z ho h (hao ▸ hlo) ?_ hs
          rintro a w ⟨M,s,a1,a2,a3⟩
          exact next a w M s a1 a2 a3
theorem qMixS_of {sg D:Nat → Bool}:∀ {post pre:List AOper} {s:S} {al:List AOper},al=pre ++ post → (∀ i,pre.length ≤ i → D i=false) → aSeq P pin post K s → qMixS P pin F Z sg D al (List.range' pre.length post.length) K s
  | [],_,s,al,_,_,h=>h
  | o :: r,pre,s,al,hal,hn,h=>by
    simp only [List.length_cons,List.range'_succ,qMixS]
    rw [if_neg (by rw [hn _ (Nat.le_refl _)];simp)]
    have ho:nth al pre.length=o:=by subst hal;simp [nth]
    rw [ho]
    have hany:∀ j ∈ List.range' (pre.length + 1) r.length,D j=true → False:=fun j hj hD=>by
      rw [hn j (by have:=List.mem_range'_1.1 hj;omega)] at hD;cases hD
    have ih:∀ s,aSeq P pin r K s → qMixS P pin F Z sg D al (List.range' (pre.length + 1) r.length) K s:=fun s hs=>by
      have:=qMixS_of (sg:=sg) (post:=r) (pre:=pre ++ [o]) (s:=s) (al:=al) (by rw [hal];simp) (fun i hi=>hn i (by simp at hi;omega)) hs
      simpa using this
    simp only [aSeq] at h
    unfold gstep
    cases hg:aguard s o.guard with
    | none=>rw [hg] at h;exact h.elim
    | some g =>
      rw [hg] at h
      exact ⟨fun e=>Gaz (fun s hs=>⟨(fun j hj hD=>(hany j hj hD).elim),ih s hs⟩) (h.1 e),fun e=>⟨(fun j hj hD=>(hany j hj hD).elim),ih _ (h.2 e)⟩⟩
theorem I6z {sg D:Nat → Bool} {al:List AOper} {rest:Nat} {R:S → Prop} (b:Bool):∀ {mid pre:List AOper} {s:S},(∃ t,al=pre ++ mid ++ t) → (∀ i,pre.length ≤ i → i < pre.length + mid.length → D i=true ∧ sg i=b) → (∀ s,R s → qMixS P pin F Z sg D al (List.range' (pre.length + mid.length) rest) K s) → qSeq P pin (F b) (Z b) mid R s → qMixS P pin F Z sg D al (List.range' pre.length (mid.length + rest)) K s
  | [],pre,s,_,_,hR,h=>by
    have:=hR s h
    simpa using this
  | o :: r,pre,s,⟨t,hal⟩,hD,hR,h=>by
    rw [List.length_cons,show r.length + 1 + rest=(r.length + rest) + 1 by omega,List.range'_succ]
    simp only [qMixS]
    have h0:=hD pre.length (Nat.le_refl _) (by simp)
    rw [if_pos h0.1,h0.2]
    have ho:nth al pre.length=o:=by subst hal;simp [nth]
    rw [ho]
    refine Elz (fun s hs=>?_) h
    have:=I6z b (mid:=r) (pre:=pre ++ [o]) (s:=s) (al:=al) (rest:=rest) (R:=R) ⟨t,by rw [hal];simp⟩ (fun i h1 h2=>hD i (by simp at h1;omega) (by simp at h1 h2 ⊢;omega)) (fun s hs=>by
      have:=hR s hs
      rw [List.length_cons] at this
      rw [List.length_append,List.length_singleton,show pre.length + 1 + r.length=pre.length + (r.length + 1) by omega]
      exact this) hs
    simpa using this
def zSeg (Z1 Z2:List Nat) (b:Bool):List Nat:=if b=true then Z1 else Z2
def fSeg (F:Nat → Option (List AV)) (b:Bool):Nat → Option (List AV):=if b=true then F else hk []
theorem awp_drawW {σ:List (Nat × AV)} {H:List (Nat × List AV)} {Q:Exit → S → Prop} {al a b post:List AOper} (o:AOper) (Z1 Z2:List Nat) (hal:al=a ++ o :: b ++ post) (hm:P.follows .mixedOrders=true)
    (hok:drawOkS (zSeg Z1 Z2) (fun i=>decide (i < a.length)) (midD a.length (a.length + 1 + b.length)) al=true)
    (h:qSeq P pin (hk (dropL Z1 H)) Z1 a (gstep P pin o (qSeq P pin (hk []) Z2 b (aSeq P pin post (Q .normal)))) (mkS σ H)):awp P pin (.draw al) Q (mkS σ H):=by
  have hF:Sees (hk (dropL Z1 H)) (mkS σ H):=fun j cs hj=>by
    rw [F5z] at hj
    split at hj
    · cases hj
    · exact hj
  have hZ1:∀ id ∈ Z1,hk (dropL Z1 H) id=none:=fun j hj=>by rw [F5z,if_pos hj]
  generalize hk (dropL Z1 H)=F1 at *
  have hZ:∀ b,∀ id ∈ zSeg Z1 Z2 b,fSeg F1 b id=none:=fun b id hid=>by
    cases b with
    | true=>exact hZ1 id hid
    | false=>rfl
  have hFF:∀ s,Sees (fSeg F1 false) s:=fun s id c hc=>by cases hc
  intro E M ac w cc hp hl hs
  subst hp
  cases cc<;>simp only [lowCode] at hl<;>first
    | (exfalso;first|(simp at hl;done)|((repeat' (split at hl))<;>simp at hl;done)|(simp only [Option.map_eq_some_iff] at hl;obtain ⟨_,_,hl⟩:=hl;(try split at hl)<;>simp at hl;done))
    | skip
  rename_i id os dr
  simp only [Option.map_eq_some_iff] at hl
  obtain ⟨l,hl1,hl2⟩:=hl
  cases dr with
  | false=>simp at hl2
  | true =>
    simp only [if_true,ACode.draw.injEq] at hl2
    subst hl2
    have hlen:a.length + (1 + (b.length + post.length))=os.size:=by
      have:=(Bxz hl1).1
      rw [hal] at this
      simp at this
      omega
    obtain ⟨D,hD⟩:∃ D,D=midD a.length (a.length + 1 + b.length):=⟨_,rfl⟩
    rw [← hD] at hok
    refine wpIn_region_any hm (qAnyS (F:=fSeg F1) (Z:=zSeg Z1 Z2) (Lows.plain hl1) hok hZ hFF (fun i j h1 h2=>by simp at h1 ⊢;omega) (fun a w h=>h) os.size _ M _ ac _ (by simp) (by simp [D5z]) (hs.drawn _) (fun i hi hDi=>?_) (fun i hi hi2=>by simp [Array.getD_eq_getD_getElem?,hi] at hi2) ?_)
    · by_cases h1:i < a.length
      · rw [show decide (i < a.length)=true by simp [h1]];exact hF
      · rw [show decide (i < a.length)=false by simp [h1]];exact hFF _
    rw [D5z,← hlen,List.range_eq_range']
    refine I6z true (pre:=[]) (mid:=a) (R:=gstep P E.pin o (qSeq P E.pin (hk []) Z2 b (aSeq P E.pin post (Q .normal)))) ⟨o :: b ++ post,by rw [hal];simp⟩ (fun i _ h2=>by simp at h2;simp [hD,midD,h2]) (fun s hs=>?_) h
    simp only [List.length_nil,Nat.zero_add]
    rw [show 1 + (b.length + post.length)=(b.length + post.length) + 1 by omega,List.range'_succ]
    simp only [qMixS]
    rw [if_neg (by simp [hD,midD])]
    have ho:nth l a.length=o:=by rw [hal];simp [nth]
    rw [ho]
    refine Kuz (fun s1 h1=>⟨fun j hj _=>?_,?_⟩) hs
    · have:=(List.mem_range'_1.1 hj).1
      rw [show decide (j < a.length)=false by simp;omega];exact hFF _
    have:=I6z (P:=P) (pin:=E.pin) (F:=fSeg F1) (Z:=zSeg Z1 Z2) (sg:=fun i=>decide (i < a.length)) (D:=D) (al:=l) (K:=Q .normal) (rest:=post.length) (R:=aSeq P E.pin post (Q .normal)) false (mid:=b) (pre:=a ++ [o]) (s:=s1) ⟨post,by rw [hal];simp⟩ (fun i h1 h2=>by
      simp at h1 h2
      have e1:a.length < i:=by omega
      have e2:i < a.length + 1 + b.length:=by omega
      exact ⟨by simp [hD,midD,e1,e2],by simp;omega⟩) (fun s2 h2=>by
        have:=qMixS_of (P:=P) (pin:=E.pin) (F:=fSeg F1) (Z:=zSeg Z1 Z2) (sg:=fun i=>decide (i < a.length)) (D:=D) (K:=Q .normal) (post:=post) (pre:=a ++ o :: b) (s:=s2) (al:=l) (by rw [hal]) (fun i hi=>by
          simp at hi
          have e1:¬ i < a.length:=by omega
          have e2:¬ i < a.length + 1 + b.length:=by omega
          simp [hD,midD,e1,e2]) h2
        simpa [Nat.add_assoc,Nat.add_comm,Nat.add_left_comm] using this) h1
    simpa using this
theorem qcallND {HF H:List (Nat × List AV)} {σ:List (Nat × AV)} {Z:List Nat} {f d:Nat} {ids:List Nat} {sh:Bool} {cargs:List AV} {H0:List (List AV)} {Q:AV → List (List AV) → Prop} {r:List AOper} (hn:ids.Nodup) (hc:BCall P f cargs H0 Q)
    (hH:ids.map (fun id=>(hk H id).map (List.map (AV.down ids sh (hk HF))))=H0.map some) (hz:∀ id ∈ ids,id ∈ Z ∧ isNw Z id=false) (hne:∃ v H',Q v H')
    (hK:∀ res H',Q res H' → (lenOk H0 H' ∧ H'.length - H0.length ≤ 16 ∧ freshD H d ∧ pin ≤ 16 * d ∧ ∀ z ∈ Z,¬ z / 16=d) ∧ qSeq P pin (hk HF) Z r K (after ids sh H0.length (some d) res H' (mkS σ H))):qcallI P pin HF Z f ids sh cargs (some d) r K σ H:=by
  intro args ha
  obtain ⟨v,H',hq⟩:=hne
  have h1:=(hK v H' hq).1
  have hall:∀ id ∈ ids,∃ c,hk H id=some c:=fun id hid=>by
    have hl:(hk H id).map (List.map (AV.down ids sh (hk HF))) ∈ H0.map some:=by rw [← hH];exact List.mem_map_of_mem hid
    obtain ⟨c,_,e⟩:=List.mem_map.1 hl
    cases h:hk H id with
    | none=>rw [h] at e;cases e
    | some c=>exact ⟨c,rfl⟩
  refine Lnz ids (ids.map fun id=>(id,(hk H id).getD [])) sh hc (by rw [List.map_map];simp [Function.comp_def]) ha ?_ hn (fun p hp=>?_) (Gsz fun d' h=>by injection h with h;subst h;exact h1.2.2) ⟨v,H',hq⟩ fun res H'' hq'=>⟨(hK res H'' hq').1.1,(hK res H'' hq').1.2.1,(hK res H'' hq').2⟩
  · have e:(ids.map fun id=>(id,(hk H id).getD [])).map (fun p=>some (p.2.map (AV.down ids sh (hk HF))))=H0.map some:=by
      rw [← hH,List.map_map]
      refine List.map_congr_left fun id hid=>?_
      obtain ⟨c,hc'⟩:=hall id hid
      simp [Function.comp,hc']
    have e2:=congrArg (List.map fun o:Option (List AV)=>o.getD []) e
    rw [List.map_map,List.map_map] at e2
    simpa [Function.comp_def] using e2
  · obtain ⟨id,hid,rfl⟩:=List.mem_map.1 hp
    obtain ⟨c,hc'⟩:=hall id hid
    refine ⟨?_,hz id hid⟩
    show hk H id=some ((hk H id).getD [])
    rw [hc'];rfl
end
end Vw
