/- Texts of this verifier. -/
import Derived.Test.YtpicoecbbiiaoaaCB9
import Derived.Test.YtpicoecbbiiaoaaCM1
import Derived.Test.YtpicoecbbiiaoaaCW3
set_option linter.unusedSimpArgs false
set_option linter.unusedVariables false
set_option maxRecDepth 4000
set_option maxHeartbeats 4000000
namespace Go.Proofs.Ytpicoecbbiiaoaa
open VwM Vw Go

def ctC (out e:List Int):Bool:=(allI out 0 4 && decide out.Nodup) && vSh (out.map (gE e)) && decide (pr (spE e) ≤ 4000)
def ctW (ts:List Tn) (ls:List (List Int)) (out e:List Int):Tn:=(out.map (gE e),ctV ts ls out e (pr (out.map (gE e))).toNat)
def ctT (ts:List Tn) (ls:List (List Int)) (out:List Int):Option Tn:=(exO ts ls).bind fun e=>if (ctC out e && vT (ctW ts ls out e))=true then some (ctW ts ls out e) else none
def t0 (o:Option Tn):Tn:=o.getD ([],[])
theorem Gjz {ts:List Tn} {ls:List (List Int)} {out:List Int} (h:exO ts ls=none):ctT ts ls out=none:=by unfold ctT;rw [h];rfl
theorem Gdz {ts:List Tn} {ls:List (List Int)} {out e:List Int} (h:exO ts ls=some e) (h2:(ctC out e && vT (ctW ts ls out e))=false):ctT ts ls out=none:=by unfold ctT;rw [h];simp only [Option.bind_some];rw [h2];rfl
theorem ctT_yes {ts:List Tn} {ls:List (List Int)} {out e:List Int} (h:exO ts ls=some e) (h2:ctC out e=true) (h3:vT (ctW ts ls out e)=true):ctT ts ls out=some (ctW ts ls out e):=by unfold ctT;rw [h];simp only [Option.bind_some];rw [h2,h3];rfl
/-- All labels of a good result are used. -/
theorem out_used {ts:List Tn} {ls:List (List Int)} {out e:List Int} (hC:CtOk ts ls e) (h1:allI out 0 4=true) (h2:vSh (out.map (gE e))=true):∀ x ∈ out,x ∈ ls.flatten:=fun x hx=>by
  have hr:=Btz.1 h1 x hx
  refine Classical.byContradiction fun hn=>?_
  obtain ⟨c,rfl⟩:∃ c:Nat,x=c:=⟨x.toNat,by omega⟩
  have h3:=hC.un c (by omega) hn
  have h4:=(Bdz h2).1.1 (gE e c) (List.mem_map.2 ⟨_,hx,rfl⟩)
  unfold gE at h4;rw [Int.toNat_natCast] at h4
  omega
theorem space_le {ts:List Tn} {ls:List (List Int)} {e:List Int} (hC:CtOk ts ls e):∀ x ∈ e,x ≤ 60:=fun y hy=>by
  obtain ⟨c,hc,rfl⟩:=Dkz.1 hy
  by_cases hm:(c:Int) ∈ ls.flatten
  · have:=(hC.used _ hm).2;unfold gE at this;rw [Int.toNat_natCast] at this;omega
  · have:=hC.un c (by have:=hC.len;omega) hm;omega
theorem Grz {ts:List Tn} {ls:List (List Int)} {e:List Int} (hC:CtOk ts ls e):0 ≤ pr (spE e) ∧ pr (spE e) ≤ 46656000000:=Ciz ⟨fun z hz=>by
    obtain ⟨y,hy,rfl⟩:=List.mem_map.1 hz
    have:=space_le hC y hy
    split<;>omega,by rw [B6z,hC.len];omega⟩
theorem lbS_short {out:List Int} (h:∀ x ∈ out,0 ≤ x ∧ x ≤ 4):((lbS out).length:Int) < out.length ↔ ¬ out.Nodup:=by
  constructor
  · intro hlt hn
    have hp:(lbS out).Perm out:=by
      rw [List.perm_ext_iff_of_nodup (Dbz out) hn]
      exact fun a=>by rw [Djz];exact ⟨fun h=>h.2,fun ha=>⟨h a ha,ha⟩⟩
    have:=hp.length_eq
    omega
  · intro hn
    refine Classical.byContradiction fun hge=>hn ?_
    have hsub:∀ {A B:List Int},A.Nodup → (∀ x ∈ A,x ∈ B) → A.length ≥ B.length → B.Nodup:=by
      intro A
      induction A with
 | nil=>intro B _ _ hl;have:B=[]:=List.eq_nil_of_length_eq_zero (by simpa using hl);subst this;exact List.nodup_nil
 | cons a A ih =>
        intro B hA hs hl
        rw [List.nodup_cons] at hA
        have haB:=hs a (by simp)
        have hpm:=List.perm_cons_erase haB
        have hle:(B.erase a).length + 1=B.length:=by have:=hpm.length_eq;simp at this;omega
        have:=ih (B:=B.erase a) hA.2 (fun x hx=>(List.mem_erase_of_ne (by intro e;apply hA.1;rw [← e];assumption)).2 (hs x (by simp [hx]))) (by simp at hl;omega)
        rw [hpm.nodup_iff,List.nodup_cons]
        refine ⟨fun hm=>?_,this⟩
        -- a stands twice in B: then A's members and one more lie in B.erase a
        have hcount:A.length + 1 ≤ (B.erase a).length:=by
          have h2:∀ {A B:List Int},A.Nodup → (∀ x ∈ A,x ∈ B) → A.length ≤ B.length:=by
            intro A
            induction A with
            | nil=>intro B _ _;simp
            | cons c A ih2 =>
              intro B hA hs
              rw [List.nodup_cons] at hA
              have hc:=hs c (by simp)
              have hpm2:=List.perm_cons_erase hc
              have hl2:=hpm2.length_eq
              have:=ih2 (B:=B.erase c) hA.2 (fun x hx=>(List.mem_erase_of_ne (by intro e;apply hA.1;rw [← e];assumption)).2 (hs x (by simp [hx])))
              simp at hl2 ⊢
              omega
          have:=h2 (A:=a :: A) (B:=B.erase a) (List.nodup_cons.2 hA) (fun x hx=>by
            rcases List.mem_cons.1 hx with rfl|hx
            · exact hm
            · exact (List.mem_erase_of_ne (by intro e;apply hA.1;rw [← e];assumption)).2 (hs x (by simp [hx])))
          simpa using this
        simp at hl
        omega
    exact hsub (Dbz out) (fun x hx=>(Djz.1 hx).2) (by omega)


set_option maxHeartbeats 8000000 in
theorem sgood_ok (out e:List Int) (q:Nat) (hq:out.length=q) (hb:q ≤ 1099511627776 ∧ e.length=5):PCall Try.prog 83 [.rows false (IL out) q,.rows false (IL e) 5] (fun r=>r=.bool ((allI out 0 4 && decide out.Nodup) && vSh (out.map (gE e)))):=by
  subst hq
  obtain ⟨hb0,h5⟩:=hb
  refine A0z l83_eq rfl ?_
  cases h1:allI out 0 4 with
  | false => (repeat' (first
 | (first|refine Akz ?_|refine Agz ?_)
 | ((first|refine Alz ?_|refine Afz ?_|refine Ahz ?_|refine Aiz ?_);simp (disch:=omega) only [push_cast,seval,l83r0,l83r1,h1,h5])
 | ((first|refine Abz ?_ ?_|refine Aez ?_ ?_|refine Adz ?_ ?_)<;>intro h<;>(try simp only [h])<;>(try simp only [bitvec_to_nat] at h)<;>(try simp only [h])<;>(first|(exfalso;omega)|(exfalso;simp_all;done)|(simp (disch:=omega) only [push_cast,seval,h1,h5])|skip))
 | ((first|refine Aoz false ?_|refine qcallD_of false ?_);simp (disch:=omega) only [push_cast,seval,h1,h5])
 | ((first|((first|refine call0D (BCall.ofP (allIn_ok _ _ _ _ ?_ ?_)) ?_|refine qcall0D (BCall.ofP (allIn_ok _ _ _ _ ?_ ?_)) ⟨_,_,rfl,rfl⟩ ?_);(iterate 2 (exact sd));rintro _ _ ⟨rfl,rfl⟩)|((first|refine call0D (BCall.ofP (sdifferent_ok _ _ ?_ ?_)) ?_|refine qcall0D (BCall.ofP (sdifferent_ok _ _ ?_ ?_)) ⟨_,_,rfl,rfl⟩ ?_);(iterate 2 (exact sd));rintro _ _ ⟨rfl,rfl⟩)|((first|refine call0D (spick_ok _ _ _ _ ?_ ?_ ?_) ?_|refine qcall0D (spick_ok _ _ _ _ ?_ ?_ ?_) ⟨_,_,rfl,rfl⟩ ?_);(iterate 3 (exact sd));rintro _ _ ⟨rfl,rfl⟩)|((first|refine call0D (BCall.ofP (svalidShape_ok _ _ ?_ ?_)) ?_|refine qcall0D (BCall.ofP (svalidShape_ok _ _ ?_ ?_)) ⟨_,_,rfl,rfl⟩ ?_);(iterate 2 (exact sd));rintro _ _ ⟨rfl,rfl⟩))<;>(try simp (disch:=omega) only [push_cast,seval,h1,h5]))
 | (refine Ajz ⟨.inr rfl,_,rfl,?_⟩;(try simp (disch:=omega) only [push_cast,seval,h1,h5]))))
  | true =>
    by_cases h2:out.Nodup
    · have hsh:=mt (lbS_short (Btz.1 h1)).1 (fun h=>h h2)
      have hlb:(lbS out).length ≤ 5:=Dlz out 5
      have q2:((5:Nat) ≤ 1000000 ∧ out.length ≤ 1000000) ∧ ∀ x ∈ out,0 ≤ x ∧ x < ((5:Nat):Int):=⟨⟨by omega,by omega⟩,fun x hx=>by have:=Btz.1 h1 x hx;omega⟩
      have hOl:(out.map (gE e)).length=out.length:=List.length_map _
      have hvs:vSh (out.map (gE e))=true → allI (out.map (gE e)) 0 60=true:=fun h=>Btz.2 (Bdz h).1.1
      generalize hOS:out.map (gE e)=OS at *
      cases h3:allI OS 0 60 with
 | false =>
        have h4:vSh OS=false:=by
          cases h:vSh OS with
          | false=>rfl
          | true=>rw [hvs h] at h3;cases h3
        (repeat' (first
 | (first|refine Akz ?_|refine Agz ?_)
 | ((first|refine Alz ?_|refine Afz ?_|refine Ahz ?_|refine Aiz ?_);simp (disch:=omega) only [push_cast,seval,l83r0,l83r1,h1,h2,h3,h4,h5,hOS,hOl])
 | ((first|refine Abz ?_ ?_|refine Aez ?_ ?_|refine Adz ?_ ?_)<;>intro h<;>(try simp only [h])<;>(try simp only [bitvec_to_nat] at h)<;>(try simp only [h])<;>(first|(exfalso;omega)|(exfalso;simp_all;done)|(simp (disch:=omega) only [push_cast,seval,h1,h2,h3,h4,h5,hOS,hOl])|skip))
 | ((first|refine Aoz false ?_|refine qcallD_of false ?_);simp (disch:=omega) only [push_cast,seval,h1,h2,h3,h4,h5,hOS,hOl])
 | ((first|((first|refine call0D (BCall.ofP (allIn_ok _ _ _ _ ?_ ?_)) ?_|refine qcall0D (BCall.ofP (allIn_ok _ _ _ _ ?_ ?_)) ⟨_,_,rfl,rfl⟩ ?_);(iterate 2 (exact sd));rintro _ _ ⟨rfl,rfl⟩)|((first|refine call0D (BCall.ofP (sdifferent_ok _ _ ?_ ?_)) ?_|refine qcall0D (BCall.ofP (sdifferent_ok _ _ ?_ ?_)) ⟨_,_,rfl,rfl⟩ ?_);(iterate 2 (exact sd));rintro _ _ ⟨rfl,rfl⟩)|((first|refine call0D (spick_ok _ _ _ _ ?_ ?_ ?_) ?_|refine qcall0D (BCall.ofP (plainI (spick_ok _ _ _ _ ?_ ?_ ?_))) ⟨_,_,rfl,rfl⟩ ?_);(iterate 3 (exact sd));rintro _ _ ⟨rfl,rfl⟩)|((first|refine call0D (BCall.ofP (svalidShape_ok _ _ ?_ ?_)) ?_|refine qcall0D (BCall.ofP (svalidShape_ok _ _ ?_ ?_)) ⟨_,_,rfl,rfl⟩ ?_);(iterate 2 (exact sd));rintro _ _ ⟨rfl,rfl⟩))<;>(try simp (disch:=omega) only [push_cast,seval,h1,h2,h3,h4,h5,hOS,hOl]))
 | (refine Ajz ⟨.inr rfl,_,rfl,?_⟩;(try simp (disch:=omega) only [push_cast,seval,h1,h2,h3,h4,h5,hOS,hOl]))))
 | true => (repeat' (first
 | (first|refine Akz ?_|refine Agz ?_)
 | ((first|refine Alz ?_|refine Afz ?_|refine Ahz ?_|refine Aiz ?_);simp (disch:=omega) only [push_cast,seval,l83r0,l83r1,h1,h2,h3,h5,hOS,hOl])
 | ((first|refine Abz ?_ ?_|refine Aez ?_ ?_|refine Adz ?_ ?_)<;>intro h<;>(try simp only [h])<;>(try simp only [bitvec_to_nat] at h)<;>(try simp only [h])<;>(first|(exfalso;omega)|(exfalso;simp_all;done)|(simp (disch:=omega) only [push_cast,seval,h1,h2,h3,h5,hOS,hOl])|skip))
 | ((first|refine Aoz false ?_|refine qcallD_of false ?_);simp (disch:=omega) only [push_cast,seval,h1,h2,h3,h5,hOS,hOl])
 | ((first|((first|refine call0D (BCall.ofP (allIn_ok _ _ _ _ ?_ ?_)) ?_|refine qcall0D (BCall.ofP (allIn_ok _ _ _ _ ?_ ?_)) ⟨_,_,rfl,rfl⟩ ?_);(iterate 2 (exact sd));rintro _ _ ⟨rfl,rfl⟩)|((first|refine call0D (BCall.ofP (sdifferent_ok _ _ ?_ ?_)) ?_|refine qcall0D (BCall.ofP (sdifferent_ok _ _ ?_ ?_)) ⟨_,_,rfl,rfl⟩ ?_);(iterate 2 (exact sd));rintro _ _ ⟨rfl,rfl⟩)|((first|refine call0D (spick_ok _ _ _ _ ?_ ?_ ?_) ?_|refine qcall0D (BCall.ofP (plainI (spick_ok _ _ _ _ ?_ ?_ ?_))) ⟨_,_,rfl,rfl⟩ ?_);(iterate 3 (exact sd));rintro _ _ ⟨rfl,rfl⟩)|((first|refine call0D (BCall.ofP (svalidShape_ok _ _ ?_ ?_)) ?_|refine qcall0D (BCall.ofP (svalidShape_ok _ _ ?_ ?_)) ⟨_,_,rfl,rfl⟩ ?_);(iterate 2 (exact sd));rintro _ _ ⟨rfl,rfl⟩))<;>(try simp (disch:=omega) only [push_cast,seval,h1,h2,h3,h5,hOS,hOl]))
 | (refine Ajz ⟨.inr rfl,_,rfl,?_⟩;(try simp (disch:=omega) only [push_cast,seval,h1,h2,h3,h5,hOS,hOl]))))
    · (repeat' (first
 | (first|refine Akz ?_|refine Agz ?_)
 | ((first|refine Alz ?_|refine Afz ?_|refine Ahz ?_|refine Aiz ?_);simp (disch:=omega) only [push_cast,seval,l83r0,l83r1,h1,h2,h5])
 | ((first|refine Abz ?_ ?_|refine Aez ?_ ?_|refine Adz ?_ ?_)<;>intro h<;>(try simp only [h])<;>(try simp only [bitvec_to_nat] at h)<;>(try simp only [h])<;>(first|(exfalso;omega)|(exfalso;simp_all;done)|(simp (disch:=omega) only [push_cast,seval,h1,h2,h5])|skip))
 | ((first|refine Aoz false ?_|refine qcallD_of false ?_);simp (disch:=omega) only [push_cast,seval,h1,h2,h5])
 | ((first|((first|refine call0D (BCall.ofP (allIn_ok _ _ _ _ ?_ ?_)) ?_|refine qcall0D (BCall.ofP (allIn_ok _ _ _ _ ?_ ?_)) ⟨_,_,rfl,rfl⟩ ?_);(iterate 2 (exact sd));rintro _ _ ⟨rfl,rfl⟩)|((first|refine call0D (BCall.ofP (sdifferent_ok _ _ ?_ ?_)) ?_|refine qcall0D (BCall.ofP (sdifferent_ok _ _ ?_ ?_)) ⟨_,_,rfl,rfl⟩ ?_);(iterate 2 (exact sd));rintro _ _ ⟨rfl,rfl⟩)|((first|refine call0D (spick_ok _ _ _ _ ?_ ?_ ?_) ?_|refine qcall0D (spick_ok _ _ _ _ ?_ ?_ ?_) ⟨_,_,rfl,rfl⟩ ?_);(iterate 3 (exact sd));rintro _ _ ⟨rfl,rfl⟩)|((first|refine call0D (BCall.ofP (svalidShape_ok _ _ ?_ ?_)) ?_|refine qcall0D (BCall.ofP (svalidShape_ok _ _ ?_ ?_)) ⟨_,_,rfl,rfl⟩ ?_);(iterate 2 (exact sd));rintro _ _ ⟨rfl,rfl⟩))<;>(try simp (disch:=omega) only [push_cast,seval,h1,h2,h5]))
 | (refine Ajz ⟨.inr rfl,_,rfl,?_⟩;(try simp (disch:=omega) only [push_cast,seval,h1,h2,h5]))))


set_option maxHeartbeats 16000000 in
theorem scon_ok (ts:List Tn) (ls:List (List Int)) (out:List Int) (n m q:Nat) (hn:ts.length=n) (hm:ls.length=m) (hq:out.length=q)
    (hb:(ts.all vT && (decide (1 ≤ ts.length) && decide (ts.length ≤ 3)) && decide (ls.length=ts.length))=true ∧ (n ≤ 1000 ∧ q ≤ 1099511627776) ∧ (∀ t ∈ ts,t.1.length ≤ 1000 ∧ t.2.length ≤ 1000) ∧ ∀ l ∈ ls,l.length ≤ 1099511627776) :
    BCall Try.prog 58 [.rows false (TL false ts) n,.rows false (LL false ls) m,.rows false (IL out) q] [] (fun r H'=>∃ t:Tn,r=.tup [.agg [.own 0 t.1.length 1,.own 1 t.2.length 1],.bool (ctT ts ls out).isSome] ∧ H'=[IL t.1,IL t.2] ∧ ((ctT ts ls out).isSome=true → ctT ts ls out=some t) ∧ t.1.length ≤ 1000000 ∧ t.2.length ≤ 1000000):=by
  subst hn hm hq
  obtain ⟨hv,⟨hb1,hb2⟩,hb3,hb4⟩:=hb
  have hv':=hv
  simp only [Bool.and_eq_true,decide_eq_true_eq] at hv'
  have hx:exO ts ls=exT ts ls:=by unfold exO;rw [hv];rfl
  have q1:ls.length=ts.length ∧ ts.length ≤ 1099511627776 ∧ (∀ t ∈ ts,t.1.length ≤ 1099511627776 ∧ t.2.length ≤ 1099511627776) ∧ ∀ l ∈ ls,l.length ≤ 1099511627776:=⟨hv'.2,by omega,fun t ht=>by have:=hb3 t ht;omega,hb4⟩
  refine A5z (pins:=[]) (pin:=0) l58_eq rfl rfl rfl ?_
  cases he:exT ts ls with
  | none =>
    rw [he] at hx
    have hno:=Gjz (out:=out) hx
    rw [hno]
    (repeat' (first
 | (first|refine Akz ?_|refine Agz ?_)
 | ((first|refine Alz ?_|refine Atz (mid:=l58r8a) (post:=l58r8b) Azz (by decide) ?_|refine Afz ?_|refine Ahz ?_|refine Aiz ?_);simp (disch:=omega) only [push_cast,seval,l58r0,l58r1,l58r2,l58r3,l58r4,l58r5,l58r6,l58r7,l58r8a,l58r8b,l58r8,he,Option.isSome_none,Option.getD_none,Acz,Aaz])
 | ((first|refine Abz ?_ ?_|refine Aez ?_ ?_|refine Adz ?_ ?_)<;>intro h<;>(try simp only [h])<;>(try simp only [bitvec_to_nat] at h)<;>(try simp only [h])<;>(first|(exfalso;omega)|(exfalso;simp_all;done)|(simp (disch:=omega) only [push_cast,seval,he,Option.isSome_none,Option.getD_none,Acz,Aaz])|skip))
 | ((first|refine Aoz false ?_|refine qcallD_of false ?_);simp (disch:=omega) only [push_cast,seval,he,Option.isSome_none,Option.getD_none,Acz,Aaz])
 | ((first|((first|refine call0D (Cyz _ _ _ _ ?_ ?_ ?_) ?_|refine qcall0D (Cyz _ _ _ _ ?_ ?_ ?_) ⟨_,_,rfl,rfl⟩ ?_);(iterate 3 (exact sd));rintro _ _ ⟨rfl,rfl⟩)|((first|refine call0D (BCall.ofP (sgood_ok _ _ _ ?_ ?_)) ?_|refine qcall0D (BCall.ofP (sgood_ok _ _ _ ?_ ?_)) ⟨_,_,rfl,rfl⟩ ?_);(iterate 2 (exact sd));rintro _ _ ⟨rfl,rfl⟩)|((first|refine call0D (sspace_ok _ _ ?_ ?_) ?_|refine qcall0D (sspace_ok _ _ ?_ ?_) ⟨_,_,rfl,rfl⟩ ?_);(iterate 2 (exact sd));rintro _ _ ⟨rfl,rfl⟩)|((first|refine call0D (scontr_ok _ _ _ _ _ _ _ ?_ ?_ ?_ ?_) ?_|refine qcall0D (scontr_ok _ _ _ _ _ _ _ ?_ ?_ ?_ ?_) ⟨_,_,rfl,rfl⟩ ?_);(iterate 4 (exact sd));rintro _ _ ⟨rfl,rfl⟩)|((first|refine call0D (BCall.ofP (svT_ok _ _ _ _ ?_ ?_ ?_)) ?_|refine qcall0D (BCall.ofP (svT_ok _ _ _ _ ?_ ?_ ?_)) ⟨_,_,rfl,rfl⟩ ?_);(iterate 3 (exact sd));rintro _ _ ⟨rfl,rfl⟩))<;>(try simp (disch:=omega) only [push_cast,seval,he,Option.isSome_none,Option.getD_none,Acz,Aaz]))
 | (refine Ajz ⟨.inr rfl,[16000,16016],[(16000,1),(16016,1)],_,by decide,rfl,?_⟩;(try simp (disch:=omega) only [push_cast,seval,↓Arz,↓Apz,↓List.map_cons,↓List.map_nil,he,Option.isSome_none,Option.getD_none,Acz,Aaz]))))
    all_goals exact ⟨([],[]),rfl,rfl,fun h=>h.elim,by simp,by simp⟩
  | some e =>
    rw [he] at hx
    have hC:=ctOk_of hx
    have h5:=hC.len
    have hOl:(out.map (gE e)).length=out.length:=List.length_map _
    have hb4':∀ l ∈ ls,l.length ≤ 1000:=fun l hl=>by
      obtain ⟨i,hi⟩:=List.mem_iff_getElem?.1 hl
      have hil:=(List.getElem?_eq_some_iff.1 hi).1
      have hit:ts[i]?=some (ts[i]'(by omega)):=List.getElem?_eq_getElem _
      have h1:=(hC.lab i _ l hit hi).2.1
      have h2:=hb3 _ (List.mem_of_getElem? hit)
      omega
    have hsp:=Grz hC
    have q2:out.length ≤ 1099511627776 ∧ e.length=5:=⟨hb2,h5⟩
    have q3:(5:Nat) ≤ 6 ∧ ∀ x ∈ e,x ≤ 60:=⟨by omega,space_le hC⟩
    cases hg:((allI out 0 4 && decide out.Nodup) && vSh (out.map (gE e))) with
    | false =>
      have hno:=Gdz (out:=out) hx (by unfold ctC;rw [hg];rfl)
      rw [hno]
      (repeat' (first
 | (first|refine Akz ?_|refine Agz ?_)
 | ((first|refine Alz ?_|refine Atz (mid:=l58r8a) (post:=l58r8b) Azz (by decide) ?_|refine Afz ?_|refine Ahz ?_|refine Aiz ?_);simp (disch:=omega) only [push_cast,seval,l58r0,l58r1,l58r2,l58r3,l58r4,l58r5,l58r6,l58r7,l58r8a,l58r8b,l58r8,he,hg,h5,Option.isSome_none,Option.isSome_some,Option.getD_some,Acz,Aaz])
 | ((first|refine Abz ?_ ?_|refine Aez ?_ ?_|refine Adz ?_ ?_)<;>intro h<;>(try simp only [h])<;>(try simp only [bitvec_to_nat] at h)<;>(try simp only [h])<;>(first|(exfalso;omega)|(exfalso;simp_all;done)|(simp (disch:=omega) only [push_cast,seval,he,hg,h5,Option.isSome_none,Option.isSome_some,Option.getD_some,Acz,Aaz])|skip))
 | ((first|refine Aoz false ?_|refine qcallD_of false ?_);simp (disch:=omega) only [push_cast,seval,he,hg,h5,Option.isSome_none,Option.isSome_some,Option.getD_some,Acz,Aaz])
 | ((first|((first|refine call0D (Cyz _ _ _ _ ?_ ?_ ?_) ?_|refine qcall0D (Cyz _ _ _ _ ?_ ?_ ?_) ⟨_,_,rfl,rfl⟩ ?_);(iterate 3 (exact sd));rintro _ _ ⟨rfl,rfl⟩)|((first|refine call0D (BCall.ofP (sgood_ok _ _ _ ?_ ?_)) ?_|refine qcall0D (BCall.ofP (sgood_ok _ _ _ ?_ ?_)) ⟨_,_,rfl,rfl⟩ ?_);(iterate 2 (exact sd));rintro _ _ ⟨rfl,rfl⟩)|((first|refine call0D (sspace_ok _ _ ?_ ?_) ?_|refine qcall0D (sspace_ok _ _ ?_ ?_) ⟨_,_,rfl,rfl⟩ ?_);(iterate 2 (exact sd));rintro _ _ ⟨rfl,rfl⟩)|((first|refine call0D (scontr_ok _ _ _ _ _ _ _ ?_ ?_ ?_ ?_) ?_|refine qcall0D (scontr_ok _ _ _ _ _ _ _ ?_ ?_ ?_ ?_) ⟨_,_,rfl,rfl⟩ ?_);(iterate 4 (exact sd));rintro _ _ ⟨rfl,rfl⟩)|((first|refine call0D (BCall.ofP (svT_ok _ _ _ _ ?_ ?_ ?_)) ?_|refine qcall0D (BCall.ofP (svT_ok _ _ _ _ ?_ ?_ ?_)) ⟨_,_,rfl,rfl⟩ ?_);(iterate 3 (exact sd));rintro _ _ ⟨rfl,rfl⟩))<;>(try simp (disch:=omega) only [push_cast,seval,he,hg,h5,Option.isSome_none,Option.isSome_some,Option.getD_some,Acz,Aaz]))
 | (refine Ajz ⟨.inr rfl,[16000,16016],[(16000,1),(16016,1)],_,by decide,rfl,?_⟩;(try simp (disch:=omega) only [push_cast,seval,↓Arz,↓Apz,↓List.map_cons,↓List.map_nil,he,hg,h5,Option.isSome_none,Option.isSome_some,Option.getD_some,Acz,Aaz]))))
      all_goals exact ⟨([],[]),rfl,rfl,fun h=>h.elim,by simp,by simp⟩
    | true =>
      by_cases hc:pr (spE e) ≤ 4000
      · have hcc:ctC out e=true:=by unfold ctC;rw [hg];simpa using hc
        have hg':=hg
        simp only [Bool.and_eq_true,decide_eq_true_eq] at hg'
        obtain ⟨⟨hg1,hg2⟩,hg3⟩:=hg'
        have ho:=out_used hC hg1 hg3
        have hgs:=Bdz hg3
        have hVl:=ctV_len ts ls out e (pr (out.map (gE e))).toNat
        have hW:ctW ts ls out e=(out.map (gE e),ctV ts ls out e (pr (out.map (gE e))).toNat):=rfl
        have hyes:=fun h=>ctT_yes (ts:=ts) (ls:=ls) (out:=out) (e:=e) hx hcc h
        have hnot:=fun h=>Gdz (ts:=ts) (ls:=ls) (out:=out) (e:=e) hx h
        rw [hcc,Bool.true_and] at hnot
        have hN60:(pr (out.map (gE e))).toNat ≤ 60:=by omega
        have hol:out.length ≤ 4:=by have:=hgs.1.2;omega
        rw [hW] at hyes hnot
        generalize hOS:out.map (gE e)=OS at *
        generalize hV:ctV ts ls out e (pr OS).toNat=V at *
        generalize hNN:(pr OS).toNat=N at *
        have q4:CtOk ts ls e ∧ ts.length ≤ 1000 ∧ (∀ x ∈ out,x ∈ ls.flatten) ∧ out.Nodup ∧ vSh (out.map (gE e))=true ∧ (∀ t ∈ ts,t.1.length ≤ 1000 ∧ t.2.length ≤ 1000) ∧ (∀ l ∈ ls,l.length ≤ 1000) ∧ pr (spE e) ≤ 4000:=⟨hC,hb1,ho,hg2,by rw [hOS];exact hg3,hb3,hb4',hc⟩
        have q5:OS.length ≤ 1099511627776 ∧ N ≤ 1099511627776:=⟨by omega,by omega⟩
        have q6:out.length ≤ 1099511627776 ∧ N ≤ 1099511627776:=⟨by omega,by omega⟩
        cases hvt:vT (OS,V) with
        | false =>
          rw [hnot hvt]
          (repeat' (first
 | (first|refine Akz ?_|refine Agz ?_)
 | ((first|refine Alz ?_|refine Atz (mid:=l58r8a) (post:=l58r8b) Azz (by decide) ?_|refine Afz ?_|refine Ahz ?_|refine Aiz ?_);simp (disch:=omega) only [push_cast,seval,l58r0,l58r1,l58r2,l58r3,l58r4,l58r5,l58r6,l58r7,l58r8a,l58r8b,l58r8,he,hg,hc,hvt,hOS,hV,hOl,hNN,hVl,h5,Anz,Option.isSome_none,Option.isSome_some,Option.getD_some,Acz,Aaz])
 | ((first|refine Abz ?_ ?_|refine Aez ?_ ?_|refine Adz ?_ ?_)<;>intro h<;>(try simp only [h])<;>(try simp only [bitvec_to_nat] at h)<;>(try simp only [h])<;>(first|(exfalso;omega)|(exfalso;simp_all;done)|(simp (disch:=omega) only [push_cast,seval,he,hg,hc,hvt,hOS,hV,hOl,hNN,hVl,h5,Anz,Option.isSome_none,Option.isSome_some,Option.getD_some,Acz,Aaz])|skip))
 | ((first|refine Aoz false ?_|refine qcallD_of false ?_);simp (disch:=omega) only [push_cast,seval,he,hg,hc,hvt,hOS,hV,hOl,hNN,hVl,h5,Anz,Option.isSome_none,Option.isSome_some,Option.getD_some,Acz,Aaz])
 | ((first|((first|refine call0D (Cyz _ _ _ _ ?_ ?_ ?_) ?_|refine qcall0D (Cyz _ _ _ _ ?_ ?_ ?_) ⟨_,_,rfl,rfl⟩ ?_);(iterate 3 (exact sd));rintro _ _ ⟨rfl,rfl⟩)|((first|refine call0D (BCall.ofP (sgood_ok _ _ _ ?_ ?_)) ?_|refine qcall0D (BCall.ofP (sgood_ok _ _ _ ?_ ?_)) ⟨_,_,rfl,rfl⟩ ?_);(iterate 2 (exact sd));rintro _ _ ⟨rfl,rfl⟩)|((first|refine call0D (sspace_ok _ _ ?_ ?_) ?_|refine qcall0D (sspace_ok _ _ ?_ ?_) ⟨_,_,rfl,rfl⟩ ?_);(iterate 2 (exact sd));rintro _ _ ⟨rfl,rfl⟩)|((first|refine call0D (scontr_ok _ _ _ _ _ _ _ ?_ ?_ ?_ ?_) ?_|refine qcall0D (scontr_ok _ _ _ _ _ _ _ ?_ ?_ ?_ ?_) ⟨_,_,rfl,rfl⟩ ?_);(iterate 4 (exact sd));rintro _ _ ⟨rfl,rfl⟩)|((first|refine call0D (BCall.ofP (svT_ok _ _ _ _ ?_ ?_ ?_)) ?_|refine qcall0D (BCall.ofP (svT_ok _ _ _ _ ?_ ?_ ?_)) ⟨_,_,rfl,rfl⟩ ?_);(iterate 3 (exact sd));rintro _ _ ⟨rfl,rfl⟩))<;>(try simp (disch:=omega) only [push_cast,seval,he,hg,hc,hvt,hOS,hV,hOl,hNN,hVl,h5,Anz,Option.isSome_none,Option.isSome_some,Option.getD_some,Acz,Aaz]))
 | (refine Ajz ⟨.inr rfl,[640,641],[],_,by decide,rfl,?_⟩; (try simp (disch := omega) only [push_cast,seval,↓Arz,↓Apz,↓List.map_cons,↓List.map_nil,he,hg,hc,hvt,hOS,hV,hOl,hNN,hVl,h5,Anz,Option.isSome_none,Option.isSome_some,Option.getD_some,Acz,Aaz]))))
          all_goals exact ⟨(OS,V),by simp only [hOl,hVl],rfl,fun h=>h.elim,by show OS.length ≤ _;omega,by show V.length ≤ _;omega⟩
        | true =>
          rw [hyes hvt]
          (repeat' (first
 | (first|refine Akz ?_|refine Agz ?_)
 | ((first|refine Alz ?_|refine Atz (mid:=l58r8a) (post:=l58r8b) Azz (by decide) ?_|refine Afz ?_|refine Ahz ?_|refine Aiz ?_);simp (disch:=omega) only [push_cast,seval,l58r0,l58r1,l58r2,l58r3,l58r4,l58r5,l58r6,l58r7,l58r8a,l58r8b,l58r8,he,hg,hc,hvt,hOS,hV,hOl,hNN,hVl,h5,Anz,Option.isSome_none,Option.isSome_some,Option.getD_some,Acz,Aaz])
 | ((first|refine Abz ?_ ?_|refine Aez ?_ ?_|refine Adz ?_ ?_)<;>intro h<;>(try simp only [h])<;>(try simp only [bitvec_to_nat] at h)<;>(try simp only [h])<;>(first|(exfalso;omega)|(exfalso;simp_all;done)|(simp (disch:=omega) only [push_cast,seval,he,hg,hc,hvt,hOS,hV,hOl,hNN,hVl,h5,Anz,Option.isSome_none,Option.isSome_some,Option.getD_some,Acz,Aaz])|skip))
 | ((first|refine Aoz false ?_|refine qcallD_of false ?_);simp (disch:=omega) only [push_cast,seval,he,hg,hc,hvt,hOS,hV,hOl,hNN,hVl,h5,Anz,Option.isSome_none,Option.isSome_some,Option.getD_some,Acz,Aaz])
 | ((first|((first|refine call0D (Cyz _ _ _ _ ?_ ?_ ?_) ?_|refine qcall0D (Cyz _ _ _ _ ?_ ?_ ?_) ⟨_,_,rfl,rfl⟩ ?_);(iterate 3 (exact sd));rintro _ _ ⟨rfl,rfl⟩)|((first|refine call0D (BCall.ofP (sgood_ok _ _ _ ?_ ?_)) ?_|refine qcall0D (BCall.ofP (sgood_ok _ _ _ ?_ ?_)) ⟨_,_,rfl,rfl⟩ ?_);(iterate 2 (exact sd));rintro _ _ ⟨rfl,rfl⟩)|((first|refine call0D (sspace_ok _ _ ?_ ?_) ?_|refine qcall0D (sspace_ok _ _ ?_ ?_) ⟨_,_,rfl,rfl⟩ ?_);(iterate 2 (exact sd));rintro _ _ ⟨rfl,rfl⟩)|((first|refine call0D (scontr_ok _ _ _ _ _ _ _ ?_ ?_ ?_ ?_) ?_|refine qcall0D (scontr_ok _ _ _ _ _ _ _ ?_ ?_ ?_ ?_) ⟨_,_,rfl,rfl⟩ ?_);(iterate 4 (exact sd));rintro _ _ ⟨rfl,rfl⟩)|((first|refine call0D (BCall.ofP (svT_ok _ _ _ _ ?_ ?_ ?_)) ?_|refine qcall0D (BCall.ofP (svT_ok _ _ _ _ ?_ ?_ ?_)) ⟨_,_,rfl,rfl⟩ ?_);(iterate 3 (exact sd));rintro _ _ ⟨rfl,rfl⟩))<;>(try simp (disch:=omega) only [push_cast,seval,he,hg,hc,hvt,hOS,hV,hOl,hNN,hVl,h5,Anz,Option.isSome_none,Option.isSome_some,Option.getD_some,Acz,Aaz]))
 | (refine Ajz ⟨.inr rfl,[640,641],[],_,by decide,rfl,?_⟩; (try simp (disch := omega) only [push_cast,seval,↓Arz,↓Apz,↓List.map_cons,↓List.map_nil,he,hg,hc,hvt,hOS,hV,hOl,hNN,hVl,h5,Anz,Option.isSome_none,Option.isSome_some,Option.getD_some,Acz,Aaz]))))
          all_goals exact ⟨(OS,V),by simp only [hOl,hVl],rfl,fun _=>rfl,by show OS.length ≤ _;omega,by show V.length ≤ _;omega⟩
      · have hno:=Gdz (ts:=ts) (ls:=ls) (out:=out) (e:=e) hx (by unfold ctC;rw [hg];simp only [Bool.true_and];rw [show decide (pr (spE e) ≤ 4000)=false by simpa using hc];rfl)
        rw [hno]
        (repeat' (first
 | (first|refine Akz ?_|refine Agz ?_)
 | ((first|refine Alz ?_|refine Atz (mid:=l58r8a) (post:=l58r8b) Azz (by decide) ?_|refine Afz ?_|refine Ahz ?_|refine Aiz ?_);simp (disch:=omega) only [push_cast,seval,l58r0,l58r1,l58r2,l58r3,l58r4,l58r5,l58r6,l58r7,l58r8a,l58r8b,l58r8,he,hg,hc,h5,Option.isSome_none,Option.isSome_some,Option.getD_some,Acz,Aaz])
 | ((first|refine Abz ?_ ?_|refine Aez ?_ ?_|refine Adz ?_ ?_)<;>intro h<;>(try simp only [h])<;>(try simp only [bitvec_to_nat] at h)<;>(try simp only [h])<;>(first|(exfalso;omega)|(exfalso;simp_all;done)|(simp (disch:=omega) only [push_cast,seval,he,hg,hc,h5,Option.isSome_none,Option.isSome_some,Option.getD_some,Acz,Aaz])|skip))
 | ((first|refine Aoz false ?_|refine qcallD_of false ?_);simp (disch:=omega) only [push_cast,seval,he,hg,hc,h5,Option.isSome_none,Option.isSome_some,Option.getD_some,Acz,Aaz])
 | ((first|((first|refine call0D (Cyz _ _ _ _ ?_ ?_ ?_) ?_|refine qcall0D (Cyz _ _ _ _ ?_ ?_ ?_) ⟨_,_,rfl,rfl⟩ ?_);(iterate 3 (exact sd));rintro _ _ ⟨rfl,rfl⟩)|((first|refine call0D (BCall.ofP (sgood_ok _ _ _ ?_ ?_)) ?_|refine qcall0D (BCall.ofP (sgood_ok _ _ _ ?_ ?_)) ⟨_,_,rfl,rfl⟩ ?_);(iterate 2 (exact sd));rintro _ _ ⟨rfl,rfl⟩)|((first|refine call0D (sspace_ok _ _ ?_ ?_) ?_|refine qcall0D (sspace_ok _ _ ?_ ?_) ⟨_,_,rfl,rfl⟩ ?_);(iterate 2 (exact sd));rintro _ _ ⟨rfl,rfl⟩)|((first|refine call0D (scontr_ok _ _ _ _ _ _ _ ?_ ?_ ?_ ?_) ?_|refine qcall0D (scontr_ok _ _ _ _ _ _ _ ?_ ?_ ?_ ?_) ⟨_,_,rfl,rfl⟩ ?_);(iterate 4 (exact sd));rintro _ _ ⟨rfl,rfl⟩)|((first|refine call0D (BCall.ofP (svT_ok _ _ _ _ ?_ ?_ ?_)) ?_|refine qcall0D (BCall.ofP (svT_ok _ _ _ _ ?_ ?_ ?_)) ⟨_,_,rfl,rfl⟩ ?_);(iterate 3 (exact sd));rintro _ _ ⟨rfl,rfl⟩))<;>(try simp (disch:=omega) only [push_cast,seval,he,hg,hc,h5,Option.isSome_none,Option.isSome_some,Option.getD_some,Acz,Aaz]))
 | (refine Ajz ⟨.inr rfl,[16000,16016],[(16000,1),(16016,1)],_,by decide,rfl,?_⟩;(try simp (disch:=omega) only [push_cast,seval,↓Arz,↓Apz,↓List.map_cons,↓List.map_nil,he,hg,hc,h5,Option.isSome_none,Option.isSome_some,Option.getD_some,Acz,Aaz]))))
        all_goals exact ⟨([],[]),rfl,rfl,fun h=>h.elim,by simp,by simp⟩


/-- What a contraction yields: a tensor,whether it is possible. -/
abbrev OTn (o:Option Tn):AV → List (List AV) → Prop:=fun r H'=>r=.tup [.agg [.own 0 (t0 o).1.length 1,.own 1 (t0 o).2.length 1],.bool o.isSome] ∧ H'=[IL (t0 o).1,IL (t0 o).2]
theorem ctT_short {ts:List Tn} {ls:List (List Int)} {out:List Int}:(t0 (ctT ts ls out)).1.length ≤ 60 ∧ (t0 (ctT ts ls out)).2.length ≤ 60:=by
  cases h:ctT ts ls out with
  | none=>simp [t0]
  | some t =>
    unfold ctT at h
    cases he:exO ts ls with
    | none=>rw [he] at h;cases h
    | some e =>
      rw [he] at h
      simp only [Option.bind_some] at h
      split at h
      · rename_i hc
        injection h with h
        rw [Bool.and_eq_true] at hc
        have hv:=Fsz.1 hc.2
        rw [← h]
        simp only [t0,Option.getD_some]
        have hs:=Bdz hv.1
        have:=hs.1.2
        have h2:=hv.2.1
        omega
      · cases h


set_option maxHeartbeats 16000000 in
theorem sCon_ok (ts:List Tn) (ls:List (List Int)) (out:List Int) (n m q:Nat) (hn:ts.length=n) (hm:ls.length=m) (hq:out.length=q)
    (hb:(n ≤ 1048576 ∧ m ≤ 1048576 ∧ q ≤ 1048576) ∧ (∀ t ∈ ts,t.1.length ≤ 1099511627776 ∧ t.2.length ≤ 1099511627776) ∧ ∀ l ∈ ls,l.length ≤ 1099511627776) :
    BCall Try.prog 30 [.rows false (TL false ts) n,.rows false (LL false ls) m,.rows false (IL out) q] [] (OTn (ctT ts ls out)):=by
  subst hn hm hq
  obtain ⟨⟨hb0,hb1,hb2⟩,hb3,hb4⟩:=hb
  refine A5z (pins:=[]) (pin:=0) l30_eq rfl rfl rfl ?_
  have q1:ts.length ≤ 1099511627776 ∧ ls.length ≤ 1099511627776 ∧ ∀ t ∈ ts,t.1.length ≤ 1099511627776 ∧ t.2.length ≤ 1099511627776:=⟨by omega,by omega,hb3⟩
  cases hv:(ts.all vT && (decide (1 ≤ ts.length) && decide (ts.length ≤ 3)) && decide (ls.length=ts.length)) with
  | false =>
    have hno:=Gjz (ts:=ts) (ls:=ls) (out:=out) (by unfold exO;rw [hv];rfl)
    rw [hno]
    (repeat' (first
 | (first|refine Akz ?_|refine Agz ?_)
 | ((first|refine Alz ?_|refine Afz ?_|refine Ahz ?_|refine Aiz ?_);simp (disch:=omega) only [push_cast,seval,l30r0,l30r1,l30r2,l30r3,l30r4,l30r5,l30r6,hv,Option.isSome_none,Acz,Aaz])
 | ((first|refine Abz ?_ ?_|refine Aez ?_ ?_|refine Adz ?_ ?_)<;>intro h<;>(try simp only [h])<;>(try simp only [bitvec_to_nat] at h)<;>(try simp only [h])<;>(first|(exfalso;omega)|(exfalso;simp_all;done)|(simp (disch:=omega) only [push_cast,seval,hv,Option.isSome_none,Acz,Aaz])|skip))
 | ((first|refine Aoz false ?_|refine qcallD_of false ?_);simp (disch:=omega) only [push_cast,seval,hv,Option.isSome_none,Acz,Aaz])
 | ((first|((first|refine call0D (BCall.ofP (Fuz _ _ _ _ ?_ ?_ ?_)) ?_|refine qcall0D (BCall.ofP (Fuz _ _ _ _ ?_ ?_ ?_)) ⟨_,_,rfl,rfl⟩ ?_);(iterate 3 (exact sd));rintro _ _ ⟨rfl,rfl⟩)|(refine call0D (scon_ok _ _ _ _ _ _ ?_ ?_ ?_ ?_) ?_;(iterate 4 (exact sd));rintro _ _ ⟨t9,rfl,rfl,ht9,ht8,ht7⟩))<;>(try simp (disch:=omega) only [push_cast,seval,hv,Option.isSome_none,Acz,Aaz]))
 | (refine Ajz ⟨.inr rfl,[16000,16016],[(16000,1),(16016,1)],_,by decide,rfl,?_⟩;(try simp (disch:=omega) only [push_cast,seval,↓Arz,↓Apz,↓List.map_cons,↓List.map_nil,hv,Option.isSome_none,Acz,Aaz]))))
    all_goals exact ⟨rfl,rfl⟩
  | true =>
    have hv':=hv
    simp only [Bool.and_eq_true,decide_eq_true_eq,List.all_eq_true] at hv'
    have hb3':∀ t ∈ ts,t.1.length ≤ 1000 ∧ t.2.length ≤ 1000:=fun t ht=>by
      have h1:=Fsz.1 (hv'.1.1 t ht)
      have h2:=Bdz h1.1
      have h3:=h2.1.2
      have h4:=h1.2.1
      omega
    have q2:(ts.all vT && (decide (1 ≤ ts.length) && decide (ts.length ≤ 3)) && decide (ls.length=ts.length))=true ∧ (ts.length ≤ 1000 ∧ out.length ≤ 1099511627776) ∧ (∀ t ∈ ts,t.1.length ≤ 1000 ∧ t.2.length ≤ 1000) ∧ ∀ l ∈ ls,l.length ≤ 1099511627776:=⟨hv,⟨by omega,by omega⟩,hb3',hb4⟩
    cases ho:ctT ts ls out with
    | none =>
      (repeat' (first
 | (first|refine Akz ?_|refine Agz ?_)
 | ((first|refine Alz ?_|refine Afz ?_|refine Ahz ?_|refine Aiz ?_);simp (disch:=omega) only [push_cast,seval,l30r0,l30r1,l30r2,l30r3,l30r4,l30r5,l30r6,hv,ho,Option.isSome_none,Acz,Aaz])
 | ((first|refine Abz ?_ ?_|refine Aez ?_ ?_|refine Adz ?_ ?_)<;>intro h<;>(try simp only [h])<;>(try simp only [bitvec_to_nat] at h)<;>(try simp only [h])<;>(first|(exfalso;omega)|(exfalso;simp_all;done)|(simp (disch:=omega) only [push_cast,seval,hv,ho,Option.isSome_none,Acz,Aaz])|skip))
 | ((first|refine Aoz false ?_|refine qcallD_of false ?_);simp (disch:=omega) only [push_cast,seval,hv,ho,Option.isSome_none,Acz,Aaz])
 | ((first|((first|refine call0D (BCall.ofP (Fuz _ _ _ _ ?_ ?_ ?_)) ?_|refine qcall0D (BCall.ofP (Fuz _ _ _ _ ?_ ?_ ?_)) ⟨_,_,rfl,rfl⟩ ?_);(iterate 3 (exact sd));rintro _ _ ⟨rfl,rfl⟩)|(refine call0D (scon_ok _ _ _ _ _ _ ?_ ?_ ?_ ?_) ?_;(iterate 4 (exact sd));rintro _ _ ⟨t9,rfl,rfl,ht9,ht8,ht7⟩))<;>(try simp (disch:=omega) only [push_cast,seval,hv,ho,Option.isSome_none,Acz,Aaz]))
 | (refine Ajz ⟨.inr rfl,[16000,16016],[(16000,1),(16016,1)],_,by decide,rfl,?_⟩;(try simp (disch:=omega) only [push_cast,seval,↓Arz,↓Apz,↓List.map_cons,↓List.map_nil,hv,ho,Option.isSome_none,Acz,Aaz]))))
      all_goals exact ⟨rfl,rfl⟩
    | some t =>
      (repeat' (first
 | (first|refine Akz ?_|refine Agz ?_)
 | ((first|refine Alz ?_|refine Afz ?_|refine Ahz ?_|refine Aiz ?_);simp (disch:=omega) only [push_cast,seval,l30r0,l30r1,l30r2,l30r3,l30r4,l30r5,l30r6,hv,ho,Option.isSome_some,Acz,Aaz])
 | ((first|refine Abz ?_ ?_|refine Aez ?_ ?_|refine Adz ?_ ?_)<;>intro h<;>(try simp only [h])<;>(try simp only [bitvec_to_nat] at h)<;>(try simp only [h])<;>(first|(exfalso;omega)|(exfalso;simp_all;done)|(simp (disch:=omega) only [push_cast,seval,hv,ho,Option.isSome_some,Acz,Aaz])|skip))
 | ((first|refine Aoz false ?_|refine qcallD_of false ?_);simp (disch:=omega) only [push_cast,seval,hv,ho,Option.isSome_some,Acz,Aaz])
 | ((first|((first|refine call0D (BCall.ofP (Fuz _ _ _ _ ?_ ?_ ?_)) ?_|refine qcall0D (BCall.ofP (Fuz _ _ _ _ ?_ ?_ ?_)) ⟨_,_,rfl,rfl⟩ ?_);(iterate 3 (exact sd));rintro _ _ ⟨rfl,rfl⟩)|(refine call0D (scon_ok _ _ _ _ _ _ ?_ ?_ ?_ ?_) ?_;(iterate 4 (exact sd));rintro _ _ ⟨t9,rfl,rfl,ht9,ht8,ht7⟩))<;>(try simp (disch:=omega) only [push_cast,seval,hv,ho,Option.isSome_some,Acz,Aaz]))
 | (refine Ajz ⟨.inr rfl,[304,305],[],_,by decide,rfl,?_⟩;(try simp (disch:=omega) only [push_cast,seval,↓Arz,↓Apz,↓List.map_cons,↓List.map_nil,hv,ho,Option.isSome_some,Acz,Aaz]))))
      all_goals (simp only [ho,Option.isSome_some,forall_const,Option.some.injEq] at ht9;subst ht9;exact ⟨rfl,rfl⟩)


set_option maxHeartbeats 32000000 in
theorem iCon_ok (ts:List Tn) (ls:List (List Int)) (out:List Int) (n m q:Nat) (hn:ts.length=n) (hm:ls.length=m) (hq:out.length=q)
    (hb:(n ≤ 1048576 ∧ m ≤ 1048576 ∧ q ≤ 1048576) ∧ (∀ t ∈ ts,t.1.length ≤ 1099511627776 ∧ t.2.length ≤ 1099511627776) ∧ ∀ l ∈ ls,l.length ≤ 1099511627776) :
    BCall Try.prog 31 [.rows false (TL false ts) n,.rows false (LL false ls) m,.rows false (IL out) q] [] (OTn (ctT ts ls out)):=by
  subst hn hm hq
  obtain ⟨⟨hb0,hb1,hb2⟩,hb3,hb4⟩:=hb
  refine A5z (pins:=[]) (pin:=0) l31_eq rfl rfl rfl ?_
  have q1:ts.length ≤ 1099511627776 ∧ ls.length ≤ 1099511627776 ∧ out.length ≤ 1099511627776 ∧ (∀ t ∈ ts,t.1.length ≤ 1099511627776 ∧ t.2.length ≤ 1099511627776) ∧ ∀ l ∈ ls,l.length ≤ 1099511627776:=⟨by omega,by omega,by omega,hb3,hb4⟩
  have hxp:=exP_eq ts ls out
  have s5:=fun (g:List Int) (hg:g.length=5) a b c d f=>set5I hg a b c d f
  have t5:=fun (g:List Int) (hg:g.length=5)=>Auz hg
  cases hx0:exP ts ls out with
  | none =>
    have hno:ctT ts ls out=none:=by
      cases ha:allI out 0 4 with
 | false =>
        cases he:exO ts ls with
        | none=>exact Gjz he
        | some e=>exact Gdz he (by unfold ctC;rw [ha];rfl)
 | true=>rw [hx0,if_pos ha] at hxp;exact Gjz hxp.symm
    rw [hno]
    rw [hx0] at hxp
    have hxp:=hx0
    (repeat' (first
 | (first|refine Akz ?_|refine Agz ?_)
 | ((first|refine Alz ?_|refine Afz ?_|refine Ahz ?_|refine Aiz ?_);simp (disch:=omega) only [push_cast,seval,l31r0,l31r1,l31r2,l31r3,l31r4,l31r5,l31r6,l31r7,l31r8,l31r9,l31r10,hxp,set5,tak5,Bvz,s5,t5,Anz,Option.isSome_none,Option.getD_none,Acz,Aaz])
 | ((first|refine Abz ?_ ?_|refine Aez ?_ ?_|refine Adz ?_ ?_)<;>intro h<;>(try simp only [h])<;>(try simp only [bitvec_to_nat] at h)<;>(try simp only [h])<;>(first|(exfalso;omega)|(exfalso;simp_all;done)|(simp (disch:=omega) only [push_cast,seval,hxp,set5,tak5,Bvz,s5,t5,Anz,Option.isSome_none,Option.getD_none,Acz,Aaz])|skip))
 | ((first|refine Aoz false ?_|refine qcallD_of false ?_);simp (disch:=omega) only [push_cast,seval,hxp,set5,tak5,Bvz,s5,t5,Anz,Option.isSome_none,Option.getD_none,Acz,Aaz])
 | ((first|(refine call0D (BCall.ofP (Bwz _ _ _ _ _ _ ?_ ?_ ?_ ?_)) ?_;(iterate 4 (exact sd));rintro _ _ ⟨⟨g,hg5,rfl⟩,rfl⟩;(try simp only [hxp,Option.getD_none,Option.getD_some] at hg5))|(refine call0D (BCall.ofP (extentsOfN_ok _ _ _ _ ?_ ?_ ?_)) ?_;(iterate 3 (exact sd));rintro _ _ ⟨⟨g,hg5,rfl⟩,rfl⟩;(try simp only [hxp,Option.getD_none,Option.getD_some] at hg5))|((first|refine call0D (labelsOf1_ok _ _ ?_ ?_) ?_|refine qcall0D (labelsOf1_ok _ _ ?_ ?_) ⟨_,_,rfl,rfl⟩ ?_);(iterate 2 (exact sd));rintro _ _ ⟨rfl,rfl⟩)|((first|refine call0D (labelsOf_ok _ _ ?_ ?_) ?_|refine qcall0D (labelsOf_ok _ _ ?_ ?_) ⟨_,_,rfl,rfl⟩ ?_);(iterate 2 (exact sd));rintro _ _ ⟨rfl,rfl⟩)|((first|refine call0D (BCall.ofP (costOf_ok _ _ _ ?_ ?_)) ?_|refine qcall0D (BCall.ofP (costOf_ok _ _ _ ?_ ?_)) ⟨_,_,rfl,rfl⟩ ?_);(iterate 2 (exact sd));rintro _ _ ⟨rfl,rfl⟩)|((first|refine call0D (BCall.ofP (costOf2_ok _ _ _ _ _ ?_ ?_ ?_)) ?_|refine qcall0D (BCall.ofP (costOf2_ok _ _ _ _ _ ?_ ?_ ?_)) ⟨_,_,rfl,rfl⟩ ?_);(iterate 3 (exact sd));rintro _ _ ⟨rfl,rfl⟩)|((first|refine call0D (tblOf_ok _ _ _ ?_ ?_) ?_|refine qcall0D (tblOf_ok _ _ _ ?_ ?_) ⟨_,_,rfl,rfl⟩ ?_);(iterate 2 (exact sd));rintro _ _ ⟨rfl,rfl⟩)|((first|refine call0D (BCall.ofP (iValidShape_ok _ _ ?_ ?_)) ?_|refine qcall0D (BCall.ofP (iValidShape_ok _ _ ?_ ?_)) ⟨_,_,rfl,rfl⟩ ?_);(iterate 2 (exact sd));rintro _ _ ⟨rfl,rfl⟩)|((first|refine call0D (icontr_ok _ _ _ _ _ _ _ ?_ ?_ ?_ ?_) ?_|refine qcall0D (icontr_ok _ _ _ _ _ _ _ ?_ ?_ ?_ ?_) ⟨_,_,rfl,rfl⟩ ?_);(iterate 4 (exact sd));rintro _ _ ⟨rfl,rfl⟩)|((first|refine call0D (BCall.ofP (ivT_ok _ _ _ _ ?_ ?_ ?_)) ?_|refine qcall0D (BCall.ofP (ivT_ok _ _ _ _ ?_ ?_ ?_)) ⟨_,_,rfl,rfl⟩ ?_);(iterate 3 (exact sd));rintro _ _ ⟨rfl,rfl⟩))<;>(try simp (disch:=omega) only [push_cast,seval,hxp,set5,tak5,Bvz,s5,t5,Anz,Option.isSome_none,Option.getD_none,Acz,Aaz]))
 | (refine Ajz ⟨.inr rfl,[16000,16016],[(16000,1),(16016,1)],_,by decide,rfl,?_⟩;(try simp (disch:=omega) only [push_cast,seval,↓Arz,↓Apz,↓List.map_cons,↓List.map_nil,hxp,set5,tak5,Bvz,s5,t5,Anz,Option.isSome_none,Option.getD_none,Acz,Aaz]))))
    all_goals exact ⟨rfl,rfl⟩
  | some e =>
    rw [hx0] at hxp
    have ha:allI out 0 4=true:=by
      cases ha:allI out 0 4 with
 | false=>rw [ha] at hxp;cases hxp
 | true=>rfl
    rw [if_pos ha] at hxp
    have hx:=hxp.symm
    have hxp:=hx0
    have hC:=ctOk_of hx
    have h5:=hC.len
    have hO:=Btz.1 ha
    have q2:out.length ≤ 1099511627776 ∧ ∀ x ∈ out,0 ≤ x ∧ x ≤ 4:=⟨by omega,hO⟩
    have hcost:pr ((lbS ls.flatten).map (gE e))=pr (spE e):=(spE_lbS h5 hC.un (fun k hk hm=>by have:=(hC.used _ hm).2.1;unfold gE at this;rw [Int.toNat_natCast] at this;exact this)).symm
    have q3:e.length=5 ∧ ls.length ≤ 1099511627776 ∧ (∀ l ∈ ls,l.length ≤ 1099511627776) ∧ (∀ l ∈ ls,∀ x ∈ l,0 ≤ x ∧ x ≤ 4) ∧ ∀ l ∈ ls,∀ x ∈ l,0 ≤ gE e x ∧ gE e x ≤ 60:=⟨h5,by omega,hb4,fun l hl x hx=>(hC.used x (List.mem_flatten.2 ⟨l,hl,hx⟩)).1,fun l hl x hx=>(hC.used x (List.mem_flatten.2 ⟨l,hl,hx⟩)).2⟩
    have hsp:=Grz hC
    have hsh:=lbS_short hO
    have s5e:=fun a b c d f=>set5I h5 a b c d f
    have t5e:=Auz h5
    by_cases hn:out.Nodup
    · have hge:¬ (((lbS out).length:Int) < out.length):=fun h=>hsh.1 h hn
      have hlb:(lbS out).length ≤ 5:=Dlz out 5
      by_cases hc:pr (spE e) ≤ 4000
      · have hOl:(out.map (gE e)).length=out.length:=List.length_map _
        have q4:e.length=5 ∧ out.length ≤ 1099511627776 ∧ ∀ x ∈ out,0 ≤ x ∧ x ≤ 4:=⟨h5,by omega,hO⟩
        cases hvs:vSh (out.map (gE e)) with
        | false =>
          have hno:=Gdz (ts:=ts) (ls:=ls) (out:=out) (e:=e) hx (by unfold ctC;rw [hvs];simp)
          rw [hno]
          generalize hOS:out.map (gE e)=OS at *
          have q5:OS.length ≤ 1099511627776:=by omega
          (repeat' (first
 | (first|refine Akz ?_|refine Agz ?_)
 | ((first|refine Alz ?_|refine Afz ?_|refine Ahz ?_|refine Aiz ?_);simp (disch:=omega) only [push_cast,seval,l31r0,l31r1,l31r2,l31r3,l31r4,l31r5,l31r6,l31r7,l31r8,l31r9,l31r10,hxp,hge,hcost,hc,hvs,hOS,hOl,s5e,t5e,h5,Anz,Bvz,Option.isSome_none,Option.isSome_some,Option.getD_some,Acz,Aaz])
 | ((first|refine Abz ?_ ?_|refine Aez ?_ ?_|refine Adz ?_ ?_)<;>intro h<;>(try simp only [h])<;>(try simp only [bitvec_to_nat] at h)<;>(try simp only [h])<;>(first|(exfalso;omega)|(exfalso;simp_all;done)|(simp (disch:=omega) only [push_cast,seval,hxp,hge,hcost,hc,hvs,hOS,hOl,s5e,t5e,h5,Anz,Bvz,Option.isSome_none,Option.isSome_some,Option.getD_some,Acz,Aaz])|skip))
 | ((first|refine Aoz false ?_|refine qcallD_of false ?_);simp (disch:=omega) only [push_cast,seval,hxp,hge,hcost,hc,hvs,hOS,hOl,s5e,t5e,h5,Anz,Bvz,Option.isSome_none,Option.isSome_some,Option.getD_some,Acz,Aaz])
 | ((first|(refine call0D (BCall.ofP (Bwz _ _ _ _ _ _ ?_ ?_ ?_ ?_)) ?_;(iterate 4 (exact sd));rintro _ _ ⟨⟨g,hg5,rfl⟩,rfl⟩;(try simp only [hxp,Option.getD_none,Option.getD_some] at hg5))|(refine call0D (BCall.ofP (extentsOfN_ok _ _ _ _ ?_ ?_ ?_)) ?_;(iterate 3 (exact sd));rintro _ _ ⟨⟨g,hg5,rfl⟩,rfl⟩;(try simp only [hxp,Option.getD_none,Option.getD_some] at hg5))|((first|refine call0D (labelsOf1_ok _ _ ?_ ?_) ?_|refine qcall0D (BCall.ofP (plainI (labelsOf1_ok _ _ ?_ ?_))) ⟨_,_,rfl,rfl⟩ ?_);(iterate 2 (exact sd));rintro _ _ ⟨rfl,rfl⟩)|((first|refine call0D (labelsOf_ok _ _ ?_ ?_) ?_|refine qcall0D (BCall.ofP (plainI (labelsOf_ok _ _ ?_ ?_))) ⟨_,_,rfl,rfl⟩ ?_);(iterate 2 (exact sd));rintro _ _ ⟨rfl,rfl⟩)|((first|refine call0D (BCall.ofP (costOf_ok _ _ _ ?_ ?_)) ?_|refine qcall0D (BCall.ofP (costOf_ok _ _ _ ?_ ?_)) ⟨_,_,rfl,rfl⟩ ?_);(iterate 2 (exact sd));rintro _ _ ⟨rfl,rfl⟩)|((first|refine call0D (BCall.ofP (costOf2_ok _ _ _ _ _ ?_ ?_ ?_)) ?_|refine qcall0D (BCall.ofP (costOf2_ok _ _ _ _ _ ?_ ?_ ?_)) ⟨_,_,rfl,rfl⟩ ?_);(iterate 3 (exact sd));rintro _ _ ⟨rfl,rfl⟩)|((first|refine call0D (tblOf_ok _ _ _ ?_ ?_) ?_|refine qcall0D (tblOf_ok _ _ _ ?_ ?_) ⟨_,_,rfl,rfl⟩ ?_);(iterate 2 (exact sd));rintro _ _ ⟨rfl,rfl⟩)|((first|refine call0D (BCall.ofP (iValidShape_ok _ _ ?_ ?_)) ?_|refine qcall0D (BCall.ofP (iValidShape_ok _ _ ?_ ?_)) ⟨_,_,rfl,rfl⟩ ?_);(iterate 2 (exact sd));rintro _ _ ⟨rfl,rfl⟩)|((first|refine call0D (icontr_ok _ _ _ _ _ _ _ ?_ ?_ ?_ ?_) ?_|refine qcall0D (icontr_ok _ _ _ _ _ _ _ ?_ ?_ ?_ ?_) ⟨_,_,rfl,rfl⟩ ?_);(iterate 4 (exact sd));rintro _ _ ⟨rfl,rfl⟩)|((first|refine call0D (BCall.ofP (ivT_ok _ _ _ _ ?_ ?_ ?_)) ?_|refine qcall0D (BCall.ofP (ivT_ok _ _ _ _ ?_ ?_ ?_)) ⟨_,_,rfl,rfl⟩ ?_);(iterate 3 (exact sd));rintro _ _ ⟨rfl,rfl⟩))<;>(try simp (disch:=omega) only [push_cast,seval,hxp,hge,hcost,hc,hvs,hOS,hOl,s5e,t5e,h5,Anz,Bvz,Option.isSome_none,Option.isSome_some,Option.getD_some,Acz,Aaz]))
 | (refine Ajz ⟨.inr rfl,[16000,16016],[(16000,1),(16016,1)],_,by decide,rfl,?_⟩; (try simp (disch := omega) only [push_cast,seval,↓Arz,↓Apz,↓List.map_cons,↓List.map_nil,hxp,hge,hcost,hc,hvs,hOS,hOl,s5e,t5e,h5,Anz,Bvz,Option.isSome_none,Option.isSome_some,Option.getD_some,Acz,Aaz]))))
          all_goals exact ⟨rfl,rfl⟩
        | true =>
          have ho:=out_used hC ha hvs
          have hgs:=Bdz hvs
          have hcc:ctC out e=true:=by unfold ctC;rw [ha,hvs];simp [hn,hc]
          obtain ⟨hv1,⟨hv2,hv3⟩,hv4,_⟩:=exO_some hx
          have hb3':∀ t ∈ ts,t.1.length ≤ 1000 ∧ t.2.length ≤ 1000:=fun t ht=>by
            have h1:=Fsz.1 (List.all_eq_true.1 hv1 t ht)
            have h2:=Bdz h1.1
            have h3:=h2.1.2
            have h4:=h1.2.1
            omega
          have hb4':∀ l ∈ ls,l.length ≤ 1000:=fun l hl=>by
            obtain ⟨i,hi⟩:=List.mem_iff_getElem?.1 hl
            have hil:=(List.getElem?_eq_some_iff.1 hi).1
            have hit:ts[i]?=some (ts[i]'(by omega)):=List.getElem?_eq_getElem _
            have h1:=(hC.lab i _ l hit hi).2.1
            have h2:=hb3' _ (List.mem_of_getElem? hit)
            omega
          have hVl:=ctV_len ts ls out e (pr (out.map (gE e))).toNat
          have hW:ctW ts ls out e=(out.map (gE e),ctV ts ls out e (pr (out.map (gE e))).toNat):=rfl
          have hyes:=fun h=>ctT_yes (ts:=ts) (ls:=ls) (out:=out) (e:=e) hx hcc h
          have hnot:=fun h=>Gdz (ts:=ts) (ls:=ls) (out:=out) (e:=e) hx h
          rw [hcc,Bool.true_and] at hnot
          have hN60:(pr (out.map (gE e))).toNat ≤ 60:=by omega
          have hol:out.length ≤ 4:=by have:=hgs.1.2;omega
          have q6:CtOk ts ls e ∧ (ts.length ≤ 1000 ∧ out.length ≤ 6) ∧ (∀ x ∈ out,x ∈ ls.flatten) ∧ (∀ t ∈ ts,t.1.length ≤ 1000 ∧ t.2.length ≤ 1000) ∧ ∀ l ∈ ls,l.length ≤ 1000:=⟨hC,⟨by omega,by omega⟩,ho,hb3',hb4'⟩
          rw [hW] at hyes hnot
          generalize hOS:out.map (gE e)=OS at *
          generalize hV:ctV ts ls out e (pr OS).toNat=V at *
          generalize hNN:(pr OS).toNat=N at *
          have q7:OS.length ≤ 1099511627776:=by omega
          have q8:OS.length ≤ 1099511627776 ∧ V.length ≤ 1099511627776:=⟨by omega,by omega⟩
          have q9:out.length ≤ 1099511627776 ∧ N ≤ 1099511627776:=⟨by omega,by omega⟩
          cases hvt:vT (OS,V) with
          | false =>
            rw [hnot hvt]
            (repeat' (first
 | (first|refine Akz ?_|refine Agz ?_)
 | ((first|refine Alz ?_|refine Afz ?_|refine Ahz ?_|refine Aiz ?_);simp (disch:=omega) only [push_cast,seval,l31r0,l31r1,l31r2,l31r3,l31r4,l31r5,l31r6,l31r7,l31r8,l31r9,l31r10,hxp,hge,hcost,hc,hvs,hvt,hOS,hOl,hV,hVl,hNN,s5e,t5e,h5,Anz,Bvz,Option.isSome_none,Option.isSome_some,Option.getD_some,Acz,Aaz])
 | ((first|refine Abz ?_ ?_|refine Aez ?_ ?_|refine Adz ?_ ?_)<;>intro h<;>(try simp only [h])<;>(try simp only [bitvec_to_nat] at h)<;>(try simp only [h])<;>(first|(exfalso;omega)|(exfalso;simp_all;done)|(simp (disch:=omega) only [push_cast,seval,hxp,hge,hcost,hc,hvs,hvt,hOS,hOl,hV,hVl,hNN,s5e,t5e,h5,Anz,Bvz,Option.isSome_none,Option.isSome_some,Option.getD_some,Acz,Aaz])|skip))
 | ((first|refine Aoz false ?_|refine qcallD_of false ?_);simp (disch:=omega) only [push_cast,seval,hxp,hge,hcost,hc,hvs,hvt,hOS,hOl,hV,hVl,hNN,s5e,t5e,h5,Anz,Bvz,Option.isSome_none,Option.isSome_some,Option.getD_some,Acz,Aaz])
 | ((first|(refine call0D (BCall.ofP (Bwz _ _ _ _ _ _ ?_ ?_ ?_ ?_)) ?_;(iterate 4 (exact sd));rintro _ _ ⟨⟨g,hg5,rfl⟩,rfl⟩;(try simp only [hxp,Option.getD_none,Option.getD_some] at hg5))|(refine call0D (BCall.ofP (extentsOfN_ok _ _ _ _ ?_ ?_ ?_)) ?_;(iterate 3 (exact sd));rintro _ _ ⟨⟨g,hg5,rfl⟩,rfl⟩;(try simp only [hxp,Option.getD_none,Option.getD_some] at hg5))|((first|refine call0D (labelsOf1_ok _ _ ?_ ?_) ?_|refine qcall0D (BCall.ofP (plainI (labelsOf1_ok _ _ ?_ ?_))) ⟨_,_,rfl,rfl⟩ ?_);(iterate 2 (exact sd));rintro _ _ ⟨rfl,rfl⟩)|((first|refine call0D (labelsOf_ok _ _ ?_ ?_) ?_|refine qcall0D (BCall.ofP (plainI (labelsOf_ok _ _ ?_ ?_))) ⟨_,_,rfl,rfl⟩ ?_);(iterate 2 (exact sd));rintro _ _ ⟨rfl,rfl⟩)|((first|refine call0D (BCall.ofP (costOf_ok _ _ _ ?_ ?_)) ?_|refine qcall0D (BCall.ofP (costOf_ok _ _ _ ?_ ?_)) ⟨_,_,rfl,rfl⟩ ?_);(iterate 2 (exact sd));rintro _ _ ⟨rfl,rfl⟩)|((first|refine call0D (BCall.ofP (costOf2_ok _ _ _ _ _ ?_ ?_ ?_)) ?_|refine qcall0D (BCall.ofP (costOf2_ok _ _ _ _ _ ?_ ?_ ?_)) ⟨_,_,rfl,rfl⟩ ?_);(iterate 3 (exact sd));rintro _ _ ⟨rfl,rfl⟩)|((first|refine call0D (tblOf_ok _ _ _ ?_ ?_) ?_|refine qcall0D (tblOf_ok _ _ _ ?_ ?_) ⟨_,_,rfl,rfl⟩ ?_);(iterate 2 (exact sd));rintro _ _ ⟨rfl,rfl⟩)|((first|refine call0D (BCall.ofP (iValidShape_ok _ _ ?_ ?_)) ?_|refine qcall0D (BCall.ofP (iValidShape_ok _ _ ?_ ?_)) ⟨_,_,rfl,rfl⟩ ?_);(iterate 2 (exact sd));rintro _ _ ⟨rfl,rfl⟩)|((first|refine call0D (icontr_ok _ _ _ _ _ _ _ ?_ ?_ ?_ ?_) ?_|refine qcall0D (icontr_ok _ _ _ _ _ _ _ ?_ ?_ ?_ ?_) ⟨_,_,rfl,rfl⟩ ?_);(iterate 4 (exact sd));rintro _ _ ⟨rfl,rfl⟩)|((first|refine call0D (BCall.ofP (ivT_ok _ _ _ _ ?_ ?_ ?_)) ?_|refine qcall0D (BCall.ofP (ivT_ok _ _ _ _ ?_ ?_ ?_)) ⟨_,_,rfl,rfl⟩ ?_);(iterate 3 (exact sd));rintro _ _ ⟨rfl,rfl⟩))<;>(try simp (disch:=omega) only [push_cast,seval,hxp,hge,hcost,hc,hvs,hvt,hOS,hOl,hV,hVl,hNN,s5e,t5e,h5,Anz,Bvz,Option.isSome_none,Option.isSome_some,Option.getD_some,Acz,Aaz]))
 | (refine Ajz ⟨.inr rfl,[16000,16016],[(16000,1),(16016,1)],_,by decide,rfl,?_⟩; (try simp (disch := omega) only [push_cast,seval,↓Arz,↓Apz,↓List.map_cons,↓List.map_nil,hxp,hge,hcost,hc,hvs,hvt,hOS,hOl,hV,hVl,hNN,s5e,t5e,h5,Anz,Bvz,Option.isSome_none,Option.isSome_some,Option.getD_some,Acz,Aaz]))))
            all_goals exact ⟨rfl,rfl⟩
          | true =>
            rw [hyes hvt]
            (repeat' (first
 | (first|refine Akz ?_|refine Agz ?_)
 | ((first|refine Alz ?_|refine Afz ?_|refine Ahz ?_|refine Aiz ?_);simp (disch:=omega) only [push_cast,seval,l31r0,l31r1,l31r2,l31r3,l31r4,l31r5,l31r6,l31r7,l31r8,l31r9,l31r10,hxp,hge,hcost,hc,hvs,hvt,hOS,hOl,hV,hVl,hNN,s5e,t5e,h5,Anz,Bvz,Option.isSome_none,Option.isSome_some,Option.getD_some,Acz,Aaz])
 | ((first|refine Abz ?_ ?_|refine Aez ?_ ?_|refine Adz ?_ ?_)<;>intro h<;>(try simp only [h])<;>(try simp only [bitvec_to_nat] at h)<;>(try simp only [h])<;>(first|(exfalso;omega)|(exfalso;simp_all;done)|(simp (disch:=omega) only [push_cast,seval,hxp,hge,hcost,hc,hvs,hvt,hOS,hOl,hV,hVl,hNN,s5e,t5e,h5,Anz,Bvz,Option.isSome_none,Option.isSome_some,Option.getD_some,Acz,Aaz])|skip))
 | ((first|refine Aoz false ?_|refine qcallD_of false ?_);simp (disch:=omega) only [push_cast,seval,hxp,hge,hcost,hc,hvs,hvt,hOS,hOl,hV,hVl,hNN,s5e,t5e,h5,Anz,Bvz,Option.isSome_none,Option.isSome_some,Option.getD_some,Acz,Aaz])
 | ((first|(refine call0D (BCall.ofP (Bwz _ _ _ _ _ _ ?_ ?_ ?_ ?_)) ?_;(iterate 4 (exact sd));rintro _ _ ⟨⟨g,hg5,rfl⟩,rfl⟩;(try simp only [hxp,Option.getD_none,Option.getD_some] at hg5))|(refine call0D (BCall.ofP (extentsOfN_ok _ _ _ _ ?_ ?_ ?_)) ?_;(iterate 3 (exact sd));rintro _ _ ⟨⟨g,hg5,rfl⟩,rfl⟩;(try simp only [hxp,Option.getD_none,Option.getD_some] at hg5))|((first|refine call0D (labelsOf1_ok _ _ ?_ ?_) ?_|refine qcall0D (BCall.ofP (plainI (labelsOf1_ok _ _ ?_ ?_))) ⟨_,_,rfl,rfl⟩ ?_);(iterate 2 (exact sd));rintro _ _ ⟨rfl,rfl⟩)|((first|refine call0D (labelsOf_ok _ _ ?_ ?_) ?_|refine qcall0D (BCall.ofP (plainI (labelsOf_ok _ _ ?_ ?_))) ⟨_,_,rfl,rfl⟩ ?_);(iterate 2 (exact sd));rintro _ _ ⟨rfl,rfl⟩)|((first|refine call0D (BCall.ofP (costOf_ok _ _ _ ?_ ?_)) ?_|refine qcall0D (BCall.ofP (costOf_ok _ _ _ ?_ ?_)) ⟨_,_,rfl,rfl⟩ ?_);(iterate 2 (exact sd));rintro _ _ ⟨rfl,rfl⟩)|((first|refine call0D (BCall.ofP (costOf2_ok _ _ _ _ _ ?_ ?_ ?_)) ?_|refine qcall0D (BCall.ofP (costOf2_ok _ _ _ _ _ ?_ ?_ ?_)) ⟨_,_,rfl,rfl⟩ ?_);(iterate 3 (exact sd));rintro _ _ ⟨rfl,rfl⟩)|((first|refine call0D (tblOf_ok _ _ _ ?_ ?_) ?_|refine qcall0D (tblOf_ok _ _ _ ?_ ?_) ⟨_,_,rfl,rfl⟩ ?_);(iterate 2 (exact sd));rintro _ _ ⟨rfl,rfl⟩)|((first|refine call0D (BCall.ofP (iValidShape_ok _ _ ?_ ?_)) ?_|refine qcall0D (BCall.ofP (iValidShape_ok _ _ ?_ ?_)) ⟨_,_,rfl,rfl⟩ ?_);(iterate 2 (exact sd));rintro _ _ ⟨rfl,rfl⟩)|((first|refine call0D (icontr_ok _ _ _ _ _ _ _ ?_ ?_ ?_ ?_) ?_|refine qcall0D (icontr_ok _ _ _ _ _ _ _ ?_ ?_ ?_ ?_) ⟨_,_,rfl,rfl⟩ ?_);(iterate 4 (exact sd));rintro _ _ ⟨rfl,rfl⟩)|((first|refine call0D (BCall.ofP (ivT_ok _ _ _ _ ?_ ?_ ?_)) ?_|refine qcall0D (BCall.ofP (ivT_ok _ _ _ _ ?_ ?_ ?_)) ⟨_,_,rfl,rfl⟩ ?_);(iterate 3 (exact sd));rintro _ _ ⟨rfl,rfl⟩))<;>(try simp (disch:=omega) only [push_cast,seval,hxp,hge,hcost,hc,hvs,hvt,hOS,hOl,hV,hVl,hNN,s5e,t5e,h5,Anz,Bvz,Option.isSome_none,Option.isSome_some,Option.getD_some,Acz,Aaz]))
 | (refine Ajz ⟨.inr rfl,[608,784],[],_,by decide,rfl,?_⟩; (try simp (disch := omega) only [push_cast,seval,↓Arz,↓Apz,↓List.map_cons,↓List.map_nil,hxp,hge,hcost,hc,hvs,hvt,hOS,hOl,hV,hVl,hNN,s5e,t5e,h5,Anz,Bvz,Option.isSome_none,Option.isSome_some,Option.getD_some,Acz,Aaz]))))
            all_goals exact ⟨by simp only [t0,Option.getD_some,Option.isSome_some,hOl,hVl],rfl⟩
      · have hno:=Gdz (ts:=ts) (ls:=ls) (out:=out) (e:=e) hx (by unfold ctC;rw [show decide (pr (spE e) ≤ 4000)=false by simpa using hc];simp)
        rw [hno]
        (repeat' (first
 | (first|refine Akz ?_|refine Agz ?_)
 | ((first|refine Alz ?_|refine Afz ?_|refine Ahz ?_|refine Aiz ?_);simp (disch:=omega) only [push_cast,seval,l31r0,l31r1,l31r2,l31r3,l31r4,l31r5,l31r6,l31r7,l31r8,l31r9,l31r10,hxp,hge,hcost,hc,s5e,t5e,h5,Anz,Bvz,Option.isSome_none,Option.isSome_some,Option.getD_some,Acz,Aaz])
 | ((first|refine Abz ?_ ?_|refine Aez ?_ ?_|refine Adz ?_ ?_)<;>intro h<;>(try simp only [h])<;>(try simp only [bitvec_to_nat] at h)<;>(try simp only [h])<;>(first|(exfalso;omega)|(exfalso;simp_all;done)|(simp (disch:=omega) only [push_cast,seval,hxp,hge,hcost,hc,s5e,t5e,h5,Anz,Bvz,Option.isSome_none,Option.isSome_some,Option.getD_some,Acz,Aaz])|skip))
 | ((first|refine Aoz false ?_|refine qcallD_of false ?_);simp (disch:=omega) only [push_cast,seval,hxp,hge,hcost,hc,s5e,t5e,h5,Anz,Bvz,Option.isSome_none,Option.isSome_some,Option.getD_some,Acz,Aaz])
 | ((first|(refine call0D (BCall.ofP (Bwz _ _ _ _ _ _ ?_ ?_ ?_ ?_)) ?_;(iterate 4 (exact sd));rintro _ _ ⟨⟨g,hg5,rfl⟩,rfl⟩;(try simp only [hxp,Option.getD_none,Option.getD_some] at hg5))|(refine call0D (BCall.ofP (extentsOfN_ok _ _ _ _ ?_ ?_ ?_)) ?_;(iterate 3 (exact sd));rintro _ _ ⟨⟨g,hg5,rfl⟩,rfl⟩;(try simp only [hxp,Option.getD_none,Option.getD_some] at hg5))|((first|refine call0D (labelsOf1_ok _ _ ?_ ?_) ?_|refine qcall0D (BCall.ofP (plainI (labelsOf1_ok _ _ ?_ ?_))) ⟨_,_,rfl,rfl⟩ ?_);(iterate 2 (exact sd));rintro _ _ ⟨rfl,rfl⟩)|((first|refine call0D (labelsOf_ok _ _ ?_ ?_) ?_|refine qcall0D (BCall.ofP (plainI (labelsOf_ok _ _ ?_ ?_))) ⟨_,_,rfl,rfl⟩ ?_);(iterate 2 (exact sd));rintro _ _ ⟨rfl,rfl⟩)|((first|refine call0D (BCall.ofP (costOf_ok _ _ _ ?_ ?_)) ?_|refine qcall0D (BCall.ofP (costOf_ok _ _ _ ?_ ?_)) ⟨_,_,rfl,rfl⟩ ?_);(iterate 2 (exact sd));rintro _ _ ⟨rfl,rfl⟩)|((first|refine call0D (BCall.ofP (costOf2_ok _ _ _ _ _ ?_ ?_ ?_)) ?_|refine qcall0D (BCall.ofP (costOf2_ok _ _ _ _ _ ?_ ?_ ?_)) ⟨_,_,rfl,rfl⟩ ?_);(iterate 3 (exact sd));rintro _ _ ⟨rfl,rfl⟩)|((first|refine call0D (tblOf_ok _ _ _ ?_ ?_) ?_|refine qcall0D (tblOf_ok _ _ _ ?_ ?_) ⟨_,_,rfl,rfl⟩ ?_);(iterate 2 (exact sd));rintro _ _ ⟨rfl,rfl⟩)|((first|refine call0D (BCall.ofP (iValidShape_ok _ _ ?_ ?_)) ?_|refine qcall0D (BCall.ofP (iValidShape_ok _ _ ?_ ?_)) ⟨_,_,rfl,rfl⟩ ?_);(iterate 2 (exact sd));rintro _ _ ⟨rfl,rfl⟩)|((first|refine call0D (icontr_ok _ _ _ _ _ _ _ ?_ ?_ ?_ ?_) ?_|refine qcall0D (icontr_ok _ _ _ _ _ _ _ ?_ ?_ ?_ ?_) ⟨_,_,rfl,rfl⟩ ?_);(iterate 4 (exact sd));rintro _ _ ⟨rfl,rfl⟩)|((first|refine call0D (BCall.ofP (ivT_ok _ _ _ _ ?_ ?_ ?_)) ?_|refine qcall0D (BCall.ofP (ivT_ok _ _ _ _ ?_ ?_ ?_)) ⟨_,_,rfl,rfl⟩ ?_);(iterate 3 (exact sd));rintro _ _ ⟨rfl,rfl⟩))<;>(try simp (disch:=omega) only [push_cast,seval,hxp,hge,hcost,hc,s5e,t5e,h5,Anz,Bvz,Option.isSome_none,Option.isSome_some,Option.getD_some,Acz,Aaz]))
 | (refine Ajz ⟨.inr rfl,[16000,16016],[(16000,1),(16016,1)],_,by decide,rfl,?_⟩;(try simp (disch:=omega) only [push_cast,seval,↓Arz,↓Apz,↓List.map_cons,↓List.map_nil,hxp,hge,hcost,hc,s5e,t5e,h5,Anz,Bvz,Option.isSome_none,Option.isSome_some,Option.getD_some,Acz,Aaz]))))
        all_goals exact ⟨rfl,rfl⟩
    · have hlt:=hsh.2 hn
      have hno:=Gdz (ts:=ts) (ls:=ls) (out:=out) (e:=e) hx (by unfold ctC;rw [show decide out.Nodup=false by simpa using hn];simp)
      rw [hno]
      have hll:=Dlz out 5
      (repeat' (first
 | (first|refine Akz ?_|refine Agz ?_)
 | ((first|refine Alz ?_|refine Afz ?_|refine Ahz ?_|refine Aiz ?_);simp (disch:=omega) only [push_cast,seval,l31r0,l31r1,l31r2,l31r3,l31r4,l31r5,l31r6,l31r7,l31r8,l31r9,l31r10,hxp,hlt,s5e,t5e,h5,Anz,Bvz,Option.isSome_none,Option.isSome_some,Option.getD_some,Acz,Aaz])
 | ((first|refine Abz ?_ ?_|refine Aez ?_ ?_|refine Adz ?_ ?_)<;>intro h<;>(try simp only [h])<;>(try simp only [bitvec_to_nat] at h)<;>(try simp only [h])<;>(first|(exfalso;omega)|(exfalso;simp_all;done)|(simp (disch:=omega) only [push_cast,seval,hxp,hlt,s5e,t5e,h5,Anz,Bvz,Option.isSome_none,Option.isSome_some,Option.getD_some,Acz,Aaz])|skip))
 | ((first|refine Aoz false ?_|refine qcallD_of false ?_);simp (disch:=omega) only [push_cast,seval,hxp,hlt,s5e,t5e,h5,Anz,Bvz,Option.isSome_none,Option.isSome_some,Option.getD_some,Acz,Aaz])
 | ((first|(refine call0D (BCall.ofP (Bwz _ _ _ _ _ _ ?_ ?_ ?_ ?_)) ?_;(iterate 4 (exact sd));rintro _ _ ⟨⟨g,hg5,rfl⟩,rfl⟩;(try simp only [hxp,Option.getD_none,Option.getD_some] at hg5))|(refine call0D (BCall.ofP (extentsOfN_ok _ _ _ _ ?_ ?_ ?_)) ?_;(iterate 3 (exact sd));rintro _ _ ⟨⟨g,hg5,rfl⟩,rfl⟩;(try simp only [hxp,Option.getD_none,Option.getD_some] at hg5))|((first|refine call0D (labelsOf1_ok _ _ ?_ ?_) ?_|refine qcall0D (BCall.ofP (plainI (labelsOf1_ok _ _ ?_ ?_))) ⟨_,_,rfl,rfl⟩ ?_);(iterate 2 (exact sd));rintro _ _ ⟨rfl,rfl⟩)|((first|refine call0D (labelsOf_ok _ _ ?_ ?_) ?_|refine qcall0D (BCall.ofP (plainI (labelsOf_ok _ _ ?_ ?_))) ⟨_,_,rfl,rfl⟩ ?_);(iterate 2 (exact sd));rintro _ _ ⟨rfl,rfl⟩)|((first|refine call0D (BCall.ofP (costOf_ok _ _ _ ?_ ?_)) ?_|refine qcall0D (BCall.ofP (costOf_ok _ _ _ ?_ ?_)) ⟨_,_,rfl,rfl⟩ ?_);(iterate 2 (exact sd));rintro _ _ ⟨rfl,rfl⟩)|((first|refine call0D (BCall.ofP (costOf2_ok _ _ _ _ _ ?_ ?_ ?_)) ?_|refine qcall0D (BCall.ofP (costOf2_ok _ _ _ _ _ ?_ ?_ ?_)) ⟨_,_,rfl,rfl⟩ ?_);(iterate 3 (exact sd));rintro _ _ ⟨rfl,rfl⟩)|((first|refine call0D (tblOf_ok _ _ _ ?_ ?_) ?_|refine qcall0D (tblOf_ok _ _ _ ?_ ?_) ⟨_,_,rfl,rfl⟩ ?_);(iterate 2 (exact sd));rintro _ _ ⟨rfl,rfl⟩)|((first|refine call0D (BCall.ofP (iValidShape_ok _ _ ?_ ?_)) ?_|refine qcall0D (BCall.ofP (iValidShape_ok _ _ ?_ ?_)) ⟨_,_,rfl,rfl⟩ ?_);(iterate 2 (exact sd));rintro _ _ ⟨rfl,rfl⟩)|((first|refine call0D (icontr_ok _ _ _ _ _ _ _ ?_ ?_ ?_ ?_) ?_|refine qcall0D (icontr_ok _ _ _ _ _ _ _ ?_ ?_ ?_ ?_) ⟨_,_,rfl,rfl⟩ ?_);(iterate 4 (exact sd));rintro _ _ ⟨rfl,rfl⟩)|((first|refine call0D (BCall.ofP (ivT_ok _ _ _ _ ?_ ?_ ?_)) ?_|refine qcall0D (BCall.ofP (ivT_ok _ _ _ _ ?_ ?_ ?_)) ⟨_,_,rfl,rfl⟩ ?_);(iterate 3 (exact sd));rintro _ _ ⟨rfl,rfl⟩))<;>(try simp (disch:=omega) only [push_cast,seval,hxp,hlt,s5e,t5e,h5,Anz,Bvz,Option.isSome_none,Option.isSome_some,Option.getD_some,Acz,Aaz]))
 | (refine Ajz ⟨.inr rfl,[16000,16016],[(16000,1),(16016,1)],_,by decide,rfl,?_⟩;(try simp (disch:=omega) only [push_cast,seval,↓Arz,↓Apz,↓List.map_cons,↓List.map_nil,hxp,hlt,s5e,t5e,h5,Anz,Bvz,Option.isSome_none,Option.isSome_some,Option.getD_some,Acz,Aaz]))))
      all_goals exact ⟨rfl,rfl⟩

end Go.Proofs.Ytpicoecbbiiaoaa
