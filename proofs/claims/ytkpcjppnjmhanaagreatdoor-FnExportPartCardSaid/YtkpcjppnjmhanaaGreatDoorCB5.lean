/- Texts of this verifier. -/
import Derived.Test.YtkpcjppnjmhanaaGreatDoorCB4
import Derived.Test.YtkpcjppnjmhanaaGreatDoorCM1
import Derived.Test.YtkpcjppnjmhanaaGreatDoorCW3
import Derived.WalkKit
import Derived.LaidEql
import Derived.Stop.Asserts
import Derived.RowKitTokens
set_option maxHeartbeats 4000000
set_option linter.unusedSimpArgs false
set_option linter.unusedSectionVars false
set_option linter.unusedVariables false
set_option maxRecDepth 4000
namespace Go.Proofs.YtkpcjppnjmhanaaGreatDoor
open VwM Vw Go
variable [SentA]

/-- A value can be stored everywhere. -/
def filB (mem:List Int) (b:Int) (sh st:List Int) (x:Int):Bool:=seeB mem b sh st && (decide (0 ≤ x) && decide (x ≤ 255))
def filL (mem:List Int) (b:Int) (sh st:List Int) (x:Int):List Int:=putL mem (offs b sh st) (rpt [x] (pr sh).toNat)
theorem rpt_at {x:Int} {n k:Nat} (h:k < n):(rpt [x] n).getD k 0=x:=by rw [rpt_one];simp [List.getD,h]


set_option maxHeartbeats 8000000 in
theorem sFill_ok (mem:List Int) (b:Int) (sh st:List Int) (x:Int) (q n m:Nat) (hq:mem.length=q) (hn:sh.length=n) (hm:st.length=m) (hb:q ≤ 1099511627776 ∧ n ≤ 1099511627776 ∧ m ≤ 1099511627776):BCall Tryz.prog 61 [.rows false (IL mem) q,.agg [.int .i64 b,.rows false (IL sh) n,.rows false (IL st) m],.int .i64 x] [] (TB (filB mem b sh st x) (filL mem b sh st x)):=by
  subst hq hn hm
  refine Axz (pins:=[]) (pin:=0) l61_eq rfl rfl rfl ?_
  unfold filB
  cases h1:seeB mem b sh st with
  | false =>
    (repeat' (first
 | (first|refine Ahz ?_|refine Abz ?_)
 | ((first|refine Aiz ?_|refine Adz ?_);simp (disch:=omega) only [push_cast,seval,l61r0,l61r1,l61r2,l61r3,l61r4,l61r5,l61r6,l61r7,l61r8,l61r9,h1])
 | ((first|refine Alz false ?_);simp (disch:=omega) only [push_cast,seval,h1])
 | ((first|((first|refine Akz (Ajz (Djz _ _ _ _ _ _ _ ?_ ?_ ?_ ?_)) ?_|refine Agz (Ajz (Djz _ _ _ _ _ _ _ ?_ ?_ ?_ ?_)) ⟨_,_,rfl,rfl⟩ ?_);(iterate 4 (exact sd));rintro _ _ ⟨rfl,rfl⟩))<;>(try simp (disch:=omega) only [push_cast,seval,h1]))
 | (refine Aez ⟨.inr rfl,[16000],[(16000,1)],_,by decide,rfl,?_⟩;(try simp (disch:=omega) only [push_cast,seval,↓Afz,↓Acz,↓List.map_cons,↓List.map_nil,h1]))))
    all_goals simp [TB,MVL]
  | true =>
  obtain ⟨f1,f2,f3,f4,f5,f6⟩:=Eiz h1
  by_cases hx:0 ≤ x ∧ x ≤ 255
  · have hx':(decide (0 ≤ x) && decide (x ≤ 255))=true:=by simp [hx]
    have hxa:allI [x] 0 255=true:=by simp [allI,hx]
    obtain ⟨hx1,hx2⟩:=hx
    have hol:=Bez b sh st
    have hml:mem.length ≤ 1099511627776:=by omega
    have q1:okV b sh st ∧ st.length=sh.length:=⟨f1,f2⟩
    obtain ⟨c,hc⟩:∃ c:Nat,pr sh=(c:Int):=⟨(pr sh).toNat,by omega⟩
    have hcn:(pr sh).toNat=c:=by omega
    have hck:c ≤ 1000:=by omega
    have hrl:(rpt [x] c).length=c:=by rw [Koz];simp
    have k1:seeB mem b sh st=true ∧ (c:Int)=pr sh:=⟨h1,by omega⟩
    have hpl:=Dsz mem (offs b sh st) (rpt [x] c)
    rw [hx',filL,hcn]
    have hat:=fun k hk=>seeB_at (k:=k) h1 hk
    rw [hcn] at hol
    generalize hL:offs b sh st=L at *
    clear k1
    (repeat' (first
 | (first|refine Ahz ?_|refine Abz ?_)
 | ((first|refine Aiz ?_|refine Adz ?_|refine Aoz ?_);simp (disch:=omega) only [push_cast,seval,l61r0,l61r1,l61r2,l61r3,l61r4,l61r5,l61r6,l61r7,l61r8,l61r9,h1,hx1,hx2,hL])
 | ((first|refine Alz false ?_);simp (disch:=omega) only [push_cast,seval,h1,hx1,hx2,hL])
 | ((first|((first|refine Akz (Ajz (Djz _ _ _ _ _ _ _ ?_ ?_ ?_ ?_)) ?_|refine Agz (Ajz (Djz _ _ _ _ _ _ _ ?_ ?_ ?_ ?_)) ⟨_,_,rfl,rfl⟩ ?_);(iterate 4 (exact sd));rintro _ _ ⟨rfl,rfl⟩)|((first|refine Akz (Ajz (Atz _ _ _)) ?_|refine Agz (Ajz (Atz _ _ _)) ⟨_,_,rfl,rfl⟩ ?_);rintro _ _ ⟨rfl,rfl⟩)|((first|refine Akz (Cnz _ _ ?_ ?_) ?_|refine Agz (Cnz _ _ ?_ ?_) ⟨_,_,rfl,rfl⟩ ?_);(iterate 2 (exact sd));rintro _ _ ⟨rfl,rfl⟩)|((first|refine Akz (Brz _ _ _ _ _ ?_ ?_ ?_) ?_|refine Agz (Brz _ _ _ _ _ ?_ ?_ ?_) ⟨_,_,rfl,rfl⟩ ?_);(iterate 3 (exact sd));rintro _ _ ⟨rfl,rfl⟩))<;>(try simp (disch:=omega) only [push_cast,seval,h1,hx1,hx2,hL]))
 | (refine Aez ⟨.inr rfl,[336],[],_,by decide,rfl,?_⟩;(try simp (disch:=omega) only [push_cast,seval,↓Afz,↓Acz,↓List.map_cons,↓List.map_nil,h1,hx1,hx2,hL]))))
    refine Baz (fun k:Nat=>mkS [(2,.int .i64 x),(8,.own 336 mem.length 1),(9,.own 368 L.length 1),(10,.int .i64 k)] [(336,IL (putK mem L (rpt [x] c) k)),(368,IL L)])
      (fun k=>k ≤ L.length) (fun k=>L.length - k) 0 (Nat.zero_le _) ?_ ?_
    · have e0:putK mem L (rpt [x] c) 0=mem:=rfl
      (refine Sub.of_lists ?_ ?_ ?_ ?_ ?_<;>simp [Vw.mkS,Vw.lk,Vw.hk,AV.inn,innL,Apz,Anz,Aqz,-List.map_set,-List.getD_eq_getElem?_getD,e0])
    · intro k hk
      have e1:=Ezz mem L (rpt [x] c) k
      by_cases hlt:k < L.length
      · obtain ⟨g1,g2⟩:=hat k hlt
        have g3:(L.getD k 0).toNat < mem.length:=by omega
        have e2:putK mem L (rpt [x] c) (k + 1)=(putK mem L (rpt [x] c) k).set (L.getD k 0).toNat x:=by simp only [putK];rw [rpt_at (by omega)]
        generalize putK mem L (rpt [x] c) k=p at *
        (repeat' (first
 | (first|refine Ahz ?_|refine Abz ?_)
 | ((first|refine Aiz ?_|refine Adz ?_|refine Aoz ?_);simp (disch:=omega) only [push_cast,seval,l61r0,l61r1,l61r2,l61r3,l61r4,l61r5,l61r6,l61r7,l61r8,l61r9,e1])
 | ((first|refine Amz (fun h=>?_) (fun h=>?_))<;>(try simp only [h])<;>(try simp only [bitvec_to_nat] at h)<;>(try simp only [h])<;>(first|(exfalso;omega)|(exfalso;simp_all;done)|(simp (disch:=omega) only [push_cast,seval,e1])|skip))
 | (refine Aez ⟨.inr rfl,[336],[],_,by decide,rfl,?_⟩;(try simp (disch:=omega) only [push_cast,seval,↓Afz,↓Acz,↓List.map_cons,↓List.map_nil,e1]))))
        refine ⟨k + 1,by omega,by omega,?_⟩
        (refine Sub.of_lists ?_ ?_ ?_ ?_ ?_<;>simp [Vw.mkS,Vw.lk,Vw.hk,AV.inn,innL,Apz,Anz,Aqz,-List.map_set,-List.getD_eq_getElem?_getD,e2,A5z])
      · have hke:k=L.length:=by omega
        have e3:putK mem L (rpt [x] c) k=putL mem L (rpt [x] c):=by rw [hke];rfl
        rw [e3]
        (repeat' (first
 | (first|refine Ahz ?_|refine Abz ?_)
 | ((first|refine Aiz ?_|refine Adz ?_|refine A2z ?_);simp (disch:=omega) only [push_cast,seval,l61r0,l61r1,l61r2,l61r3,l61r4,l61r5,l61r6,l61r7,l61r8,l61r9,hpl])
 | ((first|refine Amz (fun h=>?_) (fun h=>?_))<;>(try simp only [h])<;>(try simp only [bitvec_to_nat] at h)<;>(try simp only [h])<;>(first|(exfalso;omega)|(exfalso;simp_all;done)|(simp (disch:=omega) only [push_cast,seval,hpl])|skip))
 | (refine Aez ⟨.inr rfl,[336],[],_,by decide,rfl,?_⟩;(try simp (disch:=omega) only [push_cast,seval,↓Afz,↓Acz,↓List.map_cons,↓List.map_nil,hpl]))))
        all_goals simp [TB,MVL,hpl]
  · have hx':(decide (0 ≤ x) && decide (x ≤ 255))=false:=by
      rw [Bool.eq_false_iff]
      intro h
      simp at h
      exact hx h
    have hxa:allI [x] 0 255=false:=by
      rw [Bool.eq_false_iff]
      intro h
      simp [allI] at h
      exact hx h
    rw [hx']
    (repeat' (first
 | (first|refine Ahz ?_|refine Abz ?_)
 | ((first|refine Aiz ?_|refine Adz ?_);simp (disch:=omega) only [push_cast,seval,l61r0,l61r1,l61r2,l61r3,l61r4,l61r5,l61r6,l61r7,l61r8,l61r9,h1,hx',hxa])
 | ((first|refine Alz false ?_);simp (disch:=omega) only [push_cast,seval,h1,hx',hxa])
 | ((first|((first|refine Akz (Ajz (Djz _ _ _ _ _ _ _ ?_ ?_ ?_ ?_)) ?_|refine Agz (Ajz (Djz _ _ _ _ _ _ _ ?_ ?_ ?_ ?_)) ⟨_,_,rfl,rfl⟩ ?_);(iterate 4 (exact sd));rintro _ _ ⟨rfl,rfl⟩)|((first|refine Akz (Ajz (Atz _ _ _)) ?_|refine Agz (Ajz (Atz _ _ _)) ⟨_,_,rfl,rfl⟩ ?_);rintro _ _ ⟨rfl,rfl⟩))<;>(try simp (disch:=omega) only [push_cast,seval,h1,hx',hxa]))
 | (refine Aez ⟨.inr rfl,[16000],[(16000,1)],_,by decide,rfl,?_⟩;(try simp (disch:=omega) only [push_cast,seval,↓Afz,↓Acz,↓List.map_cons,↓List.map_nil,h1,hx',hxa]))))
    all_goals simp [TB,MVL]

end Go.Proofs.YtkpcjppnjmhanaaGreatDoor
namespace Go.Proofs.YtkpcjppnjmhanaaGreatDoor
open VwM Vw Go
variable [SentA]

open Go.RowKit Go.Extern.Stop Go.Stop Go.Extern in
open Go.RowKit Go.Extern.Stop Go.Stop Go.Extern in
theorem isTypeOf1 (v:Value) (w:World):(Extern.ReflectliteType.typeOf #[.iface 200 v]).run Tryz.prog w=.ok (.iface 138 (.agg #[.pointer (some ⟨1,200,none⟩)])) w:=by kernel_rfl
open Go.RowKit Go.Extern.Stop Go.Stop Go.Extern Go.Extern.ReflectliteType in
theorem isComparable (w : World) : ((Extern.ReflectliteType.method fun t => do Extern.Rtype.noPackHeld "Comparable" t; pure (.bool (← typeInfo t).comparable)) #[.agg #[.pointer (some ⟨1,200,none⟩)]]).run Tryz.prog w = .ok (.bool true) w := by kernel_rfl
open Go.RowKit Go.Extern.Stop Go.Stop Go.Extern Go.Extern.ReflectliteType in
theorem Lpz (w:World):Sem.run Tryz.prog (callFunc 206 #[.agg #[.pointer (some ⟨1,200,none⟩)]]) w=Result.ok (Next.value (Value.bool true)) w:=by
  have h := @run_callFunc_extern Tryz.prog 206 _ (Extern.ReflectliteType.method fun t => do Extern.Rtype.noPackHeld "Comparable" t; pure (.bool (← typeInfo t).comparable)) Tryz.func206 (by kernel_rfl) (by kernel_rfl) (by kernel_rfl) (by kernel_rfl)
  rw [h,isComparable]
  rfl
theorem Hkz (v : Value) (w : World) : (Go.method 337 138 v "Comparable").run Tryz.prog w = .ok (206,v) w := by kernel_rfl
theorem isComp:(Tryz.prog.info? 200).map (·.comparable)=some true:=by kernel_rfl
theorem isSize:(Tryz.prog.info? 225).map (·.size)=some 1:=by kernel_rfl
open Go.RowKit Go.Extern.Stop Go.Stop Go.Extern in
set_option maxHeartbeats 16000000 in
theorem is_same (a:Addr) (w:World) :
    Calls Tryz.prog 43 #[.iface 200 (.pointer (some a)),.iface 200 (.pointer (some a))] w fun e w'=>e=.returned (.bool true) ∧ w'=w:=by
  obtain ⟨i,hi,hcmp⟩:=Option.map_eq_some_iff.1 isComp
  obtain ⟨j,hj,hjs⟩:=Option.map_eq_some_iff.1 isSize
  have h8:=@run_callFunc_extern Tryz.prog 81 _ Extern.ReflectliteType.typeOf Tryz.func81 (by kernel_rfl) (by kernel_rfl) (by kernel_rfl) (by kernel_rfl)
  have h32:=Lpz
  have tT:=isTypeOf1
  have mR:=Hkz
  have heq:=run_eql_iface_ptr_same (P:=Tryz.prog) w a Tryz.underlying64 Tryz.underlying200 hi hcmp hj
  go_enter Tryz.func43,Tryz.ntmps43
  go_wp2
  all_goals (try (refine wp_loop_rounds 1 ?_;rw [rounds_succ];go_wp2))
  all_goals (try (go_ret;exact ⟨rfl,rfl⟩))
open Go.RowKit Go.Extern.Stop Go.Stop Go.Extern in
theorem is_nil (b:Addr) (w:World) :
    Calls Tryz.prog 43 #[.nilIface,.iface 200 (.pointer (some b))] w fun e w'=>e=.returned (.bool false) ∧ w'=w:=by
  have hn:=run_eql_iface_nil_left (P:=Tryz.prog) w 200 (.pointer (some b)) Tryz.underlying64
  go_enter Tryz.func43,Tryz.ntmps43
  go_wp2
  go_ret
  exact ⟨rfl,rfl⟩

end Go.Proofs.YtkpcjppnjmhanaaGreatDoor
namespace Go.Proofs.YtkpcjppnjmhanaaGreatDoor
open VwM Vw Go
variable [SentA]

theorem hang_false {d id kid n:Nat} {k:Int} {ks:List Int} {σ:List (Nat × AV)} {H:List (Nat × List AV)} {K:S → Prop} (h0:hk H id=some [.own kid n 1]) (h1:hk H kid=some (IL ks)) (hf:hk H 224=none ∧ hk H 304=none)
    (hK:K (mkS ((d,.ref 304 1 0) :: σ) ((304,[.val (.slice none 0 0)]) :: H))):callE Tryz.prog 0 83 [.ref id 1 0,.int .i64 k,.bool false] (some d) K σ H:=by
  obtain ⟨hf1,hf2⟩:=hf
  intro args ha
  refine Cpz ?_
  rw [ha]
  refine J5z l83_eq rfl ?_
  show awpK Tryz.prog 0 _ _ (mkS [(0,.ref id 1 0),(1,.int .i64 k),(2,.bool false)] H)
  repeat' (first
    | (refine awpK_seq ?_)
    | (refine awpK_reg rfl ?_;simp (disch:=omega) only [push_cast,seval,l83r0,l83r1,l83r2,l83r3,h0,h1,hf1,hf2])
    | (refine awpK_cond false rfl (fun h=>by cases h) (fun _=>?_))
    | (refine awpK_skip ?_;simp (disch:=omega) only [push_cast,seval])
    | (refine awpK_ret ⟨.inr rfl,_,rfl,?_⟩))
  all_goals (show K ⟨upd (lk σ) d (.ref 304 1 0),hk ((304,[.val (.slice none 0 0)]) :: H)⟩;rw [upd_lk];exact hK)
theorem hang_true {d id kid n:Nat} {k:Int} {ks:List Int} {σ:List (Nat × AV)} {H:List (Nat × List AV)} {K:S → Prop} (h0:hk H id=some [.own kid n 1]) (h1:hk H kid=some (IL ks)) (hn:ks.length=n) (hb:n ≤ 1000) (hi:id ≠ kid) (hf:hk H 224=none ∧ hk H 304=none)
    (hK:K (mkS ((d,.ref 304 1 0) :: σ) ((304,[.val (.slice none 0 0)]) :: (id,[.own kid (n + 1) 1]) :: (kid,IL ks ++ [.int .i64 k]) :: (224,[.int .i64 k]) :: H))):callE Tryz.prog 0 83 [.ref id 1 0,.int .i64 k,.bool true] (some d) K σ H:=by
  obtain ⟨hf1,hf2⟩:=hf
  have e1:(id=224)=False:=propext ⟨fun e=>by rw [e,hf1] at h0;exact (by cases h0),False.elim⟩
  have e2:(kid=224)=False:=propext ⟨fun e=>by rw [e,hf1] at h1;exact (by cases h1),False.elim⟩
  have e3:(id=kid)=False:=propext ⟨fun e=>hi e,False.elim⟩
  have e4:(304=id)=False:=propext ⟨fun e=>by rw [← e,hf2] at h0;exact (by cases h0),False.elim⟩
  have e5:(304=kid)=False:=propext ⟨fun e=>by rw [← e,hf2] at h1;exact (by cases h1),False.elim⟩
  have hil:(IL ks).length=n:=by unfold IL;simpa using hn
  intro args ha
  refine Cpz ?_
  rw [ha]
  refine J5z l83_eq rfl ?_
  show awpK Tryz.prog 0 _ _ (mkS [(0,.ref id 1 0),(1,.int .i64 k),(2,.bool true)] H)
  repeat' (first
    | (refine awpK_seq ?_)
    | (refine awpK_reg rfl ?_;simp (disch:=omega) only [push_cast,seval,l83r0,l83r1,l83r2,l83r3,h0,h1,hf1,hf2,e1,e2,e3,e4,e5,hil])
    | (refine awpK_cond true rfl (fun _=>?_) (fun h=>by cases h))
    | (refine awpK_skip ?_;simp (disch:=omega) only [push_cast,seval])
    | (refine awpK_ret ⟨.inr rfl,_,rfl,?_⟩))
  all_goals (show K ⟨upd (lk σ) d (.ref 304 1 0),_⟩;rw [upd_lk];exact hK)

end Go.Proofs.YtkpcjppnjmhanaaGreatDoor
namespace Go.Proofs.YtkpcjppnjmhanaaGreatDoor
open VwM Vw Go
variable [SentA]

theorem SubW.rfl' {pin:Nat} {s:S}:SubW pin s s:=fun E M x w _ h=>⟨M,h⟩
theorem K5z {P:Program} {pin f:Nat} {avs:List AV} {dst:Option Nat} {K:S → Prop} {σ:List (Nat × AV)} {H:List (Nat × List AV)} (h:callE P pin f avs dst (fun s'=>∃ s1,SubW pin s' s1 ∧ K s1) σ H):callE P pin f avs dst K σ H:=fun args ha E M a w hp hd hst=>by
  refine (h args ha E M a w hp hd hst).mono fun e w' ⟨M',s',v,⟨s1,hsub,hk⟩,he,hst'⟩=>?_
  obtain ⟨M'',h1⟩:=hsub E M' _ w' hp hst'
  exact ⟨M'',s1,v,hk,he,h1⟩
theorem adHL_id (t id sz:Nat):∀ H:List (Nat × List AV),hk H t=none → adHL [t] id sz H=H
  | [],_=>rfl
  | p :: r,h=>by
    simp only [hk] at h
    split at h
    · cases h
    · rename_i hne
      simp only [adHL,List.map_cons]
      have ih:=adHL_id t id sz r h
      simp only [adHL] at ih
      rw [ih]
      have:([t].contains p.1)=false:=by simp;exact fun e=>hne e.symm
      rw [this];rfl


theorem hang_no {d id kid n:Nat} {k:Int} {ks:List Int} {σ:List (Nat × AV)} {H:List (Nat × List AV)} {K:S → Prop} (h0:hk H id=some [.own kid n 1]) (h1:hk H kid=some (IL ks)) (hf:hk H 224=none ∧ hk H 304=none ∧ hk H 16000=none)
    (hK:K (mkS ((d,.ref 304 1 0) :: σ) ((16000,[]) :: (304,[.own 16000 0 1]) :: H))):callE Tryz.prog 0 83 [.ref id 1 0,.int .i64 k,.bool false] (some d) K σ H:=by
  refine K5z (hang_false h0 h1 ⟨hf.1,hf.2.1⟩ ⟨_,?_,hK⟩)
  refine SubW.adoptH [304] 16000 1 (by simp [hk,hf.2.2]) ?_
  have e:adHL [304] 16000 1 ((304,[AV.val (.slice none 0 0)]) :: H)=(304,[.own 16000 0 1]) :: H:=by
    have:=adHL_id 304 16000 1 H hf.2.1
    simp only [adHL,List.map_cons] at this ⊢
    rw [this];rfl
  rw [e]
  exact SubW.rfl'
theorem hang_yes {d id kid n:Nat} {k:Int} {ks:List Int} {σ:List (Nat × AV)} {H:List (Nat × List AV)} {K:S → Prop} (h0:hk H id=some [.own kid n 1]) (h1:hk H kid=some (IL ks)) (hn:ks.length=n) (hb:n ≤ 1000) (hi:id ≠ kid) (hf:hk H 224=none ∧ hk H 304=none ∧ hk H 16000=none)
    (hK:K (mkS ((d,.ref 304 1 0) :: σ) ((16000,[]) :: (304,[.own 16000 0 1]) :: (id,[.own kid (n + 1) 1]) :: (kid,IL (ks ++ [k])) :: (224,[.int .i64 k]) :: H))):callE Tryz.prog 0 83 [.ref id 1 0,.int .i64 k,.bool true] (some d) K σ H:=by
  have n1:id ≠ 304:=fun e=>by rw [e,hf.2.1] at h0;cases h0
  have n2:kid ≠ 304:=fun e=>by rw [e,hf.2.1] at h1;cases h1
  have n3:id ≠ 16000:=fun e=>by rw [e,hf.2.2] at h0;cases h0
  have n4:kid ≠ 16000:=fun e=>by rw [e,hf.2.2] at h1;cases h1
  refine K5z (hang_true h0 h1 hn hb hi ⟨hf.1,hf.2.1⟩ ⟨_,?_,hK⟩)
  refine SubW.adoptH [304] 16000 1 (by simp [hk,hf.2.2,Ne.symm n3,Ne.symm n4]) ?_
  have e:adHL [304] 16000 1 ((304,[AV.val (.slice none 0 0)]) :: (id,[.own kid (n + 1) 1]) :: (kid,IL ks ++ [.int .i64 k]) :: (224,[.int .i64 k]) :: H)=(304,[.own 16000 0 1]) :: (id,[.own kid (n + 1) 1]) :: (kid,IL (ks ++ [k])) :: (224,[.int .i64 k]) :: H:=by
    have hx:=adHL_id 304 16000 1 ((id,[.own kid (n + 1) 1]) :: (kid,IL ks ++ [.int .i64 k]) :: (224,[.int .i64 k]) :: H) (by simp [hk,hf.2.1,Ne.symm n1,Ne.symm n2])
    simp only [adHL,List.map_cons] at hx ⊢
    rw [hx]
    unfold IL
    simp [adA]
  rw [e]
  exact SubW.rfl'


def heldV [SentA] (n:Nat):Value:=if 0 < n then .iface 200 (.pointer (some SentA.a)) else .nilIface
theorem D9z {ρ:Nat → Option Nat} {Z:Nat → Option (List AV)} {b0:Bool} {φ:Bool → Option Bool} {m:Nat} (n:Nat):AV.ren ρ Z b0 φ (m + 1) (.val (heldV n))=.val (heldV n):=by unfold heldV;split<;>rfl
theorem E2z (σ:List (Nat × AV)) (H:List (Nat × List AV)):(mkS σ H).ev (.global 0)=.prow false [.val (.iface 200 (.pointer (some SentA.a)))] 0:=rfl
theorem Krz:ofVal Value.nilIface=.val .nilIface:=rfl
theorem fzIf (H:Nat → Option (List AV)) (t:TypeId) (v:Value):AV.fz H 5 (.val (.iface t v))=.val (.iface t v):=rfl
theorem fzNi (H:Nat → Option (List AV)):AV.fz H 5 (.val .nilIface)=.val .nilIface:=rfl
theorem L4z (ks:List Int) (n:Nat) (hn:ks.length=n) (hb:n ≤ 1000):PCall Tryz.prog 45 [.prow false [.rows false (IL ks) n] 0] (fun r=>r=.val (heldV n)):=by
  subst hn
  refine Awz l45_eq rfl ?_
  unfold heldV
  by_cases h:0 < ks.length
  · rw [if_pos h]
    (repeat' (first
 | (first|refine Ahz ?_|refine Abz ?_)
 | ((first|refine Aiz ?_|refine Adz ?_);simp (disch:=omega) only [push_cast,seval,l45r0,l45r1,l45r2,l45r3,E2z,Krz,fzIf,fzNi])
 | ((first|refine Amz (fun h=>?_) (fun h=>?_))<;>(try simp only [h])<;>(try simp only [bitvec_to_nat] at h)<;>(try simp only [h])<;>(first|(exfalso;omega)|(exfalso;simp_all;done)|(simp (disch:=omega) only [push_cast,seval,E2z,Krz,fzIf,fzNi])|skip))
 | (refine Aez ⟨.inr rfl,_,rfl,?_⟩;(try simp (disch:=omega) only [push_cast,seval,E2z,Krz,fzIf,fzNi]))))
  · rw [if_neg h]
    (repeat' (first
 | (first|refine Ahz ?_|refine Abz ?_)
 | ((first|refine Aiz ?_|refine Adz ?_|refine Aoz ?_);simp (disch:=omega) only [push_cast,seval,l45r0,l45r1,l45r2,l45r3,E2z,Krz,fzIf,fzNi])
 | ((first|refine Amz (fun h=>?_) (fun h=>?_))<;>(try simp only [h])<;>(try simp only [bitvec_to_nat] at h)<;>(try simp only [h])<;>(first|(exfalso;omega)|(exfalso;simp_all;done)|(simp (disch:=omega) only [push_cast,seval,E2z,Krz,fzIf,fzNi])|skip))
 | (refine Aez ⟨.inr rfl,_,rfl,?_⟩;(try simp (disch:=omega) only [push_cast,seval,E2z,Krz,fzIf,fzNi]))))

end Go.Proofs.YtkpcjppnjmhanaaGreatDoor
namespace Go.Proofs.YtkpcjppnjmhanaaGreatDoor
open VwM Vw Go
variable [SentA]

def fA (es:List Ex) (i j:Nat):List AV:=[.own (fim 2 j) (kidsT es ((j:Int) - 1) i).length 1]
def fB (es:List Ex) (i j:Nat):List AV:=IL (kidsT es ((j:Int) - 1) i)
def refs (i:Nat):List AV:=row i fun j=>.ref (fim 1 (j + 1)) 1 0
theorem refs_1 {i q:Nat} (h:q < i):((refs i).drop q).take 1=[.ref (fim 1 (q + 1)) 1 0]:=row_1 _ _ _ (by omega)
theorem refs_len (i:Nat):(refs i).length=i:=F0z ..
theorem swL_ref (a b a' b' i:Nat):swL b (fim 2 b') (swL a (fim 1 a') (refs i ++ [.ref a 1 0]))=swL b (fim 2 b') (swL a (fim 1 a') (refs i)) ++ [.ref (swp b (fim 2 b') (fim 1 a')) 1 0]:=by
  simp only [Faz,List.map_append,List.map_cons,List.map_nil,AV.sw,Hzz]
theorem refs_sw {a b n i:Nat} (ha:a < 1099511627776) (hb:b < 1099511627776) (h:i ≤ n):swL b (fim 2 (n + 1)) (swL a (fim 1 (n + 1)) (refs i))=refs i:=by
  rw [Faz,Faz]
  unfold refs
  rw [Dkz,Dkz]
  refine Crz fun p hp=>?_
  simp only [AV.sw]
  rw [Bgz (c:=fim 1 (p + 1)) (Ne.symm (Edz _ _ _ ha)) (fun e=>by have:=Bsz e;omega)]
  rw [Bgz (c:=fim 1 (p + 1)) (Ne.symm (Edz _ _ _ hb)) (fun e=>by have:=B8z (by omega) (by omega) e;omega)]
theorem Hcz {a b n:Nat} (ha:a < 1099511627776) (hb:b < 1099511627776):swL b (fim 2 (n + 1)) (swL a (fim 1 (n + 1)) (refs n ++ [.ref a 1 0]))=refs (n + 1):=by
  rw [swL_ref,refs_sw ha hb (Nat.le_refl _),Bgz (c:=fim 1 (n + 1)) (Ne.symm (Edz _ _ _ hb)) (fun e=>by have:=B8z (by omega) (by omega) e;omega)]
  unfold refs row
  rw [List.range_succ,List.map_append]
  rfl
theorem own_sw {a b n j k sz:Nat} (ha:a < 1099511627776) (hb:b < 1099511627776) (h:j ≤ n):swL b (fim 2 (n + 1)) (swL a (fim 1 (n + 1)) [.own (fim 2 j) k sz])=[.own (fim 2 j) k sz]:=by
  simp only [swL,AV.sw]
  rw [Bgz (c:=fim 2 j) (Ne.symm (Edz _ _ _ ha)) (fun e=>by have:=B8z (by omega) (by omega) e;omega),Bgz (c:=fim 2 j) (Ne.symm (Edz _ _ _ hb)) (fun e=>by have:=Bsz e;omega)]
theorem Lvz {a b n k sz:Nat} (hab:b ≠ a) (hb:b < 1099511627776):swL b (fim 2 (n + 1)) (swL a (fim 1 (n + 1)) [.own b k sz])=[.own (fim 2 (n + 1)) k sz]:=by
  simp only [swL,AV.sw]
  rw [Bgz hab (Edz _ _ _ hb),Hzz]
theorem il_sw (a b x y:Nat) (l:List Int):swL b y (swL a x (IL l))=IL l:=by rw [Fbz,Fbz]
theorem fA_new {es:List Ex} (h:parOk es) (i:Nat):fA es (i + 1) (i + 1)=[.own (fim 2 (i + 1)) 0 1]:=by
  unfold fA
  rw [show (((i + 1:Nat):Int) - 1)=(i:Int) by omega,Jqz h i (i + 1) (Nat.le_refl _)];rfl
theorem fB_new {es:List Ex} (h:parOk es) (i:Nat):fB es (i + 1) (i + 1)=[]:=by
  unfold fB
  rw [show (((i + 1:Nat):Int) - 1)=(i:Int) by omega,Jqz h i (i + 1) (Nat.le_refl _)];rfl
theorem kU_no {es:List Ex} {i Q j:Nat} {v:Vw3} {o:Bool} (h:es[i]?=some ((Q:Int) - 1,v,o)) (hj:¬ (o=true ∧ j=Q)):kidsT es ((j:Int) - 1) (i + 1)=kidsT es ((j:Int) - 1) i :=
  E1z h (fun hh=>hj ⟨hh.1,by have:=hh.2;simp only at this;omega⟩)
theorem fA_at {es:List Ex} {i Q:Nat} {p:Int} (h:(Q:Int) - 1=p):fA es i Q=[.own (fim 2 Q) (kidsT es p i).length 1]:=by subst h;rfl
theorem fB_at {es:List Ex} {i Q:Nat} {p:Int} (h:(Q:Int) - 1=p):fB es i Q=IL (kidsT es p i):=by subst h;rfl
theorem L0z {es:List Ex} {i:Nat} {p:Int} {v:Vw3} (h:es[i]?=some (p,v,true)):kidsT es p (i + 1)=kidsT es p i ++ [(i:Int)]:=Flz h ⟨rfl,rfl⟩
theorem innA (es:List Ex) (i j n:Nat) (c1:List AV) (id0:Nat) (f:Nat → List AV) (h:j < n):innL (fun id=>(hk ((id0,c1) :: (gam 1 f n ++ gam 2 (fB es i) n)) id).isSome) (fA es i j)=true:=by
  simp only [fA,innL,AV.inn,hk,Bool.and_true]
  split
  · rfl
  · rw [Coz 1 _ _ _ 2 j (by omega),B9z 2 _ _ _ h];rfl
theorem innR (i n:Nat) (c1:List AV) (id0:Nat) (f g:Nat → List AV) (h:i < n):innL (fun id=>(hk ((id0,c1) :: (gam 1 f n ++ gam 2 g n)) id).isSome) (refs i)=true:=by
  refine innL_row _ _ _ fun p hp=>?_
  simp only [AV.inn,hk]
  split
  · rfl
  · rw [Bkz 1 _ _ _ _ (by omega)];rfl
theorem Idz (a b:Nat) (c:Bool):∀ es:List Ex,swL a b (EL c es)=EL c es
  | []=>rfl
  | l :: r=>by simp only [EL,swL,AV.sw,Fbz,Idz a b c r]
theorem ret_node [Inhabited GlobT] {σ:List (Nat × AV)} {H:List (Nat × List AV)} {res:List ARes} {Q:Nat} {ks:List Int} (hl:aresL (mkS σ H) res=some [.ref (fim 1 Q) 1 0]) (h0:hk H (fim 1 Q)=some [.own (fim 2 Q) ks.length 1]) (h1:hk H (fim 2 Q)=some (IL ks)) :
    ∃ (outs:List Nat) (nils:List (Nat × Nat)) (l:List AV),(outs.Nodup ∧ ∀ id ∈ outs,True) ∧ aresL (mkS σ H) res=some l ∧ (∀ p ∈ nils,(mkS σ H).H p.1=none ∧ inN outs p.1) ∧
      AV.ren (posF outs) (orNil (mkS σ H).H outs) true some 5 (AV.fixNil nils (tupOf l)).1=.ref 0 1 0 ∧ List.map (fun id=>List.map (AV.ren (posF outs) (orNil (mkS σ H).H outs) true some 5) (((mkS σ H).H id).getD [])) outs=[[.own 1 ks.length 1],IL ks]:=by
  have hne:fim 1 Q ≠ fim 2 Q:=fun e=>by have:=B8z (by omega) (by omega) e;omega
  have p0:posF [fim 1 Q,fim 2 Q] (fim 1 Q)=some 0:=by simp [posF,posL]
  have p1:posF [fim 1 Q,fim 2 Q] (fim 2 Q)=some 1:=by simp [posF,posL,Ne.symm hne]
  refine ⟨[fim 1 Q,fim 2 Q],[],_,⟨by simp [hne],fun _ _=>trivial⟩,hl,(fun _ h=>by cases h),?_,?_⟩
  · show AV.ren _ _ _ _ 5 (.ref (fim 1 Q) 1 0)=_
    rw [ren_ref,p0,renR_some]
  · show [List.map _ ((hk H (fim 1 Q)).getD []),List.map _ ((hk H (fim 2 Q)).getD [])]=_
    rw [h0,h1]
    show [[AV.ren _ _ _ _ 5 (.own (fim 2 Q) ks.length 1)],List.map _ (IL ks)]=_
    rw [Gtz,p1,Fez,ren_IL]


set_option maxHeartbeats 16000000 in
theorem node_ok (cs:List Int) (es:List Ex) (m n:Nat) (id:Int) (hm:cs.length=m) (hn:es.length=n) (hb:m ≤ 1000 ∧ n ≤ 1000) (hp:parOk es) (hid:-1 ≤ id ∧ id < n) :
    BCall Tryz.prog 44 [.agg [.rows false (IL cs) m,.rows false (EL false es) n],.int .i64 id] [] (fun r H'=>r=.ref 0 1 0 ∧ H'=[[.own 1 (kidsT es id n).length 1],IL (kidsT es id n)]):=by
  subst hm hn
  obtain ⟨hb1,hb2⟩:=hb
  refine Axz (pins:=[]) (pin:=0) l44_eq rfl rfl rfl ?_
  have hel:=A1z false es
  (repeat' (first
 | (first|refine Ahz ?_|refine Abz ?_)
 | ((first|refine Aiz ?_);simp (disch:=omega) only [push_cast,seval,l44r0,l44r1,l44r2,l44r3,l44r4,l44r5,l44r6,l44r7,l44r8,l44r9,l44r10,l44r11,l44r12,l44r13,Aaz])))
  refine Dhz (fun i:Nat=>mkS [(1,.int .i64 id),(5,.ref (fim 1 0) 1 0),(6,.own 576 i 1),(13,.rows false (EL false es) es.length),(14,.int .i64 es.length),(15,.int .i64 i)] ((576,refs i) :: (gam 1 (fA es i) (i + 1) ++ gam 2 (fB es i) (i + 1)))) (fun i=>i ≤ es.length) (fun i=>es.length - i) 0 (Nat.zero_le _) ?_ ?_
  · refine SubW.adopt [6] 576 1 rfl ?_
    refine SubW.adoptH [176] 16000 1 rfl ?_
    refine SubW.gam2 (a:=176) (b:=16000) (d1:=1) (d2:=2) (n:=0) (id0:=576) (c0:=[]) ⟨by omega,by omega,by omega⟩ ⟨by omega,by omega,by omega,by omega⟩ rfl (fun j h=>absurd h (Nat.not_lt_zero _)) (fun j h=>absurd h (Nat.not_lt_zero _)) ?_ ?_ ?_ ?_ ?_ ?_ ?_
    · have e:fA es 0 0=[.own (fim 2 0) 0 1]:=rfl
      rw [e]
      show some [AV.own (swp 16000 (fim 2 0) (swp 176 (fim 1 0) 16000)) 0 1]=_
      rw [E9z 176 1 0 16000 (by omega) (by omega),Hzz]
    · rfl
    · simp [lk,AV.sw,Idz,E9z,adL,adA,Hzz]
      try rw [Bgz (Ne.symm (Edz _ _ _ (by omega))) (fun e=>by have:=B8z (by omega) (by omega) e;omega)]
    · simp [AV.inn,Aaz,hk,refs,row,Bkz,ne_fim,Azz]
    · rfl
    · intro j hj
      exact innA es 0 j 1 _ _ _ hj
    · intro j hj
      exact Dwz _ _
  · intro i hi
    by_cases hlt:i < es.length
    · obtain ⟨⟨p,⟨bs,x,y⟩,o⟩,hei⟩:∃ e,es[i]?=some e:=⟨_,List.getElem?_eq_getElem hlt⟩
      have hpp:=hp i _ hei
      simp only at hpp
      have hd:=Cez false es i hei
      simp only at hd
      have hil:i * 5 + 5 ≤ es.length * 5:=by omega
      have hrl:=refs_len i
      by_cases hpm:p=-1
      · subst hpm
        cases o
        · (repeat' (first
 | (first|refine Ahz ?_|refine Abz ?_)
 | ((first|refine Aiz ?_|refine Adz ?_|refine Aoz ?_);simp (disch:=omega) only [push_cast,seval,l44r0,l44r1,l44r2,l44r3,l44r4,l44r5,l44r6,l44r7,l44r8,l44r9,l44r10,l44r11,l44r12,l44r13,hd,hel,hil,hrl,Aaz])
 | ((first | refine Amz (fun h => ?_) (fun h => ?_)) <;> (try simp only [h]) <;> (try simp only [bitvec_to_nat] at h) <;> (try simp only [h]) <;> (first | (exfalso; omega) | (focus (exfalso; simp_all; done)) | (simp (disch := omega) only [push_cast,seval,hd,hel,hil,hrl,Aaz]) | skip))))
          refine Iyz (f:=83) ?_
          simp (disch:=omega) only [push_cast,seval]
          refine hang_no (id:=fim 1 (0)) (kid:=fim 2 (0)) (n:=(kidsT es (-1) i).length) (ks:=kidsT es (-1) i) (by simp (disch:=omega) only [push_cast,seval];exact congrArg some (fA_at (by omega))) (by simp (disch:=omega) only [push_cast,seval];exact congrArg some (fB_at (by omega))) (by simp (disch:=omega) only [push_cast,seval]) ?_
          simp (disch:=omega) only [push_cast,seval,l44r0,l44r1,l44r2,l44r3,l44r4,l44r5,l44r6,l44r7,l44r8,l44r9,l44r10,l44r11,l44r12,l44r13,hrl]
          (repeat' (first
 | (first|refine Ahz ?_|refine Abz ?_)
 | ((first | refine Aiz ?_); simp (disch := omega) only [push_cast,seval,l44r0,l44r1,l44r2,l44r3,l44r4,l44r5,l44r6,l44r7,l44r8,l44r9,l44r10,l44r11,l44r12,l44r13,hrl])))
          have hei':es[i]?=some ((((0:Nat):Int) - 1),(bs,x,y),false):=by rw [hei];congr 2;try omega
          refine ⟨i + 1,by omega,by omega,?_⟩
          refine SubW.gam2 (a:=304) (b:=16000) (d1:=1) (d2:=2) (n:=i + 1) (id0:=576) (c0:=[]) ⟨by omega,by omega,by omega⟩ ⟨by omega,by omega,by omega,by omega⟩ ?_ ?_ ?_ ?_ ?_ ?_ ?_ ?_ ?_ ?_
          · exact congrArg some (Hcz (by omega) (by omega))
          · intro j hj
            have e:hk ((576,refs i ++ [AV.ref 304 1 0]) :: (560,[AV.ref 304 1 0]) :: (16000,[]) :: (304,[AV.own 16000 0 1]) :: (128,[AV.int .i64 (-1),AV.int .i64 bs,AV.rows false (IL x) x.length,AV.rows false (IL y) y.length,AV.bool false]) :: (128,[AV.int .i64 0,AV.int .i64 0,AV.val (.slice none 0 0),AV.val (.slice none 0 0),AV.bool false]) :: (576,refs i) :: (gam 1 (fA es i) (i + 1) ++ gam 2 (fB es i) (i + 1))) (fim 1 j)=some (fA es (i + 1) j):=by
              simp only [hk,Azz _ _ 576 (by omega),Azz _ _ 560 (by omega),Azz _ _ 16000 (by omega),Azz _ _ 304 (by omega),Azz _ _ 128 (by omega),Azz _ _ 224 (by omega),if_false]
              rw [Bkz 1 _ _ _ _ hj]
              unfold fA
              rw [kU_no hei' (fun h=>by cases h.1)]
            rw [e]
            exact congrArg some (own_sw (by omega) (by omega) (by omega))
          · intro j hj
            have e:hk ((576,refs i ++ [AV.ref 304 1 0]) :: (560,[AV.ref 304 1 0]) :: (16000,[]) :: (304,[AV.own 16000 0 1]) :: (128,[AV.int .i64 (-1),AV.int .i64 bs,AV.rows false (IL x) x.length,AV.rows false (IL y) y.length,AV.bool false]) :: (128,[AV.int .i64 0,AV.int .i64 0,AV.val (.slice none 0 0),AV.val (.slice none 0 0),AV.bool false]) :: (576,refs i) :: (gam 1 (fA es i) (i + 1) ++ gam 2 (fB es i) (i + 1))) (fim 2 j)=some (fB es (i + 1) j):=by
              simp only [hk,Azz _ _ 576 (by omega),Azz _ _ 560 (by omega),Azz _ _ 16000 (by omega),Azz _ _ 304 (by omega),Azz _ _ 128 (by omega),Azz _ _ 224 (by omega),if_false]
              rw [Coz 1 _ _ _ 2 j (by omega),B9z 2 _ _ _ hj]
              unfold fB
              rw [kU_no hei' (fun h=>by cases h.1)]
            rw [e]
            exact congrArg some (il_sw _ _ _ _ _)
          · rw [fA_new hp]
            exact congrArg some (Lvz (by omega) (by omega))
          · rw [fB_new hp]
            rfl
          · simp [lk,AV.sw,Idz,E9z]
            rw [Bgz (c:=fim 1 0) (Ne.symm (Edz _ _ _ (by omega))) (fun e=>by have:=Bsz e;omega),Bgz (c:=fim 1 0) (Ne.symm (Edz _ _ _ (by omega))) (fun e=>by have:=B8z (by omega) (by omega) e;omega)]
          · simp [AV.inn,Aaz,hk,Bkz,Azz]
          · exact innR _ _ _ _ _ _ (by omega)
          · intro j hj
            exact innA es (i + 1) j (i + 1 + 1) _ _ _ hj
          · intro j hj
            exact Dwz _ _
        · (repeat' (first
 | (first|refine Ahz ?_|refine Abz ?_)
 | ((first|refine Aiz ?_|refine Adz ?_|refine Aoz ?_);simp (disch:=omega) only [push_cast,seval,l44r0,l44r1,l44r2,l44r3,l44r4,l44r5,l44r6,l44r7,l44r8,l44r9,l44r10,l44r11,l44r12,l44r13,hd,hel,hil,hrl,Aaz])
 | ((first | refine Amz (fun h => ?_) (fun h => ?_)) <;> (try simp only [h]) <;> (try simp only [bitvec_to_nat] at h) <;> (try simp only [h]) <;> (first | (exfalso; omega) | (focus (exfalso; simp_all; done)) | (simp (disch := omega) only [push_cast,seval,hd,hel,hil,hrl,Aaz]) | skip))))
          refine Iyz (f:=83) ?_
          simp (disch:=omega) only [push_cast,seval]
          refine hang_yes (id:=fim 1 (0)) (kid:=fim 2 (0)) (n:=(kidsT es (-1) i).length) (ks:=kidsT es (-1) i) (by simp (disch:=omega) only [push_cast,seval];exact congrArg some (fA_at (by omega))) (by simp (disch:=omega) only [push_cast,seval];exact congrArg some (fB_at (by omega))) (by simp) (Nat.le_trans (Epz es _ i) (by omega)) (fun e=>by have:=B8z (by omega) (by omega) e;omega) (by simp (disch:=omega) only [push_cast,seval]) ?_
          simp (disch:=omega) only [push_cast,seval,l44r0,l44r1,l44r2,l44r3,l44r4,l44r5,l44r6,l44r7,l44r8,l44r9,l44r10,l44r11,l44r12,l44r13,hrl]
          (repeat' (first
 | (first|refine Ahz ?_|refine Abz ?_)
 | ((first | refine Aiz ?_); simp (disch := omega) only [push_cast,seval,l44r0,l44r1,l44r2,l44r3,l44r4,l44r5,l44r6,l44r7,l44r8,l44r9,l44r10,l44r11,l44r12,l44r13,hrl])))
          have hei':es[i]?=some ((((0:Nat):Int) - 1),(bs,x,y),true):=by rw [hei];congr 2;try omega
          refine ⟨i + 1,by omega,by omega,?_⟩
          refine SubW.gam2 (a:=304) (b:=16000) (d1:=1) (d2:=2) (n:=i + 1) (id0:=576) (c0:=[]) ⟨by omega,by omega,by omega⟩ ⟨by omega,by omega,by omega,by omega⟩ ?_ ?_ ?_ ?_ ?_ ?_ ?_ ?_ ?_ ?_
          · exact congrArg some (Hcz (by omega) (by omega))
          · intro j hj
            have e:hk ((576,refs i ++ [AV.ref 304 1 0]) :: (560,[AV.ref 304 1 0]) :: (16000,[]) :: (304,[AV.own 16000 0 1]) :: (fim 1 (0),[.own (fim 2 (0)) ((kidsT es (-1) i).length + 1) 1]) :: (fim 2 (0),IL (kidsT es (-1) i ++ [(i:Int)])) :: (224,[.int .i64 i]) :: (128,[AV.int .i64 (-1),AV.int .i64 bs,AV.rows false (IL x) x.length,AV.rows false (IL y) y.length,AV.bool true]) :: (128,[AV.int .i64 0,AV.int .i64 0,AV.val (.slice none 0 0),AV.val (.slice none 0 0),AV.bool false]) :: (576,refs i) :: (gam 1 (fA es i) (i + 1) ++ gam 2 (fB es i) (i + 1))) (fim 1 j)=some (fA es (i + 1) j):=by
              simp only [hk,Azz _ _ 576 (by omega),Azz _ _ 560 (by omega),Azz _ _ 16000 (by omega),Azz _ _ 304 (by omega),Azz _ _ 128 (by omega),Azz _ _ 224 (by omega),if_false]
              by_cases ej:j=0
              · subst ej
                rw [if_pos rfl,fA_at (p:=(-1)) (by omega),L0z hei,List.length_append]
                rfl
              · rw [if_neg (fun e=>ej (Bsz e)),if_neg (fun e=>by have:=B8z (by omega) (by omega) e;omega),Bkz 1 _ _ _ _ hj]
                unfold fA
                rw [kU_no hei' (fun h=>ej h.2)]
            rw [e]
            exact congrArg some (own_sw (by omega) (by omega) (by omega))
          · intro j hj
            have e:hk ((576,refs i ++ [AV.ref 304 1 0]) :: (560,[AV.ref 304 1 0]) :: (16000,[]) :: (304,[AV.own 16000 0 1]) :: (fim 1 (0),[.own (fim 2 (0)) ((kidsT es (-1) i).length + 1) 1]) :: (fim 2 (0),IL (kidsT es (-1) i ++ [(i:Int)])) :: (224,[.int .i64 i]) :: (128,[AV.int .i64 (-1),AV.int .i64 bs,AV.rows false (IL x) x.length,AV.rows false (IL y) y.length,AV.bool true]) :: (128,[AV.int .i64 0,AV.int .i64 0,AV.val (.slice none 0 0),AV.val (.slice none 0 0),AV.bool false]) :: (576,refs i) :: (gam 1 (fA es i) (i + 1) ++ gam 2 (fB es i) (i + 1))) (fim 2 j)=some (fB es (i + 1) j):=by
              simp only [hk,Azz _ _ 576 (by omega),Azz _ _ 560 (by omega),Azz _ _ 16000 (by omega),Azz _ _ 304 (by omega),Azz _ _ 128 (by omega),Azz _ _ 224 (by omega),if_false]
              by_cases ej:j=0
              · subst ej
                rw [if_neg (fun e=>by have:=B8z (by omega) (by omega) e;omega),if_pos rfl,fB_at (p:=(-1)) (by omega),L0z hei]
              · rw [if_neg (fun e=>by have:=B8z (by omega) (by omega) e;omega),if_neg (fun e=>ej (Bsz e)),Coz 1 _ _ _ 2 j (by omega),B9z 2 _ _ _ hj]
                unfold fB
                rw [kU_no hei' (fun h=>ej h.2)]
            rw [e]
            exact congrArg some (il_sw _ _ _ _ _)
          · rw [fA_new hp]
            exact congrArg some (Lvz (by omega) (by omega))
          · rw [fB_new hp]
            rfl
          · simp [lk,AV.sw,Idz,E9z]
            rw [Bgz (c:=fim 1 0) (Ne.symm (Edz _ _ _ (by omega))) (fun e=>by have:=Bsz e;omega),Bgz (c:=fim 1 0) (Ne.symm (Edz _ _ _ (by omega))) (fun e=>by have:=B8z (by omega) (by omega) e;omega)]
          · simp [AV.inn,Aaz,hk,Bkz,Azz]
          · exact innR _ _ _ _ _ _ (by omega)
          · intro j hj
            exact innA es (i + 1) j (i + 1 + 1) _ _ _ hj
          · intro j hj
            exact Dwz _ _
      · obtain ⟨q,rfl⟩:∃ q:Nat,p=q:=⟨p.toNat,by omega⟩
        have hr1:=refs_1 (i:=i) (q:=q) (by omega)
        cases o
        · (repeat' (first
 | (first|refine Ahz ?_|refine Abz ?_)
 | ((first|refine Aiz ?_|refine Adz ?_|refine Aoz ?_);simp (disch:=omega) only [push_cast,seval,l44r0,l44r1,l44r2,l44r3,l44r4,l44r5,l44r6,l44r7,l44r8,l44r9,l44r10,l44r11,l44r12,l44r13,hd,hel,hil,hrl,Aaz,hr1])
 | ((first | refine Amz (fun h => ?_) (fun h => ?_)) <;> (try simp only [h]) <;> (try simp only [bitvec_to_nat] at h) <;> (try simp only [h]) <;> (first | (exfalso; omega) | (focus (exfalso; simp_all; done)) | (simp (disch := omega) only [push_cast,seval,hd,hel,hil,hrl,Aaz,hr1]) | skip))))
          refine Iyz (f:=83) ?_
          simp (disch:=omega) only [push_cast,seval]
          refine hang_no (id:=fim 1 (q + 1)) (kid:=fim 2 (q + 1)) (n:=(kidsT es (q:Int) i).length) (ks:=kidsT es (q:Int) i) (by simp (disch:=omega) only [push_cast,seval];exact congrArg some (fA_at (by omega))) (by simp (disch:=omega) only [push_cast,seval];exact congrArg some (fB_at (by omega))) (by simp (disch:=omega) only [push_cast,seval]) ?_
          simp (disch:=omega) only [push_cast,seval,l44r0,l44r1,l44r2,l44r3,l44r4,l44r5,l44r6,l44r7,l44r8,l44r9,l44r10,l44r11,l44r12,l44r13,hrl]
          (repeat' (first
 | (first|refine Ahz ?_|refine Abz ?_)
 | ((first | refine Aiz ?_); simp (disch := omega) only [push_cast,seval,l44r0,l44r1,l44r2,l44r3,l44r4,l44r5,l44r6,l44r7,l44r8,l44r9,l44r10,l44r11,l44r12,l44r13,hrl])))
          have hei':es[i]?=some ((((q + 1:Nat):Int) - 1),(bs,x,y),false):=by rw [hei];congr 2;try omega
          refine ⟨i + 1,by omega,by omega,?_⟩
          refine SubW.gam2 (a:=304) (b:=16000) (d1:=1) (d2:=2) (n:=i + 1) (id0:=576) (c0:=[]) ⟨by omega,by omega,by omega⟩ ⟨by omega,by omega,by omega,by omega⟩ ?_ ?_ ?_ ?_ ?_ ?_ ?_ ?_ ?_ ?_
          · exact congrArg some (Hcz (by omega) (by omega))
          · intro j hj
            have e:hk ((576,refs i ++ [AV.ref 304 1 0]) :: (560,[AV.ref 304 1 0]) :: (16000,[]) :: (304,[AV.own 16000 0 1]) :: (128,[AV.int .i64 (q:Int),AV.int .i64 bs,AV.rows false (IL x) x.length,AV.rows false (IL y) y.length,AV.bool false]) :: (128,[AV.int .i64 0,AV.int .i64 0,AV.val (.slice none 0 0),AV.val (.slice none 0 0),AV.bool false]) :: (576,refs i) :: (gam 1 (fA es i) (i + 1) ++ gam 2 (fB es i) (i + 1))) (fim 1 j)=some (fA es (i + 1) j):=by
              simp only [hk,Azz _ _ 576 (by omega),Azz _ _ 560 (by omega),Azz _ _ 16000 (by omega),Azz _ _ 304 (by omega),Azz _ _ 128 (by omega),Azz _ _ 224 (by omega),if_false]
              rw [Bkz 1 _ _ _ _ hj]
              unfold fA
              rw [kU_no hei' (fun h=>by cases h.1)]
            rw [e]
            exact congrArg some (own_sw (by omega) (by omega) (by omega))
          · intro j hj
            have e:hk ((576,refs i ++ [AV.ref 304 1 0]) :: (560,[AV.ref 304 1 0]) :: (16000,[]) :: (304,[AV.own 16000 0 1]) :: (128,[AV.int .i64 (q:Int),AV.int .i64 bs,AV.rows false (IL x) x.length,AV.rows false (IL y) y.length,AV.bool false]) :: (128,[AV.int .i64 0,AV.int .i64 0,AV.val (.slice none 0 0),AV.val (.slice none 0 0),AV.bool false]) :: (576,refs i) :: (gam 1 (fA es i) (i + 1) ++ gam 2 (fB es i) (i + 1))) (fim 2 j)=some (fB es (i + 1) j):=by
              simp only [hk,Azz _ _ 576 (by omega),Azz _ _ 560 (by omega),Azz _ _ 16000 (by omega),Azz _ _ 304 (by omega),Azz _ _ 128 (by omega),Azz _ _ 224 (by omega),if_false]
              rw [Coz 1 _ _ _ 2 j (by omega),B9z 2 _ _ _ hj]
              unfold fB
              rw [kU_no hei' (fun h=>by cases h.1)]
            rw [e]
            exact congrArg some (il_sw _ _ _ _ _)
          · rw [fA_new hp]
            exact congrArg some (Lvz (by omega) (by omega))
          · rw [fB_new hp]
            rfl
          · simp [lk,AV.sw,Idz,E9z]
            rw [Bgz (c:=fim 1 0) (Ne.symm (Edz _ _ _ (by omega))) (fun e=>by have:=Bsz e;omega),Bgz (c:=fim 1 0) (Ne.symm (Edz _ _ _ (by omega))) (fun e=>by have:=B8z (by omega) (by omega) e;omega)]
          · simp [AV.inn,Aaz,hk,Bkz,Azz]
          · exact innR _ _ _ _ _ _ (by omega)
          · intro j hj
            exact innA es (i + 1) j (i + 1 + 1) _ _ _ hj
          · intro j hj
            exact Dwz _ _
        · (repeat' (first
 | (first|refine Ahz ?_|refine Abz ?_)
 | ((first|refine Aiz ?_|refine Adz ?_|refine Aoz ?_);simp (disch:=omega) only [push_cast,seval,l44r0,l44r1,l44r2,l44r3,l44r4,l44r5,l44r6,l44r7,l44r8,l44r9,l44r10,l44r11,l44r12,l44r13,hd,hel,hil,hrl,Aaz,hr1])
 | ((first | refine Amz (fun h => ?_) (fun h => ?_)) <;> (try simp only [h]) <;> (try simp only [bitvec_to_nat] at h) <;> (try simp only [h]) <;> (first | (exfalso; omega) | (focus (exfalso; simp_all; done)) | (simp (disch := omega) only [push_cast,seval,hd,hel,hil,hrl,Aaz,hr1]) | skip))))
          refine Iyz (f:=83) ?_
          simp (disch:=omega) only [push_cast,seval]
          refine hang_yes (id:=fim 1 (q + 1)) (kid:=fim 2 (q + 1)) (n:=(kidsT es (q:Int) i).length) (ks:=kidsT es (q:Int) i) (by simp (disch:=omega) only [push_cast,seval];exact congrArg some (fA_at (by omega))) (by simp (disch:=omega) only [push_cast,seval];exact congrArg some (fB_at (by omega))) (by simp) (Nat.le_trans (Epz es _ i) (by omega)) (fun e=>by have:=B8z (by omega) (by omega) e;omega) (by simp (disch:=omega) only [push_cast,seval]) ?_
          simp (disch:=omega) only [push_cast,seval,l44r0,l44r1,l44r2,l44r3,l44r4,l44r5,l44r6,l44r7,l44r8,l44r9,l44r10,l44r11,l44r12,l44r13,hrl]
          (repeat' (first
 | (first|refine Ahz ?_|refine Abz ?_)
 | ((first | refine Aiz ?_); simp (disch := omega) only [push_cast,seval,l44r0,l44r1,l44r2,l44r3,l44r4,l44r5,l44r6,l44r7,l44r8,l44r9,l44r10,l44r11,l44r12,l44r13,hrl])))
          have hei':es[i]?=some ((((q + 1:Nat):Int) - 1),(bs,x,y),true):=by rw [hei];congr 2;try omega
          refine ⟨i + 1,by omega,by omega,?_⟩
          refine SubW.gam2 (a:=304) (b:=16000) (d1:=1) (d2:=2) (n:=i + 1) (id0:=576) (c0:=[]) ⟨by omega,by omega,by omega⟩ ⟨by omega,by omega,by omega,by omega⟩ ?_ ?_ ?_ ?_ ?_ ?_ ?_ ?_ ?_ ?_
          · exact congrArg some (Hcz (by omega) (by omega))
          · intro j hj
            have e:hk ((576,refs i ++ [AV.ref 304 1 0]) :: (560,[AV.ref 304 1 0]) :: (16000,[]) :: (304,[AV.own 16000 0 1]) :: (fim 1 (q + 1),[.own (fim 2 (q + 1)) ((kidsT es (q:Int) i).length + 1) 1]) :: (fim 2 (q + 1),IL (kidsT es (q:Int) i ++ [(i:Int)])) :: (224,[.int .i64 i]) :: (128,[AV.int .i64 (q:Int),AV.int .i64 bs,AV.rows false (IL x) x.length,AV.rows false (IL y) y.length,AV.bool true]) :: (128,[AV.int .i64 0,AV.int .i64 0,AV.val (.slice none 0 0),AV.val (.slice none 0 0),AV.bool false]) :: (576,refs i) :: (gam 1 (fA es i) (i + 1) ++ gam 2 (fB es i) (i + 1))) (fim 1 j)=some (fA es (i + 1) j):=by
              simp only [hk,Azz _ _ 576 (by omega),Azz _ _ 560 (by omega),Azz _ _ 16000 (by omega),Azz _ _ 304 (by omega),Azz _ _ 128 (by omega),Azz _ _ 224 (by omega),if_false]
              by_cases ej:j=q + 1
              · subst ej
                rw [if_pos rfl,fA_at (p:=(q:Int)) (by omega),L0z hei,List.length_append]
                rfl
              · rw [if_neg (fun e=>ej (Bsz e)),if_neg (fun e=>by have:=B8z (by omega) (by omega) e;omega),Bkz 1 _ _ _ _ hj]
                unfold fA
                rw [kU_no hei' (fun h=>ej h.2)]
            rw [e]
            exact congrArg some (own_sw (by omega) (by omega) (by omega))
          · intro j hj
            have e:hk ((576,refs i ++ [AV.ref 304 1 0]) :: (560,[AV.ref 304 1 0]) :: (16000,[]) :: (304,[AV.own 16000 0 1]) :: (fim 1 (q + 1),[.own (fim 2 (q + 1)) ((kidsT es (q:Int) i).length + 1) 1]) :: (fim 2 (q + 1),IL (kidsT es (q:Int) i ++ [(i:Int)])) :: (224,[.int .i64 i]) :: (128,[AV.int .i64 (q:Int),AV.int .i64 bs,AV.rows false (IL x) x.length,AV.rows false (IL y) y.length,AV.bool true]) :: (128,[AV.int .i64 0,AV.int .i64 0,AV.val (.slice none 0 0),AV.val (.slice none 0 0),AV.bool false]) :: (576,refs i) :: (gam 1 (fA es i) (i + 1) ++ gam 2 (fB es i) (i + 1))) (fim 2 j)=some (fB es (i + 1) j):=by
              simp only [hk,Azz _ _ 576 (by omega),Azz _ _ 560 (by omega),Azz _ _ 16000 (by omega),Azz _ _ 304 (by omega),Azz _ _ 128 (by omega),Azz _ _ 224 (by omega),if_false]
              by_cases ej:j=q + 1
              · subst ej
                rw [if_neg (fun e=>by have:=B8z (by omega) (by omega) e;omega),if_pos rfl,fB_at (p:=(q:Int)) (by omega),L0z hei]
              · rw [if_neg (fun e=>by have:=B8z (by omega) (by omega) e;omega),if_neg (fun e=>ej (Bsz e)),Coz 1 _ _ _ 2 j (by omega),B9z 2 _ _ _ hj]
                unfold fB
                rw [kU_no hei' (fun h=>ej h.2)]
            rw [e]
            exact congrArg some (il_sw _ _ _ _ _)
          · rw [fA_new hp]
            exact congrArg some (Lvz (by omega) (by omega))
          · rw [fB_new hp]
            rfl
          · simp [lk,AV.sw,Idz,E9z]
            rw [Bgz (c:=fim 1 0) (Ne.symm (Edz _ _ _ (by omega))) (fun e=>by have:=Bsz e;omega),Bgz (c:=fim 1 0) (Ne.symm (Edz _ _ _ (by omega))) (fun e=>by have:=B8z (by omega) (by omega) e;omega)]
          · simp [AV.inn,Aaz,hk,Bkz,Azz]
          · exact innR _ _ _ _ _ _ (by omega)
          · intro j hj
            exact innA es (i + 1) j (i + 1 + 1) _ _ _ hj
          · intro j hj
            exact Dwz _ _
    · have e:i=es.length:=by omega
      subst e
      by_cases him:id=-1
      · subst him
        (repeat' (first
 | (first|refine Ahz ?_|refine Abz ?_)
 | ((first|refine Aiz ?_|refine Adz ?_|refine A2z ?_);simp (disch:=omega) only [push_cast,seval,l44r0,l44r1,l44r2,l44r3,l44r4,l44r5,l44r6,l44r7,l44r8,l44r9,l44r10,l44r11,l44r12,l44r13,hel,Aaz])
 | ((first|refine Amz (fun h=>?_) (fun h=>?_))<;>(try simp only [h])<;>(try simp only [bitvec_to_nat] at h)<;>(try simp only [h])<;>(first|(exfalso;omega)|(exfalso;simp_all;done)|(simp (disch:=omega) only [push_cast,seval,hel,Aaz])|skip))))
        refine Aez ⟨.inr rfl,ret_node (Q:=0) (ks:=kidsT es (-1) es.length) rfl ?_ ?_⟩
        · simp only [hk,Azz _ _ 576 (by omega),if_false]
          rw [Bkz 1 _ _ _ _ (by omega),fA_at (p:=-1) (by omega)]
        · simp only [hk,Azz _ _ 576 (by omega),if_false]
          rw [Coz 1 _ _ _ 2 0 (by omega),B9z 2 _ _ _ (by omega),fB_at (p:=-1) (by omega)]
      · obtain ⟨q,rfl⟩:∃ q:Nat,id=q:=⟨id.toNat,by omega⟩
        have hql:q < es.length:=by omega
        have hr1:=refs_1 hql
        have hrl:=refs_len es.length
        (repeat' (first
 | (first|refine Ahz ?_|refine Abz ?_)
 | ((first|refine Aiz ?_|refine Adz ?_|refine Aoz ?_|refine A2z ?_);simp (disch:=omega) only [push_cast,seval,l44r0,l44r1,l44r2,l44r3,l44r4,l44r5,l44r6,l44r7,l44r8,l44r9,l44r10,l44r11,l44r12,l44r13,hel,hr1,hrl,Aaz])
 | ((first|refine Amz (fun h=>?_) (fun h=>?_))<;>(try simp only [h])<;>(try simp only [bitvec_to_nat] at h)<;>(try simp only [h])<;>(first|(exfalso;omega)|(exfalso;simp_all;done)|(simp (disch:=omega) only [push_cast,seval,hel,hr1,hrl,Aaz])|skip))))
        refine Aez ⟨.inr rfl,ret_node (Q:=q + 1) (ks:=kidsT es q es.length) rfl ?_ ?_⟩
        · simp only [hk,Azz _ _ 576 (by omega),if_false]
          rw [Bkz 1 _ _ _ _ (by omega),fA_at (p:=(q:Int)) (by omega)]
        · simp only [hk,Azz _ _ 576 (by omega),if_false]
          rw [Coz 1 _ _ _ 2 (q + 1) (by omega),B9z 2 _ _ _ (by omega),fB_at (p:=(q:Int)) (by omega)]


theorem Isz (cs:List Int) (es:List Ex) (m n:Nat) (id:Int) (hm:cs.length=m) (hn:es.length=n) (hb:m ≤ 1000 ∧ n ≤ 1000) (hp:parOk es) (hid:-1 ≤ id ∧ id < n) :
    PCall Tryz.prog 44 [.agg [.rows false (IL cs) m,.rows false (EL false es) n],.int .i64 id] (fun r=>r=.prow true [.rows true (IL (kidsT es id n)) (kidsT es id n).length] 0):=by
  refine (BCall.plain (node_ok cs es m n id hm hn hb hp hid)).mono ?_
  rintro r ⟨r0,H',⟨rfl,rfl⟩,rfl⟩
  simp [AV.ren,nthH,ren_IL]

end Go.Proofs.YtkpcjppnjmhanaaGreatDoor
