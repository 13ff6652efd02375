/- Texts of this verifier. -/
import Derived.Test.YtahdlohpncjdbaaDoorCB4
import Derived.Test.YtahdlohpncjdbaaDoorCM1
import Derived.Test.YtahdlohpncjdbaaDoorCW3
set_option linter.unusedSimpArgs false
set_option linter.unusedVariables false
set_option maxRecDepth 4000
set_option maxHeartbeats 4000000
namespace Go.Proofs.YtahdlohpncjdbaaDoor
open VwM Vw Go
set_option linter.unusedSectionVars false
variable [SentA]

theorem width_ok (b:Int) (sh st:List Int) (n m:Nat) (hn:sh.length=n) (hm:st.length=m) (hb:good4 sh ∧ m=n):PCall Tryd.prog 95 [.agg [.int .i64 b,.rows false (IL sh) n,.rows false (IL st) m]] (fun r=>r=.int .i64 (wdt sh st)):=by
  subst hn hm
  obtain ⟨hg,hl⟩:=hb
  have h4:=hg.2
  refine Awz l95_eq rfl ?_
  unfold wdt
  by_cases h0:sh.length=0
  · have h0':(sh.length:Int)=0:=by omega
    rw [if_pos h0]
    (repeat' (first
 | (first|refine Akz ?_|refine Afz ?_)
 | ((first|refine Alz ?_|refine Aez ?_|refine Agz ?_|refine Ahz ?_);simp (disch:=omega) only [push_cast,seval,l95r0,l95r1,l95r2,l95r3,l95r4,h0'])
 | ((first|refine Aaz ?_ ?_|refine Adz ?_ ?_|refine Acz ?_ ?_)<;>intro h<;>(try simp only [h])<;>(try simp only [bitvec_to_nat] at h)<;>(try simp only [h])<;>(first|(exfalso;omega)|(exfalso;simp_all;done)|(simp (disch:=omega) only [push_cast,seval,h0'])|skip))
 | (refine Aiz ⟨.inr rfl,_,rfl,?_⟩;(try simp (disch:=omega) only [push_cast,seval,h0']))))
    all_goals simp
  · rw [if_neg h0]
    obtain ⟨k,hk⟩:∃ k,sh.length=k + 1:=⟨sh.length - 1,by omega⟩
    have hk':(sh.length:Int)=(k:Int) + 1:=by omega
    have e1:(k:Int) + 1 - 1=(k:Int):=by omega
    have hgd:=C8z hg (k:=k) (by omega)
    have hks:k < sh.length:=by omega
    have hkt:k < st.length:=by omega
    rw [hk,Nat.add_sub_cancel]
    by_cases h1:st.getD k 0=1
    · rw [if_pos h1]
      have e2:(((sh.getD k 0).toNat:Nat):Int)=sh.getD k 0:=by omega
      rw [e2]
      (repeat' (first
 | (first|refine Akz ?_|refine Afz ?_)
 | ((first|refine Alz ?_|refine Aez ?_|refine Agz ?_|refine Ahz ?_);simp (disch:=omega) only [push_cast,seval,l95r0,l95r1,l95r2,l95r3,l95r4,hk',e1,h1])
 | ((first|refine Aaz ?_ ?_|refine Adz ?_ ?_|refine Acz ?_ ?_)<;>intro h<;>(try simp only [h])<;>(try simp only [bitvec_to_nat] at h)<;>(try simp only [h])<;>(first|(exfalso;omega)|(exfalso;simp_all;done)|(simp (disch:=omega) only [push_cast,seval,hk',e1,h1])|skip))
 | (refine Aiz ⟨.inr rfl,_,rfl,?_⟩;(try simp (disch:=omega) only [push_cast,seval,hk',e1,h1]))))
    · rw [if_neg h1]
      (repeat' (first
 | (first|refine Akz ?_|refine Afz ?_)
 | ((first|refine Alz ?_|refine Aez ?_|refine Agz ?_|refine Ahz ?_);simp (disch:=omega) only [push_cast,seval,l95r0,l95r1,l95r2,l95r3,l95r4,hk',e1,h1])
 | ((first|refine Aaz ?_ ?_|refine Adz ?_ ?_|refine Acz ?_ ?_)<;>intro h<;>(try simp only [h])<;>(try simp only [bitvec_to_nat] at h)<;>(try simp only [h])<;>(first|(exfalso;omega)|(exfalso;simp_all;done)|(simp (disch:=omega) only [push_cast,seval,hk',e1,h1])|skip))
 | (refine Aiz ⟨.inr rfl,_,rfl,?_⟩;(try simp (disch:=omega) only [push_cast,seval,hk',e1,h1]))))
      all_goals simp


theorem Apz (xs:List Int) (n:Nat) (a w:Int) (hn:xs.length=n) (hb:(0 ≤ a ∧ 0 ≤ w) ∧ a + w ≤ n ∧ n ≤ 1000):BCall Tryd.prog 96 [.own 0 n 1,.int .i64 a,.int .i64 w] [IL xs] (fun r H'=>r=.osl 0 n a.toNat w.toNat 1 w.toNat ∧ H'=[IL xs]):=by
  subst hn
  obtain ⟨⟨h0,h1⟩,h2,h3⟩:=hb
  obtain ⟨a,rfl⟩:∃ k:Nat,a=k:=⟨a.toNat,by omega⟩
  obtain ⟨w,rfl⟩:∃ k:Nat,w=k:=⟨w.toNat,by omega⟩
  refine A4z (pins:=[0]) (pin:=1) l96_eq rfl rfl rfl ?_
  have e1:((a:Int) + (w:Int)).toNat=a + w:=by omega
  have e2:a + w - a=w:=by omega
  simp only [Int.toNat_natCast]
  (repeat' (first
 | (first|refine Akz ?_|refine Afz ?_)
 | ((first|refine Alz ?_|refine Aez ?_|refine Agz ?_|refine Ahz ?_);simp (disch:=omega) only [push_cast,seval,l96r0,l96r1,l96r2,e1,e2,Nat.zero_add,Nat.mul_one])
 | ((first|refine Aaz ?_ ?_|refine Adz ?_ ?_|refine Acz ?_ ?_)<;>intro h<;>(try simp only [h])<;>(try simp only [bitvec_to_nat] at h)<;>(try simp only [h])<;>(first|(exfalso;omega)|(exfalso;simp_all;done)|(simp (disch:=omega) only [push_cast,seval,e1,e2,Nat.zero_add,Nat.mul_one])|skip))
 | (refine Aiz ⟨.inr rfl,[],[],_,by decide,rfl,?_⟩;(try simp (disch:=omega) only [push_cast,seval,↓Anz,↓Amz,↓List.map_cons,↓List.map_nil,e1,e2,Nat.zero_add,Nat.mul_one]))))
theorem Dqz (xs:List Int) (n:Nat) (a w:Int) (hn:xs.length=n) (hb:(0 ≤ a ∧ 0 ≤ w) ∧ a + w ≤ n ∧ n ≤ 1000):BCall Tryd.prog 96 [.rows false (IL xs) n,.int .i64 a,.int .i64 w] [] (fun r H'=>r=.rows false (IL ((xs.drop a.toNat).take w.toNat)) w.toNat ∧ H'=[]):=by
  subst hn
  obtain ⟨⟨h0,h1⟩,h2,h3⟩:=hb
  obtain ⟨a,rfl⟩:∃ k:Nat,a=k:=⟨a.toNat,by omega⟩
  obtain ⟨w,rfl⟩:∃ k:Nat,w=k:=⟨w.toNat,by omega⟩
  refine A4z (pins:=[]) (pin:=0) l96_eq rfl rfl rfl ?_
  have e1:((a:Int) + (w:Int)).toNat=a + w:=by omega
  have e2:a + w - a=w:=by omega
  simp only [Int.toNat_natCast]
  (repeat' (first
 | (first|refine Akz ?_|refine Afz ?_)
 | ((first|refine Alz ?_|refine Aez ?_|refine Agz ?_|refine Ahz ?_);simp (disch:=omega) only [push_cast,seval,l96r0,l96r1,l96r2,e1,e2,IL_td,Nat.zero_add,Nat.mul_one])
 | ((first|refine Aaz ?_ ?_|refine Adz ?_ ?_|refine Acz ?_ ?_)<;>intro h<;>(try simp only [h])<;>(try simp only [bitvec_to_nat] at h)<;>(try simp only [h])<;>(first|(exfalso;omega)|(exfalso;simp_all;done)|(simp (disch:=omega) only [push_cast,seval,e1,e2,IL_td,Nat.zero_add,Nat.mul_one])|skip))
 | (refine Aiz ⟨.inr rfl,[],[],_,by decide,rfl,?_⟩;(try simp (disch:=omega) only [push_cast,seval,↓Anz,↓Amz,↓List.map_cons,↓List.map_nil,e1,e2,IL_td,Nat.zero_add,Nat.mul_one]))))


set_option maxHeartbeats 8000000 in
theorem loaded_ok (mem:List Int) (b:Int) (sh st:List Int) (q n m:Nat) (hq:mem.length=q) (hn:sh.length=n) (hm:st.length=m) (hb:seeB mem b sh st=true):BCall Tryd.prog 84 [.rows false (IL mem) q,.agg [.int .i64 b,.rows false (IL sh) n,.rows false (IL st) m]] [] (OI (takesL mem (offs b sh st))):=by
  subst hq hn hm
  obtain ⟨f1,f2,f3,f4,f5,f6⟩:=Cpz hb
  have hat:=fun k hk=>Ivz (k:=k) hb hk
  have hol:=Blz b sh st
  have hrow:=fun (k j:Nat) hk hj h=>offs_rowW (b:=b) (sh:=sh) (st:=st) (k:=k) (j:=j) f3 hk hj h
  have hdv:=wdt_dvd (st:=st) f3
  have hwl:=wdt_le (st:=st) f3
  have hwp:=wdt_pos (st:=st) f3
  have q1:okV b sh st ∧ st.length=sh.length:=⟨f1,f2⟩
  have q2:good4 sh ∧ st.length=sh.length:=⟨f3,f2⟩
  generalize hL:offs b sh st=L at *
  generalize hW:wdt sh st=W at *
  refine A4z (pins:=[]) (pin:=0) l84_eq rfl rfl rfl ?_
  (repeat' (first
 | (first|refine Akz ?_|refine Afz ?_)
 | ((first|refine Alz ?_|refine Asz (mid:=l84r1a) (post:=l84r1b) A9z (by decide) ?_|refine Hvz (mid:=l84r5a) (post:=l84r5b) [192,240] A9z (by decide) ?_|refine Aez ?_|refine Agz ?_|refine Ahz ?_);simp (disch:=omega) only [push_cast,seval,l84r0,l84r1a,l84r1b,l84r1,l84r2,l84r3,l84r4,l84r5a,l84r5b,l84r5,l84r6,l84r7,hL,hW])
 | ((first|refine Aaz ?_ ?_|refine Adz ?_ ?_|refine Acz ?_ ?_)<;>intro h<;>(try simp only [h])<;>(try simp only [bitvec_to_nat] at h)<;>(try simp only [h])<;>(first|(exfalso;omega)|(exfalso;simp_all;done)|(simp (disch:=omega) only [push_cast,seval,hL,hW])|skip))
 | ((first|((with_reducible refine qcallI_of (f:=96) [160] false ?_);simp (disch:=omega) only [push_cast,seval,hL,hW];(refine Axz (id:=160) (Apz _ _ _ _ ?_ ?_) (by (simp (disch:=omega) only [push_cast,seval,hL,hW])<;>rfl) (by decide) ⟨_,_,rfl,rfl⟩ ?_;(iterate 2 (exact sd));rintro _ _ ⟨rfl,rfl⟩))|((with_reducible refine qcallI_of (f:=96) [192] false ?_);simp (disch:=omega) only [push_cast,seval,hL,hW];(refine Axz (id:=192) (Apz _ _ _ _ ?_ ?_) (by (simp (disch:=omega) only [push_cast,seval,hL,hW])<;>rfl) (by decide) ⟨_,_,rfl,rfl⟩ ?_;(iterate 2 (exact sd));rintro _ _ ⟨rfl,rfl⟩))|((with_reducible refine qcallI_of (f:=96) [240] false ?_);simp (disch:=omega) only [push_cast,seval,hL,hW];(refine Axz (id:=240) (Apz _ _ _ _ ?_ ?_) (by (simp (disch:=omega) only [push_cast,seval,hL,hW])<;>rfl) (by decide) ⟨_,_,rfl,rfl⟩ ?_;(iterate 2 (exact sd));rintro _ _ ⟨rfl,rfl⟩))|((with_reducible refine qcallI_of (f:=96) [416] false ?_);simp (disch:=omega) only [push_cast,seval,hL,hW];(refine Axz (id:=416) (Apz _ _ _ _ ?_ ?_) (by (simp (disch:=omega) only [push_cast,seval,hL,hW])<;>rfl) (by decide) ⟨_,_,rfl,rfl⟩ ?_;(iterate 2 (exact sd));rintro _ _ ⟨rfl,rfl⟩))|((with_reducible refine qcallI_of (f:=96) [528] false ?_);simp (disch:=omega) only [push_cast,seval,hL,hW];(refine Axz (id:=528) (Apz _ _ _ _ ?_ ?_) (by (simp (disch:=omega) only [push_cast,seval,hL,hW])<;>rfl) (by decide) ⟨_,_,rfl,rfl⟩ ?_;(iterate 2 (exact sd));rintro _ _ ⟨rfl,rfl⟩))|((with_reducible refine qcallI_of (f:=96) [0] false ?_);simp (disch:=omega) only [push_cast,seval,hL,hW];(refine Axz (id:=0) (Apz _ _ _ _ ?_ ?_) (by (simp (disch:=omega) only [push_cast,seval,hL,hW])<;>rfl) (by decide) ⟨_,_,rfl,rfl⟩ ?_;(iterate 2 (exact sd));rintro _ _ ⟨rfl,rfl⟩))|((with_reducible refine qcallI_of (f:=96) [1] false ?_);simp (disch:=omega) only [push_cast,seval,hL,hW];(refine Axz (id:=1) (Apz _ _ _ _ ?_ ?_) (by (simp (disch:=omega) only [push_cast,seval,hL,hW])<;>rfl) (by decide) ⟨_,_,rfl,rfl⟩ ?_;(iterate 2 (exact sd));rintro _ _ ⟨rfl,rfl⟩))|((with_reducible refine callD_ids (f:=96) [160] false ?_);simp (disch:=omega) only [push_cast,seval,hL,hW];(refine A0z (id:=160) (Apz _ _ _ _ ?_ ?_) (by (simp (disch:=omega) only [push_cast,seval,hL,hW])<;>rfl) ?_;(iterate 2 (exact sd));rintro _ _ ⟨rfl,rfl⟩))|((with_reducible refine callD_ids (f:=96) [192] false ?_);simp (disch:=omega) only [push_cast,seval,hL,hW];(refine A0z (id:=192) (Apz _ _ _ _ ?_ ?_) (by (simp (disch:=omega) only [push_cast,seval,hL,hW])<;>rfl) ?_;(iterate 2 (exact sd));rintro _ _ ⟨rfl,rfl⟩))|((with_reducible refine callD_ids (f:=96) [240] false ?_);simp (disch:=omega) only [push_cast,seval,hL,hW];(refine A0z (id:=240) (Apz _ _ _ _ ?_ ?_) (by (simp (disch:=omega) only [push_cast,seval,hL,hW])<;>rfl) ?_;(iterate 2 (exact sd));rintro _ _ ⟨rfl,rfl⟩))|((with_reducible refine callD_ids (f:=96) [416] false ?_);simp (disch:=omega) only [push_cast,seval,hL,hW];(refine A0z (id:=416) (Apz _ _ _ _ ?_ ?_) (by (simp (disch:=omega) only [push_cast,seval,hL,hW])<;>rfl) ?_;(iterate 2 (exact sd));rintro _ _ ⟨rfl,rfl⟩))|((with_reducible refine callD_ids (f:=96) [528] false ?_);simp (disch:=omega) only [push_cast,seval,hL,hW];(refine A0z (id:=528) (Apz _ _ _ _ ?_ ?_) (by (simp (disch:=omega) only [push_cast,seval,hL,hW])<;>rfl) ?_;(iterate 2 (exact sd));rintro _ _ ⟨rfl,rfl⟩))|((with_reducible refine callD_ids (f:=96) [0] false ?_);simp (disch:=omega) only [push_cast,seval,hL,hW];(refine A0z (id:=0) (Apz _ _ _ _ ?_ ?_) (by (simp (disch:=omega) only [push_cast,seval,hL,hW])<;>rfl) ?_;(iterate 2 (exact sd));rintro _ _ ⟨rfl,rfl⟩))|((with_reducible refine callD_ids (f:=96) [1] false ?_);simp (disch:=omega) only [push_cast,seval,hL,hW];(refine A0z (id:=1) (Apz _ _ _ _ ?_ ?_) (by (simp (disch:=omega) only [push_cast,seval,hL,hW])<;>rfl) ?_;(iterate 2 (exact sd));rintro _ _ ⟨rfl,rfl⟩))|((with_reducible refine callD_of (f:=96) true ?_);simp (disch:=omega) only [push_cast,seval,hL,hW];(refine call0D (Dqz _ _ _ _ ?_ ?_) ?_;(iterate 2 (exact sd));rintro _ _ ⟨rfl,rfl⟩)))<;>(try simp (disch:=omega) only [push_cast,seval,hL,hW]))
 | ((first|refine callD_of false ?_|refine Ajz false ?_);simp (disch:=omega) only [push_cast,seval,hL,hW])
 | ((first|((first|refine call0D (cells_ok _ _ _ _ _ ?_ ?_ ?_) ?_|refine qcall0D (cells_ok _ _ _ _ _ ?_ ?_ ?_) ⟨_,_,rfl,rfl⟩ ?_);(iterate 3 (exact sd));rintro _ _ ⟨rfl,rfl⟩)|((first|refine call0D (BCall.ofP (width_ok _ _ _ _ _ ?_ ?_ ?_)) ?_|refine qcall0D (BCall.ofP (width_ok _ _ _ _ _ ?_ ?_ ?_)) ⟨_,_,rfl,rfl⟩ ?_);(iterate 3 (exact sd));rintro _ _ ⟨rfl,rfl⟩))<;>(try simp (disch:=omega) only [push_cast,seval,hL,hW]))
 | (refine Aiz ⟨.inr rfl,[240],[],_,by decide,rfl,?_⟩;(try simp (disch:=omega) only [push_cast,seval,↓Anz,↓Amz,↓List.map_cons,↓List.map_nil,hL,hW]))))
  refine A7z (fun k:Nat=>mkS [(0,RI mem),(5,.own 160 L.length 1),(6,.int .i64 W),(7,.own 240 L.length 1),(8,.int .i64 k)] [(240,IL (filled (fun k=>mem.getD (L.getD k 0).toNat 0) L.length k)),(160,IL L)])
    (fun k=>k ≤ L.length ∧ W ∣ k) (fun k=>L.length - k) 0 ⟨Nat.zero_le _,Nat.dvd_zero _⟩ ?_ ?_
  · (refine Sub.of_lists ?_ ?_ ?_ ?_ ?_<;>simp [Vw.mkS,Vw.lk,Vw.hk,AV.inn,innL,Aqz,Aoz,Atz,-List.map_set,-List.getD_eq_getElem?_getD,Fez])
  · rintro k ⟨hk,hkd⟩
    have e1:=D4z (fun k=>mem.getD (L.getD k 0).toNat 0) L.length k
    by_cases hlt:k < L.length
    · have hw1:=hwp (by omega)
      have hend:=row_end hw1 hdv hkd (by omega)
      obtain ⟨h1,h2⟩:=hat k hlt
      have hlast:=hat (k + (W - 1)) (by omega)
      rw [hrow k (W - 1) hkd (by omega) (by omega)] at hlast
      obtain ⟨c,hc⟩:∃ c:Nat,L.getD k 0=c:=⟨(L.getD k 0).toNat,by omega⟩
      have hr:=load_row (mem:=mem) (cells:=L) (n:=L.length) (k:=k) W (by omega) (by omega) (fun j hj=>by rw [hrow k j hkd hj (by omega)];omega)
      rw [hc] at hr
      rw [Int.toNat_natCast] at hr
      have hcw:c + W ≤ mem.length:=by omega
      have hkw:k + W ≤ L.length:=by omega
      have e2:min W W=W:=Nat.min_self W
      generalize hF:filled (fun k=>mem.getD (L.getD k 0).toNat 0) L.length k=F at *
      have e4:(((mem.drop c).take W).map (AV.int .i64)).take W=((mem.drop c).take W).map (AV.int .i64):=by rw [← List.map_take,List.take_take,Nat.min_self]
      have e5:((mem.drop c).take W).length=W:=by simp;omega
      (repeat' (first
 | (first|refine Akz ?_|refine Afz ?_)
 | ((first|refine Alz ?_|refine Asz (mid:=l84r1a) (post:=l84r1b) A9z (by decide) ?_|refine Hvz (mid:=l84r5a) (post:=l84r5b) [192,240] A9z (by decide) ?_|refine Aez ?_|refine Agz ?_|refine Ahz ?_);simp (disch:=omega) only [push_cast,seval,l84r0,l84r1a,l84r1b,l84r1,l84r2,l84r3,l84r4,l84r5a,l84r5b,l84r5,l84r6,l84r7,hc,e1,e2,e4,e5,hr,Int.toNat_natCast])
 | ((first|refine Aaz ?_ ?_|refine Adz ?_ ?_|refine Acz ?_ ?_)<;>intro h<;>(try simp only [h])<;>(try simp only [bitvec_to_nat] at h)<;>(try simp only [h])<;>(first|(exfalso;omega)|(exfalso;simp_all;done)|(simp (disch:=omega) only [push_cast,seval,hc,e1,e2,e4,e5,hr,Int.toNat_natCast])|skip))
 | ((first|((with_reducible refine qcallI_of (f:=96) [160] false ?_);simp (disch:=omega) only [push_cast,seval,hc,e1,e2,e4,e5,hr,Int.toNat_natCast];(refine Axz (id:=160) (Apz _ _ _ _ ?_ ?_) (by (simp (disch:=omega) only [push_cast,seval,hc,e1,e2,e4,e5,hr,Int.toNat_natCast])<;>rfl) (by decide) ⟨_,_,rfl,rfl⟩ ?_;(iterate 2 (exact sd));rintro _ _ ⟨rfl,rfl⟩))|((with_reducible refine qcallI_of (f:=96) [192] false ?_);simp (disch:=omega) only [push_cast,seval,hc,e1,e2,e4,e5,hr,Int.toNat_natCast];(refine Axz (id:=192) (Apz _ _ _ _ ?_ ?_) (by (simp (disch:=omega) only [push_cast,seval,hc,e1,e2,e4,e5,hr,Int.toNat_natCast])<;>rfl) (by decide) ⟨_,_,rfl,rfl⟩ ?_;(iterate 2 (exact sd));rintro _ _ ⟨rfl,rfl⟩))|((with_reducible refine qcallI_of (f:=96) [240] false ?_);simp (disch:=omega) only [push_cast,seval,hc,e1,e2,e4,e5,hr,Int.toNat_natCast];(refine Axz (id:=240) (Apz _ _ _ _ ?_ ?_) (by (simp (disch:=omega) only [push_cast,seval,hc,e1,e2,e4,e5,hr,Int.toNat_natCast])<;>rfl) (by decide) ⟨_,_,rfl,rfl⟩ ?_;(iterate 2 (exact sd));rintro _ _ ⟨rfl,rfl⟩))|((with_reducible refine qcallI_of (f:=96) [416] false ?_);simp (disch:=omega) only [push_cast,seval,hc,e1,e2,e4,e5,hr,Int.toNat_natCast];(refine Axz (id:=416) (Apz _ _ _ _ ?_ ?_) (by (simp (disch:=omega) only [push_cast,seval,hc,e1,e2,e4,e5,hr,Int.toNat_natCast])<;>rfl) (by decide) ⟨_,_,rfl,rfl⟩ ?_;(iterate 2 (exact sd));rintro _ _ ⟨rfl,rfl⟩))|((with_reducible refine qcallI_of (f:=96) [528] false ?_);simp (disch:=omega) only [push_cast,seval,hc,e1,e2,e4,e5,hr,Int.toNat_natCast];(refine Axz (id:=528) (Apz _ _ _ _ ?_ ?_) (by (simp (disch:=omega) only [push_cast,seval,hc,e1,e2,e4,e5,hr,Int.toNat_natCast])<;>rfl) (by decide) ⟨_,_,rfl,rfl⟩ ?_;(iterate 2 (exact sd));rintro _ _ ⟨rfl,rfl⟩))|((with_reducible refine qcallI_of (f:=96) [0] false ?_);simp (disch:=omega) only [push_cast,seval,hc,e1,e2,e4,e5,hr,Int.toNat_natCast];(refine Axz (id:=0) (Apz _ _ _ _ ?_ ?_) (by (simp (disch:=omega) only [push_cast,seval,hc,e1,e2,e4,e5,hr,Int.toNat_natCast])<;>rfl) (by decide) ⟨_,_,rfl,rfl⟩ ?_;(iterate 2 (exact sd));rintro _ _ ⟨rfl,rfl⟩))|((with_reducible refine qcallI_of (f:=96) [1] false ?_);simp (disch:=omega) only [push_cast,seval,hc,e1,e2,e4,e5,hr,Int.toNat_natCast];(refine Axz (id:=1) (Apz _ _ _ _ ?_ ?_) (by (simp (disch:=omega) only [push_cast,seval,hc,e1,e2,e4,e5,hr,Int.toNat_natCast])<;>rfl) (by decide) ⟨_,_,rfl,rfl⟩ ?_;(iterate 2 (exact sd));rintro _ _ ⟨rfl,rfl⟩))|((with_reducible refine callD_ids (f:=96) [160] false ?_);simp (disch:=omega) only [push_cast,seval,hc,e1,e2,e4,e5,hr,Int.toNat_natCast];(refine A0z (id:=160) (Apz _ _ _ _ ?_ ?_) (by (simp (disch:=omega) only [push_cast,seval,hc,e1,e2,e4,e5,hr,Int.toNat_natCast])<;>rfl) ?_;(iterate 2 (exact sd));rintro _ _ ⟨rfl,rfl⟩))|((with_reducible refine callD_ids (f:=96) [192] false ?_);simp (disch:=omega) only [push_cast,seval,hc,e1,e2,e4,e5,hr,Int.toNat_natCast];(refine A0z (id:=192) (Apz _ _ _ _ ?_ ?_) (by (simp (disch:=omega) only [push_cast,seval,hc,e1,e2,e4,e5,hr,Int.toNat_natCast])<;>rfl) ?_;(iterate 2 (exact sd));rintro _ _ ⟨rfl,rfl⟩))|((with_reducible refine callD_ids (f:=96) [240] false ?_);simp (disch:=omega) only [push_cast,seval,hc,e1,e2,e4,e5,hr,Int.toNat_natCast];(refine A0z (id:=240) (Apz _ _ _ _ ?_ ?_) (by (simp (disch:=omega) only [push_cast,seval,hc,e1,e2,e4,e5,hr,Int.toNat_natCast])<;>rfl) ?_;(iterate 2 (exact sd));rintro _ _ ⟨rfl,rfl⟩))|((with_reducible refine callD_ids (f:=96) [416] false ?_);simp (disch:=omega) only [push_cast,seval,hc,e1,e2,e4,e5,hr,Int.toNat_natCast];(refine A0z (id:=416) (Apz _ _ _ _ ?_ ?_) (by (simp (disch:=omega) only [push_cast,seval,hc,e1,e2,e4,e5,hr,Int.toNat_natCast])<;>rfl) ?_;(iterate 2 (exact sd));rintro _ _ ⟨rfl,rfl⟩))|((with_reducible refine callD_ids (f:=96) [528] false ?_);simp (disch:=omega) only [push_cast,seval,hc,e1,e2,e4,e5,hr,Int.toNat_natCast];(refine A0z (id:=528) (Apz _ _ _ _ ?_ ?_) (by (simp (disch:=omega) only [push_cast,seval,hc,e1,e2,e4,e5,hr,Int.toNat_natCast])<;>rfl) ?_;(iterate 2 (exact sd));rintro _ _ ⟨rfl,rfl⟩))|((with_reducible refine callD_ids (f:=96) [0] false ?_);simp (disch:=omega) only [push_cast,seval,hc,e1,e2,e4,e5,hr,Int.toNat_natCast];(refine A0z (id:=0) (Apz _ _ _ _ ?_ ?_) (by (simp (disch:=omega) only [push_cast,seval,hc,e1,e2,e4,e5,hr,Int.toNat_natCast])<;>rfl) ?_;(iterate 2 (exact sd));rintro _ _ ⟨rfl,rfl⟩))|((with_reducible refine callD_ids (f:=96) [1] false ?_);simp (disch:=omega) only [push_cast,seval,hc,e1,e2,e4,e5,hr,Int.toNat_natCast];(refine A0z (id:=1) (Apz _ _ _ _ ?_ ?_) (by (simp (disch:=omega) only [push_cast,seval,hc,e1,e2,e4,e5,hr,Int.toNat_natCast])<;>rfl) ?_;(iterate 2 (exact sd));rintro _ _ ⟨rfl,rfl⟩))|((with_reducible refine callD_of (f:=96) true ?_);simp (disch:=omega) only [push_cast,seval,hc,e1,e2,e4,e5,hr,Int.toNat_natCast];(refine call0D (Dqz _ _ _ _ ?_ ?_) ?_;(iterate 2 (exact sd));rintro _ _ ⟨rfl,rfl⟩)))<;>(try simp (disch:=omega) only [push_cast,seval,hc,e1,e2,e4,e5,hr,Int.toNat_natCast]))
 | ((first|refine callD_of false ?_|refine Ajz false ?_);simp (disch:=omega) only [push_cast,seval,hc,e1,e2,e4,e5,hr,Int.toNat_natCast])
 | ((first|((first|refine call0D (cells_ok _ _ _ _ _ ?_ ?_ ?_) ?_|refine qcall0D (cells_ok _ _ _ _ _ ?_ ?_ ?_) ⟨_,_,rfl,rfl⟩ ?_);(iterate 3 (exact sd));rintro _ _ ⟨rfl,rfl⟩)|((first|refine call0D (BCall.ofP (width_ok _ _ _ _ _ ?_ ?_ ?_)) ?_|refine qcall0D (BCall.ofP (width_ok _ _ _ _ _ ?_ ?_ ?_)) ⟨_,_,rfl,rfl⟩ ?_);(iterate 3 (exact sd));rintro _ _ ⟨rfl,rfl⟩))<;>(try simp (disch:=omega) only [push_cast,seval,hc,e1,e2,e4,e5,hr,Int.toNat_natCast]))
 | (refine Aiz ⟨.inr rfl,[240],[],_,by decide,rfl,?_⟩;(try simp (disch:=omega) only [push_cast,seval,↓Anz,↓Amz,↓List.map_cons,↓List.map_nil,hc,e1,e2,e4,e5,hr,Int.toNat_natCast]))))
      refine ⟨k + W,⟨by omega,Nat.dvd_add hkd (Nat.dvd_refl W)⟩,by omega,?_⟩
      (refine Sub.of_lists ?_ ?_ ?_ ?_ ?_<;>simp [Vw.mkS,Vw.lk,Vw.hk,AV.inn,innL,Aqz,Aoz,Atz,-List.map_set,-List.getD_eq_getElem?_getD,hr])
    · have hke:k=L.length:=by omega
      subst hke
      rw [Flz] at e1
      rw [Flz]
      (repeat' (first
 | (first|refine Akz ?_|refine Afz ?_)
 | ((first|refine Alz ?_|refine Asz (mid:=l84r1a) (post:=l84r1b) A9z (by decide) ?_|refine Hvz (mid:=l84r5a) (post:=l84r5b) [192,240] A9z (by decide) ?_|refine Aez ?_|refine Agz ?_|refine Ahz ?_);simp (disch:=omega) only [push_cast,seval,l84r0,l84r1a,l84r1b,l84r1,l84r2,l84r3,l84r4,l84r5a,l84r5b,l84r5,l84r6,l84r7,e1])
 | ((first|refine Aaz ?_ ?_|refine Adz ?_ ?_|refine Acz ?_ ?_)<;>intro h<;>(try simp only [h])<;>(try simp only [bitvec_to_nat] at h)<;>(try simp only [h])<;>(first|(exfalso;omega)|(exfalso;simp_all;done)|(simp (disch:=omega) only [push_cast,seval,e1])|skip))
 | ((first|((with_reducible refine qcallI_of (f:=96) [160] false ?_);simp (disch:=omega) only [push_cast,seval,e1];(refine Axz (id:=160) (Apz _ _ _ _ ?_ ?_) (by (simp (disch:=omega) only [push_cast,seval,e1])<;>rfl) (by decide) ⟨_,_,rfl,rfl⟩ ?_;(iterate 2 (exact sd));rintro _ _ ⟨rfl,rfl⟩))|((with_reducible refine qcallI_of (f:=96) [192] false ?_);simp (disch:=omega) only [push_cast,seval,e1];(refine Axz (id:=192) (Apz _ _ _ _ ?_ ?_) (by (simp (disch:=omega) only [push_cast,seval,e1])<;>rfl) (by decide) ⟨_,_,rfl,rfl⟩ ?_;(iterate 2 (exact sd));rintro _ _ ⟨rfl,rfl⟩))|((with_reducible refine qcallI_of (f:=96) [240] false ?_);simp (disch:=omega) only [push_cast,seval,e1];(refine Axz (id:=240) (Apz _ _ _ _ ?_ ?_) (by (simp (disch:=omega) only [push_cast,seval,e1])<;>rfl) (by decide) ⟨_,_,rfl,rfl⟩ ?_;(iterate 2 (exact sd));rintro _ _ ⟨rfl,rfl⟩))|((with_reducible refine qcallI_of (f:=96) [416] false ?_);simp (disch:=omega) only [push_cast,seval,e1];(refine Axz (id:=416) (Apz _ _ _ _ ?_ ?_) (by (simp (disch:=omega) only [push_cast,seval,e1])<;>rfl) (by decide) ⟨_,_,rfl,rfl⟩ ?_;(iterate 2 (exact sd));rintro _ _ ⟨rfl,rfl⟩))|((with_reducible refine qcallI_of (f:=96) [528] false ?_);simp (disch:=omega) only [push_cast,seval,e1];(refine Axz (id:=528) (Apz _ _ _ _ ?_ ?_) (by (simp (disch:=omega) only [push_cast,seval,e1])<;>rfl) (by decide) ⟨_,_,rfl,rfl⟩ ?_;(iterate 2 (exact sd));rintro _ _ ⟨rfl,rfl⟩))|((with_reducible refine qcallI_of (f:=96) [0] false ?_);simp (disch:=omega) only [push_cast,seval,e1];(refine Axz (id:=0) (Apz _ _ _ _ ?_ ?_) (by (simp (disch:=omega) only [push_cast,seval,e1])<;>rfl) (by decide) ⟨_,_,rfl,rfl⟩ ?_;(iterate 2 (exact sd));rintro _ _ ⟨rfl,rfl⟩))|((with_reducible refine qcallI_of (f:=96) [1] false ?_);simp (disch:=omega) only [push_cast,seval,e1];(refine Axz (id:=1) (Apz _ _ _ _ ?_ ?_) (by (simp (disch:=omega) only [push_cast,seval,e1])<;>rfl) (by decide) ⟨_,_,rfl,rfl⟩ ?_;(iterate 2 (exact sd));rintro _ _ ⟨rfl,rfl⟩))|((with_reducible refine callD_ids (f:=96) [160] false ?_);simp (disch:=omega) only [push_cast,seval,e1];(refine A0z (id:=160) (Apz _ _ _ _ ?_ ?_) (by (simp (disch:=omega) only [push_cast,seval,e1])<;>rfl) ?_;(iterate 2 (exact sd));rintro _ _ ⟨rfl,rfl⟩))|((with_reducible refine callD_ids (f:=96) [192] false ?_);simp (disch:=omega) only [push_cast,seval,e1];(refine A0z (id:=192) (Apz _ _ _ _ ?_ ?_) (by (simp (disch:=omega) only [push_cast,seval,e1])<;>rfl) ?_;(iterate 2 (exact sd));rintro _ _ ⟨rfl,rfl⟩))|((with_reducible refine callD_ids (f:=96) [240] false ?_);simp (disch:=omega) only [push_cast,seval,e1];(refine A0z (id:=240) (Apz _ _ _ _ ?_ ?_) (by (simp (disch:=omega) only [push_cast,seval,e1])<;>rfl) ?_;(iterate 2 (exact sd));rintro _ _ ⟨rfl,rfl⟩))|((with_reducible refine callD_ids (f:=96) [416] false ?_);simp (disch:=omega) only [push_cast,seval,e1];(refine A0z (id:=416) (Apz _ _ _ _ ?_ ?_) (by (simp (disch:=omega) only [push_cast,seval,e1])<;>rfl) ?_;(iterate 2 (exact sd));rintro _ _ ⟨rfl,rfl⟩))|((with_reducible refine callD_ids (f:=96) [528] false ?_);simp (disch:=omega) only [push_cast,seval,e1];(refine A0z (id:=528) (Apz _ _ _ _ ?_ ?_) (by (simp (disch:=omega) only [push_cast,seval,e1])<;>rfl) ?_;(iterate 2 (exact sd));rintro _ _ ⟨rfl,rfl⟩))|((with_reducible refine callD_ids (f:=96) [0] false ?_);simp (disch:=omega) only [push_cast,seval,e1];(refine A0z (id:=0) (Apz _ _ _ _ ?_ ?_) (by (simp (disch:=omega) only [push_cast,seval,e1])<;>rfl) ?_;(iterate 2 (exact sd));rintro _ _ ⟨rfl,rfl⟩))|((with_reducible refine callD_ids (f:=96) [1] false ?_);simp (disch:=omega) only [push_cast,seval,e1];(refine A0z (id:=1) (Apz _ _ _ _ ?_ ?_) (by (simp (disch:=omega) only [push_cast,seval,e1])<;>rfl) ?_;(iterate 2 (exact sd));rintro _ _ ⟨rfl,rfl⟩))|((with_reducible refine callD_of (f:=96) true ?_);simp (disch:=omega) only [push_cast,seval,e1];(refine call0D (Dqz _ _ _ _ ?_ ?_) ?_;(iterate 2 (exact sd));rintro _ _ ⟨rfl,rfl⟩)))<;>(try simp (disch:=omega) only [push_cast,seval,e1]))
 | ((first|refine callD_of false ?_|refine Ajz false ?_);simp (disch:=omega) only [push_cast,seval,e1])
 | ((first|((first|refine call0D (cells_ok _ _ _ _ _ ?_ ?_ ?_) ?_|refine qcall0D (cells_ok _ _ _ _ _ ?_ ?_ ?_) ⟨_,_,rfl,rfl⟩ ?_);(iterate 3 (exact sd));rintro _ _ ⟨rfl,rfl⟩)|((first|refine call0D (BCall.ofP (width_ok _ _ _ _ _ ?_ ?_ ?_)) ?_|refine qcall0D (BCall.ofP (width_ok _ _ _ _ _ ?_ ?_ ?_)) ⟨_,_,rfl,rfl⟩ ?_);(iterate 3 (exact sd));rintro _ _ ⟨rfl,rfl⟩))<;>(try simp (disch:=omega) only [push_cast,seval,e1]))
 | (refine Aiz ⟨.inr rfl,[240],[],_,by decide,rfl,?_⟩;(try simp (disch:=omega) only [push_cast,seval,↓Anz,↓Amz,↓List.map_cons,↓List.map_nil,e1]))))
      all_goals simp [OI,e1]

end Go.Proofs.YtahdlohpncjdbaaDoor
set_option linter.unusedSimpArgs false
set_option linter.unusedVariables false
set_option maxRecDepth 4000
set_option maxHeartbeats 4000000
namespace Go.Proofs.YtahdlohpncjdbaaDoor
open VwM Vw Go
set_option linter.unusedSectionVars false
variable [SentA]

set_option maxHeartbeats 8000000 in
theorem stored_ok (mem:List Int) (b:Int) (sh st vals:List Int) (q n m v:Nat) (hq:mem.length=q) (hn:sh.length=n) (hm:st.length=m) (hv:vals.length=v) (hb:seeB mem b sh st=true ∧ (v:Int)=pr sh):BCall Tryd.prog 77 [.rows false (IL mem) q,.agg [.int .i64 b,.rows false (IL sh) n,.rows false (IL st) m],.rows false (IL vals) v] [] (OI (putL mem (offs b sh st) vals)):=by
  subst hq hn hm hv
  obtain ⟨hb,hvp⟩:=hb
  obtain ⟨f1,f2,f3,f4,f5,f6⟩:=Cpz hb
  have hat:=fun k hk=>Ivz (k:=k) hb hk
  have hol:=Blz b sh st
  have hrow:=fun (k j:Nat) hk hj h=>offs_rowW (b:=b) (sh:=sh) (st:=st) (k:=k) (j:=j) f3 hk hj h
  have hdv:=wdt_dvd (st:=st) f3
  have hwl:=wdt_le (st:=st) f3
  have hwp:=wdt_pos (st:=st) f3
  have q1:okV b sh st ∧ st.length=sh.length:=⟨f1,f2⟩
  have q2:good4 sh ∧ st.length=sh.length:=⟨f3,f2⟩
  have hvl:vals.length=(offs b sh st).length:=by omega
  generalize hL:offs b sh st=L at *
  generalize hW:wdt sh st=W at *
  have hml:mem.length ≤ 1099511627776:=by omega
  refine A4z (pins:=[]) (pin:=0) l77_eq rfl rfl rfl ?_
  (repeat' (first
 | (first|refine Akz ?_|refine Afz ?_)
 | ((first|refine Alz ?_|refine Asz (mid:=l77r2a) (post:=l77r2b) A9z (by decide) ?_|refine Aez ?_|refine Agz ?_|refine Ahz ?_);simp (disch:=omega) only [push_cast,seval,l77r0,l77r1,l77r2a,l77r2b,l77r2,l77r3,l77r4,l77r5,l77r6,l77r7,hL,hW])
 | ((first|refine Aaz ?_ ?_|refine Adz ?_ ?_|refine Acz ?_ ?_)<;>intro h<;>(try simp only [h])<;>(try simp only [bitvec_to_nat] at h)<;>(try simp only [h])<;>(first|(exfalso;omega)|(exfalso;simp_all;done)|(simp (disch:=omega) only [push_cast,seval,hL,hW])|skip))
 | ((first|((with_reducible refine qcallI_of (f:=96) [192] false ?_);simp (disch:=omega) only [push_cast,seval,hL,hW];(refine Axz (id:=192) (Apz _ _ _ _ ?_ ?_) (by (simp (disch:=omega) only [push_cast,seval,hL,hW])<;>rfl) (by decide) ⟨_,_,rfl,rfl⟩ ?_;(iterate 2 (exact sd));rintro _ _ ⟨rfl,rfl⟩))|((with_reducible refine qcallI_of (f:=96) [224] false ?_);simp (disch:=omega) only [push_cast,seval,hL,hW];(refine Axz (id:=224) (Apz _ _ _ _ ?_ ?_) (by (simp (disch:=omega) only [push_cast,seval,hL,hW])<;>rfl) (by decide) ⟨_,_,rfl,rfl⟩ ?_;(iterate 2 (exact sd));rintro _ _ ⟨rfl,rfl⟩))|((with_reducible refine qcallI_of (f:=96) [256] false ?_);simp (disch:=omega) only [push_cast,seval,hL,hW];(refine Axz (id:=256) (Apz _ _ _ _ ?_ ?_) (by (simp (disch:=omega) only [push_cast,seval,hL,hW])<;>rfl) (by decide) ⟨_,_,rfl,rfl⟩ ?_;(iterate 2 (exact sd));rintro _ _ ⟨rfl,rfl⟩))|((with_reducible refine qcallI_of (f:=96) [480] false ?_);simp (disch:=omega) only [push_cast,seval,hL,hW];(refine Axz (id:=480) (Apz _ _ _ _ ?_ ?_) (by (simp (disch:=omega) only [push_cast,seval,hL,hW])<;>rfl) (by decide) ⟨_,_,rfl,rfl⟩ ?_;(iterate 2 (exact sd));rintro _ _ ⟨rfl,rfl⟩))|((with_reducible refine qcallI_of (f:=96) [544] false ?_);simp (disch:=omega) only [push_cast,seval,hL,hW];(refine Axz (id:=544) (Apz _ _ _ _ ?_ ?_) (by (simp (disch:=omega) only [push_cast,seval,hL,hW])<;>rfl) (by decide) ⟨_,_,rfl,rfl⟩ ?_;(iterate 2 (exact sd));rintro _ _ ⟨rfl,rfl⟩))|((with_reducible refine qcallI_of (f:=96) [0] false ?_);simp (disch:=omega) only [push_cast,seval,hL,hW];(refine Axz (id:=0) (Apz _ _ _ _ ?_ ?_) (by (simp (disch:=omega) only [push_cast,seval,hL,hW])<;>rfl) (by decide) ⟨_,_,rfl,rfl⟩ ?_;(iterate 2 (exact sd));rintro _ _ ⟨rfl,rfl⟩))|((with_reducible refine qcallI_of (f:=96) [1] false ?_);simp (disch:=omega) only [push_cast,seval,hL,hW];(refine Axz (id:=1) (Apz _ _ _ _ ?_ ?_) (by (simp (disch:=omega) only [push_cast,seval,hL,hW])<;>rfl) (by decide) ⟨_,_,rfl,rfl⟩ ?_;(iterate 2 (exact sd));rintro _ _ ⟨rfl,rfl⟩))|((with_reducible refine callD_ids (f:=96) [192] false ?_);simp (disch:=omega) only [push_cast,seval,hL,hW];(refine A0z (id:=192) (Apz _ _ _ _ ?_ ?_) (by (simp (disch:=omega) only [push_cast,seval,hL,hW])<;>rfl) ?_;(iterate 2 (exact sd));rintro _ _ ⟨rfl,rfl⟩))|((with_reducible refine callD_ids (f:=96) [224] false ?_);simp (disch:=omega) only [push_cast,seval,hL,hW];(refine A0z (id:=224) (Apz _ _ _ _ ?_ ?_) (by (simp (disch:=omega) only [push_cast,seval,hL,hW])<;>rfl) ?_;(iterate 2 (exact sd));rintro _ _ ⟨rfl,rfl⟩))|((with_reducible refine callD_ids (f:=96) [256] false ?_);simp (disch:=omega) only [push_cast,seval,hL,hW];(refine A0z (id:=256) (Apz _ _ _ _ ?_ ?_) (by (simp (disch:=omega) only [push_cast,seval,hL,hW])<;>rfl) ?_;(iterate 2 (exact sd));rintro _ _ ⟨rfl,rfl⟩))|((with_reducible refine callD_ids (f:=96) [480] false ?_);simp (disch:=omega) only [push_cast,seval,hL,hW];(refine A0z (id:=480) (Apz _ _ _ _ ?_ ?_) (by (simp (disch:=omega) only [push_cast,seval,hL,hW])<;>rfl) ?_;(iterate 2 (exact sd));rintro _ _ ⟨rfl,rfl⟩))|((with_reducible refine callD_ids (f:=96) [544] false ?_);simp (disch:=omega) only [push_cast,seval,hL,hW];(refine A0z (id:=544) (Apz _ _ _ _ ?_ ?_) (by (simp (disch:=omega) only [push_cast,seval,hL,hW])<;>rfl) ?_;(iterate 2 (exact sd));rintro _ _ ⟨rfl,rfl⟩))|((with_reducible refine callD_ids (f:=96) [0] false ?_);simp (disch:=omega) only [push_cast,seval,hL,hW];(refine A0z (id:=0) (Apz _ _ _ _ ?_ ?_) (by (simp (disch:=omega) only [push_cast,seval,hL,hW])<;>rfl) ?_;(iterate 2 (exact sd));rintro _ _ ⟨rfl,rfl⟩))|((with_reducible refine callD_ids (f:=96) [1] false ?_);simp (disch:=omega) only [push_cast,seval,hL,hW];(refine A0z (id:=1) (Apz _ _ _ _ ?_ ?_) (by (simp (disch:=omega) only [push_cast,seval,hL,hW])<;>rfl) ?_;(iterate 2 (exact sd));rintro _ _ ⟨rfl,rfl⟩))|((with_reducible refine callD_of (f:=96) true ?_);simp (disch:=omega) only [push_cast,seval,hL,hW];(refine call0D (Dqz _ _ _ _ ?_ ?_) ?_;(iterate 2 (exact sd));rintro _ _ ⟨rfl,rfl⟩)))<;>(try simp (disch:=omega) only [push_cast,seval,hL,hW]))
 | ((first|refine callD_of false ?_|refine Ajz false ?_);simp (disch:=omega) only [push_cast,seval,hL,hW])
 | ((first|((first|refine call0D (B3z _ _ ?_ ?_) ?_|refine qcall0D (B3z _ _ ?_ ?_) ⟨_,_,rfl,rfl⟩ ?_);(iterate 2 (exact sd));rintro _ _ ⟨rfl,rfl⟩)|((first|refine call0D (cells_ok _ _ _ _ _ ?_ ?_ ?_) ?_|refine qcall0D (cells_ok _ _ _ _ _ ?_ ?_ ?_) ⟨_,_,rfl,rfl⟩ ?_);(iterate 3 (exact sd));rintro _ _ ⟨rfl,rfl⟩)|((first|refine call0D (BCall.ofP (width_ok _ _ _ _ _ ?_ ?_ ?_)) ?_|refine qcall0D (BCall.ofP (width_ok _ _ _ _ _ ?_ ?_ ?_)) ⟨_,_,rfl,rfl⟩ ?_);(iterate 3 (exact sd));rintro _ _ ⟨rfl,rfl⟩))<;>(try simp (disch:=omega) only [push_cast,seval,hL,hW]))
 | (refine Aiz ⟨.inr rfl,[192],[],_,by decide,rfl,?_⟩;(try simp (disch:=omega) only [push_cast,seval,↓Anz,↓Amz,↓List.map_cons,↓List.map_nil,hL,hW]))))
  refine A7z (fun k:Nat=>mkS [(2,RI vals),(7,.own 192 mem.length 1),(8,.own 224 L.length 1),(9,.int .i64 W),(10,.int .i64 k)] [(192,IL (putK mem L vals k)),(224,IL L)])
    (fun k=>k ≤ L.length ∧ W ∣ k) (fun k=>L.length - k) 0 ⟨Nat.zero_le _,Nat.dvd_zero _⟩ ?_ ?_
  · have e0:putK mem L vals 0=mem:=rfl
    (refine Sub.of_lists ?_ ?_ ?_ ?_ ?_<;>simp [Vw.mkS,Vw.lk,Vw.hk,AV.inn,innL,Aqz,Aoz,Atz,-List.map_set,-List.getD_eq_getElem?_getD,e0])
  · rintro k ⟨hk,hkd⟩
    have e1:=D1z mem L vals k
    by_cases hlt:k < L.length
    · have hw1:=hwp (by omega)
      have hend:=row_end hw1 hdv hkd (by omega)
      obtain ⟨h1,h2⟩:=hat k hlt
      have hlast:=hat (k + (W - 1)) (by omega)
      rw [hrow k (W - 1) hkd (by omega) (by omega)] at hlast
      obtain ⟨c,hc⟩:∃ c:Nat,L.getD k 0=c:=⟨(L.getD k 0).toNat,by omega⟩
      have hr:=putK_row (mem:=mem) (cells:=L) (vals:=vals) (k:=k) W (by omega) (fun j hj=>by rw [hrow k j hkd hj (by omega)];omega)
      rw [hc] at hr
      rw [Int.toNat_natCast] at hr
      have hcw:c + W ≤ mem.length:=by omega
      have hkw:k + W ≤ vals.length:=by omega
      have e2:min W W=W:=Nat.min_self W
      generalize hF:putK mem L vals k=F at *
      have e4:(((vals.drop k).take W).map (AV.int .i64)).take W=((vals.drop k).take W).map (AV.int .i64):=by rw [← List.map_take,List.take_take,Nat.min_self]
      have e5:((vals.drop k).take W).length=W:=by simp;omega
      (repeat' (first
 | (first|refine Akz ?_|refine Afz ?_)
 | ((first|refine Alz ?_|refine Asz (mid:=l77r2a) (post:=l77r2b) A9z (by decide) ?_|refine Aez ?_|refine Agz ?_|refine Ahz ?_);simp (disch:=omega) only [push_cast,seval,l77r0,l77r1,l77r2a,l77r2b,l77r2,l77r3,l77r4,l77r5,l77r6,l77r7,hc,e1,e2,e4,e5,hr,Int.toNat_natCast])
 | ((first|refine Aaz ?_ ?_|refine Adz ?_ ?_|refine Acz ?_ ?_)<;>intro h<;>(try simp only [h])<;>(try simp only [bitvec_to_nat] at h)<;>(try simp only [h])<;>(first|(exfalso;omega)|(exfalso;simp_all;done)|(simp (disch:=omega) only [push_cast,seval,hc,e1,e2,e4,e5,hr,Int.toNat_natCast])|skip))
 | ((first|((with_reducible refine qcallI_of (f:=96) [192] false ?_);simp (disch:=omega) only [push_cast,seval,hc,e1,e2,e4,e5,hr,Int.toNat_natCast];(refine Axz (id:=192) (Apz _ _ _ _ ?_ ?_) (by (simp (disch:=omega) only [push_cast,seval,hc,e1,e2,e4,e5,hr,Int.toNat_natCast])<;>rfl) (by decide) ⟨_,_,rfl,rfl⟩ ?_;(iterate 2 (exact sd));rintro _ _ ⟨rfl,rfl⟩))|((with_reducible refine qcallI_of (f:=96) [224] false ?_);simp (disch:=omega) only [push_cast,seval,hc,e1,e2,e4,e5,hr,Int.toNat_natCast];(refine Axz (id:=224) (Apz _ _ _ _ ?_ ?_) (by (simp (disch:=omega) only [push_cast,seval,hc,e1,e2,e4,e5,hr,Int.toNat_natCast])<;>rfl) (by decide) ⟨_,_,rfl,rfl⟩ ?_;(iterate 2 (exact sd));rintro _ _ ⟨rfl,rfl⟩))|((with_reducible refine qcallI_of (f:=96) [256] false ?_);simp (disch:=omega) only [push_cast,seval,hc,e1,e2,e4,e5,hr,Int.toNat_natCast];(refine Axz (id:=256) (Apz _ _ _ _ ?_ ?_) (by (simp (disch:=omega) only [push_cast,seval,hc,e1,e2,e4,e5,hr,Int.toNat_natCast])<;>rfl) (by decide) ⟨_,_,rfl,rfl⟩ ?_;(iterate 2 (exact sd));rintro _ _ ⟨rfl,rfl⟩))|((with_reducible refine qcallI_of (f:=96) [480] false ?_);simp (disch:=omega) only [push_cast,seval,hc,e1,e2,e4,e5,hr,Int.toNat_natCast];(refine Axz (id:=480) (Apz _ _ _ _ ?_ ?_) (by (simp (disch:=omega) only [push_cast,seval,hc,e1,e2,e4,e5,hr,Int.toNat_natCast])<;>rfl) (by decide) ⟨_,_,rfl,rfl⟩ ?_;(iterate 2 (exact sd));rintro _ _ ⟨rfl,rfl⟩))|((with_reducible refine qcallI_of (f:=96) [544] false ?_);simp (disch:=omega) only [push_cast,seval,hc,e1,e2,e4,e5,hr,Int.toNat_natCast];(refine Axz (id:=544) (Apz _ _ _ _ ?_ ?_) (by (simp (disch:=omega) only [push_cast,seval,hc,e1,e2,e4,e5,hr,Int.toNat_natCast])<;>rfl) (by decide) ⟨_,_,rfl,rfl⟩ ?_;(iterate 2 (exact sd));rintro _ _ ⟨rfl,rfl⟩))|((with_reducible refine qcallI_of (f:=96) [0] false ?_);simp (disch:=omega) only [push_cast,seval,hc,e1,e2,e4,e5,hr,Int.toNat_natCast];(refine Axz (id:=0) (Apz _ _ _ _ ?_ ?_) (by (simp (disch:=omega) only [push_cast,seval,hc,e1,e2,e4,e5,hr,Int.toNat_natCast])<;>rfl) (by decide) ⟨_,_,rfl,rfl⟩ ?_;(iterate 2 (exact sd));rintro _ _ ⟨rfl,rfl⟩))|((with_reducible refine qcallI_of (f:=96) [1] false ?_);simp (disch:=omega) only [push_cast,seval,hc,e1,e2,e4,e5,hr,Int.toNat_natCast];(refine Axz (id:=1) (Apz _ _ _ _ ?_ ?_) (by (simp (disch:=omega) only [push_cast,seval,hc,e1,e2,e4,e5,hr,Int.toNat_natCast])<;>rfl) (by decide) ⟨_,_,rfl,rfl⟩ ?_;(iterate 2 (exact sd));rintro _ _ ⟨rfl,rfl⟩))|((with_reducible refine callD_ids (f:=96) [192] false ?_);simp (disch:=omega) only [push_cast,seval,hc,e1,e2,e4,e5,hr,Int.toNat_natCast];(refine A0z (id:=192) (Apz _ _ _ _ ?_ ?_) (by (simp (disch:=omega) only [push_cast,seval,hc,e1,e2,e4,e5,hr,Int.toNat_natCast])<;>rfl) ?_;(iterate 2 (exact sd));rintro _ _ ⟨rfl,rfl⟩))|((with_reducible refine callD_ids (f:=96) [224] false ?_);simp (disch:=omega) only [push_cast,seval,hc,e1,e2,e4,e5,hr,Int.toNat_natCast];(refine A0z (id:=224) (Apz _ _ _ _ ?_ ?_) (by (simp (disch:=omega) only [push_cast,seval,hc,e1,e2,e4,e5,hr,Int.toNat_natCast])<;>rfl) ?_;(iterate 2 (exact sd));rintro _ _ ⟨rfl,rfl⟩))|((with_reducible refine callD_ids (f:=96) [256] false ?_);simp (disch:=omega) only [push_cast,seval,hc,e1,e2,e4,e5,hr,Int.toNat_natCast];(refine A0z (id:=256) (Apz _ _ _ _ ?_ ?_) (by (simp (disch:=omega) only [push_cast,seval,hc,e1,e2,e4,e5,hr,Int.toNat_natCast])<;>rfl) ?_;(iterate 2 (exact sd));rintro _ _ ⟨rfl,rfl⟩))|((with_reducible refine callD_ids (f:=96) [480] false ?_);simp (disch:=omega) only [push_cast,seval,hc,e1,e2,e4,e5,hr,Int.toNat_natCast];(refine A0z (id:=480) (Apz _ _ _ _ ?_ ?_) (by (simp (disch:=omega) only [push_cast,seval,hc,e1,e2,e4,e5,hr,Int.toNat_natCast])<;>rfl) ?_;(iterate 2 (exact sd));rintro _ _ ⟨rfl,rfl⟩))|((with_reducible refine callD_ids (f:=96) [544] false ?_);simp (disch:=omega) only [push_cast,seval,hc,e1,e2,e4,e5,hr,Int.toNat_natCast];(refine A0z (id:=544) (Apz _ _ _ _ ?_ ?_) (by (simp (disch:=omega) only [push_cast,seval,hc,e1,e2,e4,e5,hr,Int.toNat_natCast])<;>rfl) ?_;(iterate 2 (exact sd));rintro _ _ ⟨rfl,rfl⟩))|((with_reducible refine callD_ids (f:=96) [0] false ?_);simp (disch:=omega) only [push_cast,seval,hc,e1,e2,e4,e5,hr,Int.toNat_natCast];(refine A0z (id:=0) (Apz _ _ _ _ ?_ ?_) (by (simp (disch:=omega) only [push_cast,seval,hc,e1,e2,e4,e5,hr,Int.toNat_natCast])<;>rfl) ?_;(iterate 2 (exact sd));rintro _ _ ⟨rfl,rfl⟩))|((with_reducible refine callD_ids (f:=96) [1] false ?_);simp (disch:=omega) only [push_cast,seval,hc,e1,e2,e4,e5,hr,Int.toNat_natCast];(refine A0z (id:=1) (Apz _ _ _ _ ?_ ?_) (by (simp (disch:=omega) only [push_cast,seval,hc,e1,e2,e4,e5,hr,Int.toNat_natCast])<;>rfl) ?_;(iterate 2 (exact sd));rintro _ _ ⟨rfl,rfl⟩))|((with_reducible refine callD_of (f:=96) true ?_);simp (disch:=omega) only [push_cast,seval,hc,e1,e2,e4,e5,hr,Int.toNat_natCast];(refine call0D (Dqz _ _ _ _ ?_ ?_) ?_;(iterate 2 (exact sd));rintro _ _ ⟨rfl,rfl⟩)))<;>(try simp (disch:=omega) only [push_cast,seval,hc,e1,e2,e4,e5,hr,Int.toNat_natCast]))
 | ((first|refine callD_of false ?_|refine Ajz false ?_);simp (disch:=omega) only [push_cast,seval,hc,e1,e2,e4,e5,hr,Int.toNat_natCast])
 | ((first|((first|refine call0D (B3z _ _ ?_ ?_) ?_|refine qcall0D (B3z _ _ ?_ ?_) ⟨_,_,rfl,rfl⟩ ?_);(iterate 2 (exact sd));rintro _ _ ⟨rfl,rfl⟩)|((first|refine call0D (cells_ok _ _ _ _ _ ?_ ?_ ?_) ?_|refine qcall0D (cells_ok _ _ _ _ _ ?_ ?_ ?_) ⟨_,_,rfl,rfl⟩ ?_);(iterate 3 (exact sd));rintro _ _ ⟨rfl,rfl⟩)|((first|refine call0D (BCall.ofP (width_ok _ _ _ _ _ ?_ ?_ ?_)) ?_|refine qcall0D (BCall.ofP (width_ok _ _ _ _ _ ?_ ?_ ?_)) ⟨_,_,rfl,rfl⟩ ?_);(iterate 3 (exact sd));rintro _ _ ⟨rfl,rfl⟩))<;>(try simp (disch:=omega) only [push_cast,seval,hc,e1,e2,e4,e5,hr,Int.toNat_natCast]))
 | (refine Aiz ⟨.inr rfl,[192],[],_,by decide,rfl,?_⟩;(try simp (disch:=omega) only [push_cast,seval,↓Anz,↓Amz,↓List.map_cons,↓List.map_nil,hc,e1,e2,e4,e5,hr,Int.toNat_natCast]))))
      refine ⟨k + W,⟨by omega,Nat.dvd_add hkd (Nat.dvd_refl W)⟩,by omega,?_⟩
      (refine Sub.of_lists ?_ ?_ ?_ ?_ ?_<;>simp [Vw.mkS,Vw.lk,Vw.hk,AV.inn,innL,Aqz,Aoz,Atz,-List.map_set,-List.getD_eq_getElem?_getD,hr])
    · have hke:k=L.length:=by omega
      have e3:putK mem L vals k=putL mem L vals:=by rw [hke];rfl
      rw [e3] at e1
      rw [e3]
      (repeat' (first
 | (first|refine Akz ?_|refine Afz ?_)
 | ((first|refine Alz ?_|refine Asz (mid:=l77r2a) (post:=l77r2b) A9z (by decide) ?_|refine Aez ?_|refine Agz ?_|refine Ahz ?_);simp (disch:=omega) only [push_cast,seval,l77r0,l77r1,l77r2a,l77r2b,l77r2,l77r3,l77r4,l77r5,l77r6,l77r7,e1])
 | ((first|refine Aaz ?_ ?_|refine Adz ?_ ?_|refine Acz ?_ ?_)<;>intro h<;>(try simp only [h])<;>(try simp only [bitvec_to_nat] at h)<;>(try simp only [h])<;>(first|(exfalso;omega)|(exfalso;simp_all;done)|(simp (disch:=omega) only [push_cast,seval,e1])|skip))
 | ((first|((with_reducible refine qcallI_of (f:=96) [192] false ?_);simp (disch:=omega) only [push_cast,seval,e1];(refine Axz (id:=192) (Apz _ _ _ _ ?_ ?_) (by (simp (disch:=omega) only [push_cast,seval,e1])<;>rfl) (by decide) ⟨_,_,rfl,rfl⟩ ?_;(iterate 2 (exact sd));rintro _ _ ⟨rfl,rfl⟩))|((with_reducible refine qcallI_of (f:=96) [224] false ?_);simp (disch:=omega) only [push_cast,seval,e1];(refine Axz (id:=224) (Apz _ _ _ _ ?_ ?_) (by (simp (disch:=omega) only [push_cast,seval,e1])<;>rfl) (by decide) ⟨_,_,rfl,rfl⟩ ?_;(iterate 2 (exact sd));rintro _ _ ⟨rfl,rfl⟩))|((with_reducible refine qcallI_of (f:=96) [256] false ?_);simp (disch:=omega) only [push_cast,seval,e1];(refine Axz (id:=256) (Apz _ _ _ _ ?_ ?_) (by (simp (disch:=omega) only [push_cast,seval,e1])<;>rfl) (by decide) ⟨_,_,rfl,rfl⟩ ?_;(iterate 2 (exact sd));rintro _ _ ⟨rfl,rfl⟩))|((with_reducible refine qcallI_of (f:=96) [480] false ?_);simp (disch:=omega) only [push_cast,seval,e1];(refine Axz (id:=480) (Apz _ _ _ _ ?_ ?_) (by (simp (disch:=omega) only [push_cast,seval,e1])<;>rfl) (by decide) ⟨_,_,rfl,rfl⟩ ?_;(iterate 2 (exact sd));rintro _ _ ⟨rfl,rfl⟩))|((with_reducible refine qcallI_of (f:=96) [544] false ?_);simp (disch:=omega) only [push_cast,seval,e1];(refine Axz (id:=544) (Apz _ _ _ _ ?_ ?_) (by (simp (disch:=omega) only [push_cast,seval,e1])<;>rfl) (by decide) ⟨_,_,rfl,rfl⟩ ?_;(iterate 2 (exact sd));rintro _ _ ⟨rfl,rfl⟩))|((with_reducible refine qcallI_of (f:=96) [0] false ?_);simp (disch:=omega) only [push_cast,seval,e1];(refine Axz (id:=0) (Apz _ _ _ _ ?_ ?_) (by (simp (disch:=omega) only [push_cast,seval,e1])<;>rfl) (by decide) ⟨_,_,rfl,rfl⟩ ?_;(iterate 2 (exact sd));rintro _ _ ⟨rfl,rfl⟩))|((with_reducible refine qcallI_of (f:=96) [1] false ?_);simp (disch:=omega) only [push_cast,seval,e1];(refine Axz (id:=1) (Apz _ _ _ _ ?_ ?_) (by (simp (disch:=omega) only [push_cast,seval,e1])<;>rfl) (by decide) ⟨_,_,rfl,rfl⟩ ?_;(iterate 2 (exact sd));rintro _ _ ⟨rfl,rfl⟩))|((with_reducible refine callD_ids (f:=96) [192] false ?_);simp (disch:=omega) only [push_cast,seval,e1];(refine A0z (id:=192) (Apz _ _ _ _ ?_ ?_) (by (simp (disch:=omega) only [push_cast,seval,e1])<;>rfl) ?_;(iterate 2 (exact sd));rintro _ _ ⟨rfl,rfl⟩))|((with_reducible refine callD_ids (f:=96) [224] false ?_);simp (disch:=omega) only [push_cast,seval,e1];(refine A0z (id:=224) (Apz _ _ _ _ ?_ ?_) (by (simp (disch:=omega) only [push_cast,seval,e1])<;>rfl) ?_;(iterate 2 (exact sd));rintro _ _ ⟨rfl,rfl⟩))|((with_reducible refine callD_ids (f:=96) [256] false ?_);simp (disch:=omega) only [push_cast,seval,e1];(refine A0z (id:=256) (Apz _ _ _ _ ?_ ?_) (by (simp (disch:=omega) only [push_cast,seval,e1])<;>rfl) ?_;(iterate 2 (exact sd));rintro _ _ ⟨rfl,rfl⟩))|((with_reducible refine callD_ids (f:=96) [480] false ?_);simp (disch:=omega) only [push_cast,seval,e1];(refine A0z (id:=480) (Apz _ _ _ _ ?_ ?_) (by (simp (disch:=omega) only [push_cast,seval,e1])<;>rfl) ?_;(iterate 2 (exact sd));rintro _ _ ⟨rfl,rfl⟩))|((with_reducible refine callD_ids (f:=96) [544] false ?_);simp (disch:=omega) only [push_cast,seval,e1];(refine A0z (id:=544) (Apz _ _ _ _ ?_ ?_) (by (simp (disch:=omega) only [push_cast,seval,e1])<;>rfl) ?_;(iterate 2 (exact sd));rintro _ _ ⟨rfl,rfl⟩))|((with_reducible refine callD_ids (f:=96) [0] false ?_);simp (disch:=omega) only [push_cast,seval,e1];(refine A0z (id:=0) (Apz _ _ _ _ ?_ ?_) (by (simp (disch:=omega) only [push_cast,seval,e1])<;>rfl) ?_;(iterate 2 (exact sd));rintro _ _ ⟨rfl,rfl⟩))|((with_reducible refine callD_ids (f:=96) [1] false ?_);simp (disch:=omega) only [push_cast,seval,e1];(refine A0z (id:=1) (Apz _ _ _ _ ?_ ?_) (by (simp (disch:=omega) only [push_cast,seval,e1])<;>rfl) ?_;(iterate 2 (exact sd));rintro _ _ ⟨rfl,rfl⟩))|((with_reducible refine callD_of (f:=96) true ?_);simp (disch:=omega) only [push_cast,seval,e1];(refine call0D (Dqz _ _ _ _ ?_ ?_) ?_;(iterate 2 (exact sd));rintro _ _ ⟨rfl,rfl⟩)))<;>(try simp (disch:=omega) only [push_cast,seval,e1]))
 | ((first|refine callD_of false ?_|refine Ajz false ?_);simp (disch:=omega) only [push_cast,seval,e1])
 | ((first|((first|refine call0D (B3z _ _ ?_ ?_) ?_|refine qcall0D (B3z _ _ ?_ ?_) ⟨_,_,rfl,rfl⟩ ?_);(iterate 2 (exact sd));rintro _ _ ⟨rfl,rfl⟩)|((first|refine call0D (cells_ok _ _ _ _ _ ?_ ?_ ?_) ?_|refine qcall0D (cells_ok _ _ _ _ _ ?_ ?_ ?_) ⟨_,_,rfl,rfl⟩ ?_);(iterate 3 (exact sd));rintro _ _ ⟨rfl,rfl⟩)|((first|refine call0D (BCall.ofP (width_ok _ _ _ _ _ ?_ ?_ ?_)) ?_|refine qcall0D (BCall.ofP (width_ok _ _ _ _ _ ?_ ?_ ?_)) ⟨_,_,rfl,rfl⟩ ?_);(iterate 3 (exact sd));rintro _ _ ⟨rfl,rfl⟩))<;>(try simp (disch:=omega) only [push_cast,seval,e1]))
 | (refine Aiz ⟨.inr rfl,[192],[],_,by decide,rfl,?_⟩;(try simp (disch:=omega) only [push_cast,seval,↓Anz,↓Amz,↓List.map_cons,↓List.map_nil,e1]))))
      all_goals simp [OI,e1]

end Go.Proofs.YtahdlohpncjdbaaDoor
set_option linter.unusedSimpArgs false
set_option linter.unusedVariables false
set_option maxRecDepth 4000
set_option maxHeartbeats 4000000
namespace Go.Proofs.YtahdlohpncjdbaaDoor
open VwM Vw Go
set_option linter.unusedSectionVars false
variable [SentA]

/-- The memory after cells were carried in an order. -/
def stpK (mem to fr:List Int) (g:Nat → Nat):Nat → List Int
  | 0=>mem
  | k + 1=>(stpK mem to fr g k).set (to.getD (g k) 0).toNat ((stpK mem to fr g k).getD (fr.getD (g k) 0).toNat 0)
end Go.Proofs.YtahdlohpncjdbaaDoor
set_option linter.unusedSimpArgs false
set_option linter.unusedVariables false
set_option maxRecDepth 4000
set_option maxHeartbeats 4000000
namespace Go.Proofs.YtahdlohpncjdbaaDoor
open VwM Vw Go
set_option linter.unusedSectionVars false
variable [SentA]

/-- The way to copy. -/
def wayI (b:Int) (sh st:List Int) (b':Int) (sh' st':List Int):Int :=
  if (vV b sh st && vV b' sh' st' && decide (sh=sh'))=true then
    (if mtL (offs b sh st) (offs b' sh' st')=false then 0 else if (!mtL (offs b' sh' st') (offs b sh st) && decide (offs b sh st).Nodup)=true then 1 else 2) else -1
end Go.Proofs.YtahdlohpncjdbaaDoor
