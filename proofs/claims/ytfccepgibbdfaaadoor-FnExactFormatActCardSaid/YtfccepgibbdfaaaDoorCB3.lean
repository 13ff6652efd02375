/- Texts of this verifier. -/
import Derived.Test.YtfccepgibbdfaaaDoorCB2
import Derived.Test.YtfccepgibbdfaaaDoorCM1
import Derived.Shelf.Strconv.Itoa3
import Derived.Test.YtfccepgibbdfaaaDoorCW3
set_option maxHeartbeats 4000000
set_option linter.unusedSimpArgs false
set_option linter.unusedSectionVars false
set_option linter.unusedVariables false
set_option maxRecDepth 4000
namespace Go.Proofs.YtfccepgibbdfaaaDoor
open VwM Vw Go
variable [PowA]

class PowB [PowA]:Prop where
  has:(1,Go.Lib.pow10Tab.map (Value.int .u64)) ∈ PowA.rest
variable [PowB]


set_option maxHeartbeats 8000000 in
theorem numN_ok (k:Nat):∀ n:Int,n.toNat=k → (0 ≤ n ∧ n ≤ 9223372036854775807) → PCall Tryd.prog 28 [.int .i64 n] (fun r=>r=.str (itB n)):=by
  induction k using Nat.strongRecOn with
  | _ k ih =>
  intro n hk hn
  have ihN:∀ m:Int,(0 ≤ m ∧ m < n) → PCall Tryd.prog 28 [.int .i64 m] (fun r=>r=.str (itB m)):=fun m hm=>ih m.toNat (by omega) m rfl ⟨hm.1,by omega⟩
  have h1:(n < 0)=False:=eq_false (by omega)
  refine A1z l28_eq rfl ?_
  by_cases h10:n < 10
  · have hs:∀ (σ:List (Nat × AV)),lk σ 19=.int .i64 n → lk σ 21=.int .i64 (n + 1) → arun (mkS σ []) 0 22 (.sliceS (.const (.string { data:={ toList:=[48,49,50,51,52,53,54,55,56,57] } })) (some (.tmp 19)) (some (.tmp 21)))=some (.str (ByteArray.extract { data:={ toList:=[48,49,50,51,52,53,54,55,56,57] } } n.toNat (n + 1).toNat),none):=fun σ e1 e2 =>
      arun_sliceS2 rfl e1 e2 ⟨by omega,by show n + 1 ≤ 10;omega⟩
    (repeat' (first
 | (first|refine Acz ?_|refine Aaz ?_)
 | ((first|refine Aez ?_|refine Abz ?_|refine Akz ?_);simp (disch:=omega) only [push_cast,seval,l28r0,l28r1,l28r2,l28r3,l28r4,l28r5,l28r6,l28r7,h1,h10,decide_false])
 | (refine Adz ⟨.inr rfl,_,rfl,?_⟩;(try simp (disch:=omega) only [push_cast,seval,h1,h10,decide_false]))))
    rw [hs _ rfl rfl]
    simp (disch:=omega) only [push_cast,seval]
    (repeat' (first
 | (first|refine Acz ?_|refine Aaz ?_)
 | (refine Adz ⟨.inr rfl,_,rfl,?_⟩;(try simp (disch:=omega) only [push_cast,seval,h1,h10,decide_false]))))
    rw [itB_one hn.1 h10]
  · have q1:0 ≤ n.tdiv 10 ∧ n.tdiv 10 < n:=by rw [Int.tdiv_eq_ediv_of_nonneg hn.1];omega
    have q2:=tmod_bound hn.1 (n:=10) (by omega)
    have q3:0 ≤ n.tmod 10 ∧ n.tmod 10 < n:=by omega
    have z1:=Cjz (n:=n.tdiv 10) (by omega)
    have z2:=Cjz (n:=n.tmod 10) (by omega)
    have e1:=itB_more (n:=n) (by omega)
    (repeat' (first
 | (first|refine Acz ?_|refine Aaz ?_)
 | ((first|refine Aez ?_|refine Abz ?_|refine Akz ?_);simp (disch:=omega) only [push_cast,seval,l28r0,l28r1,l28r2,l28r3,l28r4,l28r5,l28r6,l28r7,h1,h10,decide_false])
 | ((first|refine Alz false ?_);simp (disch:=omega) only [push_cast,seval,h1,h10,decide_false])
 | ((first|((first|refine Ahz (Agz (ihN _ ?_)) ?_|refine Afz (Agz (ihN _ ?_)) ⟨_,_,rfl,rfl⟩ ?_);(exact sd);rintro _ _ ⟨rfl,rfl⟩))<;>(try simp (disch:=omega) only [push_cast,seval,h1,h10,decide_false]))
 | (refine Adz ⟨.inr rfl,_,rfl,?_⟩;(try simp (disch:=omega) only [push_cast,seval,h1,h10,decide_false]))))
    rw [e1]


theorem number_ok (n:Int) (hn:-9223372036854775807 ≤ n ∧ n ≤ 9223372036854775807):PCall Tryd.prog 28 [.int .i64 n] (fun r=>r=.str (itB n)):=by
  by_cases h:0 ≤ n
  · exact numN_ok n.toNat n rfl ⟨h,hn.2⟩
  have ihN:∀ m:Int,(0 ≤ m ∧ m ≤ 9223372036854775807) → PCall Tryd.prog 28 [.int .i64 m] (fun r=>r=.str (itB m)):=fun m hm=>numN_ok m.toNat m rfl hm
  have h1:(n < 0)=True:=eq_true (by omega)
  have h2:(n=-n)=False:=eq_false (by omega)
  have q1:0 ≤ -n ∧ -n ≤ 9223372036854775807:=by omega
  have z1:=Cjz (n:=0 - n) (by omega)
  have h45:({ data:={ toList:=[45] } }:ByteArray).size=1:=rfl
  refine A1z l28_eq rfl ?_
  have h1':n < 0:=by omega
  have h3:(n=0 - n)=False:=eq_false (by omega)
  clear h
  (repeat' (first
 | (first|refine Acz ?_|refine Aaz ?_)
 | ((first|refine Aez ?_|refine Abz ?_|refine Akz ?_);simp (disch:=omega) only [push_cast,seval,l28r0,l28r1,l28r2,l28r3,l28r4,l28r5,l28r6,l28r7,h1,h2,h3,decide_false,decide_true])
 | ((first|refine Alz false ?_);simp (disch:=omega) only [push_cast,seval,h1,h2,h3,decide_false,decide_true])
 | ((first|((first|refine Ahz (Agz (ihN _ ?_)) ?_|refine Afz (Agz (ihN _ ?_)) ⟨_,_,rfl,rfl⟩ ?_);(exact sd);rintro _ _ ⟨rfl,rfl⟩))<;>(try simp (disch:=omega) only [push_cast,seval,h1,h2,h3,decide_false,decide_true]))))
  all_goals ((refine Adz ⟨.inr rfl,_,rfl,?_⟩;try simp (disch:=omega) only [push_cast,seval]))
  rw [show (0:Int) - n=-n by omega,itB_neg h1']




set_option maxHeartbeats 8000000 in
theorem A6z (xs:List Int) (n:Nat) (hn:xs.length=n) (hb:n ≤ 1000000 ∧ ∀ x ∈ xs,-9223372036854775807 ≤ x ∧ x ≤ 9223372036854775807):PCall Tryd.prog 16 [.rows false (IL xs) n] (fun r=>r=.str (txB { data:={ toList:=[] } } xs)):=by
  subst hn
  obtain ⟨hb1,hb2⟩:=hb
  refine A1z l16_eq rfl ?_
  (repeat' (first
 | (first|refine Acz ?_|refine Aaz ?_)
 | ((first|refine Aez ?_);simp (disch:=omega) only [push_cast,seval,l16r0,l16r1,l16r2,l16r3,l16r4,l16r5,l16r6])
 | (refine Adz ⟨.inr rfl,_,rfl,?_⟩;(try simp (disch:=omega) only [push_cast,seval]))))
  refine Baz (fun i:Nat=>mkS [(0,.rows false (IL xs) xs.length),(3,.str (txB { data:={ toList:=[] } } (xs.take i))),(4,.int .i64 i)] []) (fun i=>i ≤ xs.length) (fun i=>xs.length - i) 0 (Nat.zero_le _) ?_ ?_
  · have e0:txB { data:={ toList:=[] } } (xs.take 0)={ data:={ toList:=[] } }:=rfl
    (refine Sub.of_lists ?_ ?_ ?_ ?_ ?_<;>simp [Vw.mkS,Vw.lk,Vw.hk,AV.inn,innL,Arz,Anz,Awz,-List.map_set,-List.getD_eq_getElem?_getD])
    all_goals rfl
  · intro i hi
    have hsz:=Dqz (xs.take i) { data:={ toList:=[] } } (fun x hx=>by have:=hb2 x (List.mem_of_mem_take hx);omega)
    have hsl:(xs.take i).length ≤ 1000000:=by rw [List.length_take];omega
    have he0:({ data:={ toList:=[] } }:ByteArray).size=0:=rfl
    by_cases hlt:i < xs.length
    · have hx:=hb2 _ (getD_mem hlt)
      have hzx:=Cjz (n:=xs.getD i 0) (by omega)
      have h32:({ data:={ toList:=[32] } }:ByteArray).size=1:=rfl
      have htk:=txB_take (w:={ data:={ toList:=[] } }) hlt
      generalize hT:txB { data:={ toList:=[] } } (xs.take i)=t at *
      have ht2:(t ++ ({ data:={ toList:=[32] } }:ByteArray)).size=t.size + 1:=by rw [ByteArray.size_append];rfl
      have hadd:=Dez t { data:={ toList:=[32] } } (by rw [h32];omega)
      (repeat' (first
 | (first|refine Acz ?_|refine Aaz ?_)
 | ((first|refine Aez ?_|refine Abz ?_|refine Akz ?_);simp (disch:=omega) only [push_cast,seval,l16r0,l16r1,l16r2,l16r3,l16r4,l16r5,l16r6,hlt,hadd])
 | ((first|refine Ajz (fun h=>?_) (fun h=>?_))<;>(try simp only [h])<;>(try simp only [bitvec_to_nat] at h)<;>(try simp only [h])<;>(first|(exfalso;omega)|(exfalso;simp_all;done)|(simp (disch:=omega) only [push_cast,seval,hlt,hadd])|skip))
 | ((first|refine Alz false ?_);simp (disch:=omega) only [push_cast,seval,hlt,hadd])
 | ((first|((first|refine Ahz (Agz (number_ok _ ?_)) ?_|refine Afz (Agz (number_ok _ ?_)) ⟨_,_,rfl,rfl⟩ ?_);(exact sd);rintro _ _ ⟨rfl,rfl⟩))<;>(try simp (disch:=omega) only [push_cast,seval,hlt,hadd]))
 | (refine Adz ⟨.inr rfl,_,rfl,?_⟩;(try simp (disch:=omega) only [push_cast,seval,hlt,hadd]))))
      refine ⟨i + 1,by omega,by omega,?_⟩
      rw [← htk]
      (refine Sub.of_lists ?_ ?_ ?_ ?_ ?_<;>simp [Vw.mkS,Vw.lk,Vw.hk,AV.inn,innL,Arz,Anz,Awz,-List.map_set,-List.getD_eq_getElem?_getD])
    · have e:i=xs.length:=by omega
      subst e
      rw [List.take_length]
      (repeat' (first
 | (first|refine Acz ?_|refine Aaz ?_)
 | ((first|refine Aez ?_|refine Abz ?_|refine Bbz ?_);simp (disch:=omega) only [push_cast,seval,l16r0,l16r1,l16r2,l16r3,l16r4,l16r5,l16r6])
 | ((first|refine Ajz (fun h=>?_) (fun h=>?_))<;>(try simp only [h])<;>(try simp only [bitvec_to_nat] at h)<;>(try simp only [h])<;>(first|(exfalso;omega)|(exfalso;simp_all;done)|(simp (disch:=omega) only [push_cast,seval])|skip))
 | (refine Adz ⟨.inr rfl,_,rfl,?_⟩;(try simp (disch:=omega) only [push_cast,seval]))))


def ren171:Go.Shelf.Ren:=(⟨fun n=>match n with|129=>67|171=>29|243=>35|246=>39|283=>49|284=>50|285=>51|286=>52|317=>66|318=>68|319=>69|320=>70|337=>81|338=>82|_=>0,fun n=>match n with|0=>0|2=>2|3=>3|4=>4|5=>5|9=>9|20=>20|37=>31|46=>105|51=>102|53=>82|171=>81|173=>85|212=>101|213=>103|232=>120|233=>121|_=>0,fun n=>match n with|17=>1|18=>2|19=>3|_=>0⟩:Go.Shelf.Ren)
theorem lays171:Go.Proofs.LaysM.n171 Tryd.prog ren171:={ mixed:=by kernel_rfl,f129:=by kernel_rfl,f171:=by kernel_rfl,f243:=by kernel_rfl,f246:=by kernel_rfl,f283:=by kernel_rfl,f284:=by kernel_rfl,f285:=by kernel_rfl,f286:=by kernel_rfl,f317:=by kernel_rfl,f318:=by kernel_rfl,f319:=by kernel_rfl,f320:=by kernel_rfl,f337:=by kernel_rfl,f338:=by kernel_rfl,t0:=by kernel_rfl,a0:=fun w=>by kernel_rfl,z0:=fun w=>by kernel_rfl,v0:=fun w=>by kernel_rfl,t2:=by kernel_rfl,a2:=fun w=>by kernel_rfl,z2:=fun w=>by kernel_rfl,v2:=fun w=>by kernel_rfl,t3:=by kernel_rfl,a3:=fun w=>by kernel_rfl,z3:=fun w=>by kernel_rfl,v3:=fun w=>by kernel_rfl,t4:=by kernel_rfl,a4:=fun w=>by kernel_rfl,z4:=fun w=>by kernel_rfl,v4:=fun w=>by kernel_rfl,t5:=by kernel_rfl,a5:=fun w=>by kernel_rfl,z5:=fun w=>by kernel_rfl,v5:=fun w=>by kernel_rfl,t9:=by kernel_rfl,a9:=fun w=>by kernel_rfl,z9:=fun w=>by kernel_rfl,v9:=fun w=>by kernel_rfl,t20:=by kernel_rfl,a20:=fun w=>by kernel_rfl,z20:=fun w=>by kernel_rfl,v20:=fun w=>by kernel_rfl,t37:=by kernel_rfl,a37:=fun w=>by kernel_rfl,z37:=fun w=>by kernel_rfl,v37:=fun w=>by kernel_rfl,t46:=by kernel_rfl,a46:=fun w=>by kernel_rfl,z46:=fun w=>by kernel_rfl,v46:=fun w=>by kernel_rfl,t51:=by kernel_rfl,a51:=fun w=>by kernel_rfl,z51:=fun w=>by kernel_rfl,v51:=fun w=>by kernel_rfl,t53:=by kernel_rfl,a53:=fun w=>by kernel_rfl,z53:=fun w=>by kernel_rfl,v53:=fun w=>by kernel_rfl,t171:=by kernel_rfl,a171:=fun w=>by kernel_rfl,z171:=fun w=>by kernel_rfl,v171:=fun w=>by kernel_rfl,t173:=by kernel_rfl,a173:=fun w=>by kernel_rfl,z173:=fun w=>by kernel_rfl,v173:=fun w=>by kernel_rfl,t212:=by kernel_rfl,a212:=fun w=>by kernel_rfl,z212:=fun w=>by kernel_rfl,v212:=fun w=>by kernel_rfl,t213:=by kernel_rfl,a213:=fun w=>by kernel_rfl,z213:=fun w=>by kernel_rfl,t232:=by kernel_rfl,a232:=fun w=>by kernel_rfl,z232:=fun w=>by kernel_rfl,v232:=fun w=>by kernel_rfl,t233:=by kernel_rfl,a233:=fun w=>by kernel_rfl,z233:=fun w=>by kernel_rfl,v233:=fun w=>by kernel_rfl,g17:=by kernel_rfl,g18:=by kernel_rfl,g19:=by kernel_rfl,i0:=by kernel_rfl,i2:=by kernel_rfl,i3:=by kernel_rfl,i4:=by kernel_rfl,i5:=by kernel_rfl,i9:=by kernel_rfl,i20:=by kernel_rfl,i37:=by kernel_rfl,i46:=by kernel_rfl,i51:=by kernel_rfl,i53:=by kernel_rfl,i171:=by kernel_rfl,i173:=by kernel_rfl,i212:=by kernel_rfl,i232:=by kernel_rfl,i233:=by kernel_rfl,m17:=by kernel_rfl,m18:=by kernel_rfl,m19:=by kernel_rfl }
theorem itoa_ok (n:Int) (hn:-9223372036854775808 ≤ n ∧ n ≤ 9223372036854775807):PCall Tryd.prog 29 [.int .i64 n] (fun r=>r=.str (itB n)):=by
  intro w B vs hB hG hl hd
  match vs,hl with
  | [v],_ =>
  simp only [DenP,Den,and_true] at hd
  subst hd
  have htab : Go.Lib.TabIs Tryd.prog w "internal/strconv.uint64pow10" .u64 Go.Lib.pow10Tab := by
    obtain ⟨⟨e,fz,hh⟩,_⟩:=hG (1,Go.Lib.pow10Tab.map (Value.int .u64)) (List.mem_cons_of_mem _ PowB.has)
    unfold Go.Lib.TabIs World.var?
    have hg : Tryd.prog.globalNamed "internal/strconv.uint64pow10" = some 1 := by kernel_rfl
    rw [hg]
    simp only [Option.bind_some,hh]
    rfl
  refine (Go.Proofs.Any.strconv_Itoa lays171 n hn.1 hn.2 w htab).mono fun e w'=>?_
  rintro ⟨rfl,k,os,rfl⟩
  refine ⟨.str (itB n),_,rfl,rfl,rfl,rfl,rfl,rfl,?_,fun j hj=>?_⟩
  · show w.heap.size ≤ (w.heap ++ os).size
    rw [Array.size_append];omega
  · show (w.heap ++ os)[j]?=_
    rw [Array.getElem?_append_left hj]

end Go.Proofs.YtfccepgibbdfaaaDoor
namespace Go.Proofs.YtfccepgibbdfaaaDoor
open VwM Vw Go
variable [PowA]

variable [PowB]
def wB (k:Int):ByteArray:=([⟨⟨[115,105,122,101]⟩⟩,⟨⟨[118,105,101,119]⟩⟩,⟨⟨[112,97,114,116]⟩⟩,⟨⟨[102,108,105,112]⟩⟩,⟨⟨[102,105,108,108]⟩⟩,⟨⟨[99,111,112,121]⟩⟩,⟨⟨[108,111,97,100]⟩⟩,⟨⟨[102,114,101,101]⟩⟩]:List ByteArray).getD k.toNat ⟨⟨[]⟩⟩
def fmB (k:Int) (y:List Int):ByteArray:=if vA k y=true then txB (wB k) y else ⟨⟨[]⟩⟩
def wL:List AV:=[.str ⟨⟨[115,105,122,101]⟩⟩,.str ⟨⟨[118,105,101,119]⟩⟩,.str ⟨⟨[112,97,114,116]⟩⟩,.str ⟨⟨[102,108,105,112]⟩⟩,.str ⟨⟨[102,105,108,108]⟩⟩,.str ⟨⟨[99,111,112,121]⟩⟩,.str ⟨⟨[108,111,97,100]⟩⟩,.str ⟨⟨[102,114,101,101]⟩⟩]
theorem wB_size {k:Int} (h:0 ≤ k ∧ k ≤ 7):(wB k).size=4:=by
  rcases k8 h with rfl|rfl|rfl|rfl|rfl|rfl|rfl|rfl<;>rfl
theorem vA_facts {k:Int} {y:List Int} (h:vA k y=true):(0 ≤ k ∧ k ≤ 7) ∧ (y.length:Int)=ndA k ∧ y.length ≤ 4 ∧ ∀ x ∈ y,-100 ≤ x ∧ x ≤ 100:=by
  unfold vA at h
  simp only [Bool.and_eq_true,decide_eq_true_eq] at h
  obtain ⟨⟨⟨h0,h7⟩,hl⟩,ha⟩:=h
  have:=ndA_in ⟨h0,h7⟩
  exact ⟨⟨h0,h7⟩,hl,by omega,Fwz.1 ha⟩
theorem emp_app (a:ByteArray):a ++ ({ data:={ toList:=[] } }:ByteArray)=a:=by
  apply ByteArray.ext
  rw [ByteArray.data_append]
  simp


theorem actWB_ok:BCall Tryd.prog 15 [] [] (fun r H'=>r=.own 0 8 1 ∧ H'=[wL]):=by
  refine Fvz (pins:=[]) (pin:=0) l15_eq rfl rfl rfl ?_
  (repeat' (first
 | (first|refine Acz ?_|refine Aaz ?_)
 | ((first|refine Aez ?_);simp (disch:=omega) only [push_cast,seval,l15r0,l15r1])))
  refine Adz ⟨.inr rfl,[16],[],_,by decide,rfl,?_⟩
  exact ⟨fun p hp=>(by cases hp),rfl,rfl⟩
theorem Bdz:PCall Tryd.prog 15 [] (fun r=>r=.rows true wL 8):=by
  refine (BCall.plain actWB_ok).mono ?_
  rintro r ⟨r0,H',⟨rfl,rfl⟩,rfl⟩
  rfl


set_option maxHeartbeats 8000000 in
theorem sFA_ok (k:Int) (y:List Int) (m:Nat) (hm:y.length=m) (hb:m ≤ 1099511627776):PCall Tryd.prog 6 [.agg [.int .i64 k,.rows false (IL y) m]] (fun r=>r=.str (fmB k y)):=by
  subst hm
  refine A1z l6_eq rfl ?_
  unfold fmB
  cases hv:vA k y with
  | false =>
    (repeat' (first
 | (first|refine Acz ?_|refine Aaz ?_)
 | ((first|refine Aez ?_|refine Abz ?_);simp (disch:=omega) only [push_cast,seval,l6r0,l6r1,l6r2,l6r3a,l6r3b,l6r3,hv])
 | ((first|refine Alz false ?_);simp (disch:=omega) only [push_cast,seval,hv])
 | ((first|((first|refine Ahz (Agz (Biz _ _ _ ?_ ?_)) ?_|refine Afz (Agz (Biz _ _ _ ?_ ?_)) ⟨_,_,rfl,rfl⟩ ?_);(iterate 2 (exact sd));rintro _ _ ⟨rfl,rfl⟩))<;>(try simp (disch:=omega) only [push_cast,seval,hv]))
 | (refine Adz ⟨.inr rfl,_,rfl,?_⟩;(try simp (disch:=omega) only [push_cast,seval,hv]))))
    all_goals (try rfl)
  | true =>
    obtain ⟨hk,hl,h4,hx⟩:=vA_facts hv
    have q:y.length ≤ 1000000 ∧ ∀ x ∈ y,-9223372036854775807 ≤ x ∧ x ≤ 9223372036854775807:=⟨by omega,fun x h=>by have:=hx x h;omega⟩
    have hw:=wB_size hk
    have hs:=Dqz y { data:={ toList:=[] } } fun x h=>by have:=hx x h;omega
    have e0:({ data:={ toList:=[] } }:ByteArray).size=0:=rfl
    have hadd:=fun (a:ByteArray) (h:a.size=4)=>Dez a (txB { data:={ toList:=[] } } y) (by omega)
    have hp:=txB_pre (wB k) y { data:={ toList:=[] } }
    rw [emp_app] at hp
    simp only [if_true]
    rw [← hp]
    rcases k8 hk with rfl|rfl|rfl|rfl|rfl|rfl|rfl|rfl
    · have ha:=hadd { data:={ toList:=[115,105,122,101] } } rfl
      clear hadd
      (repeat' (first
 | (first|refine Acz ?_|refine Aaz ?_)
 | ((first|refine Aez ?_|refine Aoz (mid:=l6r3a) (post:=l6r3b) mixed (by decide) ?_|refine Abz ?_|refine Akz ?_);simp (disch:=omega) only [push_cast,seval,l6r0,l6r1,l6r2,l6r3a,l6r3b,l6r3,hv,wL,ha])
 | ((first|refine Alz false ?_|refine Aqz false ?_);simp (disch:=omega) only [push_cast,seval,hv,wL,ha])
 | ((first|((first|refine Ahz (Agz (Biz _ _ _ ?_ ?_)) ?_|refine Afz (Agz (Biz _ _ _ ?_ ?_)) ⟨_,_,rfl,rfl⟩ ?_);(iterate 2 (exact sd));rintro _ _ ⟨rfl,rfl⟩)|((first|refine Ahz (Agz (Bdz)) ?_|refine Afz (Agz (Bdz)) ⟨_,_,rfl,rfl⟩ ?_);rintro _ _ ⟨rfl,rfl⟩)|((first|refine Ahz (Agz (A6z _ _ ?_ ?_)) ?_|refine Afz (Agz (A6z _ _ ?_ ?_)) ⟨_,_,rfl,rfl⟩ ?_);(iterate 2 (exact sd));rintro _ _ ⟨rfl,rfl⟩))<;>(try simp (disch:=omega) only [push_cast,seval,hv,wL,ha]))
 | (refine Adz ⟨.inr rfl,_,rfl,?_⟩;(try simp (disch:=omega) only [push_cast,seval,hv,wL,ha])))) 
      all_goals (try rfl)
    · have ha:=hadd { data:={ toList:=[118,105,101,119] } } rfl
      clear hadd
      (repeat' (first
 | (first|refine Acz ?_|refine Aaz ?_)
 | ((first|refine Aez ?_|refine Aoz (mid:=l6r3a) (post:=l6r3b) mixed (by decide) ?_|refine Abz ?_|refine Akz ?_);simp (disch:=omega) only [push_cast,seval,l6r0,l6r1,l6r2,l6r3a,l6r3b,l6r3,hv,wL,ha])
 | ((first|refine Alz false ?_|refine Aqz false ?_);simp (disch:=omega) only [push_cast,seval,hv,wL,ha])
 | ((first|((first|refine Ahz (Agz (Biz _ _ _ ?_ ?_)) ?_|refine Afz (Agz (Biz _ _ _ ?_ ?_)) ⟨_,_,rfl,rfl⟩ ?_);(iterate 2 (exact sd));rintro _ _ ⟨rfl,rfl⟩)|((first|refine Ahz (Agz (Bdz)) ?_|refine Afz (Agz (Bdz)) ⟨_,_,rfl,rfl⟩ ?_);rintro _ _ ⟨rfl,rfl⟩)|((first|refine Ahz (Agz (A6z _ _ ?_ ?_)) ?_|refine Afz (Agz (A6z _ _ ?_ ?_)) ⟨_,_,rfl,rfl⟩ ?_);(iterate 2 (exact sd));rintro _ _ ⟨rfl,rfl⟩))<;>(try simp (disch:=omega) only [push_cast,seval,hv,wL,ha]))
 | (refine Adz ⟨.inr rfl,_,rfl,?_⟩;(try simp (disch:=omega) only [push_cast,seval,hv,wL,ha])))) 
      all_goals (try rfl)
    · have ha:=hadd { data:={ toList:=[112,97,114,116] } } rfl
      clear hadd
      (repeat' (first
 | (first|refine Acz ?_|refine Aaz ?_)
 | ((first|refine Aez ?_|refine Aoz (mid:=l6r3a) (post:=l6r3b) mixed (by decide) ?_|refine Abz ?_|refine Akz ?_);simp (disch:=omega) only [push_cast,seval,l6r0,l6r1,l6r2,l6r3a,l6r3b,l6r3,hv,wL,ha])
 | ((first|refine Alz false ?_|refine Aqz false ?_);simp (disch:=omega) only [push_cast,seval,hv,wL,ha])
 | ((first|((first|refine Ahz (Agz (Biz _ _ _ ?_ ?_)) ?_|refine Afz (Agz (Biz _ _ _ ?_ ?_)) ⟨_,_,rfl,rfl⟩ ?_);(iterate 2 (exact sd));rintro _ _ ⟨rfl,rfl⟩)|((first|refine Ahz (Agz (Bdz)) ?_|refine Afz (Agz (Bdz)) ⟨_,_,rfl,rfl⟩ ?_);rintro _ _ ⟨rfl,rfl⟩)|((first|refine Ahz (Agz (A6z _ _ ?_ ?_)) ?_|refine Afz (Agz (A6z _ _ ?_ ?_)) ⟨_,_,rfl,rfl⟩ ?_);(iterate 2 (exact sd));rintro _ _ ⟨rfl,rfl⟩))<;>(try simp (disch:=omega) only [push_cast,seval,hv,wL,ha]))
 | (refine Adz ⟨.inr rfl,_,rfl,?_⟩;(try simp (disch:=omega) only [push_cast,seval,hv,wL,ha])))) 
      all_goals (try rfl)
    · have ha:=hadd { data:={ toList:=[102,108,105,112] } } rfl
      clear hadd
      (repeat' (first
 | (first|refine Acz ?_|refine Aaz ?_)
 | ((first|refine Aez ?_|refine Aoz (mid:=l6r3a) (post:=l6r3b) mixed (by decide) ?_|refine Abz ?_|refine Akz ?_);simp (disch:=omega) only [push_cast,seval,l6r0,l6r1,l6r2,l6r3a,l6r3b,l6r3,hv,wL,ha])
 | ((first|refine Alz false ?_|refine Aqz false ?_);simp (disch:=omega) only [push_cast,seval,hv,wL,ha])
 | ((first|((first|refine Ahz (Agz (Biz _ _ _ ?_ ?_)) ?_|refine Afz (Agz (Biz _ _ _ ?_ ?_)) ⟨_,_,rfl,rfl⟩ ?_);(iterate 2 (exact sd));rintro _ _ ⟨rfl,rfl⟩)|((first|refine Ahz (Agz (Bdz)) ?_|refine Afz (Agz (Bdz)) ⟨_,_,rfl,rfl⟩ ?_);rintro _ _ ⟨rfl,rfl⟩)|((first|refine Ahz (Agz (A6z _ _ ?_ ?_)) ?_|refine Afz (Agz (A6z _ _ ?_ ?_)) ⟨_,_,rfl,rfl⟩ ?_);(iterate 2 (exact sd));rintro _ _ ⟨rfl,rfl⟩))<;>(try simp (disch:=omega) only [push_cast,seval,hv,wL,ha]))
 | (refine Adz ⟨.inr rfl,_,rfl,?_⟩;(try simp (disch:=omega) only [push_cast,seval,hv,wL,ha])))) 
      all_goals (try rfl)
    · have ha:=hadd { data:={ toList:=[102,105,108,108] } } rfl
      clear hadd
      (repeat' (first
 | (first|refine Acz ?_|refine Aaz ?_)
 | ((first|refine Aez ?_|refine Aoz (mid:=l6r3a) (post:=l6r3b) mixed (by decide) ?_|refine Abz ?_|refine Akz ?_);simp (disch:=omega) only [push_cast,seval,l6r0,l6r1,l6r2,l6r3a,l6r3b,l6r3,hv,wL,ha])
 | ((first|refine Alz false ?_|refine Aqz false ?_);simp (disch:=omega) only [push_cast,seval,hv,wL,ha])
 | ((first|((first|refine Ahz (Agz (Biz _ _ _ ?_ ?_)) ?_|refine Afz (Agz (Biz _ _ _ ?_ ?_)) ⟨_,_,rfl,rfl⟩ ?_);(iterate 2 (exact sd));rintro _ _ ⟨rfl,rfl⟩)|((first|refine Ahz (Agz (Bdz)) ?_|refine Afz (Agz (Bdz)) ⟨_,_,rfl,rfl⟩ ?_);rintro _ _ ⟨rfl,rfl⟩)|((first|refine Ahz (Agz (A6z _ _ ?_ ?_)) ?_|refine Afz (Agz (A6z _ _ ?_ ?_)) ⟨_,_,rfl,rfl⟩ ?_);(iterate 2 (exact sd));rintro _ _ ⟨rfl,rfl⟩))<;>(try simp (disch:=omega) only [push_cast,seval,hv,wL,ha]))
 | (refine Adz ⟨.inr rfl,_,rfl,?_⟩;(try simp (disch:=omega) only [push_cast,seval,hv,wL,ha])))) 
      all_goals (try rfl)
    · have ha:=hadd { data:={ toList:=[99,111,112,121] } } rfl
      clear hadd
      (repeat' (first
 | (first|refine Acz ?_|refine Aaz ?_)
 | ((first|refine Aez ?_|refine Aoz (mid:=l6r3a) (post:=l6r3b) mixed (by decide) ?_|refine Abz ?_|refine Akz ?_);simp (disch:=omega) only [push_cast,seval,l6r0,l6r1,l6r2,l6r3a,l6r3b,l6r3,hv,wL,ha])
 | ((first|refine Alz false ?_|refine Aqz false ?_);simp (disch:=omega) only [push_cast,seval,hv,wL,ha])
 | ((first|((first|refine Ahz (Agz (Biz _ _ _ ?_ ?_)) ?_|refine Afz (Agz (Biz _ _ _ ?_ ?_)) ⟨_,_,rfl,rfl⟩ ?_);(iterate 2 (exact sd));rintro _ _ ⟨rfl,rfl⟩)|((first|refine Ahz (Agz (Bdz)) ?_|refine Afz (Agz (Bdz)) ⟨_,_,rfl,rfl⟩ ?_);rintro _ _ ⟨rfl,rfl⟩)|((first|refine Ahz (Agz (A6z _ _ ?_ ?_)) ?_|refine Afz (Agz (A6z _ _ ?_ ?_)) ⟨_,_,rfl,rfl⟩ ?_);(iterate 2 (exact sd));rintro _ _ ⟨rfl,rfl⟩))<;>(try simp (disch:=omega) only [push_cast,seval,hv,wL,ha]))
 | (refine Adz ⟨.inr rfl,_,rfl,?_⟩;(try simp (disch:=omega) only [push_cast,seval,hv,wL,ha])))) 
      all_goals (try rfl)
    · have ha:=hadd { data:={ toList:=[108,111,97,100] } } rfl
      clear hadd
      (repeat' (first
 | (first|refine Acz ?_|refine Aaz ?_)
 | ((first|refine Aez ?_|refine Aoz (mid:=l6r3a) (post:=l6r3b) mixed (by decide) ?_|refine Abz ?_|refine Akz ?_);simp (disch:=omega) only [push_cast,seval,l6r0,l6r1,l6r2,l6r3a,l6r3b,l6r3,hv,wL,ha])
 | ((first|refine Alz false ?_|refine Aqz false ?_);simp (disch:=omega) only [push_cast,seval,hv,wL,ha])
 | ((first|((first|refine Ahz (Agz (Biz _ _ _ ?_ ?_)) ?_|refine Afz (Agz (Biz _ _ _ ?_ ?_)) ⟨_,_,rfl,rfl⟩ ?_);(iterate 2 (exact sd));rintro _ _ ⟨rfl,rfl⟩)|((first|refine Ahz (Agz (Bdz)) ?_|refine Afz (Agz (Bdz)) ⟨_,_,rfl,rfl⟩ ?_);rintro _ _ ⟨rfl,rfl⟩)|((first|refine Ahz (Agz (A6z _ _ ?_ ?_)) ?_|refine Afz (Agz (A6z _ _ ?_ ?_)) ⟨_,_,rfl,rfl⟩ ?_);(iterate 2 (exact sd));rintro _ _ ⟨rfl,rfl⟩))<;>(try simp (disch:=omega) only [push_cast,seval,hv,wL,ha]))
 | (refine Adz ⟨.inr rfl,_,rfl,?_⟩;(try simp (disch:=omega) only [push_cast,seval,hv,wL,ha])))) 
      all_goals (try rfl)
    · have ha:=hadd { data:={ toList:=[102,114,101,101] } } rfl
      clear hadd
      (repeat' (first
 | (first|refine Acz ?_|refine Aaz ?_)
 | ((first|refine Aez ?_|refine Aoz (mid:=l6r3a) (post:=l6r3b) mixed (by decide) ?_|refine Abz ?_|refine Akz ?_);simp (disch:=omega) only [push_cast,seval,l6r0,l6r1,l6r2,l6r3a,l6r3b,l6r3,hv,wL,ha])
 | ((first|refine Alz false ?_|refine Aqz false ?_);simp (disch:=omega) only [push_cast,seval,hv,wL,ha])
 | ((first|((first|refine Ahz (Agz (Biz _ _ _ ?_ ?_)) ?_|refine Afz (Agz (Biz _ _ _ ?_ ?_)) ⟨_,_,rfl,rfl⟩ ?_);(iterate 2 (exact sd));rintro _ _ ⟨rfl,rfl⟩)|((first|refine Ahz (Agz (Bdz)) ?_|refine Afz (Agz (Bdz)) ⟨_,_,rfl,rfl⟩ ?_);rintro _ _ ⟨rfl,rfl⟩)|((first|refine Ahz (Agz (A6z _ _ ?_ ?_)) ?_|refine Afz (Agz (A6z _ _ ?_ ?_)) ⟨_,_,rfl,rfl⟩ ?_);(iterate 2 (exact sd));rintro _ _ ⟨rfl,rfl⟩))<;>(try simp (disch:=omega) only [push_cast,seval,hv,wL,ha]))
 | (refine Adz ⟨.inr rfl,_,rfl,?_⟩;(try simp (disch:=omega) only [push_cast,seval,hv,wL,ha])))) 
      all_goals (try rfl)


set_option maxHeartbeats 8000000 in
theorem A0z (w:ByteArray) (xs:List Int) (n:Nat) (hn:xs.length=n) (hb:(n ≤ 1000000 ∧ w.size ≤ 1000) ∧ ∀ x ∈ xs,-9223372036854775807 ≤ x ∧ x ≤ 9223372036854775807):PCall Tryd.prog 18 [.str w,.rows false (IL xs) n] (fun r=>r=.str (txB w xs)):=by
  subst hn
  obtain ⟨⟨hb1,hb3⟩,hb2⟩:=hb
  refine A1z l18_eq rfl ?_
  (repeat' (first
 | (first|refine Acz ?_|refine Aaz ?_)
 | ((first|refine Aez ?_);simp (disch:=omega) only [push_cast,seval,l18r0,l18r1,l18r2,l18r3,l18r4,l18r5,l18r6])
 | (refine Adz ⟨.inr rfl,_,rfl,?_⟩;(try simp (disch:=omega) only [push_cast,seval]))))
  refine Baz (fun i:Nat=>mkS [(0,.str (txB w (xs.take i))),(7,.rows false (IL xs) xs.length),(8,.int .i64 xs.length),(9,.int .i64 i)] []) (fun i=>i ≤ xs.length) (fun i=>xs.length - i) 0 (Nat.zero_le _) ?_ ?_
  · (refine Sub.of_lists ?_ ?_ ?_ ?_ ?_<;>simp [Vw.mkS,Vw.lk,Vw.hk,AV.inn,innL,Arz,Anz,Awz,-List.map_set,-List.getD_eq_getElem?_getD])
    all_goals rfl
  · intro i hi
    have hsz:=Dqz (xs.take i) w (fun x hx=>by have:=hb2 x (List.mem_of_mem_take hx);omega)
    have hsl:(xs.take i).length ≤ 1000000:=by rw [List.length_take];omega
    by_cases hlt:i < xs.length
    · have hx:=hb2 _ (getD_mem hlt)
      have hx':-9223372036854775808 ≤ xs.getD i 0 ∧ xs.getD i 0 ≤ 9223372036854775807:=by omega
      have hzx:=Cjz (n:=xs.getD i 0) (by omega)
      have h32:({ data:={ toList:=[32] } }:ByteArray).size=1:=rfl
      have htk:=txB_take (w:=w) hlt
      rw [ByteArray.append_assoc] at htk
      generalize hT:txB w (xs.take i)=t at *
      have ht2:(({ data:={ toList:=[32] } }:ByteArray) ++ itB (xs.getD i 0)).size=1 + (itB (xs.getD i 0)).size:=by rw [ByteArray.size_append];rfl
      have hadd:=Dez { data:={ toList:=[32] } } (itB (xs.getD i 0)) (by rw [h32];omega)
      (repeat' (first
 | (first|refine Acz ?_|refine Aaz ?_)
 | ((first|refine Aez ?_|refine Abz ?_|refine Akz ?_);simp (disch:=omega) only [push_cast,seval,l18r0,l18r1,l18r2,l18r3,l18r4,l18r5,l18r6,hlt,hadd])
 | ((first|refine Ajz (fun h=>?_) (fun h=>?_))<;>(try simp only [h])<;>(try simp only [bitvec_to_nat] at h)<;>(try simp only [h])<;>(first|(exfalso;omega)|(exfalso;simp_all;done)|(simp (disch:=omega) only [push_cast,seval,hlt,hadd])|skip))
 | ((first|refine Alz false ?_);simp (disch:=omega) only [push_cast,seval,hlt,hadd])
 | ((first|((first|refine Ahz (Agz (itoa_ok _ ?_)) ?_|refine Afz (Agz (itoa_ok _ ?_)) ⟨_,_,rfl,rfl⟩ ?_);(exact sd);rintro _ _ ⟨rfl,rfl⟩))<;>(try simp (disch:=omega) only [push_cast,seval,hlt,hadd]))
 | (refine Adz ⟨.inr rfl,_,rfl,?_⟩;(try simp (disch:=omega) only [push_cast,seval,hlt,hadd]))))
      refine ⟨i + 1,by omega,by omega,?_⟩
      rw [← htk]
      (refine Sub.of_lists ?_ ?_ ?_ ?_ ?_<;>simp [Vw.mkS,Vw.lk,Vw.hk,AV.inn,innL,Arz,Anz,Awz,-List.map_set,-List.getD_eq_getElem?_getD])
    · have e:i=xs.length:=by omega
      subst e
      rw [List.take_length]
      (repeat' (first
 | (first|refine Acz ?_|refine Aaz ?_)
 | ((first|refine Aez ?_|refine Abz ?_|refine Bbz ?_);simp (disch:=omega) only [push_cast,seval,l18r0,l18r1,l18r2,l18r3,l18r4,l18r5,l18r6])
 | ((first|refine Ajz (fun h=>?_) (fun h=>?_))<;>(try simp only [h])<;>(try simp only [bitvec_to_nat] at h)<;>(try simp only [h])<;>(first|(exfalso;omega)|(exfalso;simp_all;done)|(simp (disch:=omega) only [push_cast,seval])|skip))
 | (refine Adz ⟨.inr rfl,_,rfl,?_⟩;(try simp (disch:=omega) only [push_cast,seval]))))


set_option maxHeartbeats 8000000 in
theorem iFA_ok (k:Int) (y:List Int) (m:Nat) (hm:y.length=m) (hb:m ≤ 1099511627776):PCall Tryd.prog 8 [.agg [.int .i64 k,.rows false (IL y) m]] (fun r=>r=.str (fmB k y)):=by
  subst hm
  refine A1z l8_eq rfl ?_
  unfold fmB
  cases hv:vA k y with
  | false =>
    (repeat' (first
 | (first|refine Acz ?_|refine Aaz ?_)
 | ((first|refine Aez ?_|refine Abz ?_);simp (disch:=omega) only [push_cast,seval,l8r0,l8r1,l8r2,l8r3a,l8r3b,l8r3,hv])
 | ((first|refine Alz false ?_);simp (disch:=omega) only [push_cast,seval,hv])
 | ((first|((first|refine Ahz (Agz (Bjz _ _ _ ?_ ?_)) ?_|refine Afz (Agz (Bjz _ _ _ ?_ ?_)) ⟨_,_,rfl,rfl⟩ ?_);(iterate 2 (exact sd));rintro _ _ ⟨rfl,rfl⟩))<;>(try simp (disch:=omega) only [push_cast,seval,hv]))
 | (refine Adz ⟨.inr rfl,_,rfl,?_⟩;(try simp (disch:=omega) only [push_cast,seval,hv]))))
    all_goals (try rfl)
  | true =>
    obtain ⟨hk,hl,h4,hx⟩:=vA_facts hv
    have q:(y.length ≤ 1000000 ∧ (wB k).size ≤ 1000) ∧ ∀ x ∈ y,-9223372036854775807 ≤ x ∧ x ≤ 9223372036854775807:=⟨⟨by omega,by rw [wB_size hk];omega⟩,fun x h=>by have:=hx x h;omega⟩
    rcases k8 hk with rfl|rfl|rfl|rfl|rfl|rfl|rfl|rfl
    · (repeat' (first
 | (first|refine Acz ?_|refine Aaz ?_)
 | ((first|refine Aez ?_|refine Aoz (mid:=l8r3a) (post:=l8r3b) mixed (by decide) ?_|refine Abz ?_|refine Akz ?_);simp (disch:=omega) only [push_cast,seval,l8r0,l8r1,l8r2,l8r3a,l8r3b,l8r3,hv,Apz])
 | ((first|refine Alz false ?_);simp (disch:=omega) only [push_cast,seval,hv,Apz])
 | ((first|((first|refine Ahz (Agz (Bjz _ _ _ ?_ ?_)) ?_|refine Afz (Agz (Bjz _ _ _ ?_ ?_)) ⟨_,_,rfl,rfl⟩ ?_);(iterate 2 (exact sd));rintro _ _ ⟨rfl,rfl⟩)|((first|refine Ahz (Agz (A0z _ _ _ ?_ ?_)) ?_|refine Afz (Agz (A0z _ _ _ ?_ ?_)) ⟨_,_,rfl,rfl⟩ ?_);(iterate 2 (exact sd));rintro _ _ ⟨rfl,rfl⟩))<;>(try simp (disch:=omega) only [push_cast,seval,hv,Apz]))
 | (refine Adz ⟨.inr rfl,_,rfl,?_⟩;(try simp (disch:=omega) only [push_cast,seval,hv,Apz]))))
      all_goals (try rfl)
    · (repeat' (first
 | (first|refine Acz ?_|refine Aaz ?_)
 | ((first|refine Aez ?_|refine Aoz (mid:=l8r3a) (post:=l8r3b) mixed (by decide) ?_|refine Abz ?_|refine Akz ?_);simp (disch:=omega) only [push_cast,seval,l8r0,l8r1,l8r2,l8r3a,l8r3b,l8r3,hv,Apz])
 | ((first|refine Alz false ?_);simp (disch:=omega) only [push_cast,seval,hv,Apz])
 | ((first|((first|refine Ahz (Agz (Bjz _ _ _ ?_ ?_)) ?_|refine Afz (Agz (Bjz _ _ _ ?_ ?_)) ⟨_,_,rfl,rfl⟩ ?_);(iterate 2 (exact sd));rintro _ _ ⟨rfl,rfl⟩)|((first|refine Ahz (Agz (A0z _ _ _ ?_ ?_)) ?_|refine Afz (Agz (A0z _ _ _ ?_ ?_)) ⟨_,_,rfl,rfl⟩ ?_);(iterate 2 (exact sd));rintro _ _ ⟨rfl,rfl⟩))<;>(try simp (disch:=omega) only [push_cast,seval,hv,Apz]))
 | (refine Adz ⟨.inr rfl,_,rfl,?_⟩;(try simp (disch:=omega) only [push_cast,seval,hv,Apz]))))
      all_goals (try rfl)
    · (repeat' (first
 | (first|refine Acz ?_|refine Aaz ?_)
 | ((first|refine Aez ?_|refine Aoz (mid:=l8r3a) (post:=l8r3b) mixed (by decide) ?_|refine Abz ?_|refine Akz ?_);simp (disch:=omega) only [push_cast,seval,l8r0,l8r1,l8r2,l8r3a,l8r3b,l8r3,hv,Apz])
 | ((first|refine Alz false ?_);simp (disch:=omega) only [push_cast,seval,hv,Apz])
 | ((first|((first|refine Ahz (Agz (Bjz _ _ _ ?_ ?_)) ?_|refine Afz (Agz (Bjz _ _ _ ?_ ?_)) ⟨_,_,rfl,rfl⟩ ?_);(iterate 2 (exact sd));rintro _ _ ⟨rfl,rfl⟩)|((first|refine Ahz (Agz (A0z _ _ _ ?_ ?_)) ?_|refine Afz (Agz (A0z _ _ _ ?_ ?_)) ⟨_,_,rfl,rfl⟩ ?_);(iterate 2 (exact sd));rintro _ _ ⟨rfl,rfl⟩))<;>(try simp (disch:=omega) only [push_cast,seval,hv,Apz]))
 | (refine Adz ⟨.inr rfl,_,rfl,?_⟩;(try simp (disch:=omega) only [push_cast,seval,hv,Apz]))))
      all_goals (try rfl)
    · (repeat' (first
 | (first|refine Acz ?_|refine Aaz ?_)
 | ((first|refine Aez ?_|refine Aoz (mid:=l8r3a) (post:=l8r3b) mixed (by decide) ?_|refine Abz ?_|refine Akz ?_);simp (disch:=omega) only [push_cast,seval,l8r0,l8r1,l8r2,l8r3a,l8r3b,l8r3,hv,Apz])
 | ((first|refine Alz false ?_);simp (disch:=omega) only [push_cast,seval,hv,Apz])
 | ((first|((first|refine Ahz (Agz (Bjz _ _ _ ?_ ?_)) ?_|refine Afz (Agz (Bjz _ _ _ ?_ ?_)) ⟨_,_,rfl,rfl⟩ ?_);(iterate 2 (exact sd));rintro _ _ ⟨rfl,rfl⟩)|((first|refine Ahz (Agz (A0z _ _ _ ?_ ?_)) ?_|refine Afz (Agz (A0z _ _ _ ?_ ?_)) ⟨_,_,rfl,rfl⟩ ?_);(iterate 2 (exact sd));rintro _ _ ⟨rfl,rfl⟩))<;>(try simp (disch:=omega) only [push_cast,seval,hv,Apz]))
 | (refine Adz ⟨.inr rfl,_,rfl,?_⟩;(try simp (disch:=omega) only [push_cast,seval,hv,Apz]))))
      all_goals (try rfl)
    · (repeat' (first
 | (first|refine Acz ?_|refine Aaz ?_)
 | ((first|refine Aez ?_|refine Aoz (mid:=l8r3a) (post:=l8r3b) mixed (by decide) ?_|refine Abz ?_|refine Akz ?_);simp (disch:=omega) only [push_cast,seval,l8r0,l8r1,l8r2,l8r3a,l8r3b,l8r3,hv,Apz])
 | ((first|refine Alz false ?_);simp (disch:=omega) only [push_cast,seval,hv,Apz])
 | ((first|((first|refine Ahz (Agz (Bjz _ _ _ ?_ ?_)) ?_|refine Afz (Agz (Bjz _ _ _ ?_ ?_)) ⟨_,_,rfl,rfl⟩ ?_);(iterate 2 (exact sd));rintro _ _ ⟨rfl,rfl⟩)|((first|refine Ahz (Agz (A0z _ _ _ ?_ ?_)) ?_|refine Afz (Agz (A0z _ _ _ ?_ ?_)) ⟨_,_,rfl,rfl⟩ ?_);(iterate 2 (exact sd));rintro _ _ ⟨rfl,rfl⟩))<;>(try simp (disch:=omega) only [push_cast,seval,hv,Apz]))
 | (refine Adz ⟨.inr rfl,_,rfl,?_⟩;(try simp (disch:=omega) only [push_cast,seval,hv,Apz]))))
      all_goals (try rfl)
    · (repeat' (first
 | (first|refine Acz ?_|refine Aaz ?_)
 | ((first|refine Aez ?_|refine Aoz (mid:=l8r3a) (post:=l8r3b) mixed (by decide) ?_|refine Abz ?_|refine Akz ?_);simp (disch:=omega) only [push_cast,seval,l8r0,l8r1,l8r2,l8r3a,l8r3b,l8r3,hv,Apz])
 | ((first|refine Alz false ?_);simp (disch:=omega) only [push_cast,seval,hv,Apz])
 | ((first|((first|refine Ahz (Agz (Bjz _ _ _ ?_ ?_)) ?_|refine Afz (Agz (Bjz _ _ _ ?_ ?_)) ⟨_,_,rfl,rfl⟩ ?_);(iterate 2 (exact sd));rintro _ _ ⟨rfl,rfl⟩)|((first|refine Ahz (Agz (A0z _ _ _ ?_ ?_)) ?_|refine Afz (Agz (A0z _ _ _ ?_ ?_)) ⟨_,_,rfl,rfl⟩ ?_);(iterate 2 (exact sd));rintro _ _ ⟨rfl,rfl⟩))<;>(try simp (disch:=omega) only [push_cast,seval,hv,Apz]))
 | (refine Adz ⟨.inr rfl,_,rfl,?_⟩;(try simp (disch:=omega) only [push_cast,seval,hv,Apz]))))
      all_goals (try rfl)
    · (repeat' (first
 | (first|refine Acz ?_|refine Aaz ?_)
 | ((first|refine Aez ?_|refine Aoz (mid:=l8r3a) (post:=l8r3b) mixed (by decide) ?_|refine Abz ?_|refine Akz ?_);simp (disch:=omega) only [push_cast,seval,l8r0,l8r1,l8r2,l8r3a,l8r3b,l8r3,hv,Apz])
 | ((first|refine Alz false ?_);simp (disch:=omega) only [push_cast,seval,hv,Apz])
 | ((first|((first|refine Ahz (Agz (Bjz _ _ _ ?_ ?_)) ?_|refine Afz (Agz (Bjz _ _ _ ?_ ?_)) ⟨_,_,rfl,rfl⟩ ?_);(iterate 2 (exact sd));rintro _ _ ⟨rfl,rfl⟩)|((first|refine Ahz (Agz (A0z _ _ _ ?_ ?_)) ?_|refine Afz (Agz (A0z _ _ _ ?_ ?_)) ⟨_,_,rfl,rfl⟩ ?_);(iterate 2 (exact sd));rintro _ _ ⟨rfl,rfl⟩))<;>(try simp (disch:=omega) only [push_cast,seval,hv,Apz]))
 | (refine Adz ⟨.inr rfl,_,rfl,?_⟩;(try simp (disch:=omega) only [push_cast,seval,hv,Apz]))))
      all_goals (try rfl)
    · (repeat' (first
 | (first|refine Acz ?_|refine Aaz ?_)
 | ((first|refine Aez ?_|refine Aoz (mid:=l8r3a) (post:=l8r3b) mixed (by decide) ?_|refine Abz ?_|refine Akz ?_);simp (disch:=omega) only [push_cast,seval,l8r0,l8r1,l8r2,l8r3a,l8r3b,l8r3,hv,Apz])
 | ((first|refine Alz false ?_);simp (disch:=omega) only [push_cast,seval,hv,Apz])
 | ((first|((first|refine Ahz (Agz (Bjz _ _ _ ?_ ?_)) ?_|refine Afz (Agz (Bjz _ _ _ ?_ ?_)) ⟨_,_,rfl,rfl⟩ ?_);(iterate 2 (exact sd));rintro _ _ ⟨rfl,rfl⟩)|((first|refine Ahz (Agz (A0z _ _ _ ?_ ?_)) ?_|refine Afz (Agz (A0z _ _ _ ?_ ?_)) ⟨_,_,rfl,rfl⟩ ?_);(iterate 2 (exact sd));rintro _ _ ⟨rfl,rfl⟩))<;>(try simp (disch:=omega) only [push_cast,seval,hv,Apz]))
 | (refine Adz ⟨.inr rfl,_,rfl,?_⟩;(try simp (disch:=omega) only [push_cast,seval,hv,Apz]))))
      all_goals (try rfl)


set_option maxHeartbeats 8000000 in
theorem lFA_ok (k:Int) (x:List Int) (hn:x.length ≤ 9223372036854775807):PCall Tryd.prog 3 [.agg [.int .i64 k,.rows false (IL x) x.length]] (fun r=>r=.bool true):=by
  refine A1z l3_eq rfl ?_
  by_cases h:1048576 - (x.length:Int) < 0
  · (repeat' (first
 | (first|refine Acz ?_|refine Aaz ?_)
 | ((first|refine Aez ?_|refine Abz ?_);simp (disch:=omega) only [push_cast,seval,l3r0,l3r1,l3r2,l3r3,l3r4,l3r5,l3r6,l3r7,l3r8,l3r9,l3r10a,l3r10b,l3r10,l3r11,l3r12,h])
 | ((first|refine Alz false ?_);simp (disch:=omega) only [push_cast,seval,h])
 | ((first|((first|refine Ahz (Agz (Drz _ _ _ _ ?_ ?_)) ?_|refine Afz (Agz (Drz _ _ _ _ ?_ ?_)) ⟨_,_,rfl,rfl⟩ ?_);(iterate 2 (exact sd));rintro _ _ ⟨rfl,rfl⟩))<;>(try simp (disch:=omega) only [push_cast,seval,h]))
 | (refine Adz ⟨.inr rfl,_,rfl,?_⟩;(try simp (disch:=omega) only [push_cast,seval,h]))))
  · have h':x.length ≤ 1048576:=by omega
    (repeat' (first
 | (first|refine Acz ?_|refine Aaz ?_)
 | ((first|refine Aez ?_|refine Aoz (mid:=l3r10a) (post:=l3r10b) mixed (by decide) ?_|refine Abz ?_|refine Akz ?_);simp (disch:=omega) only [push_cast,seval,l3r0,l3r1,l3r2,l3r3,l3r4,l3r5,l3r6,l3r7,l3r8,l3r9,l3r10a,l3r10b,l3r10,l3r11,l3r12,h,beq_self_eq_true])
 | ((first|refine Alz false ?_|refine Aqz false ?_);simp (disch:=omega) only [push_cast,seval,h,beq_self_eq_true])
 | ((first|((first|refine Ahz (Agz (Drz _ _ _ _ ?_ ?_)) ?_|refine Afz (Agz (Drz _ _ _ _ ?_ ?_)) ⟨_,_,rfl,rfl⟩ ?_);(iterate 2 (exact sd));rintro _ _ ⟨rfl,rfl⟩)|((first|refine Ahz (Agz (toActP_ok _ _ _ ?_ ?_)) ?_|refine Afz (Agz (toActP_ok _ _ _ ?_ ?_)) ⟨_,_,rfl,rfl⟩ ?_);(iterate 2 (exact sd));rintro _ _ ⟨rfl,rfl⟩)|((first|refine Ahz (Agz (sFA_ok _ _ _ ?_ ?_)) ?_|refine Afz (Agz (sFA_ok _ _ _ ?_ ?_)) ⟨_,_,rfl,rfl⟩ ?_);(iterate 2 (exact sd));rintro _ _ ⟨rfl,rfl⟩)|((first|refine Ahz (Agz (iFA_ok _ _ _ ?_ ?_)) ?_|refine Afz (Agz (iFA_ok _ _ _ ?_ ?_)) ⟨_,_,rfl,rfl⟩ ?_);(iterate 2 (exact sd));rintro _ _ ⟨rfl,rfl⟩)|((first|refine Ahz (Agz (eqAct_ok _ _ _ _ _ _ ?_ ?_ ?_)) ?_|refine Afz (Agz (eqAct_ok _ _ _ _ _ _ ?_ ?_ ?_)) ⟨_,_,rfl,rfl⟩ ?_);(iterate 3 (exact sd));rintro _ _ ⟨rfl,rfl⟩))<;>(try simp (disch:=omega) only [push_cast,seval,h,beq_self_eq_true]))
 | (refine Adz ⟨.inr rfl,_,rfl,?_⟩;(try simp (disch:=omega) only [push_cast,seval,h,beq_self_eq_true]))))
    all_goals (try simp)

end Go.Proofs.YtfccepgibbdfaaaDoor
