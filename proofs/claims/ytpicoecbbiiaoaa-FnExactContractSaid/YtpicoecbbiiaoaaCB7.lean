/- Texts of this verifier. -/
import Derived.Test.YtpicoecbbiiaoaaCB6
import Derived.Test.YtpicoecbbiiaoaaCM1
import Derived.Test.YtpicoecbbiiaoaaChecked
import Derived.Test.YtpicoecbbiiaoaaCW3
import Derived.RangeFuncBox
import Derived.RangeFuncLeaves
import Derived.Shelf.Abstract
import Derived.WalkKit
import Derived.OwnWalkIn
import Derived.TacticsInMore
import Derived.LoopNIn
import Derived.LoopIn
set_option linter.unusedSimpArgs false
set_option linter.unusedVariables false
set_option maxRecDepth 4000
set_option maxHeartbeats 4000000
namespace Go.Proofs.Ytpicoecbbiiaoaa
open VwM Vw Go

attribute [local go_sem] Oper.semAt_some
open Go.RowKit Go.Shelf in
set_option maxRecDepth 100000 in
set_option maxHeartbeats 4000000 in
/-- The iterator of slices.Backward: the elements from the last to the first,each with its index. -/
theorem bwd1_in {α:Type} (ei enc:α → Int) (l Bs b off len cap:Nat) (p:Option Addr) (xs:List α) (hx:xs.length=len) (hp:0 < len → p=some ⟨b,off,none⟩) (hreach:len ≤ 1099511627776) (J Jx:List α → World → Prop)
    (hY:∀ pre x W,J pre W → pre.length < len → YieldAt Fence.wide 1 Try.prog l #[.int .i64 (ei x),.int .i64 (enc x)] W fun e W' =>
      (e=.returned (.bool true) ∧ J (pre ++ [x]) W' ∧ (W'.heap[Bs]?=W.heap[Bs]? ∧ W'.heap[b]?=W.heap[b]?)) ∨ (e=.returned (.bool false) ∧ Jx (pre ++ [x]) W'))
    (W:World) (hBs:W.cell? ⟨Bs,0,none⟩=some (.slice p len cap)) (hi:∀ j (h:j < xs.length),ei xs[j]=(len:Int) - 1 - j) (hc:∀ j (h:j < xs.length),W.cell? ⟨b,off + (len - 1 - j),none⟩=some (.int .i64 (enc xs[j]))) (h0:J [] W) :
    CallsIn Fence.wide 2 Try.prog 106 #[.func (.yield l) #[] #[],.pointer (some ⟨Bs,0,none⟩)] W fun e W'=>(∃ v,e=.returned v) ∧
      ((∃ ys,ys=xs ∧ J ys W') ∨ (∃ pre,pre <+: xs ∧ Jx pre W')):=by
  refine callsIn_of_wp Try.func106 rfl trivial ?_ rfl
  simp only [Try.ntmps106,List.size_toArray,List.length_cons,List.length_nil,Nat.reduceAdd,Nat.reduceSub,Array.replicate_succ,Array.replicate_zero,List.push_toArray,List.append_toArray,List.nil_append,List.cons_append]
  gi_wp2
  gi_loopw [3] (fun i wr=>∃ k:Nat,k ≤ len ∧ i=.int .i64 ((len:Int) - 1 - k) ∧ J (xs.take k) wr ∧ wr.heap[Bs]?=W.heap[Bs]? ∧ wr.heap[b]?=W.heap[b]?)
    (fun i _=>(intOf i + 1).toNat)
  case atStart=>exact ⟨0,Nat.zero_le _,by simp [RowKit.wrap64],by simpa using h0,rfl,rfl⟩
  case round =>
    obtain ⟨k,hk,rfl,hJs,hn1,hn2⟩:=hrel
    have hBw:wr.cell? ⟨Bs,0,none⟩=some (.slice p len cap):=(World.cell?_of_block (a:=⟨Bs,0,none⟩) hn1).trans hBs
    by_cases hlt:k < len
    · have hkx:k < xs.length:=by omega
      obtain ⟨q,hq⟩:∃ q:Nat,q=len - 1 - k:=⟨_,rfl⟩
      have hqi:(len:Int) - 1 - k=q:=by omega
      have hcx:wr.cell? ⟨b,off + q,none⟩=some (.int .i64 (enc xs[k])):=by rw [hq];exact (World.cell?_of_block (a:=⟨b,off + (len - 1 - k),none⟩) hn2).trans (hc k hkx)
      obtain rfl:p=some ⟨b,off,none⟩:=hp (by omega)
      obtain ⟨fn,tmps,assign,body,hy,hR⟩:=hY (xs.take k) xs[k] wr hJs (by rw [List.length_take];omega)
      rw [hi k hkx,hqi] at hy
      have hq2:q < len:=by omega
      clear hq
      rw [hqi]
      gi_wp2
      refine hR.mono ?_
      rintro e W3 (⟨rfl,hJ3,hk3,hk4⟩|⟨rfl,hJx3⟩)
      · gi_wp2
        go_roundw
        case rel=>exact ⟨k + 1,by omega,by simp [RowKit.wrap64]<;>omega,by rw [List.take_succ_eq_append_getElem hkx];exact hJ3,hk3.trans hn1,hk4.trans hn2⟩
        case measure=>simp [intOf,RowKit.wrap64]<;>omega
      · gi_wp2
        refine bodyPost_ret (results_none rfl _ _ _) rfl ?_
        exact ⟨⟨_,rfl⟩,.inr ⟨_,by rw [← List.take_succ_eq_append_getElem hkx];exact List.take_prefix _ _,hJx3⟩⟩
    · obtain rfl:k=len:=by omega
      gi_wp2
      go_end0
      exact ⟨⟨_,rfl⟩,.inl ⟨_,rfl,by rw [List.take_of_length_le (by omega)] at hJs;exact hJs⟩⟩

open Go.RowKit in
theorem bwd_iter {α:Type} (ei enc:α → Int) (xs:List α) (zs:List Int) (n id:Nat) (H:Nat → Option (List AV)) (hH:H id=some [.rows false (IL zs) n]) (hn:zs.length=n) (hb:n ≤ 1099511627776) (hl:xs.length=n)
    (hx:∀ j (h:j < xs.length),ei xs[j]=(n:Int) - 1 - j ∧ zs[n - 1 - j]?=some (enc xs[j])):IterOk Try.prog 106 [.ref id 1 0] [id] H xs (fun x=>[.int .i64 (ei x),.int .i64 (enc x)]):=by
  refine ⟨Go.Proofs.enters_of Try.func106 (by kernel_rfl) rfl,fun C vs hk hCH hvs hd=>?_⟩
  obtain ⟨vs⟩:=vs
  rcases vs with _|⟨v,_|⟨v',t⟩⟩
  · simp at hvs
  · simp only [DenP,Den,and_true] at hd
    obtain ⟨_,cs,hc1,_,hsp,hc2⟩:=hd
    rw [hCH,hH] at hc1
    injection hc1 with hc1
    subst hc1
    obtain ⟨g,hg,rfl⟩:=hc2 rfl
    rcases hk.has id _ (by rw [hCH];exact hH) hsp with ⟨_,h0⟩|⟨g',cur,e,a1,a2,a3⟩
    · cases h0
    · rw [hg] at a1
      injection a1 with a1
      subst a1
      obtain ⟨cur⟩:=cur
      rcases cur with _|⟨v0,cur⟩
      · simp [DenP] at a3
      · simp only [DenP,Den,and_true] at a3
        have hglt:=lt_of_heap a2
        have hcell:∀ W:World,W.heap[g]?=C.w.heap[g]? → W.cell? ⟨g,0,none⟩=some v0:=fun W hW=>by simp [World.cell?,hW,a2]
        rcases a3 with ⟨he,h1,h2⟩|⟨g2,o,cap,cur2,e2,fz2,b1,b2,b3,b4,b5⟩
        · -- no elements
          obtain ⟨p,c,hp⟩:=he.at
          have hz:xs=[]:=List.eq_nil_of_length_eq_zero (by omega)
          refine ⟨fun x=>#[.int .i64 (ei x),.int .i64 (enc x)],[g],fun q hq=>?_,fun _=>rfl,fun C' x _ _ _=>by simp [DenP,Den],?_⟩
          · simp only [List.mem_singleton] at hq
            subst hq
            exact ⟨hglt,fun j hj=>by simp [hk.inj j id q hj hg]⟩
          · intro l J Jx W hW hJ hJx hY h0
            have hWg:W.heap[g]?=C.w.heap[g]?:=hW.block g hglt
            subst hz
            refine bwd1_in ei enc l g 0 0 0 c p [] rfl (by omega) (by omega) J Jx (fun pre x W1 _ hlen=>by omega) W (by rw [hcell W hWg,hp]) (fun j h=>by cases h) (fun j h=>by cases h) h0
        · have hg2:∀ j,C.M j ≠ some g2:=b3.1
          have h2lt:=lt_of_heap b2
          refine ⟨fun x=>#[.int .i64 (ei x),.int .i64 (enc x)],[g,g2],fun q hq=>?_,fun _=>rfl,fun C' x _ _ _=>by simp [DenP,Den],?_⟩
          · simp only [List.mem_cons,List.not_mem_nil,or_false] at hq
            rcases hq with rfl|rfl
            · exact ⟨hglt,fun j hj=>by simp [hk.inj j id q hj hg]⟩
            · exact ⟨h2lt,fun j hj=>absurd hj (hg2 j)⟩
          · intro l J Jx W hW hJ hJx hY h0
            have hWg:W.heap[g]?=C.w.heap[g]?:=hW.block g hglt
            have hWg2:W.heap[g2]?=C.w.heap[g2]?:=hW.block g2 h2lt
            refine bwd1_in ei enc l g g2 o n cap (some ⟨g2,o,none⟩) xs hl (fun _=>rfl) hb J Jx (fun pre x W1 hj hlen=>?_) W (by rw [hcell W hWg,b1]) (fun j h=>(hx j h).1) (fun j h=>?_) h0
            · obtain ⟨fn,tmps,asg,body,y1,y2⟩:=hY pre x W1 hj (by omega)
              exact ⟨fn,tmps,asg,body,y1,y2.mono fun e W' h=>h.imp (fun ⟨z1,z2,z3⟩=>⟨z1,z2,z3 g (by simp),z3 g2 (by simp)⟩) (fun h=>h)⟩
            · obtain ⟨h3,h4⟩:=hx j h
              rw [A7z] at b5
              have h5:(IL zs)[n - 1 - j]?=some (.int .i64 (enc xs[j])):=by simp [IL,h4]
              obtain ⟨u,hu1,hu2⟩:=b5 _ _ h5
              simp only [Den] at hu2
              subst hu2
              rw [List.getElem?_drop] at hu1
              simp only [World.cell?,hWg2,b2]
              simpa using hu1
  · simp at hvs

end Go.Proofs.Ytpicoecbbiiaoaa
set_option linter.unusedSimpArgs false
set_option linter.unusedVariables false
set_option maxRecDepth 4000
set_option maxHeartbeats 4000000
namespace Go.Proofs.Ytpicoecbbiiaoaa
open VwM Vw Go

theorem Htz (xs:List Int) (n:Nat) (hn:xs.length=n) (hb:n ≤ 1099511627776):BCall Try.prog 104 [.rows false (IL xs) n] [] (fun r H'=>r=.clo (.func 106) [] [.ref 0 1 0] ∧ H'=[[.rows false (IL xs) n]]):=by
  subst hn
  refine A5z (pins:=[]) (pin:=0) l104_eq rfl rfl rfl ?_
  (repeat' (first
 | (first|refine Akz ?_|refine Agz ?_)
 | ((first|refine Alz ?_|refine Afz ?_|refine Ahz ?_|refine Aiz ?_);simp (disch:=omega) only [push_cast,seval,l104r0,l104r1])
 | ((first|refine Abz ?_ ?_|refine Aez ?_ ?_|refine Adz ?_ ?_)<;>intro h<;>(try simp only [h])<;>(try simp only [bitvec_to_nat] at h)<;>(try simp only [h])<;>(first|(exfalso;omega)|(exfalso;simp_all;done)|(simp (disch:=omega) only [push_cast,seval])|skip))
 | (refine Ajz ⟨.inr rfl,[16],[],_,by decide,rfl,?_⟩;(try simp (disch:=omega) only [push_cast,seval,↓Arz,↓Apz,↓List.map_cons,↓List.map_nil]))))
  all_goals exact ⟨rfl,rfl⟩


set_option maxHeartbeats 16000000 in
theorem waysOf_ok (e w L:List Int) (m:Nat) (hm:L.length=m) (he:e.length=5 ∧ w.length=5) (hb:m ≤ 6 ∧ (∀ x ∈ L,0 ≤ x ∧ x ≤ 4) ∧ ∀ x ∈ L,0 ≤ gE e x ∧ gE e x ≤ 60):BCall Try.prog 89 [.agg (IL e),.rows false (IL L) m,.agg (IL w)] [] (fun r H'=>r=.own 0 (pr (L.map (gE e))).toNat 5 ∧ H'=[IL (waysF e L w (pr (L.map (gE e))).toNat)]):=by
  subst hm
  obtain ⟨h5,hw5⟩:=he
  obtain ⟨hb0,hb1,hb2⟩:=hb
  have hg9:good9 (L.map (gE e)):=⟨fun x hx=>by obtain ⟨y,hy,rfl⟩:=List.mem_map.1 hx;exact hb2 y hy,by simpa using hb0⟩
  have hp9:=Ciz hg9
  obtain ⟨n,hn⟩:∃ n:Nat,pr (L.map (gE e))=n:=⟨(pr (L.map (gE e))).toNat,by omega⟩
  rw [hn,Int.toNat_natCast]
  refine A5z (pins:=[]) (pin:=0) l89_eq rfl rfl rfl ?_
  have q1:e.length=5 ∧ L.length ≤ 1099511627776 ∧ ∀ x ∈ L,0 ≤ x ∧ x ≤ 4:=⟨h5,by omega,hb1⟩
  (repeat' (first
 | (first|refine Akz ?_|refine Agz ?_)
 | ((first|refine Alz ?_|refine Atz (mid:=l89r9a) (post:=l89r9b) Azz (by decide) ?_|refine Atz (mid:=l89r10a) (post:=l89r10b) Azz (by decide) ?_|refine Afz ?_|refine Ahz ?_|refine Aiz ?_);simp (disch:=omega) only [push_cast,seval,l89r0,l89r1,l89r2,l89r3,l89r4,l89r5,l89r6,l89r7,l89r8,l89r9a,l89r9b,l89r9,l89r10a,l89r10b,l89r10,l89r11,l89r12,h5,hw5,hn,Etz,Auz,Brz])
 | ((first|refine Abz ?_ ?_|refine Aez ?_ ?_|refine Adz ?_ ?_)<;>intro h<;>(try simp only [h])<;>(try simp only [bitvec_to_nat] at h)<;>(try simp only [h])<;>(first|(exfalso;omega)|(exfalso;simp_all;done)|(simp (disch:=omega) only [push_cast,seval,h5,hw5,hn,Etz,Auz,Brz])|skip))
 | ((first|((with_reducible refine Aoz (f:=104) true ?_);simp (disch:=omega) only [push_cast,seval,h5,hw5,hn,Etz,Auz,Brz];(refine call0D (Htz _ _ ?_ ?_) ?_;(iterate 2 (exact sd));rintro _ _ ⟨rfl,rfl⟩)))<;>(try simp (disch:=omega) only [push_cast,seval,h5,hw5,hn,Etz,Auz,Brz]))
 | ((first|refine Aoz false ?_|refine qcallD_of false ?_);simp (disch:=omega) only [push_cast,seval,h5,hw5,hn,Etz,Auz,Brz])
 | ((first|((first|refine call0D (tblOf_ok _ _ _ ?_ ?_) ?_|refine qcall0D (tblOf_ok _ _ _ ?_ ?_) ⟨_,_,rfl,rfl⟩ ?_);(iterate 2 (exact sd));rintro _ _ ⟨rfl,rfl⟩)|((first|refine call0D (BCall.ofP (product9_ok _ _ ?_ ?_)) ?_|refine qcall0D (BCall.ofP (product9_ok _ _ ?_ ?_)) ⟨_,_,rfl,rfl⟩ ?_);(iterate 2 (exact sd));rintro _ _ ⟨rfl,rfl⟩))<;>(try simp (disch:=omega) only [push_cast,seval,h5,hw5,hn,Etz,Auz,Brz]))
 | (refine Ajz ⟨.inr rfl,[256],[],_,by decide,rfl,?_⟩;(try simp (disch:=omega) only [push_cast,seval,↓Arz,↓Apz,↓List.map_cons,↓List.map_nil,h5,hw5,hn,Etz,Auz,Brz]))))
  refine Ayz (fun k:Nat=>mkS [(1,.rows false (IL L) L.length),(3,.ref 48 5 0),(5,.ref 80 5 0),(7,.ref 112 1 0),(18,.int .i64 n),(19,.int .i64 k)] [(48,IL e),(80,IL w),(112,[.own 256 n 5]),(256,IL (wyZ e L w k n))]) (fun k=>k ≤ n) (fun k=>n - k) 0 (Nat.zero_le _) ?_ ?_
  · (refine Sub.of_lists ?_ ?_ ?_ ?_ ?_<;>simp [Vw.mkS,Vw.lk,Vw.hk,AV.inn,innL,Aqz,Amz,Asz,-List.map_set,-List.getD_eq_getElem?_getD,wyZ_zero])
  · intro k hk
    have hzl:=wyZ_len (e:=e) (L:=L) hw5 hk
    by_cases hkn:k < n
    · have hpos:∀ x ∈ L,(0 ≤ x ∧ x ≤ 4) ∧ 0 < gE e x ∧ gE e x ≤ 60:=fun x hx=>by
        have:=Cdz (xs:=L.map (gE e)) (by omega) (fun z hz=>by obtain ⟨y,hy,rfl⟩:=List.mem_map.1 hz;exact (hb2 y hy).1) _ (List.mem_map.2 ⟨x,hx,rfl⟩)
        exact ⟨hb1 x hx,this,(hb2 x hx).2⟩
      have hst:=wyZ_store (e:=e) (L:=L) (n:=n) hw5 hw5 hkn
      (repeat' (first
 | (first|refine Akz ?_|refine Agz ?_)
 | ((first|refine Alz ?_|refine Atz (mid:=l89r9a) (post:=l89r9b) Azz (by decide) ?_|refine Atz (mid:=l89r10a) (post:=l89r10b) Azz (by decide) ?_|refine Afz ?_|refine Ahz ?_|refine Aiz ?_);simp (disch:=omega) only [push_cast,seval,l89r0,l89r1,l89r2,l89r3,l89r4,l89r5,l89r6,l89r7,l89r8,l89r9a,l89r9b,l89r9,l89r10a,l89r10b,l89r10,l89r11,l89r12,h5,hw5,Auz,Brz,Anz,hzl,hst])
 | ((first|refine Abz ?_ ?_|refine Aez ?_ ?_|refine Adz ?_ ?_)<;>intro h<;>(try simp only [h])<;>(try simp only [bitvec_to_nat] at h)<;>(try simp only [h])<;>(first|(exfalso;omega)|(exfalso;simp_all;done)|(simp (disch:=omega) only [push_cast,seval,h5,hw5,Auz,Brz,Anz,hzl,hst])|skip))
 | ((first|((with_reducible refine Aoz (f:=104) true ?_);simp (disch:=omega) only [push_cast,seval,h5,hw5,Auz,Brz,Anz,hzl,hst];(refine call0D (Htz _ _ ?_ ?_) ?_;(iterate 2 (exact sd));rintro _ _ ⟨rfl,rfl⟩)))<;>(try simp (disch:=omega) only [push_cast,seval,h5,hw5,Auz,Brz,Anz,hzl,hst]))
 | ((first|refine Aoz false ?_|refine qcallD_of false ?_);simp (disch:=omega) only [push_cast,seval,h5,hw5,Auz,Brz,Anz,hzl,hst])
 | ((first|((first|refine call0D (tblOf_ok _ _ _ ?_ ?_) ?_|refine qcall0D (tblOf_ok _ _ _ ?_ ?_) ⟨_,_,rfl,rfl⟩ ?_);(iterate 2 (exact sd));rintro _ _ ⟨rfl,rfl⟩)|((first|refine call0D (BCall.ofP (product9_ok _ _ ?_ ?_)) ?_|refine qcall0D (BCall.ofP (product9_ok _ _ ?_ ?_)) ⟨_,_,rfl,rfl⟩ ?_);(iterate 2 (exact sd));rintro _ _ ⟨rfl,rfl⟩))<;>(try simp (disch:=omega) only [push_cast,seval,h5,hw5,Auz,Brz,Anz,hzl,hst]))
 | (refine Ajz ⟨.inr rfl,[256],[],_,by decide,rfl,?_⟩;(try simp (disch:=omega) only [push_cast,seval,↓Arz,↓Apz,↓List.map_cons,↓List.map_nil,h5,hw5,Auz,Brz,Anz,hzl,hst]))))
      have hN:L.length ≤ 1099511627776:=by omega
      refine awp_rf (ids:=[448]) (s1:=mkS [(1,.rows false (IL L) L.length),(3,.ref 48 5 0),(5,.ref 80 5 0),(7,.ref 112 1 0),(8,.ref 128 1 0),(9,.ref 144 1 0),(18,.int .i64 n),(19,.int .i64 k)] [(144,[.int .i64 k]),(256,IL (wy3 e L w k n w)),(128,[.int .i64 k]),(48,IL e),(80,IL w),(112,[.own 256 n 5])])
        (bwL e L hpos) (fun x=>[.int .i64 x.1.1,.int .i64 x.1.2]) [1,3,5,7,8,9,18,19]
        (fun _=>[(1,.rows false (IL L) L.length),(3,.ref 48 5 0),(5,.ref 80 5 0),(7,.ref 112 1 0),(8,.ref 128 1 0),(9,.ref 144 1 0),(18,.int .i64 n),(19,.int .i64 k)])
        (fun pre=>[(144,[.int .i64 (wkS e w k (pre.map (·.1.2))).2]),(256,IL (wy3 e L w k n (wkS e w k (pre.map (·.1.2))).1)),(128,[.int .i64 k]),(48,IL e),(80,IL w),(112,[.own 256 n 5])])
        rfl ?_ (fun id hid=>by simp only [List.mem_singleton] at hid;subst hid;rfl) (bwd_iter (fun x=>x.1.1) (fun x=>x.1.2) (bwL e L hpos) L L.length 448 _ rfl rfl hN (bwL_len e L hpos) (fun j h=>bwL_get e L hpos j h)) ⟨by decide,fun _=>rfl,rfl⟩ ?_ ?_ ?_ rfl rfl ?_ ?_
      · (refine Sub.of_lists ?_ ?_ ?_ ?_ ?_<;>simp [Vw.mkS,Vw.lk,Vw.hk,AV.inn,innL,Aqz,Amz,Asz,-List.map_set,-List.getD_eq_getElem?_getD])
      · refine SubW.of ?_
        (refine Sub.of_lists ?_ ?_ ?_ ?_ ?_<;>simp [Vw.mkS,Vw.lk,Vw.hk,AV.inn,innL,Aqz,Amz,Asz,-List.map_set,-List.getD_eq_getElem?_getD,wkS_nil])
      · intro pre t ht
        simp only [List.mem_cons,List.not_mem_nil,or_false,not_or] at ht
        simp only [lk,if_neg ht.1,if_neg ht.2.1,if_neg ht.2.2.1,if_neg ht.2.2.2.1,if_neg ht.2.2.2.2.1,if_neg ht.2.2.2.2.2.1,if_neg ht.2.2.2.2.2.2.1,if_neg ht.2.2.2.2.2.2.2]
      · intro pre
        refine plainS_lists fun p hp=>?_
        simp only [List.mem_cons,List.not_mem_nil,or_false] at hp
        rcases hp with rfl|rfl|rfl|rfl|rfl|rfl<;>first|exact spL_IL _|rfl
      · rintro pre ⟨⟨xi,x⟩,hx1,hx2,hx3⟩ _
        simp only at hx1 hx2 hx3
        have hyl:=Irz e w k (pre.map (·.1.2))
        have hrb:=wkS_bound e w k (pre.map (·.1.2)) (Int.natCast_nonneg _) (fun z hz=>by obtain ⟨q,_,rfl⟩:=List.mem_map.1 hz;exact q.2.2.1)
        have hsn:=wkS_snoc e w k (pre.map (·.1.2)) x
        rw [show pre.map (fun q:bwA e=>q.1.2) ++ [x]=(pre ++ [(⟨(xi,x),hx1,hx2,hx3⟩:bwA e)]).map (·.1.2) by simp] at hsn
        refine awp_mono (Q:=fun e' s''=>e'=.normal ∧ SubW 0 s'' (mkS [(1,.rows false (IL L) L.length),(3,.ref 48 5 0),(5,.ref 80 5 0),(7,.ref 112 1 0),(8,.ref 128 1 0),(9,.ref 144 1 0),(18,.int .i64 n),(19,.int .i64 k)] [(144,[.int .i64 (wkF e (wkS e w k (pre.map (·.1.2))) x).2]),(256,IL (wy3 e L w k n (wkF e (wkS e w k (pre.map (·.1.2))) x).1)),(128,[.int .i64 k]),(48,IL e),(80,IL w),(112,[.own 256 n 5])])) (fun e' s'' hh=>.inl ⟨hh.1,by simp only [hsn];exact hh.2⟩) ?_
        generalize hY:wkS e w k (pre.map (·.1.2))=Y at *
        obtain ⟨y,r⟩:=Y
        simp only at hyl hrb
        obtain ⟨c,rfl⟩:∃ c:Nat,x=c:=⟨x.toNat,by omega⟩
        have hc5:c < 5:=by omega
        rw [hw5] at hyl
        have hge:gE e (c:Int)=e.getD c 0:=by unfold gE;rw [Int.toNat_natCast]
        have hwl:=wy3_len (e:=e) (L:=L) hw5 hyl hkn
        have hws:=wy3_set (e:=e) (L:=L) (k:=k) (n:=n) hw5 hyl c hc5 (r.tmod (gE e c))
        simp only [wkF,Int.toNat_natCast]
        rw [hge] at hx2 hx3 hws ⊢
        show awp _ _ _ _ (mkS ((11,.int .i64 (c:Int)) :: (29,.int .i64 xi) :: (30,.int .i64 (c:Int)) :: [(1,.rows false (IL L) L.length),(3,.ref 48 5 0),(5,.ref 80 5 0),(7,.ref 112 1 0),(8,.ref 128 1 0),(9,.ref 144 1 0),(18,.int .i64 n),(19,.int .i64 k)]) _)
        have htd:0 ≤ r.tdiv (e.getD c 0) ∧ r.tdiv (e.getD c 0) ≤ r:=⟨Int.tdiv_nonneg hrb.1 (by omega),by rw [Int.tdiv_eq_ediv_of_nonneg hrb.1];exact Int.ediv_le_self _ hrb.1⟩
        (repeat' (first
 | (first|refine Akz ?_|refine Agz ?_)
 | ((first|refine Alz ?_|refine Atz (mid:=l89r9a) (post:=l89r9b) Azz (by decide) ?_|refine Atz (mid:=l89r10a) (post:=l89r10b) Azz (by decide) ?_|refine Afz ?_|refine Ahz ?_|refine Aiz ?_);simp (disch:=omega) only [push_cast,seval,l89r0,l89r1,l89r2,l89r3,l89r4,l89r5,l89r6,l89r7,l89r8,l89r9a,l89r9b,l89r9,l89r10a,l89r10b,l89r10,l89r11,l89r12,h5,hw5,Anz,hwl,hws,Boz])
 | ((first|refine Abz ?_ ?_|refine Aez ?_ ?_|refine Adz ?_ ?_)<;>intro h<;>(try simp only [h])<;>(try simp only [bitvec_to_nat] at h)<;>(try simp only [h])<;>(first|(exfalso;omega)|(exfalso;simp_all;done)|(simp (disch:=omega) only [push_cast,seval,h5,hw5,Anz,hwl,hws,Boz])|skip))
 | ((first|((with_reducible refine Aoz (f:=104) true ?_);simp (disch:=omega) only [push_cast,seval,h5,hw5,Anz,hwl,hws,Boz];(refine call0D (Htz _ _ ?_ ?_) ?_;(iterate 2 (exact sd));rintro _ _ ⟨rfl,rfl⟩)))<;>(try simp (disch:=omega) only [push_cast,seval,h5,hw5,Anz,hwl,hws,Boz]))
 | ((first|refine Aoz false ?_|refine qcallD_of false ?_);simp (disch:=omega) only [push_cast,seval,h5,hw5,Anz,hwl,hws,Boz])
 | ((first|((first|refine call0D (tblOf_ok _ _ _ ?_ ?_) ?_|refine qcall0D (tblOf_ok _ _ _ ?_ ?_) ⟨_,_,rfl,rfl⟩ ?_);(iterate 2 (exact sd));rintro _ _ ⟨rfl,rfl⟩)|((first|refine call0D (BCall.ofP (product9_ok _ _ ?_ ?_)) ?_|refine qcall0D (BCall.ofP (product9_ok _ _ ?_ ?_)) ⟨_,_,rfl,rfl⟩ ?_);(iterate 2 (exact sd));rintro _ _ ⟨rfl,rfl⟩))<;>(try simp (disch:=omega) only [push_cast,seval,h5,hw5,Anz,hwl,hws,Boz]))))
        refine SubW.of ?_
        (refine Sub.of_lists ?_ ?_ ?_ ?_ ?_<;>simp [Vw.mkS,Vw.lk,Vw.hk,AV.inn,innL,Aqz,Amz,Asz,-List.map_set,-List.getD_eq_getElem?_getD,hws,Boz])
      · (repeat' (first
 | (first|refine Akz ?_|refine Agz ?_)
 | ((first|refine Alz ?_|refine Atz (mid:=l89r9a) (post:=l89r9b) Azz (by decide) ?_|refine Atz (mid:=l89r10a) (post:=l89r10b) Azz (by decide) ?_|refine Afz ?_|refine Ahz ?_|refine Aiz ?_);simp (disch:=omega) only [push_cast,seval,l89r0,l89r1,l89r2,l89r3,l89r4,l89r5,l89r6,l89r7,l89r8,l89r9a,l89r9b,l89r9,l89r10a,l89r10b,l89r10,l89r11,l89r12,h5,hw5,Anz])
 | ((first|refine Abz ?_ ?_|refine Aez ?_ ?_|refine Adz ?_ ?_)<;>intro h<;>(try simp only [h])<;>(try simp only [bitvec_to_nat] at h)<;>(try simp only [h])<;>(first|(exfalso;omega)|(exfalso;simp_all;done)|(simp (disch:=omega) only [push_cast,seval,h5,hw5,Anz])|skip))
 | ((first|((with_reducible refine Aoz (f:=104) true ?_);simp (disch:=omega) only [push_cast,seval,h5,hw5,Anz];(refine call0D (Htz _ _ ?_ ?_) ?_;(iterate 2 (exact sd));rintro _ _ ⟨rfl,rfl⟩)))<;>(try simp (disch:=omega) only [push_cast,seval,h5,hw5,Anz]))
 | ((first|refine Aoz false ?_|refine qcallD_of false ?_);simp (disch:=omega) only [push_cast,seval,h5,hw5,Anz])
 | ((first|((first|refine call0D (tblOf_ok _ _ _ ?_ ?_) ?_|refine qcall0D (tblOf_ok _ _ _ ?_ ?_) ⟨_,_,rfl,rfl⟩ ?_);(iterate 2 (exact sd));rintro _ _ ⟨rfl,rfl⟩)|((first|refine call0D (BCall.ofP (product9_ok _ _ ?_ ?_)) ?_|refine qcall0D (BCall.ofP (product9_ok _ _ ?_ ?_)) ⟨_,_,rfl,rfl⟩ ?_);(iterate 2 (exact sd));rintro _ _ ⟨rfl,rfl⟩))<;>(try simp (disch:=omega) only [push_cast,seval,h5,hw5,Anz]))))
        refine ⟨k + 1,by omega,by omega,?_⟩
        have hfin:(wkS e w k ((bwL e L hpos).map (·.1.2))).1=wayK e L w k:=by rw [bwL_snd];rfl
        have hnx:=wyZ_next (e:=e) (L:=L) (w:=w) hkn
        (refine Sub.of_lists ?_ ?_ ?_ ?_ ?_<;>simp [Vw.mkS,Vw.lk,Vw.hk,AV.inn,innL,Aqz,Amz,Asz,-List.map_set,-List.getD_eq_getElem?_getD,hfin,hnx])
    · have hkn:k=n:=by omega
      subst hkn
      (repeat' (first
 | (first|refine Akz ?_|refine Agz ?_)
 | ((first|refine Alz ?_|refine Atz (mid:=l89r9a) (post:=l89r9b) Azz (by decide) ?_|refine Atz (mid:=l89r10a) (post:=l89r10b) Azz (by decide) ?_|refine Afz ?_|refine Ahz ?_|refine Aiz ?_);simp (disch:=omega) only [push_cast,seval,l89r0,l89r1,l89r2,l89r3,l89r4,l89r5,l89r6,l89r7,l89r8,l89r9a,l89r9b,l89r9,l89r10a,l89r10b,l89r10,l89r11,l89r12,h5,hw5,Auz,Brz,Anz,hzl])
 | ((first|refine Abz ?_ ?_|refine Aez ?_ ?_|refine Adz ?_ ?_)<;>intro h<;>(try simp only [h])<;>(try simp only [bitvec_to_nat] at h)<;>(try simp only [h])<;>(first|(exfalso;omega)|(exfalso;simp_all;done)|(simp (disch:=omega) only [push_cast,seval,h5,hw5,Auz,Brz,Anz,hzl])|skip))
 | ((first|((with_reducible refine Aoz (f:=104) true ?_);simp (disch:=omega) only [push_cast,seval,h5,hw5,Auz,Brz,Anz,hzl];(refine call0D (Htz _ _ ?_ ?_) ?_;(iterate 2 (exact sd));rintro _ _ ⟨rfl,rfl⟩)))<;>(try simp (disch:=omega) only [push_cast,seval,h5,hw5,Auz,Brz,Anz,hzl]))
 | ((first|refine Aoz false ?_|refine qcallD_of false ?_);simp (disch:=omega) only [push_cast,seval,h5,hw5,Auz,Brz,Anz,hzl])
 | ((first|((first|refine call0D (tblOf_ok _ _ _ ?_ ?_) ?_|refine qcall0D (tblOf_ok _ _ _ ?_ ?_) ⟨_,_,rfl,rfl⟩ ?_);(iterate 2 (exact sd));rintro _ _ ⟨rfl,rfl⟩)|((first|refine call0D (BCall.ofP (product9_ok _ _ ?_ ?_)) ?_|refine qcall0D (BCall.ofP (product9_ok _ _ ?_ ?_)) ⟨_,_,rfl,rfl⟩ ?_);(iterate 2 (exact sd));rintro _ _ ⟨rfl,rfl⟩))<;>(try simp (disch:=omega) only [push_cast,seval,h5,hw5,Auz,Brz,Anz,hzl]))
 | (refine Ajz ⟨.inr rfl,[256],[],_,by decide,rfl,?_⟩;(try simp (disch:=omega) only [push_cast,seval,↓Arz,↓Apz,↓List.map_cons,↓List.map_nil,h5,hw5,Auz,Brz,Anz,hzl]))))
      all_goals (try simp [wyZ_all])

end Go.Proofs.Ytpicoecbbiiaoaa
