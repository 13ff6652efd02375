import Derived.Test.YtbplegbgofnolaaCKp11
import Derived.Test.YtbplegbgofnolaaCM1
import Derived.Test.YtbplegbgofnolaaChecked
import Derived.Test.YtbplegbgofnolaaCW3
import Derived.RangeFuncBox
import Derived.RangeFuncLeaves
import Derived.Shelf.Abstract
import Derived.WalkKit
import Derived.OwnWalkIn
import Derived.TacticsInMore
import Derived.LoopNIn
import Derived.LoopIn
set_option linter.unusedSimpArgs false
set_option linter.unusedVariables false
set_option maxRecDepth 4000
set_option maxHeartbeats 4000000
namespace Go.Proofs.Ytbplegbgofnolaa
open VwM Vw Go

attribute [local go_sem] Oper.semAt_some
open Go.RowKit Go.Shelf in
set_option maxRecDepth 100000 in
set_option maxHeartbeats 4000000 in
/-- The iterator of slices.Backward: the elements from the last to the first,each with its index. -/
theorem bwd1_in {α:Type} (ei enc:α → Int) (l Bs b off len cap:Nat) (p:Option Addr) (xs:List α) (hx:xs.length=len) (hp:0 < len → p=some ⟨b,off,none⟩) (hreach:len ≤ 1099511627776) (J Jx:List α → World → Prop)
    (hY:∀ pre x W,J pre W → pre.length < len → YieldAt Fence.wide 1 Try.prog l #[.int .i64 (ei x),.int .i64 (enc x)] W fun e W' =>
      (e=.returned (.bool true) ∧ J (pre ++ [x]) W' ∧ (W'.heap[Bs]?=W.heap[Bs]? ∧ W'.heap[b]?=W.heap[b]?)) ∨ (e=.returned (.bool false) ∧ Jx (pre ++ [x]) W'))
    (W:World) (hBs:W.cell? ⟨Bs,0,none⟩=some (.slice p len cap)) (hi:∀ j (h:j < xs.length),ei xs[j]=(len:Int) - 1 - j) (hc:∀ j (h:j < xs.length),W.cell? ⟨b,off + (len - 1 - j),none⟩=some (.int .i64 (enc xs[j]))) (h0:J [] W) :
    CallsIn Fence.wide 2 Try.prog 118 #[.func (.yield l) #[] #[],.pointer (some ⟨Bs,0,none⟩)] W fun e W'=>(∃ v,e=.returned v) ∧
      ((∃ ys,ys=xs ∧ J ys W') ∨ (∃ pre,pre <+: xs ∧ Jx pre W')):=by
  refine callsIn_of_wp Try.func118 rfl trivial ?_ rfl
  simp only [Try.ntmps118,List.size_toArray,List.length_cons,List.length_nil,Nat.reduceAdd,Nat.reduceSub,Array.replicate_succ,Array.replicate_zero,List.push_toArray,List.append_toArray,List.nil_append,List.cons_append]
  gi_wp2
  gi_loopw [3] (fun i wr=>∃ k:Nat,k ≤ len ∧ i=.int .i64 ((len:Int) - 1 - k) ∧ J (xs.take k) wr ∧ wr.heap[Bs]?=W.heap[Bs]? ∧ wr.heap[b]?=W.heap[b]?)
    (fun i _=>(intOf i + 1).toNat)
  case atStart=>exact ⟨0,Nat.zero_le _,by simp [RowKit.wrap64],by simpa using h0,rfl,rfl⟩
  case round =>
    obtain ⟨k,hk,rfl,hJs,hn1,hn2⟩:=hrel
    have hBw:wr.cell? ⟨Bs,0,none⟩=some (.slice p len cap):=(World.cell?_of_block (a:=⟨Bs,0,none⟩) hn1).trans hBs
    by_cases hlt:k < len
    · have hkx:k < xs.length:=by omega
      obtain ⟨q,hq⟩:∃ q:Nat,q=len - 1 - k:=⟨_,rfl⟩
      have hqi:(len:Int) - 1 - k=q:=by omega
      have hcx:wr.cell? ⟨b,off + q,none⟩=some (.int .i64 (enc xs[k])):=by rw [hq];exact (World.cell?_of_block (a:=⟨b,off + (len - 1 - k),none⟩) hn2).trans (hc k hkx)
      obtain rfl:p=some ⟨b,off,none⟩:=hp (by omega)
      obtain ⟨fn,tmps,assign,body,hy,hR⟩:=hY (xs.take k) xs[k] wr hJs (by rw [List.length_take];omega)
      rw [hi k hkx,hqi] at hy
      have hq2:q < len:=by omega
      clear hq
      rw [hqi]
      gi_wp2
      refine hR.mono ?_
      rintro e W3 (⟨rfl,hJ3,hk3,hk4⟩|⟨rfl,hJx3⟩)
      · gi_wp2
        go_roundw
        case rel=>exact ⟨k + 1,by omega,by simp [RowKit.wrap64]<;>omega,by rw [List.take_succ_eq_append_getElem hkx];exact hJ3,hk3.trans hn1,hk4.trans hn2⟩
        case measure=>simp [intOf,RowKit.wrap64]<;>omega
      · gi_wp2
        refine bodyPost_ret (results_none rfl _ _ _) rfl ?_
        exact ⟨⟨_,rfl⟩,.inr ⟨_,by rw [← List.take_succ_eq_append_getElem hkx];exact List.take_prefix _ _,hJx3⟩⟩
    · obtain rfl:k=len:=by omega
      gi_wp2
      go_end0
      exact ⟨⟨_,rfl⟩,.inl ⟨_,rfl,by rw [List.take_of_length_le (by omega)] at hJs;exact hJs⟩⟩

open Go.RowKit in
theorem bwd_iter {α:Type} (ei enc:α → Int) (xs:List α) (zs:List Int) (n id:Nat) (H:Nat → Option (List AV)) (hH:H id=some [.rows false (IL zs) n]) (hn:zs.length=n) (hb:n ≤ 1099511627776) (hl:xs.length=n)
    (hx:∀ j (h:j < xs.length),ei xs[j]=(n:Int) - 1 - j ∧ zs[n - 1 - j]?=some (enc xs[j])):IterOk Try.prog 118 [.ref id 1 0] [id] H xs (fun x=>[.int .i64 (ei x),.int .i64 (enc x)]):=by
  refine ⟨Go.Proofs.enters_of Try.func118 (by kernel_rfl) rfl,fun C vs hk hCH hvs hd=>?_⟩
  obtain ⟨vs⟩:=vs
  rcases vs with _|⟨v,_|⟨v',t⟩⟩
  · simp at hvs
  · simp only [DenP,Den,and_true] at hd
    obtain ⟨_,cs,hc1,_,hsp,hc2⟩:=hd
    rw [hCH,hH] at hc1
    injection hc1 with hc1
    subst hc1
    obtain ⟨g,hg,rfl⟩:=hc2 rfl
    rcases hk.has id _ (by rw [hCH];exact hH) hsp with ⟨_,h0⟩|⟨g',cur,e,a1,a2,a3⟩
    · cases h0
    · rw [hg] at a1
      injection a1 with a1
      subst a1
      obtain ⟨cur⟩:=cur
      rcases cur with _|⟨v0,cur⟩
      · simp [DenP] at a3
      · simp only [DenP,Den,and_true] at a3
        have hglt:=lt_of_heap a2
        have hcell:∀ W:World,W.heap[g]?=C.w.heap[g]? → W.cell? ⟨g,0,none⟩=some v0:=fun W hW=>by simp [World.cell?,hW,a2]
        rcases a3 with ⟨he,h1,h2⟩|⟨g2,o,cap,cur2,e2,fz2,b1,b2,b3,b4,b5⟩
        · -- no elements
          obtain ⟨p,c,hp⟩:=he.at
          have hz:xs=[]:=List.eq_nil_of_length_eq_zero (by omega)
          refine ⟨fun x=>#[.int .i64 (ei x),.int .i64 (enc x)],[g],fun q hq=>?_,fun _=>rfl,fun C' x _ _ _=>by simp [DenP,Den],?_⟩
          · simp only [List.mem_singleton] at hq
            subst hq
            exact ⟨hglt,fun j hj=>by simp [hk.inj j id q hj hg]⟩
          · intro l J Jx W hW hJ hJx hY h0
            have hWg:W.heap[g]?=C.w.heap[g]?:=hW.block g hglt
            subst hz
            refine bwd1_in ei enc l g 0 0 0 c p [] rfl (by omega) (by omega) J Jx (fun pre x W1 _ hlen=>by omega) W (by rw [hcell W hWg,hp]) (fun j h=>by cases h) (fun j h=>by cases h) h0
        · have hg2:∀ j,C.M j ≠ some g2:=b3.1
          have h2lt:=lt_of_heap b2
          refine ⟨fun x=>#[.int .i64 (ei x),.int .i64 (enc x)],[g,g2],fun q hq=>?_,fun _=>rfl,fun C' x _ _ _=>by simp [DenP,Den],?_⟩
          · simp only [List.mem_cons,List.not_mem_nil,or_false] at hq
            rcases hq with rfl|rfl
            · exact ⟨hglt,fun j hj=>by simp [hk.inj j id q hj hg]⟩
            · exact ⟨h2lt,fun j hj=>absurd hj (hg2 j)⟩
          · intro l J Jx W hW hJ hJx hY h0
            have hWg:W.heap[g]?=C.w.heap[g]?:=hW.block g hglt
            have hWg2:W.heap[g2]?=C.w.heap[g2]?:=hW.block g2 h2lt
            refine bwd1_in ei enc l g g2 o n cap (some ⟨g2,o,none⟩) xs hl (fun _=>rfl) hb J Jx (fun pre x W1 hj hlen=>?_) W (by rw [hcell W hWg,b1]) (fun j h=>(hx j h).1) (fun j h=>?_) h0
            · obtain ⟨fn,tmps,asg,body,y1,y2⟩:=hY pre x W1 hj (by omega)
              exact ⟨fn,tmps,asg,body,y1,y2.mono fun e W' h=>h.imp (fun ⟨z1,z2,z3⟩=>⟨z1,z2,z3 g (by simp),z3 g2 (by simp)⟩) (fun h=>h)⟩
            · obtain ⟨h3,h4⟩:=hx j h
              rw [Bgz] at b5
              have h5:(IL zs)[n - 1 - j]?=some (.int .i64 (enc xs[j])):=by simp [IL,h4]
              obtain ⟨u,hu1,hu2⟩:=b5 _ _ h5
              simp only [Den] at hu2
              subst hu2
              rw [List.getElem?_drop] at hu1
              simp only [World.cell?,hWg2,b2]
              simpa using hu1
  · simp at hvs

end Go.Proofs.Ytbplegbgofnolaa
