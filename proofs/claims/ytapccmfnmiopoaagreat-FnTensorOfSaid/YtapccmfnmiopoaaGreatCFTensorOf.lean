/- The law FnTensorOf returns true for all its arguments,and every argument reads afterwards as it read before. Its conditions: none. -/
import Derived.Test.YtapccmfnmiopoaaGreatCB11
import Derived.Test.YtapccmfnmiopoaaGreatCW3
import Derived.Test.YtapccmfnmiopoaaGreatRows
import Derived.ProofKit
import Derived.OpenShut
import Derived.ShutString
import Derived.ChangeOld
import Derived.Below
import Derived.Lib.SmallJoins
namespace Go.Proofs.YtapccmfnmiopoaaGreat.fnTensorOfDone
open Go.ChangeShapes Go.WideShapes Go.ChangeAt Go.RowKit Go.Joins
set_option linter.unusedVariables false
set_option linter.unusedSimpArgs false

theorem own:ownKnob Tryz.prog.godebug=none:=by kernel_rfl
theorem laidOut:laidOutB Tryz.prog=true:=by kernel_rfl

set_option maxRecDepth 100000 in
theorem lifted (os:Os)(started:os.Started)(H:Type)(enc:TypeId×Value→H) :
  ReturnsInHanded {} Tryz.checked os 3 .any (Rows.fnTensorOfSpec.pre6 enc Tryz.prog Tryz.f3 Rows.fnTensorOfRow.domain false) (Rows.fnTensorOfSpec.post enc Tryz.prog Tryz.f3 false true false false):=by
 refine returnsInHanded_of_change (C:=Tryz.checked) own started (by kernel_rfl) Tryz.func3
  (ChangeSpec.witness6 (enc:=enc) (C:=Tryz.checked) false ⟨#[],#[.slice none 0 0],[]⟩ 8 (by kernel_rfl) (by kernel_rfl) (by kernel_rfl) (by kernel_rfl)) ?_
 intro W base args ds gs before hval0 hW hcnd _
 have hval:∀ (j:Nat) t v,Tryz.f3.params[j]?=some t→args[j]?=some v→Value.okWide Tryz.prog W .any base t v:=hval0
 have hW':=hW
 obtain ⟨p,q,hA0,hV,rfl,hfz,hnd⟩:=hW
 have hA:DataW.TrodAll enc Tryz.prog W 0 (fun _=>true) true Tryz.f3.params.toList args.toList ds p:=hA0
 rw [Tryz.params3] at hA hval
 obtain ⟨v0,vs0,d0,ds0,q0,e0,hargs,rfl,rfl,h0,r0⟩:=trodAll_cons hA
 obtain ⟨rfl,rfl,rfl⟩:=trodAll_nil r0
 obtain rfl:args=#[v0]:=by cases args;simp_all
 obtain ⟨rfl,rfl⟩:=trodVars_none hV
 have k0:=h0
 have lt0:∀ x∈q0,x.block<W.heap.size:=by obtain ⟨m,hm⟩:=k0;exact DataW.trod_lt m _ _ _ hm
 have na0:∀ cs,v0≠.agg cs:=by
  intro cs hcs
  subst hcs
  have ok0:=hval 0 22 _ rfl rfl
  simp [Value.okWide,Tryz.underlying22,Cell.okWide,Cell.ok] at ok0
 obtain ⟨x0,hd0,g0⟩:=Vw.Opn.cell (Vw.Opn.slice (Vw.Opn.u8 Tryz.underlying5 (by kernel_rfl)) (by decide) Tryz.underlying22 (by kernel_rfl)) h0 na0
 replace hd0:=Vw.den_of_cell hd0
 clear hA0 hval0
 have hwalk:=lTOf_ok x0 g0.2 g0.1 W (fun _=>False) [v0] (fun _ h=>h.elim) (fun _ h=>by cases h) rfl (Vw.denP_mk (by first|exact hd0|simpa [Vw.enI,Vw.enU,Vw.enB,Vw.enS,Vw.flat_ints,Vw.flat_u8] using hd0) Vw.denP_mk0)
 refine hwalk.mono fun e W' ⟨res,v,hq,he,hd,bel⟩=>?_
 subst hq
 simp only [Vw.Den] at hd
 subst hd
 subst he
 exact ⟨_,rfl,_,_,_,[],_,[],hW',trodAll_mk1 (shut_bool Tryz.underlying4 _),(trodAll_cons_mk (Below.trod laidOut (by kernel_rfl) (of_decide_eq_true (by kernel_rfl)) k0 bel lt0) trodAll_mk0),rfl,bel.frame _,fun h=>by cases h⟩

theorem over:Rows.fnTensorOfRow.holds Tryz.pinned (OpenSpec.ofChange Rows.fnTensorOfSpec) :=
 OpenClaim.holds_of_wide 3 Tryz.f3 rfl rfl rfl rfl rfl rfl rfl ⟨rfl,rfl,rfl,rfl,rfl⟩ rfl rfl rfl rfl rfl (by kernel_rfl) Tryz.func3 (by kernel_rfl)
  (of_decide_eq_true (by kernel_rfl)) (by unfold Func.isWrapper;first|(rw [if_pos (by decide +kernel)];kernel_rfl)|(rw [if_neg (by decide +kernel)];exact ⟨rfl,rfl⟩))
  (fun os started H enc _=>lifted os started H enc)

theorem proved:Rows.FnTensorOfSaid:=over
#print axioms proved
end Go.Proofs.YtapccmfnmiopoaaGreat.fnTensorOfDone
