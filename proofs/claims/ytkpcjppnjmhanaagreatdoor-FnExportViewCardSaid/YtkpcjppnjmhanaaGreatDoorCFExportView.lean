/- The law FnExportView returns true for all its arguments,and every argument reads afterwards as it read before. Its conditions: none but that the table of the sizes of fields holds what the program's text lays in it,which the card ties. -/
import Derived.Test.YtkpcjppnjmhanaaGreatDoorCB12
import Derived.Test.YtkpcjppnjmhanaaGreatDoorCW3
import Derived.Test.YtkpcjppnjmhanaaGreatDoorRows
import Derived.ProofKit
import Derived.OpenShut
import Derived.ShutString
import Derived.ChangeOld
import Derived.Below
import Derived.Lib.SmallJoins
import Derived.Lib.LaidTab
import Derived.LaidMore
import Derived.LaidOnce
import Derived.OpenVars
import Derived.ChangeVars
import Derived.Stop.Joined
import Derived.Stop.LaidErr
import Derived.SevenTiedAt
import Derived.Test.YtkpcjppnjmhanaaGreatDoorTie
import Derived.Test.YtkpcjppnjmhanaaGreatDoorCards
namespace Go.Proofs.YtkpcjppnjmhanaaGreatDoor.fnExportViewDone
open Go.ChangeShapes Go.WideShapes Go.ChangeAt Go.RowKit Go.Joins
set_option linter.unusedVariables false
set_option linter.unusedSimpArgs false

theorem own:ownKnob Tryz.prog.godebug=none:=by kernel_rfl
theorem laidOut:laidOutB Tryz.prog=true:=by kernel_rfl

abbrev vN : String := Rows.fnExportViewRow.named.headD ""
theorem gN:Tryz.prog.globalNamed vN=some 0:=by kernel_rfl
theorem gT:(Tryz.prog.globals[0]?).map (·.type)=some 64:=by kernel_rfl
theorem starE : "*" ++ "errors.errorString" = "*errors.errorString" := by decide
theorem rowE (u : TypeId) (h : Tryz.prog.typeName? 3 u = some "*errors.errorString") : u = 200 :=
  typeName_ptr_named (nm := "errors.errorString") (by rw [starE]; kernel_rfl) (by kernel_rfl) (by decide) u (by rw [starE]; exact h)
abbrev laidL:List (String × DataW Unit):=[(vN,Rows.laid_loop_example_strideviews_impl_errHeld)]
theorem glob_of_laid {W:World} (h:laidMetH Tryz.prog laidL W):∃ a:Addr,@Vw.globOk (@globs ⟨a⟩) W (fun _=>none) (fun _=>False):=by
  rw [MakeChecks.laidMetH_plain _ _ _ (by kernel_rfl)] at h
  obtain ⟨a,s,hT,_⟩:=laid_sentinel h gN gT Tryz.underlying64 rowE Tryz.underlying200 Tryz.underlying225 rfl rfl Tryz.underlying9 (by kernel_rfl) (by kernel_rfl)
  refine ⟨a,fun p hp=>?_⟩
  have hp':p=(0,[.iface 200 (.pointer (some a))]):=List.mem_singleton.1 hp
  subst hp'
  refine ⟨?_,fun _ h=>(by cases h),fun h=>h⟩
  unfold World.var? at hT
  rw [gN] at hT
  simp only [Option.bind_some] at hT
  split at hT
  · rename_i cs e fz hw
    injection hT with hT
    subst hT
    exact ⟨e,fz,hw⟩
  · cases hT
theorem door_met (os:Os) (args:Array Value):laidMetH Tryz.prog laidL ((World.doorLaid Tryz.prog 400 os).forCall (fun _ _=>0) ⟨#[],args,[]⟩).memory :=
  laidMetH_of_parts3 (fuel:=8) (laidMet_of_run' 8 (by kernel_rfl) (by kernel_rfl)) (by kernel_rfl) (by kernel_rfl)

set_option maxRecDepth 100000 in
theorem lifted (os:Os) (started:os.Started) (H:Type) (enc:TypeId × Value → H) :
    ReturnsInHanded {} Tryz.checked os 7 .any (fun w args=>(Rows.fnExportViewSpec.pre enc Tryz.prog Tryz.f7 [] false w args ∧ laidMetH Tryz.prog laidL w) ∧ sizedMet enc Tryz.prog Tryz.f7 (OpenSpec.ofChange Rows.fnExportViewSpec) false w args)
      (Rows.fnExportViewSpec.post enc Tryz.prog Tryz.f7 false true false false):=by
  refine returnsInHanded_of_change_and (C:=Tryz.checked) (X:=fun w _=>laidMetH Tryz.prog laidL w) (fun _ _ _ hh h=>h.of_heap hh) own started (by kernel_rfl) Tryz.func7
    (ChangeSpec.witness_shaped (enc:=enc) (C:=Tryz.checked) (os:=os) (X:=fun w _=>laidMetH Tryz.prog laidL w) false (World.doorLaid Tryz.prog 400 os) #[.slice none 0 0] 8 rfl (World.shaped_of_RefB (by kernel_rfl) (by kernel_rfl)) (by kernel_rfl) (by kernel_rfl) (by kernel_rfl) (door_met os _)) ?_
  intro W base args ds gs before hval0 hW _ _ hL _
  obtain ⟨aS,hGL⟩:=glob_of_laid hL
  letI:SentA:=⟨aS⟩
  have hval:∀ (j:Nat) t v,Tryz.f7.params[j]?=some t → args[j]?=some v → Value.okWide Tryz.prog W .any base t v:=hval0
  have hW':=hW
  obtain ⟨p,q,hA0,hV,rfl,hfz,hnd⟩:=hW
  have hA:DataW.TrodAll enc Tryz.prog W 0 (fun _=>true) true Tryz.f7.params.toList args.toList ds p:=hA0
  rw [Tryz.params7] at hA hval
  obtain ⟨v0,vs0,d0,ds0,q0,e0,hargs,rfl,rfl,h0,r0⟩:=trodAll_cons hA
  obtain ⟨rfl,rfl,rfl⟩:=trodAll_nil r0
  obtain rfl:args=#[v0]:=by cases args;simp_all
  obtain ⟨gv0,gv1,gv2,gv3,gv4,gv5,rfl,hg1,hg2,hg3,hg4,rfl⟩:=trodVars_one hV
  have k0:=h0
  have lt0:∀ x ∈ q0,x.block < W.heap.size:=by obtain ⟨m,hm⟩:=k0;exact DataW.trod_lt m _ _ _ hm
  have na0:∀ cs,v0 ≠ .agg cs:=by
    intro cs hcs
    subst hcs
    have ok0:=hval 0 22 _ rfl rfl
    simp [Value.okWide,Tryz.underlying22,Cell.okWide,Cell.ok] at ok0
  obtain ⟨x0,hd0,g0⟩:=Vw.Opn.cell (Vw.Opn.slice (Vw.Opn.u8 Tryz.underlying5 (by kernel_rfl)) (by decide) Tryz.underlying22 (by kernel_rfl)) h0 na0
  replace hd0:=Vw.den_of_cell hd0
  clear hA0 hval0
  have hwalk:=lEVf_ok x0 g0.2 g0.1 W (fun _=>False) [v0] (fun _ h=>h.elim) hGL rfl (Vw.denP_mk (by first|exact hd0|simpa [Vw.enI,Vw.enU,Vw.enB,Vw.enS,Vw.flat_ints,Vw.flat_u8] using hd0) Vw.denP_mk0)
  refine hwalk.mono fun e W' ⟨res,v,hq,he,hd,bel⟩=>?_
  subst hq
  simp only [Vw.Den] at hd
  subst hd
  subst he
  exact ⟨_,rfl,_,_,_,[],_,_,hW',trodAll_mk1 (shut_bool Tryz.underlying4 _),(trodAll_cons_mk (Below.trod laidOut (by kernel_rfl) (of_decide_eq_true (by kernel_rfl)) k0 bel lt0) trodAll_mk0),Below.trodVars laidOut bel (by kernel_rfl) hV,bel.frame _,fun h=>by cases h⟩

theorem over:Rows.fnExportViewRow.holds Tryz.pinned (OpenSpec.ofChange Rows.fnExportViewSpec) :=
  OpenClaim.holds_of_wide 7 Tryz.f7 rfl rfl rfl rfl rfl rfl rfl ⟨rfl,rfl,rfl,rfl,rfl⟩ rfl rfl rfl rfl rfl (by kernel_rfl) Tryz.func7 (by kernel_rfl)
    (of_decide_eq_true (by kernel_rfl)) (by unfold Func.isWrapper;first|(rw [if_pos (by decide +kernel)];kernel_rfl)|(rw [if_neg (by decide +kernel)];exact ⟨rfl,rfl⟩))
    (fun os started H enc _=>lifted os started H enc)

theorem proved:Rows.FnExportViewCardSaid :=
  Claim7.holds_tied_plain_at .later [] [.sentinel] true (true, "c397bddbcf19e8e4cbc5392afd75a3686c13b326eae50dba917128744084d8b0") true
    over (fun _ h=>by cases h) (by kernel_rfl) (fun _ h=>by cases h) fnExportView_row_tie rfl ⟨rfl,rfl⟩ (by kernel_rfl) rfl
    (fun f fn hf hfn=>by
      obtain rfl:f=7:=Option.some.inj ((show Tryz.prog.funcNamed Rows.fnExportViewRow.func=some 7 by kernel_rfl).symm.trans hf) |>.symm
      obtain rfl:fn=Tryz.f7:=(Option.some.inj (Tryz.func7.symm.trans hfn)).symm
      exact ⟨by kernel_rfl,fun j t ht=>by
        rw [Tryz.params7] at ht
        have hm:t ∈ [22]:=by simpa using Array.mem_of_getElem? ht
        have hall:([22].all fun u=>!Tryz.prog.wantsStandIn u)=true:=by kernel_rfl
        exact (show Tryz.prog.wantsStandIn t=false by simpa using List.all_eq_true.1 hall t hm)⟩)
    (by kernel_rfl)
#print axioms proved
end Go.Proofs.YtkpcjppnjmhanaaGreatDoor.fnExportViewDone
