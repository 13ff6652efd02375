/- The law FnExactExportPart returns true for all its arguments,and every argument reads afterwards as it read before. Its conditions: none but that the table of the sizes of fields holds what the program's text lays in it,which the card ties. -/
import Derived.Test.YtahdlohpncjdbaaGreatDoorCB12
import Derived.Test.YtahdlohpncjdbaaGreatDoorCW3
import Derived.Test.YtahdlohpncjdbaaGreatDoorRows
import Derived.ProofKit
import Derived.OpenShut
import Derived.ShutString
import Derived.ChangeOld
import Derived.Below
import Derived.Lib.SmallJoins
import Derived.Lib.LaidTab
import Derived.LaidMore
import Derived.LaidOnce
import Derived.OpenVars
import Derived.ChangeVars
import Derived.Stop.Joined
import Derived.Stop.LaidErr
import Derived.SevenTiedAt
import Derived.Test.YtahdlohpncjdbaaGreatDoorTie
import Derived.Test.YtahdlohpncjdbaaGreatDoorCards
namespace Go.Proofs.YtahdlohpncjdbaaGreatDoor.fnExactExportPartDone
open Go.ChangeShapes Go.WideShapes Go.ChangeAt Go.RowKit Go.Joins
set_option linter.unusedVariables false
set_option linter.unusedSimpArgs false

theorem own:ownKnob Tryz.prog.godebug=none:=by kernel_rfl
theorem laidOut:laidOutB Tryz.prog=true:=by kernel_rfl

abbrev vN : String := Rows.fnExactExportPartRow.named.headD ""
theorem gN:Tryz.prog.globalNamed vN=some 0:=by kernel_rfl
theorem gT:(Tryz.prog.globals[0]?).map (·.type)=some 99:=by kernel_rfl
theorem starE : "*" ++ "errors.errorString" = "*errors.errorString" := by decide
theorem rowE (u : TypeId) (h : Tryz.prog.typeName? 3 u = some "*errors.errorString") : u = 135 :=
  typeName_ptr_named (nm := "errors.errorString") (by rw [starE]; kernel_rfl) (by kernel_rfl) (by decide) u (by rw [starE]; exact h)
abbrev laidL:List (String × DataW Unit):=[(vN,Rows.laid_loop_example_strideviews_impl_errHeld)]
theorem glob_of_laid {W:World} (h:laidMetH Tryz.prog laidL W):∃ a:Addr,@Vw.globOk (@globs ⟨a⟩) W (fun _=>none) (fun _=>False):=by
  rw [MakeChecks.laidMetH_plain _ _ _ (by kernel_rfl)] at h
  obtain ⟨a,s,hT,_⟩:=laid_sentinel h gN gT Tryz.underlying99 rowE Tryz.underlying135 Tryz.underlying161 rfl rfl Tryz.underlying9 (by kernel_rfl) (by kernel_rfl)
  refine ⟨a,fun p hp=>?_⟩
  have hp':p=(0,[.iface 135 (.pointer (some a))]):=List.mem_singleton.1 hp
  subst hp'
  refine ⟨?_,fun _ h=>(by cases h),fun h=>h⟩
  unfold World.var? at hT
  rw [gN] at hT
  simp only [Option.bind_some] at hT
  split at hT
  · rename_i cs e fz hw
    injection hT with hT
    subst hT
    exact ⟨e,fz,hw⟩
  · cases hT
theorem door_met (os:Os) (args:Array Value):laidMetH Tryz.prog laidL ((World.doorLaid Tryz.prog 400 os).forCall (fun _ _=>0) ⟨#[],args,[]⟩).memory :=
  laidMetH_of_parts3 (fuel:=8) (laidMet_of_run' 8 (by kernel_rfl) (by kernel_rfl)) (by kernel_rfl) (by kernel_rfl)

set_option maxRecDepth 100000 in
theorem lifted (os:Os) (started:os.Started) (H:Type) (enc:TypeId × Value → H) :
    ReturnsInHanded {} Tryz.checked os 3 .any (fun w args=>(Rows.fnExactExportPartSpec.pre enc Tryz.prog Tryz.f3 [] false w args ∧ laidMetH Tryz.prog laidL w) ∧ sizedMet enc Tryz.prog Tryz.f3 (OpenSpec.ofChange Rows.fnExactExportPartSpec) false w args)
      (Rows.fnExactExportPartSpec.post enc Tryz.prog Tryz.f3 false true false false):=by
  refine returnsInHanded_of_change_and (C:=Tryz.checked) (X:=fun w _=>laidMetH Tryz.prog laidL w) (fun _ _ _ hh h=>h.of_heap hh) own started (by kernel_rfl) Tryz.func3
    (ChangeSpec.witness_shaped (enc:=enc) (C:=Tryz.checked) (os:=os) (X:=fun w _=>laidMetH Tryz.prog laidL w) false (World.doorLaid Tryz.prog 400 os) #[.agg #[.slice none 0 0,.slice none 0 0],.int .i64 0,.int .i64 0,.agg #[.int .i64 0,.int .i64 0,.int .i64 0,.bool false,.bool false]] 8 rfl (World.shaped_of_RefB (by kernel_rfl) (by kernel_rfl)) (by kernel_rfl) (by kernel_rfl) (by kernel_rfl) (door_met os _)) ?_
  intro W base args ds gs before hval0 hW _ _ hL _
  obtain ⟨aS,hGL⟩:=glob_of_laid hL
  letI:SentA:=⟨aS⟩
  have hval:∀ (j:Nat) t v,Tryz.f3.params[j]?=some t → args[j]?=some v → Value.okWide Tryz.prog W .any base t v:=hval0
  have hW':=hW
  obtain ⟨p,q,hA0,hV,rfl,hfz,hnd⟩:=hW
  have hA:DataW.TrodAll enc Tryz.prog W 0 (fun _=>true) true Tryz.f3.params.toList args.toList ds p:=hA0
  rw [Tryz.params3] at hA hval
  obtain ⟨v0,vs0,d0,ds0,q0,e0,hargs,rfl,rfl,h0,r0⟩:=trodAll_cons hA
  obtain ⟨v1,vs1,d1,ds1,q1,e1,rfl,rfl,rfl,h1,r1⟩:=trodAll_cons r0
  obtain ⟨v2,vs2,d2,ds2,q2,e2,rfl,rfl,rfl,h2,r2⟩:=trodAll_cons r1
  obtain ⟨v3,vs3,d3,ds3,q3,e3,rfl,rfl,rfl,h3,r3⟩:=trodAll_cons r2
  obtain ⟨rfl,rfl,rfl⟩:=trodAll_nil r3
  obtain rfl:args=#[v0,v1,v2,v3]:=by cases args;simp_all
  obtain ⟨gv0,gv1,gv2,gv3,gv4,gv5,rfl,hg1,hg2,hg3,hg4,rfl⟩:=trodVars_one hV
  have k0:=h0
  have lt0:∀ x ∈ q0,x.block < W.heap.size:=by obtain ⟨m,hm⟩:=k0;exact DataW.trod_lt m _ _ _ hm
  have ok0:=hval 0 25 v0 rfl rfl
  simp only [Value.okWide,Tryz.underlying25] at ok0
  obtain ⟨cs0,rfl,_⟩:=ok0
  obtain ⟨⟨p0_0,p0_1,_⟩,hd0,g0⟩:=Vw.Opn.agg (Vw.Opn.struct (sz:=2) Tryz.underlying25 (.cons (Vw.Opn.slice (Vw.Opn.int Tryz.underlying3 (by kernel_rfl)) (by decide) Tryz.underlying22 (by kernel_rfl)) rfl (.cons (Vw.Opn.slice (Vw.Opn.struct (sz:=5) Tryz.underlying60 (.cons (Vw.Opn.int Tryz.underlying3 (by kernel_rfl)) rfl (.cons (Vw.Opn.struct (sz:=3) Tryz.underlying58 (.cons (Vw.Opn.int Tryz.underlying3 (by kernel_rfl)) rfl (.cons (Vw.Opn.slice (Vw.Opn.int Tryz.underlying3 (by kernel_rfl)) (by decide) Tryz.underlying22 (by kernel_rfl)) rfl (.cons (Vw.Opn.slice (Vw.Opn.int Tryz.underlying3 (by kernel_rfl)) (by decide) Tryz.underlying22 (by kernel_rfl)) rfl .nil))) (by kernel_rfl) (fun _=>rfl)) rfl (.cons (Vw.Opn.bool Tryz.underlying4 (by kernel_rfl)) rfl .nil))) (by kernel_rfl) (fun _=>rfl)) (by decide) Tryz.underlying23 (by kernel_rfl)) rfl .nil)) (by kernel_rfl) (fun _=>rfl)) h0
  have k1:=h1
  have lt1:∀ x ∈ q1,x.block < W.heap.size:=by obtain ⟨m,hm⟩:=k1;exact DataW.trod_lt m _ _ _ hm
  have na1:∀ cs,v1 ≠ .agg cs:=by
    intro cs hcs
    subst hcs
    have ok1:=hval 1 3 _ rfl rfl
    simp [Value.okWide,Tryz.underlying3,Cell.okWide,Cell.ok] at ok1
  obtain ⟨i1,hd1,g1⟩:=Vw.Opn.cell (Vw.Opn.int Tryz.underlying3 (by kernel_rfl)) h1 na1
  replace hd1:=Vw.den_of_cell hd1
  have k2:=h2
  have lt2:∀ x ∈ q2,x.block < W.heap.size:=by obtain ⟨m,hm⟩:=k2;exact DataW.trod_lt m _ _ _ hm
  have na2:∀ cs,v2 ≠ .agg cs:=by
    intro cs hcs
    subst hcs
    have ok2:=hval 2 3 _ rfl rfl
    simp [Value.okWide,Tryz.underlying3,Cell.okWide,Cell.ok] at ok2
  obtain ⟨i2,hd2,g2⟩:=Vw.Opn.cell (Vw.Opn.int Tryz.underlying3 (by kernel_rfl)) h2 na2
  replace hd2:=Vw.den_of_cell hd2
  have k3:=h3
  have lt3:∀ x ∈ q3,x.block < W.heap.size:=by obtain ⟨m,hm⟩:=k3;exact DataW.trod_lt m _ _ _ hm
  have ok3:=hval 3 27 v3 rfl rfl
  simp only [Value.okWide,Tryz.underlying27] at ok3
  obtain ⟨cs3,rfl,_⟩:=ok3
  obtain ⟨⟨p3_0,p3_1,p3_2,p3_3,p3_4,_⟩,hd3,g3⟩:=Vw.Opn.agg (Vw.Opn.struct (sz:=5) Tryz.underlying27 (.cons (Vw.Opn.int Tryz.underlying3 (by kernel_rfl)) rfl (.cons (Vw.Opn.int Tryz.underlying3 (by kernel_rfl)) rfl (.cons (Vw.Opn.int Tryz.underlying3 (by kernel_rfl)) rfl (.cons (Vw.Opn.bool Tryz.underlying4 (by kernel_rfl)) rfl (.cons (Vw.Opn.bool Tryz.underlying4 (by kernel_rfl)) rfl .nil))))) (by kernel_rfl) (fun _=>rfl)) h3
  clear hA0 hval0
  have hwalk:=lEP2_ok p0_0 p0_1 g0 i1 i2 p3_0 p3_1 p3_2 p3_3 p3_4 W (fun _=>False) [.agg cs0,v1,v2,.agg cs3] (fun _ h=>h.elim) hGL rfl (Vw.denP_mk (by first|exact hd0|simpa [Vw.enI,Vw.enU,Vw.enB,Vw.enS,Vw.flat_ints,Vw.flat_u8] using hd0) (Vw.denP_mk (by first|exact hd1|simpa [Vw.enI,Vw.enU,Vw.enB,Vw.enS,Vw.flat_ints,Vw.flat_u8] using hd1) (Vw.denP_mk (by first|exact hd2|simpa [Vw.enI,Vw.enU,Vw.enB,Vw.enS,Vw.flat_ints,Vw.flat_u8] using hd2) (Vw.denP_mk (by first|exact hd3|simpa [Vw.enI,Vw.enU,Vw.enB,Vw.enS,Vw.flat_ints,Vw.flat_u8] using hd3) Vw.denP_mk0))))
  refine hwalk.mono fun e W' ⟨res,v,hq,he,hd,bel⟩=>?_
  subst hq
  simp only [Vw.Den] at hd
  subst hd
  subst he
  exact ⟨_,rfl,_,_,_,[],_,_,hW',trodAll_mk1 (shut_bool Tryz.underlying4 _),(trodAll_cons_mk (Below.trod laidOut (by kernel_rfl) (of_decide_eq_true (by kernel_rfl)) k0 bel lt0) (trodAll_cons_mk (Below.trod laidOut (by kernel_rfl) (of_decide_eq_true (by kernel_rfl)) k1 bel lt1) (trodAll_cons_mk (Below.trod laidOut (by kernel_rfl) (of_decide_eq_true (by kernel_rfl)) k2 bel lt2) (trodAll_cons_mk (Below.trod laidOut (by kernel_rfl) (of_decide_eq_true (by kernel_rfl)) k3 bel lt3) trodAll_mk0)))),Below.trodVars laidOut bel (by kernel_rfl) hV,bel.frame _,fun h=>by cases h⟩

theorem over:Rows.fnExactExportPartRow.holds Tryz.pinned (OpenSpec.ofChange Rows.fnExactExportPartSpec) :=
  OpenClaim.holds_of_wide 3 Tryz.f3 rfl rfl rfl rfl rfl rfl rfl ⟨rfl,rfl,rfl,rfl,rfl⟩ rfl rfl rfl rfl rfl (by kernel_rfl) Tryz.func3 (by kernel_rfl)
    (of_decide_eq_true (by kernel_rfl)) (by unfold Func.isWrapper;first|(rw [if_pos (by decide +kernel)];kernel_rfl)|(rw [if_neg (by decide +kernel)];exact ⟨rfl,rfl⟩))
    (fun os started H enc _=>lifted os started H enc)

theorem proved:Rows.FnExactExportPartCardSaid :=
  Claim7.holds_tied_plain_at .later [] [.sentinel] true (true, "a9a7d3a5770a7ddb2ebd6ac2d4d9eea998614e5777f2743776c92dbe17049e12") true
    over (fun _ h=>by cases h) (by kernel_rfl) (fun _ h=>by cases h) fnExactExportPart_row_tie rfl ⟨rfl,rfl⟩ (by kernel_rfl) rfl
    (fun f fn hf hfn=>by
      obtain rfl:f=3:=Option.some.inj ((show Tryz.prog.funcNamed Rows.fnExactExportPartRow.func=some 3 by kernel_rfl).symm.trans hf) |>.symm
      obtain rfl:fn=Tryz.f3:=(Option.some.inj (Tryz.func3.symm.trans hfn)).symm
      exact ⟨by kernel_rfl,fun j t ht=>by
        rw [Tryz.params3] at ht
        have hm:t ∈ [25,3,3,27]:=by simpa using Array.mem_of_getElem? ht
        have hall:([25,3,3,27].all fun u=>!Tryz.prog.wantsStandIn u)=true:=by kernel_rfl
        exact (show Tryz.prog.wantsStandIn t=false by simpa using List.all_eq_true.1 hall t hm)⟩)
    (by kernel_rfl)
#print axioms proved
end Go.Proofs.YtahdlohpncjdbaaGreatDoor.fnExactExportPartDone
