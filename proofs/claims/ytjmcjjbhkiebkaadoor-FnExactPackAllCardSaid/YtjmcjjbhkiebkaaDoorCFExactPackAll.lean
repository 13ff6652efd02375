/- The law FnExactPackAll returns true for all its arguments,and every argument reads afterwards as it read before. Its conditions: none but that the table of the sizes of fields holds what the program's text lays in it,which the card ties. -/
import Derived.Test.YtjmcjjbhkiebkaaDoorCB4
import Derived.Test.YtjmcjjbhkiebkaaDoorCW3
import Derived.Test.YtjmcjjbhkiebkaaDoorRows
import Derived.ProofKit
import Derived.OpenShut
import Derived.ShutString
import Derived.ChangeOld
import Derived.Below
import Derived.Lib.SmallJoins
import Derived.Lib.LaidTab
import Derived.LaidMore
import Derived.LaidOnce
import Derived.OpenVars
import Derived.ChangeVars
import Derived.Stop.Joined
import Derived.SevenTiedAt
import Derived.Test.YtjmcjjbhkiebkaaDoorTie
import Derived.Test.YtjmcjjbhkiebkaaDoorCards
namespace Go.Proofs.YtjmcjjbhkiebkaaDoor.fnExactPackAllDone
open Go.ChangeShapes Go.WideShapes Go.ChangeAt Go.RowKit Go.Joins
set_option linter.unusedVariables false
set_option linter.unusedSimpArgs false

theorem own:ownKnob Tryd.prog.godebug=none:=by kernel_rfl
theorem laidOut:laidOutB Tryd.prog=true:=by kernel_rfl

abbrev vN : String := Rows.fnExactPackAllRow.named.headD ""
theorem gN:Tryd.prog.globalNamed vN=some 0:=by kernel_rfl
theorem gT:(Tryd.prog.globals[0]?).map (·.type)=some 61:=by kernel_rfl
abbrev laidL:List (String×DataW Unit):=[(vN,Rows.laid_loop_example_strideviews_impl_fieldSizes)]
theorem glob_of_laid {W:World}(h:laidMetH Tryd.prog laidL W):Vw.globOk W (fun _=>none) (fun _=>False):=by
 rw [MakeChecks.laidMetH_plain _ _ _ (by kernel_rfl)] at h
 have hT:=Go.Lib.tabIs_of_head (k:=.i64) (zs:=[1,2,4]) (rest:=[]) gN gT Tryd.underlying61 Tryd.underlying3 (by kernel_rfl) (by kernel_rfl) h
 intro p hp
 have hp':p=(0,[.int .i64 1,.int .i64 2,.int .i64 4]):=List.mem_singleton.1 hp
 subst hp'
 refine ⟨?_,fun _ h=>(by cases h),fun h=>h⟩
 unfold Go.Lib.TabIs World.var? at hT
 rw [gN] at hT
 simp only [Option.bind_some] at hT
 split at hT
 ·rename_i cs e fz hw
  injection hT with hT
  subst hT
  exact ⟨e,fz,hw⟩
 ·cases hT
theorem door_met (os:Os)(args:Array Value):laidMetH Tryd.prog laidL ((World.doorLaid Tryd.prog 400 os).forCall (fun _ _=>0) ⟨#[],args,[]⟩).memory :=
 laidMetH_of_parts3 (fuel:=8) (laidMet_of_run' 8 (by kernel_rfl) (by kernel_rfl)) (by kernel_rfl) (by kernel_rfl)

set_option maxRecDepth 100000 in
theorem lifted (os:Os)(started:os.Started)(H:Type)(enc:TypeId×Value→H) :
  ReturnsInHanded {} Tryd.checked os 3 .any (fun w args=>(Rows.fnExactPackAllSpec.pre enc Tryd.prog Tryd.f3 [] false w args∧laidMetH Tryd.prog laidL w)∧sizedMet enc Tryd.prog Tryd.f3 (OpenSpec.ofChange Rows.fnExactPackAllSpec) false w args)
   (Rows.fnExactPackAllSpec.post enc Tryd.prog Tryd.f3 false true false false):=by
 refine returnsInHanded_of_change_and (C:=Tryd.checked) (X:=fun w _=>laidMetH Tryd.prog laidL w) (fun _ _ _ hh h=>h.of_heap hh) own started (by kernel_rfl) Tryd.func3
  (ChangeSpec.witness_shaped (enc:=enc) (C:=Tryd.checked) (os:=os) (X:=fun w _=>laidMetH Tryd.prog laidL w) false (World.doorLaid Tryd.prog 400 os) #[.agg #[.slice none 0 0,.bool false,.bool false],.slice none 0 0] 8 rfl (World.shaped_of_RefB (by kernel_rfl) (by kernel_rfl)) (by kernel_rfl) (by kernel_rfl) (by kernel_rfl) (door_met os _)) ?_
 intro W base args ds gs before hval0 hW _ _ hL _
 have hGL:=glob_of_laid hL
 skip
 have hval:∀ (j:Nat) t v,Tryd.f3.params[j]?=some t→args[j]?=some v→Value.okWide Tryd.prog W .any base t v:=hval0
 have hW':=hW
 obtain ⟨p,q,hA0,hV,rfl,hfz,hnd⟩:=hW
 have hA:DataW.TrodAll enc Tryd.prog W 0 (fun _=>true) true Tryd.f3.params.toList args.toList ds p:=hA0
 rw [Tryd.params3] at hA hval
 obtain ⟨v0,vs0,d0,ds0,q0,e0,hargs,rfl,rfl,h0,r0⟩:=trodAll_cons hA
 obtain ⟨v1,vs1,d1,ds1,q1,e1,rfl,rfl,rfl,h1,r1⟩:=trodAll_cons r0
 obtain ⟨rfl,rfl,rfl⟩:=trodAll_nil r1
 obtain rfl:args=#[v0,v1]:=by cases args;simp_all
 obtain ⟨gv0,gv1,gv2,gv3,gv4,gv5,rfl,hg1,hg2,hg3,hg4,rfl⟩:=trodVars_one hV
 have k0:=h0
 have lt0:∀ x∈q0,x.block<W.heap.size:=by obtain ⟨m,hm⟩:=k0;exact DataW.trod_lt m _ _ _ hm
 have ok0:=hval 0 24 v0 rfl rfl
 simp only [Value.okWide,Tryd.underlying24] at ok0
 obtain ⟨cs0,rfl,_⟩:=ok0
 obtain ⟨⟨p0_0,p0_1,p0_2,_⟩,hd0,g0⟩:=Vw.Opn.agg (Vw.Opn.struct (sz:=3) Tryd.underlying24 (.cons (Vw.Opn.slice (Vw.Opn.int Tryd.underlying3 (by kernel_rfl)) (by decide) Tryd.underlying22 (by kernel_rfl)) rfl (.cons (Vw.Opn.bool Tryd.underlying4 (by kernel_rfl)) rfl (.cons (Vw.Opn.bool Tryd.underlying4 (by kernel_rfl)) rfl .nil))) (by kernel_rfl) (fun _=>rfl)) h0
 have k1:=h1
 have lt1:∀ x∈q1,x.block<W.heap.size:=by obtain ⟨m,hm⟩:=k1;exact DataW.trod_lt m _ _ _ hm
 have na1:∀ cs,v1≠.agg cs:=by
  intro cs hcs
  subst hcs
  have ok1:=hval 1 25 _ rfl rfl
  simp [Value.okWide,Tryd.underlying25,Cell.okWide,Cell.ok] at ok1
 obtain ⟨x1,hd1,g1⟩:=Vw.Opn.cell (Vw.Opn.slice (Vw.Opn.slice (Vw.Opn.int Tryd.underlying3 (by kernel_rfl)) (by decide) Tryd.underlying22 (by kernel_rfl)) (by decide) Tryd.underlying25 (by kernel_rfl)) h1 na1
 replace hd1:=Vw.den_of_cell hd1
 clear hA0 hval0
 have hwalk:=lPA2_ok p0_0 p0_1 p0_2 x1 g0.1.2 g1.1 g1.2 W (fun _=>False) [.agg cs0,v1] (fun _ h=>h.elim) hGL rfl (Vw.denP_mk (by first|exact hd0|simpa [Vw.enI,Vw.enU,Vw.enB,Vw.enS,Vw.flat_ints,Vw.flat_u8] using hd0) (Vw.denP_mk (by first|exact hd1|simpa [Vw.enI,Vw.enU,Vw.enB,Vw.enS,Vw.flat_ints,Vw.flat_u8] using hd1) Vw.denP_mk0))
 refine hwalk.mono fun e W' ⟨res,v,hq,he,hd,bel⟩=>?_
 subst hq
 simp only [Vw.Den] at hd
 subst hd
 subst he
 exact ⟨_,rfl,_,_,_,[],_,_,hW',trodAll_mk1 (shut_bool Tryd.underlying4 _),(trodAll_cons_mk (Below.trod laidOut (by kernel_rfl) (of_decide_eq_true (by kernel_rfl)) k0 bel lt0) (trodAll_cons_mk (Below.trod laidOut (by kernel_rfl) (of_decide_eq_true (by kernel_rfl)) k1 bel lt1) trodAll_mk0)),Below.trodVars laidOut bel (by kernel_rfl) hV,bel.frame _,fun h=>by cases h⟩

theorem over:Rows.fnExactPackAllRow.holds Tryd.pinned (OpenSpec.ofChange Rows.fnExactPackAllSpec) :=
 OpenClaim.holds_of_wide 3 Tryd.f3 rfl rfl rfl rfl rfl rfl rfl ⟨rfl,rfl,rfl,rfl,rfl⟩ rfl rfl rfl rfl rfl (by kernel_rfl) Tryd.func3 (by kernel_rfl)
  (of_decide_eq_true (by kernel_rfl)) (by unfold Func.isWrapper;first|(rw [if_pos (by decide +kernel)];kernel_rfl)|(rw [if_neg (by decide +kernel)];exact ⟨rfl,rfl⟩))
  (fun os started H enc _=>lifted os started H enc)

theorem proved:Rows.FnExactPackAllCardSaid :=
 Claim7.holds_tied_plain_at .later [] [.data] true (true, "7ed86b91d6a1f206cc5bdd466269eef4060e5b02dd21178697a832a4f6a11930") false
  over (fun _ h=>by cases h) (by kernel_rfl) (fun _ h=>by cases h) fnExactPackAll_row_tie rfl ⟨rfl,rfl⟩ (by kernel_rfl) rfl
  (fun f fn hf hfn=>by
   obtain rfl:f=3:=Option.some.inj ((show Tryd.prog.funcNamed Rows.fnExactPackAllRow.func=some 3 by kernel_rfl).symm.trans hf) |>.symm
   obtain rfl:fn=Tryd.f3:=(Option.some.inj (Tryd.func3.symm.trans hfn)).symm
   exact ⟨by kernel_rfl,fun j t ht=>by
    rw [Tryd.params3] at ht
    have hm:t∈[24,25]:=by simpa using Array.mem_of_getElem? ht
    have hall:([24,25].all fun u=>!Tryd.prog.wantsStandIn u)=true:=by kernel_rfl
    exact (show Tryd.prog.wantsStandIn t=false by simpa using List.all_eq_true.1 hall t hm)⟩)
  (by kernel_rfl)
#print axioms proved
end Go.Proofs.YtjmcjjbhkiebkaaDoor.fnExactPackAllDone
