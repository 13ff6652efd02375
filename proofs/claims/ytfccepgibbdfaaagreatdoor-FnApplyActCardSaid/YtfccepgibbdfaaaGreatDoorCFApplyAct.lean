/- The law FnApplyAct returns true for all its arguments,and every argument reads afterwards as it read before. Its conditions: none but that the table of the sizes of fields holds what the program's text lays in it,which the card ties. -/
import Derived.Test.YtfccepgibbdfaaaGreatDoorCB14
import Derived.Test.YtfccepgibbdfaaaGreatDoorCW3
import Derived.Test.YtfccepgibbdfaaaGreatDoorRows
import Derived.ProofKit
import Derived.OpenShut
import Derived.ShutString
import Derived.ChangeOld
import Derived.Below
import Derived.Lib.SmallJoins
import Derived.Lib.LaidTab
import Derived.LaidMore
import Derived.LaidOnce
import Derived.OpenVars
import Derived.ChangeVars
import Derived.Stop.Joined
import Derived.Stop.LaidErr
import Derived.SevenTiedAt
import Derived.Test.YtfccepgibbdfaaaGreatDoorTie
import Derived.Test.YtfccepgibbdfaaaGreatDoorCards
namespace Go.Proofs.YtfccepgibbdfaaaGreatDoor.fnApplyActDone
open Go.ChangeShapes Go.WideShapes Go.ChangeAt Go.RowKit Go.Joins
set_option linter.unusedVariables false
set_option linter.unusedSimpArgs false

theorem own:ownKnob Tryz.prog.godebug=none:=by kernel_rfl
theorem laidOut:laidOutB Tryz.prog=true:=by kernel_rfl

theorem laid_tail {P:Program}{a:String×DataW Unit}{r:List (String×DataW Unit)}{w:World}(h:laidMet P (a::r) w):laidMet P r w:=by
 obtain ⟨ps,⟨g,t,cs,fuel,p,q,_,_,_,_,hr,rfl⟩,hn,hc⟩:=h
 exact ⟨q,hr,(List.nodup_append.1 hn).2.1,fun b off hm=>hc b off (List.mem_append_right _ hm)⟩
theorem glob1 {W:World}{n:String}{g:Nat}{l:List Value}(hg:Tryz.prog.globalNamed n=some g)(hT:W.var? Tryz.prog n=some l.toArray):(∃ e fz,W.heap[g]?=some (.cells (Vw.gcells l) e fz))∧(∀ id:Nat,(none:Option Nat)≠some g)∧¬ False:=by
 refine ⟨?_,fun _ h=>(by cases h),fun h=>h⟩
 unfold World.var? at hT
 rw [hg] at hT
 simp only [Option.bind_some] at hT
 split at hT
 ·rename_i cs e fz hw
  injection hT with hT
  subst hT
  exact ⟨e,fz,hw⟩
 ·cases hT
abbrev laidL : List (String × DataW Unit) := [("math/bits.deBruijn32tab", Rows.laid_math_bits_deBruijn32tab), ("math/bits.deBruijn64tab", Rows.laid_math_bits_deBruijn64tab), ("internal/strconv.uint64pow10", Rows.laid_internal_strconv_uint64pow10), ("loop.example/strideviews/impl.errHeld", Rows.laid_loop_example_strideviews_impl_errHeld), ("loop.example/strideviews/impl.actForms", Rows.laid_loop_example_strideviews_impl_actForms)]
theorem powD:(Rows.laid_internal_strconv_uint64pow10:DataW Unit)=Go.Lib.tabData .u64 Go.Lib.pow10Tab:=by rfl
instance powI:PowA:=⟨[(2,Go.Lib.pow10Tab.map (Value.int .u64))]⟩
instance powJ:PowB:=⟨List.mem_cons_self⟩
theorem gP : Tryz.prog.globalNamed "internal/strconv.uint64pow10" = some 2 := by kernel_rfl
theorem gPT:(Tryz.prog.globals[2]?).map (·.type)=some 196:=by kernel_rfl
theorem gA : Tryz.prog.globalNamed "loop.example/strideviews/impl.actForms" = some 1 := by kernel_rfl
theorem gAT:(Tryz.prog.globals[1]?).map (·.type)=some 100:=by kernel_rfl
theorem gE : Tryz.prog.globalNamed "loop.example/strideviews/impl.errHeld" = some 0 := by kernel_rfl
theorem gET:(Tryz.prog.globals[0]?).map (·.type)=some 76:=by kernel_rfl
theorem starE : "*" ++ "errors.errorString" = "*errors.errorString" := by decide
theorem rowE (u : TypeId) (h : Tryz.prog.typeName? 3 u = some "*errors.errorString") : u = 202 :=
 typeName_ptr_named (nm := "errors.errorString") (by rw [starE]; kernel_rfl) (by kernel_rfl) (by decide) u (by rw [starE]; exact h)
theorem glob_of_laid {W:World}(h0:laidMetH Tryz.prog laidL W):∃ a:Addr,@Vw.globOk (@globs powI ⟨a⟩) W (fun _=>none) (fun _=>False):=by
 rw [MakeChecks.laidMetH_plain _ _ _ (by kernel_rfl)] at h0
 have hp:=(laid_tail (laid_tail h0))
 rw [powD] at hp
 have hP:=Go.Lib.tabIs_of_head (k:=.u64) (zs:=Go.Lib.pow10Tab) gP gPT Tryz.underlying196 Tryz.underlying186 (by kernel_rfl) (by kernel_rfl) hp
 have hA:=Vw.pairs_of_head (l:=[([115,105,122,101],1),([118,105,101,119],3),([112,97,114,116],4),([102,108,105,112],1),([102,105,108,108],2),([99,111,112,121],2),([108,111,97,100],1),([102,114,101,101],1)]) gA gAT Tryz.underlying100 Tryz.underlying99 Tryz.underlying9 Tryz.underlying3 rfl rfl (by kernel_rfl) (by kernel_rfl) (by kernel_rfl) (by kernel_rfl) (laid_tail (laid_tail (laid_tail (laid_tail h0))))
 obtain ⟨a,s,hE,_⟩:=laid_sentinel (laid_tail (laid_tail (laid_tail h0))) gE gET Tryz.underlying76 rowE Tryz.underlying202 Tryz.underlying227 rfl rfl Tryz.underlying9 (by kernel_rfl) (by kernel_rfl)
 refine ⟨a,fun p hp=>?_⟩
 rcases List.mem_cons.1 hp with hp|hp
 ·subst hp
  exact glob1 gA hA
 rcases List.mem_cons.1 hp with hp|hp
 ·subst hp
  exact glob1 gE hE
 ·have hp':=List.mem_singleton.1 hp
  subst hp'
  exact glob1 gP hP
theorem door_met (os:Os)(args:Array Value):laidMetH Tryz.prog laidL ((World.doorLaid Tryz.prog 400 os).forCall (fun _ _=>0) ⟨#[],args,[]⟩).memory :=
 laidMetH_of_parts3 (fuel:=8) (laidMet_of_run' 8 (by kernel_rfl) (by kernel_rfl)) (by kernel_rfl) (by kernel_rfl)

set_option maxRecDepth 100000 in
theorem lifted (os:Os)(started:os.Started)(H:Type)(enc:TypeId×Value→H) :
  ReturnsInHanded {} Tryz.checked os 4 .any (fun w args=>(Rows.fnApplyActSpec.pre enc Tryz.prog Tryz.f4 [] false w args∧laidMetH Tryz.prog laidL w)∧sizedMet enc Tryz.prog Tryz.f4 (OpenSpec.ofChange Rows.fnApplyActSpec) false w args)
   (Rows.fnApplyActSpec.post enc Tryz.prog Tryz.f4 false true false false):=by
 refine returnsInHanded_of_change_and (C:=Tryz.checked) (X:=fun w _=>laidMetH Tryz.prog laidL w) (fun _ _ _ hh h=>h.of_heap hh) own started (by kernel_rfl) Tryz.func4
  (ChangeSpec.witness_shaped (enc:=enc) (C:=Tryz.checked) (os:=os) (X:=fun w _=>laidMetH Tryz.prog laidL w) false (World.doorLaid Tryz.prog 400 os) #[.slice none 0 0] 8 rfl (World.shaped_of_RefB (by kernel_rfl) (by kernel_rfl)) (by kernel_rfl) (by kernel_rfl) (by kernel_rfl) (door_met os _)) ?_
 intro W base args ds gs before hval0 hW _ _ hL _
 obtain ⟨aS,hGL⟩:=glob_of_laid hL
 letI:SentA:=⟨aS⟩
 have hval:∀ (j:Nat) t v,Tryz.f4.params[j]?=some t→args[j]?=some v→Value.okWide Tryz.prog W .any base t v:=hval0
 have hW':=hW
 obtain ⟨p,q,hA0,hV,rfl,hfz,hnd⟩:=hW
 have hA:DataW.TrodAll enc Tryz.prog W 0 (fun _=>true) true Tryz.f4.params.toList args.toList ds p:=hA0
 rw [Tryz.params4] at hA hval
 obtain ⟨v0,vs0,d0,ds0,q0,e0,hargs,rfl,rfl,h0,r0⟩:=trodAll_cons hA
 obtain ⟨rfl,rfl,rfl⟩:=trodAll_nil r0
 obtain rfl:args=#[v0]:=by cases args;simp_all
 obtain ⟨ga0,ga1,ga2,ga3,gd0,ga5,gb0,gb1,gb2,gb3,gd1,gb5,rfl,_,_,_,_,_,_,_,_,rfl⟩:=trodVars_two hV
 have k0:=h0
 have lt0:∀ x∈q0,x.block<W.heap.size:=by obtain ⟨m,hm⟩:=k0;exact DataW.trod_lt m _ _ _ hm
 have na0:∀ cs,v0≠.agg cs:=by
  intro cs hcs
  subst hcs
  have ok0:=hval 0 43 _ rfl rfl
  simp [Value.okWide,Tryz.underlying43,Cell.okWide,Cell.ok] at ok0
 obtain ⟨x0,hd0,g0⟩:=Vw.Opn.cell (Vw.Opn.slice (Vw.Opn.u8 Tryz.underlying5 (by kernel_rfl)) (by decide) Tryz.underlying43 (by kernel_rfl)) h0 na0
 replace hd0:=Vw.den_of_cell hd0
 clear hA0 hval0
 have hwalk:=lAAf_ok x0 g0.2 g0.1 W (fun _=>False) [v0] (fun _ h=>h.elim) hGL rfl (Vw.denP_mk (by first|exact hd0|simpa [Vw.enI,Vw.enU,Vw.enB,Vw.enS,Vw.flat_ints,Vw.flat_u8] using hd0) Vw.denP_mk0)
 refine hwalk.mono fun e W' ⟨res,v,hq,he,hd,bel⟩=>?_
 subst hq
 simp only [Vw.Den] at hd
 subst hd
 subst he
 exact ⟨_,rfl,_,_,_,[],_,_,hW',trodAll_mk1 (shut_bool Tryz.underlying4 _),(trodAll_cons_mk (Below.trod laidOut (by kernel_rfl) (of_decide_eq_true (by kernel_rfl)) k0 bel lt0) trodAll_mk0),Below.trodVars laidOut bel (by kernel_rfl) hV,bel.frame _,fun h=>by cases h⟩

theorem over:Rows.fnApplyActRow.holds Tryz.pinned (OpenSpec.ofChange Rows.fnApplyActSpec) :=
 OpenClaim.holds_of_wide 4 Tryz.f4 rfl rfl rfl rfl rfl rfl rfl ⟨rfl,rfl,rfl,rfl,rfl⟩ rfl rfl rfl rfl rfl (by kernel_rfl) Tryz.func4 (by kernel_rfl)
  (of_decide_eq_true (by kernel_rfl)) (by unfold Func.isWrapper;first|(rw [if_pos (by decide +kernel)];kernel_rfl)|(rw [if_neg (by decide +kernel)];exact ⟨rfl,rfl⟩))
  (fun os started H enc _=>lifted os started H enc)

theorem proved:Rows.FnApplyActCardSaid :=
 Claim7.holds_tied_plain_at .later [] [.data, .data, .data, .sentinel, .data] true (true, "05df0b96cab095ca265196aa4909d31c21771cede7b21ffe9f32ca23eb10928c") true
  over (fun _ h=>by cases h) (by kernel_rfl) (fun _ h=>by cases h) fnApplyAct_row_tie rfl ⟨rfl,rfl⟩ (by kernel_rfl) rfl
  (fun f fn hf hfn=>by
   obtain rfl:f=4:=Option.some.inj ((show Tryz.prog.funcNamed Rows.fnApplyActRow.func=some 4 by kernel_rfl).symm.trans hf) |>.symm
   obtain rfl:fn=Tryz.f4:=(Option.some.inj (Tryz.func4.symm.trans hfn)).symm
   exact ⟨by kernel_rfl,fun j t ht=>by
    rw [Tryz.params4] at ht
    have hm:t∈[43]:=by simpa using Array.mem_of_getElem? ht
    have hall:([43].all fun u=>!Tryz.prog.wantsStandIn u)=true:=by kernel_rfl
    exact (show Tryz.prog.wantsStandIn t=false by simpa using List.all_eq_true.1 hall t hm)⟩)
  (by kernel_rfl)
#print axioms proved
end Go.Proofs.YtfccepgibbdfaaaGreatDoor.fnApplyActDone
