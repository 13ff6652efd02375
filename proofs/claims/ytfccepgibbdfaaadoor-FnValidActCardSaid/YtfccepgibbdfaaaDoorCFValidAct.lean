/- The law FnValidAct returns true for all its arguments,and every argument reads afterwards as it read before. Its conditions: none but that the table of the sizes of fields holds what the program's text lays in it,which the card ties. -/
import Derived.Test.YtfccepgibbdfaaaDoorCB8
import Derived.Test.YtfccepgibbdfaaaDoorCW3
import Derived.Test.YtfccepgibbdfaaaDoorRows
import Derived.ProofKit
import Derived.OpenShut
import Derived.ShutString
import Derived.ChangeOld
import Derived.Below
import Derived.Lib.SmallJoins
import Derived.Lib.LaidTab
import Derived.LaidMore
import Derived.LaidOnce
import Derived.OpenVars
import Derived.ChangeVars
import Derived.Stop.Joined
import Derived.SevenTiedAt
import Derived.Test.YtfccepgibbdfaaaDoorTie
import Derived.Test.YtfccepgibbdfaaaDoorCards
namespace Go.Proofs.YtfccepgibbdfaaaDoor.fnValidActDone
open Go.ChangeShapes Go.WideShapes Go.ChangeAt Go.RowKit Go.Joins
set_option linter.unusedVariables false
set_option linter.unusedSimpArgs false

theorem own:ownKnob Tryd.prog.godebug=none:=by kernel_rfl
theorem laidOut:laidOutB Tryd.prog=true:=by kernel_rfl

theorem laid_tail {P:Program} {a:String × DataW Unit} {r:List (String × DataW Unit)} {w:World} (h:laidMet P (a :: r) w):laidMet P r w:=by
  obtain ⟨ps,⟨g,t,cs,fuel,p,q,_,_,_,_,hr,rfl⟩,hn,hc⟩:=h
  exact ⟨q,hr,(List.nodup_append.1 hn).2.1,fun b off hm=>hc b off (List.mem_append_right _ hm)⟩
theorem glob1 {W:World} {n:String} {g:Nat} {l:List Value} (hg:Tryd.prog.globalNamed n=some g) (hT:W.var? Tryd.prog n=some l.toArray):(∃ e fz,W.heap[g]?=some (.cells (Vw.gcells l) e fz)) ∧ (∀ id:Nat,(none:Option Nat) ≠ some g) ∧ ¬ False:=by
  refine ⟨?_,fun _ h=>(by cases h),fun h=>h⟩
  unfold World.var? at hT
  rw [hg] at hT
  simp only [Option.bind_some] at hT
  split at hT
  · rename_i cs e fz hw
    injection hT with hT
    subst hT
    exact ⟨e,fz,hw⟩
  · cases hT
abbrev laidL : List (String × DataW Unit) := [("loop.example/strideviews/impl.actForms", Rows.laid_loop_example_strideviews_impl_actForms)]
instance powI:PowA:=⟨[]⟩
theorem gA : Tryd.prog.globalNamed "loop.example/strideviews/impl.actForms" = some 0 := by kernel_rfl
theorem gAT:(Tryd.prog.globals[0]?).map (·.type)=some 43:=by kernel_rfl
theorem glob_of_laid {W:World} (h0:laidMetH Tryd.prog laidL W):Vw.globOk W (fun _=>none) (fun _=>False):=by
  rw [MakeChecks.laidMetH_plain _ _ _ (by kernel_rfl)] at h0
  have hA:=Vw.pairs_of_head (l:=[([115,105,122,101],1),([118,105,101,119],3),([112,97,114,116],4),([102,108,105,112],1),([102,105,108,108],2),([99,111,112,121],2),([108,111,97,100],1),([102,114,101,101],1)]) gA gAT Tryd.underlying43 Tryd.underlying42 Tryd.underlying9 Tryd.underlying3 rfl rfl (by kernel_rfl) (by kernel_rfl) (by kernel_rfl) (by kernel_rfl) h0
  intro p hp
  rcases List.mem_cons.1 hp with hp|hp
  · subst hp
    exact glob1 gA hA
  · cases hp
theorem door_met (os:Os) (args:Array Value):laidMetH Tryd.prog laidL ((World.doorLaid Tryd.prog 400 os).forCall (fun _ _=>0) ⟨#[],args,[]⟩).memory :=
  laidMetH_of_parts3 (fuel:=8) (laidMet_of_run' 8 (by kernel_rfl) (by kernel_rfl)) (by kernel_rfl) (by kernel_rfl)

set_option maxRecDepth 100000 in
theorem lifted (os:Os) (started:os.Started) (H:Type) (enc:TypeId × Value → H) :
    ReturnsInHanded {} Tryd.checked os 4 .any (fun w args=>(Rows.fnValidActSpec.pre enc Tryd.prog Tryd.f4 [] false w args ∧ laidMetH Tryd.prog laidL w) ∧ sizedMet enc Tryd.prog Tryd.f4 (OpenSpec.ofChange Rows.fnValidActSpec) false w args)
      (Rows.fnValidActSpec.post enc Tryd.prog Tryd.f4 false true false false):=by
  refine returnsInHanded_of_change_and (C:=Tryd.checked) (X:=fun w _=>laidMetH Tryd.prog laidL w) (fun _ _ _ hh h=>h.of_heap hh) own started (by kernel_rfl) Tryd.func4
    (ChangeSpec.witness_shaped (enc:=enc) (C:=Tryd.checked) (os:=os) (X:=fun w _=>laidMetH Tryd.prog laidL w) false (World.doorLaid Tryd.prog 400 os) #[.slice none 0 0] 8 rfl (World.shaped_of_RefB (by kernel_rfl) (by kernel_rfl)) (by kernel_rfl) (by kernel_rfl) (by kernel_rfl) (door_met os _)) ?_
  intro W base args ds gs before hval0 hW _ _ hL _
  have hGL:=glob_of_laid hL
  skip
  have hval:∀ (j:Nat) t v,Tryd.f4.params[j]?=some t → args[j]?=some v → Value.okWide Tryd.prog W .any base t v:=hval0
  have hW':=hW
  obtain ⟨p,q,hA0,hV,rfl,hfz,hnd⟩:=hW
  have hA:DataW.TrodAll enc Tryd.prog W 0 (fun _=>true) true Tryd.f4.params.toList args.toList ds p:=hA0
  rw [Tryd.params4] at hA hval
  obtain ⟨v0,vs0,d0,ds0,q0,e0,hargs,rfl,rfl,h0,r0⟩:=trodAll_cons hA
  obtain ⟨rfl,rfl,rfl⟩:=trodAll_nil r0
  obtain rfl:args=#[v0]:=by cases args;simp_all
  obtain ⟨gv0,gv1,gv2,gv3,gv4,gv5,rfl,hg1,hg2,hg3,hg4,rfl⟩:=trodVars_one hV
  have k0:=h0
  have lt0:∀ x ∈ q0,x.block < W.heap.size:=by obtain ⟨m,hm⟩:=k0;exact DataW.trod_lt m _ _ _ hm
  have na0:∀ cs,v0 ≠ .agg cs:=by
    intro cs hcs
    subst hcs
    have ok0:=hval 0 31 _ rfl rfl
    simp [Value.okWide,Tryd.underlying31,Cell.okWide,Cell.ok] at ok0
  obtain ⟨x0,hd0,g0⟩:=Vw.Opn.cell (Vw.Opn.slice (Vw.Opn.u8 Tryd.underlying5 (by kernel_rfl)) (by decide) Tryd.underlying31 (by kernel_rfl)) h0 na0
  replace hd0:=Vw.den_of_cell hd0
  clear hA0 hval0
  have hwalk:=lVAf_ok x0 g0.2 g0.1 W (fun _=>False) [v0] (fun _ h=>h.elim) hGL rfl (Vw.denP_mk (by first|exact hd0|simpa [Vw.enI,Vw.enU,Vw.enB,Vw.enS,Vw.flat_ints,Vw.flat_u8] using hd0) Vw.denP_mk0)
  refine hwalk.mono fun e W' ⟨res,v,hq,he,hd,bel⟩=>?_
  subst hq
  simp only [Vw.Den] at hd
  subst hd
  subst he
  exact ⟨_,rfl,_,_,_,[],_,_,hW',trodAll_mk1 (shut_bool Tryd.underlying4 _),(trodAll_cons_mk (Below.trod laidOut (by kernel_rfl) (of_decide_eq_true (by kernel_rfl)) k0 bel lt0) trodAll_mk0),Below.trodVars laidOut bel (by kernel_rfl) hV,bel.frame _,fun h=>by cases h⟩

theorem over:Rows.fnValidActRow.holds Tryd.pinned (OpenSpec.ofChange Rows.fnValidActSpec) :=
  OpenClaim.holds_of_wide 4 Tryd.f4 rfl rfl rfl rfl rfl rfl rfl ⟨rfl,rfl,rfl,rfl,rfl⟩ rfl rfl rfl rfl rfl (by kernel_rfl) Tryd.func4 (by kernel_rfl)
    (of_decide_eq_true (by kernel_rfl)) (by unfold Func.isWrapper;first|(rw [if_pos (by decide +kernel)];kernel_rfl)|(rw [if_neg (by decide +kernel)];exact ⟨rfl,rfl⟩))
    (fun os started H enc _=>lifted os started H enc)

theorem proved:Rows.FnValidActCardSaid :=
  Claim7.holds_tied_plain_at .later [] [.data] true (true, "9458abab8a3bf4e99f9583c9fe30e03591d79db84cc5d11371e8b56b0287cb4e") false
    over (fun _ h=>by cases h) (by kernel_rfl) (fun _ h=>by cases h) fnValidAct_row_tie rfl ⟨rfl,rfl⟩ (by kernel_rfl) rfl
    (fun f fn hf hfn=>by
      obtain rfl:f=4:=Option.some.inj ((show Tryd.prog.funcNamed Rows.fnValidActRow.func=some 4 by kernel_rfl).symm.trans hf) |>.symm
      obtain rfl:fn=Tryd.f4:=(Option.some.inj (Tryd.func4.symm.trans hfn)).symm
      exact ⟨by kernel_rfl,fun j t ht=>by
        rw [Tryd.params4] at ht
        have hm:t ∈ [31]:=by simpa using Array.mem_of_getElem? ht
        have hall:([31].all fun u=>!Tryd.prog.wantsStandIn u)=true:=by kernel_rfl
        exact (show Tryd.prog.wantsStandIn t=false by simpa using List.all_eq_true.1 hall t hm)⟩)
    (by kernel_rfl)
#print axioms proved
end Go.Proofs.YtfccepgibbdfaaaDoor.fnValidActDone
