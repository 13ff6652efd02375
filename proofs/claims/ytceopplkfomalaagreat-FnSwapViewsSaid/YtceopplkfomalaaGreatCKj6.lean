import Derived.Test.YtceopplkfomalaaGreatCKj5
import Derived.Test.YtceopplkfomalaaGreatCM1
import Derived.Test.YtceopplkfomalaaGreatCW3
set_option linter.unusedSimpArgs false
set_option linter.unusedVariables false
set_option maxRecDepth 4000
set_option maxHeartbeats 4000000
namespace Go.Proofs.YtceopplkfomalaaGreat
open VwM Vw Go

set_option maxHeartbeats 32000000 in
theorem memPair_ok (bs:List Int) (p:Int) (hb:okB bs) (hp:0 ≤ p ∧ p ≤ 500000):BCall Tryz.prog 46 [.ref 0 2 0] [RD bs p] (fun r H'=>∃ mem b sh st b' sh' st' q,(1 ≤ mem.length ∧ mem.length ≤ 60 ∧ sh.length ≤ 5 ∧ st.length ≤ 5 ∧ sh'.length ≤ 5 ∧ st'.length ≤ 5) ∧ (p ≤ q ∧ q ≤ p + 500) ∧
    ((r=.tup [.own 1 mem.length 1,.agg [.int .i64 b,.own 2 sh.length 1,.own 3 st.length 1],.agg [.int .i64 b',.own 4 sh'.length 1,.own 5 st'.length 1]] ∧ H'=[RD bs q,IL mem,IL sh,IL st,IL sh',IL st']) ∨
     (r=.tup [.own 1 mem.length 1,.agg [.int .i64 b,.own 2 sh.length 1,.own 3 st.length 1],.agg [.int .i64 b',.rows true (IL sh') sh'.length,.rows true (IL st') st'.length]] ∧ H'=[RD bs q,IL mem,IL sh,IL st]))):=by
  refine bcall_of (pins:=[0]) (pin:=1) l46_eq rfl rfl rfl ?_
  (repeat' (first
 | (first|refine awp_seq ?_|refine awp_block ?_)
 | ((first|refine awp_reg ?_|refine awp_drawX (mid:=l46r3a) (post:=l46r3b) [48] mixed (by decide) ?_|refine awp_condB ?_|refine awp_skip ?_|refine awp_exit ?_);simp (disch:=omega) only [push_cast,seval,l46r0,l46r1,l46r2,l46r3a,l46r3b,l46r3])
 | ((first|refine condB_split (fun h=>?_) (fun h=>?_)|refine gIf_split (fun h=>?_) (fun h=>?_)|refine qIf_split (fun h=>?_) (fun h=>?_))<;>(try simp only [h])<;>(try simp only [bitvec_to_nat] at h)<;>(try simp only [h])<;>(first|(exfalso;omega)|(focus (exfalso;simp_all;done))|(simp (disch:=omega) only [push_cast,seval])|skip))
 | ((first|((with_reducible refine callD_ids (f:=45) [0] true ?_);simp (disch:=omega) only [push_cast,seval];(refine call1D (id:=0) (someMem_ok _ _ ?_ ?_) (by first|((simp (disch:=omega) only [push_cast,seval]);done)|((simp (disch:=omega) only [push_cast,seval]);rfl)) ?_;(iterate 2 (exact sd));rintro _ _ ⟨xs,q,⟨hxs,hxl⟩,hq,rfl,rfl⟩))|((with_reducible refine callD_ids (f:=75) [0] true ?_);simp (disch:=omega) only [push_cast,seval];(refine call1D (id:=0) (copyOf_ok _ _ ?_ ?_) (by first|((simp (disch:=omega) only [push_cast,seval]);done)|((simp (disch:=omega) only [push_cast,seval]);rfl)) ?_;(iterate 2 (exact sd));rintro _ _ ⟨b,sh,st,b',sh',st',q,⟨hc1,hc2,hc3,hc4⟩,hq,(⟨rfl,rfl⟩|⟨rfl,rfl⟩)⟩)))<;>(try simp (disch:=omega) only [push_cast,seval]))))
  all_goals first
    | ((refine awp_ret ⟨.inr rfl,[144,192,193,194,195],[],_,by decide,rfl,?_⟩;(try simp (disch:=omega) only [push_cast,seval,↓allMem_nil,↓allMem_cons,↓List.map_cons,↓List.map_nil]));exact ⟨_,_,_,_,_,_,_,_,⟨by assumption,by assumption,by omega,by omega,by omega,by omega⟩,by omega,.inl ⟨rfl,rfl⟩⟩)
    | ((refine awp_ret ⟨.inr rfl,[144,192,193],[],_,by decide,rfl,?_⟩;(try simp (disch:=omega) only [push_cast,seval,↓allMem_nil,↓allMem_cons,↓List.map_cons,↓List.map_nil]));exact ⟨_,_,_,_,_,_,_,_,⟨by assumption,by assumption,by omega,by omega,by omega,by omega⟩,by omega,.inr ⟨rfl,rfl⟩⟩)


def pairP (r:AV):Prop:=∃ mem b sh st b' sh' st' k1 k2 k3 k4 k5,(mem.length=k1 ∧ sh.length=k2 ∧ st.length=k3 ∧ sh'.length=k4 ∧ st'.length=k5 ∧ 1 ≤ mem.length ∧ mem.length ≤ 60 ∧ sh.length ≤ 5 ∧ st.length ≤ 5 ∧ sh'.length ≤ 5 ∧ st'.length ≤ 5) ∧ r=.tup [.rows true (IL mem) k1,.agg [.int .i64 b,.rows true (IL sh) k2,.rows true (IL st) k3],.agg [.int .i64 b',.rows true (IL sh') k4,.rows true (IL st') k5]]
def pairB (r:AV) (H':List (List AV)):Prop:=∃ mem b sh st b' sh' st',(1 ≤ mem.length ∧ mem.length ≤ 60 ∧ sh.length ≤ 5 ∧ st.length ≤ 5 ∧ sh'.length ≤ 5 ∧ st'.length ≤ 5) ∧
    ((r=.tup [.own 0 mem.length 1,.agg [.int .i64 b,.own 1 sh.length 1,.own 2 st.length 1],.agg [.int .i64 b',.own 3 sh'.length 1,.own 4 st'.length 1]] ∧ H'=[IL mem,IL sh,IL st,IL sh',IL st']) ∨
     (r=.tup [.own 0 mem.length 1,.agg [.int .i64 b,.own 1 sh.length 1,.own 2 st.length 1],.agg [.int .i64 b',.rows true (IL sh') sh'.length,.rows true (IL st') st'.length]] ∧ H'=[IL mem,IL sh,IL st]))
theorem pair_plain {P:Program} {f:Nat} {args:List AV} (h:BCall P f args [] pairB):PCall P f args pairP:=by
  refine (BCall.plain h).mono ?_
  rintro r ⟨r0,H',⟨mem,b,sh,st,b',sh',st',⟨h1,h2,h3,h4,h5,h6⟩,(⟨rfl,rfl⟩|⟨rfl,rfl⟩)⟩,rfl⟩
  · exact ⟨mem,b,sh,st,b',sh',st',_,_,_,_,_,⟨rfl,rfl,rfl,rfl,rfl,h1,h2,h3,h4,h5,h6⟩,by simp [AV.ren,nthH,List.map_map,Function.comp_def]⟩
  · exact ⟨mem,b,sh,st,b',sh',st',_,_,_,_,_,⟨rfl,rfl,rfl,rfl,rfl,h1,h2,h3,h4,h5,h6⟩,by simp [AV.ren,nthH,List.map_map,Function.comp_def]⟩

end Go.Proofs.YtceopplkfomalaaGreat
