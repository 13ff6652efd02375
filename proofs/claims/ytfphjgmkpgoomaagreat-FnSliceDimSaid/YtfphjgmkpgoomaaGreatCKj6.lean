import Derived.Test.YtfphjgmkpgoomaaGreatCKj5
import Derived.Test.YtfphjgmkpgoomaaGreatCM1
import Derived.Test.YtfphjgmkpgoomaaGreatCW3
set_option linter.unusedSimpArgs false
set_option linter.unusedVariables false
set_option maxRecDepth 4000
set_option maxHeartbeats 4000000
namespace Go.Proofs.YtfphjgmkpgoomaaGreat
open VwM Vw Go

def pairP (r:AV):Prop:=∃ mem b sh st b' sh' st' k1 k2 k3 k4 k5,(mem.length=k1 ∧ sh.length=k2 ∧ st.length=k3 ∧ sh'.length=k4 ∧ st'.length=k5 ∧ 1 ≤ mem.length ∧ mem.length ≤ 60 ∧ sh.length ≤ 5 ∧ st.length ≤ 5 ∧ sh'.length ≤ 5 ∧ st'.length ≤ 5) ∧ r=.tup [.rows true (IL mem) k1,.agg [.int .i64 b,.rows true (IL sh) k2,.rows true (IL st) k3],.agg [.int .i64 b',.rows true (IL sh') k4,.rows true (IL st') k5]]
def pairB (r:AV) (H':List (List AV)):Prop:=∃ mem b sh st b' sh' st',(1 ≤ mem.length ∧ mem.length ≤ 60 ∧ sh.length ≤ 5 ∧ st.length ≤ 5 ∧ sh'.length ≤ 5 ∧ st'.length ≤ 5) ∧
    ((r=.tup [.own 0 mem.length 1,.agg [.int .i64 b,.own 1 sh.length 1,.own 2 st.length 1],.agg [.int .i64 b',.own 3 sh'.length 1,.own 4 st'.length 1]] ∧ H'=[IL mem,IL sh,IL st,IL sh',IL st']) ∨
     (r=.tup [.own 0 mem.length 1,.agg [.int .i64 b,.own 1 sh.length 1,.own 2 st.length 1],.agg [.int .i64 b',.rows true (IL sh') sh'.length,.rows true (IL st') st'.length]] ∧ H'=[IL mem,IL sh,IL st]))
theorem pair_plain {P:Program} {f:Nat} {args:List AV} (h:BCall P f args [] pairB):PCall P f args pairP:=by
  refine (BCall.plain h).mono ?_
  rintro r ⟨r0,H',⟨mem,b,sh,st,b',sh',st',⟨h1,h2,h3,h4,h5,h6⟩,(⟨rfl,rfl⟩|⟨rfl,rfl⟩)⟩,rfl⟩
  · exact ⟨mem,b,sh,st,b',sh',st',_,_,_,_,_,⟨rfl,rfl,rfl,rfl,rfl,h1,h2,h3,h4,h5,h6⟩,by simp [AV.ren,nthH,List.map_map,Function.comp_def]⟩
  · exact ⟨mem,b,sh,st,b',sh',st',_,_,_,_,_,⟨rfl,rfl,rfl,rfl,rfl,h1,h2,h3,h4,h5,h6⟩,by simp [AV.ren,nthH,List.map_map,Function.comp_def]⟩

end Go.Proofs.YtfphjgmkpgoomaaGreat
