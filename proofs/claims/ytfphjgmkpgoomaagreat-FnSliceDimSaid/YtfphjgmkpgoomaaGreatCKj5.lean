import Derived.Test.YtfphjgmkpgoomaaGreatCKj3
import Derived.Test.YtfphjgmkpgoomaaGreatCM1
import Derived.Test.YtfphjgmkpgoomaaGreatCW3
set_option linter.unusedSimpArgs false
set_option linter.unusedVariables false
set_option maxRecDepth 4000
set_option maxHeartbeats 4000000
namespace Go.Proofs.YtfphjgmkpgoomaaGreat
open VwM Vw Go

theorem plainMVJ {P:Program} {f:Nat} {args:List AV} {ok:Bool} {b:Int} {sh st:List Int} (h:BCall P f args [] (MV ok b sh st)) (h1:ok=true → sh.length ≤ 5) (h2:ok=true → st.length ≤ 5):PCall P f args (fun r=>∃ ok b' sh' st' k1 k2,(sh'.length=k1 ∧ st'.length=k2 ∧ sh'.length ≤ 5 ∧ st'.length ≤ 5) ∧ r=.tup [.agg [.int .i64 b',.rows true (IL sh') k1,.rows true (IL st') k2],.bool ok]):=by
  refine (BCall.plain h).mono ?_
  rintro r ⟨r0,H',⟨rfl,rfl⟩,rfl⟩
  refine ⟨ok,MVB ok b,MVL ok sh,MVL ok st,_,_,⟨rfl,rfl,?_,?_⟩,by simp [AV.ren,nthH,List.map_map,Function.comp_def]⟩
  · cases ok with
    | false=>simp [MVL]
    | true=>exact h1 rfl
  · cases ok with
    | false=>simp [MVL]
    | true=>exact h2 rfl


theorem relFlipP_ok (b:Int) (sh st:List Int) (n m:Nat) (d:Int) (hn:sh.length=n) (hm:st.length=m) (hb:n ≤ 5 ∧ m ≤ 5):PCall Tryz.prog 138 [.agg [.int .i64 b,.rows false (IL sh) n,.rows false (IL st) m],.int .i64 d] (fun r=>∃ ok b' sh' st' k1 k2,(sh'.length=k1 ∧ st'.length=k2 ∧ sh'.length ≤ 5 ∧ st'.length ≤ 5) ∧ r=.tup [.agg [.int .i64 b',.rows true (IL sh') k1,.rows true (IL st') k2],.bool ok]):=by
  refine plainMVJ (sFlipDim_ok b sh st n m d hn hm (by omega)) (fun _=>by rw [cutSh_length];omega) (fun hok=>?_)
  by_cases hl:sh.length=st.length
  · rw [cutSt_length (by omega)];omega
  · simp [sdOk,vV,vSt,Ne.symm hl] at hok

end Go.Proofs.YtfphjgmkpgoomaaGreat
