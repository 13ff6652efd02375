import Derived.Test.YtbplegbgofnolaaCKp14
import Derived.Test.YtbplegbgofnolaaCM1
import Derived.Test.YtbplegbgofnolaaCW3
set_option linter.unusedSimpArgs false
set_option linter.unusedVariables false
set_option maxRecDepth 4000
set_option maxHeartbeats 4000000
namespace Go.Proofs.Ytbplegbgofnolaa
open VwM Vw Go

/-- What labels have determines all extents. -/
theorem ex_unique {ts ts':List Tn} {ls ls':List (List Int)} {e e':List Int} (h:exO ts ls=some e) (h':exO ts' ls'=some e') (hm:∀ x,x ∈ ls'.flatten ↔ x ∈ ls.flatten) (hg:∀ x ∈ ls.flatten,gE e' x=gE e x):e'=e:=by
  obtain ⟨f1,f2,f3,f4,_⟩:=exO_facts h
  obtain ⟨g1,g2,g3,g4,_⟩:=exO_facts h'
  refine list_eq_of (by rw [f1,g1]) fun k hk=>?_
  rw [g1] at hk
  by_cases hk2:(k:Int) ∈ ls.flatten
  · have:=hg _ hk2
    unfold gE at this
    rwa [Int.toNat_natCast] at this
  · have a1:=f2 k hk hk2
    have a2:=f4 k hk
    have b1:=g2 k hk (fun hc=>hk2 ((hm _).1 hc))
    have b2:=g4 k hk
    omega
theorem lbS_congr {U V:List Int} (h:∀ x,x ∈ U ↔ x ∈ V):lbS U=lbS V:=by
  rw [lbS_L5,lbS_L5]
  exact List.filter_congr fun x _=>by simp [h x]
theorem ctC_parts {out e:List Int} (h:ctC out e=true):allI out 0 4=true ∧ out.Nodup ∧ vSh (out.map (gE e))=true ∧ pr (spE e) ≤ 4000:=by
  unfold ctC at h
  simp only [Bool.and_eq_true,decide_eq_true_eq] at h
  exact ⟨h.1.1.1,h.1.1.2,h.1.2,h.2⟩
/-- Two contractions with the same extents whose products are the same are the same. -/
theorem ctV_congr {ts ts':List Tn} {ls ls':List (List Int)} {e out:List Int} (hC:CtOk ts ls e) (hm:∀ x,x ∈ ls'.flatten ↔ x ∈ ls.flatten) (hg:∀ w,fitL e ls w → gP ts' ls' w=gP ts ls w) (hc:ctC out e=true):ctW ts' ls' out e=ctW ts ls out e:=by
  obtain ⟨h1,h2,h3,_⟩:=ctC_parts hc
  have ho:=out_used hC h1 h3
  have hO:∀ x ∈ out,(0 ≤ x ∧ x ≤ 4):=fun x hx=>allI_iff.1 h1 x hx
  have hS:∀ x ∈ sumd ls out,(0 ≤ x ∧ x ≤ 4):=fun x hx=>(mem_sumd.1 hx).1.1
  have h0:=(vSh_good h3).2.1
  unfold ctW
  congr 1
  unfold ctV
  refine List.map_congr_left fun p hp=>?_
  rw [List.mem_range] at hp
  congr 1
  unfold ctE
  have hs:sumd ls' out=sumd ls out:=by unfold sumd;rw [lbS_congr hm]
  rw [hs]
  have hwl:(wayK e out Z5 p).length=5:=by rw [wayK_len];rfl
  refine SS_congr (nums5 hwl hS) (sumd_nodup ls out) fun v hv h1 h2=>hg v ?_
  exact fit_two hC ho hwl (fun x hx=>wayK_in (Int.natCast_nonneg _) (nums5 rfl hO) (used_pos hC ho (n:=(pr (out.map (gE e))).toNat) (by omega) hp) hx) (by rw [hv,hwl]) h1 h2
theorem ct_congr {ts ts':List Tn} {ls ls':List (List Int)} {e out:List Int} (h:exO ts ls=some e) (h':exO ts' ls'=some e) (hm:∀ x,x ∈ ls'.flatten ↔ x ∈ ls.flatten) (hg:∀ w,fitL e ls w → gP ts' ls' w=gP ts ls w):ctT ts' ls' out=ctT ts ls out:=by
  unfold ctT
  rw [h,h']
  simp only [Option.bind_some]
  cases hc:ctC out e with
  | false=>simp
  | true=>rw [ctV_congr (ctOk_of h) hm hg hc]
theorem rev_zip {α β:Type} {xs:List α} {ys:List β} (h:ys.length=xs.length):xs.reverse.zip ys.reverse=(xs.zip ys).reverse:=by
  apply List.ext_getElem
  · simp [h]
  · intro i h1 h2
    simp [List.getElem_reverse,h]
theorem rev_at {α β:Type} {xs:List α} {ys:List β} (h:ys.length=xs.length) {i:Nat} {x:α} {y:β} (hx:xs.reverse[i]?=some x) (hy:ys.reverse[i]?=some y):∃ j:Nat,xs[j]?=some x ∧ ys[j]?=some y:=by
  have hi:i < xs.length:=by have:=(List.getElem?_eq_some_iff.1 hx).1;simpa using this
  rw [List.getElem?_reverse hi] at hx
  rw [List.getElem?_reverse (by omega),h] at hy
  exact ⟨_,hx,hy⟩
/-- Factors come in any order. -/
theorem ct_rev {ts:List Tn} {ls:List (List Int)} {e:List Int} (h:exO ts ls=some e) (out:List Int):ctT ts.reverse ls.reverse out=ctT ts ls out:=by
  have hC:=ctOk_of h
  obtain ⟨hv1,hv2,hv3,_⟩:=exO_some h
  have hm:∀ x,x ∈ ls.reverse.flatten ↔ x ∈ ls.flatten:=fun x=>by simp
  obtain ⟨e',he'⟩:=ex_of (ts:=ts.reverse) (ls:=ls.reverse) (gE e) (by rw [List.all_eq_true] at hv1 ⊢;exact fun t ht=>hv1 t (by simpa using ht)) (by simpa using hv2) (by simpa using hv3) fun i t l ht hl=>by
    obtain ⟨j,a,b⟩:=rev_at hC.num ht hl
    exact (hC.lab j t l a b).2
  have he:e'=e:=ex_unique h he' hm fun x hx=>by
    obtain ⟨l,hl,hxl⟩:=List.mem_flatten.1 hx
    obtain ⟨i,hi⟩:=List.mem_iff_getElem?.1 hl
    obtain ⟨j,hj,hj2⟩:=mem_getD.1 hxl
    have hC':=ctOk_of he'
    have hit:i < ts.length:=by have:=(List.getElem?_eq_some_iff.1 hi).1;have:=hC.num;omega
    have ht:ts[i]?=some ts[i]:=List.getElem?_eq_getElem hit
    have a1:=(hC.lab i _ l ht hi).2.2.2 j hj
    have ht':ts.reverse[ts.length - 1 - i]?=some ts[i]:=by rw [List.getElem?_reverse (by omega),show ts.length - 1 - (ts.length - 1 - i)=i by omega];exact ht
    have hl':ls.reverse[ts.length - 1 - i]?=some l:=by rw [List.getElem?_reverse (by have:=hC.num;omega),hC.num,show ts.length - 1 - (ts.length - 1 - i)=i by omega];exact hi
    have a2:=(hC'.lab _ _ l ht' hl').2.2.2 j hj
    rw [← hj2,a1,a2]
  rw [he] at he'
  refine ct_congr h he' hm fun w _=>?_
  unfold gP
  rw [rev_zip hC.num]
  exact prodL_perm ((List.reverse_perm _).map _)
theorem ct_some {ts:List Tn} {ls:List (List Int)} {out:List Int} {o:Tn} (h:ctT ts ls out=some o):∃ e,exO ts ls=some e ∧ ctC out e=true ∧ vT (ctW ts ls out e)=true ∧ o=ctW ts ls out e:=by
  unfold ctT at h
  cases he:exO ts ls with
  | none=>rw [he] at h;cases h
  | some e =>
    rw [he] at h
    simp only [Option.bind_some] at h
    split at h
    · rename_i hc
      injection h with h
      rw [Bool.and_eq_true] at hc
      exact ⟨e,rfl,hc.1,hc.2,h.symm⟩
    · cases h

end Go.Proofs.Ytbplegbgofnolaa
