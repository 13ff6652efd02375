import Derived.Test.YtfkbhkpbfnklaaaCKp4
import Derived.Test.YtfkbhkpbfnklaaaCM1
import Derived.Test.YtfkbhkpbfnklaaaCW3
set_option linter.unusedSimpArgs false
set_option linter.unusedVariables false
set_option maxRecDepth 4000
set_option maxHeartbeats 4000000
namespace Go.Proofs.Ytfkbhkpbfnklaaa
open VwM Vw Go

theorem innL_all7 {p:Nat → Bool}:∀ {L:List AV},(∀ a ∈ L,a.inn p=true) → innL p L=true
  | [],_=>rfl
  | a :: r,h=>by
    simp only [innL,Bool.and_eq_true]
    exact ⟨h a (by simp),innL_all7 fun x hx=>h x (by simp [hx])⟩
theorem innL_mem7 {p:Nat → Bool}:∀ {L:List AV},innL p L=true → ∀ a ∈ L,a.inn p=true
  | a :: r,h,x,hx=>by
    simp only [innL,Bool.and_eq_true] at h
    rcases List.mem_cons.1 hx with e|e
    · rw [e];exact h.1
    · exact innL_mem7 h.2 x e
theorem zc_mem7 {zs:List AV} {n:Nat} {a:AV} (h:a ∈ zcells zs n):a ∈ zs ∨ a=.unk:=by
  simp only [zcells,List.mem_map,List.mem_range] at h
  obtain ⟨i,_,rfl⟩:=h
  by_cases hi:i % zs.length < zs.length
  · left;simp [List.getD,hi]
  · right;simp [List.getD,List.getElem?_eq_none (Nat.le_of_not_lt hi)]
theorem set2 {A D:List AV} {p:Nat} (h:A.length=p) (hD:2 ≤ D.length) (a b:AV):((A ++ D).set p a).set (p + 1) b=A ++ [a,b] ++ D.drop 2:=by
  subst h
  match D,hD with
  | d0 :: d1 :: D,_=>simp [List.set_append]
theorem set1 {A D:List AV} {p:Nat} (h:A.length=p) (hD:1 ≤ D.length) (a:AV):(A ++ D).set p a=A ++ [a] ++ D.drop 1:=by
  subst h
  match D,hD with
  | d0 :: D,_=>simp [List.set_append]
theorem TL_step {ts:List Tn} {i:Nat} {x y:List Int} (hv:ts[i]?=some (x,y)) {Z:List AV} (hZ:Z.length=ts.length * 2) :
    ((TL true (ts.take i) ++ Z.drop (i * 2)).set (i * 2) (.rows true (IL x) x.length)).set (i * 2 + 1) (.rows true (IL y) y.length)=TL true (ts.take (i + 1)) ++ Z.drop ((i + 1) * 2):=by
  have hi:i < ts.length:=(List.getElem?_eq_some_iff.1 hv).1
  rw [set2 (by rw [TL_length,List.length_take];omega) (by rw [List.length_drop];omega),List.drop_drop,List.take_add_one,hv,TL_append,show i * 2 + 2=(i + 1) * 2 by omega]
  rfl
theorem LL_step {ls:List (List Int)} {i:Nat} {l:List Int} (hv:ls[i]?=some l) {Z:List AV} (hZ:Z.length=ls.length) :
    (LL true (ls.take i) ++ Z.drop i).set i (.rows true (IL l) l.length)=LL true (ls.take (i + 1)) ++ Z.drop (i + 1):=by
  have hi:i < ls.length:=(List.getElem?_eq_some_iff.1 hv).1
  rw [set1 (by rw [LL_length,List.length_take];omega) (by rw [List.length_drop];omega),List.drop_drop,List.take_add_one,hv,LL_append]
  rfl
theorem exB_some {ts:List Tn} {n:Nat} (h:∀ t ∈ ts,t.1.length ≤ n ∧ t.2.length ≤ n) {i:Nat} {x y:List Int} (ht:ts[i]?=some (x,y)):x.length ≤ n ∧ y.length ≤ n:=h _ (List.mem_of_getElem? ht)


theorem toIntSP_ok (xs:List Int) (n:Nat) (hn:xs.length=n) (hb:n ≤ 1099511627776):PCall Try.prog 17 [.rows false (IL xs) n] (fun r=>r=.rows true (IL xs) xs.length):=plainI (toIntS_ok xs n hn hb)




theorem flat_T3:∀ x0:List (List Int × List Int × Unit),(x0.flatMap fun p=>Vw.enS Vw.enI p.1 ++ (Vw.enS Vw.enI p.2.1 ++ []))=TL false (x0.map fun p=>(p.1,p.2.1))
  | []=>rfl
  | p :: r=>by
    rw [List.flatMap_cons,flat_T3 r]
    simp [Vw.enI,Vw.enS,Vw.flat_ints,TL]
theorem flat_L2:∀ x0:List (List Int),(x0.flatMap fun p=>Vw.enS Vw.enI p)=LL false x0
  | []=>rfl
  | p :: r=>by
    rw [List.flatMap_cons,flat_L2 r]
    simp [Vw.enI,Vw.enS,Vw.flat_ints,LL]

end Go.Proofs.Ytfkbhkpbfnklaaa
