import Derived.Test.YtbplegbgofnolaaCW3
import Derived.Test.YtbplegbgofnolaaProg
import Derived.KernelRfl
set_option maxRecDepth 100000
namespace Go.Proofs.Ytbplegbgofnolaa
open Vw Go
instance globs:Inhabited GlobT:=⟨⟨[]⟩⟩
attribute [push_cast] Bool.false_eq_true List.length_replicate
attribute [bitvec_to_nat] decide_eq_true_eq decide_eq_false_iff_not Bool.not_eq_true' Bool.not_eq_false' Bool.and_eq_true Bool.or_eq_true Bool.and_eq_false_iff Bool.or_eq_false_iff Int.not_le Int.not_lt bne_iff_ne ne_eq beq_iff_eq Bool.not_eq_true Bool.not_eq_false
theorem sd {P:Prop} (h:P:=by first|assumption|rfl|omega|(simp<;>omega)|(simp_all<;>omega)):P:=h
def l6r0:List AOper :=
  [.mk (some 2) (.mv (.const (.bool false))) none []]
def l6r1:List AOper :=
  [.mk (some 14) (.mv (.tmp 0)) none [],.mk (some 15) (.len (.tmp 14)) none [0],.mk (some 16) (.bin .gtr (.tmp 15) (.const (.int .i64 1048576))) none [1]]
def l6r2:List AOper :=
  [.mk (some 2) (.mv (.const (.bool true))) none []]
def l6r3:List AOper :=
  [.mk (some 18) (.mv (.tmp 0)) none [],.mk (some 19) (.call 20 [.tmp 18]) none [0],.mk (some 17) (.mv (.tmp 19)) none [1],.mk (some 20) (.extract (.tmp 17) 0) none [2],.mk (some 21) (.extract (.tmp 17) 1) none [2],.mk (some 22) (.extract (.tmp 17) 2) none [2],.mk (some 3) (.mv (.tmp 20)) none [3,1,0,1,2,3],.mk (some 4) (.mv (.tmp 21)) none [4,6,0,1,2,3,4,6],.mk (some 5) (.mv (.tmp 22)) none [5,7,0,1,2,3,4,5,6,7]]
def l6r4:List AOper :=
  [.mk (some 24) (.mv (.tmp 3)) none [],.mk (some 25) (.mv (.tmp 4)) none [],.mk (some 26) (.mv (.tmp 5)) none [],.mk (some 27) (.call 17 [.tmp 24,.tmp 25,.tmp 26]) none [0,1,2],.mk (some 23) (.mv (.tmp 27)) none [3],.mk (some 28) (.extract (.tmp 23) 0) none [4],.mk (some 29) (.extract (.tmp 23) 1) none [4],.mk (some 6) (.alloc [.slice none 0 0,.slice none 0 0]) none [],.mk none (.store 2 (.tmp 6) (.tmp 28)) none [7,5,3,0,1,2,3,4,5,7],.mk (some 7) (.mv (.tmp 29)) none [6,8,0,1,2,3,4,5,6,7,8]]
def l6r5:List AOper :=
  [.mk (some 31) (.mv (.tmp 3)) none [],.mk (some 32) (.mv (.tmp 4)) none [],.mk (some 33) (.mv (.tmp 5)) none [],.mk (some 34) (.call 21 [.tmp 31,.tmp 32,.tmp 33]) none [0,1,2],.mk (some 30) (.mv (.tmp 34)) none [3],.mk (some 35) (.extract (.tmp 30) 0) none [4],.mk (some 36) (.extract (.tmp 30) 1) none [4],.mk (some 8) (.alloc [.slice none 0 0,.slice none 0 0]) none [],.mk none (.store 2 (.tmp 8) (.tmp 35)) none [7,5,3,0,1,2,3,4,5,7],.mk (some 9) (.mv (.tmp 36)) none [6,8,0,1,2,3,4,5,6,7,8]]
def l6r6:List AOper :=
  [.mk (some 37) (.load true 2 (.tmp 6)) none [],.mk (some 38) (.load true 2 (.tmp 8)) none [],.mk (some 39) (.call 19 [.tmp 37,.tmp 38]) none [0,1],.mk (some 40) (.un .not (.tmp 39)) none [2],.mk (some 41) (.mv (.tmp 40)) none [3,2],.mk (some 42) (.mv (.tmp 7)) (some (41,false)) [4],.mk (some 43) (.mv (.tmp 9)) (some (41,false)) [4],.mk (some 44) (.binB .neq (.tmp 42) (.tmp 43)) (some (41,false)) [5,6,4],.mk (some 45) (.pick (.tmp 41) (.const (.bool true)) (.tmp 44)) none [4,7],.mk (some 46) (.mv (.tmp 45)) none [8,4],.mk (some 47) (.mv (.tmp 7)) (some (46,false)) [9],.mk (some 48) (.un .not (.tmp 47)) (some (46,false)) [10,9],.mk (some 49) (.pick (.tmp 46) (.const (.bool true)) (.tmp 48)) none [9,11]]
def l6r7:List AOper :=
  [.mk (some 50) (.load true 2 (.tmp 6)) none [],.mk (some 51) (.load true 2 (.tmp 8)) none [],.mk (some 52) (.call 19 [.tmp 50,.tmp 51]) none [0,1],.mk (some 53) (.mv (.tmp 52)) none [2,2],.mk (some 54) (.mv (.tmp 7)) (some (53,true)) [3],.mk (some 55) (.mv (.tmp 9)) (some (53,true)) [3],.mk (some 56) (.binB .eql (.tmp 54) (.tmp 55)) (some (53,true)) [4,5,3],.mk (some 57) (.pick (.tmp 53) (.tmp 56) (.const (.bool false))) none [3,6],.mk (some 2) (.mv (.tmp 57)) none [7,3,0,1,2,3,4,5,6,7]]
def l6r8:List AOper :=
  [.mk (some 58) (.mv (.tmp 5)) none [],.mk (some 59) (.len (.tmp 58)) none [0],.mk (some 60) (.bin .eql (.tmp 59) (.const (.int .i64 0))) none [1]]
def l6r9:List AOper :=
  [.mk (some 61) (.fld 1 (.tmp 6)) none [],.mk (some 62) (.load false 1 (.tmp 61)) none [0],.mk (some 63) (.len (.tmp 62)) none [1],.mk (some 64) (.bin .eql (.tmp 63) (.const (.int .i64 1))) none [2],.mk (some 2) (.mv (.tmp 64)) none [3,0,1,2,3]]
def l6r10:List AOper :=
  [.mk (some 66) (.mv (.tmp 3)) none [],.mk (some 67) (.mv (.tmp 4)) none [],.mk (some 68) (.mv (.tmp 5)) none [],.mk (some 69) (.slice 1 (.tmp 68) (some (.const (.int .i64 1))) none) none [2],.mk (some 70) (.call 17 [.tmp 66,.tmp 67,.tmp 69]) none [0,1,3],.mk (some 65) (.mv (.tmp 70)) none [4],.mk (some 71) (.extract (.tmp 65) 0) none [5],.mk (some 72) (.extract (.tmp 65) 1) none [5],.mk (some 10) (.alloc [.slice none 0 0,.slice none 0 0]) none [],.mk none (.store 2 (.tmp 10) (.tmp 71)) none [8,6,4,0,1,2,3,4,5,6,8],.mk (some 11) (.mv (.tmp 72)) none [7,9,0,1,2,3,4,5,6,7,8,9]]
def l6r11:List AOper :=
  [.mk (some 74) (.load true 2 (.tmp 6)) none [],.mk (some 75) (.call 28 [.tmp 74,.const (.int .i64 0)]) none [0],.mk (some 73) (.mv (.tmp 75)) none [1],.mk (some 76) (.extract (.tmp 73) 0) none [2],.mk (some 77) (.extract (.tmp 73) 1) none [2],.mk (some 12) (.alloc [.slice none 0 0,.slice none 0 0]) none [],.mk none (.store 2 (.tmp 12) (.tmp 76)) none [5,3,1,0,1,2,3,5],.mk (some 13) (.mv (.tmp 77)) none [4,6,0,1,2,3,4,5,6]]
def l6r12:List AOper :=
  [.mk (some 78) (.mv (.tmp 11)) none [],.mk (some 79) (.mv (.tmp 13)) none [],.mk (some 80) (.binB .eql (.tmp 78) (.tmp 79)) none [0,1],.mk (some 81) (.mv (.tmp 80)) none [2],.mk (some 82) (.mv (.tmp 11)) (some (81,true)) [3],.mk (some 83) (.un .not (.tmp 82)) (some (81,true)) [4,3],.mk (some 84) (.mv (.tmp 83)) (some (81,true)) [5,3,3],.mk (some 85) (.load true 2 (.tmp 10)) (some (84,false)) [6],.mk (some 86) (.load true 2 (.tmp 12)) (some (84,false)) [6],.mk (some 87) (.call 19 [.tmp 85,.tmp 86]) (some (84,false)) [7,8,6,6],.mk (some 88) (.pick (.tmp 84) (.const (.bool true)) (.tmp 87)) (some (81,true)) [6,9,3],.mk (some 89) (.pick (.tmp 81) (.tmp 88) (.const (.bool false))) none [3,10],.mk (some 2) (.mv (.tmp 89)) none [11,9,0,1,2,3,4,5,6,7,8,9,10,11]]
def l6:AFn :=
  (AFn.mk 90 1 (.seq (.reg l6r0) (.seq (.seq (.reg l6r1) (.cond (.tmp 16) (.seq (.reg l6r2) .ret) .skip)) (.seq (.reg l6r3) (.seq (.reg l6r4) (.seq (.reg l6r5) (.seq (.seq (.reg l6r6) (.cond (.tmp 49) (.seq (.reg l6r7) .ret) .skip)) (.seq (.seq (.reg l6r8) (.cond (.tmp 60) (.seq (.reg l6r9) .ret) .skip)) (.seq (.reg l6r10) (.seq (.reg l6r11) (.seq (.reg l6r12) .ret)))))))))) [.tmp 2])
theorem l6_eq:lowFn Try.prog 6=some l6:=by kernel_rfl
def l17r0:List AOper :=
  [.mk (some 6) (.alloc [.slice none 0 0,.slice none 0 0]) none [],.mk (some 7) (.mv (.const (.bool false))) none []]
def l17r1:List AOper :=
  [.mk (some 12) (.mv (.tmp 0)) none [],.mk (some 13) (.mv (.tmp 1)) none [],.mk (some 14) (.mv (.tmp 2)) none [],.mk (some 15) (.call 47 [.tmp 12,.tmp 13,.tmp 14]) none [0,1,2],.mk (some 11) (.mv (.tmp 15)) none [3],.mk (some 16) (.extract (.tmp 11) 0) none [4],.mk (some 17) (.extract (.tmp 11) 1) none [4],.mk (some 8) (.alloc [.int .i64 0,.int .i64 0,.int .i64 0,.int .i64 0,.int .i64 0]) none [],.mk none (.store 5 (.tmp 8) (.tmp 16)) none [7,5,3,0,1,2,3,4,5,7],.mk (some 9) (.mv (.tmp 17)) none [6,8,0,1,2,3,4,5,6,7,8]]
def l17r2:List AOper :=
  [.mk (some 18) (.mv (.tmp 9)) none [],.mk (some 19) (.un .not (.tmp 18)) none [0],.mk (some 20) (.mv (.tmp 19)) none [1],.mk (some 21) (.mv (.tmp 2)) (some (20,false)) [2],.mk (some 22) (.bslice 1 [.slice none 0 0] [(0,.tmp 21)] 1) (some (20,false)) [3,2],.mk (some 23) (.call 55 [.tmp 22]) (some (20,false)) [4,2,2],.mk (some 24) (.len (.tmp 23)) (some (20,false)) [5,2],.mk (some 25) (.mv (.tmp 2)) (some (20,false)) [2],.mk (some 26) (.len (.tmp 25)) (some (20,false)) [7,2],.mk (some 27) (.bin .lss (.tmp 24) (.tmp 26)) (some (20,false)) [6,8,2],.mk (some 28) (.pick (.tmp 20) (.const (.bool true)) (.tmp 27)) none [2,9],.mk (some 29) (.mv (.tmp 28)) none [10,5],.mk (some 30) (.load true 5 (.tmp 8)) (some (29,false)) [11],.mk (some 31) (.mv (.tmp 1)) (some (29,false)) [11],.mk (some 32) (.call 54 [.tmp 30,.tmp 31]) (some (29,false)) [12,13,11,11],.mk (some 33) (.bin .gtr (.tmp 32) (.const (.int .i64 4000))) (some (29,false)) [14,11],.mk (some 34) (.pick (.tmp 29) (.const (.bool true)) (.tmp 33)) none [11,15]]
def l17r3:List AOper :=
  [.mk (some 35) (.build [.slice none 0 0,.slice none 0 0] []) none [],.mk none (.store 2 (.tmp 6) (.tmp 35)) none [0,0],.mk (some 7) (.mv (.const (.bool false))) none [1,0,1]]
def l17r4:List AOper :=
  [.mk (some 36) (.load true 5 (.tmp 8)) none [],.mk (some 37) (.mv (.tmp 2)) none [],.mk (some 38) (.call 56 [.tmp 36,.tmp 37]) none [0,1],.mk (some 39) (.build [.slice none 0 0,.slice none 0 0] [(0,1,.tmp 38)]) none [2],.mk (some 10) (.alloc [.slice none 0 0,.slice none 0 0]) none [],.mk none (.store 2 (.tmp 10) (.tmp 39)) none [4,3,2,0,1,2,3,4]]
def l17r5:List AOper :=
  [.mk (some 40) (.fld 0 (.tmp 10)) none [],.mk (some 41) (.load false 1 (.tmp 40)) none [0],.mk (some 42) (.call 57 [.tmp 41]) none [1],.mk (some 43) (.un .not (.tmp 42)) none [2]]
def l17r6:List AOper :=
  [.mk (some 44) (.build [.slice none 0 0,.slice none 0 0] []) none [],.mk none (.store 2 (.tmp 6) (.tmp 44)) none [0,0],.mk (some 7) (.mv (.const (.bool false))) none [1,0,1]]
def l17r7:List AOper :=
  [.mk (some 45) (.load true 5 (.tmp 8)) none [],.mk (some 46) (.mv (.tmp 0)) none [],.mk (some 47) (.mv (.tmp 1)) none [],.mk (some 48) (.mv (.tmp 2)) none [],.mk (some 49) (.call 58 [.tmp 45,.tmp 46,.tmp 47,.tmp 48]) none [0,1,2,3],.mk (some 50) (.fld 1 (.tmp 10)) none [0,1,2,3,4],.mk none (.store 1 (.tmp 50) (.tmp 49)) none [5,4,4,0,1,2,3,4]]
def l17r8:List AOper :=
  [.mk (some 51) (.load true 2 (.tmp 10)) none [],.mk (some 52) (.call 43 [.tmp 51]) none [0],.mk (some 53) (.un .not (.tmp 52)) none [1]]
def l17r9:List AOper :=
  [.mk (some 54) (.build [.slice none 0 0,.slice none 0 0] []) none [],.mk none (.store 2 (.tmp 6) (.tmp 54)) none [0,0],.mk (some 7) (.mv (.const (.bool false))) none [1,0,1]]
def l17r10:List AOper :=
  [.mk (some 55) (.load true 2 (.tmp 10)) none [],.mk none (.store 2 (.tmp 6) (.tmp 55)) none [0,0],.mk (some 7) (.mv (.const (.bool true))) none [1,0,1]]
def l17:AFn :=
  (AFn.mk 56 3 (.seq (.reg l17r0) (.seq (.reg l17r1) (.seq (.seq (.reg l17r2) (.cond (.tmp 34) (.seq (.reg l17r3) .ret) .skip)) (.seq (.reg l17r4) (.seq (.seq (.reg l17r5) (.cond (.tmp 43) (.seq (.reg l17r6) .ret) .skip)) (.seq (.reg l17r7) (.seq (.seq (.reg l17r8) (.cond (.tmp 53) (.seq (.reg l17r9) .ret) .skip)) (.seq (.reg l17r10) .ret)))))))) [.cell 6 true 2,.tmp 7])
theorem l17_eq:lowFn Try.prog 17=some l17:=by kernel_rfl
def l19r0:List AOper :=
  [.mk (some 2) (.box (.tmp 0)) none [],.mk (some 3) (.box (.tmp 1)) none [],.mk (some 4) (.mv (.const (.bool false))) none []]
def l19r1:List AOper :=
  [.mk (some 5) (.fld 0 (.tmp 2)) none [],.mk (some 6) (.load false 1 (.tmp 5)) none [0],.mk (some 7) (.fld 0 (.tmp 3)) none [],.mk (some 8) (.load false 1 (.tmp 7)) none [2],.mk (some 9) (.call 24 [.tmp 6,.tmp 8]) none [1,3],.mk (some 10) (.mv (.tmp 9)) none [4,4],.mk (some 11) (.fld 1 (.tmp 2)) (some (10,true)) [5],.mk (some 12) (.load false 1 (.tmp 11)) (some (10,true)) [6,5],.mk (some 13) (.fld 1 (.tmp 3)) (some (10,true)) [5],.mk (some 14) (.load false 1 (.tmp 13)) (some (10,true)) [8,5],.mk (some 15) (.call 24 [.tmp 12,.tmp 14]) (some (10,true)) [7,9,5,5],.mk (some 16) (.pick (.tmp 10) (.tmp 15) (.const (.bool false))) none [5,10],.mk (some 4) (.mv (.tmp 16)) none [11,10,0,1,2,3,4,5,6,7,8,9,10,11]]
def l19:AFn :=
  (AFn.mk 17 2 (.seq (.reg l19r0) (.seq (.reg l19r1) .ret)) [.tmp 4])
theorem l19_eq:lowFn Try.prog 19=some l19:=by kernel_rfl
def l20r0:List AOper :=
  [.mk (some 2) (.mv (.const (.slice none 0 0))) none [],.mk (some 3) (.mv (.const (.slice none 0 0))) none [0],.mk (some 4) (.mv (.const (.slice none 0 0))) none [1]]
def l20r1:List AOper :=
  [.mk (some 6) (.mv (.tmp 0)) none [],.mk (some 7) (.call 44 [.tmp 6]) none [0],.mk (some 5) (.mv (.tmp 7)) none [1,1,0,1]]
def l20r2:List AOper :=
  [.mk (some 8) (.mv (.tmp 5)) none [],.mk (some 9) (.mv (.tmp 5)) none [],.mk (some 10) (.bslice 1 [.int .i64 0] [(0,.const (.int .i64 2)),(1,.const (.int .i64 1)),(2,.const (.int .i64 3))] 3) none [],.mk (some 11) (.call 46 [.tmp 9,.tmp 10]) none [1,2],.mk (some 12) (.call 45 [.tmp 8,.tmp 11]) none [0,3,3],.mk (some 13) (.extract (.tmp 12) 0) none [4],.mk (some 14) (.extract (.tmp 12) 1) none [4],.mk (some 15) (.extract (.tmp 12) 2) none [4],.mk (some 2) (.mv (.tmp 13)) none [5,4,0,1,2,3,4,5,6,7],.mk (some 3) (.mv (.tmp 14)) none [6,8,0,1,2,3,4,5,6,7,8],.mk (some 4) (.mv (.tmp 15)) none [7,9,0,1,2,3,4,5,6,7,8,9]]
def l20:AFn :=
  (AFn.mk 16 1 (.seq (.reg l20r0) (.seq (.reg l20r1) (.seq (.reg l20r2) .ret))) [.tmp 2,.tmp 3,.tmp 4])
theorem l20_eq:lowFn Try.prog 20=some l20:=by kernel_rfl
def l21r0:List AOper :=
  [.mk (some 6) (.alloc [.slice none 0 0,.slice none 0 0]) none [],.mk (some 7) (.mv (.const (.bool false))) none []]
def l21r1:List AOper :=
  [.mk (some 10) (.mv (.tmp 0)) none [],.mk (some 11) (.mv (.tmp 1)) none [],.mk (some 12) (.call 60 [.tmp 10,.tmp 11]) none [0,1],.mk (some 13) (.un .not (.tmp 12)) none [2]]
def l21r2:List AOper :=
  [.mk (some 14) (.build [.slice none 0 0,.slice none 0 0] []) none [],.mk none (.store 2 (.tmp 6) (.tmp 14)) none [0,0],.mk (some 7) (.mv (.const (.bool false))) none [1,0,1]]
def l21r3:List AOper :=
  [.mk (some 16) (.mv (.tmp 0)) none [],.mk (some 17) (.mv (.tmp 1)) none [],.mk (some 18) (.mv (.tmp 2)) none [],.mk (some 19) (.call 61 [.tmp 16,.tmp 17,.tmp 18]) none [0,1,2],.mk (some 15) (.mv (.tmp 19)) none [3],.mk (some 20) (.extract (.tmp 15) 0) none [4],.mk (some 21) (.extract (.tmp 15) 1) none [4],.mk (some 8) (.alloc [.slice none 0 0,.slice none 0 0]) none [],.mk none (.store 2 (.tmp 8) (.tmp 20)) none [7,5,3,0,1,2,3,4,5,7],.mk (some 9) (.mv (.tmp 21)) none [6,8,0,1,2,3,4,5,6,7,8]]
def l21r4:List AOper :=
  [.mk (some 22) (.mv (.tmp 9)) none [],.mk (some 23) (.un .not (.tmp 22)) none [0]]
def l21r5:List AOper :=
  [.mk (some 24) (.build [.slice none 0 0,.slice none 0 0] []) none [],.mk none (.store 2 (.tmp 6) (.tmp 24)) none [0,0],.mk (some 7) (.mv (.const (.bool false))) none [1,0,1]]
def l21r6:List AOper :=
  [.mk (some 25) (.load true 2 (.tmp 8)) none [],.mk none (.store 2 (.tmp 6) (.tmp 25)) none [0,0],.mk (some 7) (.mv (.const (.bool true))) none [1,0,1]]
def l21:AFn :=
  (AFn.mk 26 3 (.seq (.reg l21r0) (.seq (.seq (.reg l21r1) (.cond (.tmp 13) (.seq (.reg l21r2) .ret) .skip)) (.seq (.reg l21r3) (.seq (.seq (.reg l21r4) (.cond (.tmp 23) (.seq (.reg l21r5) .ret) .skip)) (.seq (.reg l21r6) .ret))))) [.cell 6 true 2,.tmp 7])
theorem l21_eq:lowFn Try.prog 21=some l21:=by kernel_rfl
def l24r0:List AOper :=
  [.mk (some 4) (.mv (.const (.bool false))) none []]
def l24r1:List AOper :=
  [.mk (some 6) (.mv (.tmp 0)) none [],.mk (some 7) (.len (.tmp 6)) none [0],.mk (some 8) (.mv (.tmp 1)) none [],.mk (some 9) (.len (.tmp 8)) none [2],.mk (some 10) (.bin .neq (.tmp 7) (.tmp 9)) none [1,3]]
def l24r2:List AOper :=
  [.mk (some 4) (.mv (.const (.bool false))) none []]
def l24r3:List AOper :=
  [.mk (some 5) (.mv (.const (.int .i64 0))) none []]
def l24r4:List AOper :=
  [.mk (some 11) (.mv (.tmp 5)) none [],.mk (some 12) (.mv (.tmp 0)) none [],.mk (some 13) (.len (.tmp 12)) none [1],.mk (some 14) (.bin .lss (.tmp 11) (.tmp 13)) none [0,2]]
def l24r5a:List AOper :=
  [.mk (some 17) (.mv (.tmp 0)) none [],.mk (some 18) (.mv (.tmp 5)) none [],.mk (some 19) (.idxA 1 (.tmp 17) (.tmp 18)) none [0,1],.mk (some 20) (.load false 1 (.tmp 19)) none [2],.mk (some 21) (.mv (.tmp 1)) none [],.mk (some 22) (.mv (.tmp 5)) none [],.mk (some 23) (.idxA 1 (.tmp 21) (.tmp 22)) none [4,5],.mk (some 24) (.load false 1 (.tmp 23)) none [6]]
def l24r5b:List AOper :=
  [.mk (some 25) (.bin .neq (.tmp 20) (.tmp 24)) none [3,7]]
def l24r5:List AOper:=l24r5a ++ l24r5b
def l24r6:List AOper :=
  [.mk (some 4) (.mv (.const (.bool false))) none []]
def l24r7:List AOper :=
  [.mk (some 15) (.mv (.tmp 5)) none [],.mk (some 16) (.bin .add (.tmp 15) (.const (.int .i64 1))) none [0],.mk (some 5) (.mv (.tmp 16)) none [1,0,1]]
def l24r8:List AOper :=
  [.mk (some 4) (.mv (.const (.bool true))) none []]
def l24:AFn :=
  (AFn.mk 26 2 (.seq (.reg l24r0) (.seq (.seq (.reg l24r1) (.cond (.tmp 10) (.seq (.reg l24r2) .ret) .skip)) (.seq (.seq (.reg l24r3) (.block 0 (.loop (.seq (.seq (.reg l24r4) (.cond (.tmp 14) .skip (.exit 0))) (.seq (.block 1 (.seq (.draw l24r5) (.cond (.tmp 25) (.seq (.reg l24r6) .ret) .skip))) (.reg l24r7)))))) (.seq (.reg l24r8) .ret)))) [.tmp 4])
theorem l24_eq:lowFn Try.prog 24=some l24:=by kernel_rfl
def l28r0:List AOper :=
  [.mk (some 2) (.box (.tmp 0)) none [],.mk (some 4) (.alloc [.slice none 0 0,.slice none 0 0]) none [],.mk (some 5) (.mv (.const (.bool false))) none []]
def l28r1:List AOper :=
  [.mk (some 7) (.load true 2 (.tmp 2)) none [],.mk (some 8) (.call 43 [.tmp 7]) none [0],.mk (some 9) (.un .not (.tmp 8)) none [1],.mk (some 10) (.mv (.tmp 9)) none [2,1],.mk (some 11) (.mv (.tmp 1)) (some (10,false)) [3],.mk (some 12) (.fld 0 (.tmp 2)) (some (10,false)) [3],.mk (some 13) (.load false 1 (.tmp 12)) (some (10,false)) [5,3],.mk (some 14) (.len (.tmp 13)) (some (10,false)) [6,3],.mk (some 15) (.bin .sub (.tmp 14) (.const (.int .i64 1))) (some (10,false)) [7,3],.mk (some 16) (.call 66 [.tmp 11,.tmp 15]) (some (10,false)) [4,8,3,3],.mk (some 17) (.un .not (.tmp 16)) (some (10,false)) [9,3],.mk (some 18) (.pick (.tmp 10) (.const (.bool true)) (.tmp 17)) none [3,10]]
def l28r2:List AOper :=
  [.mk (some 19) (.build [.slice none 0 0,.slice none 0 0] []) none [],.mk none (.store 2 (.tmp 4) (.tmp 19)) none [0,0],.mk (some 5) (.mv (.const (.bool false))) none [1,0,1]]
def l28r3:List AOper :=
  [.mk (some 20) (.fld 0 (.tmp 2)) none [],.mk (some 21) (.load false 1 (.tmp 20)) none [0],.mk (some 22) (.len (.tmp 21)) none [1],.mk (some 23) (.call 64 [.const (.int .i64 0),.const (.int .i64 1),.tmp 22]) none [2],.mk (some 24) (.call 65 [.tmp 23]) none [3,3],.mk (some 6) (.mv (.tmp 24)) none [4,4,0,1,2,3,4]]
def l28r4a:List AOper :=
  [.mk (some 25) (.load true 2 (.tmp 2)) none [],.mk (some 26) (.bslice 2 [.slice none 0 0,.slice none 0 0] [(0,.tmp 25)] 1) none [0],.mk (some 27) (.mv (.tmp 6)) none [],.mk (some 28) (.bslice 1 [.slice none 0 0] [(0,.tmp 27)] 1) none [2],.mk (some 29) (.mv (.tmp 6)) none [],.mk (some 30) (.mv (.tmp 1)) none [],.mk (some 31) (.bslice 1 [.int .i64 0] [(0,.tmp 30)] 1) none [5],.mk (some 32) (.call 67 [.tmp 29,.tmp 31]) none [4,6],.mk (some 33) (.call 17 [.tmp 26,.tmp 28,.tmp 32]) none [1,3,7,7],.mk (some 34) (.extract (.tmp 33) 0) none [8],.mk (some 35) (.extract (.tmp 33) 1) none [8]]
def l28r4b:List AOper :=
  [.mk none (.store 2 (.tmp 4) (.tmp 34)) none [9,8,0,1,2,3,4,5,6,7,8,9,10],.mk (some 5) (.mv (.tmp 35)) none [10,11,0,1,2,3,4,5,6,7,8,9,10,11]]
def l28r4:List AOper:=l28r4a ++ l28r4b
def l28:AFn :=
  (AFn.mk 36 2 (.seq (.reg l28r0) (.seq (.seq (.reg l28r1) (.cond (.tmp 18) (.seq (.reg l28r2) .ret) .skip)) (.seq (.reg l28r3) (.seq (.draw l28r4) .ret)))) [.cell 4 true 2,.tmp 5])
theorem l28_eq:lowFn Try.prog 28=some l28:=by kernel_rfl
def l43r0:List AOper :=
  [.mk (some 1) (.box (.tmp 0)) none [],.mk (some 2) (.mv (.const (.bool false))) none []]
def l43r1a:List AOper :=
  [.mk (some 5) (.fld 0 (.tmp 1)) none [],.mk (some 6) (.load false 1 (.tmp 5)) none [0],.mk (some 7) (.call 57 [.tmp 6]) none [1],.mk (some 8) (.un .not (.tmp 7)) none [2],.mk (some 9) (.mv (.tmp 8)) none [3,2],.mk (some 10) (.fld 1 (.tmp 1)) (some (9,false)) [4],.mk (some 11) (.load false 1 (.tmp 10)) (some (9,false)) [5,4],.mk (some 12) (.len (.tmp 11)) (some (9,false)) [6,4],.mk (some 13) (.fld 0 (.tmp 1)) (some (9,false)) [4],.mk (some 14) (.load false 1 (.tmp 13)) (some (9,false)) [8,4],.mk (some 15) (.call 85 [.tmp 14]) (some (9,false)) [9,4,4]]
def l43r1b:List AOper :=
  [.mk (some 16) (.bin .neq (.tmp 12) (.tmp 15)) (some (9,false)) [7,10,4],.mk (some 17) (.pick (.tmp 9) (.const (.bool true)) (.tmp 16)) none [4,11]]
def l43r1:List AOper:=l43r1a ++ l43r1b
def l43r2:List AOper :=
  [.mk (some 2) (.mv (.const (.bool false))) none []]
def l43r3:List AOper :=
  [.mk (some 18) (.fld 1 (.tmp 1)) none [],.mk (some 19) (.load false 1 (.tmp 18)) none [0],.mk (some 20) (.len (.tmp 19)) none [1],.mk (some 21) (.mv (.const (.int .i64 0))) none []]
def l43r4:List AOper :=
  [.mk (some 22) (.bin .lss (.tmp 21) (.tmp 20)) none []]
def l43r5:List AOper :=
  [.mk (some 23) (.idxA 1 (.tmp 19) (.tmp 21)) none [],.mk (some 24) (.load false 1 (.tmp 23)) none [0],.mk (some 4) (.mv (.tmp 24)) none [1,0,1]]
def l43r6:List AOper :=
  [.mk (some 25) (.mv (.tmp 4)) none [],.mk (some 26) (.call 86 [.tmp 25,.const (.int .i64 1000000)]) none [0],.mk (some 27) (.un .not (.tmp 26)) none [1]]
def l43r7:List AOper :=
  [.mk (some 2) (.mv (.const (.bool false))) none []]
def l43r8:List AOper :=
  [.mk (some 28) (.bin .add (.tmp 21) (.const (.int .i64 1))) none [],.mk (some 21) (.mv (.tmp 28)) none [0]]
def l43r9:List AOper :=
  [.mk (some 2) (.mv (.const (.bool true))) none []]
def l43:AFn :=
  (AFn.mk 29 1 (.seq (.reg l43r0) (.seq (.seq (.draw l43r1) (.cond (.tmp 17) (.seq (.reg l43r2) .ret) .skip)) (.seq (.seq (.reg l43r3) (.block 0 (.loop (.seq (.reg l43r4) (.seq (.cond (.tmp 22) .skip (.exit 0)) (.seq (.block 1 (.seq (.reg l43r5) (.seq (.reg l43r6) (.cond (.tmp 27) (.seq (.reg l43r7) .ret) .skip)))) (.reg l43r8))))))) (.seq (.reg l43r9) .ret)))) [.tmp 2])
theorem l43_eq:lowFn Try.prog 43=some l43:=by kernel_rfl
def l44r0:List AOper :=
  [.mk (some 2) (.mv (.const (.pointer none))) none []]
def l44r1:List AOper :=
  [.mk (some 3) (.mv (.tmp 0)) none [],.mk (some 4) (.len (.tmp 3)) none [0],.mk (some 5) (.bin .gtr (.tmp 4) (.const (.int .i64 2000))) none [1]]
def l44r2:List AOper :=
  [.mk (some 6) (.mv (.tmp 0)) none [],.mk (some 7) (.slice 1 (.tmp 6) none (some (.const (.int .i64 2000)))) none [0],.mk (some 0) (.mv (.tmp 7)) none [1,0,1]]
def l44r3:List AOper :=
  [.mk (some 8) (.mv (.tmp 0)) none [],.mk (some 9) (.build [.slice none 0 0,.int .i64 0] [(0,1,.tmp 8)]) none [0],.mk (some 10) (.box (.tmp 9)) none [1],.mk (some 2) (.mv (.tmp 10)) none [2,0,1,2]]
def l44:AFn :=
  (AFn.mk 11 1 (.seq (.reg l44r0) (.seq (.seq (.reg l44r1) (.cond (.tmp 5) (.reg l44r2) .skip)) (.seq (.reg l44r3) .ret))) [.tmp 2])
theorem l44_eq:lowFn Try.prog 44=some l44:=by kernel_rfl
def l45r0:List AOper :=
  [.mk (some 4) (.mv (.const (.slice none 0 0))) none [],.mk (some 5) (.mv (.const (.slice none 0 0))) none [0],.mk (some 6) (.mv (.const (.slice none 0 0))) none [1]]
def l45r1:List AOper :=
  [.mk (some 17) (.mv (.tmp 0)) none [],.mk (some 18) (.bslice 1 [.int .i64 0] [(0,.const (.int .i64 2)),(1,.const (.int .i64 3)),(2,.const (.int .i64 1))] 3) none [],.mk (some 19) (.call 46 [.tmp 17,.tmp 18]) none [0,1],.mk (some 20) (.mv (.tmp 0)) none [],.mk (some 21) (.bslice 1 [.int .i64 0] [(0,.const (.int .i64 3)),(1,.const (.int .i64 2)),(2,.const (.int .i64 4))] 3) none [],.mk (some 22) (.call 46 [.tmp 20,.tmp 21]) none [3,4,2],.mk (some 23) (.mv (.tmp 0)) none [],.mk (some 24) (.bslice 1 [.int .i64 0] [(0,.const (.int .i64 2)),(1,.const (.int .i64 1)),(2,.const (.int .i64 0))] 3) none [],.mk (some 25) (.call 46 [.tmp 23,.tmp 24]) none [6,7,5],.mk (some 26) (.mv (.tmp 0)) none [],.mk (some 27) (.bslice 1 [.int .i64 0] [(0,.const (.int .i64 2)),(1,.const (.int .i64 3))] 2) none [],.mk (some 28) (.call 46 [.tmp 26,.tmp 27]) none [9,10,8],.mk (some 29) (.bslice 1 [.int .i64 0] [(0,.tmp 19),(1,.tmp 22),(2,.tmp 25),(3,.tmp 28),(4,.const (.int .i64 2))] 5) none [2,5,8,11],.mk (some 7) (.mv (.tmp 29)) none [12,11,0,1,2,3,4,5,6,7,8,9,10,11,12]]
def l45r2:List AOper :=
  [.mk (some 30) (.bslice 2 [.slice none 0 0,.slice none 0 0] [] 0) none [],.mk (some 8) (.mv (.tmp 30)) none [0,0]]
def l45r3:List AOper :=
  [.mk (some 31) (.bslice 1 [.slice none 0 0] [] 0) none [],.mk (some 9) (.mv (.tmp 31)) none [0,0]]
def l45r4:List AOper :=
  [.mk (some 32) (.bslice 1 [.int .i64 0] [] 0) none [],.mk (some 10) (.mv (.tmp 32)) none [0,0]]
def l45r5:List AOper :=
  [.mk (some 11) (.mv (.const (.int .i64 0))) none []]
def l45r6:List AOper :=
  [.mk (some 33) (.mv (.tmp 11)) none [],.mk (some 34) (.mv (.tmp 1)) none [],.mk (some 35) (.bin .lss (.tmp 33) (.tmp 34)) none [0,1]]
def l45r7:List AOper :=
  [.mk (some 38) (.bslice 1 [.int .i64 0] [] 0) none [],.mk (some 12) (.mv (.tmp 38)) none [0,0]]
def l45r8:List AOper :=
  [.mk (some 39) (.mv (.tmp 0)) none [],.mk (some 40) (.bslice 1 [.int .i64 0] [(0,.const (.int .i64 2)),(1,.const (.int .i64 1)),(2,.const (.int .i64 2)),(3,.const (.int .i64 3)),(4,.const (.int .i64 0))] 5) none [],.mk (some 41) (.call 46 [.tmp 39,.tmp 40]) none [0,1],.mk (some 13) (.mv (.tmp 41)) none [2,2,0,1,2]]
def l45r9:List AOper :=
  [.mk (some 42) (.mv (.tmp 13)) none [],.mk (some 43) (.bin .gtr (.tmp 42) (.const (.int .i64 0))) none [0]]
def l45r10:List AOper :=
  [.mk (some 46) (.mv (.tmp 0)) none [],.mk (some 47) (.call 73 [.tmp 46,.const (.int .i64 5)]) none [0],.mk (some 14) (.mv (.tmp 47)) none [1,1,0,1]]
def l45r11a:List AOper :=
  [.mk (some 48) (.mv (.tmp 7)) none [],.mk (some 49) (.mv (.tmp 12)) none [],.mk (some 50) (.call 88 [.tmp 48,.tmp 49]) none [0,1],.mk (some 51) (.call 87 [.tmp 50]) none [2,2],.mk (some 52) (.mv (.tmp 7)) none [],.mk (some 53) (.mv (.tmp 14)) none [],.mk (some 54) (.idxA 1 (.tmp 52) (.tmp 53)) none [4,5],.mk (some 55) (.load false 1 (.tmp 54)) none [6]]
def l45r11b:List AOper :=
  [.mk (some 56) (.bin .mul (.tmp 51) (.tmp 55)) none [3,7],.mk (some 57) (.bin .leq (.tmp 56) (.const (.int .i64 24))) none [8]]
def l45r11:List AOper:=l45r11a ++ l45r11b
def l45r12:List AOper :=
  [.mk (some 58) (.mv (.tmp 12)) none [],.mk (some 59) (.mv (.tmp 14)) none [],.mk (some 60) (.bslice 1 [.int .i64 0] [(0,.tmp 59)] 1) none [1],.mk (some 61) (.append 1 (.tmp 58) (.tmp 60)) none [0,2],.mk (some 12) (.mv (.tmp 61)) none [3,3,0,1,2,3]]
def l45r13:List AOper :=
  [.mk (some 44) (.mv (.tmp 13)) none [],.mk (some 45) (.bin .sub (.tmp 44) (.const (.int .i64 1))) none [0],.mk (some 13) (.mv (.tmp 45)) none [1,0,1]]
def l45r14:List AOper :=
  [.mk (some 62) (.mv (.tmp 8)) none [],.mk (some 63) (.mv (.tmp 0)) none [],.mk (some 64) (.mv (.tmp 7)) none [],.mk (some 65) (.mv (.tmp 12)) none [],.mk (some 66) (.call 88 [.tmp 64,.tmp 65]) none [2,3],.mk (some 67) (.call 75 [.tmp 63,.tmp 66]) none [1,4,4],.mk (some 68) (.bslice 2 [.slice none 0 0,.slice none 0 0] [(0,.tmp 67)] 1) none [5],.mk (some 69) (.append 2 (.tmp 62) (.tmp 68)) none [0,6,5],.mk (some 8) (.mv (.tmp 69)) none [7,7,0,1,2,3,4,5,6,7]]
def l45r15:List AOper :=
  [.mk (some 70) (.mv (.tmp 9)) none [],.mk (some 71) (.mv (.tmp 12)) none [],.mk (some 72) (.bslice 1 [.slice none 0 0] [(0,.tmp 71)] 1) none [1],.mk (some 73) (.append 1 (.tmp 70) (.tmp 72)) none [0,2],.mk (some 9) (.mv (.tmp 73)) none [3,3,0,1,2,3]]
def l45r16:List AOper :=
  [.mk (some 74) (.mv (.tmp 10)) none [],.mk (some 75) (.mv (.tmp 12)) none [],.mk (some 76) (.append 1 (.tmp 74) (.tmp 75)) none [0,1],.mk (some 10) (.mv (.tmp 76)) none [2,2,0,1,2]]
def l45r17:List AOper :=
  [.mk (some 36) (.mv (.tmp 11)) none [],.mk (some 37) (.bin .add (.tmp 36) (.const (.int .i64 1))) none [0],.mk (some 11) (.mv (.tmp 37)) none [1,0,1]]
def l45r18:List AOper :=
  [.mk (some 77) (.bslice 1 [.int .i64 0] [] 0) none [],.mk (some 15) (.mv (.tmp 77)) none [0,0]]
def l45r19:List AOper :=
  [.mk (some 16) (.mv (.const (.int .i64 0))) none []]
def l45r20:List AOper :=
  [.mk (some 78) (.mv (.tmp 16)) none [],.mk (some 79) (.bin .lss (.tmp 78) (.const (.int .i64 5))) none [0]]
def l45r21a:List AOper :=
  [.mk (some 82) (.mv (.tmp 10)) none [],.mk (some 83) (.mv (.tmp 16)) none [],.mk (some 84) (.call 89 [.tmp 82,.tmp 83]) none [0,1],.mk (some 85) (.bin .geq (.tmp 84) (.const (.int .i64 0))) none [2],.mk (some 86) (.mv (.tmp 85)) none [3,2],.mk (some 87) (.mv (.tmp 0)) (some (86,true)) [4],.mk (some 88) (.call 73 [.tmp 87,.const (.int .i64 2)]) (some (86,true)) [5,4,4],.mk (some 89) (.bin .eql (.tmp 88) (.const (.int .i64 0))) (some (86,true)) [6,4],.mk (some 90) (.pick (.tmp 86) (.tmp 89) (.const (.bool false))) none [4,7],.mk (some 91) (.mv (.tmp 90)) none [8,6],.mk (some 92) (.mv (.tmp 7)) (some (91,true)) [9],.mk (some 93) (.mv (.tmp 15)) (some (91,true)) [9],.mk (some 94) (.call 88 [.tmp 92,.tmp 93]) (some (91,true)) [10,11,9,9],.mk (some 95) (.call 87 [.tmp 94]) (some (91,true)) [12,12,9],.mk (some 96) (.mv (.tmp 7)) (some (91,true)) [9],.mk (some 97) (.mv (.tmp 16)) (some (91,true)) [9],.mk (some 98) (.idxA 1 (.tmp 96) (.tmp 97)) (some (91,true)) [14,15,9],.mk (some 99) (.load false 1 (.tmp 98)) (some (91,true)) [16,9]]
def l45r21b:List AOper :=
  [.mk (some 100) (.bin .mul (.tmp 95) (.tmp 99)) (some (91,true)) [13,17,9],.mk (some 101) (.bin .leq (.tmp 100) (.const (.int .i64 60))) (some (91,true)) [18,9],.mk (some 102) (.pick (.tmp 91) (.tmp 101) (.const (.bool false))) none [9,19],.mk (some 103) (.mv (.tmp 102)) none [20,13],.mk (some 104) (.mv (.tmp 15)) (some (103,true)) [21],.mk (some 105) (.len (.tmp 104)) (some (103,true)) [22,21],.mk (some 106) (.bin .lss (.tmp 105) (.const (.int .i64 4))) (some (103,true)) [23,21],.mk (some 107) (.pick (.tmp 103) (.tmp 106) (.const (.bool false))) none [21,24]]
def l45r21:List AOper:=l45r21a ++ l45r21b
def l45r22:List AOper :=
  [.mk (some 108) (.mv (.tmp 15)) none [],.mk (some 109) (.mv (.tmp 0)) none [],.mk (some 110) (.mv (.tmp 15)) none [],.mk (some 111) (.len (.tmp 110)) none [2],.mk (some 112) (.bin .add (.tmp 111) (.const (.int .i64 1))) none [3],.mk (some 113) (.call 73 [.tmp 109,.tmp 112]) none [1,4],.mk (some 114) (.mv (.tmp 16)) none [],.mk (some 115) (.call 79 [.tmp 108,.tmp 113,.tmp 114]) none [0,5,6,5],.mk (some 15) (.mv (.tmp 115)) none [7,7,0,1,2,3,4,5,6,7]]
def l45r23:List AOper :=
  [.mk (some 80) (.mv (.tmp 16)) none [],.mk (some 81) (.bin .add (.tmp 80) (.const (.int .i64 1))) none [0],.mk (some 16) (.mv (.tmp 81)) none [1,0,1]]
def l45r24:List AOper :=
  [.mk (some 116) (.mv (.tmp 0)) none [],.mk (some 117) (.call 73 [.tmp 116,.const (.int .i64 24)]) none [0]]
def l45r25:List AOper :=
  [.mk (some 119) (.bin .eql (.tmp 117) (.const (.int .i64 0))) none [],.mk (some 118) (.mv (.tmp 119)) none [0]]
def l45r26:List AOper :=
  [.mk (some 120) (.mv (.tmp 15)) none [],.mk (some 121) (.mv (.tmp 0)) none [],.mk (some 122) (.bslice 1 [.int .i64 0] [(0,.const (.int .i64 4)),(1,.const (.int .i64 (-1))),(2,.const (.int .i64 5))] 3) none [],.mk (some 123) (.call 46 [.tmp 121,.tmp 122]) none [1,2],.mk (some 124) (.bslice 1 [.int .i64 0] [(0,.tmp 123)] 1) none [3],.mk (some 125) (.append 1 (.tmp 120) (.tmp 124)) none [0,4,3],.mk (some 15) (.mv (.tmp 125)) none [5,5,0,1,2,3,4,5]]
def l45r27:List AOper :=
  [.mk (some 127) (.bin .eql (.tmp 117) (.const (.int .i64 1))) none [],.mk (some 126) (.mv (.tmp 127)) none [0]]
def l45r28:List AOper :=
  [.mk (some 128) (.mv (.tmp 9)) none [],.mk (some 129) (.mv (.tmp 9)) none [],.mk (some 130) (.idxA 1 (.tmp 129) (.const (.int .i64 0))) none [1],.mk (some 131) (.load false 1 (.tmp 130)) none [2],.mk (some 132) (.bslice 1 [.int .i64 0] [(0,.const (.int .i64 1))] 1) none [],.mk (some 133) (.append 1 (.tmp 131) (.tmp 132)) none [3,4],.mk (some 134) (.idxA 1 (.tmp 128) (.const (.int .i64 0))) none [0,0,1,2,3,4,5],.mk none (.store 1 (.tmp 134) (.tmp 133)) none [6,5,5,0,1,2,3,4,5]]
def l45r29:List AOper :=
  [.mk (some 136) (.bin .eql (.tmp 117) (.const (.int .i64 2))) none [],.mk (some 135) (.mv (.tmp 136)) none [0]]
def l45r30:List AOper :=
  [.mk (some 137) (.mv (.tmp 8)) none [],.mk (some 138) (.mv (.tmp 0)) none [],.mk (some 139) (.call 74 [.tmp 138]) none [1],.mk (some 140) (.idxA 2 (.tmp 137) (.const (.int .i64 0))) none [0,0,1,2],.mk none (.store 2 (.tmp 140) (.tmp 139)) none [3,2,2,0,1,2]]
def l45r31:List AOper :=
  [.mk (some 141) (.mv (.tmp 8)) none [],.mk (some 142) (.mv (.tmp 9)) none [],.mk (some 143) (.mv (.tmp 15)) none [],.mk (some 4) (.mv (.tmp 141)) none [0,0],.mk (some 5) (.mv (.tmp 142)) none [1,3,0,1,3],.mk (some 6) (.mv (.tmp 143)) none [2,4,0,1,2,3,4]]
def l45:AFn :=
  (AFn.mk 144 2 (.seq (.reg l45r0) (.seq (.reg l45r1) (.seq (.reg l45r2) (.seq (.reg l45r3) (.seq (.reg l45r4) (.seq (.seq (.reg l45r5) (.block 0 (.loop (.seq (.seq (.reg l45r6) (.cond (.tmp 35) .skip (.exit 0))) (.seq (.block 1 (.seq (.reg l45r7) (.seq (.seq (.reg l45r8) (.block 2 (.loop (.seq (.seq (.reg l45r9) (.cond (.tmp 43) .skip (.exit 2))) (.seq (.block 3 (.seq (.reg l45r10) (.seq (.draw l45r11) (.cond (.tmp 57) (.reg l45r12) .skip)))) (.reg l45r13)))))) (.seq (.reg l45r14) (.seq (.reg l45r15) (.reg l45r16)))))) (.reg l45r17)))))) (.seq (.reg l45r18) (.seq (.seq (.reg l45r19) (.block 4 (.loop (.seq (.seq (.reg l45r20) (.cond (.tmp 79) .skip (.exit 4))) (.seq (.block 5 (.seq (.draw l45r21) (.cond (.tmp 107) (.reg l45r22) .skip))) (.reg l45r23)))))) (.seq (.seq (.reg l45r24) (.block 6 (.seq (.reg l45r25) (.cond (.tmp 118) (.reg l45r26) (.seq (.reg l45r27) (.cond (.tmp 126) (.reg l45r28) (.seq (.reg l45r29) (.cond (.tmp 135) (.reg l45r30) .skip)))))))) (.seq (.reg l45r31) .ret)))))))))) [.tmp 4,.tmp 5,.tmp 6])
theorem l45_eq:lowFn Try.prog 45=some l45:=by kernel_rfl
def l46r0:List AOper :=
  [.mk (some 4) (.mv (.const (.int .i64 0))) none []]
def l46r1:List AOper :=
  [.mk (some 5) (.mv (.tmp 1)) none [],.mk (some 6) (.mv (.tmp 0)) none [],.mk (some 7) (.mv (.tmp 1)) none [],.mk (some 8) (.len (.tmp 7)) none [2],.mk (some 9) (.call 73 [.tmp 6,.tmp 8]) none [1,3],.mk (some 10) (.idxA 1 (.tmp 5) (.tmp 9)) none [0,4],.mk (some 11) (.load false 1 (.tmp 10)) none [5],.mk (some 4) (.mv (.tmp 11)) none [6,4,0,1,2,3,4,5,6]]
def l46:AFn :=
  (AFn.mk 12 2 (.seq (.reg l46r0) (.seq (.reg l46r1) .ret)) [.tmp 4])
theorem l46_eq:lowFn Try.prog 46=some l46:=by kernel_rfl
def l47r0:List AOper :=
  [.mk (some 6) (.alloc [.int .i64 0,.int .i64 0,.int .i64 0,.int .i64 0,.int .i64 0]) none [],.mk (some 7) (.mv (.const (.bool false))) none []]
def l47r1:List AOper :=
  [.mk (some 8) (.mv (.tmp 0)) none [],.mk (some 9) (.len (.tmp 8)) none [0],.mk (some 10) (.bin .lss (.tmp 9) (.const (.int .i64 1))) none [1],.mk (some 11) (.mv (.tmp 10)) none [2],.mk (some 12) (.mv (.tmp 0)) (some (11,false)) [3],.mk (some 13) (.len (.tmp 12)) (some (11,false)) [4,3],.mk (some 14) (.bin .gtr (.tmp 13) (.const (.int .i64 3))) (some (11,false)) [5,3],.mk (some 15) (.pick (.tmp 11) (.const (.bool true)) (.tmp 14)) none [3,6],.mk (some 16) (.mv (.tmp 15)) none [7,3],.mk (some 17) (.mv (.tmp 1)) (some (16,false)) [8],.mk (some 18) (.len (.tmp 17)) (some (16,false)) [9,8],.mk (some 19) (.mv (.tmp 0)) (some (16,false)) [8],.mk (some 20) (.len (.tmp 19)) (some (16,false)) [11,8],.mk (some 21) (.bin .neq (.tmp 18) (.tmp 20)) (some (16,false)) [10,12,8],.mk (some 22) (.pick (.tmp 16) (.const (.bool true)) (.tmp 21)) none [8,13],.mk (some 23) (.mv (.tmp 22)) none [14,8],.mk (some 24) (.mv (.tmp 2)) (some (23,false)) [15],.mk (some 25) (.call 90 [.tmp 24]) (some (23,false)) [16,15,15],.mk (some 26) (.un .not (.tmp 25)) (some (23,false)) [17,15],.mk (some 27) (.pick (.tmp 23) (.const (.bool true)) (.tmp 26)) none [15,18]]
def l47r2:List AOper :=
  [.mk (some 28) (.call 91 []) none [],.mk none (.store 5 (.tmp 6) (.tmp 28)) none [0,0,0],.mk (some 7) (.mv (.const (.bool false))) none [1,0,1]]
def l47r3:List AOper :=
  [.mk (some 29) (.mv (.tmp 0)) none [],.mk (some 30) (.mv (.tmp 1)) none [],.mk (some 31) (.call 92 [.tmp 29,.tmp 30]) none [0,1],.mk (some 32) (.extract (.tmp 31) 0) none [2],.mk (some 33) (.extract (.tmp 31) 1) none [2],.mk none (.store 5 (.tmp 6) (.tmp 32)) none [3,2,0,1,2,3,4],.mk (some 7) (.mv (.tmp 33)) none [4,5,0,1,2,3,4,5]]
def l47:AFn :=
  (AFn.mk 34 3 (.seq (.reg l47r0) (.seq (.seq (.reg l47r1) (.cond (.tmp 27) (.seq (.reg l47r2) .ret) .skip)) (.seq (.reg l47r3) .ret))) [.cell 6 true 5,.tmp 7])
theorem l47_eq:lowFn Try.prog 47=some l47:=by kernel_rfl
def l49r0:List AOper :=
  [.mk (some 6) (.mv (.const (.bool false))) none []]
def l49r1:List AOper :=
  [.mk (some 7) (.mv (.const (.int .i64 0))) none []]
def l49r2:List AOper :=
  [.mk (some 8) (.mv (.tmp 7)) none [],.mk (some 9) (.mv (.tmp 0)) none [],.mk (some 10) (.len (.tmp 9)) none [1],.mk (some 11) (.bin .lss (.tmp 8) (.tmp 10)) none [0,2]]
def l49r3:List AOper :=
  [.mk (some 14) (.mv (.tmp 0)) none [],.mk (some 15) (.mv (.tmp 7)) none [],.mk (some 16) (.idxA 1 (.tmp 14) (.tmp 15)) none [0,1],.mk (some 17) (.load false 1 (.tmp 16)) none [2],.mk (some 18) (.mv (.tmp 1)) none [],.mk (some 19) (.mv (.tmp 2)) none [],.mk (some 20) (.call 69 [.tmp 17,.tmp 18,.tmp 19]) none [3,4,5],.mk (some 21) (.un .not (.tmp 20)) none [6]]
def l49r4:List AOper :=
  [.mk (some 6) (.mv (.const (.bool false))) none []]
def l49r5:List AOper :=
  [.mk (some 12) (.mv (.tmp 7)) none [],.mk (some 13) (.bin .add (.tmp 12) (.const (.int .i64 1))) none [0],.mk (some 7) (.mv (.tmp 13)) none [1,0,1]]
def l49r6:List AOper :=
  [.mk (some 6) (.mv (.const (.bool true))) none []]
def l49:AFn :=
  (AFn.mk 22 3 (.seq (.reg l49r0) (.seq (.seq (.reg l49r1) (.block 0 (.loop (.seq (.seq (.reg l49r2) (.cond (.tmp 11) .skip (.exit 0))) (.seq (.block 1 (.seq (.reg l49r3) (.cond (.tmp 21) (.seq (.reg l49r4) .ret) .skip))) (.reg l49r5)))))) (.seq (.reg l49r6) .ret))) [.tmp 6])
theorem l49_eq:lowFn Try.prog 49=some l49:=by kernel_rfl
def l54r0:List AOper :=
  [.mk (some 2) (.box (.tmp 0)) none [],.mk (some 4) (.mv (.const (.int .i64 0))) none []]
def l54r1a:List AOper :=
  [.mk (some 5) (.load true 5 (.tmp 2)) none [],.mk (some 6) (.mv (.tmp 1)) none [],.mk (some 7) (.call 55 [.tmp 6]) none [1]]
def l54r1b:List AOper :=
  [.mk (some 8) (.call 56 [.tmp 5,.tmp 7]) none [0,2,2],.mk (some 9) (.call 85 [.tmp 8]) none [3,3],.mk (some 4) (.mv (.tmp 9)) none [4,4,0,1,2,3,4]]
def l54r1:List AOper:=l54r1a ++ l54r1b
def l54:AFn :=
  (AFn.mk 10 2 (.seq (.reg l54r0) (.seq (.draw l54r1) .ret)) [.tmp 4])
theorem l54_eq:lowFn Try.prog 54=some l54:=by kernel_rfl
def l55r0:List AOper :=
  [.mk (some 2) (.mv (.const (.slice none 0 0))) none []]
def l55r1:List AOper :=
  [.mk (some 3) (.alloc [.bool false,.bool false,.bool false,.bool false,.bool false]) none []]
def l55r2:List AOper :=
  [.mk (some 11) (.mv (.tmp 0)) none [],.mk (some 12) (.len (.tmp 11)) none [0],.mk (some 13) (.mv (.const (.int .i64 0))) none []]
def l55r3:List AOper :=
  [.mk (some 14) (.bin .lss (.tmp 13) (.tmp 12)) none []]
def l55r4:List AOper :=
  [.mk (some 15) (.idxA 1 (.tmp 11) (.tmp 13)) none [],.mk (some 16) (.load false 1 (.tmp 15)) none [0],.mk (some 5) (.mv (.tmp 16)) none [1,0,1]]
def l55r5:List AOper :=
  [.mk (some 17) (.mv (.tmp 5)) none [],.mk (some 18) (.len (.tmp 17)) none [0],.mk (some 19) (.mv (.const (.int .i64 0))) none []]
def l55r6:List AOper :=
  [.mk (some 20) (.bin .lss (.tmp 19) (.tmp 18)) none []]
def l55r7:List AOper :=
  [.mk (some 21) (.idxA 1 (.tmp 17) (.tmp 19)) none [],.mk (some 22) (.load false 1 (.tmp 21)) none [0],.mk (some 7) (.mv (.tmp 22)) none [1,0,1]]
def l55r8:List AOper :=
  [.mk (some 23) (.mv (.tmp 7)) none [],.mk (some 24) (.idxP 1 5 (.tmp 3) (.tmp 23)) none [0,0],.mk none (.store 1 (.tmp 24) (.const (.bool true))) none [1,0]]
def l55r9:List AOper :=
  [.mk (some 25) (.bin .add (.tmp 19) (.const (.int .i64 1))) none [],.mk (some 19) (.mv (.tmp 25)) none [0]]
def l55r10:List AOper :=
  [.mk (some 26) (.bin .add (.tmp 13) (.const (.int .i64 1))) none [],.mk (some 13) (.mv (.tmp 26)) none [0]]
def l55r11:List AOper :=
  [.mk (some 8) (.mv (.const (.slice none 0 0))) none []]
def l55r12:List AOper :=
  [.mk (some 27) (.load true 5 (.tmp 3)) none [],.mk (some 28) (.mv (.const (.int .i64 0))) none []]
def l55r13:List AOper :=
  [.mk (some 29) (.bin .lss (.tmp 28) (.const (.int .i64 5))) none []]
def l55r14:List AOper :=
  [.mk (some 30) (.mv (.tmp 28)) none [],.mk (some 31) (.raw (Op.index 106 (.tmp 27) (.tmp 28))) none [],.mk (some 9) (.mv (.tmp 30)) none [0,0,1],.mk (some 10) (.mv (.tmp 31)) none [1,2,0,1,2]]
def l55r15:List AOper :=
  [.mk (some 32) (.mv (.tmp 10)) none []]
def l55r16:List AOper :=
  [.mk (some 33) (.mv (.tmp 8)) none [],.mk (some 34) (.mv (.tmp 9)) none [],.mk (some 35) (.bslice 1 [.int .i64 0] [(0,.tmp 34)] 1) none [1],.mk (some 36) (.append 1 (.tmp 33) (.tmp 35)) none [0,2],.mk (some 8) (.mv (.tmp 36)) none [3,3,0,1,2,3]]
def l55r17:List AOper :=
  [.mk (some 37) (.bin .add (.tmp 28) (.const (.int .i64 1))) none [],.mk (some 28) (.mv (.tmp 37)) none [0]]
def l55r18:List AOper :=
  [.mk (some 38) (.mv (.tmp 8)) none [],.mk (some 2) (.mv (.tmp 38)) none [0,0]]
def l55:AFn :=
  (AFn.mk 39 1 (.seq (.reg l55r0) (.seq (.reg l55r1) (.seq (.seq (.reg l55r2) (.block 0 (.loop (.seq (.reg l55r3) (.seq (.cond (.tmp 14) .skip (.exit 0)) (.seq (.block 1 (.seq (.reg l55r4) (.seq (.reg l55r5) (.block 2 (.loop (.seq (.reg l55r6) (.seq (.cond (.tmp 20) .skip (.exit 2)) (.seq (.block 3 (.seq (.reg l55r7) (.reg l55r8))) (.reg l55r9))))))))) (.reg l55r10))))))) (.seq (.reg l55r11) (.seq (.seq (.reg l55r12) (.block 4 (.loop (.seq (.reg l55r13) (.seq (.cond (.tmp 29) .skip (.exit 4)) (.seq (.block 5 (.seq (.reg l55r14) (.seq (.reg l55r15) (.cond (.tmp 32) (.reg l55r16) .skip)))) (.reg l55r17))))))) (.seq (.reg l55r18) .ret)))))) [.tmp 2])
theorem l55_eq:lowFn Try.prog 55=some l55:=by kernel_rfl
def l56r0:List AOper :=
  [.mk (some 2) (.box (.tmp 0)) none [],.mk (some 4) (.mv (.const (.slice none 0 0))) none []]
def l56r1:List AOper :=
  [.mk (some 8) (.mv (.tmp 1)) none [],.mk (some 9) (.len (.tmp 8)) none [0],.mk (some 10) (.mkslice 1 [.int .i64 0] (.tmp 9) (.tmp 9)) none [1,1],.mk (some 5) (.mv (.tmp 10)) none [2,0,1,2]]
def l56r2:List AOper :=
  [.mk (some 11) (.mv (.tmp 1)) none [],.mk (some 12) (.len (.tmp 11)) none [0],.mk (some 13) (.mv (.const (.int .i64 0))) none []]
def l56r3:List AOper :=
  [.mk (some 14) (.bin .lss (.tmp 13) (.tmp 12)) none []]
def l56r4:List AOper :=
  [.mk (some 15) (.mv (.tmp 13)) none [],.mk (some 16) (.idxA 1 (.tmp 11) (.tmp 13)) none [],.mk (some 17) (.load false 1 (.tmp 16)) none [1],.mk (some 6) (.mv (.tmp 15)) none [0,0,1,2],.mk (some 7) (.mv (.tmp 17)) none [2,3,0,1,2,3]]
def l56r5:List AOper :=
  [.mk (some 18) (.mv (.tmp 5)) none [],.mk (some 19) (.mv (.tmp 6)) none [],.mk (some 20) (.mv (.tmp 7)) none [],.mk (some 21) (.idxP 1 5 (.tmp 2) (.tmp 20)) none [2],.mk (some 22) (.load false 1 (.tmp 21)) none [3],.mk (some 23) (.idxA 1 (.tmp 18) (.tmp 19)) none [0,1,0,1,2,3,4],.mk none (.store 1 (.tmp 23) (.tmp 22)) none [5,4,0,1,2,3,4]]
def l56r6:List AOper :=
  [.mk (some 24) (.bin .add (.tmp 13) (.const (.int .i64 1))) none [],.mk (some 13) (.mv (.tmp 24)) none [0]]
def l56r7:List AOper :=
  [.mk (some 25) (.mv (.tmp 5)) none [],.mk (some 4) (.mv (.tmp 25)) none [0,0]]
def l56:AFn :=
  (AFn.mk 26 2 (.seq (.reg l56r0) (.seq (.reg l56r1) (.seq (.seq (.reg l56r2) (.block 0 (.loop (.seq (.reg l56r3) (.seq (.cond (.tmp 14) .skip (.exit 0)) (.seq (.block 1 (.seq (.reg l56r4) (.reg l56r5))) (.reg l56r6))))))) (.seq (.reg l56r7) .ret)))) [.tmp 4])
theorem l56_eq:lowFn Try.prog 56=some l56:=by kernel_rfl
def l57r0:List AOper :=
  [.mk (some 2) (.mv (.const (.bool false))) none []]
def l57r1:List AOper :=
  [.mk (some 5) (.mv (.tmp 0)) none [],.mk (some 6) (.len (.tmp 5)) none [0],.mk (some 7) (.bin .gtr (.tmp 6) (.const (.int .i64 4))) none [1]]
def l57r2:List AOper :=
  [.mk (some 2) (.mv (.const (.bool false))) none []]
def l57r3:List AOper :=
  [.mk (some 8) (.mv (.tmp 0)) none [],.mk (some 9) (.len (.tmp 8)) none [0],.mk (some 10) (.mv (.const (.int .i64 0))) none []]
def l57r4:List AOper :=
  [.mk (some 11) (.bin .lss (.tmp 10) (.tmp 9)) none []]
def l57r5:List AOper :=
  [.mk (some 12) (.idxA 1 (.tmp 8) (.tmp 10)) none [],.mk (some 13) (.load false 1 (.tmp 12)) none [0],.mk (some 4) (.mv (.tmp 13)) none [1,0,1]]
def l57r6:List AOper :=
  [.mk (some 14) (.mv (.tmp 4)) none [],.mk (some 15) (.call 66 [.tmp 14,.const (.int .i64 60)]) none [0],.mk (some 16) (.un .not (.tmp 15)) none [1]]
def l57r7:List AOper :=
  [.mk (some 2) (.mv (.const (.bool false))) none []]
def l57r8:List AOper :=
  [.mk (some 17) (.bin .add (.tmp 10) (.const (.int .i64 1))) none [],.mk (some 10) (.mv (.tmp 17)) none [0]]
def l57r9:List AOper :=
  [.mk (some 18) (.mv (.tmp 0)) none [],.mk (some 19) (.call 85 [.tmp 18]) none [0],.mk (some 20) (.bin .leq (.tmp 19) (.const (.int .i64 60))) none [1],.mk (some 2) (.mv (.tmp 20)) none [2,1,0,1,2]]
def l57:AFn :=
  (AFn.mk 21 1 (.seq (.reg l57r0) (.seq (.seq (.reg l57r1) (.cond (.tmp 7) (.seq (.reg l57r2) .ret) .skip)) (.seq (.seq (.reg l57r3) (.block 0 (.loop (.seq (.reg l57r4) (.seq (.cond (.tmp 11) .skip (.exit 0)) (.seq (.block 1 (.seq (.reg l57r5) (.seq (.reg l57r6) (.cond (.tmp 16) (.seq (.reg l57r7) .ret) .skip)))) (.reg l57r8))))))) (.seq (.reg l57r9) .ret)))) [.tmp 2])
theorem l57_eq:lowFn Try.prog 57=some l57:=by kernel_rfl
def l58r0:List AOper :=
  [.mk (some 4) (.box (.tmp 0)) none [],.mk (some 8) (.mv (.const (.slice none 0 0))) none []]
def l58r1:List AOper :=
  [.mk (some 9) (.mv (.const (.slice none 0 0))) none []]
def l58r2:List AOper :=
  [.mk (some 16) (.mv (.tmp 1)) none [],.mk (some 17) (.len (.tmp 16)) none [0],.mk (some 18) (.mv (.const (.int .i64 0))) none []]
def l58r3:List AOper :=
  [.mk (some 19) (.bin .lss (.tmp 18) (.tmp 17)) none []]
def l58r4:List AOper :=
  [.mk (some 20) (.mv (.tmp 18)) none [],.mk (some 21) (.idxA 2 (.tmp 16) (.tmp 18)) none [],.mk (some 22) (.load true 2 (.tmp 21)) none [1],.mk (some 11) (.alloc [.slice none 0 0,.slice none 0 0]) none [],.mk (some 10) (.mv (.tmp 20)) none [0,0,1,2,3],.mk none (.store 2 (.tmp 11) (.tmp 22)) none [3,2,4,0,1,2,3,4]]
def l58r5a:List AOper :=
  [.mk (some 23) (.mv (.tmp 9)) none [],.mk (some 24) (.load true 2 (.tmp 11)) none [],.mk (some 25) (.mv (.tmp 2)) none [],.mk (some 26) (.mv (.tmp 10)) none [],.mk (some 27) (.idxA 1 (.tmp 25) (.tmp 26)) none [2,3],.mk (some 28) (.load false 1 (.tmp 27)) none [4],.mk (some 29) (.call 96 [.tmp 24,.tmp 28]) none [1,5],.mk (some 30) (.mkfn (Fn.func 97) [.tmp 29] []) none [6],.mk (some 31) (.bslice 1 [.nilFunc] [(0,.tmp 30)] 1) none [7]]
def l58r5b:List AOper :=
  [.mk (some 32) (.append 1 (.tmp 23) (.tmp 31)) none [0,8,6],.mk (some 9) (.mv (.tmp 32)) none [9,9,0,1,2,3,4,5,6,7,8,9]]
def l58r5:List AOper:=l58r5a ++ l58r5b
def l58r6:List AOper :=
  [.mk (some 33) (.bin .add (.tmp 18) (.const (.int .i64 1))) none [],.mk (some 18) (.mv (.tmp 33)) none [0]]
def l58r7:List AOper :=
  [.mk (some 34) (.mv (.tmp 2)) none [],.mk (some 35) (.call 55 [.tmp 34]) none [0],.mk (some 36) (.mv (.tmp 3)) none [],.mk (some 37) (.call 67 [.tmp 35,.tmp 36]) none [1,2,1],.mk (some 12) (.mv (.tmp 37)) none [3,3,0,1,2,3]]
def l58r8:List AOper :=
  [.mk (some 13) (.mv (.const (.slice none 0 0))) none []]
def l58r9:List AOper :=
  [.mk (some 38) (.load true 5 (.tmp 4)) none [],.mk (some 39) (.mv (.tmp 3)) none [],.mk (some 40) (.build [.int .i64 0,.int .i64 0,.int .i64 0,.int .i64 0,.int .i64 0] []) none [],.mk (some 41) (.call 98 [.tmp 38,.tmp 39,.tmp 40]) none [0,1,2],.mk (some 42) (.len (.tmp 41)) none [3],.mk (some 43) (.mv (.const (.int .i64 0))) none []]
def l58r10:List AOper :=
  [.mk (some 44) (.bin .lss (.tmp 43) (.tmp 42)) none []]
def l58r11:List AOper :=
  [.mk (some 45) (.idxA 5 (.tmp 41) (.tmp 43)) none [],.mk (some 46) (.load true 5 (.tmp 45)) none [0],.mk (some 15) (.alloc [.int .i64 0,.int .i64 0,.int .i64 0,.int .i64 0,.int .i64 0]) none [],.mk none (.store 5 (.tmp 15) (.tmp 46)) none [2,1,0,1,2]]
def l58r12:List AOper :=
  [.mk (some 47) (.mv (.tmp 13)) none [],.mk (some 48) (.load true 5 (.tmp 4)) none [],.mk (some 49) (.mv (.tmp 12)) none [],.mk (some 50) (.load true 5 (.tmp 15)) none [],.mk (some 51) (.call 98 [.tmp 48,.tmp 49,.tmp 50]) none [1,2,3],.mk (some 52) (.mv (.tmp 9)) none [],.mk (some 53) (.call 99 [.tmp 51,.tmp 52]) none [4,5,4],.mk (some 54) (.bslice 1 [.int .i64 0] [(0,.tmp 53)] 1) none [6],.mk (some 55) (.append 1 (.tmp 47) (.tmp 54)) none [0,7,6],.mk (some 13) (.mv (.tmp 55)) none [8,8,0,1,2,3,4,5,6,7,8]]
def l58r13:List AOper :=
  [.mk (some 56) (.bin .add (.tmp 43) (.const (.int .i64 1))) none [],.mk (some 43) (.mv (.tmp 56)) none [0]]
def l58r14:List AOper :=
  [.mk (some 57) (.mv (.tmp 13)) none [],.mk (some 8) (.mv (.tmp 57)) none [0,0]]
def l58:AFn :=
  (AFn.mk 58 4 (.seq (.reg l58r0) (.seq (.reg l58r1) (.seq (.seq (.reg l58r2) (.block 0 (.loop (.seq (.reg l58r3) (.seq (.cond (.tmp 19) .skip (.exit 0)) (.seq (.block 1 (.seq (.reg l58r4) (.draw l58r5))) (.reg l58r6))))))) (.seq (.reg l58r7) (.seq (.reg l58r8) (.seq (.seq (.reg l58r9) (.block 2 (.loop (.seq (.reg l58r10) (.seq (.cond (.tmp 44) .skip (.exit 2)) (.seq (.block 3 (.seq (.reg l58r11) (.reg l58r12))) (.reg l58r13))))))) (.seq (.reg l58r14) .ret))))))) [.tmp 8])
theorem l58_eq:lowFn Try.prog 58=some l58:=by kernel_rfl
def l60r0:List AOper :=
  [.mk (some 4) (.mv (.const (.bool false))) none []]
def l60r1:List AOper :=
  [.mk (some 5) (.mv (.const (.int .i64 0))) none []]
def l60r2:List AOper :=
  [.mk (some 6) (.mv (.tmp 5)) none [],.mk (some 7) (.mv (.tmp 0)) none [],.mk (some 8) (.len (.tmp 7)) none [1],.mk (some 9) (.bin .lss (.tmp 6) (.tmp 8)) none [0,2]]
def l60r3:List AOper :=
  [.mk (some 12) (.mv (.tmp 0)) none [],.mk (some 13) (.mv (.tmp 5)) none [],.mk (some 14) (.idxA 2 (.tmp 12) (.tmp 13)) none [0,1],.mk (some 15) (.load true 2 (.tmp 14)) none [2],.mk (some 16) (.call 76 [.tmp 15]) none [3],.mk (some 17) (.un .not (.tmp 16)) none [4]]
def l60r4:List AOper :=
  [.mk (some 4) (.mv (.const (.bool false))) none []]
def l60r5:List AOper :=
  [.mk (some 10) (.mv (.tmp 5)) none [],.mk (some 11) (.bin .add (.tmp 10) (.const (.int .i64 1))) none [0],.mk (some 5) (.mv (.tmp 11)) none [1,0,1]]
def l60r6:List AOper :=
  [.mk (some 18) (.mv (.tmp 0)) none [],.mk (some 19) (.len (.tmp 18)) none [0],.mk (some 20) (.call 69 [.tmp 19,.const (.int .i64 1),.const (.int .i64 3)]) none [1],.mk (some 21) (.mv (.tmp 20)) none [2,2],.mk (some 22) (.mv (.tmp 1)) (some (21,true)) [3],.mk (some 23) (.len (.tmp 22)) (some (21,true)) [4,3],.mk (some 24) (.mv (.tmp 0)) (some (21,true)) [3],.mk (some 25) (.len (.tmp 24)) (some (21,true)) [6,3],.mk (some 26) (.bin .eql (.tmp 23) (.tmp 25)) (some (21,true)) [5,7,3],.mk (some 27) (.pick (.tmp 21) (.tmp 26) (.const (.bool false))) none [3,8],.mk (some 4) (.mv (.tmp 27)) none [9,3,0,1,2,3,4,5,6,7,8,9]]
def l60:AFn :=
  (AFn.mk 28 2 (.seq (.reg l60r0) (.seq (.seq (.reg l60r1) (.block 0 (.loop (.seq (.seq (.reg l60r2) (.cond (.tmp 9) .skip (.exit 0))) (.seq (.block 1 (.seq (.reg l60r3) (.cond (.tmp 17) (.seq (.reg l60r4) .ret) .skip))) (.reg l60r5)))))) (.seq (.reg l60r6) .ret))) [.tmp 4])
theorem l60_eq:lowFn Try.prog 60=some l60:=by kernel_rfl
def l61r0:List AOper :=
  [.mk (some 6) (.alloc [.slice none 0 0,.slice none 0 0]) none [],.mk (some 7) (.mv (.const (.bool false))) none []]
def l61r1:List AOper :=
  [.mk (some 14) (.mv (.tmp 0)) none [],.mk (some 15) (.mv (.tmp 1)) none [],.mk (some 16) (.call 93 [.tmp 14,.tmp 15]) none [0,1],.mk (some 13) (.mv (.tmp 16)) none [2],.mk (some 17) (.extract (.tmp 13) 0) none [3],.mk (some 18) (.extract (.tmp 13) 1) none [3],.mk (some 8) (.mv (.tmp 17)) none [4,2,0,1,2,3,4],.mk (some 9) (.mv (.tmp 18)) none [5,6,0,1,2,3,4,5,6]]
def l61r2:List AOper :=
  [.mk (some 19) (.mv (.tmp 9)) none [],.mk (some 20) (.un .not (.tmp 19)) none [0],.mk (some 21) (.mv (.tmp 20)) none [1],.mk (some 22) (.mv (.tmp 2)) (some (21,false)) [2],.mk (some 23) (.mv (.tmp 8)) (some (21,false)) [2],.mk (some 24) (.call 100 [.tmp 22,.tmp 23]) (some (21,false)) [3,4,2,2],.mk (some 25) (.un .not (.tmp 24)) (some (21,false)) [5,2],.mk (some 26) (.pick (.tmp 21) (.const (.bool true)) (.tmp 25)) none [2,6]]
def l61r3:List AOper :=
  [.mk (some 27) (.build [.slice none 0 0,.slice none 0 0] []) none [],.mk none (.store 2 (.tmp 6) (.tmp 27)) none [0,0],.mk (some 7) (.mv (.const (.bool false))) none [1,0,1]]
def l61r4:List AOper :=
  [.mk (some 29) (.mv (.tmp 8)) none [],.mk (some 30) (.call 94 [.tmp 29]) none [0],.mk (some 28) (.mv (.tmp 30)) none [1],.mk (some 31) (.extract (.tmp 28) 0) none [2],.mk (some 32) (.extract (.tmp 28) 1) none [2],.mk (some 10) (.mv (.tmp 31)) none [3,1,0,1,2,3],.mk (some 11) (.mv (.tmp 32)) none [4,5,0,1,2,3,4,5]]
def l61r5:List AOper :=
  [.mk (some 33) (.mv (.tmp 11)) none [],.mk (some 34) (.bin .gtr (.tmp 33) (.const (.int .i64 4000))) none [0]]
def l61r6:List AOper :=
  [.mk (some 35) (.build [.slice none 0 0,.slice none 0 0] []) none [],.mk none (.store 2 (.tmp 6) (.tmp 35)) none [0,0],.mk (some 7) (.mv (.const (.bool false))) none [1,0,1]]
def l61r7:List AOper :=
  [.mk (some 36) (.mv (.tmp 0)) none [],.mk (some 37) (.mv (.tmp 1)) none [],.mk (some 38) (.mv (.tmp 2)) none [],.mk (some 39) (.mv (.tmp 8)) none [],.mk (some 40) (.call 101 [.tmp 36,.tmp 37,.tmp 38,.tmp 39]) none [0,1,2,3],.mk (some 12) (.alloc [.slice none 0 0,.slice none 0 0]) none [],.mk none (.store 2 (.tmp 12) (.tmp 40)) none [5,4,4,0,1,2,3,4,5]]
def l61r8a:List AOper :=
  [.mk (some 41) (.load true 2 (.tmp 12)) none [],.mk (some 42) (.load true 2 (.tmp 12)) none [],.mk (some 43) (.call 76 [.tmp 42]) none [1]]
def l61r8b:List AOper :=
  [.mk none (.store 2 (.tmp 6) (.tmp 41)) none [0,2,0],.mk (some 7) (.mv (.tmp 43)) none [2,3,0,1,2,3]]
def l61r8:List AOper:=l61r8a ++ l61r8b
def l61:AFn :=
  (AFn.mk 44 3 (.seq (.reg l61r0) (.seq (.reg l61r1) (.seq (.seq (.reg l61r2) (.cond (.tmp 26) (.seq (.reg l61r3) .ret) .skip)) (.seq (.seq (.reg l61r4) (.seq (.reg l61r5) (.cond (.tmp 34) (.seq (.reg l61r6) .ret) .skip))) (.seq (.reg l61r7) (.seq (.draw l61r8) .ret)))))) [.cell 6 true 2,.tmp 7])
theorem l61_eq:lowFn Try.prog 61=some l61:=by kernel_rfl
def l64r0:List AOper :=
  [.mk (some 6) (.alloc [.int .i64 0,.int .i64 0,.int .i64 0]) none []]
def l64r1:List AOper :=
  [.mk (some 8) (.mv (.tmp 2)) none [],.mk (some 9) (.bin .lss (.tmp 8) (.const (.int .i64 1))) none [0]]
def l64r2:List AOper :=
  [.mk (some 10) (.build [.int .i64 0,.int .i64 0,.int .i64 0] [(0,1,.const (.int .i64 0)),(1,1,.const (.int .i64 0)),(2,1,.const (.int .i64 1))]) none [],.mk none (.store 3 (.tmp 6) (.tmp 10)) none [0,0]]
def l64r3:List AOper :=
  [.mk (some 11) (.mv (.tmp 2)) none [],.mk (some 12) (.bin .eql (.tmp 11) (.const (.int .i64 1))) none [0]]
def l64r4:List AOper :=
  [.mk (some 13) (.mv (.tmp 0)) none [],.mk (some 14) (.mv (.tmp 0)) none [],.mk (some 15) (.bin .add (.tmp 14) (.const (.int .i64 1))) none [1],.mk (some 16) (.build [.int .i64 0,.int .i64 0,.int .i64 0] [(0,1,.tmp 13),(1,1,.tmp 15),(2,1,.const (.int .i64 1))]) none [0,2],.mk none (.store 3 (.tmp 6) (.tmp 16)) none [3,0,1,2,3]]
def l64r5:List AOper :=
  [.mk (some 17) (.mv (.tmp 0)) none [],.mk (some 18) (.mv (.tmp 2)) none [],.mk (some 19) (.bin .sub (.tmp 18) (.const (.int .i64 1))) none [1],.mk (some 20) (.mv (.tmp 1)) none [],.mk (some 21) (.bin .mul (.tmp 19) (.tmp 20)) none [2,3],.mk (some 22) (.bin .add (.tmp 17) (.tmp 21)) none [0,4],.mk (some 7) (.mv (.tmp 22)) none [5,0,1,2,3,4,5]]
def l64r6:List AOper :=
  [.mk (some 23) (.mv (.tmp 1)) none [],.mk (some 24) (.bin .lss (.tmp 23) (.const (.int .i64 0))) none [0]]
def l64r7:List AOper :=
  [.mk (some 25) (.mv (.tmp 0)) none [],.mk (some 26) (.mv (.tmp 7)) none [],.mk (some 27) (.bin .sub (.tmp 26) (.const (.int .i64 1))) none [1],.mk (some 28) (.mv (.tmp 1)) none [],.mk (some 29) (.build [.int .i64 0,.int .i64 0,.int .i64 0] [(0,1,.tmp 25),(1,1,.tmp 27),(2,1,.tmp 28)]) none [0,2,3],.mk none (.store 3 (.tmp 6) (.tmp 29)) none [4,0,1,2,3,4]]
def l64r8:List AOper :=
  [.mk (some 30) (.mv (.tmp 0)) none [],.mk (some 31) (.mv (.tmp 7)) none [],.mk (some 32) (.bin .add (.tmp 31) (.const (.int .i64 1))) none [1],.mk (some 33) (.mv (.tmp 1)) none [],.mk (some 34) (.build [.int .i64 0,.int .i64 0,.int .i64 0] [(0,1,.tmp 30),(1,1,.tmp 32),(2,1,.tmp 33)]) none [0,2,3],.mk none (.store 3 (.tmp 6) (.tmp 34)) none [4,0,1,2,3,4]]
def l64:AFn :=
  (AFn.mk 35 3 (.seq (.reg l64r0) (.seq (.seq (.reg l64r1) (.cond (.tmp 9) (.seq (.reg l64r2) .ret) .skip)) (.seq (.seq (.reg l64r3) (.cond (.tmp 12) (.seq (.reg l64r4) .ret) .skip)) (.seq (.reg l64r5) (.seq (.seq (.reg l64r6) (.cond (.tmp 24) (.seq (.reg l64r7) .ret) .skip)) (.seq (.reg l64r8) .ret)))))) [.cell 6 true 3])
theorem l64_eq:lowFn Try.prog 64=some l64:=by kernel_rfl
def l65r0:List AOper :=
  [.mk (some 1) (.box (.tmp 0)) none [],.mk (some 2) (.mv (.const (.slice none 0 0))) none []]
def l65r1:List AOper :=
  [.mk (some 5) (.load true 3 (.tmp 1)) none [],.mk (some 6) (.call 103 [.tmp 5]) none [0],.mk (some 7) (.mkslice 1 [.int .i64 0] (.tmp 6) (.tmp 6)) none [1,1],.mk (some 3) (.mv (.tmp 7)) none [2,1,0,1,2]]
def l65r2:List AOper :=
  [.mk (some 8) (.mv (.tmp 3)) none [],.mk (some 9) (.len (.tmp 8)) none [0],.mk (some 10) (.mv (.const (.int .i64 0))) none []]
def l65r3:List AOper :=
  [.mk (some 11) (.bin .lss (.tmp 10) (.tmp 9)) none []]
def l65r4:List AOper :=
  [.mk (some 12) (.mv (.tmp 10)) none [],.mk (some 4) (.mv (.tmp 12)) none [0,0]]
def l65r5:List AOper :=
  [.mk (some 13) (.mv (.tmp 3)) none [],.mk (some 14) (.mv (.tmp 4)) none [],.mk (some 15) (.load true 3 (.tmp 1)) none [],.mk (some 16) (.mv (.tmp 4)) none [],.mk (some 17) (.call 104 [.tmp 15,.tmp 16]) none [2,3],.mk (some 18) (.idxA 1 (.tmp 13) (.tmp 14)) none [0,1,0,1,2,3,4],.mk none (.store 1 (.tmp 18) (.tmp 17)) none [5,4,4,0,1,2,3,4]]
def l65r6:List AOper :=
  [.mk (some 19) (.bin .add (.tmp 10) (.const (.int .i64 1))) none [],.mk (some 10) (.mv (.tmp 19)) none [0]]
def l65r7:List AOper :=
  [.mk (some 20) (.mv (.tmp 3)) none [],.mk (some 2) (.mv (.tmp 20)) none [0,0]]
def l65:AFn :=
  (AFn.mk 21 1 (.seq (.reg l65r0) (.seq (.reg l65r1) (.seq (.seq (.reg l65r2) (.block 0 (.loop (.seq (.reg l65r3) (.seq (.cond (.tmp 11) .skip (.exit 0)) (.seq (.block 1 (.seq (.reg l65r4) (.reg l65r5))) (.reg l65r6))))))) (.seq (.reg l65r7) .ret)))) [.tmp 2])
theorem l65_eq:lowFn Try.prog 65=some l65:=by kernel_rfl
def l66r0:List AOper :=
  [.mk (some 4) (.mv (.const (.bool false))) none []]
def l66r1:List AOper :=
  [.mk (some 5) (.mv (.tmp 0)) none [],.mk (some 6) (.bin .leq (.const (.int .i64 0)) (.tmp 5)) none [0],.mk (some 7) (.mv (.tmp 6)) none [1],.mk (some 8) (.mv (.tmp 0)) (some (7,true)) [2],.mk (some 9) (.mv (.tmp 1)) (some (7,true)) [2],.mk (some 10) (.bin .leq (.tmp 8) (.tmp 9)) (some (7,true)) [3,4,2],.mk (some 11) (.pick (.tmp 7) (.tmp 10) (.const (.bool false))) none [2,5],.mk (some 4) (.mv (.tmp 11)) none [6,2,0,1,2,3,4,5,6]]
def l66:AFn :=
  (AFn.mk 12 2 (.seq (.reg l66r0) (.seq (.reg l66r1) .ret)) [.tmp 4])
theorem l66_eq:lowFn Try.prog 66=some l66:=by kernel_rfl
def l67r0:List AOper :=
  [.mk (some 4) (.mv (.const (.slice none 0 0))) none []]
def l67r1:List AOper :=
  [.mk (some 5) (.mv (.const (.slice none 0 0))) none []]
def l67r2:List AOper :=
  [.mk (some 8) (.mv (.tmp 0)) none [],.mk (some 9) (.len (.tmp 8)) none [0],.mk (some 10) (.mv (.const (.int .i64 0))) none []]
def l67r3:List AOper :=
  [.mk (some 11) (.bin .lss (.tmp 10) (.tmp 9)) none []]
def l67r4:List AOper :=
  [.mk (some 12) (.idxA 1 (.tmp 8) (.tmp 10)) none [],.mk (some 13) (.load false 1 (.tmp 12)) none [0],.mk (some 7) (.mv (.tmp 13)) none [1,0,1]]
def l67r5:List AOper :=
  [.mk (some 14) (.mv (.tmp 1)) none [],.mk (some 15) (.mv (.tmp 7)) none [],.mk (some 16) (.call 102 [.tmp 14,.tmp 15]) none [0,1],.mk (some 17) (.un .not (.tmp 16)) none [2]]
def l67r6:List AOper :=
  [.mk (some 18) (.mv (.tmp 5)) none [],.mk (some 19) (.mv (.tmp 7)) none [],.mk (some 20) (.bslice 1 [.int .i64 0] [(0,.tmp 19)] 1) none [1],.mk (some 21) (.append 1 (.tmp 18) (.tmp 20)) none [0,2],.mk (some 5) (.mv (.tmp 21)) none [3,3,0,1,2,3]]
def l67r7:List AOper :=
  [.mk (some 22) (.bin .add (.tmp 10) (.const (.int .i64 1))) none [],.mk (some 10) (.mv (.tmp 22)) none [0]]
def l67r8:List AOper :=
  [.mk (some 23) (.mv (.tmp 5)) none [],.mk (some 4) (.mv (.tmp 23)) none [0,0]]
def l67:AFn :=
  (AFn.mk 24 2 (.seq (.reg l67r0) (.seq (.reg l67r1) (.seq (.seq (.reg l67r2) (.block 0 (.loop (.seq (.reg l67r3) (.seq (.cond (.tmp 11) .skip (.exit 0)) (.seq (.block 1 (.seq (.reg l67r4) (.seq (.reg l67r5) (.cond (.tmp 17) (.reg l67r6) .skip)))) (.reg l67r7))))))) (.seq (.reg l67r8) .ret)))) [.tmp 4])
theorem l67_eq:lowFn Try.prog 67=some l67:=by kernel_rfl
def l69r0:List AOper :=
  [.mk (some 6) (.mv (.const (.bool false))) none []]
def l69r1:List AOper :=
  [.mk (some 7) (.mv (.tmp 1)) none [],.mk (some 8) (.mv (.tmp 0)) none [],.mk (some 9) (.bin .leq (.tmp 7) (.tmp 8)) none [0,1],.mk (some 10) (.mv (.tmp 9)) none [2],.mk (some 11) (.mv (.tmp 0)) (some (10,true)) [3],.mk (some 12) (.mv (.tmp 2)) (some (10,true)) [3],.mk (some 13) (.bin .leq (.tmp 11) (.tmp 12)) (some (10,true)) [4,5,3],.mk (some 14) (.pick (.tmp 10) (.tmp 13) (.const (.bool false))) none [3,6],.mk (some 6) (.mv (.tmp 14)) none [7,3,0,1,2,3,4,5,6,7]]
def l69:AFn :=
  (AFn.mk 15 3 (.seq (.reg l69r0) (.seq (.reg l69r1) .ret)) [.tmp 6])
theorem l69_eq:lowFn Try.prog 69=some l69:=by kernel_rfl
def l73r0:List AOper :=
  [.mk (some 4) (.mv (.const (.int .i64 0))) none []]
def l73r1:List AOper :=
  [.mk (some 7) (.mv (.tmp 0)) none [],.mk (some 8) (.mv (.tmp 0)) none [],.mk (some 9) (.nilck (.tmp 8)) none [1],.mk (some 10) (.fld 1 (.tmp 9)) none [2],.mk (some 11) (.load false 1 (.tmp 10)) none [3],.mk (some 12) (.bin .add (.tmp 11) (.const (.int .i64 1))) none [4],.mk (some 13) (.nilck (.tmp 7)) none [0,0,1,2,3,4,5],.mk (some 14) (.fld 1 (.tmp 13)) none [6,0,1,2,3,4,5],.mk none (.store 1 (.tmp 14) (.tmp 12)) none [7,5,0,1,2,3,4,5]]
def l73r2:List AOper :=
  [.mk (some 15) (.mv (.tmp 1)) none [],.mk (some 16) (.bin .lss (.tmp 15) (.const (.int .i64 1))) none [0],.mk (some 17) (.mv (.tmp 16)) none [1],.mk (some 18) (.mv (.tmp 0)) (some (17,false)) [2],.mk (some 19) (.nilck (.tmp 18)) (some (17,false)) [3,2],.mk (some 20) (.fld 0 (.tmp 19)) (some (17,false)) [4,2],.mk (some 21) (.load false 1 (.tmp 20)) (some (17,false)) [5,2],.mk (some 22) (.len (.tmp 21)) (some (17,false)) [6,2],.mk (some 23) (.bin .eql (.tmp 22) (.const (.int .i64 0))) (some (17,false)) [7,2],.mk (some 24) (.pick (.tmp 17) (.const (.bool true)) (.tmp 23)) none [2,8]]
def l73r3:List AOper :=
  [.mk (some 4) (.mv (.const (.int .i64 0))) none []]
def l73r4:List AOper :=
  [.mk (some 25) (.mv (.tmp 0)) none [],.mk (some 26) (.nilck (.tmp 25)) none [0],.mk (some 27) (.fld 1 (.tmp 26)) none [1],.mk (some 28) (.load false 1 (.tmp 27)) none [2],.mk (some 29) (.bin .sub (.tmp 28) (.const (.int .i64 1))) none [3],.mk (some 5) (.mv (.tmp 29)) none [4,0,1,2,3,4]]
def l73r5:List AOper :=
  [.mk (some 30) (.mv (.tmp 5)) none [],.mk (some 31) (.mv (.tmp 0)) none [],.mk (some 32) (.nilck (.tmp 31)) none [1],.mk (some 33) (.fld 0 (.tmp 32)) none [2],.mk (some 34) (.load false 1 (.tmp 33)) none [3],.mk (some 35) (.len (.tmp 34)) none [4],.mk (some 36) (.bin .lss (.tmp 30) (.tmp 35)) none [0,5]]
def l73r6:List AOper :=
  [.mk (some 37) (.mv (.tmp 0)) none [],.mk (some 38) (.nilck (.tmp 37)) none [0],.mk (some 39) (.fld 0 (.tmp 38)) none [1],.mk (some 40) (.load false 1 (.tmp 39)) none [2],.mk (some 41) (.mv (.tmp 5)) none [],.mk (some 42) (.idxA 1 (.tmp 40) (.tmp 41)) none [3,4],.mk (some 43) (.load false 1 (.tmp 42)) none [5],.mk (some 44) (.conv .i64 (.tmp 43)) none [6],.mk (some 45) (.mv (.tmp 1)) none [],.mk (some 46) (.bin .rem (.tmp 44) (.tmp 45)) none [7,8],.mk (some 4) (.mv (.tmp 46)) none [9,0,1,2,3,4,5,6,7,8,9]]
def l73r7a:List AOper :=
  [.mk (some 47) (.mv (.tmp 0)) none [],.mk (some 48) (.nilck (.tmp 47)) none [0],.mk (some 49) (.fld 0 (.tmp 48)) none [1],.mk (some 50) (.load false 1 (.tmp 49)) none [2],.mk (some 51) (.mv (.tmp 5)) none [],.mk (some 52) (.mv (.tmp 0)) none [],.mk (some 53) (.nilck (.tmp 52)) none [5],.mk (some 54) (.fld 0 (.tmp 53)) none [6],.mk (some 55) (.load false 1 (.tmp 54)) none [7],.mk (some 56) (.len (.tmp 55)) none [8],.mk (some 57) (.bin .rem (.tmp 51) (.tmp 56)) none [4,9],.mk (some 58) (.idxA 1 (.tmp 50) (.tmp 57)) none [3,10],.mk (some 59) (.load false 1 (.tmp 58)) none [11],.mk (some 60) (.conv .i64 (.tmp 59)) none [12],.mk (some 61) (.bin .mul (.tmp 60) (.const (.int .i64 131))) none [13],.mk (some 62) (.mv (.tmp 0)) none [],.mk (some 63) (.nilck (.tmp 62)) none [15],.mk (some 64) (.fld 0 (.tmp 63)) none [16],.mk (some 65) (.load false 1 (.tmp 64)) none [17],.mk (some 66) (.mv (.tmp 5)) none [],.mk (some 67) (.bin .mul (.tmp 66) (.const (.int .i64 7))) none [19],.mk (some 68) (.bin .add (.tmp 67) (.const (.int .i64 3))) none [20],.mk (some 69) (.mv (.tmp 0)) none [],.mk (some 70) (.nilck (.tmp 69)) none [22],.mk (some 71) (.fld 0 (.tmp 70)) none [23],.mk (some 72) (.load false 1 (.tmp 71)) none [24],.mk (some 73) (.len (.tmp 72)) none [25],.mk (some 74) (.bin .rem (.tmp 68) (.tmp 73)) none [21,26],.mk (some 75) (.idxA 1 (.tmp 65) (.tmp 74)) none [18,27],.mk (some 76) (.load false 1 (.tmp 75)) none [28],.mk (some 77) (.conv .i64 (.tmp 76)) none [29],.mk (some 78) (.bin .mul (.tmp 77) (.const (.int .i64 1117))) none [30],.mk (some 79) (.bin .add (.tmp 61) (.tmp 78)) none [14,31],.mk (some 80) (.mv (.tmp 5)) none [],.mk (some 81) (.bin .mul (.tmp 80) (.const (.int .i64 29))) none [33],.mk (some 82) (.bin .add (.tmp 79) (.tmp 81)) none [32,34],.mk (some 83) (.mv (.tmp 5)) none [],.mk (some 84) (.mv (.tmp 0)) none [],.mk (some 85) (.nilck (.tmp 84)) none [37],.mk (some 86) (.fld 0 (.tmp 85)) none [38],.mk (some 87) (.load false 1 (.tmp 86)) none [39],.mk (some 88) (.len (.tmp 87)) none [40],.mk (some 89) (.bin .quo (.tmp 83) (.tmp 88)) none [36,41],.mk (some 90) (.bin .mul (.tmp 89) (.const (.int .i64 53))) none [42]]
def l73r7b:List AOper :=
  [.mk (some 91) (.bin .add (.tmp 82) (.tmp 90)) none [35,43],.mk (some 6) (.mv (.tmp 91)) none [44,0,1,2,3,4,5,6,7,8,9,10,11,12,13,14,15,16,17,18,19,20,21,22,23,24,25,26,27,28,29,30,31,32,33,34,35,36,37,38,39,40,41,42,43,44]]
def l73r7:List AOper:=l73r7a ++ l73r7b
def l73r8:List AOper :=
  [.mk (some 92) (.mv (.tmp 6)) none [],.mk (some 93) (.mv (.tmp 6)) none [],.mk (some 94) (.bin .quo (.tmp 93) (.const (.int .i64 64))) none [1],.mk (some 95) (.bin .xor (.tmp 92) (.tmp 94)) none [0,2],.mk (some 6) (.mv (.tmp 95)) none [3,0,1,2,3]]
def l73r9:List AOper :=
  [.mk (some 96) (.mv (.tmp 6)) none [],.mk (some 97) (.mv (.tmp 1)) none [],.mk (some 98) (.bin .rem (.tmp 96) (.tmp 97)) none [0,1],.mk (some 4) (.mv (.tmp 98)) none [2,0,1,2]]
def l73:AFn :=
  (AFn.mk 99 2 (.seq (.reg l73r0) (.seq (.reg l73r1) (.seq (.seq (.reg l73r2) (.cond (.tmp 24) (.seq (.reg l73r3) .ret) .skip)) (.seq (.reg l73r4) (.seq (.seq (.reg l73r5) (.cond (.tmp 36) (.seq (.reg l73r6) .ret) .skip)) (.seq (.draw l73r7) (.seq (.reg l73r8) (.seq (.reg l73r9) .ret)))))))) [.tmp 4])
theorem l73_eq:lowFn Try.prog 73=some l73:=by kernel_rfl
def l74r0:List AOper :=
  [.mk (some 2) (.alloc [.slice none 0 0,.slice none 0 0]) none []]
def l74r1:List AOper :=
  [.mk (some 4) (.mv (.tmp 0)) none [],.mk (some 5) (.mv (.tmp 0)) none [],.mk (some 6) (.call 105 [.tmp 5]) none [1],.mk (some 7) (.call 75 [.tmp 4,.tmp 6]) none [0,2,2],.mk (some 3) (.alloc [.slice none 0 0,.slice none 0 0]) none [],.mk none (.store 2 (.tmp 3) (.tmp 7)) none [4,3,3,0,1,2,3,4]]
def l74r2:List AOper :=
  [.mk (some 8) (.mv (.tmp 0)) none [],.mk (some 9) (.call 73 [.tmp 8,.const (.int .i64 24)]) none [0]]
def l74r3:List AOper :=
  [.mk (some 11) (.bin .eql (.tmp 9) (.const (.int .i64 0))) none [],.mk (some 10) (.mv (.tmp 11)) none [0]]
def l74r4:List AOper :=
  [.mk (some 12) (.fld 1 (.tmp 3)) none [],.mk (some 13) (.load false 1 (.tmp 12)) none [0],.mk (some 14) (.bslice 1 [.int .i64 0] [(0,.const (.int .i64 1))] 1) none [],.mk (some 15) (.append 1 (.tmp 13) (.tmp 14)) none [1,2],.mk (some 16) (.fld 1 (.tmp 3)) none [0,1,2,3],.mk none (.store 1 (.tmp 16) (.tmp 15)) none [4,3,3,0,1,2,3]]
def l74r5:List AOper :=
  [.mk (some 18) (.bin .eql (.tmp 9) (.const (.int .i64 1))) none [],.mk (some 17) (.mv (.tmp 18)) none [0]]
def l74r6:List AOper :=
  [.mk (some 19) (.fld 0 (.tmp 3)) none [],.mk (some 20) (.load false 1 (.tmp 19)) none [0],.mk (some 21) (.bslice 1 [.int .i64 0] [(0,.const (.int .i64 (-1)))] 1) none [],.mk (some 22) (.append 1 (.tmp 20) (.tmp 21)) none [1,2],.mk (some 23) (.fld 0 (.tmp 3)) none [0,1,2,3],.mk none (.store 1 (.tmp 23) (.tmp 22)) none [4,3,3,0,1,2,3]]
def l74r7:List AOper :=
  [.mk (some 24) (.load true 2 (.tmp 3)) none [],.mk none (.store 2 (.tmp 2) (.tmp 24)) none [0,0]]
def l74:AFn :=
  (AFn.mk 25 1 (.seq (.reg l74r0) (.seq (.reg l74r1) (.seq (.seq (.reg l74r2) (.block 0 (.seq (.reg l74r3) (.cond (.tmp 10) (.reg l74r4) (.seq (.reg l74r5) (.cond (.tmp 17) (.reg l74r6) .skip)))))) (.seq (.reg l74r7) .ret)))) [.cell 2 true 2])
theorem l74_eq:lowFn Try.prog 74=some l74:=by kernel_rfl
def l75r0:List AOper :=
  [.mk (some 4) (.alloc [.slice none 0 0,.slice none 0 0]) none []]
def l75r1:List AOper :=
  [.mk (some 7) (.mv (.tmp 1)) none [],.mk (some 8) (.call 83 [.tmp 7]) none [0],.mk (some 9) (.build [.slice none 0 0,.slice none 0 0] [(0,1,.tmp 8)]) none [1],.mk (some 5) (.alloc [.slice none 0 0,.slice none 0 0]) none [],.mk none (.store 2 (.tmp 5) (.tmp 9)) none [3,2,1,0,1,2,3]]
def l75r2:List AOper :=
  [.mk (some 10) (.mv (.tmp 1)) none [],.mk (some 11) (.call 87 [.tmp 10]) none [0],.mk (some 6) (.mv (.tmp 11)) none [1,1,0,1]]
def l75r3:List AOper :=
  [.mk (some 12) (.mv (.tmp 6)) none [],.mk (some 13) (.bin .gtr (.tmp 12) (.const (.int .i64 0))) none [0]]
def l75r4a:List AOper :=
  [.mk (some 16) (.fld 1 (.tmp 5)) none [],.mk (some 17) (.load false 1 (.tmp 16)) none [0],.mk (some 18) (.mv (.tmp 0)) none [],.mk (some 19) (.call 73 [.tmp 18,.const (.int .i64 19)]) none [2],.mk (some 20) (.bin .sub (.tmp 19) (.const (.int .i64 9))) none [3],.mk (some 21) (.bslice 1 [.int .i64 0] [(0,.tmp 20)] 1) none [4]]
def l75r4b:List AOper :=
  [.mk (some 22) (.append 1 (.tmp 17) (.tmp 21)) none [1,5,3],.mk (some 23) (.fld 1 (.tmp 5)) none [0,1,2,3,4,5,6],.mk none (.store 1 (.tmp 23) (.tmp 22)) none [7,6,6,0,1,2,3,4,5,6]]
def l75r4:List AOper:=l75r4a ++ l75r4b
def l75r5:List AOper :=
  [.mk (some 14) (.mv (.tmp 6)) none [],.mk (some 15) (.bin .sub (.tmp 14) (.const (.int .i64 1))) none [0],.mk (some 6) (.mv (.tmp 15)) none [1,0,1]]
def l75r6:List AOper :=
  [.mk (some 24) (.load true 2 (.tmp 5)) none [],.mk none (.store 2 (.tmp 4) (.tmp 24)) none [0,0]]
def l75:AFn :=
  (AFn.mk 25 2 (.seq (.reg l75r0) (.seq (.reg l75r1) (.seq (.seq (.reg l75r2) (.block 0 (.loop (.seq (.seq (.reg l75r3) (.cond (.tmp 13) .skip (.exit 0))) (.seq (.block 1 (.draw l75r4)) (.reg l75r5)))))) (.seq (.reg l75r6) .ret)))) [.cell 4 true 2])
theorem l75_eq:lowFn Try.prog 75=some l75:=by kernel_rfl
def l76r0:List AOper :=
  [.mk (some 1) (.box (.tmp 0)) none [],.mk (some 2) (.mv (.const (.bool false))) none []]
def l76r1a:List AOper :=
  [.mk (some 3) (.fld 0 (.tmp 1)) none [],.mk (some 4) (.load false 1 (.tmp 3)) none [0],.mk (some 5) (.call 106 [.tmp 4]) none [1],.mk (some 6) (.mv (.tmp 5)) none [2,2],.mk (some 7) (.fld 1 (.tmp 1)) (some (6,true)) [3],.mk (some 8) (.load false 1 (.tmp 7)) (some (6,true)) [4,3],.mk (some 9) (.len (.tmp 8)) (some (6,true)) [5,3],.mk (some 10) (.fld 0 (.tmp 1)) (some (6,true)) [3],.mk (some 11) (.load false 1 (.tmp 10)) (some (6,true)) [7,3],.mk (some 12) (.call 87 [.tmp 11]) (some (6,true)) [8,3,3]]
def l76r1b:List AOper :=
  [.mk (some 13) (.bin .eql (.tmp 9) (.tmp 12)) (some (6,true)) [6,9,3],.mk (some 14) (.pick (.tmp 6) (.tmp 13) (.const (.bool false))) none [3,10],.mk (some 15) (.mv (.tmp 14)) none [11,9],.mk (some 16) (.fld 1 (.tmp 1)) (some (15,true)) [12],.mk (some 17) (.load false 1 (.tmp 16)) (some (15,true)) [13,12],.mk (some 18) (.call 49 [.tmp 17,.const (.int .i64 (-1000000)),.const (.int .i64 1000000)]) (some (15,true)) [14,12,12],.mk (some 19) (.pick (.tmp 15) (.tmp 18) (.const (.bool false))) none [12,15],.mk (some 2) (.mv (.tmp 19)) none [16,15,0,1,2,3,4,5,6,7,8,9,10,11,12,13,14,15,16]]
def l76r1:List AOper:=l76r1a ++ l76r1b
def l76:AFn :=
  (AFn.mk 20 1 (.seq (.reg l76r0) (.seq (.draw l76r1) .ret)) [.tmp 2])
theorem l76_eq:lowFn Try.prog 76=some l76:=by kernel_rfl
def l79r0:List AOper :=
  [.mk (some 6) (.mv (.const (.slice none 0 0))) none []]
def l79r1a:List AOper :=
  [.mk (some 7) (.bslice 1 [.int .i64 0] [] 0) none [],.mk (some 8) (.mv (.tmp 0)) none [],.mk (some 9) (.mv (.tmp 1)) none [],.mk (some 10) (.slice 1 (.tmp 8) none (some (.tmp 9))) none [1,2],.mk (some 11) (.append 1 (.tmp 7) (.tmp 10)) none [0,3],.mk (some 12) (.mv (.tmp 2)) none [],.mk (some 13) (.bslice 1 [.int .i64 0] [(0,.tmp 12)] 1) none [5],.mk (some 14) (.append 1 (.tmp 11) (.tmp 13)) none [4,6,4],.mk (some 15) (.mv (.tmp 0)) none [],.mk (some 16) (.mv (.tmp 1)) none [],.mk (some 17) (.slice 1 (.tmp 15) (some (.tmp 16)) none) none [8,9]]
def l79r1b:List AOper :=
  [.mk (some 18) (.append 1 (.tmp 14) (.tmp 17)) none [7,10,7],.mk (some 6) (.mv (.tmp 18)) none [11,11,0,1,2,3,4,5,6,7,8,9,10,11]]
def l79r1:List AOper:=l79r1a ++ l79r1b
def l79:AFn :=
  (AFn.mk 19 3 (.seq (.reg l79r0) (.seq (.draw l79r1) .ret)) [.tmp 6])
theorem l79_eq:lowFn Try.prog 79=some l79:=by kernel_rfl
def l83r0:List AOper :=
  [.mk (some 2) (.mv (.const (.slice none 0 0))) none []]
def l83r1:List AOper :=
  [.mk (some 3) (.bslice 1 [.int .i64 0] [] 0) none [],.mk (some 4) (.mv (.tmp 0)) none [],.mk (some 5) (.append 1 (.tmp 3) (.tmp 4)) none [0,1],.mk (some 2) (.mv (.tmp 5)) none [2,2,0,1,2]]
def l83:AFn :=
  (AFn.mk 6 1 (.seq (.reg l83r0) (.seq (.reg l83r1) .ret)) [.tmp 2])
theorem l83_eq:lowFn Try.prog 83=some l83:=by kernel_rfl
def l85r0:List AOper :=
  [.mk (some 2) (.mv (.const (.int .i64 0))) none []]
def l85r1:List AOper :=
  [.mk (some 3) (.mv (.const (.int .i64 1))) none []]
def l85r2:List AOper :=
  [.mk (some 6) (.mv (.tmp 0)) none [],.mk (some 7) (.len (.tmp 6)) none [0],.mk (some 8) (.mv (.const (.int .i64 0))) none []]
def l85r3:List AOper :=
  [.mk (some 9) (.bin .lss (.tmp 8) (.tmp 7)) none []]
def l85r4:List AOper :=
  [.mk (some 10) (.idxA 1 (.tmp 6) (.tmp 8)) none [],.mk (some 11) (.load false 1 (.tmp 10)) none [0],.mk (some 5) (.mv (.tmp 11)) none [1,0,1]]
def l85r5:List AOper :=
  [.mk (some 12) (.mv (.tmp 3)) none [],.mk (some 13) (.mv (.tmp 5)) none [],.mk (some 14) (.bin .mul (.tmp 12) (.tmp 13)) none [0,1],.mk (some 3) (.mv (.tmp 14)) none [2,0,1,2]]
def l85r6:List AOper :=
  [.mk (some 15) (.bin .add (.tmp 8) (.const (.int .i64 1))) none [],.mk (some 8) (.mv (.tmp 15)) none [0]]
def l85r7:List AOper :=
  [.mk (some 16) (.mv (.tmp 3)) none [],.mk (some 2) (.mv (.tmp 16)) none [0,0]]
def l85:AFn :=
  (AFn.mk 17 1 (.seq (.reg l85r0) (.seq (.reg l85r1) (.seq (.seq (.reg l85r2) (.block 0 (.loop (.seq (.reg l85r3) (.seq (.cond (.tmp 9) .skip (.exit 0)) (.seq (.block 1 (.seq (.reg l85r4) (.reg l85r5))) (.reg l85r6))))))) (.seq (.reg l85r7) .ret)))) [.tmp 2])
theorem l85_eq:lowFn Try.prog 85=some l85:=by kernel_rfl
def l86r0:List AOper :=
  [.mk (some 4) (.mv (.const (.bool false))) none []]
def l86r1:List AOper :=
  [.mk (some 5) (.mv (.tmp 1)) none [],.mk (some 6) (.un .neg (.tmp 5)) none [0],.mk (some 7) (.mv (.tmp 0)) none [],.mk (some 8) (.bin .leq (.tmp 6) (.tmp 7)) none [1,2],.mk (some 9) (.mv (.tmp 8)) none [3],.mk (some 10) (.mv (.tmp 0)) (some (9,true)) [4],.mk (some 11) (.mv (.tmp 1)) (some (9,true)) [4],.mk (some 12) (.bin .leq (.tmp 10) (.tmp 11)) (some (9,true)) [5,6,4],.mk (some 13) (.pick (.tmp 9) (.tmp 12) (.const (.bool false))) none [4,7],.mk (some 4) (.mv (.tmp 13)) none [8,4,0,1,2,3,4,5,6,7,8]]
def l86:AFn :=
  (AFn.mk 14 2 (.seq (.reg l86r0) (.seq (.reg l86r1) .ret)) [.tmp 4])
theorem l86_eq:lowFn Try.prog 86=some l86:=by kernel_rfl
def l87r0:List AOper :=
  [.mk (some 2) (.mv (.const (.int .i64 0))) none []]
def l87r1:List AOper :=
  [.mk (some 3) (.mv (.const (.int .i64 1))) none []]
def l87r2:List AOper :=
  [.mk (some 4) (.mv (.const (.int .i64 0))) none []]
def l87r3:List AOper :=
  [.mk (some 5) (.mv (.tmp 4)) none [],.mk (some 6) (.mv (.tmp 0)) none [],.mk (some 7) (.len (.tmp 6)) none [1],.mk (some 8) (.bin .lss (.tmp 5) (.tmp 7)) none [0,2]]
def l87r4:List AOper :=
  [.mk (some 11) (.mv (.tmp 3)) none [],.mk (some 12) (.mv (.tmp 0)) none [],.mk (some 13) (.mv (.tmp 4)) none [],.mk (some 14) (.idxA 1 (.tmp 12) (.tmp 13)) none [1,2],.mk (some 15) (.load false 1 (.tmp 14)) none [3],.mk (some 16) (.bin .mul (.tmp 11) (.tmp 15)) none [0,4],.mk (some 3) (.mv (.tmp 16)) none [5,0,1,2,3,4,5]]
def l87r5:List AOper :=
  [.mk (some 9) (.mv (.tmp 4)) none [],.mk (some 10) (.bin .add (.tmp 9) (.const (.int .i64 1))) none [0],.mk (some 4) (.mv (.tmp 10)) none [1,0,1]]
def l87r6:List AOper :=
  [.mk (some 17) (.mv (.tmp 3)) none [],.mk (some 2) (.mv (.tmp 17)) none [0,0]]
def l87:AFn :=
  (AFn.mk 18 1 (.seq (.reg l87r0) (.seq (.reg l87r1) (.seq (.seq (.reg l87r2) (.block 0 (.loop (.seq (.seq (.reg l87r3) (.cond (.tmp 8) .skip (.exit 0))) (.seq (.block 1 (.reg l87r4)) (.reg l87r5)))))) (.seq (.reg l87r6) .ret)))) [.tmp 2])
theorem l87_eq:lowFn Try.prog 87=some l87:=by kernel_rfl
def l88r0:List AOper :=
  [.mk (some 4) (.mv (.const (.slice none 0 0))) none []]
def l88r1:List AOper :=
  [.mk (some 7) (.bslice 1 [.int .i64 0] [] 0) none [],.mk (some 5) (.mv (.tmp 7)) none [0,0]]
def l88r2:List AOper :=
  [.mk (some 6) (.mv (.const (.int .i64 0))) none []]
def l88r3:List AOper :=
  [.mk (some 8) (.mv (.tmp 6)) none [],.mk (some 9) (.mv (.tmp 1)) none [],.mk (some 10) (.len (.tmp 9)) none [1],.mk (some 11) (.bin .lss (.tmp 8) (.tmp 10)) none [0,2]]
def l88r4:List AOper :=
  [.mk (some 14) (.mv (.tmp 5)) none [],.mk (some 15) (.mv (.tmp 0)) none [],.mk (some 16) (.mv (.tmp 1)) none [],.mk (some 17) (.mv (.tmp 6)) none [],.mk (some 18) (.idxA 1 (.tmp 16) (.tmp 17)) none [2,3],.mk (some 19) (.load false 1 (.tmp 18)) none [4],.mk (some 20) (.idxA 1 (.tmp 15) (.tmp 19)) none [1,5],.mk (some 21) (.load false 1 (.tmp 20)) none [6],.mk (some 22) (.bslice 1 [.int .i64 0] [(0,.tmp 21)] 1) none [7],.mk (some 23) (.append 1 (.tmp 14) (.tmp 22)) none [0,8],.mk (some 5) (.mv (.tmp 23)) none [9,9,0,1,2,3,4,5,6,7,8,9]]
def l88r5:List AOper :=
  [.mk (some 12) (.mv (.tmp 6)) none [],.mk (some 13) (.bin .add (.tmp 12) (.const (.int .i64 1))) none [0],.mk (some 6) (.mv (.tmp 13)) none [1,0,1]]
def l88r6:List AOper :=
  [.mk (some 24) (.mv (.tmp 5)) none [],.mk (some 4) (.mv (.tmp 24)) none [0,0]]
def l88:AFn :=
  (AFn.mk 25 2 (.seq (.reg l88r0) (.seq (.reg l88r1) (.seq (.seq (.reg l88r2) (.block 0 (.loop (.seq (.seq (.reg l88r3) (.cond (.tmp 11) .skip (.exit 0))) (.seq (.block 1 (.reg l88r4)) (.reg l88r5)))))) (.seq (.reg l88r6) .ret)))) [.tmp 4])
theorem l88_eq:lowFn Try.prog 88=some l88:=by kernel_rfl
def l89r0:List AOper :=
  [.mk (some 4) (.mv (.const (.int .i64 0))) none []]
def l89r1:List AOper :=
  [.mk (some 5) (.mv (.const (.int .i64 0))) none []]
def l89r2:List AOper :=
  [.mk (some 6) (.mv (.tmp 5)) none [],.mk (some 7) (.mv (.tmp 0)) none [],.mk (some 8) (.len (.tmp 7)) none [1],.mk (some 9) (.bin .lss (.tmp 6) (.tmp 8)) none [0,2]]
def l89r3:List AOper :=
  [.mk (some 12) (.mv (.tmp 0)) none [],.mk (some 13) (.mv (.tmp 5)) none [],.mk (some 14) (.idxA 1 (.tmp 12) (.tmp 13)) none [0,1],.mk (some 15) (.load false 1 (.tmp 14)) none [2],.mk (some 16) (.mv (.tmp 1)) none [],.mk (some 17) (.bin .eql (.tmp 15) (.tmp 16)) none [3,4]]
def l89r4:List AOper :=
  [.mk (some 18) (.mv (.tmp 5)) none [],.mk (some 4) (.mv (.tmp 18)) none [0,0]]
def l89r5:List AOper :=
  [.mk (some 10) (.mv (.tmp 5)) none [],.mk (some 11) (.bin .add (.tmp 10) (.const (.int .i64 1))) none [0],.mk (some 5) (.mv (.tmp 11)) none [1,0,1]]
def l89r6:List AOper :=
  [.mk (some 4) (.mv (.const (.int .i64 (-1)))) none []]
def l89:AFn :=
  (AFn.mk 19 2 (.seq (.reg l89r0) (.seq (.seq (.reg l89r1) (.block 0 (.loop (.seq (.seq (.reg l89r2) (.cond (.tmp 9) .skip (.exit 0))) (.seq (.block 1 (.seq (.reg l89r3) (.cond (.tmp 17) (.seq (.reg l89r4) .ret) .skip))) (.reg l89r5)))))) (.seq (.reg l89r6) .ret))) [.tmp 4])
theorem l89_eq:lowFn Try.prog 89=some l89:=by kernel_rfl
def l90r0:List AOper :=
  [.mk (some 2) (.mv (.const (.bool false))) none []]
def l90r1:List AOper :=
  [.mk (some 5) (.mv (.tmp 0)) none [],.mk (some 6) (.len (.tmp 5)) none [0],.mk (some 7) (.mv (.const (.int .i64 0))) none []]
def l90r2:List AOper :=
  [.mk (some 8) (.bin .lss (.tmp 7) (.tmp 6)) none []]
def l90r3:List AOper :=
  [.mk (some 9) (.idxA 1 (.tmp 5) (.tmp 7)) none [],.mk (some 10) (.load false 1 (.tmp 9)) none [0],.mk (some 4) (.mv (.tmp 10)) none [1,0,1]]
def l90r4:List AOper :=
  [.mk (some 11) (.mv (.tmp 4)) none [],.mk (some 12) (.call 66 [.tmp 11,.const (.int .i64 4)]) none [0],.mk (some 13) (.un .not (.tmp 12)) none [1]]
def l90r5:List AOper :=
  [.mk (some 2) (.mv (.const (.bool false))) none []]
def l90r6:List AOper :=
  [.mk (some 14) (.bin .add (.tmp 7) (.const (.int .i64 1))) none [],.mk (some 7) (.mv (.tmp 14)) none [0]]
def l90r7:List AOper :=
  [.mk (some 2) (.mv (.const (.bool true))) none []]
def l90:AFn :=
  (AFn.mk 15 1 (.seq (.reg l90r0) (.seq (.seq (.reg l90r1) (.block 0 (.loop (.seq (.reg l90r2) (.seq (.cond (.tmp 8) .skip (.exit 0)) (.seq (.block 1 (.seq (.reg l90r3) (.seq (.reg l90r4) (.cond (.tmp 13) (.seq (.reg l90r5) .ret) .skip)))) (.reg l90r6))))))) (.seq (.reg l90r7) .ret))) [.tmp 2])
theorem l90_eq:lowFn Try.prog 90=some l90:=by kernel_rfl
def l91r0:List AOper :=
  [.mk (some 0) (.alloc [.int .i64 0,.int .i64 0,.int .i64 0,.int .i64 0,.int .i64 0]) none []]
def l91r1:List AOper :=
  [.mk (some 1) (.alloc [.int .i64 0,.int .i64 0,.int .i64 0,.int .i64 0,.int .i64 0]) none []]
def l91r2:List AOper :=
  [.mk (some 3) (.mv (.const (.int .i64 0))) none []]
def l91r3:List AOper :=
  [.mk (some 4) (.bin .lss (.tmp 3) (.const (.int .i64 5))) none []]
def l91r4:List AOper :=
  [.mk (some 5) (.mv (.tmp 3)) none [],.mk (some 2) (.mv (.tmp 5)) none [0,0]]
def l91r5:List AOper :=
  [.mk (some 6) (.mv (.tmp 2)) none [],.mk (some 7) (.idxP 1 5 (.tmp 1) (.tmp 6)) none [0,0],.mk none (.store 1 (.tmp 7) (.const (.int .i64 (-1)))) none [1,0]]
def l91r6:List AOper :=
  [.mk (some 8) (.bin .add (.tmp 3) (.const (.int .i64 1))) none [],.mk (some 3) (.mv (.tmp 8)) none [0]]
def l91r7:List AOper :=
  [.mk (some 9) (.load true 5 (.tmp 1)) none [],.mk none (.store 5 (.tmp 0) (.tmp 9)) none [0,0]]
def l91:AFn :=
  (AFn.mk 10 0 (.seq (.reg l91r0) (.seq (.reg l91r1) (.seq (.seq (.reg l91r2) (.block 0 (.loop (.seq (.reg l91r3) (.seq (.cond (.tmp 4) .skip (.exit 0)) (.seq (.block 1 (.seq (.reg l91r4) (.reg l91r5))) (.reg l91r6))))))) (.seq (.reg l91r7) .ret)))) [.cell 0 true 5])
theorem l91_eq:lowFn Try.prog 91=some l91:=by kernel_rfl
def l92r0:List AOper :=
  [.mk (some 4) (.alloc [.int .i64 0,.int .i64 0,.int .i64 0,.int .i64 0,.int .i64 0]) none [],.mk (some 5) (.mv (.const (.bool false))) none []]
def l92r1:List AOper :=
  [.mk (some 11) (.call 91 []) none [],.mk (some 6) (.alloc [.int .i64 0,.int .i64 0,.int .i64 0,.int .i64 0,.int .i64 0]) none [],.mk none (.store 5 (.tmp 6) (.tmp 11)) none [1,0,0,0,1]]
def l92r2:List AOper :=
  [.mk (some 12) (.mv (.tmp 0)) none [],.mk (some 13) (.len (.tmp 12)) none [0],.mk (some 14) (.mv (.const (.int .i64 0))) none []]
def l92r3:List AOper :=
  [.mk (some 15) (.bin .lss (.tmp 14) (.tmp 13)) none []]
def l92r4:List AOper :=
  [.mk (some 16) (.mv (.tmp 14)) none [],.mk (some 17) (.idxA 2 (.tmp 12) (.tmp 14)) none [],.mk (some 18) (.load true 2 (.tmp 17)) none [1],.mk (some 8) (.alloc [.slice none 0 0,.slice none 0 0]) none [],.mk (some 7) (.mv (.tmp 16)) none [0,0,1,2,3],.mk none (.store 2 (.tmp 8) (.tmp 18)) none [3,2,4,0,1,2,3,4]]
def l92r5a:List AOper :=
  [.mk (some 19) (.load true 2 (.tmp 8)) none [],.mk (some 20) (.call 43 [.tmp 19]) none [0],.mk (some 21) (.un .not (.tmp 20)) none [1],.mk (some 22) (.mv (.tmp 21)) none [2,1],.mk (some 23) (.mv (.tmp 1)) (some (22,false)) [3],.mk (some 24) (.mv (.tmp 7)) (some (22,false)) [3],.mk (some 25) (.idxA 1 (.tmp 23) (.tmp 24)) (some (22,false)) [4,5,3],.mk (some 26) (.load false 1 (.tmp 25)) (some (22,false)) [6,3],.mk (some 27) (.len (.tmp 26)) (some (22,false)) [7,3],.mk (some 28) (.fld 0 (.tmp 8)) (some (22,false)) [3],.mk (some 29) (.load false 1 (.tmp 28)) (some (22,false)) [9,3],.mk (some 30) (.len (.tmp 29)) (some (22,false)) [10,3],.mk (some 31) (.bin .neq (.tmp 27) (.tmp 30)) (some (22,false)) [8,11,3],.mk (some 32) (.pick (.tmp 22) (.const (.bool true)) (.tmp 31)) none [3,12],.mk (some 33) (.mv (.tmp 32)) none [13,3],.mk (some 34) (.mv (.tmp 1)) (some (33,false)) [14],.mk (some 35) (.mv (.tmp 7)) (some (33,false)) [14]]
def l92r5b:List AOper :=
  [.mk (some 36) (.idxA 1 (.tmp 34) (.tmp 35)) (some (33,false)) [15,16,14],.mk (some 37) (.load false 1 (.tmp 36)) (some (33,false)) [17,14],.mk (some 38) (.call 90 [.tmp 37]) (some (33,false)) [18,14,14],.mk (some 39) (.un .not (.tmp 38)) (some (33,false)) [19,14],.mk (some 40) (.pick (.tmp 33) (.const (.bool true)) (.tmp 39)) none [14,20]]
def l92r5:List AOper:=l92r5a ++ l92r5b
def l92r6:List AOper :=
  [.mk (some 41) (.load true 5 (.tmp 6)) none [],.mk none (.store 5 (.tmp 4) (.tmp 41)) none [0,0],.mk (some 5) (.mv (.const (.bool false))) none [1,0,1]]
def l92r7:List AOper :=
  [.mk (some 42) (.mv (.tmp 1)) none [],.mk (some 43) (.mv (.tmp 7)) none [],.mk (some 44) (.idxA 1 (.tmp 42) (.tmp 43)) none [0,1],.mk (some 45) (.load false 1 (.tmp 44)) none [2],.mk (some 46) (.len (.tmp 45)) none [3],.mk (some 47) (.mv (.const (.int .i64 0))) none []]
def l92r8:List AOper :=
  [.mk (some 48) (.bin .lss (.tmp 47) (.tmp 46)) none []]
def l92r9:List AOper :=
  [.mk (some 49) (.mv (.tmp 47)) none [],.mk (some 50) (.idxA 1 (.tmp 45) (.tmp 47)) none [],.mk (some 51) (.load false 1 (.tmp 50)) none [1],.mk (some 9) (.mv (.tmp 49)) none [0,0,1,2],.mk (some 10) (.mv (.tmp 51)) none [2,3,0,1,2,3]]
def l92r10a:List AOper :=
  [.mk (some 52) (.mv (.tmp 10)) none [],.mk (some 53) (.idxP 1 5 (.tmp 6) (.tmp 52)) none [0],.mk (some 54) (.load false 1 (.tmp 53)) none [1],.mk (some 55) (.bin .geq (.tmp 54) (.const (.int .i64 0))) none [2],.mk (some 56) (.mv (.tmp 55)) none [3],.mk (some 57) (.mv (.tmp 10)) (some (56,true)) [4],.mk (some 58) (.idxP 1 5 (.tmp 6) (.tmp 57)) (some (56,true)) [5,4],.mk (some 59) (.load false 1 (.tmp 58)) (some (56,true)) [6,4],.mk (some 60) (.fld 0 (.tmp 8)) (some (56,true)) [4],.mk (some 61) (.load false 1 (.tmp 60)) (some (56,true)) [8,4],.mk (some 62) (.mv (.tmp 9)) (some (56,true)) [4],.mk (some 63) (.idxA 1 (.tmp 61) (.tmp 62)) (some (56,true)) [9,10,4],.mk (some 64) (.load false 1 (.tmp 63)) (some (56,true)) [11,4]]
def l92r10b:List AOper :=
  [.mk (some 65) (.bin .neq (.tmp 59) (.tmp 64)) (some (56,true)) [7,12,4],.mk (some 66) (.pick (.tmp 56) (.tmp 65) (.const (.bool false))) none [4,13]]
def l92r10:List AOper:=l92r10a ++ l92r10b
def l92r11:List AOper :=
  [.mk (some 67) (.load true 5 (.tmp 6)) none [],.mk none (.store 5 (.tmp 4) (.tmp 67)) none [0,0],.mk (some 5) (.mv (.const (.bool false))) none [1,0,1]]
def l92r12:List AOper :=
  [.mk (some 68) (.mv (.tmp 10)) none [],.mk (some 69) (.fld 0 (.tmp 8)) none [],.mk (some 70) (.load false 1 (.tmp 69)) none [1],.mk (some 71) (.mv (.tmp 9)) none [],.mk (some 72) (.idxA 1 (.tmp 70) (.tmp 71)) none [2,3],.mk (some 73) (.load false 1 (.tmp 72)) none [4],.mk (some 74) (.idxP 1 5 (.tmp 6) (.tmp 68)) none [0,0,1,2,3,4,5],.mk none (.store 1 (.tmp 74) (.tmp 73)) none [6,5,0,1,2,3,4,5]]
def l92r13:List AOper :=
  [.mk (some 75) (.bin .add (.tmp 47) (.const (.int .i64 1))) none [],.mk (some 47) (.mv (.tmp 75)) none [0]]
def l92r14:List AOper :=
  [.mk (some 76) (.bin .add (.tmp 14) (.const (.int .i64 1))) none [],.mk (some 14) (.mv (.tmp 76)) none [0]]
def l92r15:List AOper :=
  [.mk (some 77) (.load true 5 (.tmp 6)) none [],.mk none (.store 5 (.tmp 4) (.tmp 77)) none [0,0],.mk (some 5) (.mv (.const (.bool true))) none [1,0,1]]
def l92:AFn :=
  (AFn.mk 78 2 (.seq (.reg l92r0) (.seq (.reg l92r1) (.seq (.seq (.reg l92r2) (.block 0 (.loop (.seq (.reg l92r3) (.seq (.cond (.tmp 15) .skip (.exit 0)) (.seq (.block 1 (.seq (.reg l92r4) (.seq (.seq (.draw l92r5) (.cond (.tmp 40) (.seq (.reg l92r6) .ret) .skip)) (.seq (.reg l92r7) (.block 2 (.loop (.seq (.reg l92r8) (.seq (.cond (.tmp 48) .skip (.exit 2)) (.seq (.block 3 (.seq (.reg l92r9) (.seq (.seq (.draw l92r10) (.cond (.tmp 66) (.seq (.reg l92r11) .ret) .skip)) (.reg l92r12)))) (.reg l92r13)))))))))) (.reg l92r14))))))) (.seq (.reg l92r15) .ret)))) [.cell 4 true 5,.tmp 5])
theorem l92_eq:lowFn Try.prog 92=some l92:=by kernel_rfl
def l93r0:List AOper :=
  [.mk (some 4) (.mv (.const (.slice none 0 0))) none [],.mk (some 5) (.mv (.const (.bool false))) none [0]]
def l93r1:List AOper :=
  [.mk (some 11) (.bslice 1 [.int .i64 0] [] 0) none [],.mk (some 6) (.mv (.tmp 11)) none [0,0]]
def l93r2:List AOper :=
  [.mk (some 7) (.mv (.const (.int .i64 0))) none []]
def l93r3:List AOper :=
  [.mk (some 12) (.mv (.tmp 7)) none [],.mk (some 13) (.bin .leq (.tmp 12) (.const (.int .i64 4))) none [0]]
def l93r4:List AOper :=
  [.mk (some 16) (.mv (.tmp 6)) none [],.mk (some 17) (.bslice 1 [.int .i64 0] [(0,.const (.int .i64 (-1)))] 1) none [],.mk (some 18) (.append 1 (.tmp 16) (.tmp 17)) none [0,1],.mk (some 6) (.mv (.tmp 18)) none [2,2,0,1,2]]
def l93r5:List AOper :=
  [.mk (some 14) (.mv (.tmp 7)) none [],.mk (some 15) (.bin .add (.tmp 14) (.const (.int .i64 1))) none [0],.mk (some 7) (.mv (.tmp 15)) none [1,0,1]]
def l93r6:List AOper :=
  [.mk (some 8) (.mv (.const (.int .i64 0))) none []]
def l93r7:List AOper :=
  [.mk (some 19) (.mv (.tmp 8)) none [],.mk (some 20) (.mv (.tmp 0)) none [],.mk (some 21) (.len (.tmp 20)) none [1],.mk (some 22) (.bin .lss (.tmp 19) (.tmp 21)) none [0,2]]
def l93r8a:List AOper :=
  [.mk (some 25) (.mv (.tmp 1)) none [],.mk (some 26) (.mv (.tmp 8)) none [],.mk (some 27) (.idxA 1 (.tmp 25) (.tmp 26)) none [0,1],.mk (some 28) (.load false 1 (.tmp 27)) none [2],.mk (some 29) (.len (.tmp 28)) none [3],.mk (some 30) (.mv (.tmp 0)) none [],.mk (some 31) (.mv (.tmp 8)) none [],.mk (some 32) (.idxA 2 (.tmp 30) (.tmp 31)) none [5,6],.mk (some 33) (.fld 0 (.tmp 32)) none [7],.mk (some 34) (.load false 1 (.tmp 33)) none [8],.mk (some 35) (.len (.tmp 34)) none [9],.mk (some 36) (.bin .neq (.tmp 29) (.tmp 35)) none [4,10],.mk (some 37) (.mv (.tmp 36)) none [11],.mk (some 38) (.mv (.tmp 1)) (some (37,false)) [12],.mk (some 39) (.mv (.tmp 8)) (some (37,false)) [12]]
def l93r8b:List AOper :=
  [.mk (some 40) (.idxA 1 (.tmp 38) (.tmp 39)) (some (37,false)) [13,14,12],.mk (some 41) (.load false 1 (.tmp 40)) (some (37,false)) [15,12],.mk (some 42) (.call 49 [.tmp 41,.const (.int .i64 0),.const (.int .i64 4)]) (some (37,false)) [16,12,12],.mk (some 43) (.un .not (.tmp 42)) (some (37,false)) [17,12],.mk (some 44) (.pick (.tmp 37) (.const (.bool true)) (.tmp 43)) none [12,18]]
def l93r8:List AOper:=l93r8a ++ l93r8b
def l93r9:List AOper :=
  [.mk (some 4) (.mv (.const (.slice none 0 0))) none [],.mk (some 5) (.mv (.const (.bool false))) none [0,0]]
def l93r10:List AOper :=
  [.mk (some 9) (.mv (.const (.int .i64 0))) none []]
def l93r11:List AOper :=
  [.mk (some 45) (.mv (.tmp 9)) none [],.mk (some 46) (.mv (.tmp 1)) none [],.mk (some 47) (.mv (.tmp 8)) none [],.mk (some 48) (.idxA 1 (.tmp 46) (.tmp 47)) none [1,2],.mk (some 49) (.load false 1 (.tmp 48)) none [3],.mk (some 50) (.len (.tmp 49)) none [4],.mk (some 51) (.bin .lss (.tmp 45) (.tmp 50)) none [0,5]]
def l93r12:List AOper :=
  [.mk (some 54) (.mv (.tmp 1)) none [],.mk (some 55) (.mv (.tmp 8)) none [],.mk (some 56) (.idxA 1 (.tmp 54) (.tmp 55)) none [0,1],.mk (some 57) (.load false 1 (.tmp 56)) none [2],.mk (some 58) (.mv (.tmp 9)) none [],.mk (some 59) (.idxA 1 (.tmp 57) (.tmp 58)) none [3,4],.mk (some 60) (.load false 1 (.tmp 59)) none [5],.mk (some 10) (.mv (.tmp 60)) none [6,0,1,2,3,4,5,6]]
def l93r13a:List AOper :=
  [.mk (some 61) (.mv (.tmp 6)) none [],.mk (some 62) (.mv (.tmp 10)) none [],.mk (some 63) (.idxA 1 (.tmp 61) (.tmp 62)) none [0,1],.mk (some 64) (.load false 1 (.tmp 63)) none [2],.mk (some 65) (.bin .geq (.tmp 64) (.const (.int .i64 0))) none [3],.mk (some 66) (.mv (.tmp 65)) none [4],.mk (some 67) (.mv (.tmp 6)) (some (66,true)) [5],.mk (some 68) (.mv (.tmp 10)) (some (66,true)) [5],.mk (some 69) (.idxA 1 (.tmp 67) (.tmp 68)) (some (66,true)) [6,7,5],.mk (some 70) (.load false 1 (.tmp 69)) (some (66,true)) [8,5],.mk (some 71) (.mv (.tmp 0)) (some (66,true)) [5],.mk (some 72) (.mv (.tmp 8)) (some (66,true)) [5],.mk (some 73) (.idxA 2 (.tmp 71) (.tmp 72)) (some (66,true)) [10,11,5],.mk (some 74) (.fld 0 (.tmp 73)) (some (66,true)) [12,5],.mk (some 75) (.load false 1 (.tmp 74)) (some (66,true)) [13,5],.mk (some 76) (.mv (.tmp 9)) (some (66,true)) [5],.mk (some 77) (.idxA 1 (.tmp 75) (.tmp 76)) (some (66,true)) [14,15,5],.mk (some 78) (.load false 1 (.tmp 77)) (some (66,true)) [16,5]]
def l93r13b:List AOper :=
  [.mk (some 79) (.bin .neq (.tmp 70) (.tmp 78)) (some (66,true)) [9,17,5],.mk (some 80) (.pick (.tmp 66) (.tmp 79) (.const (.bool false))) none [5,18]]
def l93r13:List AOper:=l93r13a ++ l93r13b
def l93r14:List AOper :=
  [.mk (some 4) (.mv (.const (.slice none 0 0))) none [],.mk (some 5) (.mv (.const (.bool false))) none [0,0]]
def l93r15:List AOper :=
  [.mk (some 81) (.mv (.tmp 6)) none [],.mk (some 82) (.mv (.tmp 10)) none [],.mk (some 83) (.mv (.tmp 0)) none [],.mk (some 84) (.mv (.tmp 8)) none [],.mk (some 85) (.idxA 2 (.tmp 83) (.tmp 84)) none [2,3],.mk (some 86) (.fld 0 (.tmp 85)) none [4],.mk (some 87) (.load false 1 (.tmp 86)) none [5],.mk (some 88) (.mv (.tmp 9)) none [],.mk (some 89) (.idxA 1 (.tmp 87) (.tmp 88)) none [6,7],.mk (some 90) (.load false 1 (.tmp 89)) none [8],.mk (some 91) (.idxA 1 (.tmp 81) (.tmp 82)) none [0,1,0,1,2,3,4,5,6,7,8,9],.mk none (.store 1 (.tmp 91) (.tmp 90)) none [10,9,0,1,2,3,4,5,6,7,8,9]]
def l93r16:List AOper :=
  [.mk (some 52) (.mv (.tmp 9)) none [],.mk (some 53) (.bin .add (.tmp 52) (.const (.int .i64 1))) none [0],.mk (some 9) (.mv (.tmp 53)) none [1,0,1]]
def l93r17:List AOper :=
  [.mk (some 23) (.mv (.tmp 8)) none [],.mk (some 24) (.bin .add (.tmp 23) (.const (.int .i64 1))) none [0],.mk (some 8) (.mv (.tmp 24)) none [1,0,1]]
def l93r18:List AOper :=
  [.mk (some 92) (.mv (.tmp 6)) none [],.mk (some 4) (.mv (.tmp 92)) none [0,0],.mk (some 5) (.mv (.const (.bool true))) none [1,0,1]]
def l93:AFn :=
  (AFn.mk 93 2 (.seq (.reg l93r0) (.seq (.reg l93r1) (.seq (.seq (.reg l93r2) (.block 0 (.loop (.seq (.seq (.reg l93r3) (.cond (.tmp 13) .skip (.exit 0))) (.seq (.block 1 (.reg l93r4)) (.reg l93r5)))))) (.seq (.seq (.reg l93r6) (.block 2 (.loop (.seq (.seq (.reg l93r7) (.cond (.tmp 22) .skip (.exit 2))) (.seq (.block 3 (.seq (.seq (.draw l93r8) (.cond (.tmp 44) (.seq (.reg l93r9) .ret) .skip)) (.seq (.reg l93r10) (.block 4 (.loop (.seq (.seq (.reg l93r11) (.cond (.tmp 51) .skip (.exit 4))) (.seq (.block 5 (.seq (.reg l93r12) (.seq (.seq (.draw l93r13) (.cond (.tmp 80) (.seq (.reg l93r14) .ret) .skip)) (.reg l93r15)))) (.reg l93r16)))))))) (.reg l93r17)))))) (.seq (.reg l93r18) .ret))))) [.tmp 4,.tmp 5])
theorem l93_eq:lowFn Try.prog 93=some l93:=by kernel_rfl
def l94r0:List AOper :=
  [.mk (some 2) (.mv (.const (.slice none 0 0))) none [],.mk (some 3) (.mv (.const (.int .i64 0))) none [0]]
def l94r1:List AOper :=
  [.mk (some 8) (.bslice 1 [.int .i64 0] [] 0) none [],.mk (some 4) (.mv (.tmp 8)) none [0,0]]
def l94r2:List AOper :=
  [.mk (some 5) (.mv (.const (.int .i64 1))) none []]
def l94r3:List AOper :=
  [.mk (some 6) (.mv (.const (.int .i64 0))) none []]
def l94r4:List AOper :=
  [.mk (some 9) (.mv (.tmp 6)) none [],.mk (some 10) (.mv (.tmp 0)) none [],.mk (some 11) (.len (.tmp 10)) none [1],.mk (some 12) (.bin .lss (.tmp 9) (.tmp 11)) none [0,2]]
def l94r5:List AOper :=
  [.mk (some 15) (.mv (.tmp 0)) none [],.mk (some 16) (.mv (.tmp 6)) none [],.mk (some 17) (.idxA 1 (.tmp 15) (.tmp 16)) none [0,1],.mk (some 18) (.load false 1 (.tmp 17)) none [2],.mk (some 7) (.mv (.tmp 18)) none [3,0,1,2,3]]
def l94r6:List AOper :=
  [.mk (some 19) (.mv (.tmp 7)) none [],.mk (some 20) (.bin .lss (.tmp 19) (.const (.int .i64 0))) none [0]]
def l94r7:List AOper :=
  [.mk (some 7) (.mv (.const (.int .i64 1))) none []]
def l94r8:List AOper :=
  [.mk (some 21) (.mv (.tmp 4)) none [],.mk (some 22) (.mv (.tmp 7)) none [],.mk (some 23) (.bslice 1 [.int .i64 0] [(0,.tmp 22)] 1) none [1],.mk (some 24) (.append 1 (.tmp 21) (.tmp 23)) none [0,2],.mk (some 4) (.mv (.tmp 24)) none [3,3,0,1,2,3]]
def l94r9:List AOper :=
  [.mk (some 25) (.mv (.tmp 5)) none [],.mk (some 26) (.mv (.tmp 7)) none [],.mk (some 27) (.bin .mul (.tmp 25) (.tmp 26)) none [0,1],.mk (some 5) (.mv (.tmp 27)) none [2,0,1,2]]
def l94r10:List AOper :=
  [.mk (some 13) (.mv (.tmp 6)) none [],.mk (some 14) (.bin .add (.tmp 13) (.const (.int .i64 1))) none [0],.mk (some 6) (.mv (.tmp 14)) none [1,0,1]]
def l94r11:List AOper :=
  [.mk (some 28) (.mv (.tmp 4)) none [],.mk (some 29) (.mv (.tmp 5)) none [],.mk (some 2) (.mv (.tmp 28)) none [0,0],.mk (some 3) (.mv (.tmp 29)) none [1,2,0,1,2]]
def l94:AFn :=
  (AFn.mk 30 1 (.seq (.reg l94r0) (.seq (.reg l94r1) (.seq (.reg l94r2) (.seq (.seq (.reg l94r3) (.block 0 (.loop (.seq (.seq (.reg l94r4) (.cond (.tmp 12) .skip (.exit 0))) (.seq (.block 1 (.seq (.reg l94r5) (.seq (.seq (.reg l94r6) (.cond (.tmp 20) (.reg l94r7) .skip)) (.seq (.reg l94r8) (.reg l94r9))))) (.reg l94r10)))))) (.seq (.reg l94r11) .ret))))) [.tmp 2,.tmp 3])
theorem l94_eq:lowFn Try.prog 94=some l94:=by kernel_rfl
def l96r0:List AOper :=
  [.mk (some 2) (.box (.tmp 0)) none [],.mk (some 4) (.alloc [.slice none 0 0,.slice none 0 0,.int .i64 0,.int .i64 0,.int .i64 0,.int .i64 0,.int .i64 0]) none []]
def l96r1a:List AOper :=
  [.mk (some 8) (.fld 1 (.tmp 2)) none [],.mk (some 9) (.load false 1 (.tmp 8)) none [0],.mk (some 10) (.mv (.tmp 1)) none [],.mk (some 11) (.bslice 1 [.slice none 0 0] [(0,.tmp 10)] 1) none [2],.mk (some 12) (.call 55 [.tmp 11]) none [3],.mk (some 13) (.build [.slice none 0 0,.slice none 0 0,.int .i64 0,.int .i64 0,.int .i64 0,.int .i64 0,.int .i64 0] [(0,1,.tmp 9),(1,1,.tmp 12)]) none [1,4],.mk (some 5) (.alloc [.slice none 0 0,.slice none 0 0,.int .i64 0,.int .i64 0,.int .i64 0,.int .i64 0,.int .i64 0]) none []]
def l96r1b:List AOper :=
  [.mk none (.store 7 (.tmp 5) (.tmp 13)) none [6,5,4,0,1,2,3,4,5,6]]
def l96r1:List AOper:=l96r1a ++ l96r1b
def l96r2:List AOper :=
  [.mk (some 14) (.fld 0 (.tmp 2)) none [],.mk (some 15) (.load false 1 (.tmp 14)) none [0],.mk (some 16) (.call 110 [.tmp 15]) none [1],.mk (some 17) (.len (.tmp 16)) none [2],.mk (some 18) (.mv (.const (.int .i64 0))) none []]
def l96r3:List AOper :=
  [.mk (some 19) (.bin .lss (.tmp 18) (.tmp 17)) none []]
def l96r4:List AOper :=
  [.mk (some 20) (.mv (.tmp 18)) none [],.mk (some 21) (.idxA 1 (.tmp 16) (.tmp 18)) none [],.mk (some 22) (.load false 1 (.tmp 21)) none [1],.mk (some 6) (.mv (.tmp 20)) none [0,0,1,2],.mk (some 7) (.mv (.tmp 22)) none [2,3,0,1,2,3]]
def l96r5:List AOper :=
  [.mk (some 23) (.mv (.tmp 1)) none [],.mk (some 24) (.mv (.tmp 6)) none [],.mk (some 25) (.idxA 1 (.tmp 23) (.tmp 24)) none [0,1],.mk (some 26) (.load false 1 (.tmp 25)) none [2],.mk (some 27) (.fld 2 (.tmp 5)) none [],.mk (some 28) (.idxP 1 5 (.tmp 27) (.tmp 26)) none [4,3],.mk (some 29) (.load false 1 (.tmp 28)) none [5],.mk (some 30) (.mv (.tmp 7)) none [],.mk (some 31) (.bin .add (.tmp 29) (.tmp 30)) none [6,7],.mk (some 32) (.fld 2 (.tmp 5)) none [],.mk (some 33) (.idxP 1 5 (.tmp 32) (.tmp 26)) none [9,3,0,1,2,3,4,5,6,7,8],.mk none (.store 1 (.tmp 33) (.tmp 31)) none [10,8,0,1,2,3,4,5,6,7,8]]
def l96r6:List AOper :=
  [.mk (some 34) (.bin .add (.tmp 18) (.const (.int .i64 1))) none [],.mk (some 18) (.mv (.tmp 34)) none [0]]
def l96r7:List AOper :=
  [.mk (some 35) (.load true 7 (.tmp 5)) none [],.mk none (.store 7 (.tmp 4) (.tmp 35)) none [0,0]]
def l96:AFn :=
  (AFn.mk 36 2 (.seq (.reg l96r0) (.seq (.draw l96r1) (.seq (.seq (.reg l96r2) (.block 0 (.loop (.seq (.reg l96r3) (.seq (.cond (.tmp 19) .skip (.exit 0)) (.seq (.block 1 (.seq (.reg l96r4) (.reg l96r5))) (.reg l96r6))))))) (.seq (.reg l96r7) .ret)))) [.cell 4 true 7])
theorem l96_eq:lowFn Try.prog 96=some l96:=by kernel_rfl
def l97r0:List AOper :=
  [.mk (some 2) (.box (.tmp 0)) none [],.mk (some 3) (.box (.tmp 1)) none [],.mk (some 4) (.mv (.const (.int .i64 0))) none []]
def l97r1a:List AOper :=
  [.mk (some 5) (.fld 0 (.tmp 2)) none [],.mk (some 6) (.load false 1 (.tmp 5)) none [0],.mk (some 7) (.fld 1 (.tmp 2)) none [],.mk (some 8) (.load false 1 (.tmp 7)) none [2],.mk (some 9) (.load true 5 (.tmp 3)) none [],.mk (some 10) (.mkfn (Fn.func 112) [.tmp 9] []) none [4],.mk (some 11) (.fld 2 (.tmp 2)) none [],.mk (some 12) (.load true 5 (.tmp 11)) none [6],.mk (some 13) (.mkfn (Fn.func 112) [.tmp 12] []) none [7],.mk (some 14) (.bslice 1 [.nilFunc] [(0,.tmp 10),(1,.tmp 13)] 2) none [5,8],.mk (some 15) (.call 111 [.tmp 8,.tmp 14]) none [3,9]]
def l97r1b:List AOper :=
  [.mk (some 16) (.idxA 1 (.tmp 6) (.tmp 15)) none [1,10],.mk (some 17) (.load false 1 (.tmp 16)) none [11],.mk (some 4) (.mv (.tmp 17)) none [12,10,0,1,2,3,4,5,6,7,8,9,10,11,12]]
def l97r1:List AOper:=l97r1a ++ l97r1b
def l97:AFn :=
  (AFn.mk 18 2 (.seq (.reg l97r0) (.seq (.draw l97r1) .ret)) [.tmp 4])
theorem l97_eq:lowFn Try.prog 97=some l97:=by kernel_rfl
def l98r0:List AOper :=
  [.mk (some 3) (.box (.tmp 0)) none [],.mk (some 5) (.box (.tmp 2)) none [],.mk (some 6) (.mv (.const (.slice none 0 0))) none []]
def l98r1:List AOper :=
  [.mk (some 12) (.load true 5 (.tmp 3)) none [],.mk (some 13) (.mv (.tmp 1)) none [],.mk (some 14) (.call 56 [.tmp 12,.tmp 13]) none [0,1],.mk (some 15) (.call 85 [.tmp 14]) none [2,2],.mk (some 16) (.mkslice 5 [.int .i64 0,.int .i64 0,.int .i64 0,.int .i64 0,.int .i64 0] (.tmp 15) (.tmp 15)) none [3,3],.mk (some 7) (.alloc [.slice none 0 0]) none [],.mk none (.store 1 (.tmp 7) (.tmp 16)) none [5,4,3,0,1,2,3,4,5]]
def l98r2:List AOper :=
  [.mk (some 17) (.load false 1 (.tmp 7)) none [],.mk (some 18) (.len (.tmp 17)) none [0],.mk (some 19) (.mv (.const (.int .i64 0))) none []]
def l98r3:List AOper :=
  [.mk (some 20) (.bin .lss (.tmp 19) (.tmp 18)) none []]
def l98r4:List AOper :=
  [.mk (some 21) (.mv (.tmp 19)) none [],.mk (some 8) (.alloc [.int .i64 0]) none [],.mk none (.store 1 (.tmp 8) (.tmp 21)) none [1,0,0,1]]
def l98r5:List AOper :=
  [.mk (some 22) (.load false 1 (.tmp 7)) none [],.mk (some 23) (.load false 1 (.tmp 8)) none [],.mk (some 24) (.load true 5 (.tmp 5)) none [],.mk (some 25) (.idxA 5 (.tmp 22) (.tmp 23)) none [0,1,0,1,2],.mk none (.store 5 (.tmp 25) (.tmp 24)) none [3,2,0,1,2]]
def l98r6:List AOper :=
  [.mk (some 26) (.load false 1 (.tmp 8)) none [],.mk (some 9) (.alloc [.int .i64 0]) none [],.mk none (.store 1 (.tmp 9) (.tmp 26)) none [1,0,0,1]]
def l98r7:List AOper :=
  [.mk (some 27) (.mv (.tmp 1)) none [],.mk (some 28) (.call 113 [.tmp 27]) none [0]]
def l98r8:List AOper :=
  [.mk (some 11) (.mv (.tmp 30)) none []]
def l98r9a:List AOper :=
  [.mk (some 31) (.load false 1 (.tmp 7)) none [],.mk (some 32) (.load false 1 (.tmp 8)) none [],.mk (some 33) (.mv (.tmp 11)) none [],.mk (some 34) (.load false 1 (.tmp 9)) none [],.mk (some 35) (.mv (.tmp 11)) none [],.mk (some 36) (.idxP 1 5 (.tmp 3) (.tmp 35)) none [4],.mk (some 37) (.load false 1 (.tmp 36)) none [5],.mk (some 38) (.bin .rem (.tmp 34) (.tmp 37)) none [3,6],.mk (some 39) (.idxA 5 (.tmp 31) (.tmp 32)) none [0,1]]
def l98r9b:List AOper :=
  [.mk (some 40) (.idxP 1 5 (.tmp 39) (.tmp 33)) none [8,2,0,1,2,3,4,5,6,7],.mk none (.store 1 (.tmp 40) (.tmp 38)) none [9,7,0,1,2,3,4,5,6,7]]
def l98r9:List AOper:=l98r9a ++ l98r9b
def l98r10a:List AOper :=
  [.mk (some 41) (.load false 1 (.tmp 9)) none [],.mk (some 42) (.mv (.tmp 11)) none [],.mk (some 43) (.idxP 1 5 (.tmp 3) (.tmp 42)) none [1],.mk (some 44) (.load false 1 (.tmp 43)) none [2]]
def l98r10b:List AOper :=
  [.mk (some 45) (.bin .quo (.tmp 41) (.tmp 44)) none [0,3],.mk none (.store 1 (.tmp 9) (.tmp 45)) none [4,0,1,2,3,4]]
def l98r10:List AOper:=l98r10a ++ l98r10b
def l98r11:List AOper :=
  [.mk (some 46) (.bin .add (.tmp 19) (.const (.int .i64 1))) none [],.mk (some 19) (.mv (.tmp 46)) none [0]]
def l98r12:List AOper :=
  [.mk (some 47) (.load false 1 (.tmp 7)) none [],.mk (some 6) (.mv (.tmp 47)) none [0,0]]
def l98:AFn :=
  (AFn.mk 48 3 (.seq (.reg l98r0) (.seq (.reg l98r1) (.seq (.seq (.reg l98r2) (.block 0 (.loop (.seq (.reg l98r3) (.seq (.cond (.tmp 20) .skip (.exit 0)) (.seq (.block 1 (.seq (.reg l98r4) (.seq (.reg l98r5) (.seq (.reg l98r6) (.seq (.reg l98r7) (.block 2 (.rf (.tmp 28) [29,30] (.reg l98r8) (.block 3 (.seq (.draw l98r9) (.draw l98r10)))))))))) (.reg l98r11))))))) (.seq (.reg l98r12) .ret)))) [.tmp 6])
theorem l98_eq:lowFn Try.prog 98=some l98:=by kernel_rfl
def l99r0:List AOper :=
  [.mk (some 4) (.mv (.const (.int .i64 0))) none []]
def l99r1:List AOper :=
  [.mk (some 5) (.mv (.const (.int .i64 0))) none []]
def l99r2:List AOper :=
  [.mk (some 11) (.mv (.tmp 0)) none [],.mk (some 12) (.len (.tmp 11)) none [0],.mk (some 13) (.mv (.const (.int .i64 0))) none []]
def l99r3:List AOper :=
  [.mk (some 14) (.bin .lss (.tmp 13) (.tmp 12)) none []]
def l99r4:List AOper :=
  [.mk (some 15) (.idxA 5 (.tmp 11) (.tmp 13)) none [],.mk (some 16) (.load true 5 (.tmp 15)) none [0],.mk (some 7) (.alloc [.int .i64 0,.int .i64 0,.int .i64 0,.int .i64 0,.int .i64 0]) none [],.mk none (.store 5 (.tmp 7) (.tmp 16)) none [2,1,0,1,2]]
def l99r5:List AOper :=
  [.mk (some 8) (.mv (.const (.int .i64 1))) none []]
def l99r6:List AOper :=
  [.mk (some 17) (.mv (.tmp 1)) none [],.mk (some 18) (.len (.tmp 17)) none [0],.mk (some 19) (.mv (.const (.int .i64 0))) none []]
def l99r7:List AOper :=
  [.mk (some 20) (.bin .lss (.tmp 19) (.tmp 18)) none []]
def l99r8:List AOper :=
  [.mk (some 21) (.idxA 1 (.tmp 17) (.tmp 19)) none [],.mk (some 22) (.load false 1 (.tmp 21)) none [0],.mk (some 10) (.mv (.tmp 22)) none [1,0,1]]
def l99r9:List AOper :=
  [.mk (some 23) (.mv (.tmp 8)) none [],.mk (some 24) (.mv (.tmp 10)) none [],.mk (some 25) (.load true 5 (.tmp 7)) none [],.mk (some 26) (.raw (Op.call (Call.mk (Callee.value (.tmp 24)) (Array.mk [.tmp 25]) (Array.mk [65])))) none [1,2],.mk (some 27) (.bin .mul (.tmp 23) (.tmp 26)) none [0,3],.mk (some 8) (.mv (.tmp 27)) none [4,3,0,1,2,3,4]]
def l99r10:List AOper :=
  [.mk (some 28) (.bin .add (.tmp 19) (.const (.int .i64 1))) none [],.mk (some 19) (.mv (.tmp 28)) none [0]]
def l99r11:List AOper :=
  [.mk (some 29) (.mv (.tmp 5)) none [],.mk (some 30) (.mv (.tmp 8)) none [],.mk (some 31) (.bin .add (.tmp 29) (.tmp 30)) none [0,1],.mk (some 5) (.mv (.tmp 31)) none [2,0,1,2]]
def l99r12:List AOper :=
  [.mk (some 32) (.bin .add (.tmp 13) (.const (.int .i64 1))) none [],.mk (some 13) (.mv (.tmp 32)) none [0]]
def l99r13:List AOper :=
  [.mk (some 33) (.mv (.tmp 5)) none [],.mk (some 4) (.mv (.tmp 33)) none [0,0]]
def l99:AFn :=
  (AFn.mk 34 2 (.seq (.reg l99r0) (.seq (.reg l99r1) (.seq (.seq (.reg l99r2) (.block 0 (.loop (.seq (.reg l99r3) (.seq (.cond (.tmp 14) .skip (.exit 0)) (.seq (.block 1 (.seq (.reg l99r4) (.seq (.reg l99r5) (.seq (.seq (.reg l99r6) (.block 2 (.loop (.seq (.reg l99r7) (.seq (.cond (.tmp 20) .skip (.exit 2)) (.seq (.block 3 (.seq (.reg l99r8) (.reg l99r9))) (.reg l99r10))))))) (.reg l99r11))))) (.reg l99r12))))))) (.seq (.reg l99r13) .ret)))) [.tmp 4])
theorem l99_eq:lowFn Try.prog 99=some l99:=by kernel_rfl
def l100r0:List AOper :=
  [.mk (some 4) (.mv (.const (.bool false))) none []]
def l100r1:List AOper :=
  [.mk (some 5) (.mv (.tmp 0)) none [],.mk (some 6) (.call 49 [.tmp 5,.const (.int .i64 0),.const (.int .i64 4)]) none [0],.mk (some 7) (.mv (.tmp 6)) none [1,1],.mk (some 8) (.mv (.tmp 0)) (some (7,true)) [2],.mk (some 9) (.call 107 [.tmp 8]) (some (7,true)) [3,2,2],.mk (some 10) (.pick (.tmp 7) (.tmp 9) (.const (.bool false))) none [2,4],.mk (some 11) (.mv (.tmp 10)) none [5,4],.mk (some 12) (.mv (.tmp 1)) (some (11,true)) [6],.mk (some 13) (.mv (.tmp 0)) (some (11,true)) [6],.mk (some 14) (.call 88 [.tmp 12,.tmp 13]) (some (11,true)) [7,8,6,6],.mk (some 15) (.call 49 [.tmp 14,.const (.int .i64 0),.const (.int .i64 60)]) (some (11,true)) [9,9,6],.mk (some 16) (.pick (.tmp 11) (.tmp 15) (.const (.bool false))) none [6,10],.mk (some 17) (.mv (.tmp 16)) none [11,10],.mk (some 18) (.mv (.tmp 1)) (some (17,true)) [12],.mk (some 19) (.mv (.tmp 0)) (some (17,true)) [12],.mk (some 20) (.call 88 [.tmp 18,.tmp 19]) (some (17,true)) [13,14,12,12],.mk (some 21) (.call 106 [.tmp 20]) (some (17,true)) [15,15,12],.mk (some 22) (.pick (.tmp 17) (.tmp 21) (.const (.bool false))) none [12,16],.mk (some 4) (.mv (.tmp 22)) none [17,16,0,1,2,3,4,5,6,7,8,9,10,11,12,13,14,15,16,17]]
def l100:AFn :=
  (AFn.mk 23 2 (.seq (.reg l100r0) (.seq (.reg l100r1) .ret)) [.tmp 4])
theorem l100_eq:lowFn Try.prog 100=some l100:=by kernel_rfl
def l101r0:List AOper :=
  [.mk (some 8) (.alloc [.slice none 0 0,.slice none 0 0]) none []]
def l101r1:List AOper :=
  [.mk (some 18) (.mv (.tmp 3)) none [],.mk (some 19) (.call 94 [.tmp 18]) none [0],.mk (some 17) (.mv (.tmp 19)) none [1],.mk (some 20) (.extract (.tmp 17) 0) none [2],.mk (some 21) (.extract (.tmp 17) 1) none [2],.mk (some 9) (.mv (.tmp 20)) none [3,1,0,1,2,3],.mk (some 10) (.mv (.tmp 21)) none [4,5,0,1,2,3,4,5]]
def l101r2:List AOper :=
  [.mk (some 22) (.mv (.tmp 3)) none [],.mk (some 23) (.mv (.tmp 2)) none [],.mk (some 24) (.call 88 [.tmp 22,.tmp 23]) none [0,1],.mk (some 25) (.build [.slice none 0 0,.slice none 0 0] [(0,1,.tmp 24)]) none [2],.mk (some 11) (.alloc [.slice none 0 0,.slice none 0 0]) none [],.mk none (.store 2 (.tmp 11) (.tmp 25)) none [4,3,2,0,1,2,3,4]]
def l101r3:List AOper :=
  [.mk (some 26) (.fld 0 (.tmp 11)) none [],.mk (some 27) (.load false 1 (.tmp 26)) none [0],.mk (some 28) (.call 87 [.tmp 27]) none [1],.mk (some 29) (.mkslice 1 [.int .i64 0] (.tmp 28) (.tmp 28)) none [2,2],.mk (some 30) (.fld 1 (.tmp 11)) none [0,1,2,3],.mk none (.store 1 (.tmp 30) (.tmp 29)) none [4,3,2,0,1,2,3]]
def l101r4:List AOper :=
  [.mk (some 12) (.mv (.const (.int .i64 0))) none []]
def l101r5:List AOper :=
  [.mk (some 31) (.mv (.tmp 12)) none [],.mk (some 32) (.mv (.tmp 10)) none [],.mk (some 33) (.bin .lss (.tmp 31) (.tmp 32)) none [0,1]]
def l101r6:List AOper :=
  [.mk (some 36) (.mv (.tmp 9)) none [],.mk (some 37) (.mv (.tmp 12)) none [],.mk (some 38) (.call 114 [.tmp 36,.tmp 37]) none [0,1],.mk (some 13) (.mv (.tmp 38)) none [2,2,0,1,2]]
def l101r7:List AOper :=
  [.mk (some 14) (.mv (.const (.int .i64 1))) none []]
def l101r8:List AOper :=
  [.mk (some 15) (.mv (.const (.int .i64 0))) none []]
def l101r9:List AOper :=
  [.mk (some 39) (.mv (.tmp 15)) none [],.mk (some 40) (.mv (.tmp 0)) none [],.mk (some 41) (.len (.tmp 40)) none [1],.mk (some 42) (.bin .lss (.tmp 39) (.tmp 41)) none [0,2]]
def l101r10a:List AOper :=
  [.mk (some 45) (.mv (.tmp 14)) none [],.mk (some 46) (.mv (.tmp 0)) none [],.mk (some 47) (.mv (.tmp 15)) none [],.mk (some 48) (.idxA 2 (.tmp 46) (.tmp 47)) none [1,2],.mk (some 49) (.fld 1 (.tmp 48)) none [3],.mk (some 50) (.load false 1 (.tmp 49)) none [4],.mk (some 51) (.mv (.tmp 0)) none [],.mk (some 52) (.mv (.tmp 15)) none [],.mk (some 53) (.idxA 2 (.tmp 51) (.tmp 52)) none [6,7],.mk (some 54) (.fld 0 (.tmp 53)) none [8],.mk (some 55) (.load false 1 (.tmp 54)) none [9],.mk (some 56) (.mv (.tmp 13)) none [],.mk (some 57) (.mv (.tmp 1)) none [],.mk (some 58) (.mv (.tmp 15)) none [],.mk (some 59) (.idxA 1 (.tmp 57) (.tmp 58)) none [12,13],.mk (some 60) (.load false 1 (.tmp 59)) none [14],.mk (some 61) (.call 88 [.tmp 56,.tmp 60]) none [11,15],.mk (some 62) (.call 115 [.tmp 55,.tmp 61]) none [10,16,16],.mk (some 63) (.idxA 1 (.tmp 50) (.tmp 62)) none [5,17],.mk (some 64) (.load false 1 (.tmp 63)) none [18]]
def l101r10b:List AOper :=
  [.mk (some 65) (.bin .mul (.tmp 45) (.tmp 64)) none [0,19],.mk (some 14) (.mv (.tmp 65)) none [20,17,0,1,2,3,4,5,6,7,8,9,10,11,12,13,14,15,16,17,18,19,20]]
def l101r10:List AOper:=l101r10a ++ l101r10b
def l101r11:List AOper :=
  [.mk (some 43) (.mv (.tmp 15)) none [],.mk (some 44) (.bin .add (.tmp 43) (.const (.int .i64 1))) none [0],.mk (some 15) (.mv (.tmp 44)) none [1,0,1]]
def l101r12a:List AOper :=
  [.mk (some 66) (.fld 0 (.tmp 11)) none [],.mk (some 67) (.load false 1 (.tmp 66)) none [0],.mk (some 68) (.mv (.tmp 13)) none [],.mk (some 69) (.mv (.tmp 2)) none [],.mk (some 70) (.call 88 [.tmp 68,.tmp 69]) none [2,3]]
def l101r12b:List AOper :=
  [.mk (some 71) (.call 115 [.tmp 67,.tmp 70]) none [1,4,4],.mk (some 16) (.mv (.tmp 71)) none [5,5,0,1,2,3,4,5]]
def l101r12:List AOper:=l101r12a ++ l101r12b
def l101r13a:List AOper :=
  [.mk (some 72) (.fld 1 (.tmp 11)) none [],.mk (some 73) (.load false 1 (.tmp 72)) none [0],.mk (some 74) (.mv (.tmp 16)) none [],.mk (some 75) (.fld 1 (.tmp 11)) none [],.mk (some 76) (.load false 1 (.tmp 75)) none [3],.mk (some 77) (.mv (.tmp 16)) none [],.mk (some 78) (.idxA 1 (.tmp 76) (.tmp 77)) none [4,5],.mk (some 79) (.load false 1 (.tmp 78)) none [6],.mk (some 80) (.mv (.tmp 14)) none [],.mk (some 81) (.bin .add (.tmp 79) (.tmp 80)) none [7,8]]
def l101r13b:List AOper :=
  [.mk (some 82) (.idxA 1 (.tmp 73) (.tmp 74)) none [1,2,0,1,2,3,4,5,6,7,8,9],.mk none (.store 1 (.tmp 82) (.tmp 81)) none [10,9,0,1,2,3,4,5,6,7,8,9]]
def l101r13:List AOper:=l101r13a ++ l101r13b
def l101r14:List AOper :=
  [.mk (some 34) (.mv (.tmp 12)) none [],.mk (some 35) (.bin .add (.tmp 34) (.const (.int .i64 1))) none [0],.mk (some 12) (.mv (.tmp 35)) none [1,0,1]]
def l101r15:List AOper :=
  [.mk (some 83) (.load true 2 (.tmp 11)) none [],.mk none (.store 2 (.tmp 8) (.tmp 83)) none [0,0]]
def l101:AFn :=
  (AFn.mk 84 4 (.seq (.reg l101r0) (.seq (.reg l101r1) (.seq (.reg l101r2) (.seq (.reg l101r3) (.seq (.seq (.reg l101r4) (.block 0 (.loop (.seq (.seq (.reg l101r5) (.cond (.tmp 33) .skip (.exit 0))) (.seq (.block 1 (.seq (.reg l101r6) (.seq (.reg l101r7) (.seq (.seq (.reg l101r8) (.block 2 (.loop (.seq (.seq (.reg l101r9) (.cond (.tmp 42) .skip (.exit 2))) (.seq (.block 3 (.draw l101r10)) (.reg l101r11)))))) (.seq (.draw l101r12) (.draw l101r13)))))) (.reg l101r14)))))) (.seq (.reg l101r15) .ret)))))) [.cell 8 true 2])
theorem l101_eq:lowFn Try.prog 101=some l101:=by kernel_rfl
def l102r0:List AOper :=
  [.mk (some 4) (.mv (.const (.bool false))) none []]
def l102r1:List AOper :=
  [.mk (some 5) (.mv (.tmp 0)) none [],.mk (some 6) (.mv (.tmp 1)) none [],.mk (some 7) (.call 116 [.tmp 5,.tmp 6]) none [0,1],.mk (some 8) (.bin .geq (.tmp 7) (.const (.int .i64 0))) none [2],.mk (some 4) (.mv (.tmp 8)) none [3,2,0,1,2,3]]
def l102:AFn :=
  (AFn.mk 9 2 (.seq (.reg l102r0) (.seq (.reg l102r1) .ret)) [.tmp 4])
theorem l102_eq:lowFn Try.prog 102=some l102:=by kernel_rfl
def l103r0:List AOper :=
  [.mk (some 1) (.box (.tmp 0)) none [],.mk (some 2) (.mv (.const (.int .i64 0))) none []]
def l103r1a:List AOper :=
  [.mk (some 5) (.fld 1 (.tmp 1)) none [],.mk (some 6) (.load false 1 (.tmp 5)) none [0],.mk (some 7) (.fld 0 (.tmp 1)) none [],.mk (some 8) (.load false 1 (.tmp 7)) none [2],.mk (some 9) (.bin .sub (.tmp 6) (.tmp 8)) none [1,3],.mk (some 10) (.fld 2 (.tmp 1)) none [],.mk (some 11) (.load false 1 (.tmp 10)) none [5],.mk (some 3) (.mv (.tmp 9)) none [4,0,1,2,3,4]]
def l103r1b:List AOper :=
  [.mk (some 4) (.mv (.tmp 11)) none [6,7,0,1,2,3,4,5,6,7]]
def l103r1:List AOper:=l103r1a ++ l103r1b
def l103r2:List AOper :=
  [.mk (some 12) (.mv (.tmp 4)) none [],.mk (some 13) (.bin .lss (.tmp 12) (.const (.int .i64 0))) none [0]]
def l103r3:List AOper :=
  [.mk (some 14) (.mv (.tmp 3)) none [],.mk (some 15) (.un .neg (.tmp 14)) none [0],.mk (some 16) (.mv (.tmp 4)) none [],.mk (some 17) (.un .neg (.tmp 16)) none [2],.mk (some 3) (.mv (.tmp 15)) none [1,0,1],.mk (some 4) (.mv (.tmp 17)) none [3,4,0,1,2,3,4]]
def l103r4:List AOper :=
  [.mk (some 18) (.mv (.tmp 3)) none [],.mk (some 19) (.bin .leq (.tmp 18) (.const (.int .i64 0))) none [0]]
def l103r5:List AOper :=
  [.mk (some 2) (.mv (.const (.int .i64 0))) none []]
def l103r6:List AOper :=
  [.mk (some 20) (.mv (.tmp 3)) none [],.mk (some 21) (.mv (.tmp 4)) none [],.mk (some 22) (.bin .add (.tmp 20) (.tmp 21)) none [0,1],.mk (some 23) (.bin .sub (.tmp 22) (.const (.int .i64 1))) none [2],.mk (some 24) (.mv (.tmp 4)) none [],.mk (some 25) (.bin .quo (.tmp 23) (.tmp 24)) none [3,4],.mk (some 2) (.mv (.tmp 25)) none [5,0,1,2,3,4,5]]
def l103:AFn :=
  (AFn.mk 26 1 (.seq (.reg l103r0) (.seq (.draw l103r1) (.seq (.seq (.reg l103r2) (.cond (.tmp 13) (.reg l103r3) .skip)) (.seq (.seq (.reg l103r4) (.cond (.tmp 19) (.seq (.reg l103r5) .ret) .skip)) (.seq (.reg l103r6) .ret))))) [.tmp 2])
theorem l103_eq:lowFn Try.prog 103=some l103:=by kernel_rfl
def l104r0:List AOper :=
  [.mk (some 2) (.box (.tmp 0)) none [],.mk (some 4) (.mv (.const (.int .i64 0))) none []]
def l104r1:List AOper :=
  [.mk (some 5) (.fld 0 (.tmp 2)) none [],.mk (some 6) (.load false 1 (.tmp 5)) none [0],.mk (some 7) (.mv (.tmp 1)) none [],.mk (some 8) (.fld 2 (.tmp 2)) none [],.mk (some 9) (.load false 1 (.tmp 8)) none [3],.mk (some 10) (.bin .mul (.tmp 7) (.tmp 9)) none [2,4],.mk (some 11) (.bin .add (.tmp 6) (.tmp 10)) none [1,5],.mk (some 4) (.mv (.tmp 11)) none [6,0,1,2,3,4,5,6]]
def l104:AFn :=
  (AFn.mk 12 2 (.seq (.reg l104r0) (.seq (.reg l104r1) .ret)) [.tmp 4])
theorem l104_eq:lowFn Try.prog 104=some l104:=by kernel_rfl
def l105r0:List AOper :=
  [.mk (some 2) (.mv (.const (.slice none 0 0))) none []]
def l105r1:List AOper :=
  [.mk (some 6) (.bslice 1 [.int .i64 0] [] 0) none [],.mk (some 3) (.mv (.tmp 6)) none [0,0]]
def l105r2:List AOper :=
  [.mk (some 7) (.mv (.tmp 0)) none [],.mk (some 8) (.bslice 1 [.int .i64 0] [(0,.const (.int .i64 2)),(1,.const (.int .i64 1)),(2,.const (.int .i64 3)),(3,.const (.int .i64 2)),(4,.const (.int .i64 0)),(5,.const (.int .i64 4))] 6) none [],.mk (some 9) (.call 46 [.tmp 7,.tmp 8]) none [0,1],.mk (some 4) (.mv (.tmp 9)) none [2,2,0,1,2]]
def l105r3:List AOper :=
  [.mk (some 10) (.mv (.tmp 4)) none [],.mk (some 11) (.bin .gtr (.tmp 10) (.const (.int .i64 0))) none [0]]
def l105r4:List AOper :=
  [.mk (some 14) (.mv (.tmp 0)) none [],.mk (some 15) (.bslice 1 [.int .i64 0] [(0,.const (.int .i64 2)),(1,.const (.int .i64 3)),(2,.const (.int .i64 1)),(3,.const (.int .i64 4)),(4,.const (.int .i64 2)),(5,.const (.int .i64 3)),(6,.const (.int .i64 5)),(7,.const (.int .i64 0))] 8) none [],.mk (some 16) (.call 46 [.tmp 14,.tmp 15]) none [0,1],.mk (some 5) (.mv (.tmp 16)) none [2,2,0,1,2]]
def l105r5:List AOper :=
  [.mk (some 17) (.mv (.tmp 3)) none [],.mk (some 18) (.call 87 [.tmp 17]) none [0],.mk (some 19) (.mv (.tmp 5)) none [],.mk (some 20) (.bin .mul (.tmp 18) (.tmp 19)) none [1,2],.mk (some 21) (.bin .leq (.tmp 20) (.const (.int .i64 60))) none [3]]
def l105r6:List AOper :=
  [.mk (some 22) (.mv (.tmp 3)) none [],.mk (some 23) (.mv (.tmp 5)) none [],.mk (some 24) (.bslice 1 [.int .i64 0] [(0,.tmp 23)] 1) none [1],.mk (some 25) (.append 1 (.tmp 22) (.tmp 24)) none [0,2],.mk (some 3) (.mv (.tmp 25)) none [3,3,0,1,2,3]]
def l105r7:List AOper :=
  [.mk (some 12) (.mv (.tmp 4)) none [],.mk (some 13) (.bin .sub (.tmp 12) (.const (.int .i64 1))) none [0],.mk (some 4) (.mv (.tmp 13)) none [1,0,1]]
def l105r8:List AOper :=
  [.mk (some 26) (.mv (.tmp 3)) none [],.mk (some 2) (.mv (.tmp 26)) none [0,0]]
def l105:AFn :=
  (AFn.mk 27 1 (.seq (.reg l105r0) (.seq (.reg l105r1) (.seq (.seq (.reg l105r2) (.block 0 (.loop (.seq (.seq (.reg l105r3) (.cond (.tmp 11) .skip (.exit 0))) (.seq (.block 1 (.seq (.reg l105r4) (.seq (.reg l105r5) (.cond (.tmp 21) (.reg l105r6) .skip)))) (.reg l105r7)))))) (.seq (.reg l105r8) .ret)))) [.tmp 2])
theorem l105_eq:lowFn Try.prog 105=some l105:=by kernel_rfl
def l106r0:List AOper :=
  [.mk (some 2) (.mv (.const (.bool false))) none []]
def l106r1:List AOper :=
  [.mk (some 3) (.mv (.tmp 0)) none [],.mk (some 4) (.len (.tmp 3)) none [0],.mk (some 5) (.bin .leq (.tmp 4) (.const (.int .i64 4))) none [1],.mk (some 6) (.mv (.tmp 5)) none [2],.mk (some 7) (.mv (.tmp 0)) (some (6,true)) [3],.mk (some 8) (.call 49 [.tmp 7,.const (.int .i64 0),.const (.int .i64 60)]) (some (6,true)) [4,3,3],.mk (some 9) (.pick (.tmp 6) (.tmp 8) (.const (.bool false))) none [3,5],.mk (some 10) (.mv (.tmp 9)) none [6,5],.mk (some 11) (.mv (.tmp 0)) (some (10,true)) [7],.mk (some 12) (.call 87 [.tmp 11]) (some (10,true)) [8,7,7],.mk (some 13) (.bin .leq (.tmp 12) (.const (.int .i64 60))) (some (10,true)) [9,7],.mk (some 14) (.pick (.tmp 10) (.tmp 13) (.const (.bool false))) none [7,10],.mk (some 2) (.mv (.tmp 14)) none [11,9,0,1,2,3,4,5,6,7,8,9,10,11]]
def l106:AFn :=
  (AFn.mk 15 1 (.seq (.reg l106r0) (.seq (.reg l106r1) .ret)) [.tmp 2])
theorem l106_eq:lowFn Try.prog 106=some l106:=by kernel_rfl
def l107r0:List AOper :=
  [.mk (some 2) (.mv (.const (.bool false))) none []]
def l107r1:List AOper :=
  [.mk (some 3) (.mv (.const (.int .i64 0))) none []]
def l107r2:List AOper :=
  [.mk (some 4) (.mv (.tmp 3)) none [],.mk (some 5) (.mv (.tmp 0)) none [],.mk (some 6) (.len (.tmp 5)) none [1],.mk (some 7) (.bin .lss (.tmp 4) (.tmp 6)) none [0,2]]
def l107r3a:List AOper :=
  [.mk (some 10) (.mv (.tmp 0)) none [],.mk (some 11) (.mv (.tmp 3)) none [],.mk (some 12) (.slice 1 (.tmp 10) none (some (.tmp 11))) none [0,1],.mk (some 13) (.mv (.tmp 0)) none [],.mk (some 14) (.mv (.tmp 3)) none [],.mk (some 15) (.idxA 1 (.tmp 13) (.tmp 14)) none [3,4],.mk (some 16) (.load false 1 (.tmp 15)) none [5]]
def l107r3b:List AOper :=
  [.mk (some 17) (.call 89 [.tmp 12,.tmp 16]) none [2,6],.mk (some 18) (.bin .geq (.tmp 17) (.const (.int .i64 0))) none [7]]
def l107r3:List AOper:=l107r3a ++ l107r3b
def l107r4:List AOper :=
  [.mk (some 2) (.mv (.const (.bool false))) none []]
def l107r5:List AOper :=
  [.mk (some 8) (.mv (.tmp 3)) none [],.mk (some 9) (.bin .add (.tmp 8) (.const (.int .i64 1))) none [0],.mk (some 3) (.mv (.tmp 9)) none [1,0,1]]
def l107r6:List AOper :=
  [.mk (some 2) (.mv (.const (.bool true))) none []]
def l107:AFn :=
  (AFn.mk 19 1 (.seq (.reg l107r0) (.seq (.seq (.reg l107r1) (.block 0 (.loop (.seq (.seq (.reg l107r2) (.cond (.tmp 7) .skip (.exit 0))) (.seq (.block 1 (.seq (.draw l107r3) (.cond (.tmp 18) (.seq (.reg l107r4) .ret) .skip))) (.reg l107r5)))))) (.seq (.reg l107r6) .ret))) [.tmp 2])
theorem l107_eq:lowFn Try.prog 107=some l107:=by kernel_rfl
def l110r0:List AOper :=
  [.mk (some 2) (.mv (.const (.slice none 0 0))) none []]
def l110r1:List AOper :=
  [.mk (some 5) (.mv (.tmp 0)) none [],.mk (some 6) (.call 57 [.tmp 5]) none [0],.mk (some 7) (.un .not (.tmp 6)) none [1]]
def l110r2:List AOper :=
  [.mk (some 2) (.mv (.const (.slice none 0 0))) none []]
def l110r3:List AOper :=
  [.mk (some 8) (.mv (.tmp 0)) none [],.mk (some 9) (.len (.tmp 8)) none [0],.mk (some 10) (.mkslice 1 [.int .i64 0] (.tmp 9) (.tmp 9)) none [1,1],.mk (some 3) (.mv (.tmp 10)) none [2,0,1,2]]
def l110r4:List AOper :=
  [.mk (some 11) (.mv (.tmp 3)) none [],.mk (some 12) (.len (.tmp 11)) none [0],.mk (some 13) (.mv (.const (.int .i64 0))) none []]
def l110r5:List AOper :=
  [.mk (some 14) (.bin .lss (.tmp 13) (.tmp 12)) none []]
def l110r6:List AOper :=
  [.mk (some 15) (.mv (.tmp 13)) none [],.mk (some 4) (.mv (.tmp 15)) none [0,0]]
def l110r7:List AOper :=
  [.mk (some 16) (.mv (.tmp 3)) none [],.mk (some 17) (.mv (.tmp 4)) none [],.mk (some 18) (.mv (.tmp 0)) none [],.mk (some 19) (.mv (.tmp 4)) none [],.mk (some 20) (.bin .add (.tmp 19) (.const (.int .i64 1))) none [3],.mk (some 21) (.slice 1 (.tmp 18) (some (.tmp 20)) none) none [2,4],.mk (some 22) (.call 85 [.tmp 21]) none [5],.mk (some 23) (.idxA 1 (.tmp 16) (.tmp 17)) none [0,1,0,1,2,3,4,5,6],.mk none (.store 1 (.tmp 23) (.tmp 22)) none [7,6,6,0,1,2,3,4,5,6]]
def l110r8:List AOper :=
  [.mk (some 24) (.bin .add (.tmp 13) (.const (.int .i64 1))) none [],.mk (some 13) (.mv (.tmp 24)) none [0]]
def l110r9:List AOper :=
  [.mk (some 25) (.mv (.tmp 3)) none [],.mk (some 2) (.mv (.tmp 25)) none [0,0]]
def l110:AFn :=
  (AFn.mk 26 1 (.seq (.reg l110r0) (.seq (.seq (.reg l110r1) (.cond (.tmp 7) (.seq (.reg l110r2) .ret) .skip)) (.seq (.reg l110r3) (.seq (.seq (.reg l110r4) (.block 0 (.loop (.seq (.reg l110r5) (.seq (.cond (.tmp 14) .skip (.exit 0)) (.seq (.block 1 (.seq (.reg l110r6) (.reg l110r7))) (.reg l110r8))))))) (.seq (.reg l110r9) .ret))))) [.tmp 2])
theorem l110_eq:lowFn Try.prog 110=some l110:=by kernel_rfl
def l111r0:List AOper :=
  [.mk (some 4) (.mv (.const (.int .i64 0))) none []]
def l111r1:List AOper :=
  [.mk (some 5) (.mv (.const (.int .i64 0))) none []]
def l111r2:List AOper :=
  [.mk (some 11) (.mv (.tmp 0)) none [],.mk (some 12) (.len (.tmp 11)) none [0],.mk (some 13) (.mv (.const (.int .i64 0))) none []]
def l111r3:List AOper :=
  [.mk (some 14) (.bin .lss (.tmp 13) (.tmp 12)) none []]
def l111r4:List AOper :=
  [.mk (some 15) (.idxA 1 (.tmp 11) (.tmp 13)) none [],.mk (some 16) (.load false 1 (.tmp 15)) none [0],.mk (some 7) (.mv (.tmp 16)) none [1,0,1]]
def l111r5:List AOper :=
  [.mk (some 8) (.mv (.const (.int .i64 1))) none []]
def l111r6:List AOper :=
  [.mk (some 17) (.mv (.tmp 1)) none [],.mk (some 18) (.len (.tmp 17)) none [0],.mk (some 19) (.mv (.const (.int .i64 0))) none []]
def l111r7:List AOper :=
  [.mk (some 20) (.bin .lss (.tmp 19) (.tmp 18)) none []]
def l111r8:List AOper :=
  [.mk (some 21) (.idxA 1 (.tmp 17) (.tmp 19)) none [],.mk (some 22) (.load false 1 (.tmp 21)) none [0],.mk (some 10) (.mv (.tmp 22)) none [1,0,1]]
def l111r9:List AOper :=
  [.mk (some 23) (.mv (.tmp 8)) none [],.mk (some 24) (.mv (.tmp 10)) none [],.mk (some 25) (.mv (.tmp 7)) none [],.mk (some 26) (.raw (Op.call (Call.mk (Callee.value (.tmp 24)) (Array.mk [.tmp 25]) (Array.mk [3])))) none [1,2],.mk (some 27) (.bin .mul (.tmp 23) (.tmp 26)) none [0,3],.mk (some 8) (.mv (.tmp 27)) none [4,3,0,1,2,3,4]]
def l111r10:List AOper :=
  [.mk (some 28) (.bin .add (.tmp 19) (.const (.int .i64 1))) none [],.mk (some 19) (.mv (.tmp 28)) none [0]]
def l111r11:List AOper :=
  [.mk (some 29) (.mv (.tmp 5)) none [],.mk (some 30) (.mv (.tmp 8)) none [],.mk (some 31) (.bin .add (.tmp 29) (.tmp 30)) none [0,1],.mk (some 5) (.mv (.tmp 31)) none [2,0,1,2]]
def l111r12:List AOper :=
  [.mk (some 32) (.bin .add (.tmp 13) (.const (.int .i64 1))) none [],.mk (some 13) (.mv (.tmp 32)) none [0]]
def l111r13:List AOper :=
  [.mk (some 33) (.mv (.tmp 5)) none [],.mk (some 4) (.mv (.tmp 33)) none [0,0]]
def l111:AFn :=
  (AFn.mk 34 2 (.seq (.reg l111r0) (.seq (.reg l111r1) (.seq (.seq (.reg l111r2) (.block 0 (.loop (.seq (.reg l111r3) (.seq (.cond (.tmp 14) .skip (.exit 0)) (.seq (.block 1 (.seq (.reg l111r4) (.seq (.reg l111r5) (.seq (.seq (.reg l111r6) (.block 2 (.loop (.seq (.reg l111r7) (.seq (.cond (.tmp 20) .skip (.exit 2)) (.seq (.block 3 (.seq (.reg l111r8) (.reg l111r9))) (.reg l111r10))))))) (.reg l111r11))))) (.reg l111r12))))))) (.seq (.reg l111r13) .ret)))) [.tmp 4])
theorem l111_eq:lowFn Try.prog 111=some l111:=by kernel_rfl
def l112r0:List AOper :=
  [.mk (some 2) (.box (.tmp 0)) none [],.mk (some 4) (.mv (.const (.int .i64 0))) none []]
def l112r1:List AOper :=
  [.mk (some 5) (.mv (.tmp 1)) none [],.mk (some 6) (.idxP 1 5 (.tmp 2) (.tmp 5)) none [0],.mk (some 7) (.load false 1 (.tmp 6)) none [1],.mk (some 4) (.mv (.tmp 7)) none [2,0,1,2]]
def l112:AFn :=
  (AFn.mk 8 2 (.seq (.reg l112r0) (.seq (.reg l112r1) .ret)) [.tmp 4])
theorem l112_eq:lowFn Try.prog 112=some l112:=by kernel_rfl
def l113r0:List AOper :=
  [.mk (some 1) (.box (.tmp 0)) none [],.mk (some 2) (.mv (.const .nilFunc)) none []]
def l113r1:List AOper :=
  [.mk (some 3) (.mkfn (Fn.func 118) [] [.tmp 1]) none [],.mk (some 2) (.mv (.tmp 3)) none [0,0]]
def l113:AFn :=
  (AFn.mk 4 1 (.seq (.reg l113r0) (.seq (.reg l113r1) .ret)) [.tmp 2])
theorem l113_eq:lowFn Try.prog 113=some l113:=by kernel_rfl
def l114r0:List AOper :=
  [.mk (some 4) (.mv (.const (.slice none 0 0))) none []]
def l114r1:List AOper :=
  [.mk (some 7) (.mv (.tmp 0)) none [],.mk (some 8) (.len (.tmp 7)) none [0],.mk (some 9) (.mkslice 1 [.int .i64 0] (.tmp 8) (.tmp 8)) none [1,1],.mk (some 5) (.mv (.tmp 9)) none [2,0,1,2]]
def l114r2:List AOper :=
  [.mk (some 10) (.mv (.tmp 0)) none [],.mk (some 11) (.len (.tmp 10)) none [0],.mk (some 12) (.bin .sub (.tmp 11) (.const (.int .i64 1))) none [1],.mk (some 6) (.mv (.tmp 12)) none [2,0,1,2]]
def l114r3:List AOper :=
  [.mk (some 13) (.mv (.tmp 6)) none [],.mk (some 14) (.bin .geq (.tmp 13) (.const (.int .i64 0))) none [0]]
def l114r4:List AOper :=
  [.mk (some 17) (.mv (.tmp 5)) none [],.mk (some 18) (.mv (.tmp 6)) none [],.mk (some 19) (.mv (.tmp 1)) none [],.mk (some 20) (.mv (.tmp 0)) none [],.mk (some 21) (.mv (.tmp 6)) none [],.mk (some 22) (.idxA 1 (.tmp 20) (.tmp 21)) none [3,4],.mk (some 23) (.load false 1 (.tmp 22)) none [5],.mk (some 24) (.bin .rem (.tmp 19) (.tmp 23)) none [2,6],.mk (some 25) (.idxA 1 (.tmp 17) (.tmp 18)) none [0,1,0,1,2,3,4,5,6,7],.mk none (.store 1 (.tmp 25) (.tmp 24)) none [8,7,0,1,2,3,4,5,6,7]]
def l114r5:List AOper :=
  [.mk (some 26) (.mv (.tmp 1)) none [],.mk (some 27) (.mv (.tmp 0)) none [],.mk (some 28) (.mv (.tmp 6)) none [],.mk (some 29) (.idxA 1 (.tmp 27) (.tmp 28)) none [1,2],.mk (some 30) (.load false 1 (.tmp 29)) none [3],.mk (some 31) (.bin .quo (.tmp 26) (.tmp 30)) none [0,4],.mk (some 1) (.mv (.tmp 31)) none [5,0,1,2,3,4,5]]
def l114r6:List AOper :=
  [.mk (some 15) (.mv (.tmp 6)) none [],.mk (some 16) (.bin .sub (.tmp 15) (.const (.int .i64 1))) none [0],.mk (some 6) (.mv (.tmp 16)) none [1,0,1]]
def l114r7:List AOper :=
  [.mk (some 32) (.mv (.tmp 5)) none [],.mk (some 4) (.mv (.tmp 32)) none [0,0]]
def l114:AFn :=
  (AFn.mk 33 2 (.seq (.reg l114r0) (.seq (.reg l114r1) (.seq (.seq (.reg l114r2) (.block 0 (.loop (.seq (.seq (.reg l114r3) (.cond (.tmp 14) .skip (.exit 0))) (.seq (.block 1 (.seq (.reg l114r4) (.reg l114r5))) (.reg l114r6)))))) (.seq (.reg l114r7) .ret)))) [.tmp 4])
theorem l114_eq:lowFn Try.prog 114=some l114:=by kernel_rfl
def l115r0:List AOper :=
  [.mk (some 4) (.mv (.const (.int .i64 0))) none []]
def l115r1:List AOper :=
  [.mk (some 5) (.mv (.const (.int .i64 0))) none []]
def l115r2:List AOper :=
  [.mk (some 6) (.mv (.const (.int .i64 0))) none []]
def l115r3:List AOper :=
  [.mk (some 7) (.mv (.tmp 6)) none [],.mk (some 8) (.mv (.tmp 0)) none [],.mk (some 9) (.len (.tmp 8)) none [1],.mk (some 10) (.bin .lss (.tmp 7) (.tmp 9)) none [0,2]]
def l115r4a:List AOper :=
  [.mk (some 13) (.mv (.tmp 5)) none [],.mk (some 14) (.mv (.tmp 0)) none [],.mk (some 15) (.mv (.tmp 6)) none [],.mk (some 16) (.idxA 1 (.tmp 14) (.tmp 15)) none [1,2],.mk (some 17) (.load false 1 (.tmp 16)) none [3],.mk (some 18) (.bin .mul (.tmp 13) (.tmp 17)) none [0,4],.mk (some 19) (.mv (.tmp 1)) none [],.mk (some 20) (.mv (.tmp 6)) none [],.mk (some 21) (.idxA 1 (.tmp 19) (.tmp 20)) none [6,7],.mk (some 22) (.load false 1 (.tmp 21)) none [8]]
def l115r4b:List AOper :=
  [.mk (some 23) (.bin .add (.tmp 18) (.tmp 22)) none [5,9],.mk (some 5) (.mv (.tmp 23)) none [10,0,1,2,3,4,5,6,7,8,9,10]]
def l115r4:List AOper:=l115r4a ++ l115r4b
def l115r5:List AOper :=
  [.mk (some 11) (.mv (.tmp 6)) none [],.mk (some 12) (.bin .add (.tmp 11) (.const (.int .i64 1))) none [0],.mk (some 6) (.mv (.tmp 12)) none [1,0,1]]
def l115r6:List AOper :=
  [.mk (some 24) (.mv (.tmp 5)) none [],.mk (some 4) (.mv (.tmp 24)) none [0,0]]
def l115:AFn :=
  (AFn.mk 25 2 (.seq (.reg l115r0) (.seq (.reg l115r1) (.seq (.seq (.reg l115r2) (.block 0 (.loop (.seq (.seq (.reg l115r3) (.cond (.tmp 10) .skip (.exit 0))) (.seq (.block 1 (.draw l115r4)) (.reg l115r5)))))) (.seq (.reg l115r6) .ret)))) [.tmp 4])
theorem l115_eq:lowFn Try.prog 115=some l115:=by kernel_rfl
def l116r0:List AOper :=
  [.mk (some 4) (.mv (.const (.int .i64 0))) none []]
def l116r1:List AOper :=
  [.mk (some 6) (.mv (.tmp 0)) none [],.mk (some 7) (.len (.tmp 6)) none [0],.mk (some 8) (.mv (.const (.int .i64 0))) none []]
def l116r2:List AOper :=
  [.mk (some 9) (.bin .lss (.tmp 8) (.tmp 7)) none []]
def l116r3:List AOper :=
  [.mk (some 10) (.mv (.tmp 8)) none [],.mk (some 5) (.mv (.tmp 10)) none [0,0]]
def l116r4:List AOper :=
  [.mk (some 11) (.mv (.tmp 1)) none [],.mk (some 12) (.mv (.tmp 0)) none [],.mk (some 13) (.mv (.tmp 5)) none [],.mk (some 14) (.idxA 1 (.tmp 12) (.tmp 13)) none [1,2],.mk (some 15) (.load false 1 (.tmp 14)) none [3],.mk (some 16) (.bin .eql (.tmp 11) (.tmp 15)) none [0,4]]
def l116r5:List AOper :=
  [.mk (some 17) (.mv (.tmp 5)) none [],.mk (some 4) (.mv (.tmp 17)) none [0,0]]
def l116r6:List AOper :=
  [.mk (some 18) (.bin .add (.tmp 8) (.const (.int .i64 1))) none [],.mk (some 8) (.mv (.tmp 18)) none [0]]
def l116r7:List AOper :=
  [.mk (some 4) (.mv (.const (.int .i64 (-1)))) none []]
def l116:AFn :=
  (AFn.mk 19 2 (.seq (.reg l116r0) (.seq (.seq (.reg l116r1) (.block 0 (.loop (.seq (.reg l116r2) (.seq (.cond (.tmp 9) .skip (.exit 0)) (.seq (.block 1 (.seq (.reg l116r3) (.seq (.reg l116r4) (.cond (.tmp 16) (.seq (.reg l116r5) .ret) .skip)))) (.reg l116r6))))))) (.seq (.reg l116r7) .ret))) [.tmp 4])
theorem l116_eq:lowFn Try.prog 116=some l116:=by kernel_rfl
def l118r0:List AOper :=
  [.mk (some 4) (.load false 1 (.tmp 1)) none [],.mk (some 5) (.len (.tmp 4)) none [0],.mk (some 6) (.bin .sub (.tmp 5) (.const (.int .i64 1))) none [1],.mk (some 3) (.mv (.tmp 6)) none [2,0,1,2]]
def l118r1:List AOper :=
  [.mk (some 7) (.mv (.tmp 3)) none [],.mk (some 8) (.bin .geq (.tmp 7) (.const (.int .i64 0))) none [0]]
def l118r2:List AOper :=
  [.mk (some 11) (.mv (.tmp 0)) none [],.mk (some 12) (.mv (.tmp 3)) none [],.mk (some 13) (.load false 1 (.tmp 1)) none [],.mk (some 14) (.mv (.tmp 3)) none [],.mk (some 15) (.idxA 1 (.tmp 13) (.tmp 14)) none [2,3],.mk (some 16) (.load false 1 (.tmp 15)) none [4],.mk (some 17) (.raw (Op.call (Call.mk (Callee.value (.tmp 11)) (Array.mk [.tmp 12,.tmp 16]) (Array.mk [3,3])))) none [0,1,5],.mk (some 18) (.un .not (.tmp 17)) none [6]]
def l118r3:List AOper :=
  [.mk (some 9) (.mv (.tmp 3)) none [],.mk (some 10) (.bin .sub (.tmp 9) (.const (.int .i64 1))) none [0],.mk (some 3) (.mv (.tmp 10)) none [1,0,1]]
def l118:AFn :=
  (AFn.mk 19 1 (.seq (.reg l118r0) (.block 0 (.loop (.seq (.seq (.reg l118r1) (.cond (.tmp 8) .skip (.exit 0))) (.seq (.block 1 (.seq (.reg l118r2) (.cond (.tmp 18) .ret .skip))) (.reg l118r3)))))) [])
theorem l118_eq:lowFn Try.prog 118=some l118:=by kernel_rfl
end Go.Proofs.Ytbplegbgofnolaa
