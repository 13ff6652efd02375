import Derived.Test.YtfgohhkcmgiddaaCW3
import Derived.Test.YtfgohhkcmgiddaaProg
import Derived.KernelRfl
set_option maxRecDepth 100000
namespace Go.Proofs.Ytfgohhkcmgiddaa
open Vw Go
instance globs:Inhabited GlobT:=⟨⟨[]⟩⟩
attribute [push_cast] Bool.false_eq_true List.length_replicate
attribute [bitvec_to_nat] decide_eq_true_eq decide_eq_false_iff_not Bool.not_eq_true' Bool.not_eq_false' Bool.and_eq_true Bool.or_eq_true Bool.and_eq_false_iff Bool.or_eq_false_iff Int.not_le Int.not_lt bne_iff_ne ne_eq beq_iff_eq Bool.not_eq_true Bool.not_eq_false
theorem sd {P:Prop} (h:P:=by first|assumption|rfl|omega|(simp<;>omega)|(simp_all<;>omega)):P:=h
def l3r0:List AOper :=
  [.mk (some 2) (.mv (.const (.bool false))) none []]
def l3r1:List AOper :=
  [.mk (some 18) (.mv (.tmp 0)) none [],.mk (some 19) (.len (.tmp 18)) none [0],.mk (some 20) (.bin .gtr (.tmp 19) (.const (.int .i64 1048576))) none [1]]
def l3r2:List AOper :=
  [.mk (some 2) (.mv (.const (.bool true))) none []]
def l3r3:List AOper :=
  [.mk (some 22) (.mv (.tmp 0)) none [],.mk (some 23) (.call 5 [.tmp 22]) none [0],.mk (some 21) (.mv (.tmp 23)) none [1],.mk (some 24) (.extract (.tmp 21) 0) none [2],.mk (some 25) (.extract (.tmp 21) 1) none [2],.mk (some 3) (.alloc [.slice none 0 0,.slice none 0 0]) none [],.mk (some 4) (.alloc [.slice none 0 0,.slice none 0 0]) none [],.mk none (.store 2 (.tmp 3) (.tmp 24)) none [5,3,1,0,1,2,3,5,6],.mk none (.store 2 (.tmp 4) (.tmp 25)) none [6,4,7,0,1,2,3,4,5,6,7]]
def l3r4:List AOper :=
  [.mk (some 27) (.load true 2 (.tmp 3)) none [],.mk (some 28) (.load true 2 (.tmp 4)) none [],.mk (some 29) (.call 6 [.tmp 27,.tmp 28]) none [0,1],.mk (some 26) (.mv (.tmp 29)) none [2],.mk (some 30) (.extract (.tmp 26) 0) none [3],.mk (some 31) (.extract (.tmp 26) 1) none [3],.mk (some 5) (.alloc [.slice none 0 0,.slice none 0 0]) none [],.mk none (.store 2 (.tmp 5) (.tmp 30)) none [6,4,2,0,1,2,3,4,6],.mk (some 6) (.mv (.tmp 31)) none [5,7,0,1,2,3,4,5,6,7]]
def l3r5:List AOper :=
  [.mk (some 33) (.load true 2 (.tmp 3)) none [],.mk (some 34) (.load true 2 (.tmp 4)) none [],.mk (some 35) (.call 7 [.tmp 33,.tmp 34]) none [0,1],.mk (some 32) (.mv (.tmp 35)) none [2],.mk (some 36) (.extract (.tmp 32) 0) none [3],.mk (some 37) (.extract (.tmp 32) 1) none [3],.mk (some 7) (.alloc [.slice none 0 0,.slice none 0 0]) none [],.mk none (.store 2 (.tmp 7) (.tmp 36)) none [6,4,2,0,1,2,3,4,6],.mk (some 8) (.mv (.tmp 37)) none [5,7,0,1,2,3,4,5,6,7]]
def l3r6:List AOper :=
  [.mk (some 38) (.load true 2 (.tmp 5)) none [],.mk (some 39) (.load true 2 (.tmp 7)) none [],.mk (some 40) (.call 8 [.tmp 38,.tmp 39]) none [0,1],.mk (some 41) (.un .not (.tmp 40)) none [2],.mk (some 42) (.mv (.tmp 41)) none [3,2],.mk (some 43) (.mv (.tmp 6)) (some (42,false)) [4],.mk (some 44) (.mv (.tmp 8)) (some (42,false)) [4],.mk (some 45) (.binB .neq (.tmp 43) (.tmp 44)) (some (42,false)) [5,6,4],.mk (some 46) (.pick (.tmp 42) (.const (.bool true)) (.tmp 45)) none [4,7],.mk (some 47) (.mv (.tmp 46)) none [8,4],.mk (some 48) (.mv (.tmp 6)) (some (47,false)) [9],.mk (some 49) (.un .not (.tmp 48)) (some (47,false)) [10,9],.mk (some 50) (.pick (.tmp 47) (.const (.bool true)) (.tmp 49)) none [9,11]]
def l3r7:List AOper :=
  [.mk (some 51) (.load true 2 (.tmp 5)) none [],.mk (some 52) (.load true 2 (.tmp 7)) none [],.mk (some 53) (.call 8 [.tmp 51,.tmp 52]) none [0,1],.mk (some 54) (.mv (.tmp 53)) none [2,2],.mk (some 55) (.mv (.tmp 6)) (some (54,true)) [3],.mk (some 56) (.mv (.tmp 8)) (some (54,true)) [3],.mk (some 57) (.binB .eql (.tmp 55) (.tmp 56)) (some (54,true)) [4,5,3],.mk (some 58) (.pick (.tmp 54) (.tmp 57) (.const (.bool false))) none [3,6],.mk (some 2) (.mv (.tmp 58)) none [7,3,0,1,2,3,4,5,6,7]]
def l3r8:List AOper :=
  [.mk (some 59) (.load true 2 (.tmp 4)) none [],.mk (some 60) (.bslice 1 [.int .i64 0] [(0,.const (.int .i64 1)),(1,.const (.int .i64 0))] 2) none [],.mk (some 61) (.call 9 [.tmp 59,.tmp 60]) none [0,1],.mk (some 9) (.alloc [.slice none 0 0,.slice none 0 0]) none [],.mk none (.store 2 (.tmp 9) (.tmp 61)) none [3,2,2,0,1,2,3]]
def l3r9:List AOper :=
  [.mk (some 63) (.load true 2 (.tmp 5)) none [],.mk (some 64) (.load true 2 (.tmp 9)) none [],.mk (some 65) (.call 6 [.tmp 63,.tmp 64]) none [0,1],.mk (some 62) (.mv (.tmp 65)) none [2],.mk (some 66) (.extract (.tmp 62) 0) none [3],.mk (some 67) (.extract (.tmp 62) 1) none [3],.mk (some 10) (.alloc [.slice none 0 0,.slice none 0 0]) none [],.mk none (.store 2 (.tmp 10) (.tmp 66)) none [6,4,2,0,1,2,3,4,6],.mk (some 11) (.mv (.tmp 67)) none [5,7,0,1,2,3,4,5,6,7]]
def l3r10:List AOper :=
  [.mk (some 69) (.load true 2 (.tmp 4)) none [],.mk (some 70) (.load true 2 (.tmp 9)) none [],.mk (some 71) (.call 6 [.tmp 69,.tmp 70]) none [0,1],.mk (some 68) (.mv (.tmp 71)) none [2],.mk (some 72) (.extract (.tmp 68) 0) none [3],.mk (some 73) (.extract (.tmp 68) 1) none [3],.mk (some 12) (.alloc [.slice none 0 0,.slice none 0 0]) none [],.mk none (.store 2 (.tmp 12) (.tmp 72)) none [6,4,2,0,1,2,3,4,6],.mk (some 13) (.mv (.tmp 73)) none [5,7,0,1,2,3,4,5,6,7]]
def l3r11:List AOper :=
  [.mk (some 75) (.load true 2 (.tmp 3)) none [],.mk (some 76) (.load true 2 (.tmp 12)) none [],.mk (some 77) (.call 6 [.tmp 75,.tmp 76]) none [0,1],.mk (some 74) (.mv (.tmp 77)) none [2],.mk (some 78) (.extract (.tmp 74) 0) none [3],.mk (some 79) (.extract (.tmp 74) 1) none [3],.mk (some 14) (.alloc [.slice none 0 0,.slice none 0 0]) none [],.mk none (.store 2 (.tmp 14) (.tmp 78)) none [6,4,2,0,1,2,3,4,6],.mk (some 15) (.mv (.tmp 79)) none [5,7,0,1,2,3,4,5,6,7]]
def l3r12:List AOper :=
  [.mk (some 81) (.load true 2 (.tmp 3)) none [],.mk (some 82) (.load true 2 (.tmp 4)) none [],.mk (some 83) (.load true 2 (.tmp 9)) none [],.mk (some 84) (.bslice 2 [.slice none 0 0,.slice none 0 0] [(0,.tmp 81),(1,.tmp 82),(2,.tmp 83)] 3) none [0,1,2],.mk (some 85) (.bslice 1 [.int .i64 0] [(0,.const (.int .i64 0)),(1,.const (.int .i64 1))] 2) none [],.mk (some 86) (.bslice 1 [.int .i64 0] [(0,.const (.int .i64 1)),(1,.const (.int .i64 2))] 2) none [],.mk (some 87) (.bslice 1 [.int .i64 0] [(0,.const (.int .i64 2)),(1,.const (.int .i64 3))] 2) none [],.mk (some 88) (.bslice 1 [.slice none 0 0] [(0,.tmp 85),(1,.tmp 86),(2,.tmp 87)] 3) none [4,5,6],.mk (some 89) (.bslice 1 [.int .i64 0] [(0,.const (.int .i64 0)),(1,.const (.int .i64 3))] 2) none [],.mk (some 90) (.call 10 [.tmp 84,.tmp 88,.tmp 89]) none [3,7,8],.mk (some 80) (.mv (.tmp 90)) none [9],.mk (some 91) (.extract (.tmp 80) 0) none [10],.mk (some 92) (.extract (.tmp 80) 1) none [10],.mk (some 16) (.alloc [.slice none 0 0,.slice none 0 0]) none [],.mk none (.store 2 (.tmp 16) (.tmp 91)) none [13,11,9,0,1,2,3,4,5,6,7,8,9,10,11,13],.mk (some 17) (.mv (.tmp 92)) none [12,14,0,1,2,3,4,5,6,7,8,9,10,11,12,13,14]]
def l3r13:List AOper :=
  [.mk (some 93) (.mv (.tmp 11)) none [],.mk (some 94) (.un .not (.tmp 93)) none [0],.mk (some 95) (.mv (.tmp 94)) none [1],.mk (some 96) (.mv (.tmp 13)) (some (95,false)) [2],.mk (some 97) (.un .not (.tmp 96)) (some (95,false)) [3,2],.mk (some 98) (.pick (.tmp 95) (.const (.bool true)) (.tmp 97)) none [2,4],.mk (some 99) (.mv (.tmp 98)) none [5,2],.mk (some 100) (.mv (.tmp 15)) (some (99,false)) [6],.mk (some 101) (.un .not (.tmp 100)) (some (99,false)) [7,6],.mk (some 102) (.pick (.tmp 99) (.const (.bool true)) (.tmp 101)) none [6,8],.mk (some 103) (.mv (.tmp 102)) none [9,6],.mk (some 104) (.load true 2 (.tmp 10)) (some (103,false)) [10],.mk (some 105) (.load true 2 (.tmp 14)) (some (103,false)) [10],.mk (some 106) (.call 8 [.tmp 104,.tmp 105]) (some (103,false)) [11,12,10,10],.mk (some 107) (.mv (.tmp 106)) (some (103,false)) [13,13,10],.mk (some 108) (.mv (.tmp 17)) (some (107,true)) [14],.mk (some 109) (.un .not (.tmp 108)) (some (107,true)) [15,14],.mk (some 110) (.mv (.tmp 109)) (some (107,true)) [16,14,14],.mk (some 111) (.load true 2 (.tmp 16)) (some (110,false)) [17],.mk (some 112) (.load true 2 (.tmp 10)) (some (110,false)) [17],.mk (some 113) (.call 8 [.tmp 111,.tmp 112]) (some (110,false)) [18,19,17,17],.mk (some 114) (.pick (.tmp 110) (.const (.bool true)) (.tmp 113)) (some (107,true)) [17,20,14],.mk (some 115) (.pick (.tmp 107) (.tmp 114) (.const (.bool false))) (some (103,false)) [14,21,10],.mk (some 116) (.pick (.tmp 103) (.const (.bool true)) (.tmp 115)) none [10,22],.mk (some 2) (.mv (.tmp 116)) none [23,20,0,1,2,3,4,5,6,7,8,9,10,11,12,13,14,15,16,17,18,19,20,21,22,23]]
def l3:AFn :=
  (AFn.mk 117 1 (.seq (.reg l3r0) (.seq (.seq (.reg l3r1) (.cond (.tmp 20) (.seq (.reg l3r2) .ret) .skip)) (.seq (.reg l3r3) (.seq (.reg l3r4) (.seq (.reg l3r5) (.seq (.seq (.reg l3r6) (.cond (.tmp 50) (.seq (.reg l3r7) .ret) .skip)) (.seq (.reg l3r8) (.seq (.reg l3r9) (.seq (.reg l3r10) (.seq (.reg l3r11) (.seq (.reg l3r12) (.seq (.reg l3r13) .ret)))))))))))) [.tmp 2])
theorem l3_eq:lowFn Try.prog 3=some l3:=by kernel_rfl
def l4r0:List AOper :=
  [.mk (some 2) (.mv (.const (.bool false))) none []]
def l4r1:List AOper :=
  [.mk (some 15) (.mv (.tmp 0)) none [],.mk (some 16) (.len (.tmp 15)) none [0],.mk (some 17) (.bin .gtr (.tmp 16) (.const (.int .i64 1048576))) none [1]]
def l4r2:List AOper :=
  [.mk (some 2) (.mv (.const (.bool true))) none []]
def l4r3:List AOper :=
  [.mk (some 19) (.mv (.tmp 0)) none [],.mk (some 20) (.call 5 [.tmp 19]) none [0],.mk (some 18) (.mv (.tmp 20)) none [1],.mk (some 21) (.extract (.tmp 18) 0) none [2],.mk (some 22) (.extract (.tmp 18) 1) none [2],.mk (some 3) (.alloc [.slice none 0 0,.slice none 0 0]) none [],.mk (some 4) (.alloc [.slice none 0 0,.slice none 0 0]) none [],.mk none (.store 2 (.tmp 3) (.tmp 21)) none [5,3,1,0,1,2,3,5,6],.mk none (.store 2 (.tmp 4) (.tmp 22)) none [6,4,7,0,1,2,3,4,5,6,7]]
def l4r4:List AOper :=
  [.mk (some 24) (.load true 2 (.tmp 3)) none [],.mk (some 25) (.load true 2 (.tmp 4)) none [],.mk (some 26) (.call 6 [.tmp 24,.tmp 25]) none [0,1],.mk (some 23) (.mv (.tmp 26)) none [2],.mk (some 27) (.extract (.tmp 23) 0) none [3],.mk (some 28) (.extract (.tmp 23) 1) none [3],.mk (some 5) (.alloc [.slice none 0 0,.slice none 0 0]) none [],.mk none (.store 2 (.tmp 5) (.tmp 27)) none [6,4,2,0,1,2,3,4,6],.mk (some 6) (.mv (.tmp 28)) none [5,7,0,1,2,3,4,5,6,7]]
def l4r5:List AOper :=
  [.mk (some 30) (.load true 2 (.tmp 3)) none [],.mk (some 31) (.load true 2 (.tmp 4)) none [],.mk (some 32) (.call 7 [.tmp 30,.tmp 31]) none [0,1],.mk (some 29) (.mv (.tmp 32)) none [2],.mk (some 33) (.extract (.tmp 29) 0) none [3],.mk (some 34) (.extract (.tmp 29) 1) none [3],.mk (some 7) (.alloc [.slice none 0 0,.slice none 0 0]) none [],.mk none (.store 2 (.tmp 7) (.tmp 33)) none [6,4,2,0,1,2,3,4,6],.mk (some 8) (.mv (.tmp 34)) none [5,7,0,1,2,3,4,5,6,7]]
def l4r6:List AOper :=
  [.mk (some 35) (.load true 2 (.tmp 5)) none [],.mk (some 36) (.load true 2 (.tmp 7)) none [],.mk (some 37) (.call 8 [.tmp 35,.tmp 36]) none [0,1],.mk (some 38) (.un .not (.tmp 37)) none [2],.mk (some 39) (.mv (.tmp 38)) none [3,2],.mk (some 40) (.mv (.tmp 6)) (some (39,false)) [4],.mk (some 41) (.mv (.tmp 8)) (some (39,false)) [4],.mk (some 42) (.binB .neq (.tmp 40) (.tmp 41)) (some (39,false)) [5,6,4],.mk (some 43) (.pick (.tmp 39) (.const (.bool true)) (.tmp 42)) none [4,7],.mk (some 44) (.mv (.tmp 43)) none [8,4],.mk (some 45) (.mv (.tmp 6)) (some (44,false)) [9],.mk (some 46) (.un .not (.tmp 45)) (some (44,false)) [10,9],.mk (some 47) (.pick (.tmp 44) (.const (.bool true)) (.tmp 46)) none [9,11]]
def l4r7:List AOper :=
  [.mk (some 48) (.load true 2 (.tmp 5)) none [],.mk (some 49) (.load true 2 (.tmp 7)) none [],.mk (some 50) (.call 8 [.tmp 48,.tmp 49]) none [0,1],.mk (some 51) (.mv (.tmp 50)) none [2,2],.mk (some 52) (.mv (.tmp 6)) (some (51,true)) [3],.mk (some 53) (.mv (.tmp 8)) (some (51,true)) [3],.mk (some 54) (.binB .eql (.tmp 52) (.tmp 53)) (some (51,true)) [4,5,3],.mk (some 55) (.pick (.tmp 51) (.tmp 54) (.const (.bool false))) none [3,6],.mk (some 2) (.mv (.tmp 55)) none [7,3,0,1,2,3,4,5,6,7]]
def l4r8:List AOper :=
  [.mk (some 57) (.load true 2 (.tmp 4)) none [],.mk (some 58) (.load true 2 (.tmp 3)) none [],.mk (some 59) (.call 6 [.tmp 57,.tmp 58]) none [0,1],.mk (some 56) (.mv (.tmp 59)) none [2],.mk (some 60) (.extract (.tmp 56) 0) none [3],.mk (some 61) (.extract (.tmp 56) 1) none [3],.mk (some 9) (.alloc [.slice none 0 0,.slice none 0 0]) none [],.mk none (.store 2 (.tmp 9) (.tmp 60)) none [6,4,2,0,1,2,3,4,6],.mk (some 10) (.mv (.tmp 61)) none [5,7,0,1,2,3,4,5,6,7]]
def l4r9:List AOper :=
  [.mk (some 63) (.load true 2 (.tmp 5)) none [],.mk (some 64) (.call 11 [.tmp 63]) none [0],.mk (some 62) (.mv (.tmp 64)) none [1],.mk (some 65) (.extract (.tmp 62) 0) none [2],.mk (some 66) (.extract (.tmp 62) 1) none [2],.mk (some 11) (.mv (.tmp 65)) none [3,1,0,1,2,3],.mk (some 12) (.mv (.tmp 66)) none [4,5,0,1,2,3,4,5]]
def l4r10:List AOper :=
  [.mk (some 68) (.load true 2 (.tmp 9)) none [],.mk (some 69) (.call 11 [.tmp 68]) none [0],.mk (some 67) (.mv (.tmp 69)) none [1],.mk (some 70) (.extract (.tmp 67) 0) none [2],.mk (some 71) (.extract (.tmp 67) 1) none [2],.mk (some 13) (.mv (.tmp 70)) none [3,1,0,1,2,3],.mk (some 14) (.mv (.tmp 71)) none [4,5,0,1,2,3,4,5]]
def l4r11:List AOper :=
  [.mk (some 72) (.mv (.tmp 10)) none [],.mk (some 73) (.un .not (.tmp 72)) none [0],.mk (some 74) (.mv (.tmp 73)) none [1],.mk (some 75) (.mv (.tmp 12)) (some (74,false)) [2],.mk (some 76) (.un .not (.tmp 75)) (some (74,false)) [3,2],.mk (some 77) (.pick (.tmp 74) (.const (.bool true)) (.tmp 76)) none [2,4],.mk (some 78) (.mv (.tmp 77)) none [5,2],.mk (some 79) (.mv (.tmp 14)) (some (78,false)) [6],.mk (some 80) (.un .not (.tmp 79)) (some (78,false)) [7,6],.mk (some 81) (.pick (.tmp 78) (.const (.bool true)) (.tmp 80)) none [6,8],.mk (some 82) (.mv (.tmp 81)) none [9,6],.mk (some 83) (.mv (.tmp 11)) (some (82,false)) [10],.mk (some 84) (.mv (.tmp 13)) (some (82,false)) [10],.mk (some 85) (.bin .eql (.tmp 83) (.tmp 84)) (some (82,false)) [11,12,10],.mk (some 86) (.pick (.tmp 82) (.const (.bool true)) (.tmp 85)) none [10,13],.mk (some 2) (.mv (.tmp 86)) none [14,10,0,1,2,3,4,5,6,7,8,9,10,11,12,13,14]]
def l4:AFn :=
  (AFn.mk 87 1 (.seq (.reg l4r0) (.seq (.seq (.reg l4r1) (.cond (.tmp 17) (.seq (.reg l4r2) .ret) .skip)) (.seq (.reg l4r3) (.seq (.reg l4r4) (.seq (.reg l4r5) (.seq (.seq (.reg l4r6) (.cond (.tmp 47) (.seq (.reg l4r7) .ret) .skip)) (.seq (.reg l4r8) (.seq (.reg l4r9) (.seq (.reg l4r10) (.seq (.reg l4r11) .ret)))))))))) [.tmp 2])
theorem l4_eq:lowFn Try.prog 4=some l4:=by kernel_rfl
def l5r0:List AOper :=
  [.mk (some 2) (.alloc [.slice none 0 0,.slice none 0 0]) none [],.mk (some 3) (.alloc [.slice none 0 0,.slice none 0 0]) none []]
def l5r1:List AOper :=
  [.mk (some 4) (.mv (.tmp 0)) none [],.mk (some 5) (.call 13 [.tmp 4]) none [0],.mk (some 6) (.call 12 [.tmp 5]) none [1,1],.mk (some 7) (.extract (.tmp 6) 0) none [2],.mk (some 8) (.extract (.tmp 6) 1) none [2],.mk none (.store 2 (.tmp 2) (.tmp 7)) none [3,2,0,1,2,3,4],.mk none (.store 2 (.tmp 3) (.tmp 8)) none [4,5,0,1,2,3,4,5]]
def l5:AFn :=
  (AFn.mk 9 1 (.seq (.reg l5r0) (.seq (.reg l5r1) .ret)) [.cell 2 true 2,.cell 3 true 2])
theorem l5_eq:lowFn Try.prog 5=some l5:=by kernel_rfl
def l6r0:List AOper :=
  [.mk (some 2) (.box (.tmp 0)) none [],.mk (some 3) (.box (.tmp 1)) none [],.mk (some 4) (.alloc [.slice none 0 0,.slice none 0 0]) none [],.mk (some 5) (.mv (.const (.bool false))) none []]
def l6r1:List AOper :=
  [.mk (some 6) (.load true 2 (.tmp 2)) none [],.mk (some 7) (.load true 2 (.tmp 3)) none [],.mk (some 8) (.bslice 2 [.slice none 0 0,.slice none 0 0] [(0,.tmp 6),(1,.tmp 7)] 2) none [0,1],.mk (some 9) (.bslice 1 [.int .i64 0] [(0,.const (.int .i64 0)),(1,.const (.int .i64 1))] 2) none [],.mk (some 10) (.bslice 1 [.int .i64 0] [(0,.const (.int .i64 1)),(1,.const (.int .i64 2))] 2) none [],.mk (some 11) (.bslice 1 [.slice none 0 0] [(0,.tmp 9),(1,.tmp 10)] 2) none [3,4],.mk (some 12) (.bslice 1 [.int .i64 0] [(0,.const (.int .i64 0)),(1,.const (.int .i64 2))] 2) none [],.mk (some 13) (.call 10 [.tmp 8,.tmp 11,.tmp 12]) none [2,5,6],.mk (some 14) (.extract (.tmp 13) 0) none [7],.mk (some 15) (.extract (.tmp 13) 1) none [7],.mk none (.store 2 (.tmp 4) (.tmp 14)) none [8,7,0,1,2,3,4,5,6,7,8,9],.mk (some 5) (.mv (.tmp 15)) none [9,10,0,1,2,3,4,5,6,7,8,9,10]]
def l6:AFn :=
  (AFn.mk 16 2 (.seq (.reg l6r0) (.seq (.reg l6r1) .ret)) [.cell 4 true 2,.tmp 5])
theorem l6_eq:lowFn Try.prog 6=some l6:=by kernel_rfl
def l7r0:List AOper :=
  [.mk (some 2) (.box (.tmp 0)) none [],.mk (some 3) (.box (.tmp 1)) none [],.mk (some 4) (.alloc [.slice none 0 0,.slice none 0 0]) none [],.mk (some 5) (.mv (.const (.bool false))) none []]
def l7r1:List AOper :=
  [.mk (some 6) (.load true 2 (.tmp 2)) none [],.mk (some 7) (.load true 2 (.tmp 3)) none [],.mk (some 8) (.bslice 2 [.slice none 0 0,.slice none 0 0] [(0,.tmp 6),(1,.tmp 7)] 2) none [0,1],.mk (some 9) (.bslice 1 [.int .i64 0] [(0,.const (.int .i64 0)),(1,.const (.int .i64 1))] 2) none [],.mk (some 10) (.bslice 1 [.int .i64 0] [(0,.const (.int .i64 1)),(1,.const (.int .i64 2))] 2) none [],.mk (some 11) (.bslice 1 [.slice none 0 0] [(0,.tmp 9),(1,.tmp 10)] 2) none [3,4],.mk (some 12) (.bslice 1 [.int .i64 0] [(0,.const (.int .i64 0)),(1,.const (.int .i64 2))] 2) none [],.mk (some 13) (.call 14 [.tmp 8,.tmp 11,.tmp 12]) none [2,5,6],.mk (some 14) (.extract (.tmp 13) 0) none [7],.mk (some 15) (.extract (.tmp 13) 1) none [7],.mk none (.store 2 (.tmp 4) (.tmp 14)) none [8,7,0,1,2,3,4,5,6,7,8,9],.mk (some 5) (.mv (.tmp 15)) none [9,10,0,1,2,3,4,5,6,7,8,9,10]]
def l7:AFn :=
  (AFn.mk 16 2 (.seq (.reg l7r0) (.seq (.reg l7r1) .ret)) [.cell 4 true 2,.tmp 5])
theorem l7_eq:lowFn Try.prog 7=some l7:=by kernel_rfl
def l8r0:List AOper :=
  [.mk (some 2) (.box (.tmp 0)) none [],.mk (some 3) (.box (.tmp 1)) none [],.mk (some 4) (.mv (.const (.bool false))) none []]
def l8r1:List AOper :=
  [.mk (some 5) (.fld 0 (.tmp 2)) none [],.mk (some 6) (.load false 1 (.tmp 5)) none [0],.mk (some 7) (.fld 0 (.tmp 3)) none [],.mk (some 8) (.load false 1 (.tmp 7)) none [2],.mk (some 9) (.call 15 [.tmp 6,.tmp 8]) none [1,3],.mk (some 10) (.mv (.tmp 9)) none [4,4],.mk (some 11) (.fld 1 (.tmp 2)) (some (10,true)) [5],.mk (some 12) (.load false 1 (.tmp 11)) (some (10,true)) [6,5],.mk (some 13) (.fld 1 (.tmp 3)) (some (10,true)) [5],.mk (some 14) (.load false 1 (.tmp 13)) (some (10,true)) [8,5],.mk (some 15) (.call 15 [.tmp 12,.tmp 14]) (some (10,true)) [7,9,5,5],.mk (some 16) (.pick (.tmp 10) (.tmp 15) (.const (.bool false))) none [5,10],.mk (some 4) (.mv (.tmp 16)) none [11,10,0,1,2,3,4,5,6,7,8,9,10,11]]
def l8:AFn :=
  (AFn.mk 17 2 (.seq (.reg l8r0) (.seq (.reg l8r1) .ret)) [.tmp 4])
theorem l8_eq:lowFn Try.prog 8=some l8:=by kernel_rfl
def l9r0:List AOper :=
  [.mk (some 2) (.box (.tmp 0)) none [],.mk (some 4) (.alloc [.slice none 0 0,.slice none 0 0]) none []]
def l9r1:List AOper :=
  [.mk (some 8) (.load true 2 (.tmp 2)) none [],.mk (some 9) (.call 16 [.tmp 8]) none [0],.mk (some 10) (.un .not (.tmp 9)) none [1],.mk (some 11) (.mv (.tmp 10)) none [2,1],.mk (some 12) (.mv (.tmp 1)) (some (11,false)) [3],.mk (some 13) (.fld 0 (.tmp 2)) (some (11,false)) [3],.mk (some 14) (.load false 1 (.tmp 13)) (some (11,false)) [5,3],.mk (some 15) (.len (.tmp 14)) (some (11,false)) [6,3],.mk (some 16) (.call 17 [.tmp 12,.tmp 15]) (some (11,false)) [4,7,3,3],.mk (some 17) (.un .not (.tmp 16)) (some (11,false)) [8,3],.mk (some 18) (.pick (.tmp 11) (.const (.bool true)) (.tmp 17)) none [3,9]]
def l9r2:List AOper :=
  [.mk (some 19) (.build [.slice none 0 0,.slice none 0 0] []) none [],.mk none (.store 2 (.tmp 4) (.tmp 19)) none [0,0]]
def l9r3:List AOper :=
  [.mk (some 20) (.fld 0 (.tmp 2)) none [],.mk (some 21) (.load false 1 (.tmp 20)) none [0],.mk (some 22) (.len (.tmp 21)) none [1],.mk (some 23) (.call 18 [.const (.int .i64 0),.const (.int .i64 1),.tmp 22]) none [2],.mk (some 24) (.call 19 [.tmp 23]) none [3,3],.mk (some 5) (.mv (.tmp 24)) none [4,4,0,1,2,3,4]]
def l9r4:List AOper :=
  [.mk (some 26) (.load true 2 (.tmp 2)) none [],.mk (some 27) (.bslice 2 [.slice none 0 0,.slice none 0 0] [(0,.tmp 26)] 1) none [0],.mk (some 28) (.mv (.tmp 5)) none [],.mk (some 29) (.bslice 1 [.slice none 0 0] [(0,.tmp 28)] 1) none [2],.mk (some 30) (.mv (.tmp 1)) none [],.mk (some 31) (.call 10 [.tmp 27,.tmp 29,.tmp 30]) none [1,3,4],.mk (some 25) (.mv (.tmp 31)) none [5],.mk (some 32) (.extract (.tmp 25) 0) none [6],.mk (some 33) (.extract (.tmp 25) 1) none [6],.mk (some 6) (.alloc [.slice none 0 0,.slice none 0 0]) none [],.mk none (.store 2 (.tmp 6) (.tmp 32)) none [9,7,5,0,1,2,3,4,5,6,7,9],.mk (some 7) (.mv (.tmp 33)) none [8,10,0,1,2,3,4,5,6,7,8,9,10]]
def l9r5:List AOper :=
  [.mk (some 34) (.load true 2 (.tmp 6)) none [],.mk none (.store 2 (.tmp 4) (.tmp 34)) none [0,0]]
def l9:AFn :=
  (AFn.mk 35 2 (.seq (.reg l9r0) (.seq (.seq (.reg l9r1) (.cond (.tmp 18) (.seq (.reg l9r2) .ret) .skip)) (.seq (.reg l9r3) (.seq (.reg l9r4) (.seq (.reg l9r5) .ret))))) [.cell 4 true 2])
theorem l9_eq:lowFn Try.prog 9=some l9:=by kernel_rfl
def l10r0:List AOper :=
  [.mk (some 6) (.alloc [.slice none 0 0,.slice none 0 0]) none [],.mk (some 7) (.mv (.const (.bool false))) none []]
def l10r1:List AOper :=
  [.mk (some 12) (.mv (.tmp 0)) none [],.mk (some 13) (.mv (.tmp 1)) none [],.mk (some 14) (.mv (.tmp 2)) none [],.mk (some 15) (.call 20 [.tmp 12,.tmp 13,.tmp 14]) none [0,1,2],.mk (some 11) (.mv (.tmp 15)) none [3],.mk (some 16) (.extract (.tmp 11) 0) none [4],.mk (some 17) (.extract (.tmp 11) 1) none [4],.mk (some 8) (.alloc [.int .i64 0,.int .i64 0,.int .i64 0,.int .i64 0,.int .i64 0]) none [],.mk none (.store 5 (.tmp 8) (.tmp 16)) none [7,5,3,0,1,2,3,4,5,7],.mk (some 9) (.mv (.tmp 17)) none [6,8,0,1,2,3,4,5,6,7,8]]
def l10r2:List AOper :=
  [.mk (some 18) (.mv (.tmp 9)) none [],.mk (some 19) (.un .not (.tmp 18)) none [0],.mk (some 20) (.mv (.tmp 19)) none [1],.mk (some 21) (.mv (.tmp 2)) (some (20,false)) [2],.mk (some 22) (.bslice 1 [.slice none 0 0] [(0,.tmp 21)] 1) (some (20,false)) [3,2],.mk (some 23) (.call 21 [.tmp 22]) (some (20,false)) [4,2,2],.mk (some 24) (.len (.tmp 23)) (some (20,false)) [5,2],.mk (some 25) (.mv (.tmp 2)) (some (20,false)) [2],.mk (some 26) (.len (.tmp 25)) (some (20,false)) [7,2],.mk (some 27) (.bin .lss (.tmp 24) (.tmp 26)) (some (20,false)) [6,8,2],.mk (some 28) (.pick (.tmp 20) (.const (.bool true)) (.tmp 27)) none [2,9],.mk (some 29) (.mv (.tmp 28)) none [10,5],.mk (some 30) (.load true 5 (.tmp 8)) (some (29,false)) [11],.mk (some 31) (.mv (.tmp 1)) (some (29,false)) [11],.mk (some 32) (.call 22 [.tmp 30,.tmp 31]) (some (29,false)) [12,13,11,11],.mk (some 33) (.bin .gtr (.tmp 32) (.const (.int .i64 4000))) (some (29,false)) [14,11],.mk (some 34) (.pick (.tmp 29) (.const (.bool true)) (.tmp 33)) none [11,15]]
def l10r3:List AOper :=
  [.mk (some 35) (.build [.slice none 0 0,.slice none 0 0] []) none [],.mk none (.store 2 (.tmp 6) (.tmp 35)) none [0,0],.mk (some 7) (.mv (.const (.bool false))) none [1,0,1]]
def l10r4:List AOper :=
  [.mk (some 36) (.load true 5 (.tmp 8)) none [],.mk (some 37) (.mv (.tmp 2)) none [],.mk (some 38) (.call 23 [.tmp 36,.tmp 37]) none [0,1],.mk (some 39) (.build [.slice none 0 0,.slice none 0 0] [(0,1,.tmp 38)]) none [2],.mk (some 10) (.alloc [.slice none 0 0,.slice none 0 0]) none [],.mk none (.store 2 (.tmp 10) (.tmp 39)) none [4,3,2,0,1,2,3,4]]
def l10r5:List AOper :=
  [.mk (some 40) (.fld 0 (.tmp 10)) none [],.mk (some 41) (.load false 1 (.tmp 40)) none [0],.mk (some 42) (.call 24 [.tmp 41]) none [1],.mk (some 43) (.un .not (.tmp 42)) none [2]]
def l10r6:List AOper :=
  [.mk (some 44) (.build [.slice none 0 0,.slice none 0 0] []) none [],.mk none (.store 2 (.tmp 6) (.tmp 44)) none [0,0],.mk (some 7) (.mv (.const (.bool false))) none [1,0,1]]
def l10r7:List AOper :=
  [.mk (some 45) (.load true 5 (.tmp 8)) none [],.mk (some 46) (.mv (.tmp 0)) none [],.mk (some 47) (.mv (.tmp 1)) none [],.mk (some 48) (.mv (.tmp 2)) none [],.mk (some 49) (.call 25 [.tmp 45,.tmp 46,.tmp 47,.tmp 48]) none [0,1,2,3],.mk (some 50) (.fld 1 (.tmp 10)) none [0,1,2,3,4],.mk none (.store 1 (.tmp 50) (.tmp 49)) none [5,4,4,0,1,2,3,4]]
def l10r8:List AOper :=
  [.mk (some 51) (.load true 2 (.tmp 10)) none [],.mk (some 52) (.call 16 [.tmp 51]) none [0],.mk (some 53) (.un .not (.tmp 52)) none [1]]
def l10r9:List AOper :=
  [.mk (some 54) (.build [.slice none 0 0,.slice none 0 0] []) none [],.mk none (.store 2 (.tmp 6) (.tmp 54)) none [0,0],.mk (some 7) (.mv (.const (.bool false))) none [1,0,1]]
def l10r10:List AOper :=
  [.mk (some 55) (.load true 2 (.tmp 10)) none [],.mk none (.store 2 (.tmp 6) (.tmp 55)) none [0,0],.mk (some 7) (.mv (.const (.bool true))) none [1,0,1]]
def l10:AFn :=
  (AFn.mk 56 3 (.seq (.reg l10r0) (.seq (.reg l10r1) (.seq (.seq (.reg l10r2) (.cond (.tmp 34) (.seq (.reg l10r3) .ret) .skip)) (.seq (.reg l10r4) (.seq (.seq (.reg l10r5) (.cond (.tmp 43) (.seq (.reg l10r6) .ret) .skip)) (.seq (.reg l10r7) (.seq (.seq (.reg l10r8) (.cond (.tmp 53) (.seq (.reg l10r9) .ret) .skip)) (.seq (.reg l10r10) .ret)))))))) [.cell 6 true 2,.tmp 7])
theorem l10_eq:lowFn Try.prog 10=some l10:=by kernel_rfl
def l11r0:List AOper :=
  [.mk (some 1) (.box (.tmp 0)) none [],.mk (some 2) (.mv (.const (.int .i64 0))) none [],.mk (some 3) (.mv (.const (.bool false))) none [1]]
def l11r1:List AOper :=
  [.mk (some 7) (.load true 2 (.tmp 1)) none [],.mk (some 8) (.bslice 2 [.slice none 0 0,.slice none 0 0] [(0,.tmp 7)] 1) none [0],.mk (some 9) (.bslice 1 [.int .i64 0] [(0,.const (.int .i64 0)),(1,.const (.int .i64 0))] 2) none [],.mk (some 10) (.bslice 1 [.slice none 0 0] [(0,.tmp 9)] 1) none [2],.mk (some 11) (.call 10 [.tmp 8,.tmp 10,.const (.slice none 0 0)]) none [1,3],.mk (some 6) (.mv (.tmp 11)) none [4],.mk (some 12) (.extract (.tmp 6) 0) none [5],.mk (some 13) (.extract (.tmp 6) 1) none [5],.mk (some 4) (.alloc [.slice none 0 0,.slice none 0 0]) none [],.mk none (.store 2 (.tmp 4) (.tmp 12)) none [8,6,4,0,1,2,3,4,5,6,8],.mk (some 5) (.mv (.tmp 13)) none [7,9,0,1,2,3,4,5,6,7,8,9]]
def l11r2:List AOper :=
  [.mk (some 14) (.mv (.tmp 5)) none [],.mk (some 15) (.un .not (.tmp 14)) none [0]]
def l11r3:List AOper :=
  [.mk (some 2) (.mv (.const (.int .i64 0))) none [],.mk (some 3) (.mv (.const (.bool false))) none [0,0]]
def l11r4:List AOper :=
  [.mk (some 16) (.fld 1 (.tmp 4)) none [],.mk (some 17) (.load false 1 (.tmp 16)) none [0],.mk (some 18) (.idxA 1 (.tmp 17) (.const (.int .i64 0))) none [1],.mk (some 19) (.load false 1 (.tmp 18)) none [2],.mk (some 2) (.mv (.tmp 19)) none [3,0,1,2,3],.mk (some 3) (.mv (.const (.bool true))) none [4,0,1,2,3,4]]
def l11:AFn :=
  (AFn.mk 20 1 (.seq (.reg l11r0) (.seq (.reg l11r1) (.seq (.seq (.reg l11r2) (.cond (.tmp 15) (.seq (.reg l11r3) .ret) .skip)) (.seq (.reg l11r4) .ret)))) [.tmp 2,.tmp 3])
theorem l11_eq:lowFn Try.prog 11=some l11:=by kernel_rfl
def l12r0:List AOper :=
  [.mk (some 2) (.alloc [.slice none 0 0,.slice none 0 0]) none [],.mk (some 3) (.alloc [.slice none 0 0,.slice none 0 0]) none []]
def l12r1:List AOper :=
  [.mk (some 9) (.mv (.tmp 0)) none [],.mk (some 10) (.bslice 1 [.int .i64 0] [(0,.const (.int .i64 2)),(1,.const (.int .i64 3)),(2,.const (.int .i64 1))] 3) none [],.mk (some 11) (.call 26 [.tmp 9,.tmp 10]) none [0,1],.mk (some 4) (.mv (.tmp 11)) none [2,2,0,1,2]]
def l12r2:List AOper :=
  [.mk (some 12) (.mv (.tmp 0)) none [],.mk (some 13) (.bslice 1 [.int .i64 0] [(0,.const (.int .i64 2)),(1,.const (.int .i64 3)),(2,.const (.int .i64 4)),(3,.const (.int .i64 1)),(4,.const (.int .i64 0))] 5) none [],.mk (some 14) (.call 26 [.tmp 12,.tmp 13]) none [0,1],.mk (some 5) (.mv (.tmp 14)) none [2,2,0,1,2]]
def l12r3:List AOper :=
  [.mk (some 15) (.mv (.tmp 0)) none [],.mk (some 16) (.bslice 1 [.int .i64 0] [(0,.const (.int .i64 2)),(1,.const (.int .i64 3)),(2,.const (.int .i64 1))] 3) none [],.mk (some 17) (.call 26 [.tmp 15,.tmp 16]) none [0,1],.mk (some 6) (.mv (.tmp 17)) none [2,2,0,1,2]]
def l12r4:List AOper :=
  [.mk (some 18) (.mv (.tmp 0)) none [],.mk (some 19) (.mv (.tmp 4)) none [],.mk (some 20) (.mv (.tmp 5)) none [],.mk (some 21) (.bslice 1 [.int .i64 0] [(0,.tmp 19),(1,.tmp 20)] 2) none [1,2],.mk (some 22) (.call 27 [.tmp 18,.tmp 21]) none [0,3],.mk (some 7) (.alloc [.slice none 0 0,.slice none 0 0]) none [],.mk none (.store 2 (.tmp 7) (.tmp 22)) none [5,4,4,0,1,2,3,4,5]]
def l12r5:List AOper :=
  [.mk (some 23) (.mv (.tmp 0)) none [],.mk (some 24) (.mv (.tmp 5)) none [],.mk (some 25) (.mv (.tmp 6)) none [],.mk (some 26) (.bslice 1 [.int .i64 0] [(0,.tmp 24),(1,.tmp 25)] 2) none [1,2],.mk (some 27) (.call 27 [.tmp 23,.tmp 26]) none [0,3],.mk (some 8) (.alloc [.slice none 0 0,.slice none 0 0]) none [],.mk none (.store 2 (.tmp 8) (.tmp 27)) none [5,4,4,0,1,2,3,4,5]]
def l12r6:List AOper :=
  [.mk (some 28) (.mv (.tmp 0)) none [],.mk (some 29) (.call 28 [.tmp 28,.const (.int .i64 10)]) none [0],.mk (some 30) (.bin .eql (.tmp 29) (.const (.int .i64 0))) none [1]]
def l12r7:List AOper :=
  [.mk (some 31) (.mv (.tmp 0)) none [],.mk (some 32) (.call 29 [.tmp 31]) none [0],.mk none (.store 2 (.tmp 8) (.tmp 32)) none [1,1,0,1]]
def l12r8a:List AOper :=
  [.mk (some 33) (.load true 2 (.tmp 7)) none [],.mk (some 34) (.load true 2 (.tmp 8)) none [],.mk none (.store 2 (.tmp 2) (.tmp 33)) none [0,0]]
def l12r8b:List AOper :=
  [.mk none (.store 2 (.tmp 3) (.tmp 34)) none [1,2,0,1,2]]
def l12r8:List AOper:=l12r8a ++ l12r8b
def l12:AFn :=
  (AFn.mk 35 1 (.seq (.reg l12r0) (.seq (.reg l12r1) (.seq (.reg l12r2) (.seq (.reg l12r3) (.seq (.reg l12r4) (.seq (.reg l12r5) (.seq (.seq (.reg l12r6) (.cond (.tmp 30) (.reg l12r7) .skip)) (.seq (.draw l12r8) .ret)))))))) [.cell 2 true 2,.cell 3 true 2])
theorem l12_eq:lowFn Try.prog 12=some l12:=by kernel_rfl
def l13r0:List AOper :=
  [.mk (some 2) (.mv (.const (.pointer none))) none []]
def l13r1:List AOper :=
  [.mk (some 3) (.mv (.tmp 0)) none [],.mk (some 4) (.len (.tmp 3)) none [0],.mk (some 5) (.bin .gtr (.tmp 4) (.const (.int .i64 2000))) none [1]]
def l13r2:List AOper :=
  [.mk (some 6) (.mv (.tmp 0)) none [],.mk (some 7) (.slice 1 (.tmp 6) none (some (.const (.int .i64 2000)))) none [0],.mk (some 0) (.mv (.tmp 7)) none [1,0,1]]
def l13r3:List AOper :=
  [.mk (some 8) (.mv (.tmp 0)) none [],.mk (some 9) (.build [.slice none 0 0,.int .i64 0] [(0,1,.tmp 8)]) none [0],.mk (some 10) (.box (.tmp 9)) none [1],.mk (some 2) (.mv (.tmp 10)) none [2,0,1,2]]
def l13:AFn :=
  (AFn.mk 11 1 (.seq (.reg l13r0) (.seq (.seq (.reg l13r1) (.cond (.tmp 5) (.reg l13r2) .skip)) (.seq (.reg l13r3) .ret))) [.tmp 2])
theorem l13_eq:lowFn Try.prog 13=some l13:=by kernel_rfl
def l14r0:List AOper :=
  [.mk (some 6) (.alloc [.slice none 0 0,.slice none 0 0]) none [],.mk (some 7) (.mv (.const (.bool false))) none []]
def l14r1:List AOper :=
  [.mk (some 10) (.mv (.tmp 0)) none [],.mk (some 11) (.mv (.tmp 1)) none [],.mk (some 12) (.call 30 [.tmp 10,.tmp 11]) none [0,1],.mk (some 13) (.un .not (.tmp 12)) none [2]]
def l14r2:List AOper :=
  [.mk (some 14) (.build [.slice none 0 0,.slice none 0 0] []) none [],.mk none (.store 2 (.tmp 6) (.tmp 14)) none [0,0],.mk (some 7) (.mv (.const (.bool false))) none [1,0,1]]
def l14r3:List AOper :=
  [.mk (some 16) (.mv (.tmp 0)) none [],.mk (some 17) (.mv (.tmp 1)) none [],.mk (some 18) (.mv (.tmp 2)) none [],.mk (some 19) (.call 31 [.tmp 16,.tmp 17,.tmp 18]) none [0,1,2],.mk (some 15) (.mv (.tmp 19)) none [3],.mk (some 20) (.extract (.tmp 15) 0) none [4],.mk (some 21) (.extract (.tmp 15) 1) none [4],.mk (some 8) (.alloc [.slice none 0 0,.slice none 0 0]) none [],.mk none (.store 2 (.tmp 8) (.tmp 20)) none [7,5,3,0,1,2,3,4,5,7],.mk (some 9) (.mv (.tmp 21)) none [6,8,0,1,2,3,4,5,6,7,8]]
def l14r4:List AOper :=
  [.mk (some 22) (.mv (.tmp 9)) none [],.mk (some 23) (.un .not (.tmp 22)) none [0]]
def l14r5:List AOper :=
  [.mk (some 24) (.build [.slice none 0 0,.slice none 0 0] []) none [],.mk none (.store 2 (.tmp 6) (.tmp 24)) none [0,0],.mk (some 7) (.mv (.const (.bool false))) none [1,0,1]]
def l14r6:List AOper :=
  [.mk (some 25) (.load true 2 (.tmp 8)) none [],.mk none (.store 2 (.tmp 6) (.tmp 25)) none [0,0],.mk (some 7) (.mv (.const (.bool true))) none [1,0,1]]
def l14:AFn :=
  (AFn.mk 26 3 (.seq (.reg l14r0) (.seq (.seq (.reg l14r1) (.cond (.tmp 13) (.seq (.reg l14r2) .ret) .skip)) (.seq (.reg l14r3) (.seq (.seq (.reg l14r4) (.cond (.tmp 23) (.seq (.reg l14r5) .ret) .skip)) (.seq (.reg l14r6) .ret))))) [.cell 6 true 2,.tmp 7])
theorem l14_eq:lowFn Try.prog 14=some l14:=by kernel_rfl
def l15r0:List AOper :=
  [.mk (some 4) (.mv (.const (.bool false))) none []]
def l15r1:List AOper :=
  [.mk (some 6) (.mv (.tmp 0)) none [],.mk (some 7) (.len (.tmp 6)) none [0],.mk (some 8) (.mv (.tmp 1)) none [],.mk (some 9) (.len (.tmp 8)) none [2],.mk (some 10) (.bin .neq (.tmp 7) (.tmp 9)) none [1,3]]
def l15r2:List AOper :=
  [.mk (some 4) (.mv (.const (.bool false))) none []]
def l15r3:List AOper :=
  [.mk (some 5) (.mv (.const (.int .i64 0))) none []]
def l15r4:List AOper :=
  [.mk (some 11) (.mv (.tmp 5)) none [],.mk (some 12) (.mv (.tmp 0)) none [],.mk (some 13) (.len (.tmp 12)) none [1],.mk (some 14) (.bin .lss (.tmp 11) (.tmp 13)) none [0,2]]
def l15r5a:List AOper :=
  [.mk (some 17) (.mv (.tmp 0)) none [],.mk (some 18) (.mv (.tmp 5)) none [],.mk (some 19) (.idxA 1 (.tmp 17) (.tmp 18)) none [0,1],.mk (some 20) (.load false 1 (.tmp 19)) none [2],.mk (some 21) (.mv (.tmp 1)) none [],.mk (some 22) (.mv (.tmp 5)) none [],.mk (some 23) (.idxA 1 (.tmp 21) (.tmp 22)) none [4,5],.mk (some 24) (.load false 1 (.tmp 23)) none [6]]
def l15r5b:List AOper :=
  [.mk (some 25) (.bin .neq (.tmp 20) (.tmp 24)) none [3,7]]
def l15r5:List AOper:=l15r5a ++ l15r5b
def l15r6:List AOper :=
  [.mk (some 4) (.mv (.const (.bool false))) none []]
def l15r7:List AOper :=
  [.mk (some 15) (.mv (.tmp 5)) none [],.mk (some 16) (.bin .add (.tmp 15) (.const (.int .i64 1))) none [0],.mk (some 5) (.mv (.tmp 16)) none [1,0,1]]
def l15r8:List AOper :=
  [.mk (some 4) (.mv (.const (.bool true))) none []]
def l15:AFn :=
  (AFn.mk 26 2 (.seq (.reg l15r0) (.seq (.seq (.reg l15r1) (.cond (.tmp 10) (.seq (.reg l15r2) .ret) .skip)) (.seq (.seq (.reg l15r3) (.block 0 (.loop (.seq (.seq (.reg l15r4) (.cond (.tmp 14) .skip (.exit 0))) (.seq (.block 1 (.seq (.draw l15r5) (.cond (.tmp 25) (.seq (.reg l15r6) .ret) .skip))) (.reg l15r7)))))) (.seq (.reg l15r8) .ret)))) [.tmp 4])
theorem l15_eq:lowFn Try.prog 15=some l15:=by kernel_rfl
def l16r0:List AOper :=
  [.mk (some 1) (.box (.tmp 0)) none [],.mk (some 2) (.mv (.const (.bool false))) none []]
def l16r1a:List AOper :=
  [.mk (some 5) (.fld 0 (.tmp 1)) none [],.mk (some 6) (.load false 1 (.tmp 5)) none [0],.mk (some 7) (.call 24 [.tmp 6]) none [1],.mk (some 8) (.un .not (.tmp 7)) none [2],.mk (some 9) (.mv (.tmp 8)) none [3,2],.mk (some 10) (.fld 1 (.tmp 1)) (some (9,false)) [4],.mk (some 11) (.load false 1 (.tmp 10)) (some (9,false)) [5,4],.mk (some 12) (.len (.tmp 11)) (some (9,false)) [6,4],.mk (some 13) (.fld 0 (.tmp 1)) (some (9,false)) [4],.mk (some 14) (.load false 1 (.tmp 13)) (some (9,false)) [8,4],.mk (some 15) (.call 32 [.tmp 14]) (some (9,false)) [9,4,4]]
def l16r1b:List AOper :=
  [.mk (some 16) (.bin .neq (.tmp 12) (.tmp 15)) (some (9,false)) [7,10,4],.mk (some 17) (.pick (.tmp 9) (.const (.bool true)) (.tmp 16)) none [4,11]]
def l16r1:List AOper:=l16r1a ++ l16r1b
def l16r2:List AOper :=
  [.mk (some 2) (.mv (.const (.bool false))) none []]
def l16r3:List AOper :=
  [.mk (some 18) (.fld 1 (.tmp 1)) none [],.mk (some 19) (.load false 1 (.tmp 18)) none [0],.mk (some 20) (.len (.tmp 19)) none [1],.mk (some 21) (.mv (.const (.int .i64 0))) none []]
def l16r4:List AOper :=
  [.mk (some 22) (.bin .lss (.tmp 21) (.tmp 20)) none []]
def l16r5:List AOper :=
  [.mk (some 23) (.idxA 1 (.tmp 19) (.tmp 21)) none [],.mk (some 24) (.load false 1 (.tmp 23)) none [0],.mk (some 4) (.mv (.tmp 24)) none [1,0,1]]
def l16r6:List AOper :=
  [.mk (some 25) (.mv (.tmp 4)) none [],.mk (some 26) (.call 33 [.tmp 25,.const (.int .i64 1000000)]) none [0],.mk (some 27) (.un .not (.tmp 26)) none [1]]
def l16r7:List AOper :=
  [.mk (some 2) (.mv (.const (.bool false))) none []]
def l16r8:List AOper :=
  [.mk (some 28) (.bin .add (.tmp 21) (.const (.int .i64 1))) none [],.mk (some 21) (.mv (.tmp 28)) none [0]]
def l16r9:List AOper :=
  [.mk (some 2) (.mv (.const (.bool true))) none []]
def l16:AFn :=
  (AFn.mk 29 1 (.seq (.reg l16r0) (.seq (.seq (.draw l16r1) (.cond (.tmp 17) (.seq (.reg l16r2) .ret) .skip)) (.seq (.seq (.reg l16r3) (.block 0 (.loop (.seq (.reg l16r4) (.seq (.cond (.tmp 22) .skip (.exit 0)) (.seq (.block 1 (.seq (.reg l16r5) (.seq (.reg l16r6) (.cond (.tmp 27) (.seq (.reg l16r7) .ret) .skip)))) (.reg l16r8))))))) (.seq (.reg l16r9) .ret)))) [.tmp 2])
theorem l16_eq:lowFn Try.prog 16=some l16:=by kernel_rfl
def l17r0:List AOper :=
  [.mk (some 4) (.mv (.const (.bool false))) none []]
def l17r1:List AOper :=
  [.mk (some 6) (.mv (.tmp 0)) none [],.mk (some 7) (.len (.tmp 6)) none [0],.mk (some 8) (.mv (.tmp 1)) none [],.mk (some 9) (.bin .neq (.tmp 7) (.tmp 8)) none [1,2]]
def l17r2:List AOper :=
  [.mk (some 4) (.mv (.const (.bool false))) none []]
def l17r3:List AOper :=
  [.mk (some 10) (.mv (.tmp 1)) none [],.mk (some 11) (.mv (.const (.int .i64 0))) none []]
def l17r4:List AOper :=
  [.mk (some 12) (.bin .lss (.tmp 11) (.tmp 10)) none []]
def l17r5:List AOper :=
  [.mk (some 13) (.mv (.tmp 11)) none [],.mk (some 5) (.mv (.tmp 13)) none [0,0]]
def l17r6:List AOper :=
  [.mk (some 14) (.mv (.tmp 0)) none [],.mk (some 15) (.mv (.tmp 5)) none [],.mk (some 16) (.call 34 [.tmp 14,.tmp 15]) none [0,1],.mk (some 17) (.un .not (.tmp 16)) none [2]]
def l17r7:List AOper :=
  [.mk (some 4) (.mv (.const (.bool false))) none []]
def l17r8:List AOper :=
  [.mk (some 18) (.bin .add (.tmp 11) (.const (.int .i64 1))) none [],.mk (some 11) (.mv (.tmp 18)) none [0]]
def l17r9:List AOper :=
  [.mk (some 4) (.mv (.const (.bool true))) none []]
def l17:AFn :=
  (AFn.mk 19 2 (.seq (.reg l17r0) (.seq (.seq (.reg l17r1) (.cond (.tmp 9) (.seq (.reg l17r2) .ret) .skip)) (.seq (.seq (.reg l17r3) (.block 0 (.loop (.seq (.reg l17r4) (.seq (.cond (.tmp 12) .skip (.exit 0)) (.seq (.block 1 (.seq (.reg l17r5) (.seq (.reg l17r6) (.cond (.tmp 17) (.seq (.reg l17r7) .ret) .skip)))) (.reg l17r8))))))) (.seq (.reg l17r9) .ret)))) [.tmp 4])
theorem l17_eq:lowFn Try.prog 17=some l17:=by kernel_rfl
def l18r0:List AOper :=
  [.mk (some 6) (.alloc [.int .i64 0,.int .i64 0,.int .i64 0]) none []]
def l18r1:List AOper :=
  [.mk (some 8) (.mv (.tmp 2)) none [],.mk (some 9) (.bin .lss (.tmp 8) (.const (.int .i64 1))) none [0]]
def l18r2:List AOper :=
  [.mk (some 10) (.build [.int .i64 0,.int .i64 0,.int .i64 0] [(0,1,.const (.int .i64 0)),(1,1,.const (.int .i64 0)),(2,1,.const (.int .i64 1))]) none [],.mk none (.store 3 (.tmp 6) (.tmp 10)) none [0,0]]
def l18r3:List AOper :=
  [.mk (some 11) (.mv (.tmp 2)) none [],.mk (some 12) (.bin .eql (.tmp 11) (.const (.int .i64 1))) none [0]]
def l18r4:List AOper :=
  [.mk (some 13) (.mv (.tmp 0)) none [],.mk (some 14) (.mv (.tmp 0)) none [],.mk (some 15) (.bin .add (.tmp 14) (.const (.int .i64 1))) none [1],.mk (some 16) (.build [.int .i64 0,.int .i64 0,.int .i64 0] [(0,1,.tmp 13),(1,1,.tmp 15),(2,1,.const (.int .i64 1))]) none [0,2],.mk none (.store 3 (.tmp 6) (.tmp 16)) none [3,0,1,2,3]]
def l18r5:List AOper :=
  [.mk (some 17) (.mv (.tmp 0)) none [],.mk (some 18) (.mv (.tmp 2)) none [],.mk (some 19) (.bin .sub (.tmp 18) (.const (.int .i64 1))) none [1],.mk (some 20) (.mv (.tmp 1)) none [],.mk (some 21) (.bin .mul (.tmp 19) (.tmp 20)) none [2,3],.mk (some 22) (.bin .add (.tmp 17) (.tmp 21)) none [0,4],.mk (some 7) (.mv (.tmp 22)) none [5,0,1,2,3,4,5]]
def l18r6:List AOper :=
  [.mk (some 23) (.mv (.tmp 1)) none [],.mk (some 24) (.bin .lss (.tmp 23) (.const (.int .i64 0))) none [0]]
def l18r7:List AOper :=
  [.mk (some 25) (.mv (.tmp 0)) none [],.mk (some 26) (.mv (.tmp 7)) none [],.mk (some 27) (.bin .sub (.tmp 26) (.const (.int .i64 1))) none [1],.mk (some 28) (.mv (.tmp 1)) none [],.mk (some 29) (.build [.int .i64 0,.int .i64 0,.int .i64 0] [(0,1,.tmp 25),(1,1,.tmp 27),(2,1,.tmp 28)]) none [0,2,3],.mk none (.store 3 (.tmp 6) (.tmp 29)) none [4,0,1,2,3,4]]
def l18r8:List AOper :=
  [.mk (some 30) (.mv (.tmp 0)) none [],.mk (some 31) (.mv (.tmp 7)) none [],.mk (some 32) (.bin .add (.tmp 31) (.const (.int .i64 1))) none [1],.mk (some 33) (.mv (.tmp 1)) none [],.mk (some 34) (.build [.int .i64 0,.int .i64 0,.int .i64 0] [(0,1,.tmp 30),(1,1,.tmp 32),(2,1,.tmp 33)]) none [0,2,3],.mk none (.store 3 (.tmp 6) (.tmp 34)) none [4,0,1,2,3,4]]
def l18:AFn :=
  (AFn.mk 35 3 (.seq (.reg l18r0) (.seq (.seq (.reg l18r1) (.cond (.tmp 9) (.seq (.reg l18r2) .ret) .skip)) (.seq (.seq (.reg l18r3) (.cond (.tmp 12) (.seq (.reg l18r4) .ret) .skip)) (.seq (.reg l18r5) (.seq (.seq (.reg l18r6) (.cond (.tmp 24) (.seq (.reg l18r7) .ret) .skip)) (.seq (.reg l18r8) .ret)))))) [.cell 6 true 3])
theorem l18_eq:lowFn Try.prog 18=some l18:=by kernel_rfl
def l19r0:List AOper :=
  [.mk (some 1) (.box (.tmp 0)) none [],.mk (some 2) (.mv (.const (.slice none 0 0))) none []]
def l19r1:List AOper :=
  [.mk (some 5) (.load true 3 (.tmp 1)) none [],.mk (some 6) (.call 35 [.tmp 5]) none [0],.mk (some 7) (.mkslice 1 [.int .i64 0] (.tmp 6) (.tmp 6)) none [1,1],.mk (some 3) (.mv (.tmp 7)) none [2,1,0,1,2]]
def l19r2:List AOper :=
  [.mk (some 8) (.mv (.tmp 3)) none [],.mk (some 9) (.len (.tmp 8)) none [0],.mk (some 10) (.mv (.const (.int .i64 0))) none []]
def l19r3:List AOper :=
  [.mk (some 11) (.bin .lss (.tmp 10) (.tmp 9)) none []]
def l19r4:List AOper :=
  [.mk (some 12) (.mv (.tmp 10)) none [],.mk (some 4) (.mv (.tmp 12)) none [0,0]]
def l19r5:List AOper :=
  [.mk (some 13) (.mv (.tmp 3)) none [],.mk (some 14) (.mv (.tmp 4)) none [],.mk (some 15) (.load true 3 (.tmp 1)) none [],.mk (some 16) (.mv (.tmp 4)) none [],.mk (some 17) (.call 36 [.tmp 15,.tmp 16]) none [2,3],.mk (some 18) (.idxA 1 (.tmp 13) (.tmp 14)) none [0,1,0,1,2,3,4],.mk none (.store 1 (.tmp 18) (.tmp 17)) none [5,4,4,0,1,2,3,4]]
def l19r6:List AOper :=
  [.mk (some 19) (.bin .add (.tmp 10) (.const (.int .i64 1))) none [],.mk (some 10) (.mv (.tmp 19)) none [0]]
def l19r7:List AOper :=
  [.mk (some 20) (.mv (.tmp 3)) none [],.mk (some 2) (.mv (.tmp 20)) none [0,0]]
def l19:AFn :=
  (AFn.mk 21 1 (.seq (.reg l19r0) (.seq (.reg l19r1) (.seq (.seq (.reg l19r2) (.block 0 (.loop (.seq (.reg l19r3) (.seq (.cond (.tmp 11) .skip (.exit 0)) (.seq (.block 1 (.seq (.reg l19r4) (.reg l19r5))) (.reg l19r6))))))) (.seq (.reg l19r7) .ret)))) [.tmp 2])
theorem l19_eq:lowFn Try.prog 19=some l19:=by kernel_rfl
def l20r0:List AOper :=
  [.mk (some 6) (.alloc [.int .i64 0,.int .i64 0,.int .i64 0,.int .i64 0,.int .i64 0]) none [],.mk (some 7) (.mv (.const (.bool false))) none []]
def l20r1:List AOper :=
  [.mk (some 8) (.mv (.tmp 0)) none [],.mk (some 9) (.len (.tmp 8)) none [0],.mk (some 10) (.bin .lss (.tmp 9) (.const (.int .i64 1))) none [1],.mk (some 11) (.mv (.tmp 10)) none [2],.mk (some 12) (.mv (.tmp 0)) (some (11,false)) [3],.mk (some 13) (.len (.tmp 12)) (some (11,false)) [4,3],.mk (some 14) (.bin .gtr (.tmp 13) (.const (.int .i64 3))) (some (11,false)) [5,3],.mk (some 15) (.pick (.tmp 11) (.const (.bool true)) (.tmp 14)) none [3,6],.mk (some 16) (.mv (.tmp 15)) none [7,3],.mk (some 17) (.mv (.tmp 1)) (some (16,false)) [8],.mk (some 18) (.len (.tmp 17)) (some (16,false)) [9,8],.mk (some 19) (.mv (.tmp 0)) (some (16,false)) [8],.mk (some 20) (.len (.tmp 19)) (some (16,false)) [11,8],.mk (some 21) (.bin .neq (.tmp 18) (.tmp 20)) (some (16,false)) [10,12,8],.mk (some 22) (.pick (.tmp 16) (.const (.bool true)) (.tmp 21)) none [8,13],.mk (some 23) (.mv (.tmp 22)) none [14,8],.mk (some 24) (.mv (.tmp 2)) (some (23,false)) [15],.mk (some 25) (.call 37 [.tmp 24]) (some (23,false)) [16,15,15],.mk (some 26) (.un .not (.tmp 25)) (some (23,false)) [17,15],.mk (some 27) (.pick (.tmp 23) (.const (.bool true)) (.tmp 26)) none [15,18]]
def l20r2:List AOper :=
  [.mk (some 28) (.call 38 []) none [],.mk none (.store 5 (.tmp 6) (.tmp 28)) none [0,0,0],.mk (some 7) (.mv (.const (.bool false))) none [1,0,1]]
def l20r3:List AOper :=
  [.mk (some 29) (.mv (.tmp 0)) none [],.mk (some 30) (.mv (.tmp 1)) none [],.mk (some 31) (.call 39 [.tmp 29,.tmp 30]) none [0,1],.mk (some 32) (.extract (.tmp 31) 0) none [2],.mk (some 33) (.extract (.tmp 31) 1) none [2],.mk none (.store 5 (.tmp 6) (.tmp 32)) none [3,2,0,1,2,3,4],.mk (some 7) (.mv (.tmp 33)) none [4,5,0,1,2,3,4,5]]
def l20:AFn :=
  (AFn.mk 34 3 (.seq (.reg l20r0) (.seq (.seq (.reg l20r1) (.cond (.tmp 27) (.seq (.reg l20r2) .ret) .skip)) (.seq (.reg l20r3) .ret))) [.cell 6 true 5,.tmp 7])
theorem l20_eq:lowFn Try.prog 20=some l20:=by kernel_rfl
def l21r0:List AOper :=
  [.mk (some 2) (.mv (.const (.slice none 0 0))) none []]
def l21r1:List AOper :=
  [.mk (some 3) (.alloc [.bool false,.bool false,.bool false,.bool false,.bool false]) none []]
def l21r2:List AOper :=
  [.mk (some 11) (.mv (.tmp 0)) none [],.mk (some 12) (.len (.tmp 11)) none [0],.mk (some 13) (.mv (.const (.int .i64 0))) none []]
def l21r3:List AOper :=
  [.mk (some 14) (.bin .lss (.tmp 13) (.tmp 12)) none []]
def l21r4:List AOper :=
  [.mk (some 15) (.idxA 1 (.tmp 11) (.tmp 13)) none [],.mk (some 16) (.load false 1 (.tmp 15)) none [0],.mk (some 5) (.mv (.tmp 16)) none [1,0,1]]
def l21r5:List AOper :=
  [.mk (some 17) (.mv (.tmp 5)) none [],.mk (some 18) (.len (.tmp 17)) none [0],.mk (some 19) (.mv (.const (.int .i64 0))) none []]
def l21r6:List AOper :=
  [.mk (some 20) (.bin .lss (.tmp 19) (.tmp 18)) none []]
def l21r7:List AOper :=
  [.mk (some 21) (.idxA 1 (.tmp 17) (.tmp 19)) none [],.mk (some 22) (.load false 1 (.tmp 21)) none [0],.mk (some 7) (.mv (.tmp 22)) none [1,0,1]]
def l21r8:List AOper :=
  [.mk (some 23) (.mv (.tmp 7)) none [],.mk (some 24) (.idxP 1 5 (.tmp 3) (.tmp 23)) none [0,0],.mk none (.store 1 (.tmp 24) (.const (.bool true))) none [1,0]]
def l21r9:List AOper :=
  [.mk (some 25) (.bin .add (.tmp 19) (.const (.int .i64 1))) none [],.mk (some 19) (.mv (.tmp 25)) none [0]]
def l21r10:List AOper :=
  [.mk (some 26) (.bin .add (.tmp 13) (.const (.int .i64 1))) none [],.mk (some 13) (.mv (.tmp 26)) none [0]]
def l21r11:List AOper :=
  [.mk (some 8) (.mv (.const (.slice none 0 0))) none []]
def l21r12:List AOper :=
  [.mk (some 27) (.load true 5 (.tmp 3)) none [],.mk (some 28) (.mv (.const (.int .i64 0))) none []]
def l21r13:List AOper :=
  [.mk (some 29) (.bin .lss (.tmp 28) (.const (.int .i64 5))) none []]
def l21r14:List AOper :=
  [.mk (some 30) (.mv (.tmp 28)) none [],.mk (some 31) (.raw (Op.index 70 (.tmp 27) (.tmp 28))) none [],.mk (some 9) (.mv (.tmp 30)) none [0,0,1],.mk (some 10) (.mv (.tmp 31)) none [1,2,0,1,2]]
def l21r15:List AOper :=
  [.mk (some 32) (.mv (.tmp 10)) none []]
def l21r16:List AOper :=
  [.mk (some 33) (.mv (.tmp 8)) none [],.mk (some 34) (.mv (.tmp 9)) none [],.mk (some 35) (.bslice 1 [.int .i64 0] [(0,.tmp 34)] 1) none [1],.mk (some 36) (.append 1 (.tmp 33) (.tmp 35)) none [0,2],.mk (some 8) (.mv (.tmp 36)) none [3,3,0,1,2,3]]
def l21r17:List AOper :=
  [.mk (some 37) (.bin .add (.tmp 28) (.const (.int .i64 1))) none [],.mk (some 28) (.mv (.tmp 37)) none [0]]
def l21r18:List AOper :=
  [.mk (some 38) (.mv (.tmp 8)) none [],.mk (some 2) (.mv (.tmp 38)) none [0,0]]
def l21:AFn :=
  (AFn.mk 39 1 (.seq (.reg l21r0) (.seq (.reg l21r1) (.seq (.seq (.reg l21r2) (.block 0 (.loop (.seq (.reg l21r3) (.seq (.cond (.tmp 14) .skip (.exit 0)) (.seq (.block 1 (.seq (.reg l21r4) (.seq (.reg l21r5) (.block 2 (.loop (.seq (.reg l21r6) (.seq (.cond (.tmp 20) .skip (.exit 2)) (.seq (.block 3 (.seq (.reg l21r7) (.reg l21r8))) (.reg l21r9))))))))) (.reg l21r10))))))) (.seq (.reg l21r11) (.seq (.seq (.reg l21r12) (.block 4 (.loop (.seq (.reg l21r13) (.seq (.cond (.tmp 29) .skip (.exit 4)) (.seq (.block 5 (.seq (.reg l21r14) (.seq (.reg l21r15) (.cond (.tmp 32) (.reg l21r16) .skip)))) (.reg l21r17))))))) (.seq (.reg l21r18) .ret)))))) [.tmp 2])
theorem l21_eq:lowFn Try.prog 21=some l21:=by kernel_rfl
def l22r0:List AOper :=
  [.mk (some 2) (.box (.tmp 0)) none [],.mk (some 4) (.mv (.const (.int .i64 0))) none []]
def l22r1a:List AOper :=
  [.mk (some 5) (.load true 5 (.tmp 2)) none [],.mk (some 6) (.mv (.tmp 1)) none [],.mk (some 7) (.call 21 [.tmp 6]) none [1]]
def l22r1b:List AOper :=
  [.mk (some 8) (.call 23 [.tmp 5,.tmp 7]) none [0,2,2],.mk (some 9) (.call 32 [.tmp 8]) none [3,3],.mk (some 4) (.mv (.tmp 9)) none [4,4,0,1,2,3,4]]
def l22r1:List AOper:=l22r1a ++ l22r1b
def l22:AFn :=
  (AFn.mk 10 2 (.seq (.reg l22r0) (.seq (.draw l22r1) .ret)) [.tmp 4])
theorem l22_eq:lowFn Try.prog 22=some l22:=by kernel_rfl
def l23r0:List AOper :=
  [.mk (some 2) (.box (.tmp 0)) none [],.mk (some 4) (.mv (.const (.slice none 0 0))) none []]
def l23r1:List AOper :=
  [.mk (some 8) (.mv (.tmp 1)) none [],.mk (some 9) (.len (.tmp 8)) none [0],.mk (some 10) (.mkslice 1 [.int .i64 0] (.tmp 9) (.tmp 9)) none [1,1],.mk (some 5) (.mv (.tmp 10)) none [2,0,1,2]]
def l23r2:List AOper :=
  [.mk (some 11) (.mv (.tmp 1)) none [],.mk (some 12) (.len (.tmp 11)) none [0],.mk (some 13) (.mv (.const (.int .i64 0))) none []]
def l23r3:List AOper :=
  [.mk (some 14) (.bin .lss (.tmp 13) (.tmp 12)) none []]
def l23r4:List AOper :=
  [.mk (some 15) (.mv (.tmp 13)) none [],.mk (some 16) (.idxA 1 (.tmp 11) (.tmp 13)) none [],.mk (some 17) (.load false 1 (.tmp 16)) none [1],.mk (some 6) (.mv (.tmp 15)) none [0,0,1,2],.mk (some 7) (.mv (.tmp 17)) none [2,3,0,1,2,3]]
def l23r5:List AOper :=
  [.mk (some 18) (.mv (.tmp 5)) none [],.mk (some 19) (.mv (.tmp 6)) none [],.mk (some 20) (.mv (.tmp 7)) none [],.mk (some 21) (.idxP 1 5 (.tmp 2) (.tmp 20)) none [2],.mk (some 22) (.load false 1 (.tmp 21)) none [3],.mk (some 23) (.idxA 1 (.tmp 18) (.tmp 19)) none [0,1,0,1,2,3,4],.mk none (.store 1 (.tmp 23) (.tmp 22)) none [5,4,0,1,2,3,4]]
def l23r6:List AOper :=
  [.mk (some 24) (.bin .add (.tmp 13) (.const (.int .i64 1))) none [],.mk (some 13) (.mv (.tmp 24)) none [0]]
def l23r7:List AOper :=
  [.mk (some 25) (.mv (.tmp 5)) none [],.mk (some 4) (.mv (.tmp 25)) none [0,0]]
def l23:AFn :=
  (AFn.mk 26 2 (.seq (.reg l23r0) (.seq (.reg l23r1) (.seq (.seq (.reg l23r2) (.block 0 (.loop (.seq (.reg l23r3) (.seq (.cond (.tmp 14) .skip (.exit 0)) (.seq (.block 1 (.seq (.reg l23r4) (.reg l23r5))) (.reg l23r6))))))) (.seq (.reg l23r7) .ret)))) [.tmp 4])
theorem l23_eq:lowFn Try.prog 23=some l23:=by kernel_rfl
def l24r0:List AOper :=
  [.mk (some 2) (.mv (.const (.bool false))) none []]
def l24r1:List AOper :=
  [.mk (some 5) (.mv (.tmp 0)) none [],.mk (some 6) (.len (.tmp 5)) none [0],.mk (some 7) (.bin .gtr (.tmp 6) (.const (.int .i64 4))) none [1]]
def l24r2:List AOper :=
  [.mk (some 2) (.mv (.const (.bool false))) none []]
def l24r3:List AOper :=
  [.mk (some 8) (.mv (.tmp 0)) none [],.mk (some 9) (.len (.tmp 8)) none [0],.mk (some 10) (.mv (.const (.int .i64 0))) none []]
def l24r4:List AOper :=
  [.mk (some 11) (.bin .lss (.tmp 10) (.tmp 9)) none []]
def l24r5:List AOper :=
  [.mk (some 12) (.idxA 1 (.tmp 8) (.tmp 10)) none [],.mk (some 13) (.load false 1 (.tmp 12)) none [0],.mk (some 4) (.mv (.tmp 13)) none [1,0,1]]
def l24r6:List AOper :=
  [.mk (some 14) (.mv (.tmp 4)) none [],.mk (some 15) (.call 40 [.tmp 14,.const (.int .i64 60)]) none [0],.mk (some 16) (.un .not (.tmp 15)) none [1]]
def l24r7:List AOper :=
  [.mk (some 2) (.mv (.const (.bool false))) none []]
def l24r8:List AOper :=
  [.mk (some 17) (.bin .add (.tmp 10) (.const (.int .i64 1))) none [],.mk (some 10) (.mv (.tmp 17)) none [0]]
def l24r9:List AOper :=
  [.mk (some 18) (.mv (.tmp 0)) none [],.mk (some 19) (.call 32 [.tmp 18]) none [0],.mk (some 20) (.bin .leq (.tmp 19) (.const (.int .i64 60))) none [1],.mk (some 2) (.mv (.tmp 20)) none [2,1,0,1,2]]
def l24:AFn :=
  (AFn.mk 21 1 (.seq (.reg l24r0) (.seq (.seq (.reg l24r1) (.cond (.tmp 7) (.seq (.reg l24r2) .ret) .skip)) (.seq (.seq (.reg l24r3) (.block 0 (.loop (.seq (.reg l24r4) (.seq (.cond (.tmp 11) .skip (.exit 0)) (.seq (.block 1 (.seq (.reg l24r5) (.seq (.reg l24r6) (.cond (.tmp 16) (.seq (.reg l24r7) .ret) .skip)))) (.reg l24r8))))))) (.seq (.reg l24r9) .ret)))) [.tmp 2])
theorem l24_eq:lowFn Try.prog 24=some l24:=by kernel_rfl
def l25r0:List AOper :=
  [.mk (some 4) (.box (.tmp 0)) none [],.mk (some 8) (.mv (.const (.slice none 0 0))) none []]
def l25r1:List AOper :=
  [.mk (some 9) (.mv (.const (.slice none 0 0))) none []]
def l25r2:List AOper :=
  [.mk (some 16) (.mv (.tmp 1)) none [],.mk (some 17) (.len (.tmp 16)) none [0],.mk (some 18) (.mv (.const (.int .i64 0))) none []]
def l25r3:List AOper :=
  [.mk (some 19) (.bin .lss (.tmp 18) (.tmp 17)) none []]
def l25r4:List AOper :=
  [.mk (some 20) (.mv (.tmp 18)) none [],.mk (some 21) (.idxA 2 (.tmp 16) (.tmp 18)) none [],.mk (some 22) (.load true 2 (.tmp 21)) none [1],.mk (some 11) (.alloc [.slice none 0 0,.slice none 0 0]) none [],.mk (some 10) (.mv (.tmp 20)) none [0,0,1,2,3],.mk none (.store 2 (.tmp 11) (.tmp 22)) none [3,2,4,0,1,2,3,4]]
def l25r5a:List AOper :=
  [.mk (some 23) (.mv (.tmp 9)) none [],.mk (some 24) (.load true 2 (.tmp 11)) none [],.mk (some 25) (.mv (.tmp 2)) none [],.mk (some 26) (.mv (.tmp 10)) none [],.mk (some 27) (.idxA 1 (.tmp 25) (.tmp 26)) none [2,3],.mk (some 28) (.load false 1 (.tmp 27)) none [4],.mk (some 29) (.call 41 [.tmp 24,.tmp 28]) none [1,5],.mk (some 30) (.mkfn (Fn.func 42) [.tmp 29] []) none [6],.mk (some 31) (.bslice 1 [.nilFunc] [(0,.tmp 30)] 1) none [7]]
def l25r5b:List AOper :=
  [.mk (some 32) (.append 1 (.tmp 23) (.tmp 31)) none [0,8,6],.mk (some 9) (.mv (.tmp 32)) none [9,9,0,1,2,3,4,5,6,7,8,9]]
def l25r5:List AOper:=l25r5a ++ l25r5b
def l25r6:List AOper :=
  [.mk (some 33) (.bin .add (.tmp 18) (.const (.int .i64 1))) none [],.mk (some 18) (.mv (.tmp 33)) none [0]]
def l25r7:List AOper :=
  [.mk (some 34) (.mv (.tmp 2)) none [],.mk (some 35) (.call 21 [.tmp 34]) none [0],.mk (some 36) (.mv (.tmp 3)) none [],.mk (some 37) (.call 43 [.tmp 35,.tmp 36]) none [1,2,1],.mk (some 12) (.mv (.tmp 37)) none [3,3,0,1,2,3]]
def l25r8:List AOper :=
  [.mk (some 13) (.mv (.const (.slice none 0 0))) none []]
def l25r9:List AOper :=
  [.mk (some 38) (.load true 5 (.tmp 4)) none [],.mk (some 39) (.mv (.tmp 3)) none [],.mk (some 40) (.build [.int .i64 0,.int .i64 0,.int .i64 0,.int .i64 0,.int .i64 0] []) none [],.mk (some 41) (.call 44 [.tmp 38,.tmp 39,.tmp 40]) none [0,1,2],.mk (some 42) (.len (.tmp 41)) none [3],.mk (some 43) (.mv (.const (.int .i64 0))) none []]
def l25r10:List AOper :=
  [.mk (some 44) (.bin .lss (.tmp 43) (.tmp 42)) none []]
def l25r11:List AOper :=
  [.mk (some 45) (.idxA 5 (.tmp 41) (.tmp 43)) none [],.mk (some 46) (.load true 5 (.tmp 45)) none [0],.mk (some 15) (.alloc [.int .i64 0,.int .i64 0,.int .i64 0,.int .i64 0,.int .i64 0]) none [],.mk none (.store 5 (.tmp 15) (.tmp 46)) none [2,1,0,1,2]]
def l25r12:List AOper :=
  [.mk (some 47) (.mv (.tmp 13)) none [],.mk (some 48) (.load true 5 (.tmp 4)) none [],.mk (some 49) (.mv (.tmp 12)) none [],.mk (some 50) (.load true 5 (.tmp 15)) none [],.mk (some 51) (.call 44 [.tmp 48,.tmp 49,.tmp 50]) none [1,2,3],.mk (some 52) (.mv (.tmp 9)) none [],.mk (some 53) (.call 45 [.tmp 51,.tmp 52]) none [4,5,4],.mk (some 54) (.bslice 1 [.int .i64 0] [(0,.tmp 53)] 1) none [6],.mk (some 55) (.append 1 (.tmp 47) (.tmp 54)) none [0,7,6],.mk (some 13) (.mv (.tmp 55)) none [8,8,0,1,2,3,4,5,6,7,8]]
def l25r13:List AOper :=
  [.mk (some 56) (.bin .add (.tmp 43) (.const (.int .i64 1))) none [],.mk (some 43) (.mv (.tmp 56)) none [0]]
def l25r14:List AOper :=
  [.mk (some 57) (.mv (.tmp 13)) none [],.mk (some 8) (.mv (.tmp 57)) none [0,0]]
def l25:AFn :=
  (AFn.mk 58 4 (.seq (.reg l25r0) (.seq (.reg l25r1) (.seq (.seq (.reg l25r2) (.block 0 (.loop (.seq (.reg l25r3) (.seq (.cond (.tmp 19) .skip (.exit 0)) (.seq (.block 1 (.seq (.reg l25r4) (.draw l25r5))) (.reg l25r6))))))) (.seq (.reg l25r7) (.seq (.reg l25r8) (.seq (.seq (.reg l25r9) (.block 2 (.loop (.seq (.reg l25r10) (.seq (.cond (.tmp 44) .skip (.exit 2)) (.seq (.block 3 (.seq (.reg l25r11) (.reg l25r12))) (.reg l25r13))))))) (.seq (.reg l25r14) .ret))))))) [.tmp 8])
theorem l25_eq:lowFn Try.prog 25=some l25:=by kernel_rfl
def l26r0:List AOper :=
  [.mk (some 4) (.mv (.const (.int .i64 0))) none []]
def l26r1:List AOper :=
  [.mk (some 5) (.mv (.tmp 1)) none [],.mk (some 6) (.mv (.tmp 0)) none [],.mk (some 7) (.mv (.tmp 1)) none [],.mk (some 8) (.len (.tmp 7)) none [2],.mk (some 9) (.call 28 [.tmp 6,.tmp 8]) none [1,3],.mk (some 10) (.idxA 1 (.tmp 5) (.tmp 9)) none [0,4],.mk (some 11) (.load false 1 (.tmp 10)) none [5],.mk (some 4) (.mv (.tmp 11)) none [6,4,0,1,2,3,4,5,6]]
def l26:AFn :=
  (AFn.mk 12 2 (.seq (.reg l26r0) (.seq (.reg l26r1) .ret)) [.tmp 4])
theorem l26_eq:lowFn Try.prog 26=some l26:=by kernel_rfl
def l27r0:List AOper :=
  [.mk (some 4) (.alloc [.slice none 0 0,.slice none 0 0]) none []]
def l27r1:List AOper :=
  [.mk (some 7) (.mv (.tmp 1)) none [],.mk (some 8) (.call 46 [.tmp 7]) none [0],.mk (some 9) (.build [.slice none 0 0,.slice none 0 0] [(0,1,.tmp 8)]) none [1],.mk (some 5) (.alloc [.slice none 0 0,.slice none 0 0]) none [],.mk none (.store 2 (.tmp 5) (.tmp 9)) none [3,2,1,0,1,2,3]]
def l27r2:List AOper :=
  [.mk (some 10) (.mv (.tmp 1)) none [],.mk (some 11) (.call 47 [.tmp 10]) none [0],.mk (some 6) (.mv (.tmp 11)) none [1,1,0,1]]
def l27r3:List AOper :=
  [.mk (some 12) (.mv (.tmp 6)) none [],.mk (some 13) (.bin .gtr (.tmp 12) (.const (.int .i64 0))) none [0]]
def l27r4a:List AOper :=
  [.mk (some 16) (.fld 1 (.tmp 5)) none [],.mk (some 17) (.load false 1 (.tmp 16)) none [0],.mk (some 18) (.mv (.tmp 0)) none [],.mk (some 19) (.call 28 [.tmp 18,.const (.int .i64 19)]) none [2],.mk (some 20) (.bin .sub (.tmp 19) (.const (.int .i64 9))) none [3],.mk (some 21) (.bslice 1 [.int .i64 0] [(0,.tmp 20)] 1) none [4]]
def l27r4b:List AOper :=
  [.mk (some 22) (.append 1 (.tmp 17) (.tmp 21)) none [1,5,3],.mk (some 23) (.fld 1 (.tmp 5)) none [0,1,2,3,4,5,6],.mk none (.store 1 (.tmp 23) (.tmp 22)) none [7,6,6,0,1,2,3,4,5,6]]
def l27r4:List AOper:=l27r4a ++ l27r4b
def l27r5:List AOper :=
  [.mk (some 14) (.mv (.tmp 6)) none [],.mk (some 15) (.bin .sub (.tmp 14) (.const (.int .i64 1))) none [0],.mk (some 6) (.mv (.tmp 15)) none [1,0,1]]
def l27r6:List AOper :=
  [.mk (some 24) (.load true 2 (.tmp 5)) none [],.mk none (.store 2 (.tmp 4) (.tmp 24)) none [0,0]]
def l27:AFn :=
  (AFn.mk 25 2 (.seq (.reg l27r0) (.seq (.reg l27r1) (.seq (.seq (.reg l27r2) (.block 0 (.loop (.seq (.seq (.reg l27r3) (.cond (.tmp 13) .skip (.exit 0))) (.seq (.block 1 (.draw l27r4)) (.reg l27r5)))))) (.seq (.reg l27r6) .ret)))) [.cell 4 true 2])
theorem l27_eq:lowFn Try.prog 27=some l27:=by kernel_rfl
def l28r0:List AOper :=
  [.mk (some 4) (.mv (.const (.int .i64 0))) none []]
def l28r1:List AOper :=
  [.mk (some 7) (.mv (.tmp 0)) none [],.mk (some 8) (.mv (.tmp 0)) none [],.mk (some 9) (.nilck (.tmp 8)) none [1],.mk (some 10) (.fld 1 (.tmp 9)) none [2],.mk (some 11) (.load false 1 (.tmp 10)) none [3],.mk (some 12) (.bin .add (.tmp 11) (.const (.int .i64 1))) none [4],.mk (some 13) (.nilck (.tmp 7)) none [0,0,1,2,3,4,5],.mk (some 14) (.fld 1 (.tmp 13)) none [6,0,1,2,3,4,5],.mk none (.store 1 (.tmp 14) (.tmp 12)) none [7,5,0,1,2,3,4,5]]
def l28r2:List AOper :=
  [.mk (some 15) (.mv (.tmp 1)) none [],.mk (some 16) (.bin .lss (.tmp 15) (.const (.int .i64 1))) none [0],.mk (some 17) (.mv (.tmp 16)) none [1],.mk (some 18) (.mv (.tmp 0)) (some (17,false)) [2],.mk (some 19) (.nilck (.tmp 18)) (some (17,false)) [3,2],.mk (some 20) (.fld 0 (.tmp 19)) (some (17,false)) [4,2],.mk (some 21) (.load false 1 (.tmp 20)) (some (17,false)) [5,2],.mk (some 22) (.len (.tmp 21)) (some (17,false)) [6,2],.mk (some 23) (.bin .eql (.tmp 22) (.const (.int .i64 0))) (some (17,false)) [7,2],.mk (some 24) (.pick (.tmp 17) (.const (.bool true)) (.tmp 23)) none [2,8]]
def l28r3:List AOper :=
  [.mk (some 4) (.mv (.const (.int .i64 0))) none []]
def l28r4:List AOper :=
  [.mk (some 25) (.mv (.tmp 0)) none [],.mk (some 26) (.nilck (.tmp 25)) none [0],.mk (some 27) (.fld 1 (.tmp 26)) none [1],.mk (some 28) (.load false 1 (.tmp 27)) none [2],.mk (some 29) (.bin .sub (.tmp 28) (.const (.int .i64 1))) none [3],.mk (some 5) (.mv (.tmp 29)) none [4,0,1,2,3,4]]
def l28r5:List AOper :=
  [.mk (some 30) (.mv (.tmp 5)) none [],.mk (some 31) (.mv (.tmp 0)) none [],.mk (some 32) (.nilck (.tmp 31)) none [1],.mk (some 33) (.fld 0 (.tmp 32)) none [2],.mk (some 34) (.load false 1 (.tmp 33)) none [3],.mk (some 35) (.len (.tmp 34)) none [4],.mk (some 36) (.bin .lss (.tmp 30) (.tmp 35)) none [0,5]]
def l28r6:List AOper :=
  [.mk (some 37) (.mv (.tmp 0)) none [],.mk (some 38) (.nilck (.tmp 37)) none [0],.mk (some 39) (.fld 0 (.tmp 38)) none [1],.mk (some 40) (.load false 1 (.tmp 39)) none [2],.mk (some 41) (.mv (.tmp 5)) none [],.mk (some 42) (.idxA 1 (.tmp 40) (.tmp 41)) none [3,4],.mk (some 43) (.load false 1 (.tmp 42)) none [5],.mk (some 44) (.conv .i64 (.tmp 43)) none [6],.mk (some 45) (.mv (.tmp 1)) none [],.mk (some 46) (.bin .rem (.tmp 44) (.tmp 45)) none [7,8],.mk (some 4) (.mv (.tmp 46)) none [9,0,1,2,3,4,5,6,7,8,9]]
def l28r7a:List AOper :=
  [.mk (some 47) (.mv (.tmp 0)) none [],.mk (some 48) (.nilck (.tmp 47)) none [0],.mk (some 49) (.fld 0 (.tmp 48)) none [1],.mk (some 50) (.load false 1 (.tmp 49)) none [2],.mk (some 51) (.mv (.tmp 5)) none [],.mk (some 52) (.mv (.tmp 0)) none [],.mk (some 53) (.nilck (.tmp 52)) none [5],.mk (some 54) (.fld 0 (.tmp 53)) none [6],.mk (some 55) (.load false 1 (.tmp 54)) none [7],.mk (some 56) (.len (.tmp 55)) none [8],.mk (some 57) (.bin .rem (.tmp 51) (.tmp 56)) none [4,9],.mk (some 58) (.idxA 1 (.tmp 50) (.tmp 57)) none [3,10],.mk (some 59) (.load false 1 (.tmp 58)) none [11],.mk (some 60) (.conv .i64 (.tmp 59)) none [12],.mk (some 61) (.bin .mul (.tmp 60) (.const (.int .i64 131))) none [13],.mk (some 62) (.mv (.tmp 0)) none [],.mk (some 63) (.nilck (.tmp 62)) none [15],.mk (some 64) (.fld 0 (.tmp 63)) none [16],.mk (some 65) (.load false 1 (.tmp 64)) none [17],.mk (some 66) (.mv (.tmp 5)) none [],.mk (some 67) (.bin .mul (.tmp 66) (.const (.int .i64 7))) none [19],.mk (some 68) (.bin .add (.tmp 67) (.const (.int .i64 3))) none [20],.mk (some 69) (.mv (.tmp 0)) none [],.mk (some 70) (.nilck (.tmp 69)) none [22],.mk (some 71) (.fld 0 (.tmp 70)) none [23],.mk (some 72) (.load false 1 (.tmp 71)) none [24],.mk (some 73) (.len (.tmp 72)) none [25],.mk (some 74) (.bin .rem (.tmp 68) (.tmp 73)) none [21,26],.mk (some 75) (.idxA 1 (.tmp 65) (.tmp 74)) none [18,27],.mk (some 76) (.load false 1 (.tmp 75)) none [28],.mk (some 77) (.conv .i64 (.tmp 76)) none [29],.mk (some 78) (.bin .mul (.tmp 77) (.const (.int .i64 1117))) none [30],.mk (some 79) (.bin .add (.tmp 61) (.tmp 78)) none [14,31],.mk (some 80) (.mv (.tmp 5)) none [],.mk (some 81) (.bin .mul (.tmp 80) (.const (.int .i64 29))) none [33],.mk (some 82) (.bin .add (.tmp 79) (.tmp 81)) none [32,34],.mk (some 83) (.mv (.tmp 5)) none [],.mk (some 84) (.mv (.tmp 0)) none [],.mk (some 85) (.nilck (.tmp 84)) none [37],.mk (some 86) (.fld 0 (.tmp 85)) none [38],.mk (some 87) (.load false 1 (.tmp 86)) none [39],.mk (some 88) (.len (.tmp 87)) none [40],.mk (some 89) (.bin .quo (.tmp 83) (.tmp 88)) none [36,41],.mk (some 90) (.bin .mul (.tmp 89) (.const (.int .i64 53))) none [42]]
def l28r7b:List AOper :=
  [.mk (some 91) (.bin .add (.tmp 82) (.tmp 90)) none [35,43],.mk (some 6) (.mv (.tmp 91)) none [44,0,1,2,3,4,5,6,7,8,9,10,11,12,13,14,15,16,17,18,19,20,21,22,23,24,25,26,27,28,29,30,31,32,33,34,35,36,37,38,39,40,41,42,43,44]]
def l28r7:List AOper:=l28r7a ++ l28r7b
def l28r8:List AOper :=
  [.mk (some 92) (.mv (.tmp 6)) none [],.mk (some 93) (.mv (.tmp 6)) none [],.mk (some 94) (.bin .quo (.tmp 93) (.const (.int .i64 64))) none [1],.mk (some 95) (.bin .xor (.tmp 92) (.tmp 94)) none [0,2],.mk (some 6) (.mv (.tmp 95)) none [3,0,1,2,3]]
def l28r9:List AOper :=
  [.mk (some 96) (.mv (.tmp 6)) none [],.mk (some 97) (.mv (.tmp 1)) none [],.mk (some 98) (.bin .rem (.tmp 96) (.tmp 97)) none [0,1],.mk (some 4) (.mv (.tmp 98)) none [2,0,1,2]]
def l28:AFn :=
  (AFn.mk 99 2 (.seq (.reg l28r0) (.seq (.reg l28r1) (.seq (.seq (.reg l28r2) (.cond (.tmp 24) (.seq (.reg l28r3) .ret) .skip)) (.seq (.reg l28r4) (.seq (.seq (.reg l28r5) (.cond (.tmp 36) (.seq (.reg l28r6) .ret) .skip)) (.seq (.draw l28r7) (.seq (.reg l28r8) (.seq (.reg l28r9) .ret)))))))) [.tmp 4])
theorem l28_eq:lowFn Try.prog 28=some l28:=by kernel_rfl
def l29r0:List AOper :=
  [.mk (some 2) (.alloc [.slice none 0 0,.slice none 0 0]) none []]
def l29r1:List AOper :=
  [.mk (some 4) (.mv (.tmp 0)) none [],.mk (some 5) (.mv (.tmp 0)) none [],.mk (some 6) (.call 48 [.tmp 5]) none [1],.mk (some 7) (.call 27 [.tmp 4,.tmp 6]) none [0,2,2],.mk (some 3) (.alloc [.slice none 0 0,.slice none 0 0]) none [],.mk none (.store 2 (.tmp 3) (.tmp 7)) none [4,3,3,0,1,2,3,4]]
def l29r2:List AOper :=
  [.mk (some 8) (.mv (.tmp 0)) none [],.mk (some 9) (.call 28 [.tmp 8,.const (.int .i64 24)]) none [0]]
def l29r3:List AOper :=
  [.mk (some 11) (.bin .eql (.tmp 9) (.const (.int .i64 0))) none [],.mk (some 10) (.mv (.tmp 11)) none [0]]
def l29r4:List AOper :=
  [.mk (some 12) (.fld 1 (.tmp 3)) none [],.mk (some 13) (.load false 1 (.tmp 12)) none [0],.mk (some 14) (.bslice 1 [.int .i64 0] [(0,.const (.int .i64 1))] 1) none [],.mk (some 15) (.append 1 (.tmp 13) (.tmp 14)) none [1,2],.mk (some 16) (.fld 1 (.tmp 3)) none [0,1,2,3],.mk none (.store 1 (.tmp 16) (.tmp 15)) none [4,3,3,0,1,2,3]]
def l29r5:List AOper :=
  [.mk (some 18) (.bin .eql (.tmp 9) (.const (.int .i64 1))) none [],.mk (some 17) (.mv (.tmp 18)) none [0]]
def l29r6:List AOper :=
  [.mk (some 19) (.fld 0 (.tmp 3)) none [],.mk (some 20) (.load false 1 (.tmp 19)) none [0],.mk (some 21) (.bslice 1 [.int .i64 0] [(0,.const (.int .i64 (-1)))] 1) none [],.mk (some 22) (.append 1 (.tmp 20) (.tmp 21)) none [1,2],.mk (some 23) (.fld 0 (.tmp 3)) none [0,1,2,3],.mk none (.store 1 (.tmp 23) (.tmp 22)) none [4,3,3,0,1,2,3]]
def l29r7:List AOper :=
  [.mk (some 24) (.load true 2 (.tmp 3)) none [],.mk none (.store 2 (.tmp 2) (.tmp 24)) none [0,0]]
def l29:AFn :=
  (AFn.mk 25 1 (.seq (.reg l29r0) (.seq (.reg l29r1) (.seq (.seq (.reg l29r2) (.block 0 (.seq (.reg l29r3) (.cond (.tmp 10) (.reg l29r4) (.seq (.reg l29r5) (.cond (.tmp 17) (.reg l29r6) .skip)))))) (.seq (.reg l29r7) .ret)))) [.cell 2 true 2])
theorem l29_eq:lowFn Try.prog 29=some l29:=by kernel_rfl
def l30r0:List AOper :=
  [.mk (some 4) (.mv (.const (.bool false))) none []]
def l30r1:List AOper :=
  [.mk (some 5) (.mv (.const (.int .i64 0))) none []]
def l30r2:List AOper :=
  [.mk (some 6) (.mv (.tmp 5)) none [],.mk (some 7) (.mv (.tmp 0)) none [],.mk (some 8) (.len (.tmp 7)) none [1],.mk (some 9) (.bin .lss (.tmp 6) (.tmp 8)) none [0,2]]
def l30r3:List AOper :=
  [.mk (some 12) (.mv (.tmp 0)) none [],.mk (some 13) (.mv (.tmp 5)) none [],.mk (some 14) (.idxA 2 (.tmp 12) (.tmp 13)) none [0,1],.mk (some 15) (.load true 2 (.tmp 14)) none [2],.mk (some 16) (.call 49 [.tmp 15]) none [3],.mk (some 17) (.un .not (.tmp 16)) none [4]]
def l30r4:List AOper :=
  [.mk (some 4) (.mv (.const (.bool false))) none []]
def l30r5:List AOper :=
  [.mk (some 10) (.mv (.tmp 5)) none [],.mk (some 11) (.bin .add (.tmp 10) (.const (.int .i64 1))) none [0],.mk (some 5) (.mv (.tmp 11)) none [1,0,1]]
def l30r6:List AOper :=
  [.mk (some 18) (.mv (.tmp 0)) none [],.mk (some 19) (.len (.tmp 18)) none [0],.mk (some 20) (.call 50 [.tmp 19,.const (.int .i64 1),.const (.int .i64 3)]) none [1],.mk (some 21) (.mv (.tmp 20)) none [2,2],.mk (some 22) (.mv (.tmp 1)) (some (21,true)) [3],.mk (some 23) (.len (.tmp 22)) (some (21,true)) [4,3],.mk (some 24) (.mv (.tmp 0)) (some (21,true)) [3],.mk (some 25) (.len (.tmp 24)) (some (21,true)) [6,3],.mk (some 26) (.bin .eql (.tmp 23) (.tmp 25)) (some (21,true)) [5,7,3],.mk (some 27) (.pick (.tmp 21) (.tmp 26) (.const (.bool false))) none [3,8],.mk (some 4) (.mv (.tmp 27)) none [9,3,0,1,2,3,4,5,6,7,8,9]]
def l30:AFn :=
  (AFn.mk 28 2 (.seq (.reg l30r0) (.seq (.seq (.reg l30r1) (.block 0 (.loop (.seq (.seq (.reg l30r2) (.cond (.tmp 9) .skip (.exit 0))) (.seq (.block 1 (.seq (.reg l30r3) (.cond (.tmp 17) (.seq (.reg l30r4) .ret) .skip))) (.reg l30r5)))))) (.seq (.reg l30r6) .ret))) [.tmp 4])
theorem l30_eq:lowFn Try.prog 30=some l30:=by kernel_rfl
def l31r0:List AOper :=
  [.mk (some 6) (.alloc [.slice none 0 0,.slice none 0 0]) none [],.mk (some 7) (.mv (.const (.bool false))) none []]
def l31r1:List AOper :=
  [.mk (some 14) (.mv (.tmp 0)) none [],.mk (some 15) (.mv (.tmp 1)) none [],.mk (some 16) (.call 51 [.tmp 14,.tmp 15]) none [0,1],.mk (some 13) (.mv (.tmp 16)) none [2],.mk (some 17) (.extract (.tmp 13) 0) none [3],.mk (some 18) (.extract (.tmp 13) 1) none [3],.mk (some 8) (.mv (.tmp 17)) none [4,2,0,1,2,3,4],.mk (some 9) (.mv (.tmp 18)) none [5,6,0,1,2,3,4,5,6]]
def l31r2:List AOper :=
  [.mk (some 19) (.mv (.tmp 9)) none [],.mk (some 20) (.un .not (.tmp 19)) none [0],.mk (some 21) (.mv (.tmp 20)) none [1],.mk (some 22) (.mv (.tmp 2)) (some (21,false)) [2],.mk (some 23) (.mv (.tmp 8)) (some (21,false)) [2],.mk (some 24) (.call 52 [.tmp 22,.tmp 23]) (some (21,false)) [3,4,2,2],.mk (some 25) (.un .not (.tmp 24)) (some (21,false)) [5,2],.mk (some 26) (.pick (.tmp 21) (.const (.bool true)) (.tmp 25)) none [2,6]]
def l31r3:List AOper :=
  [.mk (some 27) (.build [.slice none 0 0,.slice none 0 0] []) none [],.mk none (.store 2 (.tmp 6) (.tmp 27)) none [0,0],.mk (some 7) (.mv (.const (.bool false))) none [1,0,1]]
def l31r4:List AOper :=
  [.mk (some 29) (.mv (.tmp 8)) none [],.mk (some 30) (.call 53 [.tmp 29]) none [0],.mk (some 28) (.mv (.tmp 30)) none [1],.mk (some 31) (.extract (.tmp 28) 0) none [2],.mk (some 32) (.extract (.tmp 28) 1) none [2],.mk (some 10) (.mv (.tmp 31)) none [3,1,0,1,2,3],.mk (some 11) (.mv (.tmp 32)) none [4,5,0,1,2,3,4,5]]
def l31r5:List AOper :=
  [.mk (some 33) (.mv (.tmp 11)) none [],.mk (some 34) (.bin .gtr (.tmp 33) (.const (.int .i64 4000))) none [0]]
def l31r6:List AOper :=
  [.mk (some 35) (.build [.slice none 0 0,.slice none 0 0] []) none [],.mk none (.store 2 (.tmp 6) (.tmp 35)) none [0,0],.mk (some 7) (.mv (.const (.bool false))) none [1,0,1]]
def l31r7:List AOper :=
  [.mk (some 36) (.mv (.tmp 0)) none [],.mk (some 37) (.mv (.tmp 1)) none [],.mk (some 38) (.mv (.tmp 2)) none [],.mk (some 39) (.mv (.tmp 8)) none [],.mk (some 40) (.call 54 [.tmp 36,.tmp 37,.tmp 38,.tmp 39]) none [0,1,2,3],.mk (some 12) (.alloc [.slice none 0 0,.slice none 0 0]) none [],.mk none (.store 2 (.tmp 12) (.tmp 40)) none [5,4,4,0,1,2,3,4,5]]
def l31r8a:List AOper :=
  [.mk (some 41) (.load true 2 (.tmp 12)) none [],.mk (some 42) (.load true 2 (.tmp 12)) none [],.mk (some 43) (.call 49 [.tmp 42]) none [1]]
def l31r8b:List AOper :=
  [.mk none (.store 2 (.tmp 6) (.tmp 41)) none [0,2,0],.mk (some 7) (.mv (.tmp 43)) none [2,3,0,1,2,3]]
def l31r8:List AOper:=l31r8a ++ l31r8b
def l31:AFn :=
  (AFn.mk 44 3 (.seq (.reg l31r0) (.seq (.reg l31r1) (.seq (.seq (.reg l31r2) (.cond (.tmp 26) (.seq (.reg l31r3) .ret) .skip)) (.seq (.seq (.reg l31r4) (.seq (.reg l31r5) (.cond (.tmp 34) (.seq (.reg l31r6) .ret) .skip))) (.seq (.reg l31r7) (.seq (.draw l31r8) .ret)))))) [.cell 6 true 2,.tmp 7])
theorem l31_eq:lowFn Try.prog 31=some l31:=by kernel_rfl
def l32r0:List AOper :=
  [.mk (some 2) (.mv (.const (.int .i64 0))) none []]
def l32r1:List AOper :=
  [.mk (some 3) (.mv (.const (.int .i64 1))) none []]
def l32r2:List AOper :=
  [.mk (some 6) (.mv (.tmp 0)) none [],.mk (some 7) (.len (.tmp 6)) none [0],.mk (some 8) (.mv (.const (.int .i64 0))) none []]
def l32r3:List AOper :=
  [.mk (some 9) (.bin .lss (.tmp 8) (.tmp 7)) none []]
def l32r4:List AOper :=
  [.mk (some 10) (.idxA 1 (.tmp 6) (.tmp 8)) none [],.mk (some 11) (.load false 1 (.tmp 10)) none [0],.mk (some 5) (.mv (.tmp 11)) none [1,0,1]]
def l32r5:List AOper :=
  [.mk (some 12) (.mv (.tmp 3)) none [],.mk (some 13) (.mv (.tmp 5)) none [],.mk (some 14) (.bin .mul (.tmp 12) (.tmp 13)) none [0,1],.mk (some 3) (.mv (.tmp 14)) none [2,0,1,2]]
def l32r6:List AOper :=
  [.mk (some 15) (.bin .add (.tmp 8) (.const (.int .i64 1))) none [],.mk (some 8) (.mv (.tmp 15)) none [0]]
def l32r7:List AOper :=
  [.mk (some 16) (.mv (.tmp 3)) none [],.mk (some 2) (.mv (.tmp 16)) none [0,0]]
def l32:AFn :=
  (AFn.mk 17 1 (.seq (.reg l32r0) (.seq (.reg l32r1) (.seq (.seq (.reg l32r2) (.block 0 (.loop (.seq (.reg l32r3) (.seq (.cond (.tmp 9) .skip (.exit 0)) (.seq (.block 1 (.seq (.reg l32r4) (.reg l32r5))) (.reg l32r6))))))) (.seq (.reg l32r7) .ret)))) [.tmp 2])
theorem l32_eq:lowFn Try.prog 32=some l32:=by kernel_rfl
def l33r0:List AOper :=
  [.mk (some 4) (.mv (.const (.bool false))) none []]
def l33r1:List AOper :=
  [.mk (some 5) (.mv (.tmp 1)) none [],.mk (some 6) (.un .neg (.tmp 5)) none [0],.mk (some 7) (.mv (.tmp 0)) none [],.mk (some 8) (.bin .leq (.tmp 6) (.tmp 7)) none [1,2],.mk (some 9) (.mv (.tmp 8)) none [3],.mk (some 10) (.mv (.tmp 0)) (some (9,true)) [4],.mk (some 11) (.mv (.tmp 1)) (some (9,true)) [4],.mk (some 12) (.bin .leq (.tmp 10) (.tmp 11)) (some (9,true)) [5,6,4],.mk (some 13) (.pick (.tmp 9) (.tmp 12) (.const (.bool false))) none [4,7],.mk (some 4) (.mv (.tmp 13)) none [8,4,0,1,2,3,4,5,6,7,8]]
def l33:AFn :=
  (AFn.mk 14 2 (.seq (.reg l33r0) (.seq (.reg l33r1) .ret)) [.tmp 4])
theorem l33_eq:lowFn Try.prog 33=some l33:=by kernel_rfl
def l34r0:List AOper :=
  [.mk (some 4) (.mv (.const (.bool false))) none []]
def l34r1:List AOper :=
  [.mk (some 5) (.mv (.tmp 0)) none [],.mk (some 6) (.mv (.tmp 1)) none [],.mk (some 7) (.call 55 [.tmp 5,.tmp 6]) none [0,1],.mk (some 8) (.bin .geq (.tmp 7) (.const (.int .i64 0))) none [2],.mk (some 4) (.mv (.tmp 8)) none [3,2,0,1,2,3]]
def l34:AFn :=
  (AFn.mk 9 2 (.seq (.reg l34r0) (.seq (.reg l34r1) .ret)) [.tmp 4])
theorem l34_eq:lowFn Try.prog 34=some l34:=by kernel_rfl
def l35r0:List AOper :=
  [.mk (some 1) (.box (.tmp 0)) none [],.mk (some 2) (.mv (.const (.int .i64 0))) none []]
def l35r1a:List AOper :=
  [.mk (some 5) (.fld 1 (.tmp 1)) none [],.mk (some 6) (.load false 1 (.tmp 5)) none [0],.mk (some 7) (.fld 0 (.tmp 1)) none [],.mk (some 8) (.load false 1 (.tmp 7)) none [2],.mk (some 9) (.bin .sub (.tmp 6) (.tmp 8)) none [1,3],.mk (some 10) (.fld 2 (.tmp 1)) none [],.mk (some 11) (.load false 1 (.tmp 10)) none [5],.mk (some 3) (.mv (.tmp 9)) none [4,0,1,2,3,4]]
def l35r1b:List AOper :=
  [.mk (some 4) (.mv (.tmp 11)) none [6,7,0,1,2,3,4,5,6,7]]
def l35r1:List AOper:=l35r1a ++ l35r1b
def l35r2:List AOper :=
  [.mk (some 12) (.mv (.tmp 4)) none [],.mk (some 13) (.bin .lss (.tmp 12) (.const (.int .i64 0))) none [0]]
def l35r3:List AOper :=
  [.mk (some 14) (.mv (.tmp 3)) none [],.mk (some 15) (.un .neg (.tmp 14)) none [0],.mk (some 16) (.mv (.tmp 4)) none [],.mk (some 17) (.un .neg (.tmp 16)) none [2],.mk (some 3) (.mv (.tmp 15)) none [1,0,1],.mk (some 4) (.mv (.tmp 17)) none [3,4,0,1,2,3,4]]
def l35r4:List AOper :=
  [.mk (some 18) (.mv (.tmp 3)) none [],.mk (some 19) (.bin .leq (.tmp 18) (.const (.int .i64 0))) none [0]]
def l35r5:List AOper :=
  [.mk (some 2) (.mv (.const (.int .i64 0))) none []]
def l35r6:List AOper :=
  [.mk (some 20) (.mv (.tmp 3)) none [],.mk (some 21) (.mv (.tmp 4)) none [],.mk (some 22) (.bin .add (.tmp 20) (.tmp 21)) none [0,1],.mk (some 23) (.bin .sub (.tmp 22) (.const (.int .i64 1))) none [2],.mk (some 24) (.mv (.tmp 4)) none [],.mk (some 25) (.bin .quo (.tmp 23) (.tmp 24)) none [3,4],.mk (some 2) (.mv (.tmp 25)) none [5,0,1,2,3,4,5]]
def l35:AFn :=
  (AFn.mk 26 1 (.seq (.reg l35r0) (.seq (.draw l35r1) (.seq (.seq (.reg l35r2) (.cond (.tmp 13) (.reg l35r3) .skip)) (.seq (.seq (.reg l35r4) (.cond (.tmp 19) (.seq (.reg l35r5) .ret) .skip)) (.seq (.reg l35r6) .ret))))) [.tmp 2])
theorem l35_eq:lowFn Try.prog 35=some l35:=by kernel_rfl
def l36r0:List AOper :=
  [.mk (some 2) (.box (.tmp 0)) none [],.mk (some 4) (.mv (.const (.int .i64 0))) none []]
def l36r1:List AOper :=
  [.mk (some 5) (.fld 0 (.tmp 2)) none [],.mk (some 6) (.load false 1 (.tmp 5)) none [0],.mk (some 7) (.mv (.tmp 1)) none [],.mk (some 8) (.fld 2 (.tmp 2)) none [],.mk (some 9) (.load false 1 (.tmp 8)) none [3],.mk (some 10) (.bin .mul (.tmp 7) (.tmp 9)) none [2,4],.mk (some 11) (.bin .add (.tmp 6) (.tmp 10)) none [1,5],.mk (some 4) (.mv (.tmp 11)) none [6,0,1,2,3,4,5,6]]
def l36:AFn :=
  (AFn.mk 12 2 (.seq (.reg l36r0) (.seq (.reg l36r1) .ret)) [.tmp 4])
theorem l36_eq:lowFn Try.prog 36=some l36:=by kernel_rfl
def l37r0:List AOper :=
  [.mk (some 2) (.mv (.const (.bool false))) none []]
def l37r1:List AOper :=
  [.mk (some 5) (.mv (.tmp 0)) none [],.mk (some 6) (.len (.tmp 5)) none [0],.mk (some 7) (.mv (.const (.int .i64 0))) none []]
def l37r2:List AOper :=
  [.mk (some 8) (.bin .lss (.tmp 7) (.tmp 6)) none []]
def l37r3:List AOper :=
  [.mk (some 9) (.idxA 1 (.tmp 5) (.tmp 7)) none [],.mk (some 10) (.load false 1 (.tmp 9)) none [0],.mk (some 4) (.mv (.tmp 10)) none [1,0,1]]
def l37r4:List AOper :=
  [.mk (some 11) (.mv (.tmp 4)) none [],.mk (some 12) (.call 40 [.tmp 11,.const (.int .i64 4)]) none [0],.mk (some 13) (.un .not (.tmp 12)) none [1]]
def l37r5:List AOper :=
  [.mk (some 2) (.mv (.const (.bool false))) none []]
def l37r6:List AOper :=
  [.mk (some 14) (.bin .add (.tmp 7) (.const (.int .i64 1))) none [],.mk (some 7) (.mv (.tmp 14)) none [0]]
def l37r7:List AOper :=
  [.mk (some 2) (.mv (.const (.bool true))) none []]
def l37:AFn :=
  (AFn.mk 15 1 (.seq (.reg l37r0) (.seq (.seq (.reg l37r1) (.block 0 (.loop (.seq (.reg l37r2) (.seq (.cond (.tmp 8) .skip (.exit 0)) (.seq (.block 1 (.seq (.reg l37r3) (.seq (.reg l37r4) (.cond (.tmp 13) (.seq (.reg l37r5) .ret) .skip)))) (.reg l37r6))))))) (.seq (.reg l37r7) .ret))) [.tmp 2])
theorem l37_eq:lowFn Try.prog 37=some l37:=by kernel_rfl
def l38r0:List AOper :=
  [.mk (some 0) (.alloc [.int .i64 0,.int .i64 0,.int .i64 0,.int .i64 0,.int .i64 0]) none []]
def l38r1:List AOper :=
  [.mk (some 1) (.alloc [.int .i64 0,.int .i64 0,.int .i64 0,.int .i64 0,.int .i64 0]) none []]
def l38r2:List AOper :=
  [.mk (some 3) (.mv (.const (.int .i64 0))) none []]
def l38r3:List AOper :=
  [.mk (some 4) (.bin .lss (.tmp 3) (.const (.int .i64 5))) none []]
def l38r4:List AOper :=
  [.mk (some 5) (.mv (.tmp 3)) none [],.mk (some 2) (.mv (.tmp 5)) none [0,0]]
def l38r5:List AOper :=
  [.mk (some 6) (.mv (.tmp 2)) none [],.mk (some 7) (.idxP 1 5 (.tmp 1) (.tmp 6)) none [0,0],.mk none (.store 1 (.tmp 7) (.const (.int .i64 (-1)))) none [1,0]]
def l38r6:List AOper :=
  [.mk (some 8) (.bin .add (.tmp 3) (.const (.int .i64 1))) none [],.mk (some 3) (.mv (.tmp 8)) none [0]]
def l38r7:List AOper :=
  [.mk (some 9) (.load true 5 (.tmp 1)) none [],.mk none (.store 5 (.tmp 0) (.tmp 9)) none [0,0]]
def l38:AFn :=
  (AFn.mk 10 0 (.seq (.reg l38r0) (.seq (.reg l38r1) (.seq (.seq (.reg l38r2) (.block 0 (.loop (.seq (.reg l38r3) (.seq (.cond (.tmp 4) .skip (.exit 0)) (.seq (.block 1 (.seq (.reg l38r4) (.reg l38r5))) (.reg l38r6))))))) (.seq (.reg l38r7) .ret)))) [.cell 0 true 5])
theorem l38_eq:lowFn Try.prog 38=some l38:=by kernel_rfl
def l39r0:List AOper :=
  [.mk (some 4) (.alloc [.int .i64 0,.int .i64 0,.int .i64 0,.int .i64 0,.int .i64 0]) none [],.mk (some 5) (.mv (.const (.bool false))) none []]
def l39r1:List AOper :=
  [.mk (some 11) (.call 38 []) none [],.mk (some 6) (.alloc [.int .i64 0,.int .i64 0,.int .i64 0,.int .i64 0,.int .i64 0]) none [],.mk none (.store 5 (.tmp 6) (.tmp 11)) none [1,0,0,0,1]]
def l39r2:List AOper :=
  [.mk (some 12) (.mv (.tmp 0)) none [],.mk (some 13) (.len (.tmp 12)) none [0],.mk (some 14) (.mv (.const (.int .i64 0))) none []]
def l39r3:List AOper :=
  [.mk (some 15) (.bin .lss (.tmp 14) (.tmp 13)) none []]
def l39r4:List AOper :=
  [.mk (some 16) (.mv (.tmp 14)) none [],.mk (some 17) (.idxA 2 (.tmp 12) (.tmp 14)) none [],.mk (some 18) (.load true 2 (.tmp 17)) none [1],.mk (some 8) (.alloc [.slice none 0 0,.slice none 0 0]) none [],.mk (some 7) (.mv (.tmp 16)) none [0,0,1,2,3],.mk none (.store 2 (.tmp 8) (.tmp 18)) none [3,2,4,0,1,2,3,4]]
def l39r5a:List AOper :=
  [.mk (some 19) (.load true 2 (.tmp 8)) none [],.mk (some 20) (.call 16 [.tmp 19]) none [0],.mk (some 21) (.un .not (.tmp 20)) none [1],.mk (some 22) (.mv (.tmp 21)) none [2,1],.mk (some 23) (.mv (.tmp 1)) (some (22,false)) [3],.mk (some 24) (.mv (.tmp 7)) (some (22,false)) [3],.mk (some 25) (.idxA 1 (.tmp 23) (.tmp 24)) (some (22,false)) [4,5,3],.mk (some 26) (.load false 1 (.tmp 25)) (some (22,false)) [6,3],.mk (some 27) (.len (.tmp 26)) (some (22,false)) [7,3],.mk (some 28) (.fld 0 (.tmp 8)) (some (22,false)) [3],.mk (some 29) (.load false 1 (.tmp 28)) (some (22,false)) [9,3],.mk (some 30) (.len (.tmp 29)) (some (22,false)) [10,3],.mk (some 31) (.bin .neq (.tmp 27) (.tmp 30)) (some (22,false)) [8,11,3],.mk (some 32) (.pick (.tmp 22) (.const (.bool true)) (.tmp 31)) none [3,12],.mk (some 33) (.mv (.tmp 32)) none [13,3],.mk (some 34) (.mv (.tmp 1)) (some (33,false)) [14],.mk (some 35) (.mv (.tmp 7)) (some (33,false)) [14]]
def l39r5b:List AOper :=
  [.mk (some 36) (.idxA 1 (.tmp 34) (.tmp 35)) (some (33,false)) [15,16,14],.mk (some 37) (.load false 1 (.tmp 36)) (some (33,false)) [17,14],.mk (some 38) (.call 37 [.tmp 37]) (some (33,false)) [18,14,14],.mk (some 39) (.un .not (.tmp 38)) (some (33,false)) [19,14],.mk (some 40) (.pick (.tmp 33) (.const (.bool true)) (.tmp 39)) none [14,20]]
def l39r5:List AOper:=l39r5a ++ l39r5b
def l39r6:List AOper :=
  [.mk (some 41) (.load true 5 (.tmp 6)) none [],.mk none (.store 5 (.tmp 4) (.tmp 41)) none [0,0],.mk (some 5) (.mv (.const (.bool false))) none [1,0,1]]
def l39r7:List AOper :=
  [.mk (some 42) (.mv (.tmp 1)) none [],.mk (some 43) (.mv (.tmp 7)) none [],.mk (some 44) (.idxA 1 (.tmp 42) (.tmp 43)) none [0,1],.mk (some 45) (.load false 1 (.tmp 44)) none [2],.mk (some 46) (.len (.tmp 45)) none [3],.mk (some 47) (.mv (.const (.int .i64 0))) none []]
def l39r8:List AOper :=
  [.mk (some 48) (.bin .lss (.tmp 47) (.tmp 46)) none []]
def l39r9:List AOper :=
  [.mk (some 49) (.mv (.tmp 47)) none [],.mk (some 50) (.idxA 1 (.tmp 45) (.tmp 47)) none [],.mk (some 51) (.load false 1 (.tmp 50)) none [1],.mk (some 9) (.mv (.tmp 49)) none [0,0,1,2],.mk (some 10) (.mv (.tmp 51)) none [2,3,0,1,2,3]]
def l39r10a:List AOper :=
  [.mk (some 52) (.mv (.tmp 10)) none [],.mk (some 53) (.idxP 1 5 (.tmp 6) (.tmp 52)) none [0],.mk (some 54) (.load false 1 (.tmp 53)) none [1],.mk (some 55) (.bin .geq (.tmp 54) (.const (.int .i64 0))) none [2],.mk (some 56) (.mv (.tmp 55)) none [3],.mk (some 57) (.mv (.tmp 10)) (some (56,true)) [4],.mk (some 58) (.idxP 1 5 (.tmp 6) (.tmp 57)) (some (56,true)) [5,4],.mk (some 59) (.load false 1 (.tmp 58)) (some (56,true)) [6,4],.mk (some 60) (.fld 0 (.tmp 8)) (some (56,true)) [4],.mk (some 61) (.load false 1 (.tmp 60)) (some (56,true)) [8,4],.mk (some 62) (.mv (.tmp 9)) (some (56,true)) [4],.mk (some 63) (.idxA 1 (.tmp 61) (.tmp 62)) (some (56,true)) [9,10,4],.mk (some 64) (.load false 1 (.tmp 63)) (some (56,true)) [11,4]]
def l39r10b:List AOper :=
  [.mk (some 65) (.bin .neq (.tmp 59) (.tmp 64)) (some (56,true)) [7,12,4],.mk (some 66) (.pick (.tmp 56) (.tmp 65) (.const (.bool false))) none [4,13]]
def l39r10:List AOper:=l39r10a ++ l39r10b
def l39r11:List AOper :=
  [.mk (some 67) (.load true 5 (.tmp 6)) none [],.mk none (.store 5 (.tmp 4) (.tmp 67)) none [0,0],.mk (some 5) (.mv (.const (.bool false))) none [1,0,1]]
def l39r12:List AOper :=
  [.mk (some 68) (.mv (.tmp 10)) none [],.mk (some 69) (.fld 0 (.tmp 8)) none [],.mk (some 70) (.load false 1 (.tmp 69)) none [1],.mk (some 71) (.mv (.tmp 9)) none [],.mk (some 72) (.idxA 1 (.tmp 70) (.tmp 71)) none [2,3],.mk (some 73) (.load false 1 (.tmp 72)) none [4],.mk (some 74) (.idxP 1 5 (.tmp 6) (.tmp 68)) none [0,0,1,2,3,4,5],.mk none (.store 1 (.tmp 74) (.tmp 73)) none [6,5,0,1,2,3,4,5]]
def l39r13:List AOper :=
  [.mk (some 75) (.bin .add (.tmp 47) (.const (.int .i64 1))) none [],.mk (some 47) (.mv (.tmp 75)) none [0]]
def l39r14:List AOper :=
  [.mk (some 76) (.bin .add (.tmp 14) (.const (.int .i64 1))) none [],.mk (some 14) (.mv (.tmp 76)) none [0]]
def l39r15:List AOper :=
  [.mk (some 77) (.load true 5 (.tmp 6)) none [],.mk none (.store 5 (.tmp 4) (.tmp 77)) none [0,0],.mk (some 5) (.mv (.const (.bool true))) none [1,0,1]]
def l39:AFn :=
  (AFn.mk 78 2 (.seq (.reg l39r0) (.seq (.reg l39r1) (.seq (.seq (.reg l39r2) (.block 0 (.loop (.seq (.reg l39r3) (.seq (.cond (.tmp 15) .skip (.exit 0)) (.seq (.block 1 (.seq (.reg l39r4) (.seq (.seq (.draw l39r5) (.cond (.tmp 40) (.seq (.reg l39r6) .ret) .skip)) (.seq (.reg l39r7) (.block 2 (.loop (.seq (.reg l39r8) (.seq (.cond (.tmp 48) .skip (.exit 2)) (.seq (.block 3 (.seq (.reg l39r9) (.seq (.seq (.draw l39r10) (.cond (.tmp 66) (.seq (.reg l39r11) .ret) .skip)) (.reg l39r12)))) (.reg l39r13)))))))))) (.reg l39r14))))))) (.seq (.reg l39r15) .ret)))) [.cell 4 true 5,.tmp 5])
theorem l39_eq:lowFn Try.prog 39=some l39:=by kernel_rfl
def l40r0:List AOper :=
  [.mk (some 4) (.mv (.const (.bool false))) none []]
def l40r1:List AOper :=
  [.mk (some 5) (.mv (.tmp 0)) none [],.mk (some 6) (.bin .leq (.const (.int .i64 0)) (.tmp 5)) none [0],.mk (some 7) (.mv (.tmp 6)) none [1],.mk (some 8) (.mv (.tmp 0)) (some (7,true)) [2],.mk (some 9) (.mv (.tmp 1)) (some (7,true)) [2],.mk (some 10) (.bin .leq (.tmp 8) (.tmp 9)) (some (7,true)) [3,4,2],.mk (some 11) (.pick (.tmp 7) (.tmp 10) (.const (.bool false))) none [2,5],.mk (some 4) (.mv (.tmp 11)) none [6,2,0,1,2,3,4,5,6]]
def l40:AFn :=
  (AFn.mk 12 2 (.seq (.reg l40r0) (.seq (.reg l40r1) .ret)) [.tmp 4])
theorem l40_eq:lowFn Try.prog 40=some l40:=by kernel_rfl
def l41r0:List AOper :=
  [.mk (some 2) (.box (.tmp 0)) none [],.mk (some 4) (.alloc [.slice none 0 0,.slice none 0 0,.int .i64 0,.int .i64 0,.int .i64 0,.int .i64 0,.int .i64 0]) none []]
def l41r1a:List AOper :=
  [.mk (some 8) (.fld 1 (.tmp 2)) none [],.mk (some 9) (.load false 1 (.tmp 8)) none [0],.mk (some 10) (.mv (.tmp 1)) none [],.mk (some 11) (.bslice 1 [.slice none 0 0] [(0,.tmp 10)] 1) none [2],.mk (some 12) (.call 21 [.tmp 11]) none [3],.mk (some 13) (.build [.slice none 0 0,.slice none 0 0,.int .i64 0,.int .i64 0,.int .i64 0,.int .i64 0,.int .i64 0] [(0,1,.tmp 9),(1,1,.tmp 12)]) none [1,4],.mk (some 5) (.alloc [.slice none 0 0,.slice none 0 0,.int .i64 0,.int .i64 0,.int .i64 0,.int .i64 0,.int .i64 0]) none []]
def l41r1b:List AOper :=
  [.mk none (.store 7 (.tmp 5) (.tmp 13)) none [6,5,4,0,1,2,3,4,5,6]]
def l41r1:List AOper:=l41r1a ++ l41r1b
def l41r2:List AOper :=
  [.mk (some 14) (.fld 0 (.tmp 2)) none [],.mk (some 15) (.load false 1 (.tmp 14)) none [0],.mk (some 16) (.call 56 [.tmp 15]) none [1],.mk (some 17) (.len (.tmp 16)) none [2],.mk (some 18) (.mv (.const (.int .i64 0))) none []]
def l41r3:List AOper :=
  [.mk (some 19) (.bin .lss (.tmp 18) (.tmp 17)) none []]
def l41r4:List AOper :=
  [.mk (some 20) (.mv (.tmp 18)) none [],.mk (some 21) (.idxA 1 (.tmp 16) (.tmp 18)) none [],.mk (some 22) (.load false 1 (.tmp 21)) none [1],.mk (some 6) (.mv (.tmp 20)) none [0,0,1,2],.mk (some 7) (.mv (.tmp 22)) none [2,3,0,1,2,3]]
def l41r5:List AOper :=
  [.mk (some 23) (.mv (.tmp 1)) none [],.mk (some 24) (.mv (.tmp 6)) none [],.mk (some 25) (.idxA 1 (.tmp 23) (.tmp 24)) none [0,1],.mk (some 26) (.load false 1 (.tmp 25)) none [2],.mk (some 27) (.fld 2 (.tmp 5)) none [],.mk (some 28) (.idxP 1 5 (.tmp 27) (.tmp 26)) none [4,3],.mk (some 29) (.load false 1 (.tmp 28)) none [5],.mk (some 30) (.mv (.tmp 7)) none [],.mk (some 31) (.bin .add (.tmp 29) (.tmp 30)) none [6,7],.mk (some 32) (.fld 2 (.tmp 5)) none [],.mk (some 33) (.idxP 1 5 (.tmp 32) (.tmp 26)) none [9,3,0,1,2,3,4,5,6,7,8],.mk none (.store 1 (.tmp 33) (.tmp 31)) none [10,8,0,1,2,3,4,5,6,7,8]]
def l41r6:List AOper :=
  [.mk (some 34) (.bin .add (.tmp 18) (.const (.int .i64 1))) none [],.mk (some 18) (.mv (.tmp 34)) none [0]]
def l41r7:List AOper :=
  [.mk (some 35) (.load true 7 (.tmp 5)) none [],.mk none (.store 7 (.tmp 4) (.tmp 35)) none [0,0]]
def l41:AFn :=
  (AFn.mk 36 2 (.seq (.reg l41r0) (.seq (.draw l41r1) (.seq (.seq (.reg l41r2) (.block 0 (.loop (.seq (.reg l41r3) (.seq (.cond (.tmp 19) .skip (.exit 0)) (.seq (.block 1 (.seq (.reg l41r4) (.reg l41r5))) (.reg l41r6))))))) (.seq (.reg l41r7) .ret)))) [.cell 4 true 7])
theorem l41_eq:lowFn Try.prog 41=some l41:=by kernel_rfl
def l42r0:List AOper :=
  [.mk (some 2) (.box (.tmp 0)) none [],.mk (some 3) (.box (.tmp 1)) none [],.mk (some 4) (.mv (.const (.int .i64 0))) none []]
def l42r1a:List AOper :=
  [.mk (some 5) (.fld 0 (.tmp 2)) none [],.mk (some 6) (.load false 1 (.tmp 5)) none [0],.mk (some 7) (.fld 1 (.tmp 2)) none [],.mk (some 8) (.load false 1 (.tmp 7)) none [2],.mk (some 9) (.load true 5 (.tmp 3)) none [],.mk (some 10) (.mkfn (Fn.func 58) [.tmp 9] []) none [4],.mk (some 11) (.fld 2 (.tmp 2)) none [],.mk (some 12) (.load true 5 (.tmp 11)) none [6],.mk (some 13) (.mkfn (Fn.func 58) [.tmp 12] []) none [7],.mk (some 14) (.bslice 1 [.nilFunc] [(0,.tmp 10),(1,.tmp 13)] 2) none [5,8],.mk (some 15) (.call 57 [.tmp 8,.tmp 14]) none [3,9]]
def l42r1b:List AOper :=
  [.mk (some 16) (.idxA 1 (.tmp 6) (.tmp 15)) none [1,10],.mk (some 17) (.load false 1 (.tmp 16)) none [11],.mk (some 4) (.mv (.tmp 17)) none [12,10,0,1,2,3,4,5,6,7,8,9,10,11,12]]
def l42r1:List AOper:=l42r1a ++ l42r1b
def l42:AFn :=
  (AFn.mk 18 2 (.seq (.reg l42r0) (.seq (.draw l42r1) .ret)) [.tmp 4])
theorem l42_eq:lowFn Try.prog 42=some l42:=by kernel_rfl
def l43r0:List AOper :=
  [.mk (some 4) (.mv (.const (.slice none 0 0))) none []]
def l43r1:List AOper :=
  [.mk (some 5) (.mv (.const (.slice none 0 0))) none []]
def l43r2:List AOper :=
  [.mk (some 8) (.mv (.tmp 0)) none [],.mk (some 9) (.len (.tmp 8)) none [0],.mk (some 10) (.mv (.const (.int .i64 0))) none []]
def l43r3:List AOper :=
  [.mk (some 11) (.bin .lss (.tmp 10) (.tmp 9)) none []]
def l43r4:List AOper :=
  [.mk (some 12) (.idxA 1 (.tmp 8) (.tmp 10)) none [],.mk (some 13) (.load false 1 (.tmp 12)) none [0],.mk (some 7) (.mv (.tmp 13)) none [1,0,1]]
def l43r5:List AOper :=
  [.mk (some 14) (.mv (.tmp 1)) none [],.mk (some 15) (.mv (.tmp 7)) none [],.mk (some 16) (.call 34 [.tmp 14,.tmp 15]) none [0,1],.mk (some 17) (.un .not (.tmp 16)) none [2]]
def l43r6:List AOper :=
  [.mk (some 18) (.mv (.tmp 5)) none [],.mk (some 19) (.mv (.tmp 7)) none [],.mk (some 20) (.bslice 1 [.int .i64 0] [(0,.tmp 19)] 1) none [1],.mk (some 21) (.append 1 (.tmp 18) (.tmp 20)) none [0,2],.mk (some 5) (.mv (.tmp 21)) none [3,3,0,1,2,3]]
def l43r7:List AOper :=
  [.mk (some 22) (.bin .add (.tmp 10) (.const (.int .i64 1))) none [],.mk (some 10) (.mv (.tmp 22)) none [0]]
def l43r8:List AOper :=
  [.mk (some 23) (.mv (.tmp 5)) none [],.mk (some 4) (.mv (.tmp 23)) none [0,0]]
def l43:AFn :=
  (AFn.mk 24 2 (.seq (.reg l43r0) (.seq (.reg l43r1) (.seq (.seq (.reg l43r2) (.block 0 (.loop (.seq (.reg l43r3) (.seq (.cond (.tmp 11) .skip (.exit 0)) (.seq (.block 1 (.seq (.reg l43r4) (.seq (.reg l43r5) (.cond (.tmp 17) (.reg l43r6) .skip)))) (.reg l43r7))))))) (.seq (.reg l43r8) .ret)))) [.tmp 4])
theorem l43_eq:lowFn Try.prog 43=some l43:=by kernel_rfl
def l44r0:List AOper :=
  [.mk (some 3) (.box (.tmp 0)) none [],.mk (some 5) (.box (.tmp 2)) none [],.mk (some 6) (.mv (.const (.slice none 0 0))) none []]
def l44r1:List AOper :=
  [.mk (some 12) (.load true 5 (.tmp 3)) none [],.mk (some 13) (.mv (.tmp 1)) none [],.mk (some 14) (.call 23 [.tmp 12,.tmp 13]) none [0,1],.mk (some 15) (.call 32 [.tmp 14]) none [2,2],.mk (some 16) (.mkslice 5 [.int .i64 0,.int .i64 0,.int .i64 0,.int .i64 0,.int .i64 0] (.tmp 15) (.tmp 15)) none [3,3],.mk (some 7) (.alloc [.slice none 0 0]) none [],.mk none (.store 1 (.tmp 7) (.tmp 16)) none [5,4,3,0,1,2,3,4,5]]
def l44r2:List AOper :=
  [.mk (some 17) (.load false 1 (.tmp 7)) none [],.mk (some 18) (.len (.tmp 17)) none [0],.mk (some 19) (.mv (.const (.int .i64 0))) none []]
def l44r3:List AOper :=
  [.mk (some 20) (.bin .lss (.tmp 19) (.tmp 18)) none []]
def l44r4:List AOper :=
  [.mk (some 21) (.mv (.tmp 19)) none [],.mk (some 8) (.alloc [.int .i64 0]) none [],.mk none (.store 1 (.tmp 8) (.tmp 21)) none [1,0,0,1]]
def l44r5:List AOper :=
  [.mk (some 22) (.load false 1 (.tmp 7)) none [],.mk (some 23) (.load false 1 (.tmp 8)) none [],.mk (some 24) (.load true 5 (.tmp 5)) none [],.mk (some 25) (.idxA 5 (.tmp 22) (.tmp 23)) none [0,1,0,1,2],.mk none (.store 5 (.tmp 25) (.tmp 24)) none [3,2,0,1,2]]
def l44r6:List AOper :=
  [.mk (some 26) (.load false 1 (.tmp 8)) none [],.mk (some 9) (.alloc [.int .i64 0]) none [],.mk none (.store 1 (.tmp 9) (.tmp 26)) none [1,0,0,1]]
def l44r7:List AOper :=
  [.mk (some 27) (.mv (.tmp 1)) none [],.mk (some 28) (.call 59 [.tmp 27]) none [0]]
def l44r8:List AOper :=
  [.mk (some 11) (.mv (.tmp 30)) none []]
def l44r9a:List AOper :=
  [.mk (some 31) (.load false 1 (.tmp 7)) none [],.mk (some 32) (.load false 1 (.tmp 8)) none [],.mk (some 33) (.mv (.tmp 11)) none [],.mk (some 34) (.load false 1 (.tmp 9)) none [],.mk (some 35) (.mv (.tmp 11)) none [],.mk (some 36) (.idxP 1 5 (.tmp 3) (.tmp 35)) none [4],.mk (some 37) (.load false 1 (.tmp 36)) none [5],.mk (some 38) (.bin .rem (.tmp 34) (.tmp 37)) none [3,6],.mk (some 39) (.idxA 5 (.tmp 31) (.tmp 32)) none [0,1]]
def l44r9b:List AOper :=
  [.mk (some 40) (.idxP 1 5 (.tmp 39) (.tmp 33)) none [8,2,0,1,2,3,4,5,6,7],.mk none (.store 1 (.tmp 40) (.tmp 38)) none [9,7,0,1,2,3,4,5,6,7]]
def l44r9:List AOper:=l44r9a ++ l44r9b
def l44r10a:List AOper :=
  [.mk (some 41) (.load false 1 (.tmp 9)) none [],.mk (some 42) (.mv (.tmp 11)) none [],.mk (some 43) (.idxP 1 5 (.tmp 3) (.tmp 42)) none [1],.mk (some 44) (.load false 1 (.tmp 43)) none [2]]
def l44r10b:List AOper :=
  [.mk (some 45) (.bin .quo (.tmp 41) (.tmp 44)) none [0,3],.mk none (.store 1 (.tmp 9) (.tmp 45)) none [4,0,1,2,3,4]]
def l44r10:List AOper:=l44r10a ++ l44r10b
def l44r11:List AOper :=
  [.mk (some 46) (.bin .add (.tmp 19) (.const (.int .i64 1))) none [],.mk (some 19) (.mv (.tmp 46)) none [0]]
def l44r12:List AOper :=
  [.mk (some 47) (.load false 1 (.tmp 7)) none [],.mk (some 6) (.mv (.tmp 47)) none [0,0]]
def l44:AFn :=
  (AFn.mk 48 3 (.seq (.reg l44r0) (.seq (.reg l44r1) (.seq (.seq (.reg l44r2) (.block 0 (.loop (.seq (.reg l44r3) (.seq (.cond (.tmp 20) .skip (.exit 0)) (.seq (.block 1 (.seq (.reg l44r4) (.seq (.reg l44r5) (.seq (.reg l44r6) (.seq (.reg l44r7) (.block 2 (.rf (.tmp 28) [29,30] (.reg l44r8) (.block 3 (.seq (.draw l44r9) (.draw l44r10)))))))))) (.reg l44r11))))))) (.seq (.reg l44r12) .ret)))) [.tmp 6])
theorem l44_eq:lowFn Try.prog 44=some l44:=by kernel_rfl
def l45r0:List AOper :=
  [.mk (some 4) (.mv (.const (.int .i64 0))) none []]
def l45r1:List AOper :=
  [.mk (some 5) (.mv (.const (.int .i64 0))) none []]
def l45r2:List AOper :=
  [.mk (some 11) (.mv (.tmp 0)) none [],.mk (some 12) (.len (.tmp 11)) none [0],.mk (some 13) (.mv (.const (.int .i64 0))) none []]
def l45r3:List AOper :=
  [.mk (some 14) (.bin .lss (.tmp 13) (.tmp 12)) none []]
def l45r4:List AOper :=
  [.mk (some 15) (.idxA 5 (.tmp 11) (.tmp 13)) none [],.mk (some 16) (.load true 5 (.tmp 15)) none [0],.mk (some 7) (.alloc [.int .i64 0,.int .i64 0,.int .i64 0,.int .i64 0,.int .i64 0]) none [],.mk none (.store 5 (.tmp 7) (.tmp 16)) none [2,1,0,1,2]]
def l45r5:List AOper :=
  [.mk (some 8) (.mv (.const (.int .i64 1))) none []]
def l45r6:List AOper :=
  [.mk (some 17) (.mv (.tmp 1)) none [],.mk (some 18) (.len (.tmp 17)) none [0],.mk (some 19) (.mv (.const (.int .i64 0))) none []]
def l45r7:List AOper :=
  [.mk (some 20) (.bin .lss (.tmp 19) (.tmp 18)) none []]
def l45r8:List AOper :=
  [.mk (some 21) (.idxA 1 (.tmp 17) (.tmp 19)) none [],.mk (some 22) (.load false 1 (.tmp 21)) none [0],.mk (some 10) (.mv (.tmp 22)) none [1,0,1]]
def l45r9:List AOper :=
  [.mk (some 23) (.mv (.tmp 8)) none [],.mk (some 24) (.mv (.tmp 10)) none [],.mk (some 25) (.load true 5 (.tmp 7)) none [],.mk (some 26) (.raw (Op.call (Call.mk (Callee.value (.tmp 24)) (Array.mk [.tmp 25]) (Array.mk [49])))) none [1,2],.mk (some 27) (.bin .mul (.tmp 23) (.tmp 26)) none [0,3],.mk (some 8) (.mv (.tmp 27)) none [4,3,0,1,2,3,4]]
def l45r10:List AOper :=
  [.mk (some 28) (.bin .add (.tmp 19) (.const (.int .i64 1))) none [],.mk (some 19) (.mv (.tmp 28)) none [0]]
def l45r11:List AOper :=
  [.mk (some 29) (.mv (.tmp 5)) none [],.mk (some 30) (.mv (.tmp 8)) none [],.mk (some 31) (.bin .add (.tmp 29) (.tmp 30)) none [0,1],.mk (some 5) (.mv (.tmp 31)) none [2,0,1,2]]
def l45r12:List AOper :=
  [.mk (some 32) (.bin .add (.tmp 13) (.const (.int .i64 1))) none [],.mk (some 13) (.mv (.tmp 32)) none [0]]
def l45r13:List AOper :=
  [.mk (some 33) (.mv (.tmp 5)) none [],.mk (some 4) (.mv (.tmp 33)) none [0,0]]
def l45:AFn :=
  (AFn.mk 34 2 (.seq (.reg l45r0) (.seq (.reg l45r1) (.seq (.seq (.reg l45r2) (.block 0 (.loop (.seq (.reg l45r3) (.seq (.cond (.tmp 14) .skip (.exit 0)) (.seq (.block 1 (.seq (.reg l45r4) (.seq (.reg l45r5) (.seq (.seq (.reg l45r6) (.block 2 (.loop (.seq (.reg l45r7) (.seq (.cond (.tmp 20) .skip (.exit 2)) (.seq (.block 3 (.seq (.reg l45r8) (.reg l45r9))) (.reg l45r10))))))) (.reg l45r11))))) (.reg l45r12))))))) (.seq (.reg l45r13) .ret)))) [.tmp 4])
theorem l45_eq:lowFn Try.prog 45=some l45:=by kernel_rfl
def l46r0:List AOper :=
  [.mk (some 2) (.mv (.const (.slice none 0 0))) none []]
def l46r1:List AOper :=
  [.mk (some 3) (.bslice 1 [.int .i64 0] [] 0) none [],.mk (some 4) (.mv (.tmp 0)) none [],.mk (some 5) (.append 1 (.tmp 3) (.tmp 4)) none [0,1],.mk (some 2) (.mv (.tmp 5)) none [2,2,0,1,2]]
def l46:AFn :=
  (AFn.mk 6 1 (.seq (.reg l46r0) (.seq (.reg l46r1) .ret)) [.tmp 2])
theorem l46_eq:lowFn Try.prog 46=some l46:=by kernel_rfl
def l47r0:List AOper :=
  [.mk (some 2) (.mv (.const (.int .i64 0))) none []]
def l47r1:List AOper :=
  [.mk (some 3) (.mv (.const (.int .i64 1))) none []]
def l47r2:List AOper :=
  [.mk (some 4) (.mv (.const (.int .i64 0))) none []]
def l47r3:List AOper :=
  [.mk (some 5) (.mv (.tmp 4)) none [],.mk (some 6) (.mv (.tmp 0)) none [],.mk (some 7) (.len (.tmp 6)) none [1],.mk (some 8) (.bin .lss (.tmp 5) (.tmp 7)) none [0,2]]
def l47r4:List AOper :=
  [.mk (some 11) (.mv (.tmp 3)) none [],.mk (some 12) (.mv (.tmp 0)) none [],.mk (some 13) (.mv (.tmp 4)) none [],.mk (some 14) (.idxA 1 (.tmp 12) (.tmp 13)) none [1,2],.mk (some 15) (.load false 1 (.tmp 14)) none [3],.mk (some 16) (.bin .mul (.tmp 11) (.tmp 15)) none [0,4],.mk (some 3) (.mv (.tmp 16)) none [5,0,1,2,3,4,5]]
def l47r5:List AOper :=
  [.mk (some 9) (.mv (.tmp 4)) none [],.mk (some 10) (.bin .add (.tmp 9) (.const (.int .i64 1))) none [0],.mk (some 4) (.mv (.tmp 10)) none [1,0,1]]
def l47r6:List AOper :=
  [.mk (some 17) (.mv (.tmp 3)) none [],.mk (some 2) (.mv (.tmp 17)) none [0,0]]
def l47:AFn :=
  (AFn.mk 18 1 (.seq (.reg l47r0) (.seq (.reg l47r1) (.seq (.seq (.reg l47r2) (.block 0 (.loop (.seq (.seq (.reg l47r3) (.cond (.tmp 8) .skip (.exit 0))) (.seq (.block 1 (.reg l47r4)) (.reg l47r5)))))) (.seq (.reg l47r6) .ret)))) [.tmp 2])
theorem l47_eq:lowFn Try.prog 47=some l47:=by kernel_rfl
def l48r0:List AOper :=
  [.mk (some 2) (.mv (.const (.slice none 0 0))) none []]
def l48r1:List AOper :=
  [.mk (some 6) (.bslice 1 [.int .i64 0] [] 0) none [],.mk (some 3) (.mv (.tmp 6)) none [0,0]]
def l48r2:List AOper :=
  [.mk (some 7) (.mv (.tmp 0)) none [],.mk (some 8) (.bslice 1 [.int .i64 0] [(0,.const (.int .i64 2)),(1,.const (.int .i64 1)),(2,.const (.int .i64 3)),(3,.const (.int .i64 2)),(4,.const (.int .i64 0)),(5,.const (.int .i64 4))] 6) none [],.mk (some 9) (.call 26 [.tmp 7,.tmp 8]) none [0,1],.mk (some 4) (.mv (.tmp 9)) none [2,2,0,1,2]]
def l48r3:List AOper :=
  [.mk (some 10) (.mv (.tmp 4)) none [],.mk (some 11) (.bin .gtr (.tmp 10) (.const (.int .i64 0))) none [0]]
def l48r4:List AOper :=
  [.mk (some 14) (.mv (.tmp 0)) none [],.mk (some 15) (.bslice 1 [.int .i64 0] [(0,.const (.int .i64 2)),(1,.const (.int .i64 3)),(2,.const (.int .i64 1)),(3,.const (.int .i64 4)),(4,.const (.int .i64 2)),(5,.const (.int .i64 3)),(6,.const (.int .i64 5)),(7,.const (.int .i64 0))] 8) none [],.mk (some 16) (.call 26 [.tmp 14,.tmp 15]) none [0,1],.mk (some 5) (.mv (.tmp 16)) none [2,2,0,1,2]]
def l48r5:List AOper :=
  [.mk (some 17) (.mv (.tmp 3)) none [],.mk (some 18) (.call 47 [.tmp 17]) none [0],.mk (some 19) (.mv (.tmp 5)) none [],.mk (some 20) (.bin .mul (.tmp 18) (.tmp 19)) none [1,2],.mk (some 21) (.bin .leq (.tmp 20) (.const (.int .i64 60))) none [3]]
def l48r6:List AOper :=
  [.mk (some 22) (.mv (.tmp 3)) none [],.mk (some 23) (.mv (.tmp 5)) none [],.mk (some 24) (.bslice 1 [.int .i64 0] [(0,.tmp 23)] 1) none [1],.mk (some 25) (.append 1 (.tmp 22) (.tmp 24)) none [0,2],.mk (some 3) (.mv (.tmp 25)) none [3,3,0,1,2,3]]
def l48r7:List AOper :=
  [.mk (some 12) (.mv (.tmp 4)) none [],.mk (some 13) (.bin .sub (.tmp 12) (.const (.int .i64 1))) none [0],.mk (some 4) (.mv (.tmp 13)) none [1,0,1]]
def l48r8:List AOper :=
  [.mk (some 26) (.mv (.tmp 3)) none [],.mk (some 2) (.mv (.tmp 26)) none [0,0]]
def l48:AFn :=
  (AFn.mk 27 1 (.seq (.reg l48r0) (.seq (.reg l48r1) (.seq (.seq (.reg l48r2) (.block 0 (.loop (.seq (.seq (.reg l48r3) (.cond (.tmp 11) .skip (.exit 0))) (.seq (.block 1 (.seq (.reg l48r4) (.seq (.reg l48r5) (.cond (.tmp 21) (.reg l48r6) .skip)))) (.reg l48r7)))))) (.seq (.reg l48r8) .ret)))) [.tmp 2])
theorem l48_eq:lowFn Try.prog 48=some l48:=by kernel_rfl
def l49r0:List AOper :=
  [.mk (some 1) (.box (.tmp 0)) none [],.mk (some 2) (.mv (.const (.bool false))) none []]
def l49r1a:List AOper :=
  [.mk (some 3) (.fld 0 (.tmp 1)) none [],.mk (some 4) (.load false 1 (.tmp 3)) none [0],.mk (some 5) (.call 60 [.tmp 4]) none [1],.mk (some 6) (.mv (.tmp 5)) none [2,2],.mk (some 7) (.fld 1 (.tmp 1)) (some (6,true)) [3],.mk (some 8) (.load false 1 (.tmp 7)) (some (6,true)) [4,3],.mk (some 9) (.len (.tmp 8)) (some (6,true)) [5,3],.mk (some 10) (.fld 0 (.tmp 1)) (some (6,true)) [3],.mk (some 11) (.load false 1 (.tmp 10)) (some (6,true)) [7,3],.mk (some 12) (.call 47 [.tmp 11]) (some (6,true)) [8,3,3]]
def l49r1b:List AOper :=
  [.mk (some 13) (.bin .eql (.tmp 9) (.tmp 12)) (some (6,true)) [6,9,3],.mk (some 14) (.pick (.tmp 6) (.tmp 13) (.const (.bool false))) none [3,10],.mk (some 15) (.mv (.tmp 14)) none [11,9],.mk (some 16) (.fld 1 (.tmp 1)) (some (15,true)) [12],.mk (some 17) (.load false 1 (.tmp 16)) (some (15,true)) [13,12],.mk (some 18) (.call 61 [.tmp 17,.const (.int .i64 (-1000000)),.const (.int .i64 1000000)]) (some (15,true)) [14,12,12],.mk (some 19) (.pick (.tmp 15) (.tmp 18) (.const (.bool false))) none [12,15],.mk (some 2) (.mv (.tmp 19)) none [16,15,0,1,2,3,4,5,6,7,8,9,10,11,12,13,14,15,16]]
def l49r1:List AOper:=l49r1a ++ l49r1b
def l49:AFn :=
  (AFn.mk 20 1 (.seq (.reg l49r0) (.seq (.draw l49r1) .ret)) [.tmp 2])
theorem l49_eq:lowFn Try.prog 49=some l49:=by kernel_rfl
def l50r0:List AOper :=
  [.mk (some 6) (.mv (.const (.bool false))) none []]
def l50r1:List AOper :=
  [.mk (some 7) (.mv (.tmp 1)) none [],.mk (some 8) (.mv (.tmp 0)) none [],.mk (some 9) (.bin .leq (.tmp 7) (.tmp 8)) none [0,1],.mk (some 10) (.mv (.tmp 9)) none [2],.mk (some 11) (.mv (.tmp 0)) (some (10,true)) [3],.mk (some 12) (.mv (.tmp 2)) (some (10,true)) [3],.mk (some 13) (.bin .leq (.tmp 11) (.tmp 12)) (some (10,true)) [4,5,3],.mk (some 14) (.pick (.tmp 10) (.tmp 13) (.const (.bool false))) none [3,6],.mk (some 6) (.mv (.tmp 14)) none [7,3,0,1,2,3,4,5,6,7]]
def l50:AFn :=
  (AFn.mk 15 3 (.seq (.reg l50r0) (.seq (.reg l50r1) .ret)) [.tmp 6])
theorem l50_eq:lowFn Try.prog 50=some l50:=by kernel_rfl
def l51r0:List AOper :=
  [.mk (some 4) (.mv (.const (.slice none 0 0))) none [],.mk (some 5) (.mv (.const (.bool false))) none [0]]
def l51r1:List AOper :=
  [.mk (some 11) (.bslice 1 [.int .i64 0] [] 0) none [],.mk (some 6) (.mv (.tmp 11)) none [0,0]]
def l51r2:List AOper :=
  [.mk (some 7) (.mv (.const (.int .i64 0))) none []]
def l51r3:List AOper :=
  [.mk (some 12) (.mv (.tmp 7)) none [],.mk (some 13) (.bin .leq (.tmp 12) (.const (.int .i64 4))) none [0]]
def l51r4:List AOper :=
  [.mk (some 16) (.mv (.tmp 6)) none [],.mk (some 17) (.bslice 1 [.int .i64 0] [(0,.const (.int .i64 (-1)))] 1) none [],.mk (some 18) (.append 1 (.tmp 16) (.tmp 17)) none [0,1],.mk (some 6) (.mv (.tmp 18)) none [2,2,0,1,2]]
def l51r5:List AOper :=
  [.mk (some 14) (.mv (.tmp 7)) none [],.mk (some 15) (.bin .add (.tmp 14) (.const (.int .i64 1))) none [0],.mk (some 7) (.mv (.tmp 15)) none [1,0,1]]
def l51r6:List AOper :=
  [.mk (some 8) (.mv (.const (.int .i64 0))) none []]
def l51r7:List AOper :=
  [.mk (some 19) (.mv (.tmp 8)) none [],.mk (some 20) (.mv (.tmp 0)) none [],.mk (some 21) (.len (.tmp 20)) none [1],.mk (some 22) (.bin .lss (.tmp 19) (.tmp 21)) none [0,2]]
def l51r8a:List AOper :=
  [.mk (some 25) (.mv (.tmp 1)) none [],.mk (some 26) (.mv (.tmp 8)) none [],.mk (some 27) (.idxA 1 (.tmp 25) (.tmp 26)) none [0,1],.mk (some 28) (.load false 1 (.tmp 27)) none [2],.mk (some 29) (.len (.tmp 28)) none [3],.mk (some 30) (.mv (.tmp 0)) none [],.mk (some 31) (.mv (.tmp 8)) none [],.mk (some 32) (.idxA 2 (.tmp 30) (.tmp 31)) none [5,6],.mk (some 33) (.fld 0 (.tmp 32)) none [7],.mk (some 34) (.load false 1 (.tmp 33)) none [8],.mk (some 35) (.len (.tmp 34)) none [9],.mk (some 36) (.bin .neq (.tmp 29) (.tmp 35)) none [4,10],.mk (some 37) (.mv (.tmp 36)) none [11],.mk (some 38) (.mv (.tmp 1)) (some (37,false)) [12],.mk (some 39) (.mv (.tmp 8)) (some (37,false)) [12]]
def l51r8b:List AOper :=
  [.mk (some 40) (.idxA 1 (.tmp 38) (.tmp 39)) (some (37,false)) [13,14,12],.mk (some 41) (.load false 1 (.tmp 40)) (some (37,false)) [15,12],.mk (some 42) (.call 61 [.tmp 41,.const (.int .i64 0),.const (.int .i64 4)]) (some (37,false)) [16,12,12],.mk (some 43) (.un .not (.tmp 42)) (some (37,false)) [17,12],.mk (some 44) (.pick (.tmp 37) (.const (.bool true)) (.tmp 43)) none [12,18]]
def l51r8:List AOper:=l51r8a ++ l51r8b
def l51r9:List AOper :=
  [.mk (some 4) (.mv (.const (.slice none 0 0))) none [],.mk (some 5) (.mv (.const (.bool false))) none [0,0]]
def l51r10:List AOper :=
  [.mk (some 9) (.mv (.const (.int .i64 0))) none []]
def l51r11:List AOper :=
  [.mk (some 45) (.mv (.tmp 9)) none [],.mk (some 46) (.mv (.tmp 1)) none [],.mk (some 47) (.mv (.tmp 8)) none [],.mk (some 48) (.idxA 1 (.tmp 46) (.tmp 47)) none [1,2],.mk (some 49) (.load false 1 (.tmp 48)) none [3],.mk (some 50) (.len (.tmp 49)) none [4],.mk (some 51) (.bin .lss (.tmp 45) (.tmp 50)) none [0,5]]
def l51r12:List AOper :=
  [.mk (some 54) (.mv (.tmp 1)) none [],.mk (some 55) (.mv (.tmp 8)) none [],.mk (some 56) (.idxA 1 (.tmp 54) (.tmp 55)) none [0,1],.mk (some 57) (.load false 1 (.tmp 56)) none [2],.mk (some 58) (.mv (.tmp 9)) none [],.mk (some 59) (.idxA 1 (.tmp 57) (.tmp 58)) none [3,4],.mk (some 60) (.load false 1 (.tmp 59)) none [5],.mk (some 10) (.mv (.tmp 60)) none [6,0,1,2,3,4,5,6]]
def l51r13a:List AOper :=
  [.mk (some 61) (.mv (.tmp 6)) none [],.mk (some 62) (.mv (.tmp 10)) none [],.mk (some 63) (.idxA 1 (.tmp 61) (.tmp 62)) none [0,1],.mk (some 64) (.load false 1 (.tmp 63)) none [2],.mk (some 65) (.bin .geq (.tmp 64) (.const (.int .i64 0))) none [3],.mk (some 66) (.mv (.tmp 65)) none [4],.mk (some 67) (.mv (.tmp 6)) (some (66,true)) [5],.mk (some 68) (.mv (.tmp 10)) (some (66,true)) [5],.mk (some 69) (.idxA 1 (.tmp 67) (.tmp 68)) (some (66,true)) [6,7,5],.mk (some 70) (.load false 1 (.tmp 69)) (some (66,true)) [8,5],.mk (some 71) (.mv (.tmp 0)) (some (66,true)) [5],.mk (some 72) (.mv (.tmp 8)) (some (66,true)) [5],.mk (some 73) (.idxA 2 (.tmp 71) (.tmp 72)) (some (66,true)) [10,11,5],.mk (some 74) (.fld 0 (.tmp 73)) (some (66,true)) [12,5],.mk (some 75) (.load false 1 (.tmp 74)) (some (66,true)) [13,5],.mk (some 76) (.mv (.tmp 9)) (some (66,true)) [5],.mk (some 77) (.idxA 1 (.tmp 75) (.tmp 76)) (some (66,true)) [14,15,5],.mk (some 78) (.load false 1 (.tmp 77)) (some (66,true)) [16,5]]
def l51r13b:List AOper :=
  [.mk (some 79) (.bin .neq (.tmp 70) (.tmp 78)) (some (66,true)) [9,17,5],.mk (some 80) (.pick (.tmp 66) (.tmp 79) (.const (.bool false))) none [5,18]]
def l51r13:List AOper:=l51r13a ++ l51r13b
def l51r14:List AOper :=
  [.mk (some 4) (.mv (.const (.slice none 0 0))) none [],.mk (some 5) (.mv (.const (.bool false))) none [0,0]]
def l51r15:List AOper :=
  [.mk (some 81) (.mv (.tmp 6)) none [],.mk (some 82) (.mv (.tmp 10)) none [],.mk (some 83) (.mv (.tmp 0)) none [],.mk (some 84) (.mv (.tmp 8)) none [],.mk (some 85) (.idxA 2 (.tmp 83) (.tmp 84)) none [2,3],.mk (some 86) (.fld 0 (.tmp 85)) none [4],.mk (some 87) (.load false 1 (.tmp 86)) none [5],.mk (some 88) (.mv (.tmp 9)) none [],.mk (some 89) (.idxA 1 (.tmp 87) (.tmp 88)) none [6,7],.mk (some 90) (.load false 1 (.tmp 89)) none [8],.mk (some 91) (.idxA 1 (.tmp 81) (.tmp 82)) none [0,1,0,1,2,3,4,5,6,7,8,9],.mk none (.store 1 (.tmp 91) (.tmp 90)) none [10,9,0,1,2,3,4,5,6,7,8,9]]
def l51r16:List AOper :=
  [.mk (some 52) (.mv (.tmp 9)) none [],.mk (some 53) (.bin .add (.tmp 52) (.const (.int .i64 1))) none [0],.mk (some 9) (.mv (.tmp 53)) none [1,0,1]]
def l51r17:List AOper :=
  [.mk (some 23) (.mv (.tmp 8)) none [],.mk (some 24) (.bin .add (.tmp 23) (.const (.int .i64 1))) none [0],.mk (some 8) (.mv (.tmp 24)) none [1,0,1]]
def l51r18:List AOper :=
  [.mk (some 92) (.mv (.tmp 6)) none [],.mk (some 4) (.mv (.tmp 92)) none [0,0],.mk (some 5) (.mv (.const (.bool true))) none [1,0,1]]
def l51:AFn :=
  (AFn.mk 93 2 (.seq (.reg l51r0) (.seq (.reg l51r1) (.seq (.seq (.reg l51r2) (.block 0 (.loop (.seq (.seq (.reg l51r3) (.cond (.tmp 13) .skip (.exit 0))) (.seq (.block 1 (.reg l51r4)) (.reg l51r5)))))) (.seq (.seq (.reg l51r6) (.block 2 (.loop (.seq (.seq (.reg l51r7) (.cond (.tmp 22) .skip (.exit 2))) (.seq (.block 3 (.seq (.seq (.draw l51r8) (.cond (.tmp 44) (.seq (.reg l51r9) .ret) .skip)) (.seq (.reg l51r10) (.block 4 (.loop (.seq (.seq (.reg l51r11) (.cond (.tmp 51) .skip (.exit 4))) (.seq (.block 5 (.seq (.reg l51r12) (.seq (.seq (.draw l51r13) (.cond (.tmp 80) (.seq (.reg l51r14) .ret) .skip)) (.reg l51r15)))) (.reg l51r16)))))))) (.reg l51r17)))))) (.seq (.reg l51r18) .ret))))) [.tmp 4,.tmp 5])
theorem l51_eq:lowFn Try.prog 51=some l51:=by kernel_rfl
def l52r0:List AOper :=
  [.mk (some 4) (.mv (.const (.bool false))) none []]
def l52r1:List AOper :=
  [.mk (some 5) (.mv (.tmp 0)) none [],.mk (some 6) (.call 61 [.tmp 5,.const (.int .i64 0),.const (.int .i64 4)]) none [0],.mk (some 7) (.mv (.tmp 6)) none [1,1],.mk (some 8) (.mv (.tmp 0)) (some (7,true)) [2],.mk (some 9) (.call 62 [.tmp 8]) (some (7,true)) [3,2,2],.mk (some 10) (.pick (.tmp 7) (.tmp 9) (.const (.bool false))) none [2,4],.mk (some 11) (.mv (.tmp 10)) none [5,4],.mk (some 12) (.mv (.tmp 1)) (some (11,true)) [6],.mk (some 13) (.mv (.tmp 0)) (some (11,true)) [6],.mk (some 14) (.call 63 [.tmp 12,.tmp 13]) (some (11,true)) [7,8,6,6],.mk (some 15) (.call 61 [.tmp 14,.const (.int .i64 0),.const (.int .i64 60)]) (some (11,true)) [9,9,6],.mk (some 16) (.pick (.tmp 11) (.tmp 15) (.const (.bool false))) none [6,10],.mk (some 17) (.mv (.tmp 16)) none [11,10],.mk (some 18) (.mv (.tmp 1)) (some (17,true)) [12],.mk (some 19) (.mv (.tmp 0)) (some (17,true)) [12],.mk (some 20) (.call 63 [.tmp 18,.tmp 19]) (some (17,true)) [13,14,12,12],.mk (some 21) (.call 60 [.tmp 20]) (some (17,true)) [15,15,12],.mk (some 22) (.pick (.tmp 17) (.tmp 21) (.const (.bool false))) none [12,16],.mk (some 4) (.mv (.tmp 22)) none [17,16,0,1,2,3,4,5,6,7,8,9,10,11,12,13,14,15,16,17]]
def l52:AFn :=
  (AFn.mk 23 2 (.seq (.reg l52r0) (.seq (.reg l52r1) .ret)) [.tmp 4])
theorem l52_eq:lowFn Try.prog 52=some l52:=by kernel_rfl
def l53r0:List AOper :=
  [.mk (some 2) (.mv (.const (.slice none 0 0))) none [],.mk (some 3) (.mv (.const (.int .i64 0))) none [0]]
def l53r1:List AOper :=
  [.mk (some 8) (.bslice 1 [.int .i64 0] [] 0) none [],.mk (some 4) (.mv (.tmp 8)) none [0,0]]
def l53r2:List AOper :=
  [.mk (some 5) (.mv (.const (.int .i64 1))) none []]
def l53r3:List AOper :=
  [.mk (some 6) (.mv (.const (.int .i64 0))) none []]
def l53r4:List AOper :=
  [.mk (some 9) (.mv (.tmp 6)) none [],.mk (some 10) (.mv (.tmp 0)) none [],.mk (some 11) (.len (.tmp 10)) none [1],.mk (some 12) (.bin .lss (.tmp 9) (.tmp 11)) none [0,2]]
def l53r5:List AOper :=
  [.mk (some 15) (.mv (.tmp 0)) none [],.mk (some 16) (.mv (.tmp 6)) none [],.mk (some 17) (.idxA 1 (.tmp 15) (.tmp 16)) none [0,1],.mk (some 18) (.load false 1 (.tmp 17)) none [2],.mk (some 7) (.mv (.tmp 18)) none [3,0,1,2,3]]
def l53r6:List AOper :=
  [.mk (some 19) (.mv (.tmp 7)) none [],.mk (some 20) (.bin .lss (.tmp 19) (.const (.int .i64 0))) none [0]]
def l53r7:List AOper :=
  [.mk (some 7) (.mv (.const (.int .i64 1))) none []]
def l53r8:List AOper :=
  [.mk (some 21) (.mv (.tmp 4)) none [],.mk (some 22) (.mv (.tmp 7)) none [],.mk (some 23) (.bslice 1 [.int .i64 0] [(0,.tmp 22)] 1) none [1],.mk (some 24) (.append 1 (.tmp 21) (.tmp 23)) none [0,2],.mk (some 4) (.mv (.tmp 24)) none [3,3,0,1,2,3]]
def l53r9:List AOper :=
  [.mk (some 25) (.mv (.tmp 5)) none [],.mk (some 26) (.mv (.tmp 7)) none [],.mk (some 27) (.bin .mul (.tmp 25) (.tmp 26)) none [0,1],.mk (some 5) (.mv (.tmp 27)) none [2,0,1,2]]
def l53r10:List AOper :=
  [.mk (some 13) (.mv (.tmp 6)) none [],.mk (some 14) (.bin .add (.tmp 13) (.const (.int .i64 1))) none [0],.mk (some 6) (.mv (.tmp 14)) none [1,0,1]]
def l53r11:List AOper :=
  [.mk (some 28) (.mv (.tmp 4)) none [],.mk (some 29) (.mv (.tmp 5)) none [],.mk (some 2) (.mv (.tmp 28)) none [0,0],.mk (some 3) (.mv (.tmp 29)) none [1,2,0,1,2]]
def l53:AFn :=
  (AFn.mk 30 1 (.seq (.reg l53r0) (.seq (.reg l53r1) (.seq (.reg l53r2) (.seq (.seq (.reg l53r3) (.block 0 (.loop (.seq (.seq (.reg l53r4) (.cond (.tmp 12) .skip (.exit 0))) (.seq (.block 1 (.seq (.reg l53r5) (.seq (.seq (.reg l53r6) (.cond (.tmp 20) (.reg l53r7) .skip)) (.seq (.reg l53r8) (.reg l53r9))))) (.reg l53r10)))))) (.seq (.reg l53r11) .ret))))) [.tmp 2,.tmp 3])
theorem l53_eq:lowFn Try.prog 53=some l53:=by kernel_rfl
def l54r0:List AOper :=
  [.mk (some 8) (.alloc [.slice none 0 0,.slice none 0 0]) none []]
def l54r1:List AOper :=
  [.mk (some 18) (.mv (.tmp 3)) none [],.mk (some 19) (.call 53 [.tmp 18]) none [0],.mk (some 17) (.mv (.tmp 19)) none [1],.mk (some 20) (.extract (.tmp 17) 0) none [2],.mk (some 21) (.extract (.tmp 17) 1) none [2],.mk (some 9) (.mv (.tmp 20)) none [3,1,0,1,2,3],.mk (some 10) (.mv (.tmp 21)) none [4,5,0,1,2,3,4,5]]
def l54r2:List AOper :=
  [.mk (some 22) (.mv (.tmp 3)) none [],.mk (some 23) (.mv (.tmp 2)) none [],.mk (some 24) (.call 63 [.tmp 22,.tmp 23]) none [0,1],.mk (some 25) (.build [.slice none 0 0,.slice none 0 0] [(0,1,.tmp 24)]) none [2],.mk (some 11) (.alloc [.slice none 0 0,.slice none 0 0]) none [],.mk none (.store 2 (.tmp 11) (.tmp 25)) none [4,3,2,0,1,2,3,4]]
def l54r3:List AOper :=
  [.mk (some 26) (.fld 0 (.tmp 11)) none [],.mk (some 27) (.load false 1 (.tmp 26)) none [0],.mk (some 28) (.call 47 [.tmp 27]) none [1],.mk (some 29) (.mkslice 1 [.int .i64 0] (.tmp 28) (.tmp 28)) none [2,2],.mk (some 30) (.fld 1 (.tmp 11)) none [0,1,2,3],.mk none (.store 1 (.tmp 30) (.tmp 29)) none [4,3,2,0,1,2,3]]
def l54r4:List AOper :=
  [.mk (some 12) (.mv (.const (.int .i64 0))) none []]
def l54r5:List AOper :=
  [.mk (some 31) (.mv (.tmp 12)) none [],.mk (some 32) (.mv (.tmp 10)) none [],.mk (some 33) (.bin .lss (.tmp 31) (.tmp 32)) none [0,1]]
def l54r6:List AOper :=
  [.mk (some 36) (.mv (.tmp 9)) none [],.mk (some 37) (.mv (.tmp 12)) none [],.mk (some 38) (.call 64 [.tmp 36,.tmp 37]) none [0,1],.mk (some 13) (.mv (.tmp 38)) none [2,2,0,1,2]]
def l54r7:List AOper :=
  [.mk (some 14) (.mv (.const (.int .i64 1))) none []]
def l54r8:List AOper :=
  [.mk (some 15) (.mv (.const (.int .i64 0))) none []]
def l54r9:List AOper :=
  [.mk (some 39) (.mv (.tmp 15)) none [],.mk (some 40) (.mv (.tmp 0)) none [],.mk (some 41) (.len (.tmp 40)) none [1],.mk (some 42) (.bin .lss (.tmp 39) (.tmp 41)) none [0,2]]
def l54r10a:List AOper :=
  [.mk (some 45) (.mv (.tmp 14)) none [],.mk (some 46) (.mv (.tmp 0)) none [],.mk (some 47) (.mv (.tmp 15)) none [],.mk (some 48) (.idxA 2 (.tmp 46) (.tmp 47)) none [1,2],.mk (some 49) (.fld 1 (.tmp 48)) none [3],.mk (some 50) (.load false 1 (.tmp 49)) none [4],.mk (some 51) (.mv (.tmp 0)) none [],.mk (some 52) (.mv (.tmp 15)) none [],.mk (some 53) (.idxA 2 (.tmp 51) (.tmp 52)) none [6,7],.mk (some 54) (.fld 0 (.tmp 53)) none [8],.mk (some 55) (.load false 1 (.tmp 54)) none [9],.mk (some 56) (.mv (.tmp 13)) none [],.mk (some 57) (.mv (.tmp 1)) none [],.mk (some 58) (.mv (.tmp 15)) none [],.mk (some 59) (.idxA 1 (.tmp 57) (.tmp 58)) none [12,13],.mk (some 60) (.load false 1 (.tmp 59)) none [14],.mk (some 61) (.call 63 [.tmp 56,.tmp 60]) none [11,15],.mk (some 62) (.call 65 [.tmp 55,.tmp 61]) none [10,16,16],.mk (some 63) (.idxA 1 (.tmp 50) (.tmp 62)) none [5,17],.mk (some 64) (.load false 1 (.tmp 63)) none [18]]
def l54r10b:List AOper :=
  [.mk (some 65) (.bin .mul (.tmp 45) (.tmp 64)) none [0,19],.mk (some 14) (.mv (.tmp 65)) none [20,17,0,1,2,3,4,5,6,7,8,9,10,11,12,13,14,15,16,17,18,19,20]]
def l54r10:List AOper:=l54r10a ++ l54r10b
def l54r11:List AOper :=
  [.mk (some 43) (.mv (.tmp 15)) none [],.mk (some 44) (.bin .add (.tmp 43) (.const (.int .i64 1))) none [0],.mk (some 15) (.mv (.tmp 44)) none [1,0,1]]
def l54r12a:List AOper :=
  [.mk (some 66) (.fld 0 (.tmp 11)) none [],.mk (some 67) (.load false 1 (.tmp 66)) none [0],.mk (some 68) (.mv (.tmp 13)) none [],.mk (some 69) (.mv (.tmp 2)) none [],.mk (some 70) (.call 63 [.tmp 68,.tmp 69]) none [2,3]]
def l54r12b:List AOper :=
  [.mk (some 71) (.call 65 [.tmp 67,.tmp 70]) none [1,4,4],.mk (some 16) (.mv (.tmp 71)) none [5,5,0,1,2,3,4,5]]
def l54r12:List AOper:=l54r12a ++ l54r12b
def l54r13a:List AOper :=
  [.mk (some 72) (.fld 1 (.tmp 11)) none [],.mk (some 73) (.load false 1 (.tmp 72)) none [0],.mk (some 74) (.mv (.tmp 16)) none [],.mk (some 75) (.fld 1 (.tmp 11)) none [],.mk (some 76) (.load false 1 (.tmp 75)) none [3],.mk (some 77) (.mv (.tmp 16)) none [],.mk (some 78) (.idxA 1 (.tmp 76) (.tmp 77)) none [4,5],.mk (some 79) (.load false 1 (.tmp 78)) none [6],.mk (some 80) (.mv (.tmp 14)) none [],.mk (some 81) (.bin .add (.tmp 79) (.tmp 80)) none [7,8]]
def l54r13b:List AOper :=
  [.mk (some 82) (.idxA 1 (.tmp 73) (.tmp 74)) none [1,2,0,1,2,3,4,5,6,7,8,9],.mk none (.store 1 (.tmp 82) (.tmp 81)) none [10,9,0,1,2,3,4,5,6,7,8,9]]
def l54r13:List AOper:=l54r13a ++ l54r13b
def l54r14:List AOper :=
  [.mk (some 34) (.mv (.tmp 12)) none [],.mk (some 35) (.bin .add (.tmp 34) (.const (.int .i64 1))) none [0],.mk (some 12) (.mv (.tmp 35)) none [1,0,1]]
def l54r15:List AOper :=
  [.mk (some 83) (.load true 2 (.tmp 11)) none [],.mk none (.store 2 (.tmp 8) (.tmp 83)) none [0,0]]
def l54:AFn :=
  (AFn.mk 84 4 (.seq (.reg l54r0) (.seq (.reg l54r1) (.seq (.reg l54r2) (.seq (.reg l54r3) (.seq (.seq (.reg l54r4) (.block 0 (.loop (.seq (.seq (.reg l54r5) (.cond (.tmp 33) .skip (.exit 0))) (.seq (.block 1 (.seq (.reg l54r6) (.seq (.reg l54r7) (.seq (.seq (.reg l54r8) (.block 2 (.loop (.seq (.seq (.reg l54r9) (.cond (.tmp 42) .skip (.exit 2))) (.seq (.block 3 (.draw l54r10)) (.reg l54r11)))))) (.seq (.draw l54r12) (.draw l54r13)))))) (.reg l54r14)))))) (.seq (.reg l54r15) .ret)))))) [.cell 8 true 2])
theorem l54_eq:lowFn Try.prog 54=some l54:=by kernel_rfl
def l55r0:List AOper :=
  [.mk (some 4) (.mv (.const (.int .i64 0))) none []]
def l55r1:List AOper :=
  [.mk (some 6) (.mv (.tmp 0)) none [],.mk (some 7) (.len (.tmp 6)) none [0],.mk (some 8) (.mv (.const (.int .i64 0))) none []]
def l55r2:List AOper :=
  [.mk (some 9) (.bin .lss (.tmp 8) (.tmp 7)) none []]
def l55r3:List AOper :=
  [.mk (some 10) (.mv (.tmp 8)) none [],.mk (some 5) (.mv (.tmp 10)) none [0,0]]
def l55r4:List AOper :=
  [.mk (some 11) (.mv (.tmp 1)) none [],.mk (some 12) (.mv (.tmp 0)) none [],.mk (some 13) (.mv (.tmp 5)) none [],.mk (some 14) (.idxA 1 (.tmp 12) (.tmp 13)) none [1,2],.mk (some 15) (.load false 1 (.tmp 14)) none [3],.mk (some 16) (.bin .eql (.tmp 11) (.tmp 15)) none [0,4]]
def l55r5:List AOper :=
  [.mk (some 17) (.mv (.tmp 5)) none [],.mk (some 4) (.mv (.tmp 17)) none [0,0]]
def l55r6:List AOper :=
  [.mk (some 18) (.bin .add (.tmp 8) (.const (.int .i64 1))) none [],.mk (some 8) (.mv (.tmp 18)) none [0]]
def l55r7:List AOper :=
  [.mk (some 4) (.mv (.const (.int .i64 (-1)))) none []]
def l55:AFn :=
  (AFn.mk 19 2 (.seq (.reg l55r0) (.seq (.seq (.reg l55r1) (.block 0 (.loop (.seq (.reg l55r2) (.seq (.cond (.tmp 9) .skip (.exit 0)) (.seq (.block 1 (.seq (.reg l55r3) (.seq (.reg l55r4) (.cond (.tmp 16) (.seq (.reg l55r5) .ret) .skip)))) (.reg l55r6))))))) (.seq (.reg l55r7) .ret))) [.tmp 4])
theorem l55_eq:lowFn Try.prog 55=some l55:=by kernel_rfl
def l56r0:List AOper :=
  [.mk (some 2) (.mv (.const (.slice none 0 0))) none []]
def l56r1:List AOper :=
  [.mk (some 5) (.mv (.tmp 0)) none [],.mk (some 6) (.call 24 [.tmp 5]) none [0],.mk (some 7) (.un .not (.tmp 6)) none [1]]
def l56r2:List AOper :=
  [.mk (some 2) (.mv (.const (.slice none 0 0))) none []]
def l56r3:List AOper :=
  [.mk (some 8) (.mv (.tmp 0)) none [],.mk (some 9) (.len (.tmp 8)) none [0],.mk (some 10) (.mkslice 1 [.int .i64 0] (.tmp 9) (.tmp 9)) none [1,1],.mk (some 3) (.mv (.tmp 10)) none [2,0,1,2]]
def l56r4:List AOper :=
  [.mk (some 11) (.mv (.tmp 3)) none [],.mk (some 12) (.len (.tmp 11)) none [0],.mk (some 13) (.mv (.const (.int .i64 0))) none []]
def l56r5:List AOper :=
  [.mk (some 14) (.bin .lss (.tmp 13) (.tmp 12)) none []]
def l56r6:List AOper :=
  [.mk (some 15) (.mv (.tmp 13)) none [],.mk (some 4) (.mv (.tmp 15)) none [0,0]]
def l56r7:List AOper :=
  [.mk (some 16) (.mv (.tmp 3)) none [],.mk (some 17) (.mv (.tmp 4)) none [],.mk (some 18) (.mv (.tmp 0)) none [],.mk (some 19) (.mv (.tmp 4)) none [],.mk (some 20) (.bin .add (.tmp 19) (.const (.int .i64 1))) none [3],.mk (some 21) (.slice 1 (.tmp 18) (some (.tmp 20)) none) none [2,4],.mk (some 22) (.call 32 [.tmp 21]) none [5],.mk (some 23) (.idxA 1 (.tmp 16) (.tmp 17)) none [0,1,0,1,2,3,4,5,6],.mk none (.store 1 (.tmp 23) (.tmp 22)) none [7,6,6,0,1,2,3,4,5,6]]
def l56r8:List AOper :=
  [.mk (some 24) (.bin .add (.tmp 13) (.const (.int .i64 1))) none [],.mk (some 13) (.mv (.tmp 24)) none [0]]
def l56r9:List AOper :=
  [.mk (some 25) (.mv (.tmp 3)) none [],.mk (some 2) (.mv (.tmp 25)) none [0,0]]
def l56:AFn :=
  (AFn.mk 26 1 (.seq (.reg l56r0) (.seq (.seq (.reg l56r1) (.cond (.tmp 7) (.seq (.reg l56r2) .ret) .skip)) (.seq (.reg l56r3) (.seq (.seq (.reg l56r4) (.block 0 (.loop (.seq (.reg l56r5) (.seq (.cond (.tmp 14) .skip (.exit 0)) (.seq (.block 1 (.seq (.reg l56r6) (.reg l56r7))) (.reg l56r8))))))) (.seq (.reg l56r9) .ret))))) [.tmp 2])
theorem l56_eq:lowFn Try.prog 56=some l56:=by kernel_rfl
def l57r0:List AOper :=
  [.mk (some 4) (.mv (.const (.int .i64 0))) none []]
def l57r1:List AOper :=
  [.mk (some 5) (.mv (.const (.int .i64 0))) none []]
def l57r2:List AOper :=
  [.mk (some 11) (.mv (.tmp 0)) none [],.mk (some 12) (.len (.tmp 11)) none [0],.mk (some 13) (.mv (.const (.int .i64 0))) none []]
def l57r3:List AOper :=
  [.mk (some 14) (.bin .lss (.tmp 13) (.tmp 12)) none []]
def l57r4:List AOper :=
  [.mk (some 15) (.idxA 1 (.tmp 11) (.tmp 13)) none [],.mk (some 16) (.load false 1 (.tmp 15)) none [0],.mk (some 7) (.mv (.tmp 16)) none [1,0,1]]
def l57r5:List AOper :=
  [.mk (some 8) (.mv (.const (.int .i64 1))) none []]
def l57r6:List AOper :=
  [.mk (some 17) (.mv (.tmp 1)) none [],.mk (some 18) (.len (.tmp 17)) none [0],.mk (some 19) (.mv (.const (.int .i64 0))) none []]
def l57r7:List AOper :=
  [.mk (some 20) (.bin .lss (.tmp 19) (.tmp 18)) none []]
def l57r8:List AOper :=
  [.mk (some 21) (.idxA 1 (.tmp 17) (.tmp 19)) none [],.mk (some 22) (.load false 1 (.tmp 21)) none [0],.mk (some 10) (.mv (.tmp 22)) none [1,0,1]]
def l57r9:List AOper :=
  [.mk (some 23) (.mv (.tmp 8)) none [],.mk (some 24) (.mv (.tmp 10)) none [],.mk (some 25) (.mv (.tmp 7)) none [],.mk (some 26) (.raw (Op.call (Call.mk (Callee.value (.tmp 24)) (Array.mk [.tmp 25]) (Array.mk [3])))) none [1,2],.mk (some 27) (.bin .mul (.tmp 23) (.tmp 26)) none [0,3],.mk (some 8) (.mv (.tmp 27)) none [4,3,0,1,2,3,4]]
def l57r10:List AOper :=
  [.mk (some 28) (.bin .add (.tmp 19) (.const (.int .i64 1))) none [],.mk (some 19) (.mv (.tmp 28)) none [0]]
def l57r11:List AOper :=
  [.mk (some 29) (.mv (.tmp 5)) none [],.mk (some 30) (.mv (.tmp 8)) none [],.mk (some 31) (.bin .add (.tmp 29) (.tmp 30)) none [0,1],.mk (some 5) (.mv (.tmp 31)) none [2,0,1,2]]
def l57r12:List AOper :=
  [.mk (some 32) (.bin .add (.tmp 13) (.const (.int .i64 1))) none [],.mk (some 13) (.mv (.tmp 32)) none [0]]
def l57r13:List AOper :=
  [.mk (some 33) (.mv (.tmp 5)) none [],.mk (some 4) (.mv (.tmp 33)) none [0,0]]
def l57:AFn :=
  (AFn.mk 34 2 (.seq (.reg l57r0) (.seq (.reg l57r1) (.seq (.seq (.reg l57r2) (.block 0 (.loop (.seq (.reg l57r3) (.seq (.cond (.tmp 14) .skip (.exit 0)) (.seq (.block 1 (.seq (.reg l57r4) (.seq (.reg l57r5) (.seq (.seq (.reg l57r6) (.block 2 (.loop (.seq (.reg l57r7) (.seq (.cond (.tmp 20) .skip (.exit 2)) (.seq (.block 3 (.seq (.reg l57r8) (.reg l57r9))) (.reg l57r10))))))) (.reg l57r11))))) (.reg l57r12))))))) (.seq (.reg l57r13) .ret)))) [.tmp 4])
theorem l57_eq:lowFn Try.prog 57=some l57:=by kernel_rfl
def l58r0:List AOper :=
  [.mk (some 2) (.box (.tmp 0)) none [],.mk (some 4) (.mv (.const (.int .i64 0))) none []]
def l58r1:List AOper :=
  [.mk (some 5) (.mv (.tmp 1)) none [],.mk (some 6) (.idxP 1 5 (.tmp 2) (.tmp 5)) none [0],.mk (some 7) (.load false 1 (.tmp 6)) none [1],.mk (some 4) (.mv (.tmp 7)) none [2,0,1,2]]
def l58:AFn :=
  (AFn.mk 8 2 (.seq (.reg l58r0) (.seq (.reg l58r1) .ret)) [.tmp 4])
theorem l58_eq:lowFn Try.prog 58=some l58:=by kernel_rfl
def l59r0:List AOper :=
  [.mk (some 1) (.box (.tmp 0)) none [],.mk (some 2) (.mv (.const .nilFunc)) none []]
def l59r1:List AOper :=
  [.mk (some 3) (.mkfn (Fn.func 66) [] [.tmp 1]) none [],.mk (some 2) (.mv (.tmp 3)) none [0,0]]
def l59:AFn :=
  (AFn.mk 4 1 (.seq (.reg l59r0) (.seq (.reg l59r1) .ret)) [.tmp 2])
theorem l59_eq:lowFn Try.prog 59=some l59:=by kernel_rfl
def l60r0:List AOper :=
  [.mk (some 2) (.mv (.const (.bool false))) none []]
def l60r1:List AOper :=
  [.mk (some 3) (.mv (.tmp 0)) none [],.mk (some 4) (.len (.tmp 3)) none [0],.mk (some 5) (.bin .leq (.tmp 4) (.const (.int .i64 4))) none [1],.mk (some 6) (.mv (.tmp 5)) none [2],.mk (some 7) (.mv (.tmp 0)) (some (6,true)) [3],.mk (some 8) (.call 61 [.tmp 7,.const (.int .i64 0),.const (.int .i64 60)]) (some (6,true)) [4,3,3],.mk (some 9) (.pick (.tmp 6) (.tmp 8) (.const (.bool false))) none [3,5],.mk (some 10) (.mv (.tmp 9)) none [6,5],.mk (some 11) (.mv (.tmp 0)) (some (10,true)) [7],.mk (some 12) (.call 47 [.tmp 11]) (some (10,true)) [8,7,7],.mk (some 13) (.bin .leq (.tmp 12) (.const (.int .i64 60))) (some (10,true)) [9,7],.mk (some 14) (.pick (.tmp 10) (.tmp 13) (.const (.bool false))) none [7,10],.mk (some 2) (.mv (.tmp 14)) none [11,9,0,1,2,3,4,5,6,7,8,9,10,11]]
def l60:AFn :=
  (AFn.mk 15 1 (.seq (.reg l60r0) (.seq (.reg l60r1) .ret)) [.tmp 2])
theorem l60_eq:lowFn Try.prog 60=some l60:=by kernel_rfl
def l61r0:List AOper :=
  [.mk (some 6) (.mv (.const (.bool false))) none []]
def l61r1:List AOper :=
  [.mk (some 7) (.mv (.const (.int .i64 0))) none []]
def l61r2:List AOper :=
  [.mk (some 8) (.mv (.tmp 7)) none [],.mk (some 9) (.mv (.tmp 0)) none [],.mk (some 10) (.len (.tmp 9)) none [1],.mk (some 11) (.bin .lss (.tmp 8) (.tmp 10)) none [0,2]]
def l61r3:List AOper :=
  [.mk (some 14) (.mv (.tmp 0)) none [],.mk (some 15) (.mv (.tmp 7)) none [],.mk (some 16) (.idxA 1 (.tmp 14) (.tmp 15)) none [0,1],.mk (some 17) (.load false 1 (.tmp 16)) none [2],.mk (some 18) (.mv (.tmp 1)) none [],.mk (some 19) (.mv (.tmp 2)) none [],.mk (some 20) (.call 50 [.tmp 17,.tmp 18,.tmp 19]) none [3,4,5],.mk (some 21) (.un .not (.tmp 20)) none [6]]
def l61r4:List AOper :=
  [.mk (some 6) (.mv (.const (.bool false))) none []]
def l61r5:List AOper :=
  [.mk (some 12) (.mv (.tmp 7)) none [],.mk (some 13) (.bin .add (.tmp 12) (.const (.int .i64 1))) none [0],.mk (some 7) (.mv (.tmp 13)) none [1,0,1]]
def l61r6:List AOper :=
  [.mk (some 6) (.mv (.const (.bool true))) none []]
def l61:AFn :=
  (AFn.mk 22 3 (.seq (.reg l61r0) (.seq (.seq (.reg l61r1) (.block 0 (.loop (.seq (.seq (.reg l61r2) (.cond (.tmp 11) .skip (.exit 0))) (.seq (.block 1 (.seq (.reg l61r3) (.cond (.tmp 21) (.seq (.reg l61r4) .ret) .skip))) (.reg l61r5)))))) (.seq (.reg l61r6) .ret))) [.tmp 6])
theorem l61_eq:lowFn Try.prog 61=some l61:=by kernel_rfl
def l62r0:List AOper :=
  [.mk (some 2) (.mv (.const (.bool false))) none []]
def l62r1:List AOper :=
  [.mk (some 3) (.mv (.const (.int .i64 0))) none []]
def l62r2:List AOper :=
  [.mk (some 4) (.mv (.tmp 3)) none [],.mk (some 5) (.mv (.tmp 0)) none [],.mk (some 6) (.len (.tmp 5)) none [1],.mk (some 7) (.bin .lss (.tmp 4) (.tmp 6)) none [0,2]]
def l62r3a:List AOper :=
  [.mk (some 10) (.mv (.tmp 0)) none [],.mk (some 11) (.mv (.tmp 3)) none [],.mk (some 12) (.slice 1 (.tmp 10) none (some (.tmp 11))) none [0,1],.mk (some 13) (.mv (.tmp 0)) none [],.mk (some 14) (.mv (.tmp 3)) none [],.mk (some 15) (.idxA 1 (.tmp 13) (.tmp 14)) none [3,4],.mk (some 16) (.load false 1 (.tmp 15)) none [5]]
def l62r3b:List AOper :=
  [.mk (some 17) (.call 67 [.tmp 12,.tmp 16]) none [2,6],.mk (some 18) (.bin .geq (.tmp 17) (.const (.int .i64 0))) none [7]]
def l62r3:List AOper:=l62r3a ++ l62r3b
def l62r4:List AOper :=
  [.mk (some 2) (.mv (.const (.bool false))) none []]
def l62r5:List AOper :=
  [.mk (some 8) (.mv (.tmp 3)) none [],.mk (some 9) (.bin .add (.tmp 8) (.const (.int .i64 1))) none [0],.mk (some 3) (.mv (.tmp 9)) none [1,0,1]]
def l62r6:List AOper :=
  [.mk (some 2) (.mv (.const (.bool true))) none []]
def l62:AFn :=
  (AFn.mk 19 1 (.seq (.reg l62r0) (.seq (.seq (.reg l62r1) (.block 0 (.loop (.seq (.seq (.reg l62r2) (.cond (.tmp 7) .skip (.exit 0))) (.seq (.block 1 (.seq (.draw l62r3) (.cond (.tmp 18) (.seq (.reg l62r4) .ret) .skip))) (.reg l62r5)))))) (.seq (.reg l62r6) .ret))) [.tmp 2])
theorem l62_eq:lowFn Try.prog 62=some l62:=by kernel_rfl
def l63r0:List AOper :=
  [.mk (some 4) (.mv (.const (.slice none 0 0))) none []]
def l63r1:List AOper :=
  [.mk (some 7) (.bslice 1 [.int .i64 0] [] 0) none [],.mk (some 5) (.mv (.tmp 7)) none [0,0]]
def l63r2:List AOper :=
  [.mk (some 6) (.mv (.const (.int .i64 0))) none []]
def l63r3:List AOper :=
  [.mk (some 8) (.mv (.tmp 6)) none [],.mk (some 9) (.mv (.tmp 1)) none [],.mk (some 10) (.len (.tmp 9)) none [1],.mk (some 11) (.bin .lss (.tmp 8) (.tmp 10)) none [0,2]]
def l63r4:List AOper :=
  [.mk (some 14) (.mv (.tmp 5)) none [],.mk (some 15) (.mv (.tmp 0)) none [],.mk (some 16) (.mv (.tmp 1)) none [],.mk (some 17) (.mv (.tmp 6)) none [],.mk (some 18) (.idxA 1 (.tmp 16) (.tmp 17)) none [2,3],.mk (some 19) (.load false 1 (.tmp 18)) none [4],.mk (some 20) (.idxA 1 (.tmp 15) (.tmp 19)) none [1,5],.mk (some 21) (.load false 1 (.tmp 20)) none [6],.mk (some 22) (.bslice 1 [.int .i64 0] [(0,.tmp 21)] 1) none [7],.mk (some 23) (.append 1 (.tmp 14) (.tmp 22)) none [0,8],.mk (some 5) (.mv (.tmp 23)) none [9,9,0,1,2,3,4,5,6,7,8,9]]
def l63r5:List AOper :=
  [.mk (some 12) (.mv (.tmp 6)) none [],.mk (some 13) (.bin .add (.tmp 12) (.const (.int .i64 1))) none [0],.mk (some 6) (.mv (.tmp 13)) none [1,0,1]]
def l63r6:List AOper :=
  [.mk (some 24) (.mv (.tmp 5)) none [],.mk (some 4) (.mv (.tmp 24)) none [0,0]]
def l63:AFn :=
  (AFn.mk 25 2 (.seq (.reg l63r0) (.seq (.reg l63r1) (.seq (.seq (.reg l63r2) (.block 0 (.loop (.seq (.seq (.reg l63r3) (.cond (.tmp 11) .skip (.exit 0))) (.seq (.block 1 (.reg l63r4)) (.reg l63r5)))))) (.seq (.reg l63r6) .ret)))) [.tmp 4])
theorem l63_eq:lowFn Try.prog 63=some l63:=by kernel_rfl
def l64r0:List AOper :=
  [.mk (some 4) (.mv (.const (.slice none 0 0))) none []]
def l64r1:List AOper :=
  [.mk (some 7) (.mv (.tmp 0)) none [],.mk (some 8) (.len (.tmp 7)) none [0],.mk (some 9) (.mkslice 1 [.int .i64 0] (.tmp 8) (.tmp 8)) none [1,1],.mk (some 5) (.mv (.tmp 9)) none [2,0,1,2]]
def l64r2:List AOper :=
  [.mk (some 10) (.mv (.tmp 0)) none [],.mk (some 11) (.len (.tmp 10)) none [0],.mk (some 12) (.bin .sub (.tmp 11) (.const (.int .i64 1))) none [1],.mk (some 6) (.mv (.tmp 12)) none [2,0,1,2]]
def l64r3:List AOper :=
  [.mk (some 13) (.mv (.tmp 6)) none [],.mk (some 14) (.bin .geq (.tmp 13) (.const (.int .i64 0))) none [0]]
def l64r4:List AOper :=
  [.mk (some 17) (.mv (.tmp 5)) none [],.mk (some 18) (.mv (.tmp 6)) none [],.mk (some 19) (.mv (.tmp 1)) none [],.mk (some 20) (.mv (.tmp 0)) none [],.mk (some 21) (.mv (.tmp 6)) none [],.mk (some 22) (.idxA 1 (.tmp 20) (.tmp 21)) none [3,4],.mk (some 23) (.load false 1 (.tmp 22)) none [5],.mk (some 24) (.bin .rem (.tmp 19) (.tmp 23)) none [2,6],.mk (some 25) (.idxA 1 (.tmp 17) (.tmp 18)) none [0,1,0,1,2,3,4,5,6,7],.mk none (.store 1 (.tmp 25) (.tmp 24)) none [8,7,0,1,2,3,4,5,6,7]]
def l64r5:List AOper :=
  [.mk (some 26) (.mv (.tmp 1)) none [],.mk (some 27) (.mv (.tmp 0)) none [],.mk (some 28) (.mv (.tmp 6)) none [],.mk (some 29) (.idxA 1 (.tmp 27) (.tmp 28)) none [1,2],.mk (some 30) (.load false 1 (.tmp 29)) none [3],.mk (some 31) (.bin .quo (.tmp 26) (.tmp 30)) none [0,4],.mk (some 1) (.mv (.tmp 31)) none [5,0,1,2,3,4,5]]
def l64r6:List AOper :=
  [.mk (some 15) (.mv (.tmp 6)) none [],.mk (some 16) (.bin .sub (.tmp 15) (.const (.int .i64 1))) none [0],.mk (some 6) (.mv (.tmp 16)) none [1,0,1]]
def l64r7:List AOper :=
  [.mk (some 32) (.mv (.tmp 5)) none [],.mk (some 4) (.mv (.tmp 32)) none [0,0]]
def l64:AFn :=
  (AFn.mk 33 2 (.seq (.reg l64r0) (.seq (.reg l64r1) (.seq (.seq (.reg l64r2) (.block 0 (.loop (.seq (.seq (.reg l64r3) (.cond (.tmp 14) .skip (.exit 0))) (.seq (.block 1 (.seq (.reg l64r4) (.reg l64r5))) (.reg l64r6)))))) (.seq (.reg l64r7) .ret)))) [.tmp 4])
theorem l64_eq:lowFn Try.prog 64=some l64:=by kernel_rfl
def l65r0:List AOper :=
  [.mk (some 4) (.mv (.const (.int .i64 0))) none []]
def l65r1:List AOper :=
  [.mk (some 5) (.mv (.const (.int .i64 0))) none []]
def l65r2:List AOper :=
  [.mk (some 6) (.mv (.const (.int .i64 0))) none []]
def l65r3:List AOper :=
  [.mk (some 7) (.mv (.tmp 6)) none [],.mk (some 8) (.mv (.tmp 0)) none [],.mk (some 9) (.len (.tmp 8)) none [1],.mk (some 10) (.bin .lss (.tmp 7) (.tmp 9)) none [0,2]]
def l65r4a:List AOper :=
  [.mk (some 13) (.mv (.tmp 5)) none [],.mk (some 14) (.mv (.tmp 0)) none [],.mk (some 15) (.mv (.tmp 6)) none [],.mk (some 16) (.idxA 1 (.tmp 14) (.tmp 15)) none [1,2],.mk (some 17) (.load false 1 (.tmp 16)) none [3],.mk (some 18) (.bin .mul (.tmp 13) (.tmp 17)) none [0,4],.mk (some 19) (.mv (.tmp 1)) none [],.mk (some 20) (.mv (.tmp 6)) none [],.mk (some 21) (.idxA 1 (.tmp 19) (.tmp 20)) none [6,7],.mk (some 22) (.load false 1 (.tmp 21)) none [8]]
def l65r4b:List AOper :=
  [.mk (some 23) (.bin .add (.tmp 18) (.tmp 22)) none [5,9],.mk (some 5) (.mv (.tmp 23)) none [10,0,1,2,3,4,5,6,7,8,9,10]]
def l65r4:List AOper:=l65r4a ++ l65r4b
def l65r5:List AOper :=
  [.mk (some 11) (.mv (.tmp 6)) none [],.mk (some 12) (.bin .add (.tmp 11) (.const (.int .i64 1))) none [0],.mk (some 6) (.mv (.tmp 12)) none [1,0,1]]
def l65r6:List AOper :=
  [.mk (some 24) (.mv (.tmp 5)) none [],.mk (some 4) (.mv (.tmp 24)) none [0,0]]
def l65:AFn :=
  (AFn.mk 25 2 (.seq (.reg l65r0) (.seq (.reg l65r1) (.seq (.seq (.reg l65r2) (.block 0 (.loop (.seq (.seq (.reg l65r3) (.cond (.tmp 10) .skip (.exit 0))) (.seq (.block 1 (.draw l65r4)) (.reg l65r5)))))) (.seq (.reg l65r6) .ret)))) [.tmp 4])
theorem l65_eq:lowFn Try.prog 65=some l65:=by kernel_rfl
def l66r0:List AOper :=
  [.mk (some 4) (.load false 1 (.tmp 1)) none [],.mk (some 5) (.len (.tmp 4)) none [0],.mk (some 6) (.bin .sub (.tmp 5) (.const (.int .i64 1))) none [1],.mk (some 3) (.mv (.tmp 6)) none [2,0,1,2]]
def l66r1:List AOper :=
  [.mk (some 7) (.mv (.tmp 3)) none [],.mk (some 8) (.bin .geq (.tmp 7) (.const (.int .i64 0))) none [0]]
def l66r2:List AOper :=
  [.mk (some 11) (.mv (.tmp 0)) none [],.mk (some 12) (.mv (.tmp 3)) none [],.mk (some 13) (.load false 1 (.tmp 1)) none [],.mk (some 14) (.mv (.tmp 3)) none [],.mk (some 15) (.idxA 1 (.tmp 13) (.tmp 14)) none [2,3],.mk (some 16) (.load false 1 (.tmp 15)) none [4],.mk (some 17) (.raw (Op.call (Call.mk (Callee.value (.tmp 11)) (Array.mk [.tmp 12,.tmp 16]) (Array.mk [3,3])))) none [0,1,5],.mk (some 18) (.un .not (.tmp 17)) none [6]]
def l66r3:List AOper :=
  [.mk (some 9) (.mv (.tmp 3)) none [],.mk (some 10) (.bin .sub (.tmp 9) (.const (.int .i64 1))) none [0],.mk (some 3) (.mv (.tmp 10)) none [1,0,1]]
def l66:AFn :=
  (AFn.mk 19 1 (.seq (.reg l66r0) (.block 0 (.loop (.seq (.seq (.reg l66r1) (.cond (.tmp 8) .skip (.exit 0))) (.seq (.block 1 (.seq (.reg l66r2) (.cond (.tmp 18) .ret .skip))) (.reg l66r3)))))) [])
theorem l66_eq:lowFn Try.prog 66=some l66:=by kernel_rfl
def l67r0:List AOper :=
  [.mk (some 4) (.mv (.const (.int .i64 0))) none []]
def l67r1:List AOper :=
  [.mk (some 5) (.mv (.const (.int .i64 0))) none []]
def l67r2:List AOper :=
  [.mk (some 6) (.mv (.tmp 5)) none [],.mk (some 7) (.mv (.tmp 0)) none [],.mk (some 8) (.len (.tmp 7)) none [1],.mk (some 9) (.bin .lss (.tmp 6) (.tmp 8)) none [0,2]]
def l67r3:List AOper :=
  [.mk (some 12) (.mv (.tmp 0)) none [],.mk (some 13) (.mv (.tmp 5)) none [],.mk (some 14) (.idxA 1 (.tmp 12) (.tmp 13)) none [0,1],.mk (some 15) (.load false 1 (.tmp 14)) none [2],.mk (some 16) (.mv (.tmp 1)) none [],.mk (some 17) (.bin .eql (.tmp 15) (.tmp 16)) none [3,4]]
def l67r4:List AOper :=
  [.mk (some 18) (.mv (.tmp 5)) none [],.mk (some 4) (.mv (.tmp 18)) none [0,0]]
def l67r5:List AOper :=
  [.mk (some 10) (.mv (.tmp 5)) none [],.mk (some 11) (.bin .add (.tmp 10) (.const (.int .i64 1))) none [0],.mk (some 5) (.mv (.tmp 11)) none [1,0,1]]
def l67r6:List AOper :=
  [.mk (some 4) (.mv (.const (.int .i64 (-1)))) none []]
def l67:AFn :=
  (AFn.mk 19 2 (.seq (.reg l67r0) (.seq (.seq (.reg l67r1) (.block 0 (.loop (.seq (.seq (.reg l67r2) (.cond (.tmp 9) .skip (.exit 0))) (.seq (.block 1 (.seq (.reg l67r3) (.cond (.tmp 17) (.seq (.reg l67r4) .ret) .skip))) (.reg l67r5)))))) (.seq (.reg l67r6) .ret))) [.tmp 4])
theorem l67_eq:lowFn Try.prog 67=some l67:=by kernel_rfl
end Go.Proofs.Ytfgohhkcmgiddaa
