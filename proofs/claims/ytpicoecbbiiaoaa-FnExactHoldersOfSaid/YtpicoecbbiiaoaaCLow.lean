import Derived.Test.YtpicoecbbiiaoaaCW3
import Derived.Test.YtpicoecbbiiaoaaProg
import Derived.KernelRfl
set_option maxRecDepth 100000
namespace Go.Proofs.Ytpicoecbbiiaoaa
open Vw Go
instance globs:Inhabited GlobT:=⟨⟨[]⟩⟩
attribute [push_cast] Bool.false_eq_true List.length_replicate
attribute [bitvec_to_nat] decide_eq_true_eq decide_eq_false_iff_not Bool.not_eq_true' Bool.not_eq_false' Bool.and_eq_true Bool.or_eq_true Bool.and_eq_false_iff Bool.or_eq_false_iff Int.not_le Int.not_lt bne_iff_ne ne_eq beq_iff_eq Bool.not_eq_true Bool.not_eq_false
theorem sd {P:Prop} (h:P:=by first|assumption|rfl|omega|(simp<;>omega)|(simp_all<;>omega)):P:=h
def l3r0:List AOper :=
  [.mk (some 4) (.mv (.const (.bool false))) none []]
def l3r1:List AOper :=
  [.mk (some 5) (.mv (.const (.int .i64 1048576))) none []]
def l3r2:List AOper :=
  [.mk (some 13) (.mv (.tmp 0)) none [],.mk (some 14) (.mv (.tmp 5)) none [],.mk (some 15) (.call 8 [.tmp 13,.tmp 14]) none [0,1],.mk (some 5) (.mv (.tmp 15)) none [2,2,0,1,2]]
def l3r3:List AOper :=
  [.mk (some 16) (.mv (.tmp 5)) none [],.mk (some 17) (.bin .lss (.tmp 16) (.const (.int .i64 0))) none [0]]
def l3r4:List AOper :=
  [.mk (some 4) (.mv (.const (.bool true))) none []]
def l3r5:List AOper :=
  [.mk (some 18) (.mv (.tmp 0)) none [],.mk (some 19) (.call 10 [.tmp 18]) none [0],.mk (some 20) (.mv (.tmp 1)) none [],.mk (some 21) (.call 9 [.tmp 19,.tmp 20]) none [1,2,1],.mk (some 6) (.mv (.tmp 21)) none [3,3,0,1,2,3]]
def l3r6:List AOper :=
  [.mk (some 22) (.mv (.tmp 0)) none [],.mk (some 23) (.call 10 [.tmp 22]) none [0],.mk (some 7) (.mv (.tmp 23)) none [1,1,0,1]]
def l3r7:List AOper :=
  [.mk (some 24) (.mv (.tmp 7)) none [],.mk (some 25) (.mv (.tmp 1)) none [],.mk (some 26) (.call 11 [.tmp 24,.tmp 25]) none [0,1],.mk (some 8) (.mv (.tmp 26)) none [2,2,0,1,2]]
def l3r8:List AOper :=
  [.mk (some 27) (.mv (.tmp 8)) none [],.mk (some 28) (.mv (.tmp 6)) none [],.mk (some 29) (.call 12 [.tmp 27,.tmp 28]) none [0,1],.mk (some 30) (.un .not (.tmp 29)) none [2]]
def l3r9:List AOper :=
  [.mk (some 4) (.mv (.const (.bool false))) none []]
def l3r10:List AOper :=
  [.mk (some 31) (.mv (.tmp 7)) none [],.mk (some 32) (.mv (.tmp 0)) none [],.mk (some 33) (.call 10 [.tmp 32]) none [1],.mk (some 34) (.call 13 [.tmp 31,.tmp 33]) none [0,2,2],.mk (some 35) (.un .not (.tmp 34)) none [3]]
def l3r11:List AOper :=
  [.mk (some 4) (.mv (.const (.bool false))) none []]
def l3r12:List AOper :=
  [.mk (some 9) (.mv (.const (.int .i64 1))) none []]
def l3r13:List AOper :=
  [.mk (some 36) (.mv (.tmp 7)) none [],.mk (some 37) (.mv (.tmp 9)) none [],.mk (some 38) (.call 14 [.tmp 36,.tmp 37]) none [0,1],.mk (some 9) (.mv (.tmp 38)) none [2,2,0,1,2]]
def l3r14:List AOper :=
  [.mk (some 39) (.mv (.tmp 9)) none [],.mk (some 40) (.bin .lss (.tmp 39) (.const (.int .i64 0))) none [0],.mk (some 41) (.mv (.tmp 40)) none [1],.mk (some 42) (.mv (.tmp 8)) (some (41,false)) [2],.mk (some 43) (.mv (.tmp 6)) (some (41,false)) [2],.mk (some 44) (.call 12 [.tmp 42,.tmp 43]) (some (41,false)) [3,4,2,2],.mk (some 45) (.un .not (.tmp 44)) (some (41,false)) [5,2],.mk (some 46) (.pick (.tmp 41) (.const (.bool true)) (.tmp 45)) none [2,6]]
def l3r15:List AOper :=
  [.mk (some 4) (.mv (.const (.bool false))) none []]
def l3r16:List AOper :=
  [.mk (some 10) (.mv (.const (.int .i64 1))) none []]
def l3r17:List AOper :=
  [.mk (some 47) (.mv (.tmp 8)) none [],.mk (some 48) (.mv (.tmp 10)) none [],.mk (some 49) (.call 15 [.tmp 47,.tmp 48]) none [0,1],.mk (some 10) (.mv (.tmp 49)) none [2,2,0,1,2]]
def l3r18:List AOper :=
  [.mk (some 11) (.mv (.const (.int .i64 1))) none []]
def l3r19:List AOper :=
  [.mk (some 50) (.mv (.tmp 8)) none [],.mk (some 51) (.mv (.tmp 11)) none [],.mk (some 52) (.call 16 [.tmp 50,.tmp 51]) none [0,1],.mk (some 11) (.mv (.tmp 52)) none [2,2,0,1,2]]
def l3r20:List AOper :=
  [.mk (some 53) (.mv (.tmp 11)) none [],.mk (some 54) (.bin .lss (.tmp 53) (.const (.int .i64 0))) none [0]]
def l3r21:List AOper :=
  [.mk (some 4) (.mv (.const (.bool false))) none []]
def l3r22:List AOper :=
  [.mk (some 55) (.mv (.tmp 11)) none [],.mk (some 56) (.mv (.tmp 10)) none [],.mk (some 57) (.bin .neq (.tmp 55) (.tmp 56)) none [0,1]]
def l3r23:List AOper :=
  [.mk (some 4) (.mv (.const (.bool false))) none []]
def l3r24:List AOper :=
  [.mk (some 58) (.mv (.tmp 0)) none [],.mk (some 59) (.call 10 [.tmp 58]) none [0],.mk (some 60) (.mv (.tmp 1)) none [],.mk (some 61) (.call 11 [.tmp 59,.tmp 60]) none [1,2,1],.mk (some 12) (.mv (.tmp 61)) none [3,3,0,1,2,3]]
def l3r25:List AOper :=
  [.mk (some 62) (.mv (.tmp 12)) none [],.mk (some 63) (.mv (.tmp 6)) none [],.mk (some 64) (.call 12 [.tmp 62,.tmp 63]) none [0,1],.mk (some 65) (.un .not (.tmp 64)) none [2]]
def l3r26:List AOper :=
  [.mk (some 4) (.mv (.const (.bool false))) none []]
def l3r27:List AOper :=
  [.mk (some 11) (.mv (.const (.int .i64 1))) none []]
def l3r28:List AOper :=
  [.mk (some 66) (.mv (.tmp 8)) none [],.mk (some 67) (.mv (.tmp 11)) none [],.mk (some 68) (.call 16 [.tmp 66,.tmp 67]) none [0,1],.mk (some 11) (.mv (.tmp 68)) none [2,2,0,1,2]]
def l3r29:List AOper :=
  [.mk (some 69) (.mv (.tmp 11)) none [],.mk (some 70) (.bin .lss (.tmp 69) (.const (.int .i64 0))) none [0]]
def l3r30:List AOper :=
  [.mk (some 4) (.mv (.const (.bool false))) none []]
def l3r31:List AOper :=
  [.mk (some 71) (.mv (.tmp 11)) none [],.mk (some 72) (.mv (.tmp 10)) none [],.mk (some 73) (.bin .neq (.tmp 71) (.tmp 72)) none [0,1]]
def l3r32:List AOper :=
  [.mk (some 4) (.mv (.const (.bool false))) none []]
def l3r33:List AOper :=
  [.mk (some 4) (.mv (.const (.bool true))) none []]
def l3:AFn :=
  (AFn.mk 74 2 (.seq (.reg l3r0) (.seq (.reg l3r1) (.seq (.reg l3r2) (.seq (.seq (.reg l3r3) (.cond (.tmp 17) (.seq (.reg l3r4) .ret) .skip)) (.seq (.reg l3r5) (.seq (.reg l3r6) (.seq (.reg l3r7) (.seq (.seq (.reg l3r8) (.cond (.tmp 30) (.seq (.reg l3r9) .ret) .skip)) (.seq (.seq (.reg l3r10) (.cond (.tmp 35) (.seq (.reg l3r11) .ret) .skip)) (.seq (.reg l3r12) (.seq (.reg l3r13) (.seq (.seq (.reg l3r14) (.cond (.tmp 46) (.seq (.reg l3r15) .ret) .skip)) (.seq (.reg l3r16) (.seq (.reg l3r17) (.seq (.reg l3r18) (.seq (.reg l3r19) (.seq (.seq (.reg l3r20) (.cond (.tmp 54) (.seq (.reg l3r21) .ret) .skip)) (.seq (.seq (.reg l3r22) (.cond (.tmp 57) (.seq (.reg l3r23) .ret) .skip)) (.seq (.reg l3r24) (.seq (.seq (.reg l3r25) (.cond (.tmp 65) (.seq (.reg l3r26) .ret) .skip)) (.seq (.reg l3r27) (.seq (.reg l3r28) (.seq (.seq (.reg l3r29) (.cond (.tmp 70) (.seq (.reg l3r30) .ret) .skip)) (.seq (.seq (.reg l3r31) (.cond (.tmp 73) (.seq (.reg l3r32) .ret) .skip)) (.seq (.reg l3r33) .ret))))))))))))))))))))))))) [.tmp 4])
theorem l3_eq:lowFn Try.prog 3=some l3:=by kernel_rfl
def l8r0:List AOper :=
  [.mk (some 4) (.mv (.const (.int .i64 0))) none []]
def l8r1:List AOper :=
  [.mk (some 6) (.mv (.tmp 1)) none [],.mk (some 7) (.mv (.tmp 0)) none [],.mk (some 8) (.len (.tmp 7)) none [1],.mk (some 9) (.bin .sub (.tmp 6) (.tmp 8)) none [0,2],.mk (some 1) (.mv (.tmp 9)) none [3,0,1,2,3]]
def l8r2:List AOper :=
  [.mk (some 10) (.mv (.tmp 1)) none [],.mk (some 11) (.bin .lss (.tmp 10) (.const (.int .i64 0))) none [0]]
def l8r3:List AOper :=
  [.mk (some 4) (.mv (.const (.int .i64 (-1)))) none []]
def l8r4:List AOper :=
  [.mk (some 5) (.mv (.const (.int .i64 0))) none []]
def l8r5:List AOper :=
  [.mk (some 12) (.mv (.tmp 5)) none [],.mk (some 13) (.mv (.tmp 0)) none [],.mk (some 14) (.len (.tmp 13)) none [1],.mk (some 15) (.bin .lss (.tmp 12) (.tmp 14)) none [0,2]]
def l8r6:List AOper :=
  [.mk (some 18) (.mv (.tmp 0)) none [],.mk (some 19) (.mv (.tmp 5)) none [],.mk (some 20) (.idxA 3 (.tmp 18) (.tmp 19)) none [0,1],.mk (some 21) (.load true 3 (.tmp 20)) none [2],.mk (some 22) (.mv (.tmp 1)) none [],.mk (some 23) (.call 37 [.tmp 21,.tmp 22]) none [3,4],.mk (some 1) (.mv (.tmp 23)) none [5,5,0,1,2,3,4,5]]
def l8r7:List AOper :=
  [.mk (some 24) (.mv (.tmp 1)) none [],.mk (some 25) (.bin .lss (.tmp 24) (.const (.int .i64 0))) none [0]]
def l8r8:List AOper :=
  [.mk (some 4) (.mv (.const (.int .i64 (-1)))) none []]
def l8r9:List AOper :=
  [.mk (some 16) (.mv (.tmp 5)) none [],.mk (some 17) (.bin .add (.tmp 16) (.const (.int .i64 1))) none [0],.mk (some 5) (.mv (.tmp 17)) none [1,0,1]]
def l8r10:List AOper :=
  [.mk (some 26) (.mv (.tmp 1)) none [],.mk (some 4) (.mv (.tmp 26)) none [0,0]]
def l8:AFn :=
  (AFn.mk 27 2 (.seq (.reg l8r0) (.seq (.reg l8r1) (.seq (.seq (.reg l8r2) (.cond (.tmp 11) (.seq (.reg l8r3) .ret) .skip)) (.seq (.seq (.reg l8r4) (.block 0 (.loop (.seq (.seq (.reg l8r5) (.cond (.tmp 15) .skip (.exit 0))) (.seq (.block 1 (.seq (.reg l8r6) (.seq (.reg l8r7) (.cond (.tmp 25) (.seq (.reg l8r8) .ret) .skip)))) (.reg l8r9)))))) (.seq (.reg l8r10) .ret))))) [.tmp 4])
theorem l8_eq:lowFn Try.prog 8=some l8:=by kernel_rfl
def l9r0:List AOper :=
  [.mk (some 4) (.mv (.const (.slice none 0 0))) none []]
def l9r1:List AOper :=
  [.mk (some 7) (.mv (.tmp 0)) none [],.mk (some 8) (.call 38 [.tmp 7]) none [0],.mk (some 9) (.un .not (.tmp 8)) none [1]]
def l9r2:List AOper :=
  [.mk (some 4) (.mv (.const (.slice none 0 0))) none []]
def l9r3:List AOper :=
  [.mk (some 10) (.bslice 1 [.int .i64 0] [] 0) none [],.mk (some 5) (.mv (.tmp 10)) none [0,0]]
def l9r4:List AOper :=
  [.mk (some 6) (.mv (.const (.int .i64 0))) none []]
def l9r5:List AOper :=
  [.mk (some 11) (.mv (.tmp 6)) none [],.mk (some 12) (.mv (.tmp 0)) none [],.mk (some 13) (.len (.tmp 12)) none [1],.mk (some 14) (.bin .lss (.tmp 11) (.tmp 13)) none [0,2]]
def l9r6:List AOper :=
  [.mk (some 17) (.mv (.tmp 0)) none [],.mk (some 18) (.mv (.tmp 6)) none [],.mk (some 19) (.idxA 3 (.tmp 17) (.tmp 18)) none [0,1],.mk (some 20) (.load true 3 (.tmp 19)) none [2],.mk (some 21) (.call 40 [.tmp 20]) none [3],.mk (some 22) (.mv (.tmp 1)) none [],.mk (some 23) (.call 39 [.tmp 21,.tmp 22]) none [4,5,4],.mk (some 24) (.bin .geq (.tmp 23) (.const (.int .i64 0))) none [6]]
def l9r7:List AOper :=
  [.mk (some 25) (.mv (.tmp 5)) none [],.mk (some 26) (.mv (.tmp 6)) none [],.mk (some 27) (.bslice 1 [.int .i64 0] [(0,.tmp 26)] 1) none [1],.mk (some 28) (.append 1 (.tmp 25) (.tmp 27)) none [0,2],.mk (some 5) (.mv (.tmp 28)) none [3,3,0,1,2,3]]
def l9r8:List AOper :=
  [.mk (some 15) (.mv (.tmp 6)) none [],.mk (some 16) (.bin .add (.tmp 15) (.const (.int .i64 1))) none [0],.mk (some 6) (.mv (.tmp 16)) none [1,0,1]]
def l9r9:List AOper :=
  [.mk (some 29) (.mv (.tmp 5)) none [],.mk (some 4) (.mv (.tmp 29)) none [0,0]]
def l9:AFn :=
  (AFn.mk 30 2 (.seq (.reg l9r0) (.seq (.seq (.reg l9r1) (.cond (.tmp 9) (.seq (.reg l9r2) .ret) .skip)) (.seq (.reg l9r3) (.seq (.seq (.reg l9r4) (.block 0 (.loop (.seq (.seq (.reg l9r5) (.cond (.tmp 14) .skip (.exit 0))) (.seq (.block 1 (.seq (.reg l9r6) (.cond (.tmp 24) (.reg l9r7) .skip))) (.reg l9r8)))))) (.seq (.reg l9r9) .ret))))) [.tmp 4])
theorem l9_eq:lowFn Try.prog 9=some l9:=by kernel_rfl
def l10r0:List AOper :=
  [.mk (some 2) (.mv (.const (.slice none 0 0))) none []]
def l10r1:List AOper :=
  [.mk (some 5) (.mv (.tmp 0)) none [],.mk (some 6) (.len (.tmp 5)) none [0],.mk (some 7) (.mkslice 3 [.int .i64 0,.slice none 0 0,.slice none 0 0] (.tmp 6) (.tmp 6)) none [1,1],.mk (some 3) (.mv (.tmp 7)) none [2,0,1,2]]
def l10r2:List AOper :=
  [.mk (some 4) (.mv (.const (.int .i64 0))) none []]
def l10r3:List AOper :=
  [.mk (some 8) (.mv (.tmp 4)) none [],.mk (some 9) (.mv (.tmp 0)) none [],.mk (some 10) (.len (.tmp 9)) none [1],.mk (some 11) (.bin .lss (.tmp 8) (.tmp 10)) none [0,2]]
def l10r4:List AOper :=
  [.mk (some 14) (.mv (.tmp 3)) none [],.mk (some 15) (.mv (.tmp 4)) none [],.mk (some 16) (.mv (.tmp 0)) none [],.mk (some 17) (.mv (.tmp 4)) none [],.mk (some 18) (.idxA 3 (.tmp 16) (.tmp 17)) none [2,3],.mk (some 19) (.load true 3 (.tmp 18)) none [4],.mk (some 20) (.call 41 [.tmp 19]) none [5],.mk (some 21) (.idxA 3 (.tmp 14) (.tmp 15)) none [0,1,0,1,2,3,4,5,6],.mk none (.store 3 (.tmp 21) (.tmp 20)) none [7,6,6,0,1,2,3,4,5,6]]
def l10r5:List AOper :=
  [.mk (some 12) (.mv (.tmp 4)) none [],.mk (some 13) (.bin .add (.tmp 12) (.const (.int .i64 1))) none [0],.mk (some 4) (.mv (.tmp 13)) none [1,0,1]]
def l10r6:List AOper :=
  [.mk (some 22) (.mv (.tmp 3)) none [],.mk (some 2) (.mv (.tmp 22)) none [0,0]]
def l10:AFn :=
  (AFn.mk 23 1 (.seq (.reg l10r0) (.seq (.reg l10r1) (.seq (.seq (.reg l10r2) (.block 0 (.loop (.seq (.seq (.reg l10r3) (.cond (.tmp 11) .skip (.exit 0))) (.seq (.block 1 (.reg l10r4)) (.reg l10r5)))))) (.seq (.reg l10r6) .ret)))) [.tmp 2])
theorem l10_eq:lowFn Try.prog 10=some l10:=by kernel_rfl
def l11r0:List AOper :=
  [.mk (some 4) (.mv (.const (.slice none 0 0))) none []]
def l11r1:List AOper :=
  [.mk (some 9) (.mv (.tmp 0)) none [],.mk (some 10) (.call 42 [.tmp 9]) none [0],.mk (some 11) (.un .not (.tmp 10)) none [1]]
def l11r2:List AOper :=
  [.mk (some 4) (.mv (.const (.slice none 0 0))) none []]
def l11r3:List AOper :=
  [.mk (some 5) (.mv (.const (.slice none 0 0))) none []]
def l11r4:List AOper :=
  [.mk (some 12) (.raw (Op.makeMap 65 none)) none [],.mk (some 6) (.mv (.tmp 12)) none [0,0]]
def l11r5:List AOper :=
  [.mk (some 13) (.mv (.tmp 0)) none [],.mk (some 14) (.len (.tmp 13)) none [0],.mk (some 15) (.mv (.const (.int .i64 0))) none []]
def l11r6:List AOper :=
  [.mk (some 16) (.bin .lss (.tmp 15) (.tmp 14)) none []]
def l11r7:List AOper :=
  [.mk (some 17) (.mv (.tmp 15)) none [],.mk (some 18) (.idxA 3 (.tmp 13) (.tmp 15)) none [],.mk (some 19) (.load true 3 (.tmp 18)) none [1],.mk (some 8) (.alloc [.int .i64 0,.slice none 0 0,.slice none 0 0]) none [],.mk (some 7) (.mv (.tmp 17)) none [0,0,1,2,3],.mk none (.store 3 (.tmp 8) (.tmp 19)) none [3,2,4,0,1,2,3,4]]
def l11r8:List AOper :=
  [.mk (some 20) (.mv (.tmp 6)) none [],.mk none (.raw (Op.call (Call.mk (Callee.builtin Builtin.clear) (Array.mk [.tmp 20]) (Array.mk [65])))) none [0]]
def l11r9:List AOper :=
  [.mk (some 21) (.mv (.tmp 6)) none [],.mk (some 22) (.load true 3 (.tmp 8)) none [],.mk (some 23) (.call 44 [.tmp 22]) none [1],.mk (some 24) (.call 43 [.tmp 21,.tmp 23]) none [0,2,2]]
def l11r10:List AOper :=
  [.mk (some 25) (.mv (.tmp 6)) none [],.mk (some 26) (.mv (.tmp 1)) none [],.mk (some 27) (.raw (Op.lookup 65 (.tmp 25) (.tmp 26) false)) none [0,1],.mk (some 28) (.bin .gtr (.tmp 27) (.const (.int .i64 0))) none [2]]
def l11r11:List AOper :=
  [.mk (some 29) (.mv (.tmp 5)) none [],.mk (some 30) (.mv (.tmp 7)) none [],.mk (some 31) (.bslice 1 [.int .i64 0] [(0,.tmp 30)] 1) none [1],.mk (some 32) (.append 1 (.tmp 29) (.tmp 31)) none [0,2],.mk (some 5) (.mv (.tmp 32)) none [3,3,0,1,2,3]]
def l11r12:List AOper :=
  [.mk (some 33) (.bin .add (.tmp 15) (.const (.int .i64 1))) none [],.mk (some 15) (.mv (.tmp 33)) none [0]]
def l11r13:List AOper :=
  [.mk (some 34) (.mv (.tmp 5)) none [],.mk (some 4) (.mv (.tmp 34)) none [0,0]]
def l11:AFn :=
  (AFn.mk 35 2 (.seq (.reg l11r0) (.seq (.seq (.reg l11r1) (.cond (.tmp 11) (.seq (.reg l11r2) .ret) .skip)) (.seq (.reg l11r3) (.seq (.reg l11r4) (.seq (.seq (.reg l11r5) (.block 0 (.loop (.seq (.reg l11r6) (.seq (.cond (.tmp 16) .skip (.exit 0)) (.seq (.block 1 (.seq (.reg l11r7) (.seq (.reg l11r8) (.seq (.reg l11r9) (.seq (.reg l11r10) (.cond (.tmp 28) (.reg l11r11) .skip)))))) (.reg l11r12))))))) (.seq (.reg l11r13) .ret)))))) [.tmp 4])
theorem l11_eq:lowFn Try.prog 11=some l11:=by kernel_rfl
def l12r0:List AOper :=
  [.mk (some 4) (.mv (.const (.bool false))) none []]
def l12r1:List AOper :=
  [.mk (some 6) (.mv (.tmp 0)) none [],.mk (some 7) (.len (.tmp 6)) none [0],.mk (some 8) (.mv (.tmp 1)) none [],.mk (some 9) (.len (.tmp 8)) none [2],.mk (some 10) (.bin .neq (.tmp 7) (.tmp 9)) none [1,3]]
def l12r2:List AOper :=
  [.mk (some 4) (.mv (.const (.bool false))) none []]
def l12r3:List AOper :=
  [.mk (some 5) (.mv (.const (.int .i64 0))) none []]
def l12r4:List AOper :=
  [.mk (some 11) (.mv (.tmp 5)) none [],.mk (some 12) (.mv (.tmp 0)) none [],.mk (some 13) (.len (.tmp 12)) none [1],.mk (some 14) (.bin .lss (.tmp 11) (.tmp 13)) none [0,2]]
def l12r5a:List AOper :=
  [.mk (some 17) (.mv (.tmp 0)) none [],.mk (some 18) (.mv (.tmp 5)) none [],.mk (some 19) (.idxA 1 (.tmp 17) (.tmp 18)) none [0,1],.mk (some 20) (.load false 1 (.tmp 19)) none [2],.mk (some 21) (.mv (.tmp 1)) none [],.mk (some 22) (.mv (.tmp 5)) none [],.mk (some 23) (.idxA 1 (.tmp 21) (.tmp 22)) none [4,5],.mk (some 24) (.load false 1 (.tmp 23)) none [6]]
def l12r5b:List AOper :=
  [.mk (some 25) (.bin .neq (.tmp 20) (.tmp 24)) none [3,7]]
def l12r5:List AOper:=l12r5a ++ l12r5b
def l12r6:List AOper :=
  [.mk (some 4) (.mv (.const (.bool false))) none []]
def l12r7:List AOper :=
  [.mk (some 15) (.mv (.tmp 5)) none [],.mk (some 16) (.bin .add (.tmp 15) (.const (.int .i64 1))) none [0],.mk (some 5) (.mv (.tmp 16)) none [1,0,1]]
def l12r8:List AOper :=
  [.mk (some 4) (.mv (.const (.bool true))) none []]
def l12:AFn :=
  (AFn.mk 26 2 (.seq (.reg l12r0) (.seq (.seq (.reg l12r1) (.cond (.tmp 10) (.seq (.reg l12r2) .ret) .skip)) (.seq (.seq (.reg l12r3) (.block 0 (.loop (.seq (.seq (.reg l12r4) (.cond (.tmp 14) .skip (.exit 0))) (.seq (.block 1 (.seq (.draw l12r5) (.cond (.tmp 25) (.seq (.reg l12r6) .ret) .skip))) (.reg l12r7)))))) (.seq (.reg l12r8) .ret)))) [.tmp 4])
theorem l12_eq:lowFn Try.prog 12=some l12:=by kernel_rfl
def l13r0:List AOper :=
  [.mk (some 4) (.mv (.const (.bool false))) none []]
def l13r1:List AOper :=
  [.mk (some 6) (.mv (.tmp 0)) none [],.mk (some 7) (.len (.tmp 6)) none [0],.mk (some 8) (.mv (.tmp 1)) none [],.mk (some 9) (.len (.tmp 8)) none [2],.mk (some 10) (.bin .neq (.tmp 7) (.tmp 9)) none [1,3]]
def l13r2:List AOper :=
  [.mk (some 4) (.mv (.const (.bool false))) none []]
def l13r3:List AOper :=
  [.mk (some 5) (.mv (.const (.int .i64 0))) none []]
def l13r4:List AOper :=
  [.mk (some 11) (.mv (.tmp 5)) none [],.mk (some 12) (.mv (.tmp 0)) none [],.mk (some 13) (.len (.tmp 12)) none [1],.mk (some 14) (.bin .lss (.tmp 11) (.tmp 13)) none [0,2]]
def l13r5a:List AOper :=
  [.mk (some 17) (.mv (.tmp 0)) none [],.mk (some 18) (.mv (.tmp 5)) none [],.mk (some 19) (.idxA 3 (.tmp 17) (.tmp 18)) none [0,1],.mk (some 20) (.load true 3 (.tmp 19)) none [2],.mk (some 21) (.mv (.tmp 1)) none [],.mk (some 22) (.mv (.tmp 5)) none [],.mk (some 23) (.idxA 3 (.tmp 21) (.tmp 22)) none [4,5],.mk (some 24) (.load true 3 (.tmp 23)) none [6]]
def l13r5b:List AOper :=
  [.mk (some 25) (.call 45 [.tmp 20,.tmp 24]) none [3,7],.mk (some 26) (.un .not (.tmp 25)) none [8]]
def l13r5:List AOper:=l13r5a ++ l13r5b
def l13r6:List AOper :=
  [.mk (some 4) (.mv (.const (.bool false))) none []]
def l13r7:List AOper :=
  [.mk (some 15) (.mv (.tmp 5)) none [],.mk (some 16) (.bin .add (.tmp 15) (.const (.int .i64 1))) none [0],.mk (some 5) (.mv (.tmp 16)) none [1,0,1]]
def l13r8:List AOper :=
  [.mk (some 4) (.mv (.const (.bool true))) none []]
def l13:AFn :=
  (AFn.mk 27 2 (.seq (.reg l13r0) (.seq (.seq (.reg l13r1) (.cond (.tmp 10) (.seq (.reg l13r2) .ret) .skip)) (.seq (.seq (.reg l13r3) (.block 0 (.loop (.seq (.seq (.reg l13r4) (.cond (.tmp 14) .skip (.exit 0))) (.seq (.block 1 (.seq (.draw l13r5) (.cond (.tmp 26) (.seq (.reg l13r6) .ret) .skip))) (.reg l13r7)))))) (.seq (.reg l13r8) .ret)))) [.tmp 4])
theorem l13_eq:lowFn Try.prog 13=some l13:=by kernel_rfl
def l14r0:List AOper :=
  [.mk (some 4) (.mv (.const (.int .i64 0))) none []]
def l14r1:List AOper :=
  [.mk (some 5) (.mv (.const (.int .i64 0))) none []]
def l14r2:List AOper :=
  [.mk (some 6) (.mv (.tmp 5)) none [],.mk (some 7) (.mv (.tmp 0)) none [],.mk (some 8) (.len (.tmp 7)) none [1],.mk (some 9) (.bin .lss (.tmp 6) (.tmp 8)) none [0,2]]
def l14r3:List AOper :=
  [.mk (some 12) (.mv (.tmp 0)) none [],.mk (some 13) (.mv (.tmp 5)) none [],.mk (some 14) (.mv (.tmp 1)) none [],.mk (some 15) (.idxA 3 (.tmp 12) (.tmp 13)) none [0,1,0,1,2],.mk (some 16) (.fld 0 (.tmp 15)) none [3,0,1,2],.mk none (.store 1 (.tmp 16) (.tmp 14)) none [4,2,0,1,2]]
def l14r4:List AOper :=
  [.mk (some 17) (.mv (.tmp 1)) none [],.mk (some 18) (.bin .add (.tmp 17) (.const (.int .i64 1))) none [0],.mk (some 1) (.mv (.tmp 18)) none [1,0,1]]
def l14r5:List AOper :=
  [.mk (some 19) (.mv (.tmp 0)) none [],.mk (some 20) (.mv (.tmp 5)) none [],.mk (some 21) (.idxA 3 (.tmp 19) (.tmp 20)) none [0,1],.mk (some 22) (.fld 1 (.tmp 21)) none [2],.mk (some 23) (.load false 1 (.tmp 22)) none [3],.mk (some 24) (.mv (.tmp 1)) none [],.mk (some 25) (.call 15 [.tmp 23,.tmp 24]) none [4,5],.mk (some 1) (.mv (.tmp 25)) none [6,6,0,1,2,3,4,5,6]]
def l14r6:List AOper :=
  [.mk (some 26) (.mv (.tmp 0)) none [],.mk (some 27) (.mv (.tmp 5)) none [],.mk (some 28) (.idxA 3 (.tmp 26) (.tmp 27)) none [0,1],.mk (some 29) (.fld 2 (.tmp 28)) none [2],.mk (some 30) (.load false 1 (.tmp 29)) none [3],.mk (some 31) (.mv (.tmp 1)) none [],.mk (some 32) (.call 15 [.tmp 30,.tmp 31]) none [4,5],.mk (some 1) (.mv (.tmp 32)) none [6,6,0,1,2,3,4,5,6]]
def l14r7:List AOper :=
  [.mk (some 10) (.mv (.tmp 5)) none [],.mk (some 11) (.bin .add (.tmp 10) (.const (.int .i64 1))) none [0],.mk (some 5) (.mv (.tmp 11)) none [1,0,1]]
def l14r8:List AOper :=
  [.mk (some 33) (.mv (.tmp 1)) none [],.mk (some 4) (.mv (.tmp 33)) none [0,0]]
def l14:AFn :=
  (AFn.mk 34 2 (.seq (.reg l14r0) (.seq (.seq (.reg l14r1) (.block 0 (.loop (.seq (.seq (.reg l14r2) (.cond (.tmp 9) .skip (.exit 0))) (.seq (.block 1 (.seq (.reg l14r3) (.seq (.reg l14r4) (.seq (.reg l14r5) (.reg l14r6))))) (.reg l14r7)))))) (.seq (.reg l14r8) .ret))) [.tmp 4])
theorem l14_eq:lowFn Try.prog 14=some l14:=by kernel_rfl
def l15r0:List AOper :=
  [.mk (some 4) (.mv (.const (.int .i64 0))) none []]
def l15r1:List AOper :=
  [.mk (some 5) (.mv (.const (.int .i64 0))) none []]
def l15r2:List AOper :=
  [.mk (some 6) (.mv (.tmp 5)) none [],.mk (some 7) (.mv (.tmp 0)) none [],.mk (some 8) (.len (.tmp 7)) none [1],.mk (some 9) (.bin .lss (.tmp 6) (.tmp 8)) none [0,2]]
def l15r3:List AOper :=
  [.mk (some 12) (.mv (.tmp 0)) none [],.mk (some 13) (.mv (.tmp 5)) none [],.mk (some 14) (.mv (.tmp 1)) none [],.mk (some 15) (.idxA 1 (.tmp 12) (.tmp 13)) none [0,1,0,1,2],.mk none (.store 1 (.tmp 15) (.tmp 14)) none [3,2,0,1,2]]
def l15r4:List AOper :=
  [.mk (some 16) (.mv (.tmp 1)) none [],.mk (some 17) (.bin .add (.tmp 16) (.const (.int .i64 1))) none [0],.mk (some 1) (.mv (.tmp 17)) none [1,0,1]]
def l15r5:List AOper :=
  [.mk (some 10) (.mv (.tmp 5)) none [],.mk (some 11) (.bin .add (.tmp 10) (.const (.int .i64 1))) none [0],.mk (some 5) (.mv (.tmp 11)) none [1,0,1]]
def l15r6:List AOper :=
  [.mk (some 18) (.mv (.tmp 1)) none [],.mk (some 4) (.mv (.tmp 18)) none [0,0]]
def l15:AFn :=
  (AFn.mk 19 2 (.seq (.reg l15r0) (.seq (.seq (.reg l15r1) (.block 0 (.loop (.seq (.seq (.reg l15r2) (.cond (.tmp 9) .skip (.exit 0))) (.seq (.block 1 (.seq (.reg l15r3) (.reg l15r4))) (.reg l15r5)))))) (.seq (.reg l15r6) .ret))) [.tmp 4])
theorem l15_eq:lowFn Try.prog 15=some l15:=by kernel_rfl
def l16r0:List AOper :=
  [.mk (some 4) (.mv (.const (.int .i64 0))) none []]
def l16r1:List AOper :=
  [.mk (some 5) (.mv (.const (.int .i64 0))) none []]
def l16r2:List AOper :=
  [.mk (some 6) (.mv (.tmp 5)) none [],.mk (some 7) (.mv (.tmp 0)) none [],.mk (some 8) (.len (.tmp 7)) none [1],.mk (some 9) (.bin .lss (.tmp 6) (.tmp 8)) none [0,2]]
def l16r3:List AOper :=
  [.mk (some 12) (.mv (.tmp 0)) none [],.mk (some 13) (.mv (.tmp 5)) none [],.mk (some 14) (.idxA 1 (.tmp 12) (.tmp 13)) none [0,1],.mk (some 15) (.load false 1 (.tmp 14)) none [2],.mk (some 16) (.mv (.tmp 1)) none [],.mk (some 17) (.bin .neq (.tmp 15) (.tmp 16)) none [3,4]]
def l16r4:List AOper :=
  [.mk (some 4) (.mv (.const (.int .i64 (-1)))) none []]
def l16r5:List AOper :=
  [.mk (some 18) (.mv (.tmp 1)) none [],.mk (some 19) (.bin .add (.tmp 18) (.const (.int .i64 1))) none [0],.mk (some 1) (.mv (.tmp 19)) none [1,0,1]]
def l16r6:List AOper :=
  [.mk (some 10) (.mv (.tmp 5)) none [],.mk (some 11) (.bin .add (.tmp 10) (.const (.int .i64 1))) none [0],.mk (some 5) (.mv (.tmp 11)) none [1,0,1]]
def l16r7:List AOper :=
  [.mk (some 20) (.mv (.tmp 1)) none [],.mk (some 4) (.mv (.tmp 20)) none [0,0]]
def l16:AFn :=
  (AFn.mk 21 2 (.seq (.reg l16r0) (.seq (.seq (.reg l16r1) (.block 0 (.loop (.seq (.seq (.reg l16r2) (.cond (.tmp 9) .skip (.exit 0))) (.seq (.block 1 (.seq (.seq (.reg l16r3) (.cond (.tmp 17) (.seq (.reg l16r4) .ret) .skip)) (.reg l16r5))) (.reg l16r6)))))) (.seq (.reg l16r7) .ret))) [.tmp 4])
theorem l16_eq:lowFn Try.prog 16=some l16:=by kernel_rfl
def l28r0:List AOper :=
  [.mk (some 2) (.mv (.const (.slice none 0 0))) none []]
def l28r1:List AOper :=
  [.mk (some 5) (.mv (.tmp 0)) none [],.mk (some 6) (.len (.tmp 5)) none [0],.mk (some 7) (.mkslice 1 [.int .i64 0] (.tmp 6) (.tmp 6)) none [1,1],.mk (some 3) (.mv (.tmp 7)) none [2,0,1,2]]
def l28r2:List AOper :=
  [.mk (some 4) (.mv (.const (.int .i64 0))) none []]
def l28r3:List AOper :=
  [.mk (some 8) (.mv (.tmp 4)) none [],.mk (some 9) (.mv (.tmp 0)) none [],.mk (some 10) (.len (.tmp 9)) none [1],.mk (some 11) (.bin .lss (.tmp 8) (.tmp 10)) none [0,2]]
def l28r4:List AOper :=
  [.mk (some 14) (.mv (.tmp 3)) none [],.mk (some 15) (.mv (.tmp 4)) none [],.mk (some 16) (.mv (.tmp 0)) none [],.mk (some 17) (.mv (.tmp 4)) none [],.mk (some 18) (.idxA 1 (.tmp 16) (.tmp 17)) none [2,3],.mk (some 19) (.load false 1 (.tmp 18)) none [4],.mk (some 20) (.idxA 1 (.tmp 14) (.tmp 15)) none [0,1,0,1,2,3,4,5],.mk none (.store 1 (.tmp 20) (.tmp 19)) none [6,5,0,1,2,3,4,5]]
def l28r5:List AOper :=
  [.mk (some 12) (.mv (.tmp 4)) none [],.mk (some 13) (.bin .add (.tmp 12) (.const (.int .i64 1))) none [0],.mk (some 4) (.mv (.tmp 13)) none [1,0,1]]
def l28r6:List AOper :=
  [.mk (some 21) (.mv (.tmp 3)) none [],.mk (some 2) (.mv (.tmp 21)) none [0,0]]
def l28:AFn :=
  (AFn.mk 22 1 (.seq (.reg l28r0) (.seq (.reg l28r1) (.seq (.seq (.reg l28r2) (.block 0 (.loop (.seq (.seq (.reg l28r3) (.cond (.tmp 11) .skip (.exit 0))) (.seq (.block 1 (.reg l28r4)) (.reg l28r5)))))) (.seq (.reg l28r6) .ret)))) [.tmp 2])
theorem l28_eq:lowFn Try.prog 28=some l28:=by kernel_rfl
def l37r0:List AOper :=
  [.mk (some 2) (.box (.tmp 0)) none [],.mk (some 4) (.mv (.const (.int .i64 0))) none []]
def l37r1:List AOper :=
  [.mk (some 5) (.fld 1 (.tmp 2)) none [],.mk (some 6) (.load false 1 (.tmp 5)) none [0],.mk (some 7) (.mv (.tmp 1)) none [],.mk (some 8) (.call 47 [.tmp 6,.tmp 7]) none [1,2],.mk (some 1) (.mv (.tmp 8)) none [3,3,0,1,2,3]]
def l37r2:List AOper :=
  [.mk (some 9) (.mv (.tmp 1)) none [],.mk (some 10) (.bin .lss (.tmp 9) (.const (.int .i64 0))) none [0]]
def l37r3:List AOper :=
  [.mk (some 4) (.mv (.const (.int .i64 (-1)))) none []]
def l37r4:List AOper :=
  [.mk (some 11) (.fld 2 (.tmp 2)) none [],.mk (some 12) (.load false 1 (.tmp 11)) none [0],.mk (some 13) (.mv (.tmp 1)) none [],.mk (some 14) (.call 47 [.tmp 12,.tmp 13]) none [1,2],.mk (some 1) (.mv (.tmp 14)) none [3,3,0,1,2,3]]
def l37r5:List AOper :=
  [.mk (some 15) (.mv (.tmp 1)) none [],.mk (some 16) (.bin .lss (.tmp 15) (.const (.int .i64 0))) none [0]]
def l37r6:List AOper :=
  [.mk (some 4) (.mv (.const (.int .i64 (-1)))) none []]
def l37r7:List AOper :=
  [.mk (some 17) (.mv (.tmp 1)) none [],.mk (some 4) (.mv (.tmp 17)) none [0,0]]
def l37:AFn :=
  (AFn.mk 18 2 (.seq (.reg l37r0) (.seq (.reg l37r1) (.seq (.seq (.reg l37r2) (.cond (.tmp 10) (.seq (.reg l37r3) .ret) .skip)) (.seq (.reg l37r4) (.seq (.seq (.reg l37r5) (.cond (.tmp 16) (.seq (.reg l37r6) .ret) .skip)) (.seq (.reg l37r7) .ret)))))) [.tmp 4])
theorem l37_eq:lowFn Try.prog 37=some l37:=by kernel_rfl
def l38r0:List AOper :=
  [.mk (some 2) (.mv (.const (.bool false))) none []]
def l38r1:List AOper :=
  [.mk (some 3) (.mv (.const (.int .i64 0))) none []]
def l38r2:List AOper :=
  [.mk (some 4) (.mv (.tmp 3)) none [],.mk (some 5) (.mv (.tmp 0)) none [],.mk (some 6) (.len (.tmp 5)) none [1],.mk (some 7) (.bin .lss (.tmp 4) (.tmp 6)) none [0,2]]
def l38r3:List AOper :=
  [.mk (some 10) (.mv (.tmp 0)) none [],.mk (some 11) (.mv (.tmp 3)) none [],.mk (some 12) (.idxA 3 (.tmp 10) (.tmp 11)) none [0,1],.mk (some 13) (.load true 3 (.tmp 12)) none [2],.mk (some 14) (.call 68 [.tmp 13]) none [3],.mk (some 15) (.un .not (.tmp 14)) none [4]]
def l38r4:List AOper :=
  [.mk (some 2) (.mv (.const (.bool false))) none []]
def l38r5:List AOper :=
  [.mk (some 8) (.mv (.tmp 3)) none [],.mk (some 9) (.bin .add (.tmp 8) (.const (.int .i64 1))) none [0],.mk (some 3) (.mv (.tmp 9)) none [1,0,1]]
def l38r6:List AOper :=
  [.mk (some 16) (.mv (.tmp 0)) none [],.mk (some 17) (.len (.tmp 16)) none [0],.mk (some 18) (.bin .leq (.tmp 17) (.const (.int .i64 8))) none [1],.mk (some 2) (.mv (.tmp 18)) none [2,0,1,2]]
def l38:AFn :=
  (AFn.mk 19 1 (.seq (.reg l38r0) (.seq (.seq (.reg l38r1) (.block 0 (.loop (.seq (.seq (.reg l38r2) (.cond (.tmp 7) .skip (.exit 0))) (.seq (.block 1 (.seq (.reg l38r3) (.cond (.tmp 15) (.seq (.reg l38r4) .ret) .skip))) (.reg l38r5)))))) (.seq (.reg l38r6) .ret))) [.tmp 2])
theorem l38_eq:lowFn Try.prog 38=some l38:=by kernel_rfl
def l39r0:List AOper :=
  [.mk (some 4) (.mv (.const (.int .i64 0))) none []]
def l39r1:List AOper :=
  [.mk (some 5) (.mv (.const (.int .i64 0))) none []]
def l39r2:List AOper :=
  [.mk (some 6) (.mv (.tmp 5)) none [],.mk (some 7) (.mv (.tmp 0)) none [],.mk (some 8) (.len (.tmp 7)) none [1],.mk (some 9) (.bin .lss (.tmp 6) (.tmp 8)) none [0,2]]
def l39r3:List AOper :=
  [.mk (some 12) (.mv (.tmp 0)) none [],.mk (some 13) (.mv (.tmp 5)) none [],.mk (some 14) (.idxA 1 (.tmp 12) (.tmp 13)) none [0,1],.mk (some 15) (.load false 1 (.tmp 14)) none [2],.mk (some 16) (.mv (.tmp 1)) none [],.mk (some 17) (.bin .eql (.tmp 15) (.tmp 16)) none [3,4]]
def l39r4:List AOper :=
  [.mk (some 18) (.mv (.tmp 5)) none [],.mk (some 4) (.mv (.tmp 18)) none [0,0]]
def l39r5:List AOper :=
  [.mk (some 10) (.mv (.tmp 5)) none [],.mk (some 11) (.bin .add (.tmp 10) (.const (.int .i64 1))) none [0],.mk (some 5) (.mv (.tmp 11)) none [1,0,1]]
def l39r6:List AOper :=
  [.mk (some 4) (.mv (.const (.int .i64 (-1)))) none []]
def l39:AFn :=
  (AFn.mk 19 2 (.seq (.reg l39r0) (.seq (.seq (.reg l39r1) (.block 0 (.loop (.seq (.seq (.reg l39r2) (.cond (.tmp 9) .skip (.exit 0))) (.seq (.block 1 (.seq (.reg l39r3) (.cond (.tmp 17) (.seq (.reg l39r4) .ret) .skip))) (.reg l39r5)))))) (.seq (.reg l39r6) .ret))) [.tmp 4])
theorem l39_eq:lowFn Try.prog 39=some l39:=by kernel_rfl
def l40r0:List AOper :=
  [.mk (some 1) (.box (.tmp 0)) none [],.mk (some 2) (.mv (.const (.slice none 0 0))) none []]
def l40r1:List AOper :=
  [.mk (some 5) (.bslice 1 [.int .i64 0] [] 0) none [],.mk (some 3) (.mv (.tmp 5)) none [0,0]]
def l40r2:List AOper :=
  [.mk (some 4) (.mv (.const (.int .i64 0))) none []]
def l40r3:List AOper :=
  [.mk (some 6) (.mv (.tmp 4)) none [],.mk (some 7) (.fld 1 (.tmp 1)) none [],.mk (some 8) (.load false 1 (.tmp 7)) none [1],.mk (some 9) (.call 69 [.tmp 8]) none [2],.mk (some 10) (.bin .lss (.tmp 6) (.tmp 9)) none [0,3]]
def l40r4a:List AOper :=
  [.mk (some 13) (.mv (.tmp 3)) none [],.mk (some 14) (.load true 3 (.tmp 1)) none [],.mk (some 15) (.fld 1 (.tmp 1)) none [],.mk (some 16) (.load false 1 (.tmp 15)) none [2],.mk (some 17) (.mv (.tmp 4)) none [],.mk (some 18) (.call 71 [.tmp 16,.tmp 17]) none [3,4],.mk (some 19) (.call 70 [.tmp 14,.tmp 18]) none [1,5,5],.mk (some 20) (.bslice 1 [.int .i64 0] [(0,.tmp 19)] 1) none [6]]
def l40r4b:List AOper :=
  [.mk (some 21) (.append 1 (.tmp 13) (.tmp 20)) none [0,7,6],.mk (some 3) (.mv (.tmp 21)) none [8,8,0,1,2,3,4,5,6,7,8]]
def l40r4:List AOper:=l40r4a ++ l40r4b
def l40r5:List AOper :=
  [.mk (some 11) (.mv (.tmp 4)) none [],.mk (some 12) (.bin .add (.tmp 11) (.const (.int .i64 1))) none [0],.mk (some 4) (.mv (.tmp 12)) none [1,0,1]]
def l40r6:List AOper :=
  [.mk (some 22) (.mv (.tmp 3)) none [],.mk (some 2) (.mv (.tmp 22)) none [0,0]]
def l40:AFn :=
  (AFn.mk 23 1 (.seq (.reg l40r0) (.seq (.reg l40r1) (.seq (.seq (.reg l40r2) (.block 0 (.loop (.seq (.seq (.reg l40r3) (.cond (.tmp 10) .skip (.exit 0))) (.seq (.block 1 (.draw l40r4)) (.reg l40r5)))))) (.seq (.reg l40r6) .ret)))) [.tmp 2])
theorem l40_eq:lowFn Try.prog 40=some l40:=by kernel_rfl
def l41r0:List AOper :=
  [.mk (some 1) (.box (.tmp 0)) none [],.mk (some 2) (.alloc [.int .i64 0,.slice none 0 0,.slice none 0 0]) none []]
def l41r1:List AOper :=
  [.mk (some 3) (.alloc [.int .i64 0,.slice none 0 0,.slice none 0 0]) none []]
def l41r2:List AOper :=
  [.mk (some 4) (.fld 0 (.tmp 1)) none [],.mk (some 5) (.load false 1 (.tmp 4)) none [0],.mk (some 6) (.fld 0 (.tmp 3)) none [0,1],.mk none (.store 1 (.tmp 6) (.tmp 5)) none [2,1,0,1]]
def l41r3:List AOper :=
  [.mk (some 7) (.fld 1 (.tmp 1)) none [],.mk (some 8) (.load false 1 (.tmp 7)) none [0],.mk (some 9) (.call 28 [.tmp 8]) none [1],.mk (some 10) (.fld 1 (.tmp 3)) none [0,1,2],.mk none (.store 1 (.tmp 10) (.tmp 9)) none [3,2,2,0,1,2]]
def l41r4:List AOper :=
  [.mk (some 11) (.fld 2 (.tmp 1)) none [],.mk (some 12) (.load false 1 (.tmp 11)) none [0],.mk (some 13) (.call 28 [.tmp 12]) none [1],.mk (some 14) (.fld 2 (.tmp 3)) none [0,1,2],.mk none (.store 1 (.tmp 14) (.tmp 13)) none [3,2,2,0,1,2]]
def l41r5:List AOper :=
  [.mk (some 15) (.load true 3 (.tmp 3)) none [],.mk none (.store 3 (.tmp 2) (.tmp 15)) none [0,0]]
def l41:AFn :=
  (AFn.mk 16 1 (.seq (.reg l41r0) (.seq (.reg l41r1) (.seq (.reg l41r2) (.seq (.reg l41r3) (.seq (.reg l41r4) (.seq (.reg l41r5) .ret)))))) [.cell 2 true 3])
theorem l41_eq:lowFn Try.prog 41=some l41:=by kernel_rfl
def l42r0:List AOper :=
  [.mk (some 2) (.mv (.const (.bool false))) none []]
def l42r1:List AOper :=
  [.mk (some 5) (.mv (.tmp 0)) none [],.mk (some 6) (.len (.tmp 5)) none [0],.mk (some 7) (.bin .gtr (.tmp 6) (.const (.int .i64 8))) none [1]]
def l42r2:List AOper :=
  [.mk (some 2) (.mv (.const (.bool false))) none []]
def l42r3:List AOper :=
  [.mk (some 8) (.mv (.tmp 0)) none [],.mk (some 9) (.len (.tmp 8)) none [0],.mk (some 10) (.mv (.const (.int .i64 0))) none []]
def l42r4:List AOper :=
  [.mk (some 11) (.bin .lss (.tmp 10) (.tmp 9)) none []]
def l42r5:List AOper :=
  [.mk (some 12) (.idxA 3 (.tmp 8) (.tmp 10)) none [],.mk (some 13) (.load true 3 (.tmp 12)) none [0],.mk (some 4) (.alloc [.int .i64 0,.slice none 0 0,.slice none 0 0]) none [],.mk none (.store 3 (.tmp 4) (.tmp 13)) none [2,1,0,1,2]]
def l42r6:List AOper :=
  [.mk (some 14) (.load true 3 (.tmp 4)) none [],.mk (some 15) (.call 72 [.tmp 14]) none [0],.mk (some 16) (.un .not (.tmp 15)) none [1]]
def l42r7:List AOper :=
  [.mk (some 2) (.mv (.const (.bool false))) none []]
def l42r8:List AOper :=
  [.mk (some 17) (.bin .add (.tmp 10) (.const (.int .i64 1))) none [],.mk (some 10) (.mv (.tmp 17)) none [0]]
def l42r9:List AOper :=
  [.mk (some 2) (.mv (.const (.bool true))) none []]
def l42:AFn :=
  (AFn.mk 18 1 (.seq (.reg l42r0) (.seq (.seq (.reg l42r1) (.cond (.tmp 7) (.seq (.reg l42r2) .ret) .skip)) (.seq (.seq (.reg l42r3) (.block 0 (.loop (.seq (.reg l42r4) (.seq (.cond (.tmp 11) .skip (.exit 0)) (.seq (.block 1 (.seq (.reg l42r5) (.seq (.reg l42r6) (.cond (.tmp 16) (.seq (.reg l42r7) .ret) .skip)))) (.reg l42r8))))))) (.seq (.reg l42r9) .ret)))) [.tmp 2])
theorem l42_eq:lowFn Try.prog 42=some l42:=by kernel_rfl
def l43r0:List AOper :=
  [.mk (some 6) (.mv (.tmp 1)) none [],.mk (some 7) (.len (.tmp 6)) none [0],.mk (some 8) (.mv (.const (.int .i64 0))) none []]
def l43r1:List AOper :=
  [.mk (some 9) (.bin .lss (.tmp 8) (.tmp 7)) none []]
def l43r2:List AOper :=
  [.mk (some 10) (.idxA 1 (.tmp 6) (.tmp 8)) none [],.mk (some 11) (.load false 1 (.tmp 10)) none [0],.mk (some 5) (.mv (.tmp 11)) none [1,0,1]]
def l43r3:List AOper :=
  [.mk (some 12) (.mv (.tmp 0)) none [],.mk (some 13) (.mv (.tmp 5)) none [],.mk (some 14) (.raw (Op.lookup 65 (.tmp 12) (.tmp 13) false)) none [0,1],.mk (some 15) (.bin .add (.tmp 14) (.const (.int .i64 1))) none [2],.mk none (.raw (Op.mapUpdate 65 (.tmp 12) (.tmp 13) (.tmp 15))) none [0,1,3,0,1,2,3]]
def l43r4:List AOper :=
  [.mk (some 16) (.bin .add (.tmp 8) (.const (.int .i64 1))) none [],.mk (some 8) (.mv (.tmp 16)) none [0]]
def l43:AFn :=
  (AFn.mk 17 2 (.seq (.reg l43r0) (.block 0 (.loop (.seq (.reg l43r1) (.seq (.cond (.tmp 9) .skip (.exit 0)) (.seq (.block 1 (.seq (.reg l43r2) (.reg l43r3))) (.reg l43r4))))))) [])
theorem l43_eq:lowFn Try.prog 43=some l43:=by kernel_rfl
def l44r0:List AOper :=
  [.mk (some 1) (.box (.tmp 0)) none [],.mk (some 2) (.mv (.const (.slice none 0 0))) none []]
def l44r1:List AOper :=
  [.mk (some 5) (.load true 3 (.tmp 1)) none [],.mk (some 6) (.call 73 [.tmp 5]) none [0],.mk (some 7) (.mkslice 1 [.int .i64 0] (.tmp 6) (.tmp 6)) none [1,1],.mk (some 3) (.mv (.tmp 7)) none [2,1,0,1,2]]
def l44r2:List AOper :=
  [.mk (some 8) (.mv (.tmp 3)) none [],.mk (some 9) (.len (.tmp 8)) none [0],.mk (some 10) (.mv (.const (.int .i64 0))) none []]
def l44r3:List AOper :=
  [.mk (some 11) (.bin .lss (.tmp 10) (.tmp 9)) none []]
def l44r4:List AOper :=
  [.mk (some 12) (.mv (.tmp 10)) none [],.mk (some 4) (.mv (.tmp 12)) none [0,0]]
def l44r5a:List AOper :=
  [.mk (some 13) (.mv (.tmp 3)) none [],.mk (some 14) (.mv (.tmp 4)) none [],.mk (some 15) (.load true 3 (.tmp 1)) none [],.mk (some 16) (.fld 1 (.tmp 1)) none [],.mk (some 17) (.load false 1 (.tmp 16)) none [3],.mk (some 18) (.mv (.tmp 4)) none [],.mk (some 19) (.call 75 [.tmp 17,.tmp 18]) none [4,5],.mk (some 20) (.call 74 [.tmp 15,.tmp 19]) none [2,6,6]]
def l44r5b:List AOper :=
  [.mk (some 21) (.idxA 1 (.tmp 13) (.tmp 14)) none [0,1,0,1,2,3,4,5,6,7],.mk none (.store 1 (.tmp 21) (.tmp 20)) none [8,7,7,0,1,2,3,4,5,6,7]]
def l44r5:List AOper:=l44r5a ++ l44r5b
def l44r6:List AOper :=
  [.mk (some 22) (.bin .add (.tmp 10) (.const (.int .i64 1))) none [],.mk (some 10) (.mv (.tmp 22)) none [0]]
def l44r7:List AOper :=
  [.mk (some 23) (.mv (.tmp 3)) none [],.mk (some 2) (.mv (.tmp 23)) none [0,0]]
def l44:AFn :=
  (AFn.mk 24 1 (.seq (.reg l44r0) (.seq (.reg l44r1) (.seq (.seq (.reg l44r2) (.block 0 (.loop (.seq (.reg l44r3) (.seq (.cond (.tmp 11) .skip (.exit 0)) (.seq (.block 1 (.seq (.reg l44r4) (.draw l44r5))) (.reg l44r6))))))) (.seq (.reg l44r7) .ret)))) [.tmp 2])
theorem l44_eq:lowFn Try.prog 44=some l44:=by kernel_rfl
def l45r0:List AOper :=
  [.mk (some 2) (.box (.tmp 0)) none [],.mk (some 3) (.box (.tmp 1)) none [],.mk (some 4) (.mv (.const (.bool false))) none []]
def l45r1:List AOper :=
  [.mk (some 5) (.fld 0 (.tmp 2)) none [],.mk (some 6) (.load false 1 (.tmp 5)) none [0],.mk (some 7) (.fld 0 (.tmp 3)) none [],.mk (some 8) (.load false 1 (.tmp 7)) none [2],.mk (some 9) (.bin .neq (.tmp 6) (.tmp 8)) none [1,3]]
def l45r2:List AOper :=
  [.mk (some 4) (.mv (.const (.bool false))) none []]
def l45r3:List AOper :=
  [.mk (some 10) (.fld 1 (.tmp 2)) none [],.mk (some 11) (.load false 1 (.tmp 10)) none [0],.mk (some 12) (.fld 1 (.tmp 3)) none [],.mk (some 13) (.load false 1 (.tmp 12)) none [2],.mk (some 14) (.call 12 [.tmp 11,.tmp 13]) none [1,3],.mk (some 15) (.un .not (.tmp 14)) none [4]]
def l45r4:List AOper :=
  [.mk (some 4) (.mv (.const (.bool false))) none []]
def l45r5:List AOper :=
  [.mk (some 16) (.fld 2 (.tmp 2)) none [],.mk (some 17) (.load false 1 (.tmp 16)) none [0],.mk (some 18) (.fld 2 (.tmp 3)) none [],.mk (some 19) (.load false 1 (.tmp 18)) none [2],.mk (some 20) (.call 12 [.tmp 17,.tmp 19]) none [1,3],.mk (some 21) (.un .not (.tmp 20)) none [4]]
def l45r6:List AOper :=
  [.mk (some 4) (.mv (.const (.bool false))) none []]
def l45r7:List AOper :=
  [.mk (some 4) (.mv (.const (.bool true))) none []]
def l45:AFn :=
  (AFn.mk 22 2 (.seq (.reg l45r0) (.seq (.seq (.reg l45r1) (.cond (.tmp 9) (.seq (.reg l45r2) .ret) .skip)) (.seq (.seq (.reg l45r3) (.cond (.tmp 15) (.seq (.reg l45r4) .ret) .skip)) (.seq (.seq (.reg l45r5) (.cond (.tmp 21) (.seq (.reg l45r6) .ret) .skip)) (.seq (.reg l45r7) .ret))))) [.tmp 4])
theorem l45_eq:lowFn Try.prog 45=some l45:=by kernel_rfl
def l47r0:List AOper :=
  [.mk (some 4) (.mv (.const (.int .i64 0))) none []]
def l47r1:List AOper :=
  [.mk (some 5) (.mv (.tmp 1)) none [],.mk (some 6) (.mv (.tmp 0)) none [],.mk (some 7) (.len (.tmp 6)) none [1],.mk (some 8) (.bin .sub (.tmp 5) (.tmp 7)) none [0,2],.mk (some 1) (.mv (.tmp 8)) none [3,0,1,2,3]]
def l47r2:List AOper :=
  [.mk (some 9) (.mv (.tmp 1)) none [],.mk (some 10) (.bin .lss (.tmp 9) (.const (.int .i64 0))) none [0]]
def l47r3:List AOper :=
  [.mk (some 4) (.mv (.const (.int .i64 (-1)))) none []]
def l47r4:List AOper :=
  [.mk (some 11) (.mv (.tmp 1)) none [],.mk (some 4) (.mv (.tmp 11)) none [0,0]]
def l47:AFn :=
  (AFn.mk 12 2 (.seq (.reg l47r0) (.seq (.reg l47r1) (.seq (.seq (.reg l47r2) (.cond (.tmp 10) (.seq (.reg l47r3) .ret) .skip)) (.seq (.reg l47r4) .ret)))) [.tmp 4])
theorem l47_eq:lowFn Try.prog 47=some l47:=by kernel_rfl
def l53r0:List AOper :=
  [.mk (some 6) (.mv (.const (.bool false))) none []]
def l53r1:List AOper :=
  [.mk (some 7) (.mv (.const (.int .i64 0))) none []]
def l53r2:List AOper :=
  [.mk (some 8) (.mv (.tmp 7)) none [],.mk (some 9) (.mv (.tmp 0)) none [],.mk (some 10) (.len (.tmp 9)) none [1],.mk (some 11) (.bin .lss (.tmp 8) (.tmp 10)) none [0,2]]
def l53r3:List AOper :=
  [.mk (some 14) (.mv (.tmp 0)) none [],.mk (some 15) (.mv (.tmp 7)) none [],.mk (some 16) (.idxA 1 (.tmp 14) (.tmp 15)) none [0,1],.mk (some 17) (.load false 1 (.tmp 16)) none [2],.mk (some 18) (.mv (.tmp 1)) none [],.mk (some 19) (.mv (.tmp 2)) none [],.mk (some 20) (.call 54 [.tmp 17,.tmp 18,.tmp 19]) none [3,4,5],.mk (some 21) (.un .not (.tmp 20)) none [6]]
def l53r4:List AOper :=
  [.mk (some 6) (.mv (.const (.bool false))) none []]
def l53r5:List AOper :=
  [.mk (some 12) (.mv (.tmp 7)) none [],.mk (some 13) (.bin .add (.tmp 12) (.const (.int .i64 1))) none [0],.mk (some 7) (.mv (.tmp 13)) none [1,0,1]]
def l53r6:List AOper :=
  [.mk (some 6) (.mv (.const (.bool true))) none []]
def l53:AFn :=
  (AFn.mk 22 3 (.seq (.reg l53r0) (.seq (.seq (.reg l53r1) (.block 0 (.loop (.seq (.seq (.reg l53r2) (.cond (.tmp 11) .skip (.exit 0))) (.seq (.block 1 (.seq (.reg l53r3) (.cond (.tmp 21) (.seq (.reg l53r4) .ret) .skip))) (.reg l53r5)))))) (.seq (.reg l53r6) .ret))) [.tmp 6])
theorem l53_eq:lowFn Try.prog 53=some l53:=by kernel_rfl
def l54r0:List AOper :=
  [.mk (some 6) (.mv (.const (.bool false))) none []]
def l54r1:List AOper :=
  [.mk (some 7) (.mv (.tmp 1)) none [],.mk (some 8) (.mv (.tmp 0)) none [],.mk (some 9) (.bin .leq (.tmp 7) (.tmp 8)) none [0,1],.mk (some 10) (.mv (.tmp 9)) none [2],.mk (some 11) (.mv (.tmp 0)) (some (10,true)) [3],.mk (some 12) (.mv (.tmp 2)) (some (10,true)) [3],.mk (some 13) (.bin .leq (.tmp 11) (.tmp 12)) (some (10,true)) [4,5,3],.mk (some 14) (.pick (.tmp 10) (.tmp 13) (.const (.bool false))) none [3,6],.mk (some 6) (.mv (.tmp 14)) none [7,3,0,1,2,3,4,5,6,7]]
def l54:AFn :=
  (AFn.mk 15 3 (.seq (.reg l54r0) (.seq (.reg l54r1) .ret)) [.tmp 6])
theorem l54_eq:lowFn Try.prog 54=some l54:=by kernel_rfl
def l62r0:List AOper :=
  [.mk (some 2) (.mv (.const (.bool false))) none []]
def l62r1:List AOper :=
  [.mk (some 5) (.mv (.tmp 0)) none [],.mk (some 6) (.len (.tmp 5)) none [0],.mk (some 7) (.bin .gtr (.tmp 6) (.const (.int .i64 4))) none [1]]
def l62r2:List AOper :=
  [.mk (some 2) (.mv (.const (.bool false))) none []]
def l62r3:List AOper :=
  [.mk (some 8) (.mv (.tmp 0)) none [],.mk (some 9) (.len (.tmp 8)) none [0],.mk (some 10) (.mv (.const (.int .i64 0))) none []]
def l62r4:List AOper :=
  [.mk (some 11) (.bin .lss (.tmp 10) (.tmp 9)) none []]
def l62r5:List AOper :=
  [.mk (some 12) (.idxA 1 (.tmp 8) (.tmp 10)) none [],.mk (some 13) (.load false 1 (.tmp 12)) none [0],.mk (some 4) (.mv (.tmp 13)) none [1,0,1]]
def l62r6:List AOper :=
  [.mk (some 14) (.mv (.tmp 4)) none [],.mk (some 15) (.call 80 [.tmp 14,.const (.int .i64 60)]) none [0],.mk (some 16) (.un .not (.tmp 15)) none [1]]
def l62r7:List AOper :=
  [.mk (some 2) (.mv (.const (.bool false))) none []]
def l62r8:List AOper :=
  [.mk (some 17) (.bin .add (.tmp 10) (.const (.int .i64 1))) none [],.mk (some 10) (.mv (.tmp 17)) none [0]]
def l62r9:List AOper :=
  [.mk (some 18) (.mv (.tmp 0)) none [],.mk (some 19) (.call 86 [.tmp 18]) none [0],.mk (some 20) (.bin .leq (.tmp 19) (.const (.int .i64 60))) none [1],.mk (some 2) (.mv (.tmp 20)) none [2,1,0,1,2]]
def l62:AFn :=
  (AFn.mk 21 1 (.seq (.reg l62r0) (.seq (.seq (.reg l62r1) (.cond (.tmp 7) (.seq (.reg l62r2) .ret) .skip)) (.seq (.seq (.reg l62r3) (.block 0 (.loop (.seq (.reg l62r4) (.seq (.cond (.tmp 11) .skip (.exit 0)) (.seq (.block 1 (.seq (.reg l62r5) (.seq (.reg l62r6) (.cond (.tmp 16) (.seq (.reg l62r7) .ret) .skip)))) (.reg l62r8))))))) (.seq (.reg l62r9) .ret)))) [.tmp 2])
theorem l62_eq:lowFn Try.prog 62=some l62:=by kernel_rfl
def l68r0:List AOper :=
  [.mk (some 1) (.box (.tmp 0)) none [],.mk (some 2) (.mv (.const (.bool false))) none []]
def l68r1:List AOper :=
  [.mk (some 3) (.fld 1 (.tmp 1)) none [],.mk (some 4) (.load false 1 (.tmp 3)) none [0],.mk (some 5) (.call 92 [.tmp 4]) none [1],.mk (some 6) (.mv (.tmp 5)) none [2,2],.mk (some 7) (.fld 2 (.tmp 1)) (some (6,true)) [3],.mk (some 8) (.load false 1 (.tmp 7)) (some (6,true)) [4,3],.mk (some 9) (.len (.tmp 8)) (some (6,true)) [5,3],.mk (some 10) (.fld 1 (.tmp 1)) (some (6,true)) [3],.mk (some 11) (.load false 1 (.tmp 10)) (some (6,true)) [7,3],.mk (some 12) (.len (.tmp 11)) (some (6,true)) [8,3],.mk (some 13) (.bin .eql (.tmp 9) (.tmp 12)) (some (6,true)) [6,9,3],.mk (some 14) (.pick (.tmp 6) (.tmp 13) (.const (.bool false))) none [3,10],.mk (some 15) (.mv (.tmp 14)) none [11,3],.mk (some 16) (.fld 2 (.tmp 1)) (some (15,true)) [12],.mk (some 17) (.load false 1 (.tmp 16)) (some (15,true)) [13,12],.mk (some 18) (.call 53 [.tmp 17,.const (.int .i64 (-60)),.const (.int .i64 60)]) (some (15,true)) [14,12,12],.mk (some 19) (.pick (.tmp 15) (.tmp 18) (.const (.bool false))) none [12,15],.mk (some 20) (.mv (.tmp 19)) none [16,15],.mk (some 21) (.fld 0 (.tmp 1)) (some (20,true)) [17],.mk (some 22) (.load false 1 (.tmp 21)) (some (20,true)) [18,17],.mk (some 23) (.call 54 [.tmp 22,.const (.int .i64 0),.const (.int .i64 60)]) (some (20,true)) [19,17,17],.mk (some 24) (.pick (.tmp 20) (.tmp 23) (.const (.bool false))) none [17,20],.mk (some 25) (.mv (.tmp 24)) none [21,20],.mk (some 26) (.fld 1 (.tmp 1)) (some (25,true)) [22],.mk (some 27) (.load false 1 (.tmp 26)) (some (25,true)) [23,22],.mk (some 28) (.call 69 [.tmp 27]) (some (25,true)) [24,22,22],.mk (some 29) (.bin .eql (.tmp 28) (.const (.int .i64 0))) (some (25,true)) [25,22],.mk (some 30) (.mv (.tmp 29)) (some (25,true)) [26,25,22],.mk (some 31) (.load true 3 (.tmp 1)) (some (30,false)) [27],.mk (some 32) (.call 40 [.tmp 31]) (some (30,false)) [28,27,27],.mk (some 33) (.call 53 [.tmp 32,.const (.int .i64 0),.const (.int .i64 59)]) (some (30,false)) [29,29,27],.mk (some 34) (.pick (.tmp 30) (.const (.bool true)) (.tmp 33)) (some (25,true)) [27,30,22],.mk (some 35) (.pick (.tmp 25) (.tmp 34) (.const (.bool false))) none [22,31],.mk (some 2) (.mv (.tmp 35)) none [32,30,0,1,2,3,4,5,6,7,8,9,10,11,12,13,14,15,16,17,18,19,20,21,22,23,24,25,26,27,28,29,30,31,32]]
def l68:AFn :=
  (AFn.mk 36 1 (.seq (.reg l68r0) (.seq (.reg l68r1) .ret)) [.tmp 2])
theorem l68_eq:lowFn Try.prog 68=some l68:=by kernel_rfl
def l69r0:List AOper :=
  [.mk (some 2) (.mv (.const (.int .i64 0))) none []]
def l69r1:List AOper :=
  [.mk (some 3) (.mv (.const (.int .i64 1))) none []]
def l69r2:List AOper :=
  [.mk (some 4) (.mv (.const (.int .i64 0))) none []]
def l69r3:List AOper :=
  [.mk (some 5) (.mv (.tmp 4)) none [],.mk (some 6) (.mv (.tmp 0)) none [],.mk (some 7) (.len (.tmp 6)) none [1],.mk (some 8) (.bin .lss (.tmp 5) (.tmp 7)) none [0,2]]
def l69r4:List AOper :=
  [.mk (some 11) (.mv (.tmp 3)) none [],.mk (some 12) (.mv (.tmp 0)) none [],.mk (some 13) (.mv (.tmp 4)) none [],.mk (some 14) (.idxA 1 (.tmp 12) (.tmp 13)) none [1,2],.mk (some 15) (.load false 1 (.tmp 14)) none [3],.mk (some 16) (.bin .mul (.tmp 11) (.tmp 15)) none [0,4],.mk (some 3) (.mv (.tmp 16)) none [5,0,1,2,3,4,5]]
def l69r5:List AOper :=
  [.mk (some 9) (.mv (.tmp 4)) none [],.mk (some 10) (.bin .add (.tmp 9) (.const (.int .i64 1))) none [0],.mk (some 4) (.mv (.tmp 10)) none [1,0,1]]
def l69r6:List AOper :=
  [.mk (some 17) (.mv (.tmp 3)) none [],.mk (some 2) (.mv (.tmp 17)) none [0,0]]
def l69:AFn :=
  (AFn.mk 18 1 (.seq (.reg l69r0) (.seq (.reg l69r1) (.seq (.seq (.reg l69r2) (.block 0 (.loop (.seq (.seq (.reg l69r3) (.cond (.tmp 8) .skip (.exit 0))) (.seq (.block 1 (.reg l69r4)) (.reg l69r5)))))) (.seq (.reg l69r6) .ret)))) [.tmp 2])
theorem l69_eq:lowFn Try.prog 69=some l69:=by kernel_rfl
def l70r0:List AOper :=
  [.mk (some 2) (.box (.tmp 0)) none [],.mk (some 4) (.mv (.const (.int .i64 0))) none []]
def l70r1:List AOper :=
  [.mk (some 7) (.fld 0 (.tmp 2)) none [],.mk (some 8) (.load false 1 (.tmp 7)) none [0],.mk (some 5) (.mv (.tmp 8)) none [1,0,1]]
def l70r2:List AOper :=
  [.mk (some 6) (.mv (.const (.int .i64 0))) none []]
def l70r3:List AOper :=
  [.mk (some 9) (.mv (.tmp 6)) none [],.mk (some 10) (.mv (.tmp 1)) none [],.mk (some 11) (.len (.tmp 10)) none [1],.mk (some 12) (.bin .lss (.tmp 9) (.tmp 11)) none [0,2]]
def l70r4a:List AOper :=
  [.mk (some 15) (.mv (.tmp 5)) none [],.mk (some 16) (.mv (.tmp 1)) none [],.mk (some 17) (.mv (.tmp 6)) none [],.mk (some 18) (.idxA 1 (.tmp 16) (.tmp 17)) none [1,2],.mk (some 19) (.load false 1 (.tmp 18)) none [3],.mk (some 20) (.fld 2 (.tmp 2)) none [],.mk (some 21) (.load false 1 (.tmp 20)) none [5],.mk (some 22) (.mv (.tmp 6)) none [],.mk (some 23) (.idxA 1 (.tmp 21) (.tmp 22)) none [6,7],.mk (some 24) (.load false 1 (.tmp 23)) none [8],.mk (some 25) (.bin .mul (.tmp 19) (.tmp 24)) none [4,9]]
def l70r4b:List AOper :=
  [.mk (some 26) (.bin .add (.tmp 15) (.tmp 25)) none [0,10],.mk (some 5) (.mv (.tmp 26)) none [11,0,1,2,3,4,5,6,7,8,9,10,11]]
def l70r4:List AOper:=l70r4a ++ l70r4b
def l70r5:List AOper :=
  [.mk (some 13) (.mv (.tmp 6)) none [],.mk (some 14) (.bin .add (.tmp 13) (.const (.int .i64 1))) none [0],.mk (some 6) (.mv (.tmp 14)) none [1,0,1]]
def l70r6:List AOper :=
  [.mk (some 27) (.mv (.tmp 5)) none [],.mk (some 4) (.mv (.tmp 27)) none [0,0]]
def l70:AFn :=
  (AFn.mk 28 2 (.seq (.reg l70r0) (.seq (.reg l70r1) (.seq (.seq (.reg l70r2) (.block 0 (.loop (.seq (.seq (.reg l70r3) (.cond (.tmp 12) .skip (.exit 0))) (.seq (.block 1 (.draw l70r4)) (.reg l70r5)))))) (.seq (.reg l70r6) .ret)))) [.tmp 4])
theorem l70_eq:lowFn Try.prog 70=some l70:=by kernel_rfl
def l71r0:List AOper :=
  [.mk (some 4) (.mv (.const (.slice none 0 0))) none []]
def l71r1:List AOper :=
  [.mk (some 7) (.mv (.tmp 0)) none [],.mk (some 8) (.len (.tmp 7)) none [0],.mk (some 9) (.mkslice 1 [.int .i64 0] (.tmp 8) (.tmp 8)) none [1,1],.mk (some 5) (.mv (.tmp 9)) none [2,0,1,2]]
def l71r2:List AOper :=
  [.mk (some 10) (.mv (.tmp 0)) none [],.mk (some 11) (.len (.tmp 10)) none [0],.mk (some 12) (.bin .sub (.tmp 11) (.const (.int .i64 1))) none [1],.mk (some 6) (.mv (.tmp 12)) none [2,0,1,2]]
def l71r3:List AOper :=
  [.mk (some 13) (.mv (.tmp 6)) none [],.mk (some 14) (.bin .geq (.tmp 13) (.const (.int .i64 0))) none [0]]
def l71r4:List AOper :=
  [.mk (some 17) (.mv (.tmp 5)) none [],.mk (some 18) (.mv (.tmp 6)) none [],.mk (some 19) (.mv (.tmp 1)) none [],.mk (some 20) (.mv (.tmp 0)) none [],.mk (some 21) (.mv (.tmp 6)) none [],.mk (some 22) (.idxA 1 (.tmp 20) (.tmp 21)) none [3,4],.mk (some 23) (.load false 1 (.tmp 22)) none [5],.mk (some 24) (.bin .rem (.tmp 19) (.tmp 23)) none [2,6],.mk (some 25) (.idxA 1 (.tmp 17) (.tmp 18)) none [0,1,0,1,2,3,4,5,6,7],.mk none (.store 1 (.tmp 25) (.tmp 24)) none [8,7,0,1,2,3,4,5,6,7]]
def l71r5:List AOper :=
  [.mk (some 26) (.mv (.tmp 1)) none [],.mk (some 27) (.mv (.tmp 0)) none [],.mk (some 28) (.mv (.tmp 6)) none [],.mk (some 29) (.idxA 1 (.tmp 27) (.tmp 28)) none [1,2],.mk (some 30) (.load false 1 (.tmp 29)) none [3],.mk (some 31) (.bin .quo (.tmp 26) (.tmp 30)) none [0,4],.mk (some 1) (.mv (.tmp 31)) none [5,0,1,2,3,4,5]]
def l71r6:List AOper :=
  [.mk (some 15) (.mv (.tmp 6)) none [],.mk (some 16) (.bin .sub (.tmp 15) (.const (.int .i64 1))) none [0],.mk (some 6) (.mv (.tmp 16)) none [1,0,1]]
def l71r7:List AOper :=
  [.mk (some 32) (.mv (.tmp 5)) none [],.mk (some 4) (.mv (.tmp 32)) none [0,0]]
def l71:AFn :=
  (AFn.mk 33 2 (.seq (.reg l71r0) (.seq (.reg l71r1) (.seq (.seq (.reg l71r2) (.block 0 (.loop (.seq (.seq (.reg l71r3) (.cond (.tmp 14) .skip (.exit 0))) (.seq (.block 1 (.seq (.reg l71r4) (.reg l71r5))) (.reg l71r6)))))) (.seq (.reg l71r7) .ret)))) [.tmp 4])
theorem l71_eq:lowFn Try.prog 71=some l71:=by kernel_rfl
def l72r0:List AOper :=
  [.mk (some 1) (.box (.tmp 0)) none [],.mk (some 2) (.mv (.const (.bool false))) none []]
def l72r1:List AOper :=
  [.mk (some 5) (.fld 1 (.tmp 1)) none [],.mk (some 6) (.load false 1 (.tmp 5)) none [0],.mk (some 7) (.call 62 [.tmp 6]) none [1],.mk (some 8) (.un .not (.tmp 7)) none [2],.mk (some 9) (.mv (.tmp 8)) none [3,2],.mk (some 10) (.fld 2 (.tmp 1)) (some (9,false)) [4],.mk (some 11) (.load false 1 (.tmp 10)) (some (9,false)) [5,4],.mk (some 12) (.fld 1 (.tmp 1)) (some (9,false)) [4],.mk (some 13) (.load false 1 (.tmp 12)) (some (9,false)) [7,4],.mk (some 14) (.len (.tmp 13)) (some (9,false)) [8,4],.mk (some 15) (.call 93 [.tmp 11,.tmp 14]) (some (9,false)) [6,9,4,4],.mk (some 16) (.un .not (.tmp 15)) (some (9,false)) [10,4],.mk (some 17) (.pick (.tmp 9) (.const (.bool true)) (.tmp 16)) none [4,11],.mk (some 18) (.mv (.tmp 17)) none [12,10],.mk (some 19) (.fld 0 (.tmp 1)) (some (18,false)) [13],.mk (some 20) (.load false 1 (.tmp 19)) (some (18,false)) [14,13],.mk (some 21) (.call 80 [.tmp 20,.const (.int .i64 60)]) (some (18,false)) [15,13,13],.mk (some 22) (.un .not (.tmp 21)) (some (18,false)) [16,13],.mk (some 23) (.pick (.tmp 18) (.const (.bool true)) (.tmp 22)) none [13,17]]
def l72r2:List AOper :=
  [.mk (some 2) (.mv (.const (.bool false))) none []]
def l72r3:List AOper :=
  [.mk (some 25) (.load true 3 (.tmp 1)) none [],.mk (some 26) (.call 94 [.tmp 25]) none [0],.mk (some 24) (.mv (.tmp 26)) none [1],.mk (some 27) (.extract (.tmp 24) 0) none [2],.mk (some 28) (.extract (.tmp 24) 1) none [2],.mk (some 3) (.mv (.tmp 27)) none [3,1,0,1,2,3],.mk (some 4) (.mv (.tmp 28)) none [4,5,0,1,2,3,4,5]]
def l72r4:List AOper :=
  [.mk (some 29) (.load true 3 (.tmp 1)) none [],.mk (some 30) (.call 73 [.tmp 29]) none [0],.mk (some 31) (.bin .eql (.tmp 30) (.const (.int .i64 0))) none [1],.mk (some 32) (.mv (.tmp 31)) none [2,1],.mk (some 33) (.mv (.tmp 3)) (some (32,false)) [3],.mk (some 34) (.bin .geq (.tmp 33) (.const (.int .i64 0))) (some (32,false)) [4,3],.mk (some 35) (.mv (.tmp 34)) (some (32,false)) [5,3,3],.mk (some 36) (.mv (.tmp 4)) (some (35,true)) [6],.mk (some 37) (.bin .lss (.tmp 36) (.const (.int .i64 60))) (some (35,true)) [7,6],.mk (some 38) (.pick (.tmp 35) (.tmp 37) (.const (.bool false))) (some (32,false)) [6,8,3],.mk (some 39) (.pick (.tmp 32) (.const (.bool true)) (.tmp 38)) none [3,9],.mk (some 2) (.mv (.tmp 39)) none [10,6,0,1,2,3,4,5,6,7,8,9,10]]
def l72:AFn :=
  (AFn.mk 40 1 (.seq (.reg l72r0) (.seq (.seq (.reg l72r1) (.cond (.tmp 23) (.seq (.reg l72r2) .ret) .skip)) (.seq (.reg l72r3) (.seq (.reg l72r4) .ret)))) [.tmp 2])
theorem l72_eq:lowFn Try.prog 72=some l72:=by kernel_rfl
def l73r0:List AOper :=
  [.mk (some 1) (.box (.tmp 0)) none [],.mk (some 2) (.mv (.const (.int .i64 0))) none []]
def l73r1:List AOper :=
  [.mk (some 3) (.fld 1 (.tmp 1)) none [],.mk (some 4) (.load false 1 (.tmp 3)) none [0],.mk (some 5) (.call 86 [.tmp 4]) none [1],.mk (some 2) (.mv (.tmp 5)) none [2,2,0,1,2]]
def l73:AFn :=
  (AFn.mk 6 1 (.seq (.reg l73r0) (.seq (.reg l73r1) .ret)) [.tmp 2])
theorem l73_eq:lowFn Try.prog 73=some l73:=by kernel_rfl
def l74r0:List AOper :=
  [.mk (some 2) (.box (.tmp 0)) none [],.mk (some 3) (.box (.tmp 1)) none [],.mk (some 4) (.mv (.const (.int .i64 0))) none []]
def l74r1a:List AOper :=
  [.mk (some 5) (.fld 0 (.tmp 2)) none [],.mk (some 6) (.load false 1 (.tmp 5)) none [0],.mk (some 7) (.load true 4 (.tmp 3)) none [],.mk (some 8) (.fld 2 (.tmp 2)) none [],.mk (some 9) (.load false 1 (.tmp 8)) none [3],.mk (some 10) (.call 95 [.tmp 7,.tmp 9]) none [2,4]]
def l74r1b:List AOper :=
  [.mk (some 11) (.bin .add (.tmp 6) (.tmp 10)) none [1,5],.mk (some 4) (.mv (.tmp 11)) none [6,5,0,1,2,3,4,5,6]]
def l74r1:List AOper:=l74r1a ++ l74r1b
def l74:AFn :=
  (AFn.mk 12 2 (.seq (.reg l74r0) (.seq (.draw l74r1) .ret)) [.tmp 4])
theorem l74_eq:lowFn Try.prog 74=some l74:=by kernel_rfl
def l75r0:List AOper :=
  [.mk (some 4) (.alloc [.int .i64 0,.int .i64 0,.int .i64 0,.int .i64 0]) none []]
def l75r1:List AOper :=
  [.mk (some 5) (.alloc [.int .i64 0,.int .i64 0,.int .i64 0,.int .i64 0]) none []]
def l75r2:List AOper :=
  [.mk (some 7) (.mv (.tmp 0)) none [],.mk (some 8) (.len (.tmp 7)) none [0],.mk (some 9) (.bin .sub (.tmp 8) (.const (.int .i64 1))) none [1],.mk (some 6) (.mv (.tmp 9)) none [2,0,1,2]]
def l75r3:List AOper :=
  [.mk (some 10) (.mv (.tmp 6)) none [],.mk (some 11) (.bin .geq (.tmp 10) (.const (.int .i64 0))) none [0]]
def l75r4:List AOper :=
  [.mk (some 14) (.mv (.tmp 6)) none [],.mk (some 15) (.mv (.tmp 1)) none [],.mk (some 16) (.mv (.tmp 0)) none [],.mk (some 17) (.mv (.tmp 6)) none [],.mk (some 18) (.idxA 1 (.tmp 16) (.tmp 17)) none [2,3],.mk (some 19) (.load false 1 (.tmp 18)) none [4],.mk (some 20) (.bin .rem (.tmp 15) (.tmp 19)) none [1,5],.mk (some 21) (.idxP 1 4 (.tmp 5) (.tmp 14)) none [0,0,1,2,3,4,5,6],.mk none (.store 1 (.tmp 21) (.tmp 20)) none [7,6,0,1,2,3,4,5,6]]
def l75r5:List AOper :=
  [.mk (some 22) (.mv (.tmp 1)) none [],.mk (some 23) (.mv (.tmp 0)) none [],.mk (some 24) (.mv (.tmp 6)) none [],.mk (some 25) (.idxA 1 (.tmp 23) (.tmp 24)) none [1,2],.mk (some 26) (.load false 1 (.tmp 25)) none [3],.mk (some 27) (.bin .quo (.tmp 22) (.tmp 26)) none [0,4],.mk (some 1) (.mv (.tmp 27)) none [5,0,1,2,3,4,5]]
def l75r6:List AOper :=
  [.mk (some 12) (.mv (.tmp 6)) none [],.mk (some 13) (.bin .sub (.tmp 12) (.const (.int .i64 1))) none [0],.mk (some 6) (.mv (.tmp 13)) none [1,0,1]]
def l75r7:List AOper :=
  [.mk (some 28) (.load true 4 (.tmp 5)) none [],.mk none (.store 4 (.tmp 4) (.tmp 28)) none [0,0]]
def l75:AFn :=
  (AFn.mk 29 2 (.seq (.reg l75r0) (.seq (.reg l75r1) (.seq (.seq (.reg l75r2) (.block 0 (.loop (.seq (.seq (.reg l75r3) (.cond (.tmp 11) .skip (.exit 0))) (.seq (.block 1 (.seq (.reg l75r4) (.reg l75r5))) (.reg l75r6)))))) (.seq (.reg l75r7) .ret)))) [.cell 4 true 4])
theorem l75_eq:lowFn Try.prog 75=some l75:=by kernel_rfl
def l80r0:List AOper :=
  [.mk (some 4) (.mv (.const (.bool false))) none []]
def l80r1:List AOper :=
  [.mk (some 5) (.mv (.tmp 0)) none [],.mk (some 6) (.bin .leq (.const (.int .i64 0)) (.tmp 5)) none [0],.mk (some 7) (.mv (.tmp 6)) none [1],.mk (some 8) (.mv (.tmp 0)) (some (7,true)) [2],.mk (some 9) (.mv (.tmp 1)) (some (7,true)) [2],.mk (some 10) (.bin .leq (.tmp 8) (.tmp 9)) (some (7,true)) [3,4,2],.mk (some 11) (.pick (.tmp 7) (.tmp 10) (.const (.bool false))) none [2,5],.mk (some 4) (.mv (.tmp 11)) none [6,2,0,1,2,3,4,5,6]]
def l80:AFn :=
  (AFn.mk 12 2 (.seq (.reg l80r0) (.seq (.reg l80r1) .ret)) [.tmp 4])
theorem l80_eq:lowFn Try.prog 80=some l80:=by kernel_rfl
def l86r0:List AOper :=
  [.mk (some 2) (.mv (.const (.int .i64 0))) none []]
def l86r1:List AOper :=
  [.mk (some 3) (.mv (.const (.int .i64 1))) none []]
def l86r2:List AOper :=
  [.mk (some 6) (.mv (.tmp 0)) none [],.mk (some 7) (.len (.tmp 6)) none [0],.mk (some 8) (.mv (.const (.int .i64 0))) none []]
def l86r3:List AOper :=
  [.mk (some 9) (.bin .lss (.tmp 8) (.tmp 7)) none []]
def l86r4:List AOper :=
  [.mk (some 10) (.idxA 1 (.tmp 6) (.tmp 8)) none [],.mk (some 11) (.load false 1 (.tmp 10)) none [0],.mk (some 5) (.mv (.tmp 11)) none [1,0,1]]
def l86r5:List AOper :=
  [.mk (some 12) (.mv (.tmp 3)) none [],.mk (some 13) (.mv (.tmp 5)) none [],.mk (some 14) (.bin .mul (.tmp 12) (.tmp 13)) none [0,1],.mk (some 3) (.mv (.tmp 14)) none [2,0,1,2]]
def l86r6:List AOper :=
  [.mk (some 15) (.bin .add (.tmp 8) (.const (.int .i64 1))) none [],.mk (some 8) (.mv (.tmp 15)) none [0]]
def l86r7:List AOper :=
  [.mk (some 16) (.mv (.tmp 3)) none [],.mk (some 2) (.mv (.tmp 16)) none [0,0]]
def l86:AFn :=
  (AFn.mk 17 1 (.seq (.reg l86r0) (.seq (.reg l86r1) (.seq (.seq (.reg l86r2) (.block 0 (.loop (.seq (.reg l86r3) (.seq (.cond (.tmp 9) .skip (.exit 0)) (.seq (.block 1 (.seq (.reg l86r4) (.reg l86r5))) (.reg l86r6))))))) (.seq (.reg l86r7) .ret)))) [.tmp 2])
theorem l86_eq:lowFn Try.prog 86=some l86:=by kernel_rfl
def l91r0:List AOper :=
  [.mk (some 4) (.mv (.const (.bool false))) none []]
def l91r1:List AOper :=
  [.mk (some 5) (.mv (.tmp 1)) none [],.mk (some 6) (.un .neg (.tmp 5)) none [0],.mk (some 7) (.mv (.tmp 0)) none [],.mk (some 8) (.bin .leq (.tmp 6) (.tmp 7)) none [1,2],.mk (some 9) (.mv (.tmp 8)) none [3],.mk (some 10) (.mv (.tmp 0)) (some (9,true)) [4],.mk (some 11) (.mv (.tmp 1)) (some (9,true)) [4],.mk (some 12) (.bin .leq (.tmp 10) (.tmp 11)) (some (9,true)) [5,6,4],.mk (some 13) (.pick (.tmp 9) (.tmp 12) (.const (.bool false))) none [4,7],.mk (some 4) (.mv (.tmp 13)) none [8,4,0,1,2,3,4,5,6,7,8]]
def l91:AFn :=
  (AFn.mk 14 2 (.seq (.reg l91r0) (.seq (.reg l91r1) .ret)) [.tmp 4])
theorem l91_eq:lowFn Try.prog 91=some l91:=by kernel_rfl
def l92r0:List AOper :=
  [.mk (some 2) (.mv (.const (.bool false))) none []]
def l92r1:List AOper :=
  [.mk (some 3) (.mv (.tmp 0)) none [],.mk (some 4) (.len (.tmp 3)) none [0],.mk (some 5) (.bin .leq (.tmp 4) (.const (.int .i64 4))) none [1],.mk (some 6) (.mv (.tmp 5)) none [2],.mk (some 7) (.mv (.tmp 0)) (some (6,true)) [3],.mk (some 8) (.call 53 [.tmp 7,.const (.int .i64 0),.const (.int .i64 60)]) (some (6,true)) [4,3,3],.mk (some 9) (.pick (.tmp 6) (.tmp 8) (.const (.bool false))) none [3,5],.mk (some 10) (.mv (.tmp 9)) none [6,5],.mk (some 11) (.mv (.tmp 0)) (some (10,true)) [7],.mk (some 12) (.call 69 [.tmp 11]) (some (10,true)) [8,7,7],.mk (some 13) (.bin .leq (.tmp 12) (.const (.int .i64 60))) (some (10,true)) [9,7],.mk (some 14) (.pick (.tmp 10) (.tmp 13) (.const (.bool false))) none [7,10],.mk (some 2) (.mv (.tmp 14)) none [11,9,0,1,2,3,4,5,6,7,8,9,10,11]]
def l92:AFn :=
  (AFn.mk 15 1 (.seq (.reg l92r0) (.seq (.reg l92r1) .ret)) [.tmp 2])
theorem l92_eq:lowFn Try.prog 92=some l92:=by kernel_rfl
def l93r0:List AOper :=
  [.mk (some 4) (.mv (.const (.bool false))) none []]
def l93r1:List AOper :=
  [.mk (some 7) (.mv (.tmp 0)) none [],.mk (some 8) (.len (.tmp 7)) none [0],.mk (some 9) (.mv (.tmp 1)) none [],.mk (some 10) (.bin .neq (.tmp 8) (.tmp 9)) none [1,2]]
def l93r2:List AOper :=
  [.mk (some 4) (.mv (.const (.bool false))) none []]
def l93r3:List AOper :=
  [.mk (some 11) (.mv (.tmp 0)) none [],.mk (some 12) (.len (.tmp 11)) none [0],.mk (some 13) (.mv (.const (.int .i64 0))) none []]
def l93r4:List AOper :=
  [.mk (some 14) (.bin .lss (.tmp 13) (.tmp 12)) none []]
def l93r5:List AOper :=
  [.mk (some 15) (.idxA 1 (.tmp 11) (.tmp 13)) none [],.mk (some 16) (.load false 1 (.tmp 15)) none [0],.mk (some 6) (.mv (.tmp 16)) none [1,0,1]]
def l93r6:List AOper :=
  [.mk (some 17) (.mv (.tmp 6)) none [],.mk (some 18) (.call 91 [.tmp 17,.const (.int .i64 60)]) none [0],.mk (some 19) (.un .not (.tmp 18)) none [1]]
def l93r7:List AOper :=
  [.mk (some 4) (.mv (.const (.bool false))) none []]
def l93r8:List AOper :=
  [.mk (some 20) (.bin .add (.tmp 13) (.const (.int .i64 1))) none [],.mk (some 13) (.mv (.tmp 20)) none [0]]
def l93r9:List AOper :=
  [.mk (some 4) (.mv (.const (.bool true))) none []]
def l93:AFn :=
  (AFn.mk 21 2 (.seq (.reg l93r0) (.seq (.seq (.reg l93r1) (.cond (.tmp 10) (.seq (.reg l93r2) .ret) .skip)) (.seq (.seq (.reg l93r3) (.block 0 (.loop (.seq (.reg l93r4) (.seq (.cond (.tmp 14) .skip (.exit 0)) (.seq (.block 1 (.seq (.reg l93r5) (.seq (.reg l93r6) (.cond (.tmp 19) (.seq (.reg l93r7) .ret) .skip)))) (.reg l93r8))))))) (.seq (.reg l93r9) .ret)))) [.tmp 4])
theorem l93_eq:lowFn Try.prog 93=some l93:=by kernel_rfl
def l94r0:List AOper :=
  [.mk (some 1) (.box (.tmp 0)) none [],.mk (some 2) (.mv (.const (.int .i64 0))) none [],.mk (some 3) (.mv (.const (.int .i64 0))) none [1]]
def l94r1:List AOper :=
  [.mk (some 9) (.load true 3 (.tmp 1)) none [],.mk (some 10) (.call 73 [.tmp 9]) none [0],.mk (some 11) (.bin .eql (.tmp 10) (.const (.int .i64 0))) none [1]]
def l94r2:List AOper :=
  [.mk (some 2) (.mv (.const (.int .i64 (-1)))) none [],.mk (some 3) (.mv (.const (.int .i64 (-1)))) none [0,0]]
def l94r3a:List AOper :=
  [.mk (some 12) (.fld 0 (.tmp 1)) none [],.mk (some 13) (.load false 1 (.tmp 12)) none [0],.mk (some 14) (.fld 0 (.tmp 1)) none [],.mk (some 15) (.load false 1 (.tmp 14)) none [2],.mk (some 4) (.mv (.tmp 13)) none [1,0,1]]
def l94r3b:List AOper :=
  [.mk (some 5) (.mv (.tmp 15)) none [3,4,0,1,2,3,4]]
def l94r3:List AOper:=l94r3a ++ l94r3b
def l94r4:List AOper :=
  [.mk (some 16) (.fld 2 (.tmp 1)) none [],.mk (some 17) (.load false 1 (.tmp 16)) none [0],.mk (some 18) (.len (.tmp 17)) none [1],.mk (some 19) (.mv (.const (.int .i64 0))) none []]
def l94r5:List AOper :=
  [.mk (some 20) (.bin .lss (.tmp 19) (.tmp 18)) none []]
def l94r6:List AOper :=
  [.mk (some 21) (.mv (.tmp 19)) none [],.mk (some 22) (.idxA 1 (.tmp 17) (.tmp 19)) none [],.mk (some 23) (.load false 1 (.tmp 22)) none [1],.mk (some 6) (.mv (.tmp 21)) none [0,0,1,2],.mk (some 7) (.mv (.tmp 23)) none [2,3,0,1,2,3]]
def l94r7:List AOper :=
  [.mk (some 24) (.fld 1 (.tmp 1)) none [],.mk (some 25) (.load false 1 (.tmp 24)) none [0],.mk (some 26) (.mv (.tmp 6)) none [],.mk (some 27) (.idxA 1 (.tmp 25) (.tmp 26)) none [1,2],.mk (some 28) (.load false 1 (.tmp 27)) none [3],.mk (some 29) (.bin .sub (.tmp 28) (.const (.int .i64 1))) none [4],.mk (some 30) (.mv (.tmp 7)) none [],.mk (some 31) (.bin .mul (.tmp 29) (.tmp 30)) none [5,6],.mk (some 8) (.mv (.tmp 31)) none [7,0,1,2,3,4,5,6,7]]
def l94r8:List AOper :=
  [.mk (some 32) (.mv (.tmp 4)) none [],.mk (some 33) (.mv (.tmp 8)) none [],.mk (some 34) (.minmax false (.tmp 33) (.const (.int .i64 0))) none [1],.mk (some 35) (.bin .add (.tmp 32) (.tmp 34)) none [0,2],.mk (some 4) (.mv (.tmp 35)) none [3,0,1,2,3]]
def l94r9:List AOper :=
  [.mk (some 36) (.mv (.tmp 5)) none [],.mk (some 37) (.mv (.tmp 8)) none [],.mk (some 38) (.minmax true (.tmp 37) (.const (.int .i64 0))) none [1],.mk (some 39) (.bin .add (.tmp 36) (.tmp 38)) none [0,2],.mk (some 5) (.mv (.tmp 39)) none [3,0,1,2,3]]
def l94r10:List AOper :=
  [.mk (some 40) (.bin .add (.tmp 19) (.const (.int .i64 1))) none [],.mk (some 19) (.mv (.tmp 40)) none [0]]
def l94r11:List AOper :=
  [.mk (some 41) (.mv (.tmp 4)) none [],.mk (some 42) (.mv (.tmp 5)) none [],.mk (some 2) (.mv (.tmp 41)) none [0,0],.mk (some 3) (.mv (.tmp 42)) none [1,2,0,1,2]]
def l94:AFn :=
  (AFn.mk 43 1 (.seq (.reg l94r0) (.seq (.seq (.reg l94r1) (.cond (.tmp 11) (.seq (.reg l94r2) .ret) .skip)) (.seq (.draw l94r3) (.seq (.seq (.reg l94r4) (.block 0 (.loop (.seq (.reg l94r5) (.seq (.cond (.tmp 20) .skip (.exit 0)) (.seq (.block 1 (.seq (.reg l94r6) (.seq (.reg l94r7) (.seq (.reg l94r8) (.reg l94r9))))) (.reg l94r10))))))) (.seq (.reg l94r11) .ret))))) [.tmp 2,.tmp 3])
theorem l94_eq:lowFn Try.prog 94=some l94:=by kernel_rfl
def l95r0:List AOper :=
  [.mk (some 2) (.box (.tmp 0)) none [],.mk (some 4) (.mv (.const (.int .i64 0))) none []]
def l95r1:List AOper :=
  [.mk (some 5) (.mv (.const (.int .i64 0))) none []]
def l95r2:List AOper :=
  [.mk (some 8) (.mv (.tmp 1)) none [],.mk (some 9) (.len (.tmp 8)) none [0],.mk (some 10) (.mv (.const (.int .i64 0))) none []]
def l95r3:List AOper :=
  [.mk (some 11) (.bin .lss (.tmp 10) (.tmp 9)) none []]
def l95r4:List AOper :=
  [.mk (some 12) (.mv (.tmp 10)) none [],.mk (some 13) (.idxA 1 (.tmp 8) (.tmp 10)) none [],.mk (some 14) (.load false 1 (.tmp 13)) none [1],.mk (some 6) (.mv (.tmp 12)) none [0,0,1,2],.mk (some 7) (.mv (.tmp 14)) none [2,3,0,1,2,3]]
def l95r5:List AOper :=
  [.mk (some 15) (.mv (.tmp 5)) none [],.mk (some 16) (.mv (.tmp 6)) none [],.mk (some 17) (.idxP 1 4 (.tmp 2) (.tmp 16)) none [1],.mk (some 18) (.load false 1 (.tmp 17)) none [2],.mk (some 19) (.mv (.tmp 7)) none [],.mk (some 20) (.bin .mul (.tmp 18) (.tmp 19)) none [3,4],.mk (some 21) (.bin .add (.tmp 15) (.tmp 20)) none [0,5],.mk (some 5) (.mv (.tmp 21)) none [6,0,1,2,3,4,5,6]]
def l95r6:List AOper :=
  [.mk (some 22) (.bin .add (.tmp 10) (.const (.int .i64 1))) none [],.mk (some 10) (.mv (.tmp 22)) none [0]]
def l95r7:List AOper :=
  [.mk (some 23) (.mv (.tmp 5)) none [],.mk (some 4) (.mv (.tmp 23)) none [0,0]]
def l95:AFn :=
  (AFn.mk 24 2 (.seq (.reg l95r0) (.seq (.reg l95r1) (.seq (.seq (.reg l95r2) (.block 0 (.loop (.seq (.reg l95r3) (.seq (.cond (.tmp 11) .skip (.exit 0)) (.seq (.block 1 (.seq (.reg l95r4) (.reg l95r5))) (.reg l95r6))))))) (.seq (.reg l95r7) .ret)))) [.tmp 4])
theorem l95_eq:lowFn Try.prog 95=some l95:=by kernel_rfl
end Go.Proofs.Ytpicoecbbiiaoaa
