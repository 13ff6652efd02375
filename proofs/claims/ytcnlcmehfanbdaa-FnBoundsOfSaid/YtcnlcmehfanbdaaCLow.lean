import Derived.Test.YtcnlcmehfanbdaaCW2
import Derived.Test.YtcnlcmehfanbdaaProg
import Derived.KernelRfl
set_option maxRecDepth 100000
namespace Go.Proofs.Ytcnlcmehfanbdaa
open Vw Go
def l8r0 : List AOper :=
  [AOper.mk (some 2) (AOp.mv (Operand.const (Value.bool false))) none []]
def l8r1 : List AOper :=
  [AOper.mk (some 12) (AOp.mv (Operand.tmp 0)) none [], AOper.mk (some 13) (AOp.len (Operand.tmp 12)) none [0], AOper.mk (some 14) (AOp.bin BinOp.gtr (Operand.tmp 13) (Operand.const (Value.int IntKind.i64 1048576))) none [1]]
def l8r2 : List AOper :=
  [AOper.mk (some 2) (AOp.mv (Operand.const (Value.bool true))) none []]
def l8r3 : List AOper :=
  [AOper.mk (some 15) (AOp.mv (Operand.tmp 0)) none [], AOper.mk (some 16) (AOp.call 32 [Operand.tmp 15]) none [0], AOper.mk (some 3) (AOp.alloc [Value.int IntKind.i64 0, Value.slice none 0 0, Value.slice none 0 0]) none [], AOper.mk none (AOp.store 3 (Operand.tmp 3) (Operand.tmp 16)) none [2, 1, 1, 0, 1, 2]]
def l8r4 : List AOper :=
  [AOper.mk (some 18) (AOp.load true 3 (Operand.tmp 3)) none [], AOper.mk (some 19) (AOp.call 33 [Operand.tmp 18]) none [0], AOper.mk (some 17) (AOp.mv (Operand.tmp 19)) none [1], AOper.mk (some 20) (AOp.extract (Operand.tmp 17) 0) none [2], AOper.mk (some 21) (AOp.extract (Operand.tmp 17) 1) none [2], AOper.mk (some 4) (AOp.mv (Operand.tmp 20)) none [3, 1, 0, 1, 2, 3], AOper.mk (some 5) (AOp.mv (Operand.tmp 21)) none [4, 5, 0, 1, 2, 3, 4, 5]]
def l8r5 : List AOper :=
  [AOper.mk (some 23) (AOp.load true 3 (Operand.tmp 3)) none [], AOper.mk (some 24) (AOp.call 34 [Operand.tmp 23]) none [0], AOper.mk (some 22) (AOp.mv (Operand.tmp 24)) none [1], AOper.mk (some 25) (AOp.extract (Operand.tmp 22) 0) none [2], AOper.mk (some 26) (AOp.extract (Operand.tmp 22) 1) none [2], AOper.mk (some 6) (AOp.mv (Operand.tmp 25)) none [3, 1, 0, 1, 2, 3], AOper.mk (some 7) (AOp.mv (Operand.tmp 26)) none [4, 5, 0, 1, 2, 3, 4, 5]]
def l8r6 : List AOper :=
  [AOper.mk (some 27) (AOp.mv (Operand.tmp 4)) none [], AOper.mk (some 28) (AOp.mv (Operand.tmp 6)) none [], AOper.mk (some 29) (AOp.bin BinOp.neq (Operand.tmp 27) (Operand.tmp 28)) none [0, 1], AOper.mk (some 30) (AOp.mv (Operand.tmp 29)) none [2], AOper.mk (some 31) (AOp.mv (Operand.tmp 5)) (some (30, false)) [3], AOper.mk (some 32) (AOp.mv (Operand.tmp 7)) (some (30, false)) [3], AOper.mk (some 33) (AOp.bin BinOp.neq (Operand.tmp 31) (Operand.tmp 32)) (some (30, false)) [4, 5, 3], AOper.mk (some 34) (AOp.pick (Operand.tmp 30) (Operand.const (Value.bool true)) (Operand.tmp 33)) none [3, 6], AOper.mk (some 35) (AOp.mv (Operand.tmp 34)) none [7, 3], AOper.mk (some 36) (AOp.mv (Operand.tmp 4)) (some (35, false)) [8], AOper.mk (some 37) (AOp.bin BinOp.lss (Operand.tmp 36) (Operand.const (Value.int IntKind.i64 0))) (some (35, false)) [9, 8], AOper.mk (some 38) (AOp.pick (Operand.tmp 35) (Operand.const (Value.bool true)) (Operand.tmp 37)) none [8, 10]]
def l8r7 : List AOper :=
  [AOper.mk (some 39) (AOp.mv (Operand.tmp 4)) none [], AOper.mk (some 40) (AOp.mv (Operand.tmp 6)) none [], AOper.mk (some 41) (AOp.bin BinOp.eql (Operand.tmp 39) (Operand.tmp 40)) none [0, 1], AOper.mk (some 42) (AOp.mv (Operand.tmp 41)) none [2], AOper.mk (some 43) (AOp.mv (Operand.tmp 5)) (some (42, true)) [3], AOper.mk (some 44) (AOp.mv (Operand.tmp 7)) (some (42, true)) [3], AOper.mk (some 45) (AOp.bin BinOp.eql (Operand.tmp 43) (Operand.tmp 44)) (some (42, true)) [4, 5, 3], AOper.mk (some 46) (AOp.pick (Operand.tmp 42) (Operand.tmp 45) (Operand.const (Value.bool false))) none [3, 6], AOper.mk (some 2) (AOp.mv (Operand.tmp 46)) none [7, 3, 0, 1, 2, 3, 4, 5, 6, 7]]
def l8r8 : List AOper :=
  [AOper.mk (some 47) (AOp.load true 3 (Operand.tmp 3)) none [], AOper.mk (some 48) (AOp.call 13 [Operand.tmp 47]) none [0], AOper.mk (some 8) (AOp.mv (Operand.tmp 48)) none [1, 1, 0, 1]]
def l8r9 : List AOper :=
  [AOper.mk (some 49) (AOp.fld 0 (Operand.tmp 3)) none [], AOper.mk (some 50) (AOp.load false 1 (Operand.tmp 49)) none [0], AOper.mk (some 9) (AOp.mv (Operand.tmp 50)) none [1, 0, 1]]
def l8r10 : List AOper :=
  [AOper.mk (some 51) (AOp.fld 0 (Operand.tmp 3)) none [], AOper.mk (some 52) (AOp.load false 1 (Operand.tmp 51)) none [0], AOper.mk (some 10) (AOp.mv (Operand.tmp 52)) none [1, 0, 1]]
def l8r11 : List AOper :=
  [AOper.mk (some 11) (AOp.mv (Operand.const (Value.int IntKind.i64 0))) none []]
def l8r12 : List AOper :=
  [AOper.mk (some 53) (AOp.mv (Operand.tmp 11)) none [], AOper.mk (some 54) (AOp.fld 1 (Operand.tmp 3)) none [], AOper.mk (some 55) (AOp.load false 1 (Operand.tmp 54)) none [1], AOper.mk (some 56) (AOp.len (Operand.tmp 55)) none [2], AOper.mk (some 57) (AOp.bin BinOp.lss (Operand.tmp 53) (Operand.tmp 56)) none [0, 3]]
def l8r13a : List AOper :=
  [AOper.mk (some 60) (AOp.mv (Operand.tmp 9)) none [], AOper.mk (some 61) (AOp.fld 1 (Operand.tmp 3)) none [], AOper.mk (some 62) (AOp.load false 1 (Operand.tmp 61)) none [1], AOper.mk (some 63) (AOp.mv (Operand.tmp 11)) none [], AOper.mk (some 64) (AOp.idxA 1 (Operand.tmp 62) (Operand.tmp 63)) none [2, 3], AOper.mk (some 65) (AOp.load false 1 (Operand.tmp 64)) none [4], AOper.mk (some 66) (AOp.bin BinOp.sub (Operand.tmp 65) (Operand.const (Value.int IntKind.i64 1))) none [5], AOper.mk (some 67) (AOp.fld 2 (Operand.tmp 3)) none [], AOper.mk (some 68) (AOp.load false 1 (Operand.tmp 67)) none [7], AOper.mk (some 69) (AOp.mv (Operand.tmp 11)) none [], AOper.mk (some 70) (AOp.idxA 1 (Operand.tmp 68) (Operand.tmp 69)) none [8, 9], AOper.mk (some 71) (AOp.load false 1 (Operand.tmp 70)) none [10], AOper.mk (some 72) (AOp.bin BinOp.mul (Operand.tmp 66) (Operand.tmp 71)) none [6, 11], AOper.mk (some 73) (AOp.minmax false (Operand.const (Value.int IntKind.i64 0)) (Operand.tmp 72)) none [12]]
def l8r13b : List AOper :=
  [AOper.mk (some 74) (AOp.bin BinOp.add (Operand.tmp 60) (Operand.tmp 73)) none [0, 13], AOper.mk (some 9) (AOp.mv (Operand.tmp 74)) none [14, 0, 1, 2, 3, 4, 5, 6, 7, 8, 9, 10, 11, 12, 13, 14]]
def l8r13 : List AOper := l8r13a ++ l8r13b
def l8r14a : List AOper :=
  [AOper.mk (some 75) (AOp.mv (Operand.tmp 10)) none [], AOper.mk (some 76) (AOp.fld 1 (Operand.tmp 3)) none [], AOper.mk (some 77) (AOp.load false 1 (Operand.tmp 76)) none [1], AOper.mk (some 78) (AOp.mv (Operand.tmp 11)) none [], AOper.mk (some 79) (AOp.idxA 1 (Operand.tmp 77) (Operand.tmp 78)) none [2, 3], AOper.mk (some 80) (AOp.load false 1 (Operand.tmp 79)) none [4], AOper.mk (some 81) (AOp.bin BinOp.sub (Operand.tmp 80) (Operand.const (Value.int IntKind.i64 1))) none [5], AOper.mk (some 82) (AOp.fld 2 (Operand.tmp 3)) none [], AOper.mk (some 83) (AOp.load false 1 (Operand.tmp 82)) none [7], AOper.mk (some 84) (AOp.mv (Operand.tmp 11)) none [], AOper.mk (some 85) (AOp.idxA 1 (Operand.tmp 83) (Operand.tmp 84)) none [8, 9], AOper.mk (some 86) (AOp.load false 1 (Operand.tmp 85)) none [10], AOper.mk (some 87) (AOp.bin BinOp.mul (Operand.tmp 81) (Operand.tmp 86)) none [6, 11], AOper.mk (some 88) (AOp.minmax true (Operand.const (Value.int IntKind.i64 0)) (Operand.tmp 87)) none [12]]
def l8r14b : List AOper :=
  [AOper.mk (some 89) (AOp.bin BinOp.add (Operand.tmp 75) (Operand.tmp 88)) none [0, 13], AOper.mk (some 10) (AOp.mv (Operand.tmp 89)) none [14, 0, 1, 2, 3, 4, 5, 6, 7, 8, 9, 10, 11, 12, 13, 14]]
def l8r14 : List AOper := l8r14a ++ l8r14b
def l8r15 : List AOper :=
  [AOper.mk (some 58) (AOp.mv (Operand.tmp 11)) none [], AOper.mk (some 59) (AOp.bin BinOp.add (Operand.tmp 58) (Operand.const (Value.int IntKind.i64 1))) none [0], AOper.mk (some 11) (AOp.mv (Operand.tmp 59)) none [1, 0, 1]]
def l8r16 : List AOper :=
  [AOper.mk (some 90) (AOp.mv (Operand.tmp 8)) none [], AOper.mk (some 91) (AOp.mv (Operand.tmp 4)) none [], AOper.mk (some 92) (AOp.call 35 [Operand.tmp 90, Operand.tmp 91]) none [0, 1], AOper.mk (some 93) (AOp.mv (Operand.tmp 92)) none [2, 2], AOper.mk (some 94) (AOp.mv (Operand.tmp 8)) (some (93, true)) [3], AOper.mk (some 95) (AOp.mv (Operand.tmp 5)) (some (93, true)) [3], AOper.mk (some 96) (AOp.call 35 [Operand.tmp 94, Operand.tmp 95]) (some (93, true)) [4, 5, 3, 3], AOper.mk (some 97) (AOp.pick (Operand.tmp 93) (Operand.tmp 96) (Operand.const (Value.bool false))) none [3, 6], AOper.mk (some 98) (AOp.mv (Operand.tmp 97)) none [7, 6], AOper.mk (some 99) (AOp.mv (Operand.tmp 9)) (some (98, true)) [8], AOper.mk (some 100) (AOp.mv (Operand.tmp 4)) (some (98, true)) [8], AOper.mk (some 101) (AOp.bin BinOp.eql (Operand.tmp 99) (Operand.tmp 100)) (some (98, true)) [9, 10, 8], AOper.mk (some 102) (AOp.pick (Operand.tmp 98) (Operand.tmp 101) (Operand.const (Value.bool false))) none [8, 11], AOper.mk (some 103) (AOp.mv (Operand.tmp 102)) none [12, 8], AOper.mk (some 104) (AOp.mv (Operand.tmp 10)) (some (103, true)) [13], AOper.mk (some 105) (AOp.mv (Operand.tmp 5)) (some (103, true)) [13], AOper.mk (some 106) (AOp.bin BinOp.eql (Operand.tmp 104) (Operand.tmp 105)) (some (103, true)) [14, 15, 13], AOper.mk (some 107) (AOp.pick (Operand.tmp 103) (Operand.tmp 106) (Operand.const (Value.bool false))) none [13, 16], AOper.mk (some 2) (AOp.mv (Operand.tmp 107)) none [17, 13, 0, 1, 2, 3, 4, 5, 6, 7, 8, 9, 10, 11, 12, 13, 14, 15, 16, 17]]
def l8 : AFn :=
  (AFn.mk 108 1 (ACode.seq (ACode.reg l8r0) (ACode.seq (ACode.seq (ACode.reg l8r1) (ACode.cond (Operand.tmp 14) (ACode.seq (ACode.reg l8r2) ACode.ret) ACode.skip)) (ACode.seq (ACode.reg l8r3) (ACode.seq (ACode.reg l8r4) (ACode.seq (ACode.reg l8r5) (ACode.seq (ACode.seq (ACode.reg l8r6) (ACode.cond (Operand.tmp 38) (ACode.seq (ACode.reg l8r7) ACode.ret) ACode.skip)) (ACode.seq (ACode.reg l8r8) (ACode.seq (ACode.reg l8r9) (ACode.seq (ACode.reg l8r10) (ACode.seq (ACode.seq (ACode.reg l8r11) (ACode.block 0 (ACode.loop (ACode.seq (ACode.seq (ACode.reg l8r12) (ACode.cond (Operand.tmp 57) ACode.skip (ACode.exit 0))) (ACode.seq (ACode.block 1 (ACode.seq (ACode.draw l8r13) (ACode.draw l8r14))) (ACode.reg l8r15)))))) (ACode.seq (ACode.reg l8r16) ACode.ret))))))))))) [ARes.tmp 2])
theorem l8_eq : lowFn Try.prog 8 = some l8 := by kernel_rfl
def l11r0 : List AOper :=
  [AOper.mk (some 1) (AOp.box (Operand.tmp 0)) none [], AOper.mk (some 2) (AOp.mv (Operand.const (Value.bool false))) none []]
def l11r1 : List AOper :=
  [AOper.mk (some 5) (AOp.fld 1 (Operand.tmp 1)) none [], AOper.mk (some 6) (AOp.load false 1 (Operand.tmp 5)) none [0], AOper.mk (some 7) (AOp.call 41 [Operand.tmp 6]) none [1], AOper.mk (some 8) (AOp.un UnOp.not (Operand.tmp 7)) none [2], AOper.mk (some 9) (AOp.mv (Operand.tmp 8)) none [3, 2], AOper.mk (some 10) (AOp.fld 2 (Operand.tmp 1)) (some (9, false)) [4], AOper.mk (some 11) (AOp.load false 1 (Operand.tmp 10)) (some (9, false)) [5, 4], AOper.mk (some 12) (AOp.fld 1 (Operand.tmp 1)) (some (9, false)) [4], AOper.mk (some 13) (AOp.load false 1 (Operand.tmp 12)) (some (9, false)) [7, 4], AOper.mk (some 14) (AOp.len (Operand.tmp 13)) (some (9, false)) [8, 4], AOper.mk (some 15) (AOp.call 42 [Operand.tmp 11, Operand.tmp 14]) (some (9, false)) [6, 9, 4, 4], AOper.mk (some 16) (AOp.un UnOp.not (Operand.tmp 15)) (some (9, false)) [10, 4], AOper.mk (some 17) (AOp.pick (Operand.tmp 9) (Operand.const (Value.bool true)) (Operand.tmp 16)) none [4, 11], AOper.mk (some 18) (AOp.mv (Operand.tmp 17)) none [12, 10], AOper.mk (some 19) (AOp.fld 0 (Operand.tmp 1)) (some (18, false)) [13], AOper.mk (some 20) (AOp.load false 1 (Operand.tmp 19)) (some (18, false)) [14, 13], AOper.mk (some 21) (AOp.call 43 [Operand.tmp 20, Operand.const (Value.int IntKind.i64 60)]) (some (18, false)) [15, 13, 13], AOper.mk (some 22) (AOp.un UnOp.not (Operand.tmp 21)) (some (18, false)) [16, 13], AOper.mk (some 23) (AOp.pick (Operand.tmp 18) (Operand.const (Value.bool true)) (Operand.tmp 22)) none [13, 17]]
def l11r2 : List AOper :=
  [AOper.mk (some 2) (AOp.mv (Operand.const (Value.bool false))) none []]
def l11r3 : List AOper :=
  [AOper.mk (some 25) (AOp.load true 3 (Operand.tmp 1)) none [], AOper.mk (some 26) (AOp.call 44 [Operand.tmp 25]) none [0], AOper.mk (some 24) (AOp.mv (Operand.tmp 26)) none [1], AOper.mk (some 27) (AOp.extract (Operand.tmp 24) 0) none [2], AOper.mk (some 28) (AOp.extract (Operand.tmp 24) 1) none [2], AOper.mk (some 3) (AOp.mv (Operand.tmp 27)) none [3, 1, 0, 1, 2, 3], AOper.mk (some 4) (AOp.mv (Operand.tmp 28)) none [4, 5, 0, 1, 2, 3, 4, 5]]
def l11r4 : List AOper :=
  [AOper.mk (some 29) (AOp.load true 3 (Operand.tmp 1)) none [], AOper.mk (some 30) (AOp.call 45 [Operand.tmp 29]) none [0], AOper.mk (some 31) (AOp.bin BinOp.eql (Operand.tmp 30) (Operand.const (Value.int IntKind.i64 0))) none [1], AOper.mk (some 32) (AOp.mv (Operand.tmp 31)) none [2, 1], AOper.mk (some 33) (AOp.mv (Operand.tmp 3)) (some (32, false)) [3], AOper.mk (some 34) (AOp.bin BinOp.geq (Operand.tmp 33) (Operand.const (Value.int IntKind.i64 0))) (some (32, false)) [4, 3], AOper.mk (some 35) (AOp.mv (Operand.tmp 34)) (some (32, false)) [5, 3, 3], AOper.mk (some 36) (AOp.mv (Operand.tmp 4)) (some (35, true)) [6], AOper.mk (some 37) (AOp.bin BinOp.lss (Operand.tmp 36) (Operand.const (Value.int IntKind.i64 60))) (some (35, true)) [7, 6], AOper.mk (some 38) (AOp.pick (Operand.tmp 35) (Operand.tmp 37) (Operand.const (Value.bool false))) (some (32, false)) [6, 8, 3], AOper.mk (some 39) (AOp.pick (Operand.tmp 32) (Operand.const (Value.bool true)) (Operand.tmp 38)) none [3, 9], AOper.mk (some 2) (AOp.mv (Operand.tmp 39)) none [10, 6, 0, 1, 2, 3, 4, 5, 6, 7, 8, 9, 10]]
def l11 : AFn :=
  (AFn.mk 40 1 (ACode.seq (ACode.reg l11r0) (ACode.seq (ACode.seq (ACode.reg l11r1) (ACode.cond (Operand.tmp 23) (ACode.seq (ACode.reg l11r2) ACode.ret) ACode.skip)) (ACode.seq (ACode.reg l11r3) (ACode.seq (ACode.reg l11r4) ACode.ret)))) [ARes.tmp 2])
theorem l11_eq : lowFn Try.prog 11 = some l11 := by kernel_rfl
def l13r0 : List AOper :=
  [AOper.mk (some 1) (AOp.box (Operand.tmp 0)) none [], AOper.mk (some 2) (AOp.mv (Operand.const (Value.slice none 0 0))) none []]
def l13r1 : List AOper :=
  [AOper.mk (some 3) (AOp.load true 3 (Operand.tmp 1)) none [], AOper.mk (some 4) (AOp.call 11 [Operand.tmp 3]) none [0], AOper.mk (some 5) (AOp.un UnOp.not (Operand.tmp 4)) none [1]]
def l13r2 : List AOper :=
  [AOper.mk (some 2) (AOp.mv (Operand.const (Value.slice none 0 0))) none []]
def l13r3 : List AOper :=
  [AOper.mk (some 6) (AOp.load true 3 (Operand.tmp 1)) none [], AOper.mk (some 7) (AOp.call 47 [Operand.tmp 6]) none [0], AOper.mk (some 2) (AOp.mv (Operand.tmp 7)) none [1, 1, 0, 1]]
def l13 : AFn :=
  (AFn.mk 8 1 (ACode.seq (ACode.reg l13r0) (ACode.seq (ACode.seq (ACode.reg l13r1) (ACode.cond (Operand.tmp 5) (ACode.seq (ACode.reg l13r2) ACode.ret) ACode.skip)) (ACode.seq (ACode.reg l13r3) ACode.ret))) [ARes.tmp 2])
theorem l13_eq : lowFn Try.prog 13 = some l13 := by kernel_rfl
def l32r0 : List AOper :=
  [AOper.mk (some 2) (AOp.alloc [Value.int IntKind.i64 0, Value.slice none 0 0, Value.slice none 0 0]) none []]
def l32r1 : List AOper :=
  [AOper.mk (some 3) (AOp.mv (Operand.tmp 0)) none [], AOper.mk (some 4) (AOp.call 40 [Operand.tmp 3]) none [0], AOper.mk (some 5) (AOp.call 39 [Operand.tmp 4]) none [1, 1], AOper.mk none (AOp.store 3 (Operand.tmp 2) (Operand.tmp 5)) none [2, 2, 0, 1, 2]]
def l32 : AFn :=
  (AFn.mk 6 1 (ACode.seq (ACode.reg l32r0) (ACode.seq (ACode.reg l32r1) ACode.ret)) [ARes.cell 2 true 3])
theorem l32_eq : lowFn Try.prog 32 = some l32 := by kernel_rfl
def l33r0 : List AOper :=
  [AOper.mk (some 1) (AOp.box (Operand.tmp 0)) none [], AOper.mk (some 2) (AOp.mv (Operand.const (Value.int IntKind.i64 0))) none [], AOper.mk (some 3) (AOp.mv (Operand.const (Value.int IntKind.i64 0))) none [1]]
def l33r1 : List AOper :=
  [AOper.mk (some 4) (AOp.load true 3 (Operand.tmp 1)) none [], AOper.mk (some 5) (AOp.call 11 [Operand.tmp 4]) none [0], AOper.mk (some 6) (AOp.un UnOp.not (Operand.tmp 5)) none [1]]
def l33r2 : List AOper :=
  [AOper.mk (some 2) (AOp.mv (Operand.const (Value.int IntKind.i64 (-1)))) none [], AOper.mk (some 3) (AOp.mv (Operand.const (Value.int IntKind.i64 (-1)))) none [0, 0]]
def l33r3 : List AOper :=
  [AOper.mk (some 7) (AOp.load true 3 (Operand.tmp 1)) none [], AOper.mk (some 8) (AOp.call 44 [Operand.tmp 7]) none [0], AOper.mk (some 9) (AOp.extract (Operand.tmp 8) 0) none [1], AOper.mk (some 10) (AOp.extract (Operand.tmp 8) 1) none [1], AOper.mk (some 2) (AOp.mv (Operand.tmp 9)) none [2, 1, 0, 1, 2, 3], AOper.mk (some 3) (AOp.mv (Operand.tmp 10)) none [3, 4, 0, 1, 2, 3, 4]]
def l33 : AFn :=
  (AFn.mk 11 1 (ACode.seq (ACode.reg l33r0) (ACode.seq (ACode.seq (ACode.reg l33r1) (ACode.cond (Operand.tmp 6) (ACode.seq (ACode.reg l33r2) ACode.ret) ACode.skip)) (ACode.seq (ACode.reg l33r3) ACode.ret))) [ARes.tmp 2, ARes.tmp 3])
theorem l33_eq : lowFn Try.prog 33 = some l33 := by kernel_rfl
def l34r0 : List AOper :=
  [AOper.mk (some 1) (AOp.box (Operand.tmp 0)) none [], AOper.mk (some 2) (AOp.mv (Operand.const (Value.int IntKind.i64 0))) none [], AOper.mk (some 3) (AOp.mv (Operand.const (Value.int IntKind.i64 0))) none [1]]
def l34r1 : List AOper :=
  [AOper.mk (some 8) (AOp.load true 3 (Operand.tmp 1)) none [], AOper.mk (some 9) (AOp.call 46 [Operand.tmp 8]) none [0], AOper.mk (some 10) (AOp.un UnOp.not (Operand.tmp 9)) none [1], AOper.mk (some 11) (AOp.mv (Operand.tmp 10)) none [2, 1], AOper.mk (some 12) (AOp.fld 1 (Operand.tmp 1)) (some (11, false)) [3], AOper.mk (some 13) (AOp.load false 1 (Operand.tmp 12)) (some (11, false)) [4, 3], AOper.mk (some 14) (AOp.call 68 [Operand.tmp 13]) (some (11, false)) [5, 3, 3], AOper.mk (some 15) (AOp.bin BinOp.eql (Operand.tmp 14) (Operand.const (Value.int IntKind.i64 0))) (some (11, false)) [6, 3], AOper.mk (some 16) (AOp.pick (Operand.tmp 11) (Operand.const (Value.bool true)) (Operand.tmp 15)) none [3, 7]]
def l34r2 : List AOper :=
  [AOper.mk (some 2) (AOp.mv (Operand.const (Value.int IntKind.i64 (-1)))) none [], AOper.mk (some 3) (AOp.mv (Operand.const (Value.int IntKind.i64 (-1)))) none [0, 0]]
def l34r3 : List AOper :=
  [AOper.mk (some 17) (AOp.load true 3 (Operand.tmp 1)) none [], AOper.mk (some 18) (AOp.call 57 [Operand.tmp 17]) none [0], AOper.mk (some 4) (AOp.mv (Operand.tmp 18)) none [1, 1, 0, 1]]
def l34r4 : List AOper :=
  [AOper.mk (some 19) (AOp.mv (Operand.tmp 4)) none [], AOper.mk (some 20) (AOp.idxA 1 (Operand.tmp 19) (Operand.const (Value.int IntKind.i64 0))) none [0], AOper.mk (some 21) (AOp.load false 1 (Operand.tmp 20)) none [1], AOper.mk (some 5) (AOp.mv (Operand.tmp 21)) none [2, 0, 1, 2]]
def l34r5 : List AOper :=
  [AOper.mk (some 22) (AOp.mv (Operand.tmp 4)) none [], AOper.mk (some 23) (AOp.idxA 1 (Operand.tmp 22) (Operand.const (Value.int IntKind.i64 0))) none [0], AOper.mk (some 24) (AOp.load false 1 (Operand.tmp 23)) none [1], AOper.mk (some 6) (AOp.mv (Operand.tmp 24)) none [2, 0, 1, 2]]
def l34r6 : List AOper :=
  [AOper.mk (some 7) (AOp.mv (Operand.const (Value.int IntKind.i64 0))) none []]
def l34r7 : List AOper :=
  [AOper.mk (some 25) (AOp.mv (Operand.tmp 7)) none [], AOper.mk (some 26) (AOp.mv (Operand.tmp 4)) none [], AOper.mk (some 27) (AOp.len (Operand.tmp 26)) none [1], AOper.mk (some 28) (AOp.bin BinOp.lss (Operand.tmp 25) (Operand.tmp 27)) none [0, 2]]
def l34r8 : List AOper :=
  [AOper.mk (some 31) (AOp.mv (Operand.tmp 5)) none [], AOper.mk (some 32) (AOp.mv (Operand.tmp 4)) none [], AOper.mk (some 33) (AOp.mv (Operand.tmp 7)) none [], AOper.mk (some 34) (AOp.idxA 1 (Operand.tmp 32) (Operand.tmp 33)) none [1, 2], AOper.mk (some 35) (AOp.load false 1 (Operand.tmp 34)) none [3], AOper.mk (some 36) (AOp.minmax false (Operand.tmp 31) (Operand.tmp 35)) none [0, 4], AOper.mk (some 5) (AOp.mv (Operand.tmp 36)) none [5, 0, 1, 2, 3, 4, 5]]
def l34r9 : List AOper :=
  [AOper.mk (some 37) (AOp.mv (Operand.tmp 6)) none [], AOper.mk (some 38) (AOp.mv (Operand.tmp 4)) none [], AOper.mk (some 39) (AOp.mv (Operand.tmp 7)) none [], AOper.mk (some 40) (AOp.idxA 1 (Operand.tmp 38) (Operand.tmp 39)) none [1, 2], AOper.mk (some 41) (AOp.load false 1 (Operand.tmp 40)) none [3], AOper.mk (some 42) (AOp.minmax true (Operand.tmp 37) (Operand.tmp 41)) none [0, 4], AOper.mk (some 6) (AOp.mv (Operand.tmp 42)) none [5, 0, 1, 2, 3, 4, 5]]
def l34r10 : List AOper :=
  [AOper.mk (some 29) (AOp.mv (Operand.tmp 7)) none [], AOper.mk (some 30) (AOp.bin BinOp.add (Operand.tmp 29) (Operand.const (Value.int IntKind.i64 1))) none [0], AOper.mk (some 7) (AOp.mv (Operand.tmp 30)) none [1, 0, 1]]
def l34r11 : List AOper :=
  [AOper.mk (some 43) (AOp.mv (Operand.tmp 5)) none [], AOper.mk (some 44) (AOp.mv (Operand.tmp 6)) none [], AOper.mk (some 2) (AOp.mv (Operand.tmp 43)) none [0, 0], AOper.mk (some 3) (AOp.mv (Operand.tmp 44)) none [1, 2, 0, 1, 2]]
def l34 : AFn :=
  (AFn.mk 45 1 (ACode.seq (ACode.reg l34r0) (ACode.seq (ACode.seq (ACode.reg l34r1) (ACode.cond (Operand.tmp 16) (ACode.seq (ACode.reg l34r2) ACode.ret) ACode.skip)) (ACode.seq (ACode.reg l34r3) (ACode.seq (ACode.reg l34r4) (ACode.seq (ACode.reg l34r5) (ACode.seq (ACode.seq (ACode.reg l34r6) (ACode.block 0 (ACode.loop (ACode.seq (ACode.seq (ACode.reg l34r7) (ACode.cond (Operand.tmp 28) ACode.skip (ACode.exit 0))) (ACode.seq (ACode.block 1 (ACode.seq (ACode.reg l34r8) (ACode.reg l34r9))) (ACode.reg l34r10)))))) (ACode.seq (ACode.reg l34r11) ACode.ret))))))) [ARes.tmp 2, ARes.tmp 3])
theorem l34_eq : lowFn Try.prog 34 = some l34 := by kernel_rfl
def l35r0 : List AOper :=
  [AOper.mk (some 4) (AOp.mv (Operand.const (Value.bool false))) none []]
def l35r1 : List AOper :=
  [AOper.mk (some 5) (AOp.mv (Operand.const (Value.int IntKind.i64 0))) none []]
def l35r2 : List AOper :=
  [AOper.mk (some 6) (AOp.mv (Operand.tmp 5)) none [], AOper.mk (some 7) (AOp.mv (Operand.tmp 0)) none [], AOper.mk (some 8) (AOp.len (Operand.tmp 7)) none [1], AOper.mk (some 9) (AOp.bin BinOp.lss (Operand.tmp 6) (Operand.tmp 8)) none [0, 2]]
def l35r3 : List AOper :=
  [AOper.mk (some 12) (AOp.mv (Operand.tmp 0)) none [], AOper.mk (some 13) (AOp.mv (Operand.tmp 5)) none [], AOper.mk (some 14) (AOp.idxA 1 (Operand.tmp 12) (Operand.tmp 13)) none [0, 1], AOper.mk (some 15) (AOp.load false 1 (Operand.tmp 14)) none [2], AOper.mk (some 16) (AOp.mv (Operand.tmp 1)) none [], AOper.mk (some 17) (AOp.bin BinOp.eql (Operand.tmp 15) (Operand.tmp 16)) none [3, 4]]
def l35r4 : List AOper :=
  [AOper.mk (some 4) (AOp.mv (Operand.const (Value.bool true))) none []]
def l35r5 : List AOper :=
  [AOper.mk (some 10) (AOp.mv (Operand.tmp 5)) none [], AOper.mk (some 11) (AOp.bin BinOp.add (Operand.tmp 10) (Operand.const (Value.int IntKind.i64 1))) none [0], AOper.mk (some 5) (AOp.mv (Operand.tmp 11)) none [1, 0, 1]]
def l35r6 : List AOper :=
  [AOper.mk (some 4) (AOp.mv (Operand.const (Value.bool false))) none []]
def l35 : AFn :=
  (AFn.mk 18 2 (ACode.seq (ACode.reg l35r0) (ACode.seq (ACode.seq (ACode.reg l35r1) (ACode.block 0 (ACode.loop (ACode.seq (ACode.seq (ACode.reg l35r2) (ACode.cond (Operand.tmp 9) ACode.skip (ACode.exit 0))) (ACode.seq (ACode.block 1 (ACode.seq (ACode.reg l35r3) (ACode.cond (Operand.tmp 17) (ACode.seq (ACode.reg l35r4) ACode.ret) ACode.skip))) (ACode.reg l35r5)))))) (ACode.seq (ACode.reg l35r6) ACode.ret))) [ARes.tmp 4])
theorem l35_eq : lowFn Try.prog 35 = some l35 := by kernel_rfl
def l39r0 : List AOper :=
  [AOper.mk (some 2) (AOp.alloc [Value.int IntKind.i64 0, Value.slice none 0 0, Value.slice none 0 0]) none []]
def l39r1 : List AOper :=
  [AOper.mk (some 4) (AOp.mv (Operand.tmp 0)) none [], AOper.mk (some 5) (AOp.call 71 [Operand.tmp 4]) none [0], AOper.mk (some 3) (AOp.alloc [Value.int IntKind.i64 0, Value.slice none 0 0, Value.slice none 0 0]) none [], AOper.mk none (AOp.store 3 (Operand.tmp 3) (Operand.tmp 5)) none [2, 1, 1, 0, 1, 2]]
def l39r2 : List AOper :=
  [AOper.mk (some 6) (AOp.mv (Operand.tmp 0)) none [], AOper.mk (some 7) (AOp.call 50 [Operand.tmp 6, Operand.const (Value.int IntKind.i64 24)]) none [0]]
def l39r3 : List AOper :=
  [AOper.mk (some 9) (AOp.bin BinOp.eql (Operand.tmp 7) (Operand.const (Value.int IntKind.i64 0))) none [], AOper.mk (some 8) (AOp.mv (Operand.tmp 9)) none [0]]
def l39r4 : List AOper :=
  [AOper.mk (some 10) (AOp.mv (Operand.tmp 0)) none [], AOper.mk (some 11) (AOp.bslice 1 [Value.int IntKind.i64 0] [(0, Operand.const (Value.int IntKind.i64 (-1))), (1, Operand.const (Value.int IntKind.i64 60)), (2, Operand.const (Value.int IntKind.i64 61))] 3) none [], AOper.mk (some 12) (AOp.call 49 [Operand.tmp 10, Operand.tmp 11]) none [0, 1], AOper.mk (some 13) (AOp.fld 0 (Operand.tmp 3)) none [0, 1, 2], AOper.mk none (AOp.store 1 (Operand.tmp 13) (Operand.tmp 12)) none [3, 2, 2, 0, 1, 2]]
def l39r5 : List AOper :=
  [AOper.mk (some 15) (AOp.bin BinOp.eql (Operand.tmp 7) (Operand.const (Value.int IntKind.i64 1))) none [], AOper.mk (some 14) (AOp.mv (Operand.tmp 15)) none [0]]
def l39r6 : List AOper :=
  [AOper.mk (some 16) (AOp.fld 2 (Operand.tmp 3)) none [], AOper.mk (some 17) (AOp.load false 1 (Operand.tmp 16)) none [0], AOper.mk (some 18) (AOp.bslice 1 [Value.int IntKind.i64 0] [(0, Operand.const (Value.int IntKind.i64 1))] 1) none [], AOper.mk (some 19) (AOp.append 1 (Operand.tmp 17) (Operand.tmp 18)) none [1, 2], AOper.mk (some 20) (AOp.fld 2 (Operand.tmp 3)) none [0, 1, 2, 3], AOper.mk none (AOp.store 1 (Operand.tmp 20) (Operand.tmp 19)) none [4, 3, 3, 0, 1, 2, 3]]
def l39r7 : List AOper :=
  [AOper.mk (some 22) (AOp.bin BinOp.eql (Operand.tmp 7) (Operand.const (Value.int IntKind.i64 2))) none [], AOper.mk (some 21) (AOp.mv (Operand.tmp 22)) none [0]]
def l39r8 : List AOper :=
  [AOper.mk (some 23) (AOp.fld 2 (Operand.tmp 3)) none [], AOper.mk (some 24) (AOp.load false 1 (Operand.tmp 23)) none [0], AOper.mk (some 25) (AOp.len (Operand.tmp 24)) none [1], AOper.mk (some 26) (AOp.bin BinOp.gtr (Operand.tmp 25) (Operand.const (Value.int IntKind.i64 0))) none [2]]
def l39r9a : List AOper :=
  [AOper.mk (some 27) (AOp.fld 2 (Operand.tmp 3)) none [], AOper.mk (some 28) (AOp.load false 1 (Operand.tmp 27)) none [0], AOper.mk (some 29) (AOp.mv (Operand.tmp 0)) none [], AOper.mk (some 30) (AOp.bslice 1 [Value.int IntKind.i64 0] [(0, Operand.const (Value.int IntKind.i64 61)), (1, Operand.const (Value.int IntKind.i64 (-61))), (2, Operand.const (Value.int IntKind.i64 60))] 3) none [], AOper.mk (some 31) (AOp.call 49 [Operand.tmp 29, Operand.tmp 30]) none [2, 3]]
def l39r9b : List AOper :=
  [AOper.mk (some 32) (AOp.idxA 1 (Operand.tmp 28) (Operand.const (Value.int IntKind.i64 0))) none [1, 0, 1, 2, 3, 4], AOper.mk none (AOp.store 1 (Operand.tmp 32) (Operand.tmp 31)) none [5, 4, 4, 0, 1, 2, 3, 4]]
def l39r9 : List AOper := l39r9a ++ l39r9b
def l39r10 : List AOper :=
  [AOper.mk (some 33) (AOp.load true 3 (Operand.tmp 3)) none [], AOper.mk none (AOp.store 3 (Operand.tmp 2) (Operand.tmp 33)) none [0, 0]]
def l39 : AFn :=
  (AFn.mk 34 1 (ACode.seq (ACode.reg l39r0) (ACode.seq (ACode.reg l39r1) (ACode.seq (ACode.seq (ACode.reg l39r2) (ACode.block 0 (ACode.seq (ACode.reg l39r3) (ACode.cond (Operand.tmp 8) (ACode.reg l39r4) (ACode.seq (ACode.reg l39r5) (ACode.cond (Operand.tmp 14) (ACode.reg l39r6) (ACode.seq (ACode.reg l39r7) (ACode.cond (Operand.tmp 21) (ACode.seq (ACode.reg l39r8) (ACode.cond (Operand.tmp 26) (ACode.draw l39r9) ACode.skip)) ACode.skip)))))))) (ACode.seq (ACode.reg l39r10) ACode.ret)))) [ARes.cell 2 true 3])
theorem l39_eq : lowFn Try.prog 39 = some l39 := by kernel_rfl
def l40r0 : List AOper :=
  [AOper.mk (some 2) (AOp.mv (Operand.const (Value.pointer none))) none []]
def l40r1 : List AOper :=
  [AOper.mk (some 3) (AOp.mv (Operand.tmp 0)) none [], AOper.mk (some 4) (AOp.len (Operand.tmp 3)) none [0], AOper.mk (some 5) (AOp.bin BinOp.gtr (Operand.tmp 4) (Operand.const (Value.int IntKind.i64 2000))) none [1]]
def l40r2 : List AOper :=
  [AOper.mk (some 6) (AOp.mv (Operand.tmp 0)) none [], AOper.mk (some 7) (AOp.slice 1 (Operand.tmp 6) none (some (Operand.const (Value.int IntKind.i64 2000)))) none [0], AOper.mk (some 0) (AOp.mv (Operand.tmp 7)) none [1, 0, 1]]
def l40r3 : List AOper :=
  [AOper.mk (some 8) (AOp.mv (Operand.tmp 0)) none [], AOper.mk (some 9) (AOp.build [Value.slice none 0 0, Value.int IntKind.i64 0] [(0, 1, Operand.tmp 8)]) none [0], AOper.mk (some 10) (AOp.box (Operand.tmp 9)) none [1], AOper.mk (some 2) (AOp.mv (Operand.tmp 10)) none [2, 0, 1, 2]]
def l40 : AFn :=
  (AFn.mk 11 1 (ACode.seq (ACode.reg l40r0) (ACode.seq (ACode.seq (ACode.reg l40r1) (ACode.cond (Operand.tmp 5) (ACode.reg l40r2) ACode.skip)) (ACode.seq (ACode.reg l40r3) ACode.ret))) [ARes.tmp 2])
theorem l40_eq : lowFn Try.prog 40 = some l40 := by kernel_rfl
def l41r0 : List AOper :=
  [AOper.mk (some 2) (AOp.mv (Operand.const (Value.bool false))) none []]
def l41r1 : List AOper :=
  [AOper.mk (some 5) (AOp.mv (Operand.tmp 0)) none [], AOper.mk (some 6) (AOp.len (Operand.tmp 5)) none [0], AOper.mk (some 7) (AOp.bin BinOp.gtr (Operand.tmp 6) (Operand.const (Value.int IntKind.i64 4))) none [1]]
def l41r2 : List AOper :=
  [AOper.mk (some 2) (AOp.mv (Operand.const (Value.bool false))) none []]
def l41r3 : List AOper :=
  [AOper.mk (some 8) (AOp.mv (Operand.tmp 0)) none [], AOper.mk (some 9) (AOp.len (Operand.tmp 8)) none [0], AOper.mk (some 10) (AOp.mv (Operand.const (Value.int IntKind.i64 0))) none []]
def l41r4 : List AOper :=
  [AOper.mk (some 11) (AOp.bin BinOp.lss (Operand.tmp 10) (Operand.tmp 9)) none []]
def l41r5 : List AOper :=
  [AOper.mk (some 12) (AOp.idxA 1 (Operand.tmp 8) (Operand.tmp 10)) none [], AOper.mk (some 13) (AOp.load false 1 (Operand.tmp 12)) none [0], AOper.mk (some 4) (AOp.mv (Operand.tmp 13)) none [1, 0, 1]]
def l41r6 : List AOper :=
  [AOper.mk (some 14) (AOp.mv (Operand.tmp 4)) none [], AOper.mk (some 15) (AOp.call 43 [Operand.tmp 14, Operand.const (Value.int IntKind.i64 60)]) none [0], AOper.mk (some 16) (AOp.un UnOp.not (Operand.tmp 15)) none [1]]
def l41r7 : List AOper :=
  [AOper.mk (some 2) (AOp.mv (Operand.const (Value.bool false))) none []]
def l41r8 : List AOper :=
  [AOper.mk (some 17) (AOp.bin BinOp.add (Operand.tmp 10) (Operand.const (Value.int IntKind.i64 1))) none [], AOper.mk (some 10) (AOp.mv (Operand.tmp 17)) none [0]]
def l41r9 : List AOper :=
  [AOper.mk (some 18) (AOp.mv (Operand.tmp 0)) none [], AOper.mk (some 19) (AOp.call 48 [Operand.tmp 18]) none [0], AOper.mk (some 20) (AOp.bin BinOp.leq (Operand.tmp 19) (Operand.const (Value.int IntKind.i64 60))) none [1], AOper.mk (some 2) (AOp.mv (Operand.tmp 20)) none [2, 1, 0, 1, 2]]
def l41 : AFn :=
  (AFn.mk 21 1 (ACode.seq (ACode.reg l41r0) (ACode.seq (ACode.seq (ACode.reg l41r1) (ACode.cond (Operand.tmp 7) (ACode.seq (ACode.reg l41r2) ACode.ret) ACode.skip)) (ACode.seq (ACode.seq (ACode.reg l41r3) (ACode.block 0 (ACode.loop (ACode.seq (ACode.reg l41r4) (ACode.seq (ACode.cond (Operand.tmp 11) ACode.skip (ACode.exit 0)) (ACode.seq (ACode.block 1 (ACode.seq (ACode.reg l41r5) (ACode.seq (ACode.reg l41r6) (ACode.cond (Operand.tmp 16) (ACode.seq (ACode.reg l41r7) ACode.ret) ACode.skip)))) (ACode.reg l41r8))))))) (ACode.seq (ACode.reg l41r9) ACode.ret)))) [ARes.tmp 2])
theorem l41_eq : lowFn Try.prog 41 = some l41 := by kernel_rfl
def l42r0 : List AOper :=
  [AOper.mk (some 4) (AOp.mv (Operand.const (Value.bool false))) none []]
def l42r1 : List AOper :=
  [AOper.mk (some 7) (AOp.mv (Operand.tmp 0)) none [], AOper.mk (some 8) (AOp.len (Operand.tmp 7)) none [0], AOper.mk (some 9) (AOp.mv (Operand.tmp 1)) none [], AOper.mk (some 10) (AOp.bin BinOp.neq (Operand.tmp 8) (Operand.tmp 9)) none [1, 2]]
def l42r2 : List AOper :=
  [AOper.mk (some 4) (AOp.mv (Operand.const (Value.bool false))) none []]
def l42r3 : List AOper :=
  [AOper.mk (some 11) (AOp.mv (Operand.tmp 0)) none [], AOper.mk (some 12) (AOp.len (Operand.tmp 11)) none [0], AOper.mk (some 13) (AOp.mv (Operand.const (Value.int IntKind.i64 0))) none []]
def l42r4 : List AOper :=
  [AOper.mk (some 14) (AOp.bin BinOp.lss (Operand.tmp 13) (Operand.tmp 12)) none []]
def l42r5 : List AOper :=
  [AOper.mk (some 15) (AOp.idxA 1 (Operand.tmp 11) (Operand.tmp 13)) none [], AOper.mk (some 16) (AOp.load false 1 (Operand.tmp 15)) none [0], AOper.mk (some 6) (AOp.mv (Operand.tmp 16)) none [1, 0, 1]]
def l42r6 : List AOper :=
  [AOper.mk (some 17) (AOp.mv (Operand.tmp 6)) none [], AOper.mk (some 18) (AOp.call 72 [Operand.tmp 17, Operand.const (Value.int IntKind.i64 60)]) none [0], AOper.mk (some 19) (AOp.un UnOp.not (Operand.tmp 18)) none [1]]
def l42r7 : List AOper :=
  [AOper.mk (some 4) (AOp.mv (Operand.const (Value.bool false))) none []]
def l42r8 : List AOper :=
  [AOper.mk (some 20) (AOp.bin BinOp.add (Operand.tmp 13) (Operand.const (Value.int IntKind.i64 1))) none [], AOper.mk (some 13) (AOp.mv (Operand.tmp 20)) none [0]]
def l42r9 : List AOper :=
  [AOper.mk (some 4) (AOp.mv (Operand.const (Value.bool true))) none []]
def l42 : AFn :=
  (AFn.mk 21 2 (ACode.seq (ACode.reg l42r0) (ACode.seq (ACode.seq (ACode.reg l42r1) (ACode.cond (Operand.tmp 10) (ACode.seq (ACode.reg l42r2) ACode.ret) ACode.skip)) (ACode.seq (ACode.seq (ACode.reg l42r3) (ACode.block 0 (ACode.loop (ACode.seq (ACode.reg l42r4) (ACode.seq (ACode.cond (Operand.tmp 14) ACode.skip (ACode.exit 0)) (ACode.seq (ACode.block 1 (ACode.seq (ACode.reg l42r5) (ACode.seq (ACode.reg l42r6) (ACode.cond (Operand.tmp 19) (ACode.seq (ACode.reg l42r7) ACode.ret) ACode.skip)))) (ACode.reg l42r8))))))) (ACode.seq (ACode.reg l42r9) ACode.ret)))) [ARes.tmp 4])
theorem l42_eq : lowFn Try.prog 42 = some l42 := by kernel_rfl
def l43r0 : List AOper :=
  [AOper.mk (some 4) (AOp.mv (Operand.const (Value.bool false))) none []]
def l43r1 : List AOper :=
  [AOper.mk (some 5) (AOp.mv (Operand.tmp 0)) none [], AOper.mk (some 6) (AOp.bin BinOp.leq (Operand.const (Value.int IntKind.i64 0)) (Operand.tmp 5)) none [0], AOper.mk (some 7) (AOp.mv (Operand.tmp 6)) none [1], AOper.mk (some 8) (AOp.mv (Operand.tmp 0)) (some (7, true)) [2], AOper.mk (some 9) (AOp.mv (Operand.tmp 1)) (some (7, true)) [2], AOper.mk (some 10) (AOp.bin BinOp.leq (Operand.tmp 8) (Operand.tmp 9)) (some (7, true)) [3, 4, 2], AOper.mk (some 11) (AOp.pick (Operand.tmp 7) (Operand.tmp 10) (Operand.const (Value.bool false))) none [2, 5], AOper.mk (some 4) (AOp.mv (Operand.tmp 11)) none [6, 2, 0, 1, 2, 3, 4, 5, 6]]
def l43 : AFn :=
  (AFn.mk 12 2 (ACode.seq (ACode.reg l43r0) (ACode.seq (ACode.reg l43r1) ACode.ret)) [ARes.tmp 4])
theorem l43_eq : lowFn Try.prog 43 = some l43 := by kernel_rfl
def l44r0 : List AOper :=
  [AOper.mk (some 1) (AOp.box (Operand.tmp 0)) none [], AOper.mk (some 2) (AOp.mv (Operand.const (Value.int IntKind.i64 0))) none [], AOper.mk (some 3) (AOp.mv (Operand.const (Value.int IntKind.i64 0))) none [1]]
def l44r1 : List AOper :=
  [AOper.mk (some 9) (AOp.load true 3 (Operand.tmp 1)) none [], AOper.mk (some 10) (AOp.call 45 [Operand.tmp 9]) none [0], AOper.mk (some 11) (AOp.bin BinOp.eql (Operand.tmp 10) (Operand.const (Value.int IntKind.i64 0))) none [1]]
def l44r2 : List AOper :=
  [AOper.mk (some 2) (AOp.mv (Operand.const (Value.int IntKind.i64 (-1)))) none [], AOper.mk (some 3) (AOp.mv (Operand.const (Value.int IntKind.i64 (-1)))) none [0, 0]]
def l44r3a : List AOper :=
  [AOper.mk (some 12) (AOp.fld 0 (Operand.tmp 1)) none [], AOper.mk (some 13) (AOp.load false 1 (Operand.tmp 12)) none [0], AOper.mk (some 14) (AOp.fld 0 (Operand.tmp 1)) none [], AOper.mk (some 15) (AOp.load false 1 (Operand.tmp 14)) none [2], AOper.mk (some 4) (AOp.mv (Operand.tmp 13)) none [1, 0, 1]]
def l44r3b : List AOper :=
  [AOper.mk (some 5) (AOp.mv (Operand.tmp 15)) none [3, 4, 0, 1, 2, 3, 4]]
def l44r3 : List AOper := l44r3a ++ l44r3b
def l44r4 : List AOper :=
  [AOper.mk (some 16) (AOp.fld 2 (Operand.tmp 1)) none [], AOper.mk (some 17) (AOp.load false 1 (Operand.tmp 16)) none [0], AOper.mk (some 18) (AOp.len (Operand.tmp 17)) none [1], AOper.mk (some 19) (AOp.mv (Operand.const (Value.int IntKind.i64 0))) none []]
def l44r5 : List AOper :=
  [AOper.mk (some 20) (AOp.bin BinOp.lss (Operand.tmp 19) (Operand.tmp 18)) none []]
def l44r6 : List AOper :=
  [AOper.mk (some 21) (AOp.mv (Operand.tmp 19)) none [], AOper.mk (some 22) (AOp.idxA 1 (Operand.tmp 17) (Operand.tmp 19)) none [], AOper.mk (some 23) (AOp.load false 1 (Operand.tmp 22)) none [1], AOper.mk (some 6) (AOp.mv (Operand.tmp 21)) none [0, 0, 1, 2], AOper.mk (some 7) (AOp.mv (Operand.tmp 23)) none [2, 3, 0, 1, 2, 3]]
def l44r7 : List AOper :=
  [AOper.mk (some 24) (AOp.fld 1 (Operand.tmp 1)) none [], AOper.mk (some 25) (AOp.load false 1 (Operand.tmp 24)) none [0], AOper.mk (some 26) (AOp.mv (Operand.tmp 6)) none [], AOper.mk (some 27) (AOp.idxA 1 (Operand.tmp 25) (Operand.tmp 26)) none [1, 2], AOper.mk (some 28) (AOp.load false 1 (Operand.tmp 27)) none [3], AOper.mk (some 29) (AOp.bin BinOp.sub (Operand.tmp 28) (Operand.const (Value.int IntKind.i64 1))) none [4], AOper.mk (some 30) (AOp.mv (Operand.tmp 7)) none [], AOper.mk (some 31) (AOp.bin BinOp.mul (Operand.tmp 29) (Operand.tmp 30)) none [5, 6], AOper.mk (some 8) (AOp.mv (Operand.tmp 31)) none [7, 0, 1, 2, 3, 4, 5, 6, 7]]
def l44r8 : List AOper :=
  [AOper.mk (some 32) (AOp.mv (Operand.tmp 4)) none [], AOper.mk (some 33) (AOp.mv (Operand.tmp 8)) none [], AOper.mk (some 34) (AOp.minmax false (Operand.tmp 33) (Operand.const (Value.int IntKind.i64 0))) none [1], AOper.mk (some 35) (AOp.bin BinOp.add (Operand.tmp 32) (Operand.tmp 34)) none [0, 2], AOper.mk (some 4) (AOp.mv (Operand.tmp 35)) none [3, 0, 1, 2, 3]]
def l44r9 : List AOper :=
  [AOper.mk (some 36) (AOp.mv (Operand.tmp 5)) none [], AOper.mk (some 37) (AOp.mv (Operand.tmp 8)) none [], AOper.mk (some 38) (AOp.minmax true (Operand.tmp 37) (Operand.const (Value.int IntKind.i64 0))) none [1], AOper.mk (some 39) (AOp.bin BinOp.add (Operand.tmp 36) (Operand.tmp 38)) none [0, 2], AOper.mk (some 5) (AOp.mv (Operand.tmp 39)) none [3, 0, 1, 2, 3]]
def l44r10 : List AOper :=
  [AOper.mk (some 40) (AOp.bin BinOp.add (Operand.tmp 19) (Operand.const (Value.int IntKind.i64 1))) none [], AOper.mk (some 19) (AOp.mv (Operand.tmp 40)) none [0]]
def l44r11 : List AOper :=
  [AOper.mk (some 41) (AOp.mv (Operand.tmp 4)) none [], AOper.mk (some 42) (AOp.mv (Operand.tmp 5)) none [], AOper.mk (some 2) (AOp.mv (Operand.tmp 41)) none [0, 0], AOper.mk (some 3) (AOp.mv (Operand.tmp 42)) none [1, 2, 0, 1, 2]]
def l44 : AFn :=
  (AFn.mk 43 1 (ACode.seq (ACode.reg l44r0) (ACode.seq (ACode.seq (ACode.reg l44r1) (ACode.cond (Operand.tmp 11) (ACode.seq (ACode.reg l44r2) ACode.ret) ACode.skip)) (ACode.seq (ACode.draw l44r3) (ACode.seq (ACode.seq (ACode.reg l44r4) (ACode.block 0 (ACode.loop (ACode.seq (ACode.reg l44r5) (ACode.seq (ACode.cond (Operand.tmp 20) ACode.skip (ACode.exit 0)) (ACode.seq (ACode.block 1 (ACode.seq (ACode.reg l44r6) (ACode.seq (ACode.reg l44r7) (ACode.seq (ACode.reg l44r8) (ACode.reg l44r9))))) (ACode.reg l44r10))))))) (ACode.seq (ACode.reg l44r11) ACode.ret))))) [ARes.tmp 2, ARes.tmp 3])
theorem l44_eq : lowFn Try.prog 44 = some l44 := by kernel_rfl
def l45r0 : List AOper :=
  [AOper.mk (some 1) (AOp.box (Operand.tmp 0)) none [], AOper.mk (some 2) (AOp.mv (Operand.const (Value.int IntKind.i64 0))) none []]
def l45r1 : List AOper :=
  [AOper.mk (some 3) (AOp.fld 1 (Operand.tmp 1)) none [], AOper.mk (some 4) (AOp.load false 1 (Operand.tmp 3)) none [0], AOper.mk (some 5) (AOp.call 48 [Operand.tmp 4]) none [1], AOper.mk (some 2) (AOp.mv (Operand.tmp 5)) none [2, 2, 0, 1, 2]]
def l45 : AFn :=
  (AFn.mk 6 1 (ACode.seq (ACode.reg l45r0) (ACode.seq (ACode.reg l45r1) ACode.ret)) [ARes.tmp 2])
theorem l45_eq : lowFn Try.prog 45 = some l45 := by kernel_rfl
def l46r0 : List AOper :=
  [AOper.mk (some 1) (AOp.box (Operand.tmp 0)) none [], AOper.mk (some 2) (AOp.mv (Operand.const (Value.bool false))) none []]
def l46r1 : List AOper :=
  [AOper.mk (some 3) (AOp.fld 1 (Operand.tmp 1)) none [], AOper.mk (some 4) (AOp.load false 1 (Operand.tmp 3)) none [0], AOper.mk (some 5) (AOp.call 73 [Operand.tmp 4]) none [1], AOper.mk (some 6) (AOp.mv (Operand.tmp 5)) none [2, 2], AOper.mk (some 7) (AOp.fld 2 (Operand.tmp 1)) (some (6, true)) [3], AOper.mk (some 8) (AOp.load false 1 (Operand.tmp 7)) (some (6, true)) [4, 3], AOper.mk (some 9) (AOp.len (Operand.tmp 8)) (some (6, true)) [5, 3], AOper.mk (some 10) (AOp.fld 1 (Operand.tmp 1)) (some (6, true)) [3], AOper.mk (some 11) (AOp.load false 1 (Operand.tmp 10)) (some (6, true)) [7, 3], AOper.mk (some 12) (AOp.len (Operand.tmp 11)) (some (6, true)) [8, 3], AOper.mk (some 13) (AOp.bin BinOp.eql (Operand.tmp 9) (Operand.tmp 12)) (some (6, true)) [6, 9, 3], AOper.mk (some 14) (AOp.pick (Operand.tmp 6) (Operand.tmp 13) (Operand.const (Value.bool false))) none [3, 10], AOper.mk (some 15) (AOp.mv (Operand.tmp 14)) none [11, 3], AOper.mk (some 16) (AOp.fld 2 (Operand.tmp 1)) (some (15, true)) [12], AOper.mk (some 17) (AOp.load false 1 (Operand.tmp 16)) (some (15, true)) [13, 12], AOper.mk (some 18) (AOp.call 74 [Operand.tmp 17, Operand.const (Value.int IntKind.i64 (-60)), Operand.const (Value.int IntKind.i64 60)]) (some (15, true)) [14, 12, 12], AOper.mk (some 19) (AOp.pick (Operand.tmp 15) (Operand.tmp 18) (Operand.const (Value.bool false))) none [12, 15], AOper.mk (some 20) (AOp.mv (Operand.tmp 19)) none [16, 15], AOper.mk (some 21) (AOp.fld 0 (Operand.tmp 1)) (some (20, true)) [17], AOper.mk (some 22) (AOp.load false 1 (Operand.tmp 21)) (some (20, true)) [18, 17], AOper.mk (some 23) (AOp.call 69 [Operand.tmp 22, Operand.const (Value.int IntKind.i64 0), Operand.const (Value.int IntKind.i64 60)]) (some (20, true)) [19, 17, 17], AOper.mk (some 24) (AOp.pick (Operand.tmp 20) (Operand.tmp 23) (Operand.const (Value.bool false))) none [17, 20], AOper.mk (some 25) (AOp.mv (Operand.tmp 24)) none [21, 20], AOper.mk (some 26) (AOp.fld 1 (Operand.tmp 1)) (some (25, true)) [22], AOper.mk (some 27) (AOp.load false 1 (Operand.tmp 26)) (some (25, true)) [23, 22], AOper.mk (some 28) (AOp.call 68 [Operand.tmp 27]) (some (25, true)) [24, 22, 22], AOper.mk (some 29) (AOp.bin BinOp.eql (Operand.tmp 28) (Operand.const (Value.int IntKind.i64 0))) (some (25, true)) [25, 22], AOper.mk (some 30) (AOp.mv (Operand.tmp 29)) (some (25, true)) [26, 25, 22], AOper.mk (some 31) (AOp.load true 3 (Operand.tmp 1)) (some (30, false)) [27], AOper.mk (some 32) (AOp.call 57 [Operand.tmp 31]) (some (30, false)) [28, 27, 27], AOper.mk (some 33) (AOp.call 74 [Operand.tmp 32, Operand.const (Value.int IntKind.i64 0), Operand.const (Value.int IntKind.i64 59)]) (some (30, false)) [29, 29, 27], AOper.mk (some 34) (AOp.pick (Operand.tmp 30) (Operand.const (Value.bool true)) (Operand.tmp 33)) (some (25, true)) [27, 30, 22], AOper.mk (some 35) (AOp.pick (Operand.tmp 25) (Operand.tmp 34) (Operand.const (Value.bool false))) none [22, 31], AOper.mk (some 2) (AOp.mv (Operand.tmp 35)) none [32, 30, 0, 1, 2, 3, 4, 5, 6, 7, 8, 9, 10, 11, 12, 13, 14, 15, 16, 17, 18, 19, 20, 21, 22, 23, 24, 25, 26, 27, 28, 29, 30, 31, 32]]
def l46 : AFn :=
  (AFn.mk 36 1 (ACode.seq (ACode.reg l46r0) (ACode.seq (ACode.reg l46r1) ACode.ret)) [ARes.tmp 2])
theorem l46_eq : lowFn Try.prog 46 = some l46 := by kernel_rfl
def l47r0 : List AOper :=
  [AOper.mk (some 1) (AOp.box (Operand.tmp 0)) none [], AOper.mk (some 2) (AOp.mv (Operand.const (Value.slice none 0 0))) none []]
def l47r1 : List AOper :=
  [AOper.mk (some 5) (AOp.load true 3 (Operand.tmp 1)) none [], AOper.mk (some 6) (AOp.call 45 [Operand.tmp 5]) none [0], AOper.mk (some 7) (AOp.mkslice 1 [Value.int IntKind.i64 0] (Operand.tmp 6) (Operand.tmp 6)) none [1, 1], AOper.mk (some 3) (AOp.mv (Operand.tmp 7)) none [2, 1, 0, 1, 2]]
def l47r2 : List AOper :=
  [AOper.mk (some 8) (AOp.mv (Operand.tmp 3)) none [], AOper.mk (some 9) (AOp.len (Operand.tmp 8)) none [0], AOper.mk (some 10) (AOp.mv (Operand.const (Value.int IntKind.i64 0))) none []]
def l47r3 : List AOper :=
  [AOper.mk (some 11) (AOp.bin BinOp.lss (Operand.tmp 10) (Operand.tmp 9)) none []]
def l47r4 : List AOper :=
  [AOper.mk (some 12) (AOp.mv (Operand.tmp 10)) none [], AOper.mk (some 4) (AOp.mv (Operand.tmp 12)) none [0, 0]]
def l47r5a : List AOper :=
  [AOper.mk (some 13) (AOp.mv (Operand.tmp 3)) none [], AOper.mk (some 14) (AOp.mv (Operand.tmp 4)) none [], AOper.mk (some 15) (AOp.load true 3 (Operand.tmp 1)) none [], AOper.mk (some 16) (AOp.fld 1 (Operand.tmp 1)) none [], AOper.mk (some 17) (AOp.load false 1 (Operand.tmp 16)) none [3], AOper.mk (some 18) (AOp.mv (Operand.tmp 4)) none [], AOper.mk (some 19) (AOp.call 58 [Operand.tmp 17, Operand.tmp 18]) none [4, 5], AOper.mk (some 20) (AOp.call 52 [Operand.tmp 15, Operand.tmp 19]) none [2, 6, 6]]
def l47r5b : List AOper :=
  [AOper.mk (some 21) (AOp.idxA 1 (Operand.tmp 13) (Operand.tmp 14)) none [0, 1, 0, 1, 2, 3, 4, 5, 6, 7], AOper.mk none (AOp.store 1 (Operand.tmp 21) (Operand.tmp 20)) none [8, 7, 7, 0, 1, 2, 3, 4, 5, 6, 7]]
def l47r5 : List AOper := l47r5a ++ l47r5b
def l47r6 : List AOper :=
  [AOper.mk (some 22) (AOp.bin BinOp.add (Operand.tmp 10) (Operand.const (Value.int IntKind.i64 1))) none [], AOper.mk (some 10) (AOp.mv (Operand.tmp 22)) none [0]]
def l47r7 : List AOper :=
  [AOper.mk (some 23) (AOp.mv (Operand.tmp 3)) none [], AOper.mk (some 2) (AOp.mv (Operand.tmp 23)) none [0, 0]]
def l47 : AFn :=
  (AFn.mk 24 1 (ACode.seq (ACode.reg l47r0) (ACode.seq (ACode.reg l47r1) (ACode.seq (ACode.seq (ACode.reg l47r2) (ACode.block 0 (ACode.loop (ACode.seq (ACode.reg l47r3) (ACode.seq (ACode.cond (Operand.tmp 11) ACode.skip (ACode.exit 0)) (ACode.seq (ACode.block 1 (ACode.seq (ACode.reg l47r4) (ACode.draw l47r5))) (ACode.reg l47r6))))))) (ACode.seq (ACode.reg l47r7) ACode.ret)))) [ARes.tmp 2])
theorem l47_eq : lowFn Try.prog 47 = some l47 := by kernel_rfl
def l48r0 : List AOper :=
  [AOper.mk (some 2) (AOp.mv (Operand.const (Value.int IntKind.i64 0))) none []]
def l48r1 : List AOper :=
  [AOper.mk (some 3) (AOp.mv (Operand.const (Value.int IntKind.i64 1))) none []]
def l48r2 : List AOper :=
  [AOper.mk (some 6) (AOp.mv (Operand.tmp 0)) none [], AOper.mk (some 7) (AOp.len (Operand.tmp 6)) none [0], AOper.mk (some 8) (AOp.mv (Operand.const (Value.int IntKind.i64 0))) none []]
def l48r3 : List AOper :=
  [AOper.mk (some 9) (AOp.bin BinOp.lss (Operand.tmp 8) (Operand.tmp 7)) none []]
def l48r4 : List AOper :=
  [AOper.mk (some 10) (AOp.idxA 1 (Operand.tmp 6) (Operand.tmp 8)) none [], AOper.mk (some 11) (AOp.load false 1 (Operand.tmp 10)) none [0], AOper.mk (some 5) (AOp.mv (Operand.tmp 11)) none [1, 0, 1]]
def l48r5 : List AOper :=
  [AOper.mk (some 12) (AOp.mv (Operand.tmp 3)) none [], AOper.mk (some 13) (AOp.mv (Operand.tmp 5)) none [], AOper.mk (some 14) (AOp.bin BinOp.mul (Operand.tmp 12) (Operand.tmp 13)) none [0, 1], AOper.mk (some 3) (AOp.mv (Operand.tmp 14)) none [2, 0, 1, 2]]
def l48r6 : List AOper :=
  [AOper.mk (some 15) (AOp.bin BinOp.add (Operand.tmp 8) (Operand.const (Value.int IntKind.i64 1))) none [], AOper.mk (some 8) (AOp.mv (Operand.tmp 15)) none [0]]
def l48r7 : List AOper :=
  [AOper.mk (some 16) (AOp.mv (Operand.tmp 3)) none [], AOper.mk (some 2) (AOp.mv (Operand.tmp 16)) none [0, 0]]
def l48 : AFn :=
  (AFn.mk 17 1 (ACode.seq (ACode.reg l48r0) (ACode.seq (ACode.reg l48r1) (ACode.seq (ACode.seq (ACode.reg l48r2) (ACode.block 0 (ACode.loop (ACode.seq (ACode.reg l48r3) (ACode.seq (ACode.cond (Operand.tmp 9) ACode.skip (ACode.exit 0)) (ACode.seq (ACode.block 1 (ACode.seq (ACode.reg l48r4) (ACode.reg l48r5))) (ACode.reg l48r6))))))) (ACode.seq (ACode.reg l48r7) ACode.ret)))) [ARes.tmp 2])
theorem l48_eq : lowFn Try.prog 48 = some l48 := by kernel_rfl
def l49r0 : List AOper :=
  [AOper.mk (some 4) (AOp.mv (Operand.const (Value.int IntKind.i64 0))) none []]
def l49r1 : List AOper :=
  [AOper.mk (some 5) (AOp.mv (Operand.tmp 1)) none [], AOper.mk (some 6) (AOp.mv (Operand.tmp 0)) none [], AOper.mk (some 7) (AOp.mv (Operand.tmp 1)) none [], AOper.mk (some 8) (AOp.len (Operand.tmp 7)) none [2], AOper.mk (some 9) (AOp.call 50 [Operand.tmp 6, Operand.tmp 8]) none [1, 3], AOper.mk (some 10) (AOp.idxA 1 (Operand.tmp 5) (Operand.tmp 9)) none [0, 4], AOper.mk (some 11) (AOp.load false 1 (Operand.tmp 10)) none [5], AOper.mk (some 4) (AOp.mv (Operand.tmp 11)) none [6, 4, 0, 1, 2, 3, 4, 5, 6]]
def l49 : AFn :=
  (AFn.mk 12 2 (ACode.seq (ACode.reg l49r0) (ACode.seq (ACode.reg l49r1) ACode.ret)) [ARes.tmp 4])
theorem l49_eq : lowFn Try.prog 49 = some l49 := by kernel_rfl
def l50r0 : List AOper :=
  [AOper.mk (some 4) (AOp.mv (Operand.const (Value.int IntKind.i64 0))) none []]
def l50r1 : List AOper :=
  [AOper.mk (some 7) (AOp.mv (Operand.tmp 0)) none [], AOper.mk (some 8) (AOp.mv (Operand.tmp 0)) none [], AOper.mk (some 9) (AOp.nilck (Operand.tmp 8)) none [1], AOper.mk (some 10) (AOp.fld 1 (Operand.tmp 9)) none [2], AOper.mk (some 11) (AOp.load false 1 (Operand.tmp 10)) none [3], AOper.mk (some 12) (AOp.bin BinOp.add (Operand.tmp 11) (Operand.const (Value.int IntKind.i64 1))) none [4], AOper.mk (some 13) (AOp.nilck (Operand.tmp 7)) none [0, 0, 1, 2, 3, 4, 5], AOper.mk (some 14) (AOp.fld 1 (Operand.tmp 13)) none [6, 0, 1, 2, 3, 4, 5], AOper.mk none (AOp.store 1 (Operand.tmp 14) (Operand.tmp 12)) none [7, 5, 0, 1, 2, 3, 4, 5]]
def l50r2 : List AOper :=
  [AOper.mk (some 15) (AOp.mv (Operand.tmp 1)) none [], AOper.mk (some 16) (AOp.bin BinOp.lss (Operand.tmp 15) (Operand.const (Value.int IntKind.i64 1))) none [0], AOper.mk (some 17) (AOp.mv (Operand.tmp 16)) none [1], AOper.mk (some 18) (AOp.mv (Operand.tmp 0)) (some (17, false)) [2], AOper.mk (some 19) (AOp.nilck (Operand.tmp 18)) (some (17, false)) [3, 2], AOper.mk (some 20) (AOp.fld 0 (Operand.tmp 19)) (some (17, false)) [4, 2], AOper.mk (some 21) (AOp.load false 1 (Operand.tmp 20)) (some (17, false)) [5, 2], AOper.mk (some 22) (AOp.len (Operand.tmp 21)) (some (17, false)) [6, 2], AOper.mk (some 23) (AOp.bin BinOp.eql (Operand.tmp 22) (Operand.const (Value.int IntKind.i64 0))) (some (17, false)) [7, 2], AOper.mk (some 24) (AOp.pick (Operand.tmp 17) (Operand.const (Value.bool true)) (Operand.tmp 23)) none [2, 8]]
def l50r3 : List AOper :=
  [AOper.mk (some 4) (AOp.mv (Operand.const (Value.int IntKind.i64 0))) none []]
def l50r4 : List AOper :=
  [AOper.mk (some 25) (AOp.mv (Operand.tmp 0)) none [], AOper.mk (some 26) (AOp.nilck (Operand.tmp 25)) none [0], AOper.mk (some 27) (AOp.fld 1 (Operand.tmp 26)) none [1], AOper.mk (some 28) (AOp.load false 1 (Operand.tmp 27)) none [2], AOper.mk (some 29) (AOp.bin BinOp.sub (Operand.tmp 28) (Operand.const (Value.int IntKind.i64 1))) none [3], AOper.mk (some 5) (AOp.mv (Operand.tmp 29)) none [4, 0, 1, 2, 3, 4]]
def l50r5 : List AOper :=
  [AOper.mk (some 30) (AOp.mv (Operand.tmp 5)) none [], AOper.mk (some 31) (AOp.mv (Operand.tmp 0)) none [], AOper.mk (some 32) (AOp.nilck (Operand.tmp 31)) none [1], AOper.mk (some 33) (AOp.fld 0 (Operand.tmp 32)) none [2], AOper.mk (some 34) (AOp.load false 1 (Operand.tmp 33)) none [3], AOper.mk (some 35) (AOp.len (Operand.tmp 34)) none [4], AOper.mk (some 36) (AOp.bin BinOp.lss (Operand.tmp 30) (Operand.tmp 35)) none [0, 5]]
def l50r6 : List AOper :=
  [AOper.mk (some 37) (AOp.mv (Operand.tmp 0)) none [], AOper.mk (some 38) (AOp.nilck (Operand.tmp 37)) none [0], AOper.mk (some 39) (AOp.fld 0 (Operand.tmp 38)) none [1], AOper.mk (some 40) (AOp.load false 1 (Operand.tmp 39)) none [2], AOper.mk (some 41) (AOp.mv (Operand.tmp 5)) none [], AOper.mk (some 42) (AOp.idxA 1 (Operand.tmp 40) (Operand.tmp 41)) none [3, 4], AOper.mk (some 43) (AOp.load false 1 (Operand.tmp 42)) none [5], AOper.mk (some 44) (AOp.conv IntKind.i64 (Operand.tmp 43)) none [6], AOper.mk (some 45) (AOp.mv (Operand.tmp 1)) none [], AOper.mk (some 46) (AOp.bin BinOp.rem (Operand.tmp 44) (Operand.tmp 45)) none [7, 8], AOper.mk (some 4) (AOp.mv (Operand.tmp 46)) none [9, 0, 1, 2, 3, 4, 5, 6, 7, 8, 9]]
def l50r7a : List AOper :=
  [AOper.mk (some 47) (AOp.mv (Operand.tmp 0)) none [], AOper.mk (some 48) (AOp.nilck (Operand.tmp 47)) none [0], AOper.mk (some 49) (AOp.fld 0 (Operand.tmp 48)) none [1], AOper.mk (some 50) (AOp.load false 1 (Operand.tmp 49)) none [2], AOper.mk (some 51) (AOp.mv (Operand.tmp 5)) none [], AOper.mk (some 52) (AOp.mv (Operand.tmp 0)) none [], AOper.mk (some 53) (AOp.nilck (Operand.tmp 52)) none [5], AOper.mk (some 54) (AOp.fld 0 (Operand.tmp 53)) none [6], AOper.mk (some 55) (AOp.load false 1 (Operand.tmp 54)) none [7], AOper.mk (some 56) (AOp.len (Operand.tmp 55)) none [8], AOper.mk (some 57) (AOp.bin BinOp.rem (Operand.tmp 51) (Operand.tmp 56)) none [4, 9], AOper.mk (some 58) (AOp.idxA 1 (Operand.tmp 50) (Operand.tmp 57)) none [3, 10], AOper.mk (some 59) (AOp.load false 1 (Operand.tmp 58)) none [11], AOper.mk (some 60) (AOp.conv IntKind.i64 (Operand.tmp 59)) none [12], AOper.mk (some 61) (AOp.bin BinOp.mul (Operand.tmp 60) (Operand.const (Value.int IntKind.i64 131))) none [13], AOper.mk (some 62) (AOp.mv (Operand.tmp 0)) none [], AOper.mk (some 63) (AOp.nilck (Operand.tmp 62)) none [15], AOper.mk (some 64) (AOp.fld 0 (Operand.tmp 63)) none [16], AOper.mk (some 65) (AOp.load false 1 (Operand.tmp 64)) none [17], AOper.mk (some 66) (AOp.mv (Operand.tmp 5)) none [], AOper.mk (some 67) (AOp.bin BinOp.mul (Operand.tmp 66) (Operand.const (Value.int IntKind.i64 7))) none [19], AOper.mk (some 68) (AOp.bin BinOp.add (Operand.tmp 67) (Operand.const (Value.int IntKind.i64 3))) none [20], AOper.mk (some 69) (AOp.mv (Operand.tmp 0)) none [], AOper.mk (some 70) (AOp.nilck (Operand.tmp 69)) none [22], AOper.mk (some 71) (AOp.fld 0 (Operand.tmp 70)) none [23], AOper.mk (some 72) (AOp.load false 1 (Operand.tmp 71)) none [24], AOper.mk (some 73) (AOp.len (Operand.tmp 72)) none [25], AOper.mk (some 74) (AOp.bin BinOp.rem (Operand.tmp 68) (Operand.tmp 73)) none [21, 26], AOper.mk (some 75) (AOp.idxA 1 (Operand.tmp 65) (Operand.tmp 74)) none [18, 27], AOper.mk (some 76) (AOp.load false 1 (Operand.tmp 75)) none [28], AOper.mk (some 77) (AOp.conv IntKind.i64 (Operand.tmp 76)) none [29], AOper.mk (some 78) (AOp.bin BinOp.mul (Operand.tmp 77) (Operand.const (Value.int IntKind.i64 1117))) none [30], AOper.mk (some 79) (AOp.bin BinOp.add (Operand.tmp 61) (Operand.tmp 78)) none [14, 31], AOper.mk (some 80) (AOp.mv (Operand.tmp 5)) none [], AOper.mk (some 81) (AOp.bin BinOp.mul (Operand.tmp 80) (Operand.const (Value.int IntKind.i64 29))) none [33], AOper.mk (some 82) (AOp.bin BinOp.add (Operand.tmp 79) (Operand.tmp 81)) none [32, 34], AOper.mk (some 83) (AOp.mv (Operand.tmp 5)) none [], AOper.mk (some 84) (AOp.mv (Operand.tmp 0)) none [], AOper.mk (some 85) (AOp.nilck (Operand.tmp 84)) none [37], AOper.mk (some 86) (AOp.fld 0 (Operand.tmp 85)) none [38], AOper.mk (some 87) (AOp.load false 1 (Operand.tmp 86)) none [39], AOper.mk (some 88) (AOp.len (Operand.tmp 87)) none [40], AOper.mk (some 89) (AOp.bin BinOp.quo (Operand.tmp 83) (Operand.tmp 88)) none [36, 41], AOper.mk (some 90) (AOp.bin BinOp.mul (Operand.tmp 89) (Operand.const (Value.int IntKind.i64 53))) none [42]]
def l50r7b : List AOper :=
  [AOper.mk (some 91) (AOp.bin BinOp.add (Operand.tmp 82) (Operand.tmp 90)) none [35, 43], AOper.mk (some 6) (AOp.mv (Operand.tmp 91)) none [44, 0, 1, 2, 3, 4, 5, 6, 7, 8, 9, 10, 11, 12, 13, 14, 15, 16, 17, 18, 19, 20, 21, 22, 23, 24, 25, 26, 27, 28, 29, 30, 31, 32, 33, 34, 35, 36, 37, 38, 39, 40, 41, 42, 43, 44]]
def l50r7 : List AOper := l50r7a ++ l50r7b
def l50r8 : List AOper :=
  [AOper.mk (some 92) (AOp.mv (Operand.tmp 6)) none [], AOper.mk (some 93) (AOp.mv (Operand.tmp 6)) none [], AOper.mk (some 94) (AOp.bin BinOp.quo (Operand.tmp 93) (Operand.const (Value.int IntKind.i64 64))) none [1], AOper.mk (some 95) (AOp.bin BinOp.xor (Operand.tmp 92) (Operand.tmp 94)) none [0, 2], AOper.mk (some 6) (AOp.mv (Operand.tmp 95)) none [3, 0, 1, 2, 3]]
def l50r9 : List AOper :=
  [AOper.mk (some 96) (AOp.mv (Operand.tmp 6)) none [], AOper.mk (some 97) (AOp.mv (Operand.tmp 1)) none [], AOper.mk (some 98) (AOp.bin BinOp.rem (Operand.tmp 96) (Operand.tmp 97)) none [0, 1], AOper.mk (some 4) (AOp.mv (Operand.tmp 98)) none [2, 0, 1, 2]]
def l50 : AFn :=
  (AFn.mk 99 2 (ACode.seq (ACode.reg l50r0) (ACode.seq (ACode.reg l50r1) (ACode.seq (ACode.seq (ACode.reg l50r2) (ACode.cond (Operand.tmp 24) (ACode.seq (ACode.reg l50r3) ACode.ret) ACode.skip)) (ACode.seq (ACode.reg l50r4) (ACode.seq (ACode.seq (ACode.reg l50r5) (ACode.cond (Operand.tmp 36) (ACode.seq (ACode.reg l50r6) ACode.ret) ACode.skip)) (ACode.seq (ACode.draw l50r7) (ACode.seq (ACode.reg l50r8) (ACode.seq (ACode.reg l50r9) ACode.ret)))))))) [ARes.tmp 4])
theorem l50_eq : lowFn Try.prog 50 = some l50 := by kernel_rfl
def l52r0 : List AOper :=
  [AOper.mk (some 2) (AOp.box (Operand.tmp 0)) none [], AOper.mk (some 3) (AOp.box (Operand.tmp 1)) none [], AOper.mk (some 4) (AOp.mv (Operand.const (Value.int IntKind.i64 0))) none []]
def l52r1a : List AOper :=
  [AOper.mk (some 5) (AOp.fld 0 (Operand.tmp 2)) none [], AOper.mk (some 6) (AOp.load false 1 (Operand.tmp 5)) none [0], AOper.mk (some 7) (AOp.load true 4 (Operand.tmp 3)) none [], AOper.mk (some 8) (AOp.fld 2 (Operand.tmp 2)) none [], AOper.mk (some 9) (AOp.load false 1 (Operand.tmp 8)) none [3], AOper.mk (some 10) (AOp.call 55 [Operand.tmp 7, Operand.tmp 9]) none [2, 4]]
def l52r1b : List AOper :=
  [AOper.mk (some 11) (AOp.bin BinOp.add (Operand.tmp 6) (Operand.tmp 10)) none [1, 5], AOper.mk (some 4) (AOp.mv (Operand.tmp 11)) none [6, 5, 0, 1, 2, 3, 4, 5, 6]]
def l52r1 : List AOper := l52r1a ++ l52r1b
def l52 : AFn :=
  (AFn.mk 12 2 (ACode.seq (ACode.reg l52r0) (ACode.seq (ACode.draw l52r1) ACode.ret)) [ARes.tmp 4])
theorem l52_eq : lowFn Try.prog 52 = some l52 := by kernel_rfl
def l54r0 : List AOper :=
  [AOper.mk (some 2) (AOp.box (Operand.tmp 0)) none [], AOper.mk (some 4) (AOp.mv (Operand.const (Value.int IntKind.i64 0))) none []]
def l54r1 : List AOper :=
  [AOper.mk (some 7) (AOp.fld 0 (Operand.tmp 2)) none [], AOper.mk (some 8) (AOp.load false 1 (Operand.tmp 7)) none [0], AOper.mk (some 5) (AOp.mv (Operand.tmp 8)) none [1, 0, 1]]
def l54r2 : List AOper :=
  [AOper.mk (some 6) (AOp.mv (Operand.const (Value.int IntKind.i64 0))) none []]
def l54r3 : List AOper :=
  [AOper.mk (some 9) (AOp.mv (Operand.tmp 6)) none [], AOper.mk (some 10) (AOp.mv (Operand.tmp 1)) none [], AOper.mk (some 11) (AOp.len (Operand.tmp 10)) none [1], AOper.mk (some 12) (AOp.bin BinOp.lss (Operand.tmp 9) (Operand.tmp 11)) none [0, 2]]
def l54r4a : List AOper :=
  [AOper.mk (some 15) (AOp.mv (Operand.tmp 5)) none [], AOper.mk (some 16) (AOp.mv (Operand.tmp 1)) none [], AOper.mk (some 17) (AOp.mv (Operand.tmp 6)) none [], AOper.mk (some 18) (AOp.idxA 1 (Operand.tmp 16) (Operand.tmp 17)) none [1, 2], AOper.mk (some 19) (AOp.load false 1 (Operand.tmp 18)) none [3], AOper.mk (some 20) (AOp.fld 2 (Operand.tmp 2)) none [], AOper.mk (some 21) (AOp.load false 1 (Operand.tmp 20)) none [5], AOper.mk (some 22) (AOp.mv (Operand.tmp 6)) none [], AOper.mk (some 23) (AOp.idxA 1 (Operand.tmp 21) (Operand.tmp 22)) none [6, 7], AOper.mk (some 24) (AOp.load false 1 (Operand.tmp 23)) none [8], AOper.mk (some 25) (AOp.bin BinOp.mul (Operand.tmp 19) (Operand.tmp 24)) none [4, 9]]
def l54r4b : List AOper :=
  [AOper.mk (some 26) (AOp.bin BinOp.add (Operand.tmp 15) (Operand.tmp 25)) none [0, 10], AOper.mk (some 5) (AOp.mv (Operand.tmp 26)) none [11, 0, 1, 2, 3, 4, 5, 6, 7, 8, 9, 10, 11]]
def l54r4 : List AOper := l54r4a ++ l54r4b
def l54r5 : List AOper :=
  [AOper.mk (some 13) (AOp.mv (Operand.tmp 6)) none [], AOper.mk (some 14) (AOp.bin BinOp.add (Operand.tmp 13) (Operand.const (Value.int IntKind.i64 1))) none [0], AOper.mk (some 6) (AOp.mv (Operand.tmp 14)) none [1, 0, 1]]
def l54r6 : List AOper :=
  [AOper.mk (some 27) (AOp.mv (Operand.tmp 5)) none [], AOper.mk (some 4) (AOp.mv (Operand.tmp 27)) none [0, 0]]
def l54 : AFn :=
  (AFn.mk 28 2 (ACode.seq (ACode.reg l54r0) (ACode.seq (ACode.reg l54r1) (ACode.seq (ACode.seq (ACode.reg l54r2) (ACode.block 0 (ACode.loop (ACode.seq (ACode.seq (ACode.reg l54r3) (ACode.cond (Operand.tmp 12) ACode.skip (ACode.exit 0))) (ACode.seq (ACode.block 1 (ACode.draw l54r4)) (ACode.reg l54r5)))))) (ACode.seq (ACode.reg l54r6) ACode.ret)))) [ARes.tmp 4])
theorem l54_eq : lowFn Try.prog 54 = some l54 := by kernel_rfl
def l55r0 : List AOper :=
  [AOper.mk (some 2) (AOp.box (Operand.tmp 0)) none [], AOper.mk (some 4) (AOp.mv (Operand.const (Value.int IntKind.i64 0))) none []]
def l55r1 : List AOper :=
  [AOper.mk (some 5) (AOp.mv (Operand.const (Value.int IntKind.i64 0))) none []]
def l55r2 : List AOper :=
  [AOper.mk (some 8) (AOp.mv (Operand.tmp 1)) none [], AOper.mk (some 9) (AOp.len (Operand.tmp 8)) none [0], AOper.mk (some 10) (AOp.mv (Operand.const (Value.int IntKind.i64 0))) none []]
def l55r3 : List AOper :=
  [AOper.mk (some 11) (AOp.bin BinOp.lss (Operand.tmp 10) (Operand.tmp 9)) none []]
def l55r4 : List AOper :=
  [AOper.mk (some 12) (AOp.mv (Operand.tmp 10)) none [], AOper.mk (some 13) (AOp.idxA 1 (Operand.tmp 8) (Operand.tmp 10)) none [], AOper.mk (some 14) (AOp.load false 1 (Operand.tmp 13)) none [1], AOper.mk (some 6) (AOp.mv (Operand.tmp 12)) none [0, 0, 1, 2], AOper.mk (some 7) (AOp.mv (Operand.tmp 14)) none [2, 3, 0, 1, 2, 3]]
def l55r5 : List AOper :=
  [AOper.mk (some 15) (AOp.mv (Operand.tmp 5)) none [], AOper.mk (some 16) (AOp.mv (Operand.tmp 6)) none [], AOper.mk (some 17) (AOp.idxP 1 4 (Operand.tmp 2) (Operand.tmp 16)) none [1], AOper.mk (some 18) (AOp.load false 1 (Operand.tmp 17)) none [2], AOper.mk (some 19) (AOp.mv (Operand.tmp 7)) none [], AOper.mk (some 20) (AOp.bin BinOp.mul (Operand.tmp 18) (Operand.tmp 19)) none [3, 4], AOper.mk (some 21) (AOp.bin BinOp.add (Operand.tmp 15) (Operand.tmp 20)) none [0, 5], AOper.mk (some 5) (AOp.mv (Operand.tmp 21)) none [6, 0, 1, 2, 3, 4, 5, 6]]
def l55r6 : List AOper :=
  [AOper.mk (some 22) (AOp.bin BinOp.add (Operand.tmp 10) (Operand.const (Value.int IntKind.i64 1))) none [], AOper.mk (some 10) (AOp.mv (Operand.tmp 22)) none [0]]
def l55r7 : List AOper :=
  [AOper.mk (some 23) (AOp.mv (Operand.tmp 5)) none [], AOper.mk (some 4) (AOp.mv (Operand.tmp 23)) none [0, 0]]
def l55 : AFn :=
  (AFn.mk 24 2 (ACode.seq (ACode.reg l55r0) (ACode.seq (ACode.reg l55r1) (ACode.seq (ACode.seq (ACode.reg l55r2) (ACode.block 0 (ACode.loop (ACode.seq (ACode.reg l55r3) (ACode.seq (ACode.cond (Operand.tmp 11) ACode.skip (ACode.exit 0)) (ACode.seq (ACode.block 1 (ACode.seq (ACode.reg l55r4) (ACode.reg l55r5))) (ACode.reg l55r6))))))) (ACode.seq (ACode.reg l55r7) ACode.ret)))) [ARes.tmp 4])
theorem l55_eq : lowFn Try.prog 55 = some l55 := by kernel_rfl
def l57r0 : List AOper :=
  [AOper.mk (some 1) (AOp.box (Operand.tmp 0)) none [], AOper.mk (some 2) (AOp.mv (Operand.const (Value.slice none 0 0))) none []]
def l57r1 : List AOper :=
  [AOper.mk (some 5) (AOp.bslice 1 [Value.int IntKind.i64 0] [] 0) none [], AOper.mk (some 3) (AOp.mv (Operand.tmp 5)) none [0, 0]]
def l57r2 : List AOper :=
  [AOper.mk (some 4) (AOp.mv (Operand.const (Value.int IntKind.i64 0))) none []]
def l57r3 : List AOper :=
  [AOper.mk (some 6) (AOp.mv (Operand.tmp 4)) none [], AOper.mk (some 7) (AOp.fld 1 (Operand.tmp 1)) none [], AOper.mk (some 8) (AOp.load false 1 (Operand.tmp 7)) none [1], AOper.mk (some 9) (AOp.call 68 [Operand.tmp 8]) none [2], AOper.mk (some 10) (AOp.bin BinOp.lss (Operand.tmp 6) (Operand.tmp 9)) none [0, 3]]
def l57r4a : List AOper :=
  [AOper.mk (some 13) (AOp.mv (Operand.tmp 3)) none [], AOper.mk (some 14) (AOp.load true 3 (Operand.tmp 1)) none [], AOper.mk (some 15) (AOp.fld 1 (Operand.tmp 1)) none [], AOper.mk (some 16) (AOp.load false 1 (Operand.tmp 15)) none [2], AOper.mk (some 17) (AOp.mv (Operand.tmp 4)) none [], AOper.mk (some 18) (AOp.call 75 [Operand.tmp 16, Operand.tmp 17]) none [3, 4], AOper.mk (some 19) (AOp.call 54 [Operand.tmp 14, Operand.tmp 18]) none [1, 5, 5], AOper.mk (some 20) (AOp.bslice 1 [Value.int IntKind.i64 0] [(0, Operand.tmp 19)] 1) none [6]]
def l57r4b : List AOper :=
  [AOper.mk (some 21) (AOp.append 1 (Operand.tmp 13) (Operand.tmp 20)) none [0, 7, 6], AOper.mk (some 3) (AOp.mv (Operand.tmp 21)) none [8, 8, 0, 1, 2, 3, 4, 5, 6, 7, 8]]
def l57r4 : List AOper := l57r4a ++ l57r4b
def l57r5 : List AOper :=
  [AOper.mk (some 11) (AOp.mv (Operand.tmp 4)) none [], AOper.mk (some 12) (AOp.bin BinOp.add (Operand.tmp 11) (Operand.const (Value.int IntKind.i64 1))) none [0], AOper.mk (some 4) (AOp.mv (Operand.tmp 12)) none [1, 0, 1]]
def l57r6 : List AOper :=
  [AOper.mk (some 22) (AOp.mv (Operand.tmp 3)) none [], AOper.mk (some 2) (AOp.mv (Operand.tmp 22)) none [0, 0]]
def l57 : AFn :=
  (AFn.mk 23 1 (ACode.seq (ACode.reg l57r0) (ACode.seq (ACode.reg l57r1) (ACode.seq (ACode.seq (ACode.reg l57r2) (ACode.block 0 (ACode.loop (ACode.seq (ACode.seq (ACode.reg l57r3) (ACode.cond (Operand.tmp 10) ACode.skip (ACode.exit 0))) (ACode.seq (ACode.block 1 (ACode.draw l57r4)) (ACode.reg l57r5)))))) (ACode.seq (ACode.reg l57r6) ACode.ret)))) [ARes.tmp 2])
theorem l57_eq : lowFn Try.prog 57 = some l57 := by kernel_rfl
def l58r0 : List AOper :=
  [AOper.mk (some 4) (AOp.alloc [Value.int IntKind.i64 0, Value.int IntKind.i64 0, Value.int IntKind.i64 0, Value.int IntKind.i64 0]) none []]
def l58r1 : List AOper :=
  [AOper.mk (some 5) (AOp.alloc [Value.int IntKind.i64 0, Value.int IntKind.i64 0, Value.int IntKind.i64 0, Value.int IntKind.i64 0]) none []]
def l58r2 : List AOper :=
  [AOper.mk (some 7) (AOp.mv (Operand.tmp 0)) none [], AOper.mk (some 8) (AOp.len (Operand.tmp 7)) none [0], AOper.mk (some 9) (AOp.bin BinOp.sub (Operand.tmp 8) (Operand.const (Value.int IntKind.i64 1))) none [1], AOper.mk (some 6) (AOp.mv (Operand.tmp 9)) none [2, 0, 1, 2]]
def l58r3 : List AOper :=
  [AOper.mk (some 10) (AOp.mv (Operand.tmp 6)) none [], AOper.mk (some 11) (AOp.bin BinOp.geq (Operand.tmp 10) (Operand.const (Value.int IntKind.i64 0))) none [0]]
def l58r4 : List AOper :=
  [AOper.mk (some 14) (AOp.mv (Operand.tmp 6)) none [], AOper.mk (some 15) (AOp.mv (Operand.tmp 1)) none [], AOper.mk (some 16) (AOp.mv (Operand.tmp 0)) none [], AOper.mk (some 17) (AOp.mv (Operand.tmp 6)) none [], AOper.mk (some 18) (AOp.idxA 1 (Operand.tmp 16) (Operand.tmp 17)) none [2, 3], AOper.mk (some 19) (AOp.load false 1 (Operand.tmp 18)) none [4], AOper.mk (some 20) (AOp.bin BinOp.rem (Operand.tmp 15) (Operand.tmp 19)) none [1, 5], AOper.mk (some 21) (AOp.idxP 1 4 (Operand.tmp 5) (Operand.tmp 14)) none [0, 0, 1, 2, 3, 4, 5, 6], AOper.mk none (AOp.store 1 (Operand.tmp 21) (Operand.tmp 20)) none [7, 6, 0, 1, 2, 3, 4, 5, 6]]
def l58r5 : List AOper :=
  [AOper.mk (some 22) (AOp.mv (Operand.tmp 1)) none [], AOper.mk (some 23) (AOp.mv (Operand.tmp 0)) none [], AOper.mk (some 24) (AOp.mv (Operand.tmp 6)) none [], AOper.mk (some 25) (AOp.idxA 1 (Operand.tmp 23) (Operand.tmp 24)) none [1, 2], AOper.mk (some 26) (AOp.load false 1 (Operand.tmp 25)) none [3], AOper.mk (some 27) (AOp.bin BinOp.quo (Operand.tmp 22) (Operand.tmp 26)) none [0, 4], AOper.mk (some 1) (AOp.mv (Operand.tmp 27)) none [5, 0, 1, 2, 3, 4, 5]]
def l58r6 : List AOper :=
  [AOper.mk (some 12) (AOp.mv (Operand.tmp 6)) none [], AOper.mk (some 13) (AOp.bin BinOp.sub (Operand.tmp 12) (Operand.const (Value.int IntKind.i64 1))) none [0], AOper.mk (some 6) (AOp.mv (Operand.tmp 13)) none [1, 0, 1]]
def l58r7 : List AOper :=
  [AOper.mk (some 28) (AOp.load true 4 (Operand.tmp 5)) none [], AOper.mk none (AOp.store 4 (Operand.tmp 4) (Operand.tmp 28)) none [0, 0]]
def l58 : AFn :=
  (AFn.mk 29 2 (ACode.seq (ACode.reg l58r0) (ACode.seq (ACode.reg l58r1) (ACode.seq (ACode.seq (ACode.reg l58r2) (ACode.block 0 (ACode.loop (ACode.seq (ACode.seq (ACode.reg l58r3) (ACode.cond (Operand.tmp 11) ACode.skip (ACode.exit 0))) (ACode.seq (ACode.block 1 (ACode.seq (ACode.reg l58r4) (ACode.reg l58r5))) (ACode.reg l58r6)))))) (ACode.seq (ACode.reg l58r7) ACode.ret)))) [ARes.cell 4 true 4])
theorem l58_eq : lowFn Try.prog 58 = some l58 := by kernel_rfl
def l62r0 : List AOper :=
  [AOper.mk (some 2) (AOp.mv (Operand.const (Value.slice none 0 0))) none []]
def l62r1 : List AOper :=
  [AOper.mk (some 6) (AOp.mv (Operand.tmp 0)) none [], AOper.mk (some 7) (AOp.len (Operand.tmp 6)) none [0], AOper.mk (some 8) (AOp.mkslice 1 [Value.int IntKind.i64 0] (Operand.tmp 7) (Operand.tmp 7)) none [1, 1], AOper.mk (some 3) (AOp.mv (Operand.tmp 8)) none [2, 0, 1, 2]]
def l62r2 : List AOper :=
  [AOper.mk (some 4) (AOp.mv (Operand.const (Value.int IntKind.i64 1))) none []]
def l62r3 : List AOper :=
  [AOper.mk (some 9) (AOp.mv (Operand.tmp 0)) none [], AOper.mk (some 10) (AOp.len (Operand.tmp 9)) none [0], AOper.mk (some 11) (AOp.bin BinOp.sub (Operand.tmp 10) (Operand.const (Value.int IntKind.i64 1))) none [1], AOper.mk (some 5) (AOp.mv (Operand.tmp 11)) none [2, 0, 1, 2]]
def l62r4 : List AOper :=
  [AOper.mk (some 12) (AOp.mv (Operand.tmp 5)) none [], AOper.mk (some 13) (AOp.bin BinOp.geq (Operand.tmp 12) (Operand.const (Value.int IntKind.i64 0))) none [0]]
def l62r5 : List AOper :=
  [AOper.mk (some 16) (AOp.mv (Operand.tmp 3)) none [], AOper.mk (some 17) (AOp.mv (Operand.tmp 5)) none [], AOper.mk (some 18) (AOp.mv (Operand.tmp 4)) none [], AOper.mk (some 19) (AOp.idxA 1 (Operand.tmp 16) (Operand.tmp 17)) none [0, 1, 0, 1, 2], AOper.mk none (AOp.store 1 (Operand.tmp 19) (Operand.tmp 18)) none [3, 2, 0, 1, 2]]
def l62r6 : List AOper :=
  [AOper.mk (some 20) (AOp.mv (Operand.tmp 4)) none [], AOper.mk (some 21) (AOp.mv (Operand.tmp 0)) none [], AOper.mk (some 22) (AOp.mv (Operand.tmp 5)) none [], AOper.mk (some 23) (AOp.idxA 1 (Operand.tmp 21) (Operand.tmp 22)) none [1, 2], AOper.mk (some 24) (AOp.load false 1 (Operand.tmp 23)) none [3], AOper.mk (some 25) (AOp.bin BinOp.mul (Operand.tmp 20) (Operand.tmp 24)) none [0, 4], AOper.mk (some 4) (AOp.mv (Operand.tmp 25)) none [5, 0, 1, 2, 3, 4, 5]]
def l62r7 : List AOper :=
  [AOper.mk (some 14) (AOp.mv (Operand.tmp 5)) none [], AOper.mk (some 15) (AOp.bin BinOp.sub (Operand.tmp 14) (Operand.const (Value.int IntKind.i64 1))) none [0], AOper.mk (some 5) (AOp.mv (Operand.tmp 15)) none [1, 0, 1]]
def l62r8 : List AOper :=
  [AOper.mk (some 26) (AOp.mv (Operand.tmp 3)) none [], AOper.mk (some 2) (AOp.mv (Operand.tmp 26)) none [0, 0]]
def l62 : AFn :=
  (AFn.mk 27 1 (ACode.seq (ACode.reg l62r0) (ACode.seq (ACode.reg l62r1) (ACode.seq (ACode.reg l62r2) (ACode.seq (ACode.seq (ACode.reg l62r3) (ACode.block 0 (ACode.loop (ACode.seq (ACode.seq (ACode.reg l62r4) (ACode.cond (Operand.tmp 13) ACode.skip (ACode.exit 0))) (ACode.seq (ACode.block 1 (ACode.seq (ACode.reg l62r5) (ACode.reg l62r6))) (ACode.reg l62r7)))))) (ACode.seq (ACode.reg l62r8) ACode.ret))))) [ARes.tmp 2])
theorem l62_eq : lowFn Try.prog 62 = some l62 := by kernel_rfl
def l68r0 : List AOper :=
  [AOper.mk (some 2) (AOp.mv (Operand.const (Value.int IntKind.i64 0))) none []]
def l68r1 : List AOper :=
  [AOper.mk (some 3) (AOp.mv (Operand.const (Value.int IntKind.i64 1))) none []]
def l68r2 : List AOper :=
  [AOper.mk (some 4) (AOp.mv (Operand.const (Value.int IntKind.i64 0))) none []]
def l68r3 : List AOper :=
  [AOper.mk (some 5) (AOp.mv (Operand.tmp 4)) none [], AOper.mk (some 6) (AOp.mv (Operand.tmp 0)) none [], AOper.mk (some 7) (AOp.len (Operand.tmp 6)) none [1], AOper.mk (some 8) (AOp.bin BinOp.lss (Operand.tmp 5) (Operand.tmp 7)) none [0, 2]]
def l68r4 : List AOper :=
  [AOper.mk (some 11) (AOp.mv (Operand.tmp 3)) none [], AOper.mk (some 12) (AOp.mv (Operand.tmp 0)) none [], AOper.mk (some 13) (AOp.mv (Operand.tmp 4)) none [], AOper.mk (some 14) (AOp.idxA 1 (Operand.tmp 12) (Operand.tmp 13)) none [1, 2], AOper.mk (some 15) (AOp.load false 1 (Operand.tmp 14)) none [3], AOper.mk (some 16) (AOp.bin BinOp.mul (Operand.tmp 11) (Operand.tmp 15)) none [0, 4], AOper.mk (some 3) (AOp.mv (Operand.tmp 16)) none [5, 0, 1, 2, 3, 4, 5]]
def l68r5 : List AOper :=
  [AOper.mk (some 9) (AOp.mv (Operand.tmp 4)) none [], AOper.mk (some 10) (AOp.bin BinOp.add (Operand.tmp 9) (Operand.const (Value.int IntKind.i64 1))) none [0], AOper.mk (some 4) (AOp.mv (Operand.tmp 10)) none [1, 0, 1]]
def l68r6 : List AOper :=
  [AOper.mk (some 17) (AOp.mv (Operand.tmp 3)) none [], AOper.mk (some 2) (AOp.mv (Operand.tmp 17)) none [0, 0]]
def l68 : AFn :=
  (AFn.mk 18 1 (ACode.seq (ACode.reg l68r0) (ACode.seq (ACode.reg l68r1) (ACode.seq (ACode.seq (ACode.reg l68r2) (ACode.block 0 (ACode.loop (ACode.seq (ACode.seq (ACode.reg l68r3) (ACode.cond (Operand.tmp 8) ACode.skip (ACode.exit 0))) (ACode.seq (ACode.block 1 (ACode.reg l68r4)) (ACode.reg l68r5)))))) (ACode.seq (ACode.reg l68r6) ACode.ret)))) [ARes.tmp 2])
theorem l68_eq : lowFn Try.prog 68 = some l68 := by kernel_rfl
def l69r0 : List AOper :=
  [AOper.mk (some 6) (AOp.mv (Operand.const (Value.bool false))) none []]
def l69r1 : List AOper :=
  [AOper.mk (some 7) (AOp.mv (Operand.tmp 1)) none [], AOper.mk (some 8) (AOp.mv (Operand.tmp 0)) none [], AOper.mk (some 9) (AOp.bin BinOp.leq (Operand.tmp 7) (Operand.tmp 8)) none [0, 1], AOper.mk (some 10) (AOp.mv (Operand.tmp 9)) none [2], AOper.mk (some 11) (AOp.mv (Operand.tmp 0)) (some (10, true)) [3], AOper.mk (some 12) (AOp.mv (Operand.tmp 2)) (some (10, true)) [3], AOper.mk (some 13) (AOp.bin BinOp.leq (Operand.tmp 11) (Operand.tmp 12)) (some (10, true)) [4, 5, 3], AOper.mk (some 14) (AOp.pick (Operand.tmp 10) (Operand.tmp 13) (Operand.const (Value.bool false))) none [3, 6], AOper.mk (some 6) (AOp.mv (Operand.tmp 14)) none [7, 3, 0, 1, 2, 3, 4, 5, 6, 7]]
def l69 : AFn :=
  (AFn.mk 15 3 (ACode.seq (ACode.reg l69r0) (ACode.seq (ACode.reg l69r1) ACode.ret)) [ARes.tmp 6])
theorem l69_eq : lowFn Try.prog 69 = some l69 := by kernel_rfl
def l71r0 : List AOper :=
  [AOper.mk (some 2) (AOp.alloc [Value.int IntKind.i64 0, Value.slice none 0 0, Value.slice none 0 0]) none []]
def l71r1 : List AOper :=
  [AOper.mk (some 8) (AOp.mv (Operand.tmp 0)) none [], AOper.mk (some 9) (AOp.call 80 [Operand.tmp 8]) none [0], AOper.mk (some 10) (AOp.call 79 [Operand.tmp 9]) none [1, 1], AOper.mk (some 3) (AOp.alloc [Value.int IntKind.i64 0, Value.slice none 0 0, Value.slice none 0 0]) none [], AOper.mk none (AOp.store 3 (Operand.tmp 3) (Operand.tmp 10)) none [3, 2, 2, 0, 1, 2, 3]]
def l71r2 : List AOper :=
  [AOper.mk (some 11) (AOp.mv (Operand.tmp 0)) none [], AOper.mk (some 12) (AOp.mv (Operand.tmp 0)) none [], AOper.mk (some 13) (AOp.call 50 [Operand.tmp 12, Operand.const (Value.int IntKind.i64 10)]) none [1], AOper.mk (some 14) (AOp.bslice 1 [Value.int IntKind.i64 0] [(0, Operand.const (Value.int IntKind.i64 0)), (1, Operand.const (Value.int IntKind.i64 0)), (2, Operand.const (Value.int IntKind.i64 1)), (3, Operand.const (Value.int IntKind.i64 3)), (4, Operand.tmp 13)] 5) none [2], AOper.mk (some 15) (AOp.call 49 [Operand.tmp 11, Operand.tmp 14]) none [0, 3, 2], AOper.mk (some 16) (AOp.fld 0 (Operand.tmp 3)) none [0, 1, 2, 3, 4], AOper.mk none (AOp.store 1 (Operand.tmp 16) (Operand.tmp 15)) none [5, 4, 4, 0, 1, 2, 3, 4]]
def l71r3 : List AOper :=
  [AOper.mk (some 17) (AOp.mv (Operand.tmp 0)) none [], AOper.mk (some 18) (AOp.call 50 [Operand.tmp 17, Operand.const (Value.int IntKind.i64 4)]) none [0], AOper.mk (some 4) (AOp.mv (Operand.tmp 18)) none [1, 1, 0, 1]]
def l71r4 : List AOper :=
  [AOper.mk (some 19) (AOp.mv (Operand.tmp 4)) none [], AOper.mk (some 20) (AOp.bin BinOp.gtr (Operand.tmp 19) (Operand.const (Value.int IntKind.i64 0))) none [0], AOper.mk (some 21) (AOp.mv (Operand.tmp 20)) none [1], AOper.mk (some 22) (AOp.fld 1 (Operand.tmp 3)) (some (21, true)) [2], AOper.mk (some 23) (AOp.load false 1 (Operand.tmp 22)) (some (21, true)) [3, 2], AOper.mk (some 24) (AOp.len (Operand.tmp 23)) (some (21, true)) [4, 2], AOper.mk (some 25) (AOp.bin BinOp.gtr (Operand.tmp 24) (Operand.const (Value.int IntKind.i64 0))) (some (21, true)) [5, 2], AOper.mk (some 26) (AOp.pick (Operand.tmp 21) (Operand.tmp 25) (Operand.const (Value.bool false))) none [2, 6]]
def l71r5 : List AOper :=
  [AOper.mk (some 29) (AOp.mv (Operand.tmp 0)) none [], AOper.mk (some 30) (AOp.fld 1 (Operand.tmp 3)) none [], AOper.mk (some 31) (AOp.load false 1 (Operand.tmp 30)) none [1], AOper.mk (some 32) (AOp.len (Operand.tmp 31)) none [2], AOper.mk (some 33) (AOp.call 50 [Operand.tmp 29, Operand.tmp 32]) none [0, 3], AOper.mk (some 5) (AOp.mv (Operand.tmp 33)) none [4, 4, 0, 1, 2, 3, 4]]
def l71r6 : List AOper :=
  [AOper.mk (some 34) (AOp.load true 3 (Operand.tmp 3)) none [], AOper.mk (some 6) (AOp.alloc [Value.int IntKind.i64 0, Value.slice none 0 0, Value.slice none 0 0]) none [], AOper.mk none (AOp.store 3 (Operand.tmp 6) (Operand.tmp 34)) none [1, 0, 0, 1]]
def l71r7 : List AOper :=
  [AOper.mk (some 7) (AOp.mv (Operand.const (Value.bool false))) none []]
def l71r8 : List AOper :=
  [AOper.mk (some 35) (AOp.mv (Operand.tmp 0)) none [], AOper.mk (some 36) (AOp.call 50 [Operand.tmp 35, Operand.const (Value.int IntKind.i64 6)]) none [0]]
def l71r9 : List AOper :=
  [AOper.mk (some 47) (AOp.bin BinOp.eql (Operand.tmp 36) (Operand.const (Value.int IntKind.i64 0))) none [], AOper.mk (some 46) (AOp.mv (Operand.tmp 47)) none [0]]
def l71r10a : List AOper :=
  [AOper.mk (some 49) (AOp.load true 3 (Operand.tmp 3)) none [], AOper.mk (some 50) (AOp.mv (Operand.tmp 5)) none [], AOper.mk (some 51) (AOp.mv (Operand.tmp 0)) none [], AOper.mk (some 52) (AOp.call 82 [Operand.tmp 51]) none [2], AOper.mk (some 53) (AOp.call 81 [Operand.tmp 49, Operand.tmp 50, Operand.tmp 52]) none [0, 1, 3, 3], AOper.mk (some 48) (AOp.mv (Operand.tmp 53)) none [4], AOper.mk (some 54) (AOp.extract (Operand.tmp 48) 0) none [5], AOper.mk (some 55) (AOp.extract (Operand.tmp 48) 1) none [5], AOper.mk none (AOp.store 3 (Operand.tmp 6) (Operand.tmp 54)) none [6, 4, 0, 1, 2, 3, 4, 5, 6]]
def l71r10b : List AOper :=
  [AOper.mk (some 7) (AOp.mv (Operand.tmp 55)) none [7, 8, 0, 1, 2, 3, 4, 5, 6, 7, 8]]
def l71r10 : List AOper := l71r10a ++ l71r10b
def l71r11 : List AOper :=
  [AOper.mk (some 57) (AOp.bin BinOp.eql (Operand.tmp 36) (Operand.const (Value.int IntKind.i64 1))) none [], AOper.mk (some 56) (AOp.mv (Operand.tmp 57)) none [0]]
def l71r12 : List AOper :=
  [AOper.mk (some 59) (AOp.load true 3 (Operand.tmp 3)) none [], AOper.mk (some 60) (AOp.mv (Operand.tmp 5)) none [], AOper.mk (some 61) (AOp.call 83 [Operand.tmp 59, Operand.tmp 60]) none [0, 1], AOper.mk (some 58) (AOp.mv (Operand.tmp 61)) none [2], AOper.mk (some 62) (AOp.extract (Operand.tmp 58) 0) none [3], AOper.mk (some 63) (AOp.extract (Operand.tmp 58) 1) none [3], AOper.mk none (AOp.store 3 (Operand.tmp 6) (Operand.tmp 62)) none [4, 2, 0, 1, 2, 3, 4], AOper.mk (some 7) (AOp.mv (Operand.tmp 63)) none [5, 6, 0, 1, 2, 3, 4, 5, 6]]
def l71r13 : List AOper :=
  [AOper.mk (some 65) (AOp.bin BinOp.eql (Operand.tmp 36) (Operand.const (Value.int IntKind.i64 2))) none [], AOper.mk (some 64) (AOp.mv (Operand.tmp 65)) none [0]]
def l71r14a : List AOper :=
  [AOper.mk (some 67) (AOp.load true 3 (Operand.tmp 3)) none [], AOper.mk (some 68) (AOp.fld 1 (Operand.tmp 3)) none [], AOper.mk (some 69) (AOp.load false 1 (Operand.tmp 68)) none [1], AOper.mk (some 70) (AOp.len (Operand.tmp 69)) none [2], AOper.mk (some 71) (AOp.call 86 [Operand.tmp 70]) none [3], AOper.mk (some 72) (AOp.call 85 [Operand.tmp 71]) none [4, 4], AOper.mk (some 73) (AOp.call 84 [Operand.tmp 67, Operand.tmp 72]) none [0, 5, 5], AOper.mk (some 66) (AOp.mv (Operand.tmp 73)) none [6], AOper.mk (some 74) (AOp.extract (Operand.tmp 66) 0) none [7], AOper.mk (some 75) (AOp.extract (Operand.tmp 66) 1) none [7], AOper.mk none (AOp.store 3 (Operand.tmp 6) (Operand.tmp 74)) none [8, 6, 0, 1, 2, 3, 4, 5, 6, 7, 8]]
def l71r14b : List AOper :=
  [AOper.mk (some 7) (AOp.mv (Operand.tmp 75)) none [9, 10, 0, 1, 2, 3, 4, 5, 6, 7, 8, 9, 10]]
def l71r14 : List AOper := l71r14a ++ l71r14b
def l71r15 : List AOper :=
  [AOper.mk (some 77) (AOp.bin BinOp.eql (Operand.tmp 36) (Operand.const (Value.int IntKind.i64 3))) none [], AOper.mk (some 76) (AOp.mv (Operand.tmp 77)) none [0]]
def l71r16a : List AOper :=
  [AOper.mk (some 79) (AOp.load true 3 (Operand.tmp 3)) none [], AOper.mk (some 80) (AOp.mv (Operand.tmp 5)) none [], AOper.mk (some 81) (AOp.mv (Operand.tmp 0)) none [], AOper.mk (some 82) (AOp.call 50 [Operand.tmp 81, Operand.const (Value.int IntKind.i64 3)]) none [2], AOper.mk (some 83) (AOp.bin BinOp.add (Operand.const (Value.int IntKind.i64 1)) (Operand.tmp 82)) none [3], AOper.mk (some 84) (AOp.call 87 [Operand.tmp 79, Operand.tmp 80, Operand.tmp 83]) none [0, 1, 4, 3], AOper.mk (some 78) (AOp.mv (Operand.tmp 84)) none [5], AOper.mk (some 85) (AOp.extract (Operand.tmp 78) 0) none [6], AOper.mk (some 86) (AOp.extract (Operand.tmp 78) 1) none [6], AOper.mk none (AOp.store 3 (Operand.tmp 6) (Operand.tmp 85)) none [7, 5, 0, 1, 2, 3, 4, 5, 6, 7]]
def l71r16b : List AOper :=
  [AOper.mk (some 7) (AOp.mv (Operand.tmp 86)) none [8, 9, 0, 1, 2, 3, 4, 5, 6, 7, 8, 9]]
def l71r16 : List AOper := l71r16a ++ l71r16b
def l71r17 : List AOper :=
  [AOper.mk (some 88) (AOp.bin BinOp.eql (Operand.tmp 36) (Operand.const (Value.int IntKind.i64 4))) none [], AOper.mk (some 87) (AOp.mv (Operand.tmp 88)) none [0]]
def l71r18 : List AOper :=
  [AOper.mk (some 90) (AOp.load true 3 (Operand.tmp 3)) none [], AOper.mk (some 91) (AOp.mv (Operand.tmp 5)) none [], AOper.mk (some 92) (AOp.call 88 [Operand.tmp 90, Operand.tmp 91]) none [0, 1], AOper.mk (some 89) (AOp.mv (Operand.tmp 92)) none [2], AOper.mk (some 93) (AOp.extract (Operand.tmp 89) 0) none [3], AOper.mk (some 94) (AOp.extract (Operand.tmp 89) 1) none [3], AOper.mk none (AOp.store 3 (Operand.tmp 6) (Operand.tmp 93)) none [4, 2, 0, 1, 2, 3, 4], AOper.mk (some 7) (AOp.mv (Operand.tmp 94)) none [5, 6, 0, 1, 2, 3, 4, 5, 6]]
def l71r19 : List AOper :=
  [AOper.mk (some 37) (AOp.load true 3 (Operand.tmp 3)) none [], AOper.mk (some 38) (AOp.call 89 [Operand.tmp 37]) none [0], AOper.mk none (AOp.store 3 (Operand.tmp 6) (Operand.tmp 38)) none [1, 1, 0, 1]]
def l71r20a : List AOper :=
  [AOper.mk (some 39) (AOp.fld 2 (Operand.tmp 6)) none [], AOper.mk (some 40) (AOp.load false 1 (Operand.tmp 39)) none [0], AOper.mk (some 41) (AOp.mv (Operand.tmp 5)) none [], AOper.mk (some 42) (AOp.mv (Operand.tmp 0)) none [], AOper.mk (some 43) (AOp.bslice 1 [Value.int IntKind.i64 0] [(0, Operand.const (Value.int IntKind.i64 0)), (1, Operand.const (Value.int IntKind.i64 2)), (2, Operand.const (Value.int IntKind.i64 3)), (3, Operand.const (Value.int IntKind.i64 1)), (4, Operand.const (Value.int IntKind.i64 (-1))), (5, Operand.const (Value.int IntKind.i64 5))] 6) none [], AOper.mk (some 44) (AOp.call 49 [Operand.tmp 42, Operand.tmp 43]) none [3, 4]]
def l71r20b : List AOper :=
  [AOper.mk (some 45) (AOp.idxA 1 (Operand.tmp 40) (Operand.tmp 41)) none [1, 2, 0, 1, 2, 3, 4, 5], AOper.mk none (AOp.store 1 (Operand.tmp 45) (Operand.tmp 44)) none [6, 5, 5, 0, 1, 2, 3, 4, 5]]
def l71r20 : List AOper := l71r20a ++ l71r20b
def l71r21 : List AOper :=
  [AOper.mk (some 7) (AOp.mv (Operand.const (Value.bool true))) none []]
def l71r22 : List AOper :=
  [AOper.mk (some 95) (AOp.mv (Operand.tmp 7)) none [], AOper.mk (some 96) (AOp.mv (Operand.tmp 95)) none [0], AOper.mk (some 97) (AOp.load true 3 (Operand.tmp 6)) (some (96, true)) [1], AOper.mk (some 98) (AOp.call 46 [Operand.tmp 97]) (some (96, true)) [2, 1, 1], AOper.mk (some 99) (AOp.pick (Operand.tmp 96) (Operand.tmp 98) (Operand.const (Value.bool false))) none [1, 3]]
def l71r23 : List AOper :=
  [AOper.mk (some 100) (AOp.load true 3 (Operand.tmp 6)) none [], AOper.mk none (AOp.store 3 (Operand.tmp 3) (Operand.tmp 100)) none [0, 0]]
def l71r24 : List AOper :=
  [AOper.mk (some 27) (AOp.mv (Operand.tmp 4)) none [], AOper.mk (some 28) (AOp.bin BinOp.sub (Operand.tmp 27) (Operand.const (Value.int IntKind.i64 1))) none [0], AOper.mk (some 4) (AOp.mv (Operand.tmp 28)) none [1, 0, 1]]
def l71r25 : List AOper :=
  [AOper.mk (some 101) (AOp.load true 3 (Operand.tmp 3)) none [], AOper.mk (some 102) (AOp.call 46 [Operand.tmp 101]) none [0], AOper.mk (some 103) (AOp.un UnOp.not (Operand.tmp 102)) none [1]]
def l71r26 : List AOper :=
  [AOper.mk (some 104) (AOp.fld 0 (Operand.tmp 3)) none [], AOper.mk none (AOp.store 1 (Operand.tmp 104) (Operand.const (Value.int IntKind.i64 0))) none [0]]
def l71r27 : List AOper :=
  [AOper.mk (some 105) (AOp.load true 3 (Operand.tmp 3)) none [], AOper.mk none (AOp.store 3 (Operand.tmp 2) (Operand.tmp 105)) none [0, 0]]
def l71 : AFn :=
  (AFn.mk 106 1 (ACode.seq (ACode.reg l71r0) (ACode.seq (ACode.reg l71r1) (ACode.seq (ACode.reg l71r2) (ACode.seq (ACode.seq (ACode.reg l71r3) (ACode.block 0 (ACode.loop (ACode.seq (ACode.seq (ACode.reg l71r4) (ACode.cond (Operand.tmp 26) ACode.skip (ACode.exit 0))) (ACode.seq (ACode.block 1 (ACode.seq (ACode.reg l71r5) (ACode.seq (ACode.reg l71r6) (ACode.seq (ACode.reg l71r7) (ACode.seq (ACode.seq (ACode.reg l71r8) (ACode.block 2 (ACode.seq (ACode.reg l71r9) (ACode.cond (Operand.tmp 46) (ACode.draw l71r10) (ACode.seq (ACode.reg l71r11) (ACode.cond (Operand.tmp 56) (ACode.reg l71r12) (ACode.seq (ACode.reg l71r13) (ACode.cond (Operand.tmp 64) (ACode.draw l71r14) (ACode.seq (ACode.reg l71r15) (ACode.cond (Operand.tmp 76) (ACode.draw l71r16) (ACode.seq (ACode.reg l71r17) (ACode.cond (Operand.tmp 87) (ACode.reg l71r18) (ACode.seq (ACode.reg l71r19) (ACode.seq (ACode.draw l71r20) (ACode.reg l71r21))))))))))))))) (ACode.seq (ACode.reg l71r22) (ACode.cond (Operand.tmp 99) (ACode.reg l71r23) ACode.skip))))))) (ACode.reg l71r24)))))) (ACode.seq (ACode.seq (ACode.reg l71r25) (ACode.cond (Operand.tmp 103) (ACode.reg l71r26) ACode.skip)) (ACode.seq (ACode.reg l71r27) ACode.ret)))))) [ARes.cell 2 true 3])
theorem l71_eq : lowFn Try.prog 71 = some l71 := by kernel_rfl
def l72r0 : List AOper :=
  [AOper.mk (some 4) (AOp.mv (Operand.const (Value.bool false))) none []]
def l72r1 : List AOper :=
  [AOper.mk (some 5) (AOp.mv (Operand.tmp 1)) none [], AOper.mk (some 6) (AOp.un UnOp.neg (Operand.tmp 5)) none [0], AOper.mk (some 7) (AOp.mv (Operand.tmp 0)) none [], AOper.mk (some 8) (AOp.bin BinOp.leq (Operand.tmp 6) (Operand.tmp 7)) none [1, 2], AOper.mk (some 9) (AOp.mv (Operand.tmp 8)) none [3], AOper.mk (some 10) (AOp.mv (Operand.tmp 0)) (some (9, true)) [4], AOper.mk (some 11) (AOp.mv (Operand.tmp 1)) (some (9, true)) [4], AOper.mk (some 12) (AOp.bin BinOp.leq (Operand.tmp 10) (Operand.tmp 11)) (some (9, true)) [5, 6, 4], AOper.mk (some 13) (AOp.pick (Operand.tmp 9) (Operand.tmp 12) (Operand.const (Value.bool false))) none [4, 7], AOper.mk (some 4) (AOp.mv (Operand.tmp 13)) none [8, 4, 0, 1, 2, 3, 4, 5, 6, 7, 8]]
def l72 : AFn :=
  (AFn.mk 14 2 (ACode.seq (ACode.reg l72r0) (ACode.seq (ACode.reg l72r1) ACode.ret)) [ARes.tmp 4])
theorem l72_eq : lowFn Try.prog 72 = some l72 := by kernel_rfl
def l73r0 : List AOper :=
  [AOper.mk (some 2) (AOp.mv (Operand.const (Value.bool false))) none []]
def l73r1 : List AOper :=
  [AOper.mk (some 3) (AOp.mv (Operand.tmp 0)) none [], AOper.mk (some 4) (AOp.len (Operand.tmp 3)) none [0], AOper.mk (some 5) (AOp.bin BinOp.leq (Operand.tmp 4) (Operand.const (Value.int IntKind.i64 4))) none [1], AOper.mk (some 6) (AOp.mv (Operand.tmp 5)) none [2], AOper.mk (some 7) (AOp.mv (Operand.tmp 0)) (some (6, true)) [3], AOper.mk (some 8) (AOp.call 74 [Operand.tmp 7, Operand.const (Value.int IntKind.i64 0), Operand.const (Value.int IntKind.i64 60)]) (some (6, true)) [4, 3, 3], AOper.mk (some 9) (AOp.pick (Operand.tmp 6) (Operand.tmp 8) (Operand.const (Value.bool false))) none [3, 5], AOper.mk (some 10) (AOp.mv (Operand.tmp 9)) none [6, 5], AOper.mk (some 11) (AOp.mv (Operand.tmp 0)) (some (10, true)) [7], AOper.mk (some 12) (AOp.call 68 [Operand.tmp 11]) (some (10, true)) [8, 7, 7], AOper.mk (some 13) (AOp.bin BinOp.leq (Operand.tmp 12) (Operand.const (Value.int IntKind.i64 60))) (some (10, true)) [9, 7], AOper.mk (some 14) (AOp.pick (Operand.tmp 10) (Operand.tmp 13) (Operand.const (Value.bool false))) none [7, 10], AOper.mk (some 2) (AOp.mv (Operand.tmp 14)) none [11, 9, 0, 1, 2, 3, 4, 5, 6, 7, 8, 9, 10, 11]]
def l73 : AFn :=
  (AFn.mk 15 1 (ACode.seq (ACode.reg l73r0) (ACode.seq (ACode.reg l73r1) ACode.ret)) [ARes.tmp 2])
theorem l73_eq : lowFn Try.prog 73 = some l73 := by kernel_rfl
def l74r0 : List AOper :=
  [AOper.mk (some 6) (AOp.mv (Operand.const (Value.bool false))) none []]
def l74r1 : List AOper :=
  [AOper.mk (some 7) (AOp.mv (Operand.const (Value.int IntKind.i64 0))) none []]
def l74r2 : List AOper :=
  [AOper.mk (some 8) (AOp.mv (Operand.tmp 7)) none [], AOper.mk (some 9) (AOp.mv (Operand.tmp 0)) none [], AOper.mk (some 10) (AOp.len (Operand.tmp 9)) none [1], AOper.mk (some 11) (AOp.bin BinOp.lss (Operand.tmp 8) (Operand.tmp 10)) none [0, 2]]
def l74r3 : List AOper :=
  [AOper.mk (some 14) (AOp.mv (Operand.tmp 0)) none [], AOper.mk (some 15) (AOp.mv (Operand.tmp 7)) none [], AOper.mk (some 16) (AOp.idxA 1 (Operand.tmp 14) (Operand.tmp 15)) none [0, 1], AOper.mk (some 17) (AOp.load false 1 (Operand.tmp 16)) none [2], AOper.mk (some 18) (AOp.mv (Operand.tmp 1)) none [], AOper.mk (some 19) (AOp.mv (Operand.tmp 2)) none [], AOper.mk (some 20) (AOp.call 69 [Operand.tmp 17, Operand.tmp 18, Operand.tmp 19]) none [3, 4, 5], AOper.mk (some 21) (AOp.un UnOp.not (Operand.tmp 20)) none [6]]
def l74r4 : List AOper :=
  [AOper.mk (some 6) (AOp.mv (Operand.const (Value.bool false))) none []]
def l74r5 : List AOper :=
  [AOper.mk (some 12) (AOp.mv (Operand.tmp 7)) none [], AOper.mk (some 13) (AOp.bin BinOp.add (Operand.tmp 12) (Operand.const (Value.int IntKind.i64 1))) none [0], AOper.mk (some 7) (AOp.mv (Operand.tmp 13)) none [1, 0, 1]]
def l74r6 : List AOper :=
  [AOper.mk (some 6) (AOp.mv (Operand.const (Value.bool true))) none []]
def l74 : AFn :=
  (AFn.mk 22 3 (ACode.seq (ACode.reg l74r0) (ACode.seq (ACode.seq (ACode.reg l74r1) (ACode.block 0 (ACode.loop (ACode.seq (ACode.seq (ACode.reg l74r2) (ACode.cond (Operand.tmp 11) ACode.skip (ACode.exit 0))) (ACode.seq (ACode.block 1 (ACode.seq (ACode.reg l74r3) (ACode.cond (Operand.tmp 21) (ACode.seq (ACode.reg l74r4) ACode.ret) ACode.skip))) (ACode.reg l74r5)))))) (ACode.seq (ACode.reg l74r6) ACode.ret))) [ARes.tmp 6])
theorem l74_eq : lowFn Try.prog 74 = some l74 := by kernel_rfl
def l75r0 : List AOper :=
  [AOper.mk (some 4) (AOp.mv (Operand.const (Value.slice none 0 0))) none []]
def l75r1 : List AOper :=
  [AOper.mk (some 7) (AOp.mv (Operand.tmp 0)) none [], AOper.mk (some 8) (AOp.len (Operand.tmp 7)) none [0], AOper.mk (some 9) (AOp.mkslice 1 [Value.int IntKind.i64 0] (Operand.tmp 8) (Operand.tmp 8)) none [1, 1], AOper.mk (some 5) (AOp.mv (Operand.tmp 9)) none [2, 0, 1, 2]]
def l75r2 : List AOper :=
  [AOper.mk (some 10) (AOp.mv (Operand.tmp 0)) none [], AOper.mk (some 11) (AOp.len (Operand.tmp 10)) none [0], AOper.mk (some 12) (AOp.bin BinOp.sub (Operand.tmp 11) (Operand.const (Value.int IntKind.i64 1))) none [1], AOper.mk (some 6) (AOp.mv (Operand.tmp 12)) none [2, 0, 1, 2]]
def l75r3 : List AOper :=
  [AOper.mk (some 13) (AOp.mv (Operand.tmp 6)) none [], AOper.mk (some 14) (AOp.bin BinOp.geq (Operand.tmp 13) (Operand.const (Value.int IntKind.i64 0))) none [0]]
def l75r4 : List AOper :=
  [AOper.mk (some 17) (AOp.mv (Operand.tmp 5)) none [], AOper.mk (some 18) (AOp.mv (Operand.tmp 6)) none [], AOper.mk (some 19) (AOp.mv (Operand.tmp 1)) none [], AOper.mk (some 20) (AOp.mv (Operand.tmp 0)) none [], AOper.mk (some 21) (AOp.mv (Operand.tmp 6)) none [], AOper.mk (some 22) (AOp.idxA 1 (Operand.tmp 20) (Operand.tmp 21)) none [3, 4], AOper.mk (some 23) (AOp.load false 1 (Operand.tmp 22)) none [5], AOper.mk (some 24) (AOp.bin BinOp.rem (Operand.tmp 19) (Operand.tmp 23)) none [2, 6], AOper.mk (some 25) (AOp.idxA 1 (Operand.tmp 17) (Operand.tmp 18)) none [0, 1, 0, 1, 2, 3, 4, 5, 6, 7], AOper.mk none (AOp.store 1 (Operand.tmp 25) (Operand.tmp 24)) none [8, 7, 0, 1, 2, 3, 4, 5, 6, 7]]
def l75r5 : List AOper :=
  [AOper.mk (some 26) (AOp.mv (Operand.tmp 1)) none [], AOper.mk (some 27) (AOp.mv (Operand.tmp 0)) none [], AOper.mk (some 28) (AOp.mv (Operand.tmp 6)) none [], AOper.mk (some 29) (AOp.idxA 1 (Operand.tmp 27) (Operand.tmp 28)) none [1, 2], AOper.mk (some 30) (AOp.load false 1 (Operand.tmp 29)) none [3], AOper.mk (some 31) (AOp.bin BinOp.quo (Operand.tmp 26) (Operand.tmp 30)) none [0, 4], AOper.mk (some 1) (AOp.mv (Operand.tmp 31)) none [5, 0, 1, 2, 3, 4, 5]]
def l75r6 : List AOper :=
  [AOper.mk (some 15) (AOp.mv (Operand.tmp 6)) none [], AOper.mk (some 16) (AOp.bin BinOp.sub (Operand.tmp 15) (Operand.const (Value.int IntKind.i64 1))) none [0], AOper.mk (some 6) (AOp.mv (Operand.tmp 16)) none [1, 0, 1]]
def l75r7 : List AOper :=
  [AOper.mk (some 32) (AOp.mv (Operand.tmp 5)) none [], AOper.mk (some 4) (AOp.mv (Operand.tmp 32)) none [0, 0]]
def l75 : AFn :=
  (AFn.mk 33 2 (ACode.seq (ACode.reg l75r0) (ACode.seq (ACode.reg l75r1) (ACode.seq (ACode.seq (ACode.reg l75r2) (ACode.block 0 (ACode.loop (ACode.seq (ACode.seq (ACode.reg l75r3) (ACode.cond (Operand.tmp 14) ACode.skip (ACode.exit 0))) (ACode.seq (ACode.block 1 (ACode.seq (ACode.reg l75r4) (ACode.reg l75r5))) (ACode.reg l75r6)))))) (ACode.seq (ACode.reg l75r7) ACode.ret)))) [ARes.tmp 4])
theorem l75_eq : lowFn Try.prog 75 = some l75 := by kernel_rfl
def l79r0 : List AOper :=
  [AOper.mk (some 2) (AOp.alloc [Value.int IntKind.i64 0, Value.slice none 0 0, Value.slice none 0 0]) none []]
def l79r1 : List AOper :=
  [AOper.mk (some 3) (AOp.mv (Operand.tmp 0)) none [], AOper.mk (some 4) (AOp.call 73 [Operand.tmp 3]) none [0], AOper.mk (some 5) (AOp.un UnOp.not (Operand.tmp 4)) none [1]]
def l79r2 : List AOper :=
  [AOper.mk (some 6) (AOp.build [Value.int IntKind.i64 0, Value.slice none 0 0, Value.slice none 0 0] []) none [], AOper.mk none (AOp.store 3 (Operand.tmp 2) (Operand.tmp 6)) none [0, 0]]
def l79r3 : List AOper :=
  [AOper.mk (some 7) (AOp.mv (Operand.tmp 0)) none [], AOper.mk (some 8) (AOp.call 68 [Operand.tmp 7]) none [0], AOper.mk (some 9) (AOp.bin BinOp.eql (Operand.tmp 8) (Operand.const (Value.int IntKind.i64 0))) none [1]]
def l79r4a : List AOper :=
  [AOper.mk (some 10) (AOp.mv (Operand.tmp 0)) none [], AOper.mk (some 11) (AOp.call 91 [Operand.tmp 10]) none [0], AOper.mk (some 12) (AOp.mv (Operand.tmp 0)) none [], AOper.mk (some 13) (AOp.len (Operand.tmp 12)) none [2], AOper.mk (some 14) (AOp.mkslice 1 [Value.int IntKind.i64 0] (Operand.tmp 13) (Operand.tmp 13)) none [3, 3]]
def l79r4b : List AOper :=
  [AOper.mk (some 15) (AOp.build [Value.int IntKind.i64 0, Value.slice none 0 0, Value.slice none 0 0] [(1, 1, Operand.tmp 11), (2, 1, Operand.tmp 14)]) none [1, 4], AOper.mk none (AOp.store 3 (Operand.tmp 2) (Operand.tmp 15)) none [5, 1, 0, 1, 2, 3, 4, 5]]
def l79r4 : List AOper := l79r4a ++ l79r4b
def l79r5 : List AOper :=
  [AOper.mk (some 16) (AOp.mv (Operand.tmp 0)) none [], AOper.mk (some 17) (AOp.call 91 [Operand.tmp 16]) none [0], AOper.mk (some 18) (AOp.mv (Operand.tmp 0)) none [], AOper.mk (some 19) (AOp.call 62 [Operand.tmp 18]) none [2, 1], AOper.mk (some 20) (AOp.build [Value.int IntKind.i64 0, Value.slice none 0 0, Value.slice none 0 0] [(1, 1, Operand.tmp 17), (2, 1, Operand.tmp 19)]) none [1, 3], AOper.mk none (AOp.store 3 (Operand.tmp 2) (Operand.tmp 20)) none [4, 3, 0, 1, 2, 3, 4]]
def l79 : AFn :=
  (AFn.mk 21 1 (ACode.seq (ACode.reg l79r0) (ACode.seq (ACode.seq (ACode.reg l79r1) (ACode.cond (Operand.tmp 5) (ACode.seq (ACode.reg l79r2) ACode.ret) ACode.skip)) (ACode.seq (ACode.seq (ACode.reg l79r3) (ACode.cond (Operand.tmp 9) (ACode.seq (ACode.draw l79r4) ACode.ret) ACode.skip)) (ACode.seq (ACode.reg l79r5) ACode.ret)))) [ARes.cell 2 true 3])
theorem l79_eq : lowFn Try.prog 79 = some l79 := by kernel_rfl
def l80r0 : List AOper :=
  [AOper.mk (some 2) (AOp.mv (Operand.const (Value.slice none 0 0))) none []]
def l80r1 : List AOper :=
  [AOper.mk (some 6) (AOp.bslice 1 [Value.int IntKind.i64 0] [] 0) none [], AOper.mk (some 3) (AOp.mv (Operand.tmp 6)) none [0, 0]]
def l80r2 : List AOper :=
  [AOper.mk (some 7) (AOp.mv (Operand.tmp 0)) none [], AOper.mk (some 8) (AOp.bslice 1 [Value.int IntKind.i64 0] [(0, Operand.const (Value.int IntKind.i64 2)), (1, Operand.const (Value.int IntKind.i64 1)), (2, Operand.const (Value.int IntKind.i64 3)), (3, Operand.const (Value.int IntKind.i64 2)), (4, Operand.const (Value.int IntKind.i64 0)), (5, Operand.const (Value.int IntKind.i64 4))] 6) none [], AOper.mk (some 9) (AOp.call 49 [Operand.tmp 7, Operand.tmp 8]) none [0, 1], AOper.mk (some 4) (AOp.mv (Operand.tmp 9)) none [2, 2, 0, 1, 2]]
def l80r3 : List AOper :=
  [AOper.mk (some 10) (AOp.mv (Operand.tmp 4)) none [], AOper.mk (some 11) (AOp.bin BinOp.gtr (Operand.tmp 10) (Operand.const (Value.int IntKind.i64 0))) none [0]]
def l80r4 : List AOper :=
  [AOper.mk (some 14) (AOp.mv (Operand.tmp 0)) none [], AOper.mk (some 15) (AOp.bslice 1 [Value.int IntKind.i64 0] [(0, Operand.const (Value.int IntKind.i64 2)), (1, Operand.const (Value.int IntKind.i64 3)), (2, Operand.const (Value.int IntKind.i64 1)), (3, Operand.const (Value.int IntKind.i64 4)), (4, Operand.const (Value.int IntKind.i64 2)), (5, Operand.const (Value.int IntKind.i64 3)), (6, Operand.const (Value.int IntKind.i64 5)), (7, Operand.const (Value.int IntKind.i64 0))] 8) none [], AOper.mk (some 16) (AOp.call 49 [Operand.tmp 14, Operand.tmp 15]) none [0, 1], AOper.mk (some 5) (AOp.mv (Operand.tmp 16)) none [2, 2, 0, 1, 2]]
def l80r5 : List AOper :=
  [AOper.mk (some 17) (AOp.mv (Operand.tmp 3)) none [], AOper.mk (some 18) (AOp.call 68 [Operand.tmp 17]) none [0], AOper.mk (some 19) (AOp.mv (Operand.tmp 5)) none [], AOper.mk (some 20) (AOp.bin BinOp.mul (Operand.tmp 18) (Operand.tmp 19)) none [1, 2], AOper.mk (some 21) (AOp.bin BinOp.leq (Operand.tmp 20) (Operand.const (Value.int IntKind.i64 60))) none [3]]
def l80r6 : List AOper :=
  [AOper.mk (some 22) (AOp.mv (Operand.tmp 3)) none [], AOper.mk (some 23) (AOp.mv (Operand.tmp 5)) none [], AOper.mk (some 24) (AOp.bslice 1 [Value.int IntKind.i64 0] [(0, Operand.tmp 23)] 1) none [1], AOper.mk (some 25) (AOp.append 1 (Operand.tmp 22) (Operand.tmp 24)) none [0, 2], AOper.mk (some 3) (AOp.mv (Operand.tmp 25)) none [3, 3, 0, 1, 2, 3]]
def l80r7 : List AOper :=
  [AOper.mk (some 12) (AOp.mv (Operand.tmp 4)) none [], AOper.mk (some 13) (AOp.bin BinOp.sub (Operand.tmp 12) (Operand.const (Value.int IntKind.i64 1))) none [0], AOper.mk (some 4) (AOp.mv (Operand.tmp 13)) none [1, 0, 1]]
def l80r8 : List AOper :=
  [AOper.mk (some 26) (AOp.mv (Operand.tmp 3)) none [], AOper.mk (some 2) (AOp.mv (Operand.tmp 26)) none [0, 0]]
def l80 : AFn :=
  (AFn.mk 27 1 (ACode.seq (ACode.reg l80r0) (ACode.seq (ACode.reg l80r1) (ACode.seq (ACode.seq (ACode.reg l80r2) (ACode.block 0 (ACode.loop (ACode.seq (ACode.seq (ACode.reg l80r3) (ACode.cond (Operand.tmp 11) ACode.skip (ACode.exit 0))) (ACode.seq (ACode.block 1 (ACode.seq (ACode.reg l80r4) (ACode.seq (ACode.reg l80r5) (ACode.cond (Operand.tmp 21) (ACode.reg l80r6) ACode.skip)))) (ACode.reg l80r7)))))) (ACode.seq (ACode.reg l80r8) ACode.ret)))) [ARes.tmp 2])
theorem l80_eq : lowFn Try.prog 80 = some l80 := by kernel_rfl
def l81r0 : List AOper :=
  [AOper.mk (some 3) (AOp.box (Operand.tmp 0)) none [], AOper.mk (some 5) (AOp.box (Operand.tmp 2)) none [], AOper.mk (some 6) (AOp.alloc [Value.int IntKind.i64 0, Value.slice none 0 0, Value.slice none 0 0]) none [], AOper.mk (some 7) (AOp.mv (Operand.const (Value.bool false))) none []]
def l81r1 : List AOper :=
  [AOper.mk (some 8) (AOp.load true 3 (Operand.tmp 3)) none [], AOper.mk (some 9) (AOp.call 46 [Operand.tmp 8]) none [0], AOper.mk (some 10) (AOp.un UnOp.not (Operand.tmp 9)) none [1], AOper.mk (some 11) (AOp.mv (Operand.tmp 10)) none [2, 1], AOper.mk (some 12) (AOp.load true 3 (Operand.tmp 3)) (some (11, false)) [3], AOper.mk (some 13) (AOp.mv (Operand.tmp 1)) (some (11, false)) [3], AOper.mk (some 14) (AOp.call 92 [Operand.tmp 12, Operand.tmp 13]) (some (11, false)) [4, 5, 3, 3], AOper.mk (some 15) (AOp.un UnOp.not (Operand.tmp 14)) (some (11, false)) [6, 3], AOper.mk (some 16) (AOp.pick (Operand.tmp 11) (Operand.const (Value.bool true)) (Operand.tmp 15)) none [3, 7], AOper.mk (some 17) (AOp.mv (Operand.tmp 16)) none [8, 6], AOper.mk (some 18) (AOp.load true 5 (Operand.tmp 5)) (some (17, false)) [9], AOper.mk (some 19) (AOp.call 93 [Operand.tmp 18]) (some (17, false)) [10, 9, 9], AOper.mk (some 20) (AOp.un UnOp.not (Operand.tmp 19)) (some (17, false)) [11, 9], AOper.mk (some 21) (AOp.pick (Operand.tmp 17) (Operand.const (Value.bool true)) (Operand.tmp 20)) none [9, 12]]
def l81r2 : List AOper :=
  [AOper.mk (some 22) (AOp.build [Value.int IntKind.i64 0, Value.slice none 0 0, Value.slice none 0 0] []) none [], AOper.mk none (AOp.store 3 (Operand.tmp 6) (Operand.tmp 22)) none [0, 0], AOper.mk (some 7) (AOp.mv (Operand.const (Value.bool false))) none [1, 0, 1]]
def l81r3 : List AOper :=
  [AOper.mk (some 23) (AOp.load true 3 (Operand.tmp 3)) none [], AOper.mk (some 24) (AOp.mv (Operand.tmp 1)) none [], AOper.mk (some 25) (AOp.load true 5 (Operand.tmp 5)) none [], AOper.mk (some 26) (AOp.call 95 [Operand.tmp 23, Operand.tmp 24, Operand.tmp 25]) none [0, 1, 2], AOper.mk (some 27) (AOp.call 94 [Operand.tmp 26]) none [3, 3], AOper.mk (some 28) (AOp.extract (Operand.tmp 27) 0) none [4], AOper.mk (some 29) (AOp.extract (Operand.tmp 27) 1) none [4], AOper.mk none (AOp.store 3 (Operand.tmp 6) (Operand.tmp 28)) none [5, 4, 0, 1, 2, 3, 4, 5, 6], AOper.mk (some 7) (AOp.mv (Operand.tmp 29)) none [6, 7, 0, 1, 2, 3, 4, 5, 6, 7]]
def l81 : AFn :=
  (AFn.mk 30 3 (ACode.seq (ACode.reg l81r0) (ACode.seq (ACode.seq (ACode.reg l81r1) (ACode.cond (Operand.tmp 21) (ACode.seq (ACode.reg l81r2) ACode.ret) ACode.skip)) (ACode.seq (ACode.reg l81r3) ACode.ret))) [ARes.cell 6 true 3, ARes.tmp 7])
theorem l81_eq : lowFn Try.prog 81 = some l81 := by kernel_rfl
def l82r0 : List AOper :=
  [AOper.mk (some 2) (AOp.alloc [Value.int IntKind.i64 0, Value.int IntKind.i64 0, Value.int IntKind.i64 0, Value.bool false, Value.bool false]) none []]
def l82r1 : List AOper :=
  [AOper.mk (some 4) (AOp.mv (Operand.tmp 0)) none [], AOper.mk (some 5) (AOp.bslice 1 [Value.int IntKind.i64 0] [(0, Operand.const (Value.int IntKind.i64 1)), (1, Operand.const (Value.int IntKind.i64 2)), (2, Operand.const (Value.int IntKind.i64 (-1))), (3, Operand.const (Value.int IntKind.i64 3)), (4, Operand.const (Value.int IntKind.i64 (-2))), (5, Operand.const (Value.int IntKind.i64 1)), (6, Operand.const (Value.int IntKind.i64 5))] 7) none [], AOper.mk (some 6) (AOp.call 49 [Operand.tmp 4, Operand.tmp 5]) none [0, 1], AOper.mk (some 7) (AOp.build [Value.int IntKind.i64 0, Value.int IntKind.i64 0, Value.int IntKind.i64 0, Value.bool false, Value.bool false] [(2, 1, Operand.tmp 6)]) none [2], AOper.mk (some 3) (AOp.alloc [Value.int IntKind.i64 0, Value.int IntKind.i64 0, Value.int IntKind.i64 0, Value.bool false, Value.bool false]) none [], AOper.mk none (AOp.store 5 (Operand.tmp 3) (Operand.tmp 7)) none [4, 3, 2, 0, 1, 2, 3, 4]]
def l82r2 : List AOper :=
  [AOper.mk (some 8) (AOp.mv (Operand.tmp 0)) none [], AOper.mk (some 9) (AOp.call 50 [Operand.tmp 8, Operand.const (Value.int IntKind.i64 2)]) none [0], AOper.mk (some 10) (AOp.bin BinOp.eql (Operand.tmp 9) (Operand.const (Value.int IntKind.i64 0))) none [1]]
def l82r3 : List AOper :=
  [AOper.mk (some 11) (AOp.fld 3 (Operand.tmp 3)) none [], AOper.mk none (AOp.store 1 (Operand.tmp 11) (Operand.const (Value.bool true))) none [0]]
def l82r4 : List AOper :=
  [AOper.mk (some 12) (AOp.mv (Operand.tmp 0)) none [], AOper.mk (some 13) (AOp.mv (Operand.tmp 0)) none [], AOper.mk (some 14) (AOp.call 50 [Operand.tmp 13, Operand.const (Value.int IntKind.i64 12)]) none [1], AOper.mk (some 15) (AOp.bslice 1 [Value.int IntKind.i64 0] [(0, Operand.const (Value.int IntKind.i64 1)), (1, Operand.const (Value.int IntKind.i64 2)), (2, Operand.const (Value.int IntKind.i64 0)), (3, Operand.const (Value.int IntKind.i64 (-1))), (4, Operand.const (Value.int IntKind.i64 (-3))), (5, Operand.tmp 14), (6, Operand.const (Value.int IntKind.i64 30)), (7, Operand.const (Value.int IntKind.i64 (-30)))] 8) none [2], AOper.mk (some 16) (AOp.call 49 [Operand.tmp 12, Operand.tmp 15]) none [0, 3, 2], AOper.mk (some 17) (AOp.fld 0 (Operand.tmp 3)) none [0, 1, 2, 3, 4], AOper.mk none (AOp.store 1 (Operand.tmp 17) (Operand.tmp 16)) none [5, 4, 4, 0, 1, 2, 3, 4]]
def l82r5 : List AOper :=
  [AOper.mk (some 18) (AOp.mv (Operand.tmp 0)) none [], AOper.mk (some 19) (AOp.call 50 [Operand.tmp 18, Operand.const (Value.int IntKind.i64 2)]) none [0], AOper.mk (some 20) (AOp.bin BinOp.eql (Operand.tmp 19) (Operand.const (Value.int IntKind.i64 0))) none [1]]
def l82r6 : List AOper :=
  [AOper.mk (some 21) (AOp.fld 4 (Operand.tmp 3)) none [], AOper.mk none (AOp.store 1 (Operand.tmp 21) (Operand.const (Value.bool true))) none [0]]
def l82r7 : List AOper :=
  [AOper.mk (some 22) (AOp.mv (Operand.tmp 0)) none [], AOper.mk (some 23) (AOp.mv (Operand.tmp 0)) none [], AOper.mk (some 24) (AOp.call 50 [Operand.tmp 23, Operand.const (Value.int IntKind.i64 12)]) none [1], AOper.mk (some 25) (AOp.bslice 1 [Value.int IntKind.i64 0] [(0, Operand.const (Value.int IntKind.i64 4)), (1, Operand.const (Value.int IntKind.i64 3)), (2, Operand.const (Value.int IntKind.i64 (-1))), (3, Operand.const (Value.int IntKind.i64 (-2))), (4, Operand.const (Value.int IntKind.i64 0)), (5, Operand.tmp 24), (6, Operand.const (Value.int IntKind.i64 30)), (7, Operand.const (Value.int IntKind.i64 (-30)))] 8) none [2], AOper.mk (some 26) (AOp.call 49 [Operand.tmp 22, Operand.tmp 25]) none [0, 3, 2], AOper.mk (some 27) (AOp.fld 1 (Operand.tmp 3)) none [0, 1, 2, 3, 4], AOper.mk none (AOp.store 1 (Operand.tmp 27) (Operand.tmp 26)) none [5, 4, 4, 0, 1, 2, 3, 4]]
def l82r8 : List AOper :=
  [AOper.mk (some 28) (AOp.mv (Operand.tmp 0)) none [], AOper.mk (some 29) (AOp.call 50 [Operand.tmp 28, Operand.const (Value.int IntKind.i64 24)]) none [0]]
def l82r9 : List AOper :=
  [AOper.mk (some 31) (AOp.bin BinOp.eql (Operand.tmp 29) (Operand.const (Value.int IntKind.i64 0))) none [], AOper.mk (some 30) (AOp.mv (Operand.tmp 31)) none [0]]
def l82r10 : List AOper :=
  [AOper.mk (some 32) (AOp.mv (Operand.tmp 0)) none [], AOper.mk (some 33) (AOp.bslice 1 [Value.int IntKind.i64 0] [(0, Operand.const (Value.int IntKind.i64 0)), (1, Operand.const (Value.int IntKind.i64 201))] 2) none [], AOper.mk (some 34) (AOp.call 49 [Operand.tmp 32, Operand.tmp 33]) none [0, 1], AOper.mk (some 35) (AOp.fld 2 (Operand.tmp 3)) none [0, 1, 2], AOper.mk none (AOp.store 1 (Operand.tmp 35) (Operand.tmp 34)) none [3, 2, 2, 0, 1, 2]]
def l82r11 : List AOper :=
  [AOper.mk (some 37) (AOp.bin BinOp.eql (Operand.tmp 29) (Operand.const (Value.int IntKind.i64 1))) none [], AOper.mk (some 36) (AOp.mv (Operand.tmp 37)) none [0]]
def l82r12 : List AOper :=
  [AOper.mk (some 38) (AOp.fld 0 (Operand.tmp 3)) none [], AOper.mk none (AOp.store 1 (Operand.tmp 38) (Operand.const (Value.int IntKind.i64 101))) none [0]]
def l82r13 : List AOper :=
  [AOper.mk (some 40) (AOp.bin BinOp.eql (Operand.tmp 29) (Operand.const (Value.int IntKind.i64 2))) none [], AOper.mk (some 39) (AOp.mv (Operand.tmp 40)) none [0]]
def l82r14 : List AOper :=
  [AOper.mk (some 41) (AOp.mv (Operand.tmp 0)) none [], AOper.mk (some 42) (AOp.bslice 1 [Value.int IntKind.i64 0] [(0, Operand.const (Value.int IntKind.i64 1)), (1, Operand.const (Value.int IntKind.i64 (-101)))] 2) none [], AOper.mk (some 43) (AOp.call 49 [Operand.tmp 41, Operand.tmp 42]) none [0, 1], AOper.mk (some 44) (AOp.fld 1 (Operand.tmp 3)) none [0, 1, 2], AOper.mk none (AOp.store 1 (Operand.tmp 44) (Operand.tmp 43)) none [3, 2, 2, 0, 1, 2]]
def l82r15 : List AOper :=
  [AOper.mk (some 45) (AOp.load true 5 (Operand.tmp 3)) none [], AOper.mk none (AOp.store 5 (Operand.tmp 2) (Operand.tmp 45)) none [0, 0]]
def l82 : AFn :=
  (AFn.mk 46 1 (ACode.seq (ACode.reg l82r0) (ACode.seq (ACode.reg l82r1) (ACode.seq (ACode.seq (ACode.reg l82r2) (ACode.cond (Operand.tmp 10) (ACode.seq (ACode.reg l82r3) (ACode.reg l82r4)) ACode.skip)) (ACode.seq (ACode.seq (ACode.reg l82r5) (ACode.cond (Operand.tmp 20) (ACode.seq (ACode.reg l82r6) (ACode.reg l82r7)) ACode.skip)) (ACode.seq (ACode.seq (ACode.reg l82r8) (ACode.block 0 (ACode.seq (ACode.reg l82r9) (ACode.cond (Operand.tmp 30) (ACode.reg l82r10) (ACode.seq (ACode.reg l82r11) (ACode.cond (Operand.tmp 36) (ACode.reg l82r12) (ACode.seq (ACode.reg l82r13) (ACode.cond (Operand.tmp 39) (ACode.reg l82r14) ACode.skip)))))))) (ACode.seq (ACode.reg l82r15) ACode.ret)))))) [ARes.cell 2 true 5])
theorem l82_eq : lowFn Try.prog 82 = some l82 := by kernel_rfl
def l83r0 : List AOper :=
  [AOper.mk (some 2) (AOp.box (Operand.tmp 0)) none [], AOper.mk (some 4) (AOp.alloc [Value.int IntKind.i64 0, Value.slice none 0 0, Value.slice none 0 0]) none [], AOper.mk (some 5) (AOp.mv (Operand.const (Value.bool false))) none []]
def l83r1 : List AOper :=
  [AOper.mk (some 6) (AOp.load true 3 (Operand.tmp 2)) none [], AOper.mk (some 7) (AOp.mv (Operand.tmp 1)) none [], AOper.mk (some 8) (AOp.build [Value.int IntKind.i64 0, Value.int IntKind.i64 0, Value.int IntKind.i64 0, Value.bool false, Value.bool false] [(2, 1, Operand.const (Value.int IntKind.i64 (-1)))]) none [], AOper.mk (some 9) (AOp.call 81 [Operand.tmp 6, Operand.tmp 7, Operand.tmp 8]) none [0, 1, 2], AOper.mk (some 10) (AOp.extract (Operand.tmp 9) 0) none [3], AOper.mk (some 11) (AOp.extract (Operand.tmp 9) 1) none [3], AOper.mk none (AOp.store 3 (Operand.tmp 4) (Operand.tmp 10)) none [4, 3, 0, 1, 2, 3, 4, 5], AOper.mk (some 5) (AOp.mv (Operand.tmp 11)) none [5, 6, 0, 1, 2, 3, 4, 5, 6]]
def l83 : AFn :=
  (AFn.mk 12 2 (ACode.seq (ACode.reg l83r0) (ACode.seq (ACode.reg l83r1) ACode.ret)) [ARes.cell 4 true 3, ARes.tmp 5])
theorem l83_eq : lowFn Try.prog 83 = some l83 := by kernel_rfl
def l84r0 : List AOper :=
  [AOper.mk (some 2) (AOp.box (Operand.tmp 0)) none [], AOper.mk (some 4) (AOp.alloc [Value.int IntKind.i64 0, Value.slice none 0 0, Value.slice none 0 0]) none [], AOper.mk (some 5) (AOp.mv (Operand.const (Value.bool false))) none []]
def l84r1 : List AOper :=
  [AOper.mk (some 6) (AOp.load true 3 (Operand.tmp 2)) none [], AOper.mk (some 7) (AOp.call 46 [Operand.tmp 6]) none [0], AOper.mk (some 8) (AOp.un UnOp.not (Operand.tmp 7)) none [1], AOper.mk (some 9) (AOp.mv (Operand.tmp 8)) none [2, 1], AOper.mk (some 10) (AOp.mv (Operand.tmp 1)) (some (9, false)) [3], AOper.mk (some 11) (AOp.fld 1 (Operand.tmp 2)) (some (9, false)) [3], AOper.mk (some 12) (AOp.load false 1 (Operand.tmp 11)) (some (9, false)) [5, 3], AOper.mk (some 13) (AOp.len (Operand.tmp 12)) (some (9, false)) [6, 3], AOper.mk (some 14) (AOp.call 96 [Operand.tmp 10, Operand.tmp 13]) (some (9, false)) [4, 7, 3, 3], AOper.mk (some 15) (AOp.un UnOp.not (Operand.tmp 14)) (some (9, false)) [8, 3], AOper.mk (some 16) (AOp.pick (Operand.tmp 9) (Operand.const (Value.bool true)) (Operand.tmp 15)) none [3, 9]]
def l84r2 : List AOper :=
  [AOper.mk (some 17) (AOp.build [Value.int IntKind.i64 0, Value.slice none 0 0, Value.slice none 0 0] []) none [], AOper.mk none (AOp.store 3 (Operand.tmp 4) (Operand.tmp 17)) none [0, 0], AOper.mk (some 5) (AOp.mv (Operand.const (Value.bool false))) none [1, 0, 1]]
def l84r3 : List AOper :=
  [AOper.mk (some 18) (AOp.load true 3 (Operand.tmp 2)) none [], AOper.mk (some 19) (AOp.mv (Operand.tmp 1)) none [], AOper.mk (some 20) (AOp.call 97 [Operand.tmp 18, Operand.tmp 19]) none [0, 1], AOper.mk (some 21) (AOp.call 94 [Operand.tmp 20]) none [2, 2], AOper.mk (some 22) (AOp.extract (Operand.tmp 21) 0) none [3], AOper.mk (some 23) (AOp.extract (Operand.tmp 21) 1) none [3], AOper.mk none (AOp.store 3 (Operand.tmp 4) (Operand.tmp 22)) none [4, 3, 0, 1, 2, 3, 4, 5], AOper.mk (some 5) (AOp.mv (Operand.tmp 23)) none [5, 6, 0, 1, 2, 3, 4, 5, 6]]
def l84 : AFn :=
  (AFn.mk 24 2 (ACode.seq (ACode.reg l84r0) (ACode.seq (ACode.seq (ACode.reg l84r1) (ACode.cond (Operand.tmp 16) (ACode.seq (ACode.reg l84r2) ACode.ret) ACode.skip)) (ACode.seq (ACode.reg l84r3) ACode.ret))) [ARes.cell 4 true 3, ARes.tmp 5])
theorem l84_eq : lowFn Try.prog 84 = some l84 := by kernel_rfl
def l85r0 : List AOper :=
  [AOper.mk (some 2) (AOp.mv (Operand.const (Value.slice none 0 0))) none []]
def l85r1 : List AOper :=
  [AOper.mk (some 5) (AOp.bslice 1 [Value.int IntKind.i64 0] [] 0) none [], AOper.mk (some 3) (AOp.mv (Operand.tmp 5)) none [0, 0]]
def l85r2 : List AOper :=
  [AOper.mk (some 6) (AOp.mv (Operand.tmp 0)) none [], AOper.mk (some 7) (AOp.len (Operand.tmp 6)) none [0], AOper.mk (some 8) (AOp.bin BinOp.sub (Operand.tmp 7) (Operand.const (Value.int IntKind.i64 1))) none [1], AOper.mk (some 4) (AOp.mv (Operand.tmp 8)) none [2, 0, 1, 2]]
def l85r3 : List AOper :=
  [AOper.mk (some 9) (AOp.mv (Operand.tmp 4)) none [], AOper.mk (some 10) (AOp.bin BinOp.geq (Operand.tmp 9) (Operand.const (Value.int IntKind.i64 0))) none [0]]
def l85r4 : List AOper :=
  [AOper.mk (some 13) (AOp.mv (Operand.tmp 3)) none [], AOper.mk (some 14) (AOp.mv (Operand.tmp 0)) none [], AOper.mk (some 15) (AOp.mv (Operand.tmp 4)) none [], AOper.mk (some 16) (AOp.idxA 1 (Operand.tmp 14) (Operand.tmp 15)) none [1, 2], AOper.mk (some 17) (AOp.load false 1 (Operand.tmp 16)) none [3], AOper.mk (some 18) (AOp.bslice 1 [Value.int IntKind.i64 0] [(0, Operand.tmp 17)] 1) none [4], AOper.mk (some 19) (AOp.append 1 (Operand.tmp 13) (Operand.tmp 18)) none [0, 5], AOper.mk (some 3) (AOp.mv (Operand.tmp 19)) none [6, 6, 0, 1, 2, 3, 4, 5, 6]]
def l85r5 : List AOper :=
  [AOper.mk (some 11) (AOp.mv (Operand.tmp 4)) none [], AOper.mk (some 12) (AOp.bin BinOp.sub (Operand.tmp 11) (Operand.const (Value.int IntKind.i64 1))) none [0], AOper.mk (some 4) (AOp.mv (Operand.tmp 12)) none [1, 0, 1]]
def l85r6 : List AOper :=
  [AOper.mk (some 20) (AOp.mv (Operand.tmp 3)) none [], AOper.mk (some 2) (AOp.mv (Operand.tmp 20)) none [0, 0]]
def l85 : AFn :=
  (AFn.mk 21 1 (ACode.seq (ACode.reg l85r0) (ACode.seq (ACode.reg l85r1) (ACode.seq (ACode.seq (ACode.reg l85r2) (ACode.block 0 (ACode.loop (ACode.seq (ACode.seq (ACode.reg l85r3) (ACode.cond (Operand.tmp 10) ACode.skip (ACode.exit 0))) (ACode.seq (ACode.block 1 (ACode.reg l85r4)) (ACode.reg l85r5)))))) (ACode.seq (ACode.reg l85r6) ACode.ret)))) [ARes.tmp 2])
theorem l85_eq : lowFn Try.prog 85 = some l85 := by kernel_rfl
def l86r0 : List AOper :=
  [AOper.mk (some 2) (AOp.mv (Operand.const (Value.slice none 0 0))) none []]
def l86r1 : List AOper :=
  [AOper.mk (some 5) (AOp.bslice 1 [Value.int IntKind.i64 0] [] 0) none [], AOper.mk (some 3) (AOp.mv (Operand.tmp 5)) none [0, 0]]
def l86r2 : List AOper :=
  [AOper.mk (some 4) (AOp.mv (Operand.const (Value.int IntKind.i64 0))) none []]
def l86r3 : List AOper :=
  [AOper.mk (some 6) (AOp.mv (Operand.tmp 4)) none [], AOper.mk (some 7) (AOp.mv (Operand.tmp 0)) none [], AOper.mk (some 8) (AOp.bin BinOp.lss (Operand.tmp 6) (Operand.tmp 7)) none [0, 1]]
def l86r4 : List AOper :=
  [AOper.mk (some 11) (AOp.mv (Operand.tmp 3)) none [], AOper.mk (some 12) (AOp.mv (Operand.tmp 4)) none [], AOper.mk (some 13) (AOp.bslice 1 [Value.int IntKind.i64 0] [(0, Operand.tmp 12)] 1) none [1], AOper.mk (some 14) (AOp.append 1 (Operand.tmp 11) (Operand.tmp 13)) none [0, 2], AOper.mk (some 3) (AOp.mv (Operand.tmp 14)) none [3, 3, 0, 1, 2, 3]]
def l86r5 : List AOper :=
  [AOper.mk (some 9) (AOp.mv (Operand.tmp 4)) none [], AOper.mk (some 10) (AOp.bin BinOp.add (Operand.tmp 9) (Operand.const (Value.int IntKind.i64 1))) none [0], AOper.mk (some 4) (AOp.mv (Operand.tmp 10)) none [1, 0, 1]]
def l86r6 : List AOper :=
  [AOper.mk (some 15) (AOp.mv (Operand.tmp 3)) none [], AOper.mk (some 2) (AOp.mv (Operand.tmp 15)) none [0, 0]]
def l86 : AFn :=
  (AFn.mk 16 1 (ACode.seq (ACode.reg l86r0) (ACode.seq (ACode.reg l86r1) (ACode.seq (ACode.seq (ACode.reg l86r2) (ACode.block 0 (ACode.loop (ACode.seq (ACode.seq (ACode.reg l86r3) (ACode.cond (Operand.tmp 8) ACode.skip (ACode.exit 0))) (ACode.seq (ACode.block 1 (ACode.reg l86r4)) (ACode.reg l86r5)))))) (ACode.seq (ACode.reg l86r6) ACode.ret)))) [ARes.tmp 2])
theorem l86_eq : lowFn Try.prog 86 = some l86 := by kernel_rfl
def l87r0 : List AOper :=
  [AOper.mk (some 3) (AOp.box (Operand.tmp 0)) none [], AOper.mk (some 6) (AOp.alloc [Value.int IntKind.i64 0, Value.slice none 0 0, Value.slice none 0 0]) none [], AOper.mk (some 7) (AOp.mv (Operand.const (Value.bool false))) none []]
def l87r1 : List AOper :=
  [AOper.mk (some 9) (AOp.load true 3 (Operand.tmp 3)) none [], AOper.mk (some 10) (AOp.call 46 [Operand.tmp 9]) none [0], AOper.mk (some 11) (AOp.un UnOp.not (Operand.tmp 10)) none [1], AOper.mk (some 12) (AOp.mv (Operand.tmp 11)) none [2, 1], AOper.mk (some 13) (AOp.load true 3 (Operand.tmp 3)) (some (12, false)) [3], AOper.mk (some 14) (AOp.mv (Operand.tmp 1)) (some (12, false)) [3], AOper.mk (some 15) (AOp.call 92 [Operand.tmp 13, Operand.tmp 14]) (some (12, false)) [4, 5, 3, 3], AOper.mk (some 16) (AOp.un UnOp.not (Operand.tmp 15)) (some (12, false)) [6, 3], AOper.mk (some 17) (AOp.pick (Operand.tmp 12) (Operand.const (Value.bool true)) (Operand.tmp 16)) none [3, 7], AOper.mk (some 18) (AOp.mv (Operand.tmp 17)) none [8, 6], AOper.mk (some 19) (AOp.mv (Operand.tmp 2)) (some (18, false)) [9], AOper.mk (some 20) (AOp.fld 1 (Operand.tmp 3)) (some (18, false)) [9], AOper.mk (some 21) (AOp.load false 1 (Operand.tmp 20)) (some (18, false)) [11, 9], AOper.mk (some 22) (AOp.mv (Operand.tmp 1)) (some (18, false)) [9], AOper.mk (some 23) (AOp.idxA 1 (Operand.tmp 21) (Operand.tmp 22)) (some (18, false)) [12, 13, 9], AOper.mk (some 24) (AOp.load false 1 (Operand.tmp 23)) (some (18, false)) [14, 9], AOper.mk (some 25) (AOp.call 69 [Operand.tmp 19, Operand.const (Value.int IntKind.i64 1), Operand.tmp 24]) (some (18, false)) [10, 15, 9, 9], AOper.mk (some 26) (AOp.un UnOp.not (Operand.tmp 25)) (some (18, false)) [16, 9], AOper.mk (some 27) (AOp.pick (Operand.tmp 18) (Operand.const (Value.bool true)) (Operand.tmp 26)) none [9, 17]]
def l87r2 : List AOper :=
  [AOper.mk (some 28) (AOp.build [Value.int IntKind.i64 0, Value.slice none 0 0, Value.slice none 0 0] []) none [], AOper.mk none (AOp.store 3 (Operand.tmp 6) (Operand.tmp 28)) none [0, 0], AOper.mk (some 7) (AOp.mv (Operand.const (Value.bool false))) none [1, 0, 1]]
def l87r3 : List AOper :=
  [AOper.mk (some 29) (AOp.load true 3 (Operand.tmp 3)) none [], AOper.mk (some 30) (AOp.call 89 [Operand.tmp 29]) none [0], AOper.mk (some 8) (AOp.alloc [Value.int IntKind.i64 0, Value.slice none 0 0, Value.slice none 0 0]) none [], AOper.mk none (AOp.store 3 (Operand.tmp 8) (Operand.tmp 30)) none [2, 1, 1, 0, 1, 2]]
def l87r4a : List AOper :=
  [AOper.mk (some 31) (AOp.fld 1 (Operand.tmp 8)) none [], AOper.mk (some 32) (AOp.load false 1 (Operand.tmp 31)) none [0], AOper.mk (some 33) (AOp.mv (Operand.tmp 1)) none [], AOper.mk (some 34) (AOp.fld 1 (Operand.tmp 3)) none [], AOper.mk (some 35) (AOp.load false 1 (Operand.tmp 34)) none [3], AOper.mk (some 36) (AOp.mv (Operand.tmp 1)) none [], AOper.mk (some 37) (AOp.idxA 1 (Operand.tmp 35) (Operand.tmp 36)) none [4, 5], AOper.mk (some 38) (AOp.load false 1 (Operand.tmp 37)) none [6], AOper.mk (some 39) (AOp.mv (Operand.tmp 2)) none [], AOper.mk (some 40) (AOp.bin BinOp.sub (Operand.tmp 38) (Operand.tmp 39)) none [7, 8], AOper.mk (some 41) (AOp.bin BinOp.add (Operand.tmp 40) (Operand.const (Value.int IntKind.i64 1))) none [9]]
def l87r4b : List AOper :=
  [AOper.mk (some 42) (AOp.idxA 1 (Operand.tmp 32) (Operand.tmp 33)) none [1, 2, 0, 1, 2, 3, 4, 5, 6, 7, 8, 9, 10], AOper.mk none (AOp.store 1 (Operand.tmp 42) (Operand.tmp 41)) none [11, 10, 0, 1, 2, 3, 4, 5, 6, 7, 8, 9, 10]]
def l87r4 : List AOper := l87r4a ++ l87r4b
def l87r5 : List AOper :=
  [AOper.mk (some 43) (AOp.fld 1 (Operand.tmp 8)) none [], AOper.mk (some 44) (AOp.load false 1 (Operand.tmp 43)) none [0], AOper.mk (some 45) (AOp.mv (Operand.tmp 2)) none [], AOper.mk (some 46) (AOp.bslice 1 [Value.int IntKind.i64 0] [(0, Operand.tmp 45)] 1) none [2], AOper.mk (some 47) (AOp.append 1 (Operand.tmp 44) (Operand.tmp 46)) none [1, 3], AOper.mk (some 48) (AOp.fld 1 (Operand.tmp 8)) none [0, 1, 2, 3, 4], AOper.mk none (AOp.store 1 (Operand.tmp 48) (Operand.tmp 47)) none [5, 4, 4, 0, 1, 2, 3, 4]]
def l87r6a : List AOper :=
  [AOper.mk (some 49) (AOp.fld 2 (Operand.tmp 8)) none [], AOper.mk (some 50) (AOp.load false 1 (Operand.tmp 49)) none [0], AOper.mk (some 51) (AOp.fld 2 (Operand.tmp 3)) none [], AOper.mk (some 52) (AOp.load false 1 (Operand.tmp 51)) none [2], AOper.mk (some 53) (AOp.mv (Operand.tmp 1)) none [], AOper.mk (some 54) (AOp.idxA 1 (Operand.tmp 52) (Operand.tmp 53)) none [3, 4], AOper.mk (some 55) (AOp.load false 1 (Operand.tmp 54)) none [5], AOper.mk (some 56) (AOp.bslice 1 [Value.int IntKind.i64 0] [(0, Operand.tmp 55)] 1) none [6]]
def l87r6b : List AOper :=
  [AOper.mk (some 57) (AOp.append 1 (Operand.tmp 50) (Operand.tmp 56)) none [1, 7], AOper.mk (some 58) (AOp.fld 2 (Operand.tmp 8)) none [0, 1, 2, 3, 4, 5, 6, 7, 8], AOper.mk none (AOp.store 1 (Operand.tmp 58) (Operand.tmp 57)) none [9, 8, 8, 0, 1, 2, 3, 4, 5, 6, 7, 8]]
def l87r6 : List AOper := l87r6a ++ l87r6b
def l87r7 : List AOper :=
  [AOper.mk (some 59) (AOp.load true 3 (Operand.tmp 8)) none [], AOper.mk (some 60) (AOp.call 94 [Operand.tmp 59]) none [0], AOper.mk (some 61) (AOp.extract (Operand.tmp 60) 0) none [1], AOper.mk (some 62) (AOp.extract (Operand.tmp 60) 1) none [1], AOper.mk none (AOp.store 3 (Operand.tmp 6) (Operand.tmp 61)) none [2, 1, 0, 1, 2, 3], AOper.mk (some 7) (AOp.mv (Operand.tmp 62)) none [3, 4, 0, 1, 2, 3, 4]]
def l87 : AFn :=
  (AFn.mk 63 3 (ACode.seq (ACode.reg l87r0) (ACode.seq (ACode.seq (ACode.reg l87r1) (ACode.cond (Operand.tmp 27) (ACode.seq (ACode.reg l87r2) ACode.ret) ACode.skip)) (ACode.seq (ACode.reg l87r3) (ACode.seq (ACode.draw l87r4) (ACode.seq (ACode.reg l87r5) (ACode.seq (ACode.draw l87r6) (ACode.seq (ACode.reg l87r7) ACode.ret))))))) [ARes.cell 6 true 3, ARes.tmp 7])
theorem l87_eq : lowFn Try.prog 87 = some l87 := by kernel_rfl
def l88r0 : List AOper :=
  [AOper.mk (some 2) (AOp.box (Operand.tmp 0)) none [], AOper.mk (some 4) (AOp.alloc [Value.int IntKind.i64 0, Value.slice none 0 0, Value.slice none 0 0]) none [], AOper.mk (some 5) (AOp.mv (Operand.const (Value.bool false))) none []]
def l88r1 : List AOper :=
  [AOper.mk (some 6) (AOp.load true 3 (Operand.tmp 2)) none [], AOper.mk (some 7) (AOp.call 46 [Operand.tmp 6]) none [0], AOper.mk (some 8) (AOp.un UnOp.not (Operand.tmp 7)) none [1], AOper.mk (some 9) (AOp.mv (Operand.tmp 8)) none [2, 1], AOper.mk (some 10) (AOp.mv (Operand.tmp 1)) (some (9, false)) [3], AOper.mk (some 11) (AOp.fld 1 (Operand.tmp 2)) (some (9, false)) [3], AOper.mk (some 12) (AOp.load false 1 (Operand.tmp 11)) (some (9, false)) [5, 3], AOper.mk (some 13) (AOp.len (Operand.tmp 12)) (some (9, false)) [6, 3], AOper.mk (some 14) (AOp.call 69 [Operand.tmp 10, Operand.const (Value.int IntKind.i64 0), Operand.tmp 13]) (some (9, false)) [4, 7, 3, 3], AOper.mk (some 15) (AOp.un UnOp.not (Operand.tmp 14)) (some (9, false)) [8, 3], AOper.mk (some 16) (AOp.pick (Operand.tmp 9) (Operand.const (Value.bool true)) (Operand.tmp 15)) none [3, 9], AOper.mk (some 17) (AOp.mv (Operand.tmp 16)) none [10, 8], AOper.mk (some 18) (AOp.fld 1 (Operand.tmp 2)) (some (17, false)) [11], AOper.mk (some 19) (AOp.load false 1 (Operand.tmp 18)) (some (17, false)) [12, 11], AOper.mk (some 20) (AOp.len (Operand.tmp 19)) (some (17, false)) [13, 11], AOper.mk (some 21) (AOp.bin BinOp.eql (Operand.tmp 20) (Operand.const (Value.int IntKind.i64 4))) (some (17, false)) [14, 11], AOper.mk (some 22) (AOp.pick (Operand.tmp 17) (Operand.const (Value.bool true)) (Operand.tmp 21)) none [11, 15]]
def l88r2 : List AOper :=
  [AOper.mk (some 23) (AOp.build [Value.int IntKind.i64 0, Value.slice none 0 0, Value.slice none 0 0] []) none [], AOper.mk none (AOp.store 3 (Operand.tmp 4) (Operand.tmp 23)) none [0, 0], AOper.mk (some 5) (AOp.mv (Operand.const (Value.bool false))) none [1, 0, 1]]
def l88r3a : List AOper :=
  [AOper.mk (some 24) (AOp.fld 0 (Operand.tmp 2)) none [], AOper.mk (some 25) (AOp.load false 1 (Operand.tmp 24)) none [0], AOper.mk (some 26) (AOp.fld 1 (Operand.tmp 2)) none [], AOper.mk (some 27) (AOp.load false 1 (Operand.tmp 26)) none [2], AOper.mk (some 28) (AOp.mv (Operand.tmp 1)) none [], AOper.mk (some 29) (AOp.call 98 [Operand.tmp 27, Operand.tmp 28, Operand.const (Value.int IntKind.i64 1)]) none [3, 4], AOper.mk (some 30) (AOp.fld 2 (Operand.tmp 2)) none [], AOper.mk (some 31) (AOp.load false 1 (Operand.tmp 30)) none [6], AOper.mk (some 32) (AOp.mv (Operand.tmp 1)) none [], AOper.mk (some 33) (AOp.call 98 [Operand.tmp 31, Operand.tmp 32, Operand.const (Value.int IntKind.i64 0)]) none [7, 8, 5], AOper.mk (some 34) (AOp.build [Value.int IntKind.i64 0, Value.slice none 0 0, Value.slice none 0 0] [(0, 1, Operand.tmp 25), (1, 1, Operand.tmp 29), (2, 1, Operand.tmp 33)]) none [1, 5, 9], AOper.mk (some 35) (AOp.call 94 [Operand.tmp 34]) none [10, 9], AOper.mk (some 36) (AOp.extract (Operand.tmp 35) 0) none [11], AOper.mk (some 37) (AOp.extract (Operand.tmp 35) 1) none [11]]
def l88r3b : List AOper :=
  [AOper.mk none (AOp.store 3 (Operand.tmp 4) (Operand.tmp 36)) none [12, 11, 0, 1, 2, 3, 4, 5, 6, 7, 8, 9, 10, 11, 12, 13], AOper.mk (some 5) (AOp.mv (Operand.tmp 37)) none [13, 14, 0, 1, 2, 3, 4, 5, 6, 7, 8, 9, 10, 11, 12, 13, 14]]
def l88r3 : List AOper := l88r3a ++ l88r3b
def l88 : AFn :=
  (AFn.mk 38 2 (ACode.seq (ACode.reg l88r0) (ACode.seq (ACode.seq (ACode.reg l88r1) (ACode.cond (Operand.tmp 22) (ACode.seq (ACode.reg l88r2) ACode.ret) ACode.skip)) (ACode.seq (ACode.draw l88r3) ACode.ret))) [ARes.cell 4 true 3, ARes.tmp 5])
theorem l88_eq : lowFn Try.prog 88 = some l88 := by kernel_rfl
def l89r0 : List AOper :=
  [AOper.mk (some 1) (AOp.box (Operand.tmp 0)) none [], AOper.mk (some 2) (AOp.alloc [Value.int IntKind.i64 0, Value.slice none 0 0, Value.slice none 0 0]) none []]
def l89r1a : List AOper :=
  [AOper.mk (some 3) (AOp.fld 0 (Operand.tmp 1)) none [], AOper.mk (some 4) (AOp.load false 1 (Operand.tmp 3)) none [0], AOper.mk (some 5) (AOp.fld 1 (Operand.tmp 1)) none [], AOper.mk (some 6) (AOp.load false 1 (Operand.tmp 5)) none [2], AOper.mk (some 7) (AOp.call 91 [Operand.tmp 6]) none [3], AOper.mk (some 8) (AOp.fld 2 (Operand.tmp 1)) none [], AOper.mk (some 9) (AOp.load false 1 (Operand.tmp 8)) none [5], AOper.mk (some 10) (AOp.call 91 [Operand.tmp 9]) none [6, 4]]
def l89r1b : List AOper :=
  [AOper.mk (some 11) (AOp.build [Value.int IntKind.i64 0, Value.slice none 0 0, Value.slice none 0 0] [(0, 1, Operand.tmp 4), (1, 1, Operand.tmp 7), (2, 1, Operand.tmp 10)]) none [1, 4, 7], AOper.mk none (AOp.store 3 (Operand.tmp 2) (Operand.tmp 11)) none [8, 7, 0, 1, 2, 3, 4, 5, 6, 7, 8]]
def l89r1 : List AOper := l89r1a ++ l89r1b
def l89 : AFn :=
  (AFn.mk 12 1 (ACode.seq (ACode.reg l89r0) (ACode.seq (ACode.draw l89r1) ACode.ret)) [ARes.cell 2 true 3])
theorem l89_eq : lowFn Try.prog 89 = some l89 := by kernel_rfl
def l91r0 : List AOper :=
  [AOper.mk (some 2) (AOp.mv (Operand.const (Value.slice none 0 0))) none []]
def l91r1 : List AOper :=
  [AOper.mk (some 3) (AOp.bslice 1 [Value.int IntKind.i64 0] [] 0) none [], AOper.mk (some 4) (AOp.mv (Operand.tmp 0)) none [], AOper.mk (some 5) (AOp.append 1 (Operand.tmp 3) (Operand.tmp 4)) none [0, 1], AOper.mk (some 2) (AOp.mv (Operand.tmp 5)) none [2, 2, 0, 1, 2]]
def l91 : AFn :=
  (AFn.mk 6 1 (ACode.seq (ACode.reg l91r0) (ACode.seq (ACode.reg l91r1) ACode.ret)) [ARes.tmp 2])
theorem l91_eq : lowFn Try.prog 91 = some l91 := by kernel_rfl
def l92r0 : List AOper :=
  [AOper.mk (some 2) (AOp.box (Operand.tmp 0)) none [], AOper.mk (some 4) (AOp.mv (Operand.const (Value.bool false))) none []]
def l92r1 : List AOper :=
  [AOper.mk (some 5) (AOp.mv (Operand.tmp 1)) none [], AOper.mk (some 6) (AOp.fld 1 (Operand.tmp 2)) none [], AOper.mk (some 7) (AOp.load false 1 (Operand.tmp 6)) none [1], AOper.mk (some 8) (AOp.len (Operand.tmp 7)) none [2], AOper.mk (some 9) (AOp.bin BinOp.sub (Operand.tmp 8) (Operand.const (Value.int IntKind.i64 1))) none [3], AOper.mk (some 10) (AOp.call 69 [Operand.tmp 5, Operand.const (Value.int IntKind.i64 0), Operand.tmp 9]) none [0, 4], AOper.mk (some 4) (AOp.mv (Operand.tmp 10)) none [5, 5, 0, 1, 2, 3, 4, 5]]
def l92 : AFn :=
  (AFn.mk 11 2 (ACode.seq (ACode.reg l92r0) (ACode.seq (ACode.reg l92r1) ACode.ret)) [ARes.tmp 4])
theorem l92_eq : lowFn Try.prog 92 = some l92 := by kernel_rfl
def l93r0 : List AOper :=
  [AOper.mk (some 1) (AOp.box (Operand.tmp 0)) none [], AOper.mk (some 2) (AOp.mv (Operand.const (Value.bool false))) none []]
def l93r1 : List AOper :=
  [AOper.mk (some 3) (AOp.fld 0 (Operand.tmp 1)) none [], AOper.mk (some 4) (AOp.load false 1 (Operand.tmp 3)) none [0], AOper.mk (some 5) (AOp.call 69 [Operand.tmp 4, Operand.const (Value.int IntKind.i64 (-100)), Operand.const (Value.int IntKind.i64 100)]) none [1], AOper.mk (some 6) (AOp.mv (Operand.tmp 5)) none [2, 2], AOper.mk (some 7) (AOp.fld 1 (Operand.tmp 1)) (some (6, true)) [3], AOper.mk (some 8) (AOp.load false 1 (Operand.tmp 7)) (some (6, true)) [4, 3], AOper.mk (some 9) (AOp.call 69 [Operand.tmp 8, Operand.const (Value.int IntKind.i64 (-100)), Operand.const (Value.int IntKind.i64 100)]) (some (6, true)) [5, 3, 3], AOper.mk (some 10) (AOp.pick (Operand.tmp 6) (Operand.tmp 9) (Operand.const (Value.bool false))) none [3, 6], AOper.mk (some 11) (AOp.mv (Operand.tmp 10)) none [7, 6], AOper.mk (some 12) (AOp.fld 2 (Operand.tmp 1)) (some (11, true)) [8], AOper.mk (some 13) (AOp.load false 1 (Operand.tmp 12)) (some (11, true)) [9, 8], AOper.mk (some 14) (AOp.call 69 [Operand.tmp 13, Operand.const (Value.int IntKind.i64 (-200)), Operand.const (Value.int IntKind.i64 200)]) (some (11, true)) [10, 8, 8], AOper.mk (some 15) (AOp.pick (Operand.tmp 11) (Operand.tmp 14) (Operand.const (Value.bool false))) none [8, 11], AOper.mk (some 16) (AOp.mv (Operand.tmp 15)) none [12, 11], AOper.mk (some 17) (AOp.fld 2 (Operand.tmp 1)) (some (16, true)) [13], AOper.mk (some 18) (AOp.load false 1 (Operand.tmp 17)) (some (16, true)) [14, 13], AOper.mk (some 19) (AOp.bin BinOp.neq (Operand.tmp 18) (Operand.const (Value.int IntKind.i64 0))) (some (16, true)) [15, 13], AOper.mk (some 20) (AOp.pick (Operand.tmp 16) (Operand.tmp 19) (Operand.const (Value.bool false))) none [13, 16], AOper.mk (some 21) (AOp.mv (Operand.tmp 20)) none [17, 13], AOper.mk (some 22) (AOp.fld 3 (Operand.tmp 1)) (some (21, true)) [18], AOper.mk (some 23) (AOp.load false 1 (Operand.tmp 22)) (some (21, true)) [19, 18], AOper.mk (some 24) (AOp.mv (Operand.tmp 23)) (some (21, true)) [20, 18, 18], AOper.mk (some 25) (AOp.fld 0 (Operand.tmp 1)) (some (24, false)) [21], AOper.mk (some 26) (AOp.load false 1 (Operand.tmp 25)) (some (24, false)) [22, 21], AOper.mk (some 27) (AOp.bin BinOp.eql (Operand.tmp 26) (Operand.const (Value.int IntKind.i64 0))) (some (24, false)) [23, 21], AOper.mk (some 28) (AOp.pick (Operand.tmp 24) (Operand.const (Value.bool true)) (Operand.tmp 27)) (some (21, true)) [21, 24, 18], AOper.mk (some 29) (AOp.pick (Operand.tmp 21) (Operand.tmp 28) (Operand.const (Value.bool false))) none [18, 25], AOper.mk (some 30) (AOp.mv (Operand.tmp 29)) none [26, 21], AOper.mk (some 31) (AOp.fld 4 (Operand.tmp 1)) (some (30, true)) [27], AOper.mk (some 32) (AOp.load false 1 (Operand.tmp 31)) (some (30, true)) [28, 27], AOper.mk (some 33) (AOp.mv (Operand.tmp 32)) (some (30, true)) [29, 27, 27], AOper.mk (some 34) (AOp.fld 1 (Operand.tmp 1)) (some (33, false)) [30], AOper.mk (some 35) (AOp.load false 1 (Operand.tmp 34)) (some (33, false)) [31, 30], AOper.mk (some 36) (AOp.bin BinOp.eql (Operand.tmp 35) (Operand.const (Value.int IntKind.i64 0))) (some (33, false)) [32, 30], AOper.mk (some 37) (AOp.pick (Operand.tmp 33) (Operand.const (Value.bool true)) (Operand.tmp 36)) (some (30, true)) [30, 33, 27], AOper.mk (some 38) (AOp.pick (Operand.tmp 30) (Operand.tmp 37) (Operand.const (Value.bool false))) none [27, 34], AOper.mk (some 2) (AOp.mv (Operand.tmp 38)) none [35, 30, 0, 1, 2, 3, 4, 5, 6, 7, 8, 9, 10, 11, 12, 13, 14, 15, 16, 17, 18, 19, 20, 21, 22, 23, 24, 25, 26, 27, 28, 29, 30, 31, 32, 33, 34, 35]]
def l93 : AFn :=
  (AFn.mk 39 1 (ACode.seq (ACode.reg l93r0) (ACode.seq (ACode.reg l93r1) ACode.ret)) [ARes.tmp 2])
theorem l93_eq : lowFn Try.prog 93 = some l93 := by kernel_rfl
def l94r0 : List AOper :=
  [AOper.mk (some 1) (AOp.box (Operand.tmp 0)) none [], AOper.mk (some 2) (AOp.alloc [Value.int IntKind.i64 0, Value.slice none 0 0, Value.slice none 0 0]) none [], AOper.mk (some 3) (AOp.mv (Operand.const (Value.bool false))) none []]
def l94r1 : List AOper :=
  [AOper.mk (some 4) (AOp.load true 3 (Operand.tmp 1)) none [], AOper.mk (some 5) (AOp.call 46 [Operand.tmp 4]) none [0], AOper.mk (some 6) (AOp.un UnOp.not (Operand.tmp 5)) none [1]]
def l94r2 : List AOper :=
  [AOper.mk (some 7) (AOp.build [Value.int IntKind.i64 0, Value.slice none 0 0, Value.slice none 0 0] []) none [], AOper.mk none (AOp.store 3 (Operand.tmp 2) (Operand.tmp 7)) none [0, 0], AOper.mk (some 3) (AOp.mv (Operand.const (Value.bool false))) none [1, 0, 1]]
def l94r3 : List AOper :=
  [AOper.mk (some 8) (AOp.load true 3 (Operand.tmp 1)) none [], AOper.mk (some 9) (AOp.call 89 [Operand.tmp 8]) none [0], AOper.mk none (AOp.store 3 (Operand.tmp 2) (Operand.tmp 9)) none [1, 1, 0, 1], AOper.mk (some 3) (AOp.mv (Operand.const (Value.bool true))) none [2, 0, 1, 2]]
def l94 : AFn :=
  (AFn.mk 10 1 (ACode.seq (ACode.reg l94r0) (ACode.seq (ACode.seq (ACode.reg l94r1) (ACode.cond (Operand.tmp 6) (ACode.seq (ACode.reg l94r2) ACode.ret) ACode.skip)) (ACode.seq (ACode.reg l94r3) ACode.ret))) [ARes.cell 2 true 3, ARes.tmp 3])
theorem l94_eq : lowFn Try.prog 94 = some l94 := by kernel_rfl
def l95r0 : List AOper :=
  [AOper.mk (some 3) (AOp.box (Operand.tmp 0)) none [], AOper.mk (some 5) (AOp.box (Operand.tmp 2)) none [], AOper.mk (some 6) (AOp.alloc [Value.int IntKind.i64 0, Value.slice none 0 0, Value.slice none 0 0]) none []]
def l95r1 : List AOper :=
  [AOper.mk (some 10) (AOp.load true 3 (Operand.tmp 3)) none [], AOper.mk (some 11) (AOp.call 89 [Operand.tmp 10]) none [0], AOper.mk (some 7) (AOp.alloc [Value.int IntKind.i64 0, Value.slice none 0 0, Value.slice none 0 0]) none [], AOper.mk none (AOp.store 3 (Operand.tmp 7) (Operand.tmp 11)) none [2, 1, 1, 0, 1, 2]]
def l95r2a : List AOper :=
  [AOper.mk (some 12) (AOp.fld 1 (Operand.tmp 3)) none [], AOper.mk (some 13) (AOp.load false 1 (Operand.tmp 12)) none [0], AOper.mk (some 14) (AOp.mv (Operand.tmp 1)) none [], AOper.mk (some 15) (AOp.idxA 1 (Operand.tmp 13) (Operand.tmp 14)) none [1, 2], AOper.mk (some 16) (AOp.load false 1 (Operand.tmp 15)) none [3], AOper.mk (some 17) (AOp.load true 5 (Operand.tmp 5)) none [], AOper.mk (some 18) (AOp.call 100 [Operand.tmp 16, Operand.tmp 17]) none [4, 5], AOper.mk (some 19) (AOp.call 99 [Operand.tmp 18]) none [6, 6], AOper.mk (some 8) (AOp.alloc [Value.int IntKind.i64 0, Value.int IntKind.i64 0, Value.int IntKind.i64 0]) none []]
def l95r2b : List AOper :=
  [AOper.mk none (AOp.store 3 (Operand.tmp 8) (Operand.tmp 19)) none [8, 7, 7, 0, 1, 2, 3, 4, 5, 6, 7, 8]]
def l95r2 : List AOper := l95r2a ++ l95r2b
def l95r3 : List AOper :=
  [AOper.mk (some 20) (AOp.load true 3 (Operand.tmp 8)) none [], AOper.mk (some 21) (AOp.call 101 [Operand.tmp 20]) none [0], AOper.mk (some 9) (AOp.mv (Operand.tmp 21)) none [1, 1, 0, 1]]
def l95r4 : List AOper :=
  [AOper.mk (some 22) (AOp.fld 1 (Operand.tmp 7)) none [], AOper.mk (some 23) (AOp.load false 1 (Operand.tmp 22)) none [0], AOper.mk (some 24) (AOp.mv (Operand.tmp 1)) none [], AOper.mk (some 25) (AOp.mv (Operand.tmp 9)) none [], AOper.mk (some 26) (AOp.len (Operand.tmp 25)) none [3], AOper.mk (some 27) (AOp.idxA 1 (Operand.tmp 23) (Operand.tmp 24)) none [1, 2, 0, 1, 2, 3, 4], AOper.mk none (AOp.store 1 (Operand.tmp 27) (Operand.tmp 26)) none [5, 4, 0, 1, 2, 3, 4]]
def l95r5a : List AOper :=
  [AOper.mk (some 28) (AOp.fld 0 (Operand.tmp 3)) none [], AOper.mk (some 29) (AOp.load false 1 (Operand.tmp 28)) none [0], AOper.mk (some 30) (AOp.fld 0 (Operand.tmp 8)) none [], AOper.mk (some 31) (AOp.load false 1 (Operand.tmp 30)) none [2], AOper.mk (some 32) (AOp.fld 2 (Operand.tmp 3)) none [], AOper.mk (some 33) (AOp.load false 1 (Operand.tmp 32)) none [4], AOper.mk (some 34) (AOp.mv (Operand.tmp 1)) none [], AOper.mk (some 35) (AOp.idxA 1 (Operand.tmp 33) (Operand.tmp 34)) none [5, 6], AOper.mk (some 36) (AOp.load false 1 (Operand.tmp 35)) none [7], AOper.mk (some 37) (AOp.bin BinOp.mul (Operand.tmp 31) (Operand.tmp 36)) none [3, 8]]
def l95r5b : List AOper :=
  [AOper.mk (some 38) (AOp.bin BinOp.add (Operand.tmp 29) (Operand.tmp 37)) none [1, 9], AOper.mk (some 39) (AOp.fld 0 (Operand.tmp 7)) none [0, 1, 2, 3, 4, 5, 6, 7, 8, 9, 10], AOper.mk none (AOp.store 1 (Operand.tmp 39) (Operand.tmp 38)) none [11, 10, 0, 1, 2, 3, 4, 5, 6, 7, 8, 9, 10]]
def l95r5 : List AOper := l95r5a ++ l95r5b
def l95r6a : List AOper :=
  [AOper.mk (some 40) (AOp.fld 2 (Operand.tmp 7)) none [], AOper.mk (some 41) (AOp.load false 1 (Operand.tmp 40)) none [0], AOper.mk (some 42) (AOp.mv (Operand.tmp 1)) none [], AOper.mk (some 43) (AOp.fld 2 (Operand.tmp 8)) none [], AOper.mk (some 44) (AOp.load false 1 (Operand.tmp 43)) none [3], AOper.mk (some 45) (AOp.fld 2 (Operand.tmp 3)) none [], AOper.mk (some 46) (AOp.load false 1 (Operand.tmp 45)) none [5], AOper.mk (some 47) (AOp.mv (Operand.tmp 1)) none [], AOper.mk (some 48) (AOp.idxA 1 (Operand.tmp 46) (Operand.tmp 47)) none [6, 7], AOper.mk (some 49) (AOp.load false 1 (Operand.tmp 48)) none [8], AOper.mk (some 50) (AOp.bin BinOp.mul (Operand.tmp 44) (Operand.tmp 49)) none [4, 9]]
def l95r6b : List AOper :=
  [AOper.mk (some 51) (AOp.idxA 1 (Operand.tmp 41) (Operand.tmp 42)) none [1, 2, 0, 1, 2, 3, 4, 5, 6, 7, 8, 9, 10], AOper.mk none (AOp.store 1 (Operand.tmp 51) (Operand.tmp 50)) none [11, 10, 0, 1, 2, 3, 4, 5, 6, 7, 8, 9, 10]]
def l95r6 : List AOper := l95r6a ++ l95r6b
def l95r7 : List AOper :=
  [AOper.mk (some 52) (AOp.mv (Operand.tmp 9)) none [], AOper.mk (some 53) (AOp.len (Operand.tmp 52)) none [0], AOper.mk (some 54) (AOp.bin BinOp.leq (Operand.tmp 53) (Operand.const (Value.int IntKind.i64 1))) none [1]]
def l95r8 : List AOper :=
  [AOper.mk (some 55) (AOp.fld 2 (Operand.tmp 7)) none [], AOper.mk (some 56) (AOp.load false 1 (Operand.tmp 55)) none [0], AOper.mk (some 57) (AOp.mv (Operand.tmp 1)) none [], AOper.mk (some 58) (AOp.idxA 1 (Operand.tmp 56) (Operand.tmp 57)) none [1, 2, 0, 1, 2], AOper.mk none (AOp.store 1 (Operand.tmp 58) (Operand.const (Value.int IntKind.i64 0))) none [3, 0, 1, 2]]
def l95r9 : List AOper :=
  [AOper.mk (some 59) (AOp.load true 3 (Operand.tmp 7)) none [], AOper.mk (some 60) (AOp.call 102 [Operand.tmp 59]) none [0], AOper.mk none (AOp.store 3 (Operand.tmp 6) (Operand.tmp 60)) none [1, 1, 0, 1]]
def l95 : AFn :=
  (AFn.mk 61 3 (ACode.seq (ACode.reg l95r0) (ACode.seq (ACode.reg l95r1) (ACode.seq (ACode.draw l95r2) (ACode.seq (ACode.reg l95r3) (ACode.seq (ACode.reg l95r4) (ACode.seq (ACode.draw l95r5) (ACode.seq (ACode.draw l95r6) (ACode.seq (ACode.seq (ACode.reg l95r7) (ACode.cond (Operand.tmp 54) (ACode.reg l95r8) ACode.skip)) (ACode.seq (ACode.reg l95r9) ACode.ret))))))))) [ARes.cell 6 true 3])
theorem l95_eq : lowFn Try.prog 95 = some l95 := by kernel_rfl
def l96r0 : List AOper :=
  [AOper.mk (some 4) (AOp.mv (Operand.const (Value.bool false))) none []]
def l96r1 : List AOper :=
  [AOper.mk (some 5) (AOp.mv (Operand.tmp 0)) none [], AOper.mk (some 6) (AOp.len (Operand.tmp 5)) none [0], AOper.mk (some 7) (AOp.mv (Operand.tmp 1)) none [], AOper.mk (some 8) (AOp.bin BinOp.eql (Operand.tmp 6) (Operand.tmp 7)) none [1, 2], AOper.mk (some 9) (AOp.mv (Operand.tmp 8)) none [3], AOper.mk (some 10) (AOp.mv (Operand.tmp 0)) (some (9, true)) [4], AOper.mk (some 11) (AOp.mv (Operand.tmp 1)) (some (9, true)) [4], AOper.mk (some 12) (AOp.bin BinOp.sub (Operand.tmp 11) (Operand.const (Value.int IntKind.i64 1))) (some (9, true)) [6, 4], AOper.mk (some 13) (AOp.call 74 [Operand.tmp 10, Operand.const (Value.int IntKind.i64 0), Operand.tmp 12]) (some (9, true)) [5, 7, 4, 4], AOper.mk (some 14) (AOp.pick (Operand.tmp 9) (Operand.tmp 13) (Operand.const (Value.bool false))) none [4, 8], AOper.mk (some 15) (AOp.mv (Operand.tmp 14)) none [9, 8], AOper.mk (some 16) (AOp.mv (Operand.tmp 0)) (some (15, true)) [10], AOper.mk (some 17) (AOp.call 103 [Operand.tmp 16]) (some (15, true)) [11, 10, 10], AOper.mk (some 18) (AOp.pick (Operand.tmp 15) (Operand.tmp 17) (Operand.const (Value.bool false))) none [10, 12], AOper.mk (some 4) (AOp.mv (Operand.tmp 18)) none [13, 12, 0, 1, 2, 3, 4, 5, 6, 7, 8, 9, 10, 11, 12, 13]]
def l96 : AFn :=
  (AFn.mk 19 2 (ACode.seq (ACode.reg l96r0) (ACode.seq (ACode.reg l96r1) ACode.ret)) [ARes.tmp 4])
theorem l96_eq : lowFn Try.prog 96 = some l96 := by kernel_rfl
def l97r0 : List AOper :=
  [AOper.mk (some 2) (AOp.box (Operand.tmp 0)) none [], AOper.mk (some 4) (AOp.alloc [Value.int IntKind.i64 0, Value.slice none 0 0, Value.slice none 0 0]) none []]
def l97r1 : List AOper :=
  [AOper.mk (some 7) (AOp.fld 0 (Operand.tmp 2)) none [], AOper.mk (some 8) (AOp.load false 1 (Operand.tmp 7)) none [0], AOper.mk (some 9) (AOp.build [Value.int IntKind.i64 0, Value.slice none 0 0, Value.slice none 0 0] [(0, 1, Operand.tmp 8)]) none [1], AOper.mk (some 5) (AOp.alloc [Value.int IntKind.i64 0, Value.slice none 0 0, Value.slice none 0 0]) none [], AOper.mk none (AOp.store 3 (Operand.tmp 5) (Operand.tmp 9)) none [3, 2, 0, 1, 2, 3]]
def l97r2 : List AOper :=
  [AOper.mk (some 6) (AOp.mv (Operand.const (Value.int IntKind.i64 0))) none []]
def l97r3 : List AOper :=
  [AOper.mk (some 10) (AOp.mv (Operand.tmp 6)) none [], AOper.mk (some 11) (AOp.mv (Operand.tmp 1)) none [], AOper.mk (some 12) (AOp.len (Operand.tmp 11)) none [1], AOper.mk (some 13) (AOp.bin BinOp.lss (Operand.tmp 10) (Operand.tmp 12)) none [0, 2]]
def l97r4a : List AOper :=
  [AOper.mk (some 16) (AOp.fld 1 (Operand.tmp 5)) none [], AOper.mk (some 17) (AOp.load false 1 (Operand.tmp 16)) none [0], AOper.mk (some 18) (AOp.fld 1 (Operand.tmp 2)) none [], AOper.mk (some 19) (AOp.load false 1 (Operand.tmp 18)) none [2], AOper.mk (some 20) (AOp.mv (Operand.tmp 1)) none [], AOper.mk (some 21) (AOp.mv (Operand.tmp 6)) none [], AOper.mk (some 22) (AOp.idxA 1 (Operand.tmp 20) (Operand.tmp 21)) none [4, 5], AOper.mk (some 23) (AOp.load false 1 (Operand.tmp 22)) none [6], AOper.mk (some 24) (AOp.idxA 1 (Operand.tmp 19) (Operand.tmp 23)) none [3, 7], AOper.mk (some 25) (AOp.load false 1 (Operand.tmp 24)) none [8], AOper.mk (some 26) (AOp.bslice 1 [Value.int IntKind.i64 0] [(0, Operand.tmp 25)] 1) none [9]]
def l97r4b : List AOper :=
  [AOper.mk (some 27) (AOp.append 1 (Operand.tmp 17) (Operand.tmp 26)) none [1, 10], AOper.mk (some 28) (AOp.fld 1 (Operand.tmp 5)) none [0, 1, 2, 3, 4, 5, 6, 7, 8, 9, 10, 11], AOper.mk none (AOp.store 1 (Operand.tmp 28) (Operand.tmp 27)) none [12, 11, 11, 0, 1, 2, 3, 4, 5, 6, 7, 8, 9, 10, 11]]
def l97r4 : List AOper := l97r4a ++ l97r4b
def l97r5a : List AOper :=
  [AOper.mk (some 29) (AOp.fld 2 (Operand.tmp 5)) none [], AOper.mk (some 30) (AOp.load false 1 (Operand.tmp 29)) none [0], AOper.mk (some 31) (AOp.fld 2 (Operand.tmp 2)) none [], AOper.mk (some 32) (AOp.load false 1 (Operand.tmp 31)) none [2], AOper.mk (some 33) (AOp.mv (Operand.tmp 1)) none [], AOper.mk (some 34) (AOp.mv (Operand.tmp 6)) none [], AOper.mk (some 35) (AOp.idxA 1 (Operand.tmp 33) (Operand.tmp 34)) none [4, 5], AOper.mk (some 36) (AOp.load false 1 (Operand.tmp 35)) none [6], AOper.mk (some 37) (AOp.idxA 1 (Operand.tmp 32) (Operand.tmp 36)) none [3, 7], AOper.mk (some 38) (AOp.load false 1 (Operand.tmp 37)) none [8], AOper.mk (some 39) (AOp.bslice 1 [Value.int IntKind.i64 0] [(0, Operand.tmp 38)] 1) none [9]]
def l97r5b : List AOper :=
  [AOper.mk (some 40) (AOp.append 1 (Operand.tmp 30) (Operand.tmp 39)) none [1, 10], AOper.mk (some 41) (AOp.fld 2 (Operand.tmp 5)) none [0, 1, 2, 3, 4, 5, 6, 7, 8, 9, 10, 11], AOper.mk none (AOp.store 1 (Operand.tmp 41) (Operand.tmp 40)) none [12, 11, 11, 0, 1, 2, 3, 4, 5, 6, 7, 8, 9, 10, 11]]
def l97r5 : List AOper := l97r5a ++ l97r5b
def l97r6 : List AOper :=
  [AOper.mk (some 14) (AOp.mv (Operand.tmp 6)) none [], AOper.mk (some 15) (AOp.bin BinOp.add (Operand.tmp 14) (Operand.const (Value.int IntKind.i64 1))) none [0], AOper.mk (some 6) (AOp.mv (Operand.tmp 15)) none [1, 0, 1]]
def l97r7 : List AOper :=
  [AOper.mk (some 42) (AOp.load true 3 (Operand.tmp 5)) none [], AOper.mk none (AOp.store 3 (Operand.tmp 4) (Operand.tmp 42)) none [0, 0]]
def l97 : AFn :=
  (AFn.mk 43 2 (ACode.seq (ACode.reg l97r0) (ACode.seq (ACode.reg l97r1) (ACode.seq (ACode.seq (ACode.reg l97r2) (ACode.block 0 (ACode.loop (ACode.seq (ACode.seq (ACode.reg l97r3) (ACode.cond (Operand.tmp 13) ACode.skip (ACode.exit 0))) (ACode.seq (ACode.block 1 (ACode.seq (ACode.draw l97r4) (ACode.draw l97r5))) (ACode.reg l97r6)))))) (ACode.seq (ACode.reg l97r7) ACode.ret)))) [ARes.cell 4 true 3])
theorem l97_eq : lowFn Try.prog 97 = some l97 := by kernel_rfl
def l98r0 : List AOper :=
  [AOper.mk (some 6) (AOp.mv (Operand.const (Value.slice none 0 0))) none []]
def l98r1a : List AOper :=
  [AOper.mk (some 7) (AOp.bslice 1 [Value.int IntKind.i64 0] [] 0) none [], AOper.mk (some 8) (AOp.mv (Operand.tmp 0)) none [], AOper.mk (some 9) (AOp.mv (Operand.tmp 1)) none [], AOper.mk (some 10) (AOp.slice 1 (Operand.tmp 8) none (some (Operand.tmp 9))) none [1, 2], AOper.mk (some 11) (AOp.append 1 (Operand.tmp 7) (Operand.tmp 10)) none [0, 3], AOper.mk (some 12) (AOp.mv (Operand.tmp 2)) none [], AOper.mk (some 13) (AOp.bslice 1 [Value.int IntKind.i64 0] [(0, Operand.tmp 12)] 1) none [5], AOper.mk (some 14) (AOp.append 1 (Operand.tmp 11) (Operand.tmp 13)) none [4, 6, 4], AOper.mk (some 15) (AOp.mv (Operand.tmp 0)) none [], AOper.mk (some 16) (AOp.mv (Operand.tmp 1)) none [], AOper.mk (some 17) (AOp.slice 1 (Operand.tmp 15) (some (Operand.tmp 16)) none) none [8, 9]]
def l98r1b : List AOper :=
  [AOper.mk (some 18) (AOp.append 1 (Operand.tmp 14) (Operand.tmp 17)) none [7, 10, 7], AOper.mk (some 6) (AOp.mv (Operand.tmp 18)) none [11, 11, 0, 1, 2, 3, 4, 5, 6, 7, 8, 9, 10, 11]]
def l98r1 : List AOper := l98r1a ++ l98r1b
def l98 : AFn :=
  (AFn.mk 19 3 (ACode.seq (ACode.reg l98r0) (ACode.seq (ACode.draw l98r1) ACode.ret)) [ARes.tmp 6])
theorem l98_eq : lowFn Try.prog 98 = some l98 := by kernel_rfl
def l99r0 : List AOper :=
  [AOper.mk (some 2) (AOp.alloc [Value.int IntKind.i64 0, Value.int IntKind.i64 0, Value.int IntKind.i64 0]) none []]
def l99r1 : List AOper :=
  [AOper.mk (some 5) (AOp.mv (Operand.tmp 0)) none [], AOper.mk (some 6) (AOp.len (Operand.tmp 5)) none [0]]
def l99r2 : List AOper :=
  [AOper.mk (some 8) (AOp.bin BinOp.eql (Operand.tmp 6) (Operand.const (Value.int IntKind.i64 0))) none [], AOper.mk (some 7) (AOp.mv (Operand.tmp 8)) none [0]]
def l99r3 : List AOper :=
  [AOper.mk (some 9) (AOp.build [Value.int IntKind.i64 0, Value.int IntKind.i64 0, Value.int IntKind.i64 0] [(0, 1, Operand.const (Value.int IntKind.i64 0)), (1, 1, Operand.const (Value.int IntKind.i64 0)), (2, 1, Operand.const (Value.int IntKind.i64 1))]) none [], AOper.mk none (AOp.store 3 (Operand.tmp 2) (Operand.tmp 9)) none [0, 0]]
def l99r4 : List AOper :=
  [AOper.mk (some 11) (AOp.bin BinOp.eql (Operand.tmp 6) (Operand.const (Value.int IntKind.i64 1))) none [], AOper.mk (some 10) (AOp.mv (Operand.tmp 11)) none [0]]
def l99r5a : List AOper :=
  [AOper.mk (some 12) (AOp.mv (Operand.tmp 0)) none [], AOper.mk (some 13) (AOp.idxA 1 (Operand.tmp 12) (Operand.const (Value.int IntKind.i64 0))) none [0], AOper.mk (some 14) (AOp.load false 1 (Operand.tmp 13)) none [1], AOper.mk (some 15) (AOp.mv (Operand.tmp 0)) none [], AOper.mk (some 16) (AOp.idxA 1 (Operand.tmp 15) (Operand.const (Value.int IntKind.i64 0))) none [3], AOper.mk (some 17) (AOp.load false 1 (Operand.tmp 16)) none [4], AOper.mk (some 18) (AOp.bin BinOp.add (Operand.tmp 17) (Operand.const (Value.int IntKind.i64 1))) none [5]]
def l99r5b : List AOper :=
  [AOper.mk (some 19) (AOp.build [Value.int IntKind.i64 0, Value.int IntKind.i64 0, Value.int IntKind.i64 0] [(0, 1, Operand.tmp 14), (1, 1, Operand.tmp 18), (2, 1, Operand.const (Value.int IntKind.i64 1))]) none [2, 6], AOper.mk none (AOp.store 3 (Operand.tmp 2) (Operand.tmp 19)) none [7, 0, 1, 2, 3, 4, 5, 6, 7]]
def l99r5 : List AOper := l99r5a ++ l99r5b
def l99r6a : List AOper :=
  [AOper.mk (some 20) (AOp.mv (Operand.tmp 0)) none [], AOper.mk (some 21) (AOp.idxA 1 (Operand.tmp 20) (Operand.const (Value.int IntKind.i64 1))) none [0], AOper.mk (some 22) (AOp.load false 1 (Operand.tmp 21)) none [1], AOper.mk (some 23) (AOp.mv (Operand.tmp 0)) none [], AOper.mk (some 24) (AOp.idxA 1 (Operand.tmp 23) (Operand.const (Value.int IntKind.i64 0))) none [3], AOper.mk (some 25) (AOp.load false 1 (Operand.tmp 24)) none [4]]
def l99r6b : List AOper :=
  [AOper.mk (some 26) (AOp.bin BinOp.sub (Operand.tmp 22) (Operand.tmp 25)) none [2, 5], AOper.mk (some 3) (AOp.mv (Operand.tmp 26)) none [6, 0, 1, 2, 3, 4, 5, 6]]
def l99r6 : List AOper := l99r6a ++ l99r6b
def l99r7 : List AOper :=
  [AOper.mk (some 27) (AOp.mv (Operand.tmp 0)) none [], AOper.mk (some 28) (AOp.mv (Operand.tmp 0)) none [], AOper.mk (some 29) (AOp.len (Operand.tmp 28)) none [1], AOper.mk (some 30) (AOp.bin BinOp.sub (Operand.tmp 29) (Operand.const (Value.int IntKind.i64 1))) none [2], AOper.mk (some 31) (AOp.idxA 1 (Operand.tmp 27) (Operand.tmp 30)) none [0, 3], AOper.mk (some 32) (AOp.load false 1 (Operand.tmp 31)) none [4], AOper.mk (some 33) (AOp.bin BinOp.add (Operand.tmp 32) (Operand.const (Value.int IntKind.i64 1))) none [5], AOper.mk (some 4) (AOp.mv (Operand.tmp 33)) none [6, 0, 1, 2, 3, 4, 5, 6]]
def l99r8 : List AOper :=
  [AOper.mk (some 34) (AOp.mv (Operand.tmp 3)) none [], AOper.mk (some 35) (AOp.bin BinOp.lss (Operand.tmp 34) (Operand.const (Value.int IntKind.i64 0))) none [0]]
def l99r9 : List AOper :=
  [AOper.mk (some 36) (AOp.mv (Operand.tmp 0)) none [], AOper.mk (some 37) (AOp.mv (Operand.tmp 0)) none [], AOper.mk (some 38) (AOp.len (Operand.tmp 37)) none [1], AOper.mk (some 39) (AOp.bin BinOp.sub (Operand.tmp 38) (Operand.const (Value.int IntKind.i64 1))) none [2], AOper.mk (some 40) (AOp.idxA 1 (Operand.tmp 36) (Operand.tmp 39)) none [0, 3], AOper.mk (some 41) (AOp.load false 1 (Operand.tmp 40)) none [4], AOper.mk (some 42) (AOp.bin BinOp.sub (Operand.tmp 41) (Operand.const (Value.int IntKind.i64 1))) none [5], AOper.mk (some 4) (AOp.mv (Operand.tmp 42)) none [6, 0, 1, 2, 3, 4, 5, 6]]
def l99r10 : List AOper :=
  [AOper.mk (some 43) (AOp.mv (Operand.tmp 0)) none [], AOper.mk (some 44) (AOp.idxA 1 (Operand.tmp 43) (Operand.const (Value.int IntKind.i64 0))) none [0], AOper.mk (some 45) (AOp.load false 1 (Operand.tmp 44)) none [1], AOper.mk (some 46) (AOp.mv (Operand.tmp 4)) none [], AOper.mk (some 47) (AOp.mv (Operand.tmp 3)) none [], AOper.mk (some 48) (AOp.build [Value.int IntKind.i64 0, Value.int IntKind.i64 0, Value.int IntKind.i64 0] [(0, 1, Operand.tmp 45), (1, 1, Operand.tmp 46), (2, 1, Operand.tmp 47)]) none [2, 3, 4], AOper.mk none (AOp.store 3 (Operand.tmp 2) (Operand.tmp 48)) none [5, 0, 1, 2, 3, 4, 5]]
def l99 : AFn :=
  (AFn.mk 49 1 (ACode.seq (ACode.reg l99r0) (ACode.seq (ACode.seq (ACode.reg l99r1) (ACode.block 0 (ACode.seq (ACode.reg l99r2) (ACode.cond (Operand.tmp 7) (ACode.seq (ACode.reg l99r3) ACode.ret) (ACode.seq (ACode.reg l99r4) (ACode.cond (Operand.tmp 10) (ACode.seq (ACode.draw l99r5) ACode.ret) ACode.skip)))))) (ACode.seq (ACode.draw l99r6) (ACode.seq (ACode.reg l99r7) (ACode.seq (ACode.seq (ACode.reg l99r8) (ACode.cond (Operand.tmp 35) (ACode.reg l99r9) ACode.skip)) (ACode.seq (ACode.reg l99r10) ACode.ret)))))) [ARes.cell 2 true 3])
theorem l99_eq : lowFn Try.prog 99 = some l99 := by kernel_rfl
def l100r0 : List AOper :=
  [AOper.mk (some 3) (AOp.box (Operand.tmp 1)) none [], AOper.mk (some 4) (AOp.mv (Operand.const (Value.slice none 0 0))) none []]
def l100r1 : List AOper :=
  [AOper.mk (some 5) (AOp.mv (Operand.const (Value.int IntKind.i64 0))) none []]
def l100r2 : List AOper :=
  [AOper.mk (some 7) (AOp.mv (Operand.tmp 0)) none [], AOper.mk (some 6) (AOp.mv (Operand.tmp 7)) none [0, 0]]
def l100r3 : List AOper :=
  [AOper.mk (some 8) (AOp.fld 2 (Operand.tmp 3)) none [], AOper.mk (some 9) (AOp.load false 1 (Operand.tmp 8)) none [0], AOper.mk (some 10) (AOp.bin BinOp.lss (Operand.tmp 9) (Operand.const (Value.int IntKind.i64 0))) none [1]]
def l100r4 : List AOper :=
  [AOper.mk (some 11) (AOp.mv (Operand.tmp 0)) none [], AOper.mk (some 12) (AOp.bin BinOp.sub (Operand.tmp 11) (Operand.const (Value.int IntKind.i64 1))) none [0], AOper.mk (some 5) (AOp.mv (Operand.tmp 12)) none [1, 0, 1]]
def l100r5 : List AOper :=
  [AOper.mk (some 6) (AOp.mv (Operand.const (Value.int IntKind.i64 (-1)))) none []]
def l100r6 : List AOper :=
  [AOper.mk (some 13) (AOp.fld 3 (Operand.tmp 3)) none [], AOper.mk (some 14) (AOp.load false 1 (Operand.tmp 13)) none [0]]
def l100r7 : List AOper :=
  [AOper.mk (some 15) (AOp.mv (Operand.tmp 0)) none [], AOper.mk (some 16) (AOp.fld 0 (Operand.tmp 3)) none [], AOper.mk (some 17) (AOp.load false 1 (Operand.tmp 16)) none [1], AOper.mk (some 18) (AOp.fld 2 (Operand.tmp 3)) none [], AOper.mk (some 19) (AOp.load false 1 (Operand.tmp 18)) none [3], AOper.mk (some 20) (AOp.call 104 [Operand.tmp 15, Operand.tmp 17, Operand.tmp 19]) none [0, 2, 4], AOper.mk (some 5) (AOp.mv (Operand.tmp 20)) none [5, 5, 0, 1, 2, 3, 4, 5]]
def l100r8 : List AOper :=
  [AOper.mk (some 21) (AOp.fld 4 (Operand.tmp 3)) none [], AOper.mk (some 22) (AOp.load false 1 (Operand.tmp 21)) none [0]]
def l100r9 : List AOper :=
  [AOper.mk (some 23) (AOp.mv (Operand.tmp 0)) none [], AOper.mk (some 24) (AOp.fld 1 (Operand.tmp 3)) none [], AOper.mk (some 25) (AOp.load false 1 (Operand.tmp 24)) none [1], AOper.mk (some 26) (AOp.fld 2 (Operand.tmp 3)) none [], AOper.mk (some 27) (AOp.load false 1 (Operand.tmp 26)) none [3], AOper.mk (some 28) (AOp.call 104 [Operand.tmp 23, Operand.tmp 25, Operand.tmp 27]) none [0, 2, 4], AOper.mk (some 6) (AOp.mv (Operand.tmp 28)) none [5, 5, 0, 1, 2, 3, 4, 5]]
def l100r10 : List AOper :=
  [AOper.mk (some 29) (AOp.mv (Operand.tmp 5)) none [], AOper.mk (some 30) (AOp.mv (Operand.tmp 6)) none [], AOper.mk (some 31) (AOp.fld 2 (Operand.tmp 3)) none [], AOper.mk (some 32) (AOp.load false 1 (Operand.tmp 31)) none [2], AOper.mk (some 33) (AOp.build [Value.int IntKind.i64 0, Value.int IntKind.i64 0, Value.int IntKind.i64 0] [(0, 1, Operand.tmp 29), (1, 1, Operand.tmp 30), (2, 1, Operand.tmp 32)]) none [0, 1, 3], AOper.mk (some 34) (AOp.call 101 [Operand.tmp 33]) none [4], AOper.mk (some 4) (AOp.mv (Operand.tmp 34)) none [5, 5, 0, 1, 2, 3, 4, 5]]
def l100 : AFn :=
  (AFn.mk 35 2 (ACode.seq (ACode.reg l100r0) (ACode.seq (ACode.reg l100r1) (ACode.seq (ACode.reg l100r2) (ACode.seq (ACode.seq (ACode.reg l100r3) (ACode.cond (Operand.tmp 10) (ACode.seq (ACode.reg l100r4) (ACode.reg l100r5)) ACode.skip)) (ACode.seq (ACode.seq (ACode.reg l100r6) (ACode.cond (Operand.tmp 14) (ACode.reg l100r7) ACode.skip)) (ACode.seq (ACode.seq (ACode.reg l100r8) (ACode.cond (Operand.tmp 22) (ACode.reg l100r9) ACode.skip)) (ACode.seq (ACode.reg l100r10) ACode.ret))))))) [ARes.tmp 4])
theorem l100_eq : lowFn Try.prog 100 = some l100 := by kernel_rfl
def l101r0 : List AOper :=
  [AOper.mk (some 1) (AOp.box (Operand.tmp 0)) none [], AOper.mk (some 2) (AOp.mv (Operand.const (Value.slice none 0 0))) none []]
def l101r1 : List AOper :=
  [AOper.mk (some 5) (AOp.bslice 1 [Value.int IntKind.i64 0] [] 0) none [], AOper.mk (some 3) (AOp.mv (Operand.tmp 5)) none [0, 0]]
def l101r2 : List AOper :=
  [AOper.mk (some 6) (AOp.fld 0 (Operand.tmp 1)) none [], AOper.mk (some 7) (AOp.load false 1 (Operand.tmp 6)) none [0], AOper.mk (some 4) (AOp.mv (Operand.tmp 7)) none [1, 0, 1]]
def l101r3 : List AOper :=
  [AOper.mk (some 8) (AOp.fld 2 (Operand.tmp 1)) none [], AOper.mk (some 9) (AOp.load false 1 (Operand.tmp 8)) none [0], AOper.mk (some 10) (AOp.bin BinOp.gtr (Operand.tmp 9) (Operand.const (Value.int IntKind.i64 0))) none [1], AOper.mk (some 11) (AOp.mv (Operand.tmp 10)) none [2], AOper.mk (some 12) (AOp.mv (Operand.tmp 4)) (some (11, true)) [3], AOper.mk (some 13) (AOp.fld 1 (Operand.tmp 1)) (some (11, true)) [3], AOper.mk (some 14) (AOp.load false 1 (Operand.tmp 13)) (some (11, true)) [5, 3], AOper.mk (some 15) (AOp.bin BinOp.lss (Operand.tmp 12) (Operand.tmp 14)) (some (11, true)) [4, 6, 3], AOper.mk (some 16) (AOp.pick (Operand.tmp 11) (Operand.tmp 15) (Operand.const (Value.bool false))) none [3, 7], AOper.mk (some 17) (AOp.mv (Operand.tmp 16)) none [8, 3], AOper.mk (some 18) (AOp.fld 2 (Operand.tmp 1)) (some (17, false)) [9], AOper.mk (some 19) (AOp.load false 1 (Operand.tmp 18)) (some (17, false)) [10, 9], AOper.mk (some 20) (AOp.bin BinOp.lss (Operand.tmp 19) (Operand.const (Value.int IntKind.i64 0))) (some (17, false)) [11, 9], AOper.mk (some 21) (AOp.mv (Operand.tmp 20)) (some (17, false)) [12, 9, 9], AOper.mk (some 22) (AOp.mv (Operand.tmp 4)) (some (21, true)) [13], AOper.mk (some 23) (AOp.fld 1 (Operand.tmp 1)) (some (21, true)) [13], AOper.mk (some 24) (AOp.load false 1 (Operand.tmp 23)) (some (21, true)) [15, 13], AOper.mk (some 25) (AOp.bin BinOp.gtr (Operand.tmp 22) (Operand.tmp 24)) (some (21, true)) [14, 16, 13], AOper.mk (some 26) (AOp.pick (Operand.tmp 21) (Operand.tmp 25) (Operand.const (Value.bool false))) (some (17, false)) [13, 17, 9], AOper.mk (some 27) (AOp.pick (Operand.tmp 17) (Operand.const (Value.bool true)) (Operand.tmp 26)) none [9, 18]]
def l101r4 : List AOper :=
  [AOper.mk (some 32) (AOp.mv (Operand.tmp 3)) none [], AOper.mk (some 33) (AOp.mv (Operand.tmp 4)) none [], AOper.mk (some 34) (AOp.bslice 1 [Value.int IntKind.i64 0] [(0, Operand.tmp 33)] 1) none [1], AOper.mk (some 35) (AOp.append 1 (Operand.tmp 32) (Operand.tmp 34)) none [0, 2], AOper.mk (some 3) (AOp.mv (Operand.tmp 35)) none [3, 3, 0, 1, 2, 3]]
def l101r5 : List AOper :=
  [AOper.mk (some 28) (AOp.mv (Operand.tmp 4)) none [], AOper.mk (some 29) (AOp.fld 2 (Operand.tmp 1)) none [], AOper.mk (some 30) (AOp.load false 1 (Operand.tmp 29)) none [1], AOper.mk (some 31) (AOp.bin BinOp.add (Operand.tmp 28) (Operand.tmp 30)) none [0, 2], AOper.mk (some 4) (AOp.mv (Operand.tmp 31)) none [3, 0, 1, 2, 3]]
def l101r6 : List AOper :=
  [AOper.mk (some 36) (AOp.mv (Operand.tmp 3)) none [], AOper.mk (some 2) (AOp.mv (Operand.tmp 36)) none [0, 0]]
def l101 : AFn :=
  (AFn.mk 37 1 (ACode.seq (ACode.reg l101r0) (ACode.seq (ACode.reg l101r1) (ACode.seq (ACode.seq (ACode.reg l101r2) (ACode.block 0 (ACode.loop (ACode.seq (ACode.seq (ACode.reg l101r3) (ACode.cond (Operand.tmp 27) ACode.skip (ACode.exit 0))) (ACode.seq (ACode.block 1 (ACode.reg l101r4)) (ACode.reg l101r5)))))) (ACode.seq (ACode.reg l101r6) ACode.ret)))) [ARes.tmp 2])
theorem l101_eq : lowFn Try.prog 101 = some l101 := by kernel_rfl
def l102r0 : List AOper :=
  [AOper.mk (some 1) (AOp.box (Operand.tmp 0)) none [], AOper.mk (some 2) (AOp.alloc [Value.int IntKind.i64 0, Value.slice none 0 0, Value.slice none 0 0]) none []]
def l102r1 : List AOper :=
  [AOper.mk (some 3) (AOp.fld 1 (Operand.tmp 1)) none [], AOper.mk (some 4) (AOp.load false 1 (Operand.tmp 3)) none [0], AOper.mk (some 5) (AOp.call 68 [Operand.tmp 4]) none [1], AOper.mk (some 6) (AOp.bin BinOp.eql (Operand.tmp 5) (Operand.const (Value.int IntKind.i64 0))) none [2]]
def l102r2a : List AOper :=
  [AOper.mk (some 7) (AOp.fld 1 (Operand.tmp 1)) none [], AOper.mk (some 8) (AOp.load false 1 (Operand.tmp 7)) none [0], AOper.mk (some 9) (AOp.fld 1 (Operand.tmp 1)) none [], AOper.mk (some 10) (AOp.load false 1 (Operand.tmp 9)) none [2], AOper.mk (some 11) (AOp.len (Operand.tmp 10)) none [3], AOper.mk (some 12) (AOp.mkslice 1 [Value.int IntKind.i64 0] (Operand.tmp 11) (Operand.tmp 11)) none [4, 4]]
def l102r2b : List AOper :=
  [AOper.mk (some 13) (AOp.build [Value.int IntKind.i64 0, Value.slice none 0 0, Value.slice none 0 0] [(1, 1, Operand.tmp 8), (2, 1, Operand.tmp 12)]) none [1, 5], AOper.mk none (AOp.store 3 (Operand.tmp 2) (Operand.tmp 13)) none [6, 0, 1, 2, 3, 4, 5, 6]]
def l102r2 : List AOper := l102r2a ++ l102r2b
def l102r3 : List AOper :=
  [AOper.mk (some 14) (AOp.load true 3 (Operand.tmp 1)) none [], AOper.mk none (AOp.store 3 (Operand.tmp 2) (Operand.tmp 14)) none [0, 0]]
def l102 : AFn :=
  (AFn.mk 15 1 (ACode.seq (ACode.reg l102r0) (ACode.seq (ACode.seq (ACode.reg l102r1) (ACode.cond (Operand.tmp 6) (ACode.seq (ACode.draw l102r2) ACode.ret) ACode.skip)) (ACode.seq (ACode.reg l102r3) ACode.ret))) [ARes.cell 2 true 3])
theorem l102_eq : lowFn Try.prog 102 = some l102 := by kernel_rfl
def l103r0 : List AOper :=
  [AOper.mk (some 2) (AOp.mv (Operand.const (Value.bool false))) none []]
def l103r1 : List AOper :=
  [AOper.mk (some 3) (AOp.mv (Operand.const (Value.int IntKind.i64 0))) none []]
def l103r2 : List AOper :=
  [AOper.mk (some 4) (AOp.mv (Operand.tmp 3)) none [], AOper.mk (some 5) (AOp.mv (Operand.tmp 0)) none [], AOper.mk (some 6) (AOp.len (Operand.tmp 5)) none [1], AOper.mk (some 7) (AOp.bin BinOp.lss (Operand.tmp 4) (Operand.tmp 6)) none [0, 2]]
def l103r3a : List AOper :=
  [AOper.mk (some 10) (AOp.mv (Operand.tmp 0)) none [], AOper.mk (some 11) (AOp.mv (Operand.tmp 3)) none [], AOper.mk (some 12) (AOp.slice 1 (Operand.tmp 10) none (some (Operand.tmp 11))) none [0, 1], AOper.mk (some 13) (AOp.mv (Operand.tmp 0)) none [], AOper.mk (some 14) (AOp.mv (Operand.tmp 3)) none [], AOper.mk (some 15) (AOp.idxA 1 (Operand.tmp 13) (Operand.tmp 14)) none [3, 4], AOper.mk (some 16) (AOp.load false 1 (Operand.tmp 15)) none [5]]
def l103r3b : List AOper :=
  [AOper.mk (some 17) (AOp.call 105 [Operand.tmp 12, Operand.tmp 16]) none [2, 6], AOper.mk (some 18) (AOp.bin BinOp.geq (Operand.tmp 17) (Operand.const (Value.int IntKind.i64 0))) none [7]]
def l103r3 : List AOper := l103r3a ++ l103r3b
def l103r4 : List AOper :=
  [AOper.mk (some 2) (AOp.mv (Operand.const (Value.bool false))) none []]
def l103r5 : List AOper :=
  [AOper.mk (some 8) (AOp.mv (Operand.tmp 3)) none [], AOper.mk (some 9) (AOp.bin BinOp.add (Operand.tmp 8) (Operand.const (Value.int IntKind.i64 1))) none [0], AOper.mk (some 3) (AOp.mv (Operand.tmp 9)) none [1, 0, 1]]
def l103r6 : List AOper :=
  [AOper.mk (some 2) (AOp.mv (Operand.const (Value.bool true))) none []]
def l103 : AFn :=
  (AFn.mk 19 1 (ACode.seq (ACode.reg l103r0) (ACode.seq (ACode.seq (ACode.reg l103r1) (ACode.block 0 (ACode.loop (ACode.seq (ACode.seq (ACode.reg l103r2) (ACode.cond (Operand.tmp 7) ACode.skip (ACode.exit 0))) (ACode.seq (ACode.block 1 (ACode.seq (ACode.draw l103r3) (ACode.cond (Operand.tmp 18) (ACode.seq (ACode.reg l103r4) ACode.ret) ACode.skip))) (ACode.reg l103r5)))))) (ACode.seq (ACode.reg l103r6) ACode.ret))) [ARes.tmp 2])
theorem l103_eq : lowFn Try.prog 103 = some l103 := by kernel_rfl
def l104r0 : List AOper :=
  [AOper.mk (some 6) (AOp.mv (Operand.const (Value.int IntKind.i64 0))) none []]
def l104r1 : List AOper :=
  [AOper.mk (some 7) (AOp.mv (Operand.const (Value.int IntKind.i64 0))) none []]
def l104r2 : List AOper :=
  [AOper.mk (some 9) (AOp.mv (Operand.tmp 0)) none [], AOper.mk (some 8) (AOp.mv (Operand.tmp 9)) none [0, 0]]
def l104r3 : List AOper :=
  [AOper.mk (some 10) (AOp.mv (Operand.tmp 2)) none [], AOper.mk (some 11) (AOp.bin BinOp.lss (Operand.tmp 10) (Operand.const (Value.int IntKind.i64 0))) none [0]]
def l104r4 : List AOper :=
  [AOper.mk (some 7) (AOp.mv (Operand.const (Value.int IntKind.i64 (-1)))) none []]
def l104r5 : List AOper :=
  [AOper.mk (some 12) (AOp.mv (Operand.tmp 0)) none [], AOper.mk (some 13) (AOp.bin BinOp.sub (Operand.tmp 12) (Operand.const (Value.int IntKind.i64 1))) none [0], AOper.mk (some 8) (AOp.mv (Operand.tmp 13)) none [1, 0, 1]]
def l104r6 : List AOper :=
  [AOper.mk (some 14) (AOp.mv (Operand.tmp 1)) none [], AOper.mk (some 15) (AOp.bin BinOp.lss (Operand.tmp 14) (Operand.const (Value.int IntKind.i64 0))) none [0]]
def l104r7 : List AOper :=
  [AOper.mk (some 16) (AOp.mv (Operand.tmp 1)) none [], AOper.mk (some 17) (AOp.mv (Operand.tmp 0)) none [], AOper.mk (some 18) (AOp.bin BinOp.add (Operand.tmp 16) (Operand.tmp 17)) none [0, 1], AOper.mk (some 1) (AOp.mv (Operand.tmp 18)) none [2, 0, 1, 2]]
def l104r8 : List AOper :=
  [AOper.mk (some 19) (AOp.mv (Operand.tmp 8)) none [], AOper.mk (some 20) (AOp.mv (Operand.tmp 7)) none [], AOper.mk (some 21) (AOp.mv (Operand.tmp 1)) none [], AOper.mk (some 22) (AOp.minmax true (Operand.tmp 20) (Operand.tmp 21)) none [1, 2], AOper.mk (some 23) (AOp.minmax false (Operand.tmp 19) (Operand.tmp 22)) none [0, 3], AOper.mk (some 6) (AOp.mv (Operand.tmp 23)) none [4, 0, 1, 2, 3, 4]]
def l104 : AFn :=
  (AFn.mk 24 3 (ACode.seq (ACode.reg l104r0) (ACode.seq (ACode.reg l104r1) (ACode.seq (ACode.reg l104r2) (ACode.seq (ACode.seq (ACode.reg l104r3) (ACode.cond (Operand.tmp 11) (ACode.seq (ACode.reg l104r4) (ACode.reg l104r5)) ACode.skip)) (ACode.seq (ACode.seq (ACode.reg l104r6) (ACode.cond (Operand.tmp 15) (ACode.reg l104r7) ACode.skip)) (ACode.seq (ACode.reg l104r8) ACode.ret)))))) [ARes.tmp 6])
theorem l104_eq : lowFn Try.prog 104 = some l104 := by kernel_rfl
def l105r0 : List AOper :=
  [AOper.mk (some 4) (AOp.mv (Operand.const (Value.int IntKind.i64 0))) none []]
def l105r1 : List AOper :=
  [AOper.mk (some 5) (AOp.mv (Operand.const (Value.int IntKind.i64 0))) none []]
def l105r2 : List AOper :=
  [AOper.mk (some 6) (AOp.mv (Operand.tmp 5)) none [], AOper.mk (some 7) (AOp.mv (Operand.tmp 0)) none [], AOper.mk (some 8) (AOp.len (Operand.tmp 7)) none [1], AOper.mk (some 9) (AOp.bin BinOp.lss (Operand.tmp 6) (Operand.tmp 8)) none [0, 2]]
def l105r3 : List AOper :=
  [AOper.mk (some 12) (AOp.mv (Operand.tmp 0)) none [], AOper.mk (some 13) (AOp.mv (Operand.tmp 5)) none [], AOper.mk (some 14) (AOp.idxA 1 (Operand.tmp 12) (Operand.tmp 13)) none [0, 1], AOper.mk (some 15) (AOp.load false 1 (Operand.tmp 14)) none [2], AOper.mk (some 16) (AOp.mv (Operand.tmp 1)) none [], AOper.mk (some 17) (AOp.bin BinOp.eql (Operand.tmp 15) (Operand.tmp 16)) none [3, 4]]
def l105r4 : List AOper :=
  [AOper.mk (some 18) (AOp.mv (Operand.tmp 5)) none [], AOper.mk (some 4) (AOp.mv (Operand.tmp 18)) none [0, 0]]
def l105r5 : List AOper :=
  [AOper.mk (some 10) (AOp.mv (Operand.tmp 5)) none [], AOper.mk (some 11) (AOp.bin BinOp.add (Operand.tmp 10) (Operand.const (Value.int IntKind.i64 1))) none [0], AOper.mk (some 5) (AOp.mv (Operand.tmp 11)) none [1, 0, 1]]
def l105r6 : List AOper :=
  [AOper.mk (some 4) (AOp.mv (Operand.const (Value.int IntKind.i64 (-1)))) none []]
def l105 : AFn :=
  (AFn.mk 19 2 (ACode.seq (ACode.reg l105r0) (ACode.seq (ACode.seq (ACode.reg l105r1) (ACode.block 0 (ACode.loop (ACode.seq (ACode.seq (ACode.reg l105r2) (ACode.cond (Operand.tmp 9) ACode.skip (ACode.exit 0))) (ACode.seq (ACode.block 1 (ACode.seq (ACode.reg l105r3) (ACode.cond (Operand.tmp 17) (ACode.seq (ACode.reg l105r4) ACode.ret) ACode.skip))) (ACode.reg l105r5)))))) (ACode.seq (ACode.reg l105r6) ACode.ret))) [ARes.tmp 4])
theorem l105_eq : lowFn Try.prog 105 = some l105 := by kernel_rfl
end Go.Proofs.Ytcnlcmehfanbdaa
