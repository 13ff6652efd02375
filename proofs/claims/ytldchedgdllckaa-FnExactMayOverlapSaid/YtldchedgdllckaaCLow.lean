import Derived.Test.YtldchedgdllckaaCVwR
import Derived.Test.YtldchedgdllckaaProg
import Derived.KernelRfl
set_option maxRecDepth 100000
namespace Go.Proofs.Ytldchedgdllckaa
open Vw Go
def l3r0 : List AOper :=
  [AOper.mk (some 2) (AOp.box (Operand.tmp 0)) none [], AOper.mk (some 3) (AOp.box (Operand.tmp 1)) none [],
          AOper.mk (some 4) (AOp.mv (Operand.const (Value.bool false))) none []]
def l3r1 : List AOper :=
  [AOper.mk (some 5) (AOp.mv (Operand.const (Value.int IntKind.i64 1048576))) none []]
def l3r2 : List AOper :=
  [AOper.mk (some 10) (AOp.load true 3 (Operand.tmp 2)) none [],
              AOper.mk (some 11) (AOp.mv (Operand.tmp 5)) none [],
              AOper.mk (some 12) (AOp.call 5 [Operand.tmp 10, Operand.tmp 11]) none [0, 1],
              AOper.mk (some 5) (AOp.mv (Operand.tmp 12)) none [2, 2, 0, 1, 2]]
def l3r3 : List AOper :=
  [AOper.mk (some 13) (AOp.mv (Operand.tmp 5)) none [],
                  AOper.mk (some 14)
                    (AOp.bin BinOp.lss (Operand.tmp 13) (Operand.const (Value.int IntKind.i64 0))) none
                    [0]]
def l3r4 : List AOper :=
  [AOper.mk (some 4) (AOp.mv (Operand.const (Value.bool true))) none []]
def l3r5 : List AOper :=
  [AOper.mk (some 15) (AOp.load true 3 (Operand.tmp 3)) none [],
                  AOper.mk (some 16) (AOp.mv (Operand.tmp 5)) none [],
                  AOper.mk (some 17) (AOp.call 5 [Operand.tmp 15, Operand.tmp 16]) none [0, 1],
                  AOper.mk (some 5) (AOp.mv (Operand.tmp 17)) none [2, 2, 0, 1, 2]]
def l3r6 : List AOper :=
  [AOper.mk (some 18) (AOp.mv (Operand.tmp 5)) none [],
                      AOper.mk (some 19)
                        (AOp.bin BinOp.lss (Operand.tmp 18) (Operand.const (Value.int IntKind.i64 0))) none
                        [0]]
def l3r7 : List AOper :=
  [AOper.mk (some 4) (AOp.mv (Operand.const (Value.bool true))) none []]
def l3r8a : List AOper :=
  [AOper.mk (some 20) (AOp.load true 3 (Operand.tmp 2)) none [], AOper.mk (some 21) (AOp.call 7 [Operand.tmp 20]) none [0], AOper.mk (some 22) (AOp.load true 3 (Operand.tmp 3)) none []]
def l3r8b : List AOper :=
  [AOper.mk (some 23) (AOp.call 7 [Operand.tmp 22]) none [2, 1], AOper.mk (some 24) (AOp.call 6 [Operand.tmp 21, Operand.tmp 23]) none [1, 3, 3], AOper.mk (some 6) (AOp.mv (Operand.tmp 24)) none [4, 4, 0, 1, 2, 3, 4]]
def l3r8 : List AOper := l3r8a ++ l3r8b
def l3r9 : List AOper :=
  [AOper.mk (some 25) (AOp.load true 3 (Operand.tmp 2)) none [],
                        AOper.mk (some 26) (AOp.call 7 [Operand.tmp 25]) none [0],
                        AOper.mk (some 7)
                          (AOp.alloc [Value.int IntKind.i64 0, Value.slice none 0 0, Value.slice none 0 0])
                          none [],
                        AOper.mk none (AOp.store 3 (Operand.tmp 7) (Operand.tmp 26)) none [2, 1, 1, 0, 1, 2]]
def l3r10 : List AOper :=
  [AOper.mk (some 27) (AOp.load true 3 (Operand.tmp 3)) none [],
                          AOper.mk (some 28) (AOp.call 7 [Operand.tmp 27]) none [0],
                          AOper.mk (some 8)
                            (AOp.alloc
                              [Value.int IntKind.i64 0, Value.slice none 0 0, Value.slice none 0 0])
                            none [],
                          AOper.mk none (AOp.store 3 (Operand.tmp 8) (Operand.tmp 28)) none [2, 1, 1, 0, 1, 2]]
def l3r11 : List AOper :=
  [AOper.mk (some 29) (AOp.load true 3 (Operand.tmp 7)) none [],
                            AOper.mk (some 30) (AOp.load true 3 (Operand.tmp 8)) none [],
                            AOper.mk (some 31) (AOp.call 8 [Operand.tmp 29, Operand.tmp 30]) none [0, 1],
                            AOper.mk (some 9) (AOp.mv (Operand.tmp 31)) none [2, 2, 0, 1, 2]]
def l3r12 : List AOper :=
  [AOper.mk (some 32) (AOp.mv (Operand.tmp 9)) none [],
                                AOper.mk (some 33) (AOp.mv (Operand.tmp 6)) none [],
                                AOper.mk (some 34) (AOp.binB BinOp.neq (Operand.tmp 32) (Operand.tmp 33)) none [0, 1]]
def l3r13 : List AOper :=
  [AOper.mk (some 4) (AOp.mv (Operand.const (Value.bool false))) none []]
def l3r14a : List AOper :=
  [AOper.mk (some 35) (AOp.load true 3 (Operand.tmp 7)) none [], AOper.mk (some 36) (AOp.load true 3 (Operand.tmp 2)) none [], AOper.mk (some 37) (AOp.call 7 [Operand.tmp 36]) none [1]]
def l3r14b : List AOper :=
  [AOper.mk (some 38) (AOp.call 9 [Operand.tmp 35, Operand.tmp 37]) none [0, 2, 2], AOper.mk (some 39) (AOp.un UnOp.not (Operand.tmp 38)) none [3]]
def l3r14 : List AOper := l3r14a ++ l3r14b
def l3r15 : List AOper :=
  [AOper.mk (some 4) (AOp.mv (Operand.const (Value.bool false))) none []]
def l3r16a : List AOper :=
  [AOper.mk (some 40) (AOp.load true 3 (Operand.tmp 8)) none [], AOper.mk (some 41) (AOp.load true 3 (Operand.tmp 3)) none [], AOper.mk (some 42) (AOp.call 7 [Operand.tmp 41]) none [1]]
def l3r16b : List AOper :=
  [AOper.mk (some 43) (AOp.call 9 [Operand.tmp 40, Operand.tmp 42]) none [0, 2, 2], AOper.mk (some 44) (AOp.un UnOp.not (Operand.tmp 43)) none [3]]
def l3r16 : List AOper := l3r16a ++ l3r16b
def l3r17 : List AOper :=
  [AOper.mk (some 4) (AOp.mv (Operand.const (Value.bool false))) none []]
def l3r18 : List AOper :=
  [AOper.mk (some 4) (AOp.mv (Operand.const (Value.bool true))) none []]
def l3 : AFn :=
  (AFn.mk 45 2
    (ACode.seq
      (ACode.reg l3r0)
      (ACode.seq
        (ACode.reg l3r1)
        (ACode.seq
          (ACode.reg l3r2)
          (ACode.seq
            (ACode.seq
              (ACode.reg l3r3)
              (ACode.cond (Operand.tmp 14)
                (ACode.seq (ACode.reg l3r4) ACode.ret)
                ACode.skip))
            (ACode.seq
              (ACode.reg l3r5)
              (ACode.seq
                (ACode.seq
                  (ACode.reg l3r6)
                  (ACode.cond (Operand.tmp 19)
                    (ACode.seq (ACode.reg l3r7)
                      ACode.ret)
                    ACode.skip))
                (ACode.seq
                  (ACode.draw l3r8)
                  (ACode.seq
                    (ACode.reg l3r9)
                    (ACode.seq
                      (ACode.reg l3r10)
                      (ACode.seq
                        (ACode.reg l3r11)
                        (ACode.seq
                          (ACode.seq
                            (ACode.reg l3r12)
                            (ACode.cond (Operand.tmp 34)
                              (ACode.seq
                                (ACode.reg l3r13)
                                ACode.ret)
                              ACode.skip))
                          (ACode.seq
                            (ACode.seq
                              (ACode.draw l3r14)
                              (ACode.cond (Operand.tmp 39)
                                (ACode.seq
                                  (ACode.reg l3r15)
                                  ACode.ret)
                                ACode.skip))
                            (ACode.seq
                              (ACode.seq
                                (ACode.draw l3r16)
                                (ACode.cond (Operand.tmp 44)
                                  (ACode.seq
                                    (ACode.reg l3r17)
                                    ACode.ret)
                                  ACode.skip))
                              (ACode.seq
                                (ACode.reg l3r18)
                                ACode.ret))))))))))))))
    [ARes.tmp 4])
theorem l3_eq : lowFn Try.prog 3 = some l3 := by kernel_rfl
def l5r0 : List AOper :=
  [AOper.mk (some 2) (AOp.box (Operand.tmp 0)) none [],
          AOper.mk (some 4) (AOp.mv (Operand.const (Value.int IntKind.i64 0))) none []]
def l5r1 : List AOper :=
  [AOper.mk (some 5) (AOp.fld 1 (Operand.tmp 2)) none [],
            AOper.mk (some 6) (AOp.load false 1 (Operand.tmp 5)) none [0],
            AOper.mk (some 7) (AOp.mv (Operand.tmp 1)) none [],
            AOper.mk (some 8) (AOp.call 13 [Operand.tmp 6, Operand.tmp 7]) none [1, 2],
            AOper.mk (some 1) (AOp.mv (Operand.tmp 8)) none [3, 3, 0, 1, 2, 3]]
def l5r2 : List AOper :=
  [AOper.mk (some 9) (AOp.mv (Operand.tmp 1)) none [],
                AOper.mk (some 10)
                  (AOp.bin BinOp.lss (Operand.tmp 9) (Operand.const (Value.int IntKind.i64 0))) none [0]]
def l5r3 : List AOper :=
  [AOper.mk (some 4) (AOp.mv (Operand.const (Value.int IntKind.i64 (-1)))) none []]
def l5r4 : List AOper :=
  [AOper.mk (some 11) (AOp.fld 2 (Operand.tmp 2)) none [],
                AOper.mk (some 12) (AOp.load false 1 (Operand.tmp 11)) none [0],
                AOper.mk (some 13) (AOp.mv (Operand.tmp 1)) none [],
                AOper.mk (some 14) (AOp.call 13 [Operand.tmp 12, Operand.tmp 13]) none [1, 2],
                AOper.mk (some 1) (AOp.mv (Operand.tmp 14)) none [3, 3, 0, 1, 2, 3]]
def l5r5 : List AOper :=
  [AOper.mk (some 15) (AOp.mv (Operand.tmp 1)) none [],
                    AOper.mk (some 16)
                      (AOp.bin BinOp.lss (Operand.tmp 15) (Operand.const (Value.int IntKind.i64 0))) none
                      [0]]
def l5r6 : List AOper :=
  [AOper.mk (some 4) (AOp.mv (Operand.const (Value.int IntKind.i64 (-1)))) none []]
def l5r7 : List AOper :=
  [AOper.mk (some 17) (AOp.mv (Operand.tmp 1)) none [],
                    AOper.mk (some 4) (AOp.mv (Operand.tmp 17)) none [0, 0]]
def l5 : AFn :=
  (AFn.mk 18 2
    (ACode.seq
      (ACode.reg l5r0)
      (ACode.seq
        (ACode.reg l5r1)
        (ACode.seq
          (ACode.seq
            (ACode.reg l5r2)
            (ACode.cond (Operand.tmp 10)
              (ACode.seq
                (ACode.reg l5r3)
                ACode.ret)
              ACode.skip))
          (ACode.seq
            (ACode.reg l5r4)
            (ACode.seq
              (ACode.seq
                (ACode.reg l5r5)
                (ACode.cond (Operand.tmp 16)
                  (ACode.seq
                    (ACode.reg l5r6)
                    ACode.ret)
                  ACode.skip))
              (ACode.seq
                (ACode.reg l5r7)
                ACode.ret))))))
    [ARes.tmp 4])
theorem l5_eq : lowFn Try.prog 5 = some l5 := by kernel_rfl
def l6r0 : List AOper :=
  [AOper.mk (some 2) (AOp.box (Operand.tmp 0)) none [], AOper.mk (some 3) (AOp.box (Operand.tmp 1)) none [],
          AOper.mk (some 4) (AOp.mv (Operand.const (Value.bool false))) none []]
def l6r1 : List AOper :=
  [AOper.mk (some 10) (AOp.load true 3 (Operand.tmp 2)) none [],
            AOper.mk (some 11) (AOp.call 14 [Operand.tmp 10]) none [0],
            AOper.mk (some 9) (AOp.mv (Operand.tmp 11)) none [1],
            AOper.mk (some 12) (AOp.extract (Operand.tmp 9) 0) none [2],
            AOper.mk (some 13) (AOp.extract (Operand.tmp 9) 1) none [2],
            AOper.mk (some 5) (AOp.mv (Operand.tmp 12)) none [3, 1, 0, 1, 2, 3],
            AOper.mk (some 6) (AOp.mv (Operand.tmp 13)) none [4, 5, 0, 1, 2, 3, 4, 5]]
def l6r2 : List AOper :=
  [AOper.mk (some 15) (AOp.load true 3 (Operand.tmp 3)) none [],
              AOper.mk (some 16) (AOp.call 14 [Operand.tmp 15]) none [0],
              AOper.mk (some 14) (AOp.mv (Operand.tmp 16)) none [1],
              AOper.mk (some 17) (AOp.extract (Operand.tmp 14) 0) none [2],
              AOper.mk (some 18) (AOp.extract (Operand.tmp 14) 1) none [2],
              AOper.mk (some 7) (AOp.mv (Operand.tmp 17)) none [3, 1, 0, 1, 2, 3],
              AOper.mk (some 8) (AOp.mv (Operand.tmp 18)) none [4, 5, 0, 1, 2, 3, 4, 5]]
def l6r3 : List AOper :=
  [AOper.mk (some 19) (AOp.mv (Operand.tmp 5)) none [],
                AOper.mk (some 20)
                  (AOp.bin BinOp.geq (Operand.tmp 19) (Operand.const (Value.int IntKind.i64 0))) none [0],
                AOper.mk (some 21) (AOp.mv (Operand.tmp 20)) none [1],
                AOper.mk (some 22) (AOp.mv (Operand.tmp 7)) (some (21, true)) [2],
                AOper.mk (some 23)
                  (AOp.bin BinOp.geq (Operand.tmp 22) (Operand.const (Value.int IntKind.i64 0)))
                  (some (21, true)) [3, 2],
                AOper.mk (some 24) (AOp.pick (Operand.tmp 21) (Operand.tmp 23) (Operand.const (Value.bool false))) none
                  [2, 4],
                AOper.mk (some 25) (AOp.mv (Operand.tmp 24)) none [5, 2],
                AOper.mk (some 26) (AOp.mv (Operand.tmp 5)) (some (25, true)) [6],
                AOper.mk (some 27) (AOp.mv (Operand.tmp 8)) (some (25, true)) [6],
                AOper.mk (some 28) (AOp.bin BinOp.leq (Operand.tmp 26) (Operand.tmp 27)) (some (25, true)) [7, 8, 6],
                AOper.mk (some 29) (AOp.pick (Operand.tmp 25) (Operand.tmp 28) (Operand.const (Value.bool false))) none
                  [6, 9],
                AOper.mk (some 30) (AOp.mv (Operand.tmp 29)) none [10, 6],
                AOper.mk (some 31) (AOp.mv (Operand.tmp 7)) (some (30, true)) [11],
                AOper.mk (some 32) (AOp.mv (Operand.tmp 6)) (some (30, true)) [11],
                AOper.mk (some 33) (AOp.bin BinOp.leq (Operand.tmp 31) (Operand.tmp 32)) (some (30, true)) [12, 13, 11],
                AOper.mk (some 34) (AOp.pick (Operand.tmp 30) (Operand.tmp 33) (Operand.const (Value.bool false))) none
                  [11, 14],
                AOper.mk (some 4) (AOp.mv (Operand.tmp 34)) none
                  [15, 11, 0, 1, 2, 3, 4, 5, 6, 7, 8, 9, 10, 11, 12, 13, 14, 15]]
def l6 : AFn :=
  (AFn.mk 35 2
    (ACode.seq
      (ACode.reg l6r0)
      (ACode.seq
        (ACode.reg l6r1)
        (ACode.seq
          (ACode.reg l6r2)
          (ACode.seq
            (ACode.reg l6r3)
            ACode.ret))))
    [ARes.tmp 4])
theorem l6_eq : lowFn Try.prog 6 = some l6 := by kernel_rfl
def l7r0 : List AOper :=
  [AOper.mk (some 1) (AOp.box (Operand.tmp 0)) none [],
          AOper.mk (some 2)
            (AOp.alloc [Value.int IntKind.i64 0, Value.slice none 0 0, Value.slice none 0 0]) none []]
def l7r1 : List AOper :=
  [AOper.mk (some 3)
              (AOp.alloc [Value.int IntKind.i64 0, Value.slice none 0 0, Value.slice none 0 0]) none []]
def l7r2 : List AOper :=
  [AOper.mk (some 4) (AOp.fld 0 (Operand.tmp 1)) none [],
              AOper.mk (some 5) (AOp.load false 1 (Operand.tmp 4)) none [0],
              AOper.mk (some 6) (AOp.fld 0 (Operand.tmp 3)) none [0, 1],
              AOper.mk none (AOp.store 1 (Operand.tmp 6) (Operand.tmp 5)) none [2, 1, 0, 1]]
def l7r3 : List AOper :=
  [AOper.mk (some 7) (AOp.fld 1 (Operand.tmp 1)) none [],
                AOper.mk (some 8) (AOp.load false 1 (Operand.tmp 7)) none [0],
                AOper.mk (some 9) (AOp.call 15 [Operand.tmp 8]) none [1],
                AOper.mk (some 10) (AOp.fld 1 (Operand.tmp 3)) none [0, 1, 2],
                AOper.mk none (AOp.store 1 (Operand.tmp 10) (Operand.tmp 9)) none [3, 2, 2, 0, 1, 2]]
def l7r4 : List AOper :=
  [AOper.mk (some 11) (AOp.fld 2 (Operand.tmp 1)) none [],
                  AOper.mk (some 12) (AOp.load false 1 (Operand.tmp 11)) none [0],
                  AOper.mk (some 13) (AOp.call 15 [Operand.tmp 12]) none [1],
                  AOper.mk (some 14) (AOp.fld 2 (Operand.tmp 3)) none [0, 1, 2],
                  AOper.mk none (AOp.store 1 (Operand.tmp 14) (Operand.tmp 13)) none [3, 2, 2, 0, 1, 2]]
def l7r5 : List AOper :=
  [AOper.mk (some 15) (AOp.load true 3 (Operand.tmp 3)) none [],
                    AOper.mk none (AOp.store 3 (Operand.tmp 2) (Operand.tmp 15)) none [0, 0]]
def l7 : AFn :=
  (AFn.mk 16 1
    (ACode.seq
      (ACode.reg l7r0)
      (ACode.seq
        (ACode.reg l7r1)
        (ACode.seq
          (ACode.reg l7r2)
          (ACode.seq
            (ACode.reg l7r3)
            (ACode.seq
              (ACode.reg l7r4)
              (ACode.seq
                (ACode.reg l7r5)
                ACode.ret))))))
    [ARes.cell 2 true 3])
theorem l7_eq : lowFn Try.prog 7 = some l7 := by kernel_rfl
def l8r0 : List AOper :=
  [AOper.mk (some 2) (AOp.box (Operand.tmp 0)) none [], AOper.mk (some 3) (AOp.box (Operand.tmp 1)) none [],
          AOper.mk (some 4) (AOp.mv (Operand.const (Value.bool false))) none []]
def l8r1a : List AOper :=
  [AOper.mk (some 5) (AOp.load true 3 (Operand.tmp 2)) none [], AOper.mk (some 6) (AOp.call 16 [Operand.tmp 5]) none [0], AOper.mk (some 7) (AOp.mv (Operand.tmp 6)) none [1, 1], AOper.mk (some 8) (AOp.load true 3 (Operand.tmp 3)) (some (7, true)) [2], AOper.mk (some 9) (AOp.call 16 [Operand.tmp 8]) (some (7, true)) [3, 2, 2], AOper.mk (some 10) (AOp.pick (Operand.tmp 7) (Operand.tmp 9) (Operand.const (Value.bool false))) none
              [2, 4], AOper.mk (some 11) (AOp.mv (Operand.tmp 10)) none [5, 4], AOper.mk (some 12) (AOp.load true 3 (Operand.tmp 2)) (some (11, true)) [6], AOper.mk (some 13) (AOp.call 17 [Operand.tmp 12]) (some (11, true)) [7, 6, 6], AOper.mk (some 14) (AOp.load true 3 (Operand.tmp 3)) (some (11, true)) [6]]
def l8r1b : List AOper :=
  [AOper.mk (some 15) (AOp.call 17 [Operand.tmp 14]) (some (11, true)) [9, 8, 6], AOper.mk (some 16) (AOp.call 18 [Operand.tmp 13, Operand.tmp 15]) (some (11, true)) [8, 10, 10, 6], AOper.mk (some 17) (AOp.call 19 [Operand.tmp 16]) (some (11, true)) [11, 11, 6], AOper.mk (some 18)
              (AOp.bin BinOp.gtr (Operand.tmp 17) (Operand.const (Value.int IntKind.i64 0)))
              (some (11, true)) [12, 6], AOper.mk (some 19) (AOp.pick (Operand.tmp 11) (Operand.tmp 18) (Operand.const (Value.bool false))) none
              [6, 13], AOper.mk (some 4) (AOp.mv (Operand.tmp 19)) none
              [14, 12, 0, 1, 2, 3, 4, 5, 6, 7, 8, 9, 10, 11, 12, 13, 14]]
def l8r1 : List AOper := l8r1a ++ l8r1b
def l8 : AFn :=
  (AFn.mk 20 2
    (ACode.seq
      (ACode.reg l8r0)
      (ACode.seq
        (ACode.draw l8r1)
        ACode.ret))
    [ARes.tmp 4])
theorem l8_eq : lowFn Try.prog 8 = some l8 := by kernel_rfl
def l9r0 : List AOper :=
  [AOper.mk (some 2) (AOp.box (Operand.tmp 0)) none [], AOper.mk (some 3) (AOp.box (Operand.tmp 1)) none [],
          AOper.mk (some 4) (AOp.mv (Operand.const (Value.bool false))) none []]
def l9r1 : List AOper :=
  [AOper.mk (some 5) (AOp.fld 0 (Operand.tmp 2)) none [],
              AOper.mk (some 6) (AOp.load false 1 (Operand.tmp 5)) none [0],
              AOper.mk (some 7) (AOp.fld 0 (Operand.tmp 3)) none [],
              AOper.mk (some 8) (AOp.load false 1 (Operand.tmp 7)) none [2],
              AOper.mk (some 9) (AOp.bin BinOp.neq (Operand.tmp 6) (Operand.tmp 8)) none [1, 3]]
def l9r2 : List AOper :=
  [AOper.mk (some 4) (AOp.mv (Operand.const (Value.bool false))) none []]
def l9r3 : List AOper :=
  [AOper.mk (some 10) (AOp.fld 1 (Operand.tmp 2)) none [],
                AOper.mk (some 11) (AOp.load false 1 (Operand.tmp 10)) none [0],
                AOper.mk (some 12) (AOp.fld 1 (Operand.tmp 3)) none [],
                AOper.mk (some 13) (AOp.load false 1 (Operand.tmp 12)) none [2],
                AOper.mk (some 14) (AOp.call 20 [Operand.tmp 11, Operand.tmp 13]) none [1, 3],
                AOper.mk (some 15) (AOp.un UnOp.not (Operand.tmp 14)) none [4]]
def l9r4 : List AOper :=
  [AOper.mk (some 4) (AOp.mv (Operand.const (Value.bool false))) none []]
def l9r5 : List AOper :=
  [AOper.mk (some 16) (AOp.fld 2 (Operand.tmp 2)) none [],
                  AOper.mk (some 17) (AOp.load false 1 (Operand.tmp 16)) none [0],
                  AOper.mk (some 18) (AOp.fld 2 (Operand.tmp 3)) none [],
                  AOper.mk (some 19) (AOp.load false 1 (Operand.tmp 18)) none [2],
                  AOper.mk (some 20) (AOp.call 20 [Operand.tmp 17, Operand.tmp 19]) none [1, 3],
                  AOper.mk (some 21) (AOp.un UnOp.not (Operand.tmp 20)) none [4]]
def l9r6 : List AOper :=
  [AOper.mk (some 4) (AOp.mv (Operand.const (Value.bool false))) none []]
def l9r7 : List AOper :=
  [AOper.mk (some 4) (AOp.mv (Operand.const (Value.bool true))) none []]
def l9 : AFn :=
  (AFn.mk 22 2
    (ACode.seq
      (ACode.reg l9r0)
      (ACode.seq
        (ACode.seq
          (ACode.reg l9r1)
          (ACode.cond (Operand.tmp 9)
            (ACode.seq (ACode.reg l9r2) ACode.ret)
            ACode.skip))
        (ACode.seq
          (ACode.seq
            (ACode.reg l9r3)
            (ACode.cond (Operand.tmp 15)
              (ACode.seq (ACode.reg l9r4) ACode.ret)
              ACode.skip))
          (ACode.seq
            (ACode.seq
              (ACode.reg l9r5)
              (ACode.cond (Operand.tmp 21)
                (ACode.seq (ACode.reg l9r6)
                  ACode.ret)
                ACode.skip))
            (ACode.seq (ACode.reg l9r7) ACode.ret)))))
    [ARes.tmp 4])
theorem l9_eq : lowFn Try.prog 9 = some l9 := by kernel_rfl
def l13r0 : List AOper :=
  [AOper.mk (some 4) (AOp.mv (Operand.const (Value.int IntKind.i64 0))) none []]
def l13r1 : List AOper :=
  [AOper.mk (some 5) (AOp.mv (Operand.tmp 1)) none [], AOper.mk (some 6) (AOp.mv (Operand.tmp 0)) none [],
            AOper.mk (some 7) (AOp.len (Operand.tmp 6)) none [1],
            AOper.mk (some 8) (AOp.bin BinOp.sub (Operand.tmp 5) (Operand.tmp 7)) none [0, 2],
            AOper.mk (some 1) (AOp.mv (Operand.tmp 8)) none [3, 0, 1, 2, 3]]
def l13r2 : List AOper :=
  [AOper.mk (some 9) (AOp.mv (Operand.tmp 1)) none [],
                AOper.mk (some 10)
                  (AOp.bin BinOp.lss (Operand.tmp 9) (Operand.const (Value.int IntKind.i64 0))) none [0]]
def l13r3 : List AOper :=
  [AOper.mk (some 4) (AOp.mv (Operand.const (Value.int IntKind.i64 (-1)))) none []]
def l13r4 : List AOper :=
  [AOper.mk (some 11) (AOp.mv (Operand.tmp 1)) none [],
                AOper.mk (some 4) (AOp.mv (Operand.tmp 11)) none [0, 0]]
def l13 : AFn :=
  (AFn.mk 12 2
    (ACode.seq (ACode.reg l13r0)
      (ACode.seq
        (ACode.reg l13r1)
        (ACode.seq
          (ACode.seq
            (ACode.reg l13r2)
            (ACode.cond (Operand.tmp 10)
              (ACode.seq
                (ACode.reg l13r3)
                ACode.ret)
              ACode.skip))
          (ACode.seq
            (ACode.reg l13r4)
            ACode.ret))))
    [ARes.tmp 4])
theorem l13_eq : lowFn Try.prog 13 = some l13 := by kernel_rfl
def l14r0 : List AOper :=
  [AOper.mk (some 1) (AOp.box (Operand.tmp 0)) none [],
          AOper.mk (some 2) (AOp.mv (Operand.const (Value.int IntKind.i64 0))) none [],
          AOper.mk (some 3) (AOp.mv (Operand.const (Value.int IntKind.i64 0))) none [1]]
def l14r1 : List AOper :=
  [AOper.mk (some 8) (AOp.load true 3 (Operand.tmp 1)) none [],
              AOper.mk (some 9) (AOp.call 21 [Operand.tmp 8]) none [0],
              AOper.mk (some 10) (AOp.un UnOp.not (Operand.tmp 9)) none [1],
              AOper.mk (some 11) (AOp.mv (Operand.tmp 10)) none [2, 1],
              AOper.mk (some 12) (AOp.fld 1 (Operand.tmp 1)) (some (11, false)) [3],
              AOper.mk (some 13) (AOp.load false 1 (Operand.tmp 12)) (some (11, false)) [4, 3],
              AOper.mk (some 14) (AOp.call 26 [Operand.tmp 13]) (some (11, false)) [5, 3, 3],
              AOper.mk (some 15)
                (AOp.bin BinOp.eql (Operand.tmp 14) (Operand.const (Value.int IntKind.i64 0)))
                (some (11, false)) [6, 3],
              AOper.mk (some 16) (AOp.pick (Operand.tmp 11) (Operand.const (Value.bool true)) (Operand.tmp 15)) none
                [3, 7]]
def l14r2 : List AOper :=
  [AOper.mk (some 2) (AOp.mv (Operand.const (Value.int IntKind.i64 (-1)))) none [],
                  AOper.mk (some 3) (AOp.mv (Operand.const (Value.int IntKind.i64 (-1)))) none [0, 0]]
def l14r3 : List AOper :=
  [AOper.mk (some 17) (AOp.load true 3 (Operand.tmp 1)) none [],
              AOper.mk (some 18) (AOp.call 27 [Operand.tmp 17]) none [0],
              AOper.mk (some 4) (AOp.mv (Operand.tmp 18)) none [1, 1, 0, 1]]
def l14r4 : List AOper :=
  [AOper.mk (some 19) (AOp.mv (Operand.tmp 4)) none [],
                AOper.mk (some 20) (AOp.idxA 1 (Operand.tmp 19) (Operand.const (Value.int IntKind.i64 0)))
                  none [0],
                AOper.mk (some 21) (AOp.load false 1 (Operand.tmp 20)) none [1],
                AOper.mk (some 5) (AOp.mv (Operand.tmp 21)) none [2, 0, 1, 2]]
def l14r5 : List AOper :=
  [AOper.mk (some 22) (AOp.mv (Operand.tmp 4)) none [],
                  AOper.mk (some 23) (AOp.idxA 1 (Operand.tmp 22) (Operand.const (Value.int IntKind.i64 0)))
                    none [0],
                  AOper.mk (some 24) (AOp.load false 1 (Operand.tmp 23)) none [1],
                  AOper.mk (some 6) (AOp.mv (Operand.tmp 24)) none [2, 0, 1, 2]]
def l14r6 : List AOper :=
  [AOper.mk (some 7) (AOp.mv (Operand.const (Value.int IntKind.i64 0))) none []]
def l14r7 : List AOper :=
  [AOper.mk (some 25) (AOp.mv (Operand.tmp 7)) none [],
                              AOper.mk (some 26) (AOp.mv (Operand.tmp 4)) none [],
                              AOper.mk (some 27) (AOp.len (Operand.tmp 26)) none [1],
                              AOper.mk (some 28) (AOp.bin BinOp.lss (Operand.tmp 25) (Operand.tmp 27)) none [0, 2]]
def l14r8 : List AOper :=
  [AOper.mk (some 31) (AOp.mv (Operand.tmp 5)) none [],
                                  AOper.mk (some 32) (AOp.mv (Operand.tmp 4)) none [],
                                  AOper.mk (some 33) (AOp.mv (Operand.tmp 7)) none [],
                                  AOper.mk (some 34) (AOp.idxA 1 (Operand.tmp 32) (Operand.tmp 33)) none [1, 2],
                                  AOper.mk (some 35) (AOp.load false 1 (Operand.tmp 34)) none [3],
                                  AOper.mk (some 36) (AOp.minmax false (Operand.tmp 31) (Operand.tmp 35)) none [0, 4],
                                  AOper.mk (some 5) (AOp.mv (Operand.tmp 36)) none [5, 0, 1, 2, 3, 4, 5]]
def l14r9 : List AOper :=
  [AOper.mk (some 37) (AOp.mv (Operand.tmp 6)) none [],
                                  AOper.mk (some 38) (AOp.mv (Operand.tmp 4)) none [],
                                  AOper.mk (some 39) (AOp.mv (Operand.tmp 7)) none [],
                                  AOper.mk (some 40) (AOp.idxA 1 (Operand.tmp 38) (Operand.tmp 39)) none [1, 2],
                                  AOper.mk (some 41) (AOp.load false 1 (Operand.tmp 40)) none [3],
                                  AOper.mk (some 42) (AOp.minmax true (Operand.tmp 37) (Operand.tmp 41)) none [0, 4],
                                  AOper.mk (some 6) (AOp.mv (Operand.tmp 42)) none [5, 0, 1, 2, 3, 4, 5]]
def l14r10 : List AOper :=
  [AOper.mk (some 29) (AOp.mv (Operand.tmp 7)) none [],
                              AOper.mk (some 30)
                                (AOp.bin BinOp.add (Operand.tmp 29)
                                  (Operand.const (Value.int IntKind.i64 1)))
                                none [0],
                              AOper.mk (some 7) (AOp.mv (Operand.tmp 30)) none [1, 0, 1]]
def l14r11 : List AOper :=
  [AOper.mk (some 43) (AOp.mv (Operand.tmp 5)) none [],
                      AOper.mk (some 44) (AOp.mv (Operand.tmp 6)) none [],
                      AOper.mk (some 2) (AOp.mv (Operand.tmp 43)) none [0, 0],
                      AOper.mk (some 3) (AOp.mv (Operand.tmp 44)) none [1, 2, 0, 1, 2]]
def l14 : AFn :=
  (AFn.mk 45 1
    (ACode.seq
      (ACode.reg l14r0)
      (ACode.seq
        (ACode.seq
          (ACode.reg l14r1)
          (ACode.cond (Operand.tmp 16)
            (ACode.seq
              (ACode.reg l14r2)
              ACode.ret)
            ACode.skip))
        (ACode.seq
          (ACode.reg l14r3)
          (ACode.seq
            (ACode.reg l14r4)
            (ACode.seq
              (ACode.reg l14r5)
              (ACode.seq
                (ACode.seq
                  (ACode.reg l14r6)
                  (ACode.block 0
                    (ACode.loop
                      (ACode.seq
                        (ACode.seq
                          (ACode.reg l14r7)
                          (ACode.cond (Operand.tmp 28) ACode.skip (ACode.exit 0)))
                        (ACode.seq
                          (ACode.block 1
                            (ACode.seq
                              (ACode.reg l14r8)
                              (ACode.reg l14r9)))
                          (ACode.reg l14r10))))))
                (ACode.seq
                  (ACode.reg l14r11)
                  ACode.ret)))))))
    [ARes.tmp 2, ARes.tmp 3])
theorem l14_eq : lowFn Try.prog 14 = some l14 := by kernel_rfl
def l15r0 : List AOper :=
  [AOper.mk (some 2) (AOp.mv (Operand.const (Value.slice none 0 0))) none []]
def l15r1 : List AOper :=
  [AOper.mk (some 5) (AOp.mv (Operand.tmp 0)) none [], AOper.mk (some 6) (AOp.len (Operand.tmp 5)) none [0],
            AOper.mk (some 7) (AOp.mkslice 1 [Value.int IntKind.i64 0] (Operand.tmp 6) (Operand.tmp 6)) none
              [1, 1],
            AOper.mk (some 3) (AOp.mv (Operand.tmp 7)) none [2, 0, 1, 2]]
def l15r2 : List AOper :=
  [AOper.mk (some 4) (AOp.mv (Operand.const (Value.int IntKind.i64 0))) none []]
def l15r3 : List AOper :=
  [AOper.mk (some 8) (AOp.mv (Operand.tmp 4)) none [],
                        AOper.mk (some 9) (AOp.mv (Operand.tmp 0)) none [],
                        AOper.mk (some 10) (AOp.len (Operand.tmp 9)) none [1],
                        AOper.mk (some 11) (AOp.bin BinOp.lss (Operand.tmp 8) (Operand.tmp 10)) none [0, 2]]
def l15r4 : List AOper :=
  [AOper.mk (some 14) (AOp.mv (Operand.tmp 3)) none [],
                          AOper.mk (some 15) (AOp.mv (Operand.tmp 4)) none [],
                          AOper.mk (some 16) (AOp.mv (Operand.tmp 0)) none [],
                          AOper.mk (some 17) (AOp.mv (Operand.tmp 4)) none [],
                          AOper.mk (some 18) (AOp.idxA 1 (Operand.tmp 16) (Operand.tmp 17)) none [2, 3],
                          AOper.mk (some 19) (AOp.load false 1 (Operand.tmp 18)) none [4],
                          AOper.mk (some 20) (AOp.idxA 1 (Operand.tmp 14) (Operand.tmp 15)) none
                            [0, 1, 0, 1, 2, 3, 4, 5],
                          AOper.mk none (AOp.store 1 (Operand.tmp 20) (Operand.tmp 19)) none [6, 5, 0, 1, 2, 3, 4, 5]]
def l15r5 : List AOper :=
  [AOper.mk (some 12) (AOp.mv (Operand.tmp 4)) none [],
                        AOper.mk (some 13)
                          (AOp.bin BinOp.add (Operand.tmp 12) (Operand.const (Value.int IntKind.i64 1)))
                          none [0],
                        AOper.mk (some 4) (AOp.mv (Operand.tmp 13)) none [1, 0, 1]]
def l15r6 : List AOper :=
  [AOper.mk (some 21) (AOp.mv (Operand.tmp 3)) none [],
                AOper.mk (some 2) (AOp.mv (Operand.tmp 21)) none [0, 0]]
def l15 : AFn :=
  (AFn.mk 22 1
    (ACode.seq (ACode.reg l15r0)
      (ACode.seq
        (ACode.reg l15r1)
        (ACode.seq
          (ACode.seq
            (ACode.reg l15r2)
            (ACode.block 0
              (ACode.loop
                (ACode.seq
                  (ACode.seq
                    (ACode.reg l15r3)
                    (ACode.cond (Operand.tmp 11) ACode.skip (ACode.exit 0)))
                  (ACode.seq
                    (ACode.block 1
                      (ACode.reg l15r4))
                    (ACode.reg l15r5))))))
          (ACode.seq
            (ACode.reg l15r6)
            ACode.ret))))
    [ARes.tmp 2])
theorem l15_eq : lowFn Try.prog 15 = some l15 := by kernel_rfl
def l16r0 : List AOper :=
  [AOper.mk (some 1) (AOp.box (Operand.tmp 0)) none [],
          AOper.mk (some 2) (AOp.mv (Operand.const (Value.bool false))) none []]
def l16r1 : List AOper :=
  [AOper.mk (some 5) (AOp.fld 1 (Operand.tmp 1)) none [],
              AOper.mk (some 6) (AOp.load false 1 (Operand.tmp 5)) none [0],
              AOper.mk (some 7) (AOp.call 28 [Operand.tmp 6]) none [1],
              AOper.mk (some 8) (AOp.un UnOp.not (Operand.tmp 7)) none [2],
              AOper.mk (some 9) (AOp.mv (Operand.tmp 8)) none [3, 2],
              AOper.mk (some 10) (AOp.fld 2 (Operand.tmp 1)) (some (9, false)) [4],
              AOper.mk (some 11) (AOp.load false 1 (Operand.tmp 10)) (some (9, false)) [5, 4],
              AOper.mk (some 12) (AOp.fld 1 (Operand.tmp 1)) (some (9, false)) [4],
              AOper.mk (some 13) (AOp.load false 1 (Operand.tmp 12)) (some (9, false)) [7, 4],
              AOper.mk (some 14) (AOp.len (Operand.tmp 13)) (some (9, false)) [8, 4],
              AOper.mk (some 15) (AOp.call 29 [Operand.tmp 11, Operand.tmp 14]) (some (9, false)) [6, 9, 4, 4],
              AOper.mk (some 16) (AOp.un UnOp.not (Operand.tmp 15)) (some (9, false)) [10, 4],
              AOper.mk (some 17) (AOp.pick (Operand.tmp 9) (Operand.const (Value.bool true)) (Operand.tmp 16)) none
                [4, 11],
              AOper.mk (some 18) (AOp.mv (Operand.tmp 17)) none [12, 10],
              AOper.mk (some 19) (AOp.fld 0 (Operand.tmp 1)) (some (18, false)) [13],
              AOper.mk (some 20) (AOp.load false 1 (Operand.tmp 19)) (some (18, false)) [14, 13],
              AOper.mk (some 21) (AOp.call 30 [Operand.tmp 20, Operand.const (Value.int IntKind.i64 60)])
                (some (18, false)) [15, 13, 13],
              AOper.mk (some 22) (AOp.un UnOp.not (Operand.tmp 21)) (some (18, false)) [16, 13],
              AOper.mk (some 23) (AOp.pick (Operand.tmp 18) (Operand.const (Value.bool true)) (Operand.tmp 22)) none
                [13, 17]]
def l16r2 : List AOper :=
  [AOper.mk (some 2) (AOp.mv (Operand.const (Value.bool false))) none []]
def l16r3 : List AOper :=
  [AOper.mk (some 25) (AOp.load true 3 (Operand.tmp 1)) none [],
              AOper.mk (some 26) (AOp.call 31 [Operand.tmp 25]) none [0],
              AOper.mk (some 24) (AOp.mv (Operand.tmp 26)) none [1],
              AOper.mk (some 27) (AOp.extract (Operand.tmp 24) 0) none [2],
              AOper.mk (some 28) (AOp.extract (Operand.tmp 24) 1) none [2],
              AOper.mk (some 3) (AOp.mv (Operand.tmp 27)) none [3, 1, 0, 1, 2, 3],
              AOper.mk (some 4) (AOp.mv (Operand.tmp 28)) none [4, 5, 0, 1, 2, 3, 4, 5]]
def l16r4 : List AOper :=
  [AOper.mk (some 29) (AOp.load true 3 (Operand.tmp 1)) none [],
                AOper.mk (some 30) (AOp.call 32 [Operand.tmp 29]) none [0],
                AOper.mk (some 31)
                  (AOp.bin BinOp.eql (Operand.tmp 30) (Operand.const (Value.int IntKind.i64 0))) none [1],
                AOper.mk (some 32) (AOp.mv (Operand.tmp 31)) none [2, 1],
                AOper.mk (some 33) (AOp.mv (Operand.tmp 3)) (some (32, false)) [3],
                AOper.mk (some 34)
                  (AOp.bin BinOp.geq (Operand.tmp 33) (Operand.const (Value.int IntKind.i64 0)))
                  (some (32, false)) [4, 3],
                AOper.mk (some 35) (AOp.mv (Operand.tmp 34)) (some (32, false)) [5, 3, 3],
                AOper.mk (some 36) (AOp.mv (Operand.tmp 4)) (some (35, true)) [6],
                AOper.mk (some 37)
                  (AOp.bin BinOp.lss (Operand.tmp 36) (Operand.const (Value.int IntKind.i64 60)))
                  (some (35, true)) [7, 6],
                AOper.mk (some 38) (AOp.pick (Operand.tmp 35) (Operand.tmp 37) (Operand.const (Value.bool false)))
                  (some (32, false)) [6, 8, 3],
                AOper.mk (some 39) (AOp.pick (Operand.tmp 32) (Operand.const (Value.bool true)) (Operand.tmp 38)) none
                  [3, 9],
                AOper.mk (some 2) (AOp.mv (Operand.tmp 39)) none [10, 6, 0, 1, 2, 3, 4, 5, 6, 7, 8, 9, 10]]
def l16 : AFn :=
  (AFn.mk 40 1
    (ACode.seq
      (ACode.reg l16r0)
      (ACode.seq
        (ACode.seq
          (ACode.reg l16r1)
          (ACode.cond (Operand.tmp 23)
            (ACode.seq (ACode.reg l16r2) ACode.ret)
            ACode.skip))
        (ACode.seq
          (ACode.reg l16r3)
          (ACode.seq
            (ACode.reg l16r4)
            ACode.ret))))
    [ARes.tmp 2])
theorem l16_eq : lowFn Try.prog 16 = some l16 := by kernel_rfl
def l17r0 : List AOper :=
  [AOper.mk (some 1) (AOp.box (Operand.tmp 0)) none [],
          AOper.mk (some 2)
            (AOp.alloc
              [Value.int IntKind.i64 0, Value.int IntKind.i64 0,
                Value.int IntKind.i64 0])
            none []]
def l17r1 : List AOper :=
  [AOper.mk (some 5) (AOp.load true 3 (Operand.tmp 1)) none [],
              AOper.mk (some 6) (AOp.call 32 [Operand.tmp 5]) none [0],
              AOper.mk (some 7)
                (AOp.bin BinOp.eql (Operand.tmp 6) (Operand.const (Value.int IntKind.i64 0))) none [1]]
def l17r2 : List AOper :=
  [AOper.mk (some 8)
                    (AOp.call 24
                      [Operand.const (Value.int IntKind.i64 0),
                        Operand.const (Value.int IntKind.i64 1),
                        Operand.const (Value.int IntKind.i64 0)])
                    none [],
                  AOper.mk none (AOp.store 3 (Operand.tmp 2) (Operand.tmp 8)) none [0, 0, 0]]
def l17r3 : List AOper :=
  [AOper.mk (some 10) (AOp.load true 3 (Operand.tmp 1)) none [],
              AOper.mk (some 11) (AOp.call 31 [Operand.tmp 10]) none [0],
              AOper.mk (some 9) (AOp.mv (Operand.tmp 11)) none [1],
              AOper.mk (some 12) (AOp.extract (Operand.tmp 9) 0) none [2],
              AOper.mk (some 13) (AOp.extract (Operand.tmp 9) 1) none [2],
              AOper.mk (some 3) (AOp.mv (Operand.tmp 12)) none [3, 1, 0, 1, 2, 3],
              AOper.mk (some 4) (AOp.mv (Operand.tmp 13)) none [4, 5, 0, 1, 2, 3, 4, 5]]
def l17r4 : List AOper :=
  [AOper.mk (some 14) (AOp.mv (Operand.tmp 3)) none [], AOper.mk (some 15) (AOp.mv (Operand.tmp 4)) none [],
                AOper.mk (some 16) (AOp.mv (Operand.tmp 3)) none [],
                AOper.mk (some 17) (AOp.bin BinOp.sub (Operand.tmp 15) (Operand.tmp 16)) none [1, 2],
                AOper.mk (some 18)
                  (AOp.bin BinOp.add (Operand.tmp 17) (Operand.const (Value.int IntKind.i64 1))) none [3],
                AOper.mk (some 19)
                  (AOp.call 24 [Operand.tmp 14, Operand.const (Value.int IntKind.i64 1), Operand.tmp 18])
                  none [0, 4],
                AOper.mk none (AOp.store 3 (Operand.tmp 2) (Operand.tmp 19)) none [5, 5, 0, 1, 2, 3, 4, 5]]
def l17 : AFn :=
  (AFn.mk 20 1
    (ACode.seq
      (ACode.reg l17r0)
      (ACode.seq
        (ACode.seq
          (ACode.reg l17r1)
          (ACode.cond (Operand.tmp 7)
            (ACode.seq
              (ACode.reg l17r2)
              ACode.ret)
            ACode.skip))
        (ACode.seq
          (ACode.reg l17r3)
          (ACode.seq
            (ACode.reg l17r4)
            ACode.ret))))
    [ARes.cell 2 true 3])
theorem l17_eq : lowFn Try.prog 17 = some l17 := by kernel_rfl
def l18r0 : List AOper :=
  [AOper.mk (some 2) (AOp.box (Operand.tmp 0)) none [], AOper.mk (some 3) (AOp.box (Operand.tmp 1)) none [],
          AOper.mk (some 4)
            (AOp.alloc
              [Value.int IntKind.i64 0, Value.int IntKind.i64 0,
                Value.int IntKind.i64 0])
            none []]
def l18r1 : List AOper :=
  [AOper.mk (some 9) (AOp.load true 3 (Operand.tmp 2)) none [],
              AOper.mk (some 10) (AOp.call 19 [Operand.tmp 9]) none [0],
              AOper.mk (some 11) (AOp.mv (Operand.const (Value.int IntKind.i64 0))) none []]
def l18r2 : List AOper :=
  [AOper.mk (some 12) (AOp.bin BinOp.lss (Operand.tmp 11) (Operand.tmp 10)) none []]
def l18r3 : List AOper :=
  [AOper.mk (some 13) (AOp.mv (Operand.tmp 11)) none [],
                            AOper.mk (some 5) (AOp.mv (Operand.tmp 13)) none [0, 0]]
def l18r4 : List AOper :=
  [AOper.mk (some 14) (AOp.load true 3 (Operand.tmp 2)) none [],
                              AOper.mk (some 15) (AOp.mv (Operand.tmp 5)) none [],
                              AOper.mk (some 16) (AOp.call 33 [Operand.tmp 14, Operand.tmp 15]) none [0, 1],
                              AOper.mk (some 6) (AOp.mv (Operand.tmp 16)) none [2, 2, 0, 1, 2]]
def l18r5 : List AOper :=
  [AOper.mk (some 17) (AOp.load true 3 (Operand.tmp 3)) none [],
                                  AOper.mk (some 18) (AOp.mv (Operand.tmp 6)) none [],
                                  AOper.mk (some 19) (AOp.call 34 [Operand.tmp 17, Operand.tmp 18]) none [0, 1],
                                  AOper.mk (some 20)
                                    (AOp.bin BinOp.lss (Operand.tmp 19)
                                      (Operand.const (Value.int IntKind.i64 0)))
                                    none [2]]
def l18r6 : List AOper :=
  [AOper.mk (some 21) (AOp.fld 2 (Operand.tmp 2)) none [],
                                  AOper.mk (some 22) (AOp.load false 1 (Operand.tmp 21)) none [0],
                                  AOper.mk (some 23) (AOp.fld 2 (Operand.tmp 3)) none [],
                                  AOper.mk (some 24) (AOp.load false 1 (Operand.tmp 23)) none [2],
                                  AOper.mk (some 25) (AOp.call 35 [Operand.tmp 22, Operand.tmp 24]) none [1, 3],
                                  AOper.mk (some 7) (AOp.mv (Operand.tmp 25)) none [4, 4, 0, 1, 2, 3, 4]]
def l18r7 : List AOper :=
  [AOper.mk (some 26) (AOp.fld 1 (Operand.tmp 2)) none [],
                                    AOper.mk (some 27) (AOp.load false 1 (Operand.tmp 26)) none [0],
                                    AOper.mk (some 28) (AOp.fld 1 (Operand.tmp 3)) none [],
                                    AOper.mk (some 29) (AOp.load false 1 (Operand.tmp 28)) none [2],
                                    AOper.mk (some 30) (AOp.minmax false (Operand.tmp 27) (Operand.tmp 29)) none [1, 3],
                                    AOper.mk (some 31)
                                      (AOp.bin BinOp.sub (Operand.tmp 30)
                                        (Operand.const (Value.int IntKind.i64 1)))
                                      none [4],
                                    AOper.mk (some 32) (AOp.mv (Operand.tmp 6)) none [],
                                    AOper.mk (some 33) (AOp.bin BinOp.sub (Operand.tmp 31) (Operand.tmp 32)) none
                                      [5, 6],
                                    AOper.mk (some 8) (AOp.mv (Operand.tmp 33)) none [7, 0, 1, 2, 3, 4, 5, 6, 7]]
def l18r8 : List AOper :=
  [AOper.mk (some 34) (AOp.mv (Operand.tmp 6)) none [],
                                      AOper.mk (some 35) (AOp.mv (Operand.tmp 7)) none [],
                                      AOper.mk (some 36) (AOp.mv (Operand.tmp 8)) none [],
                                      AOper.mk (some 37) (AOp.mv (Operand.tmp 7)) none [],
                                      AOper.mk (some 38) (AOp.bin BinOp.quo (Operand.tmp 36) (Operand.tmp 37)) none
                                        [2, 3],
                                      AOper.mk (some 39)
                                        (AOp.bin BinOp.add (Operand.tmp 38)
                                          (Operand.const (Value.int IntKind.i64 1)))
                                        none [4],
                                      AOper.mk (some 40) (AOp.call 24 [Operand.tmp 34, Operand.tmp 35, Operand.tmp 39])
                                        none [0, 1, 5],
                                      AOper.mk none (AOp.store 3 (Operand.tmp 4) (Operand.tmp 40)) none
                                        [6, 6, 0, 1, 2, 3, 4, 5, 6]]
def l18r9 : List AOper :=
  [AOper.mk (some 41)
                          (AOp.bin BinOp.add (Operand.tmp 11) (Operand.const (Value.int IntKind.i64 1)))
                          none [],
                        AOper.mk (some 11) (AOp.mv (Operand.tmp 41)) none [0]]
def l18r10 : List AOper :=
  [AOper.mk (some 42)
                (AOp.call 24
                  [Operand.const (Value.int IntKind.i64 0),
                    Operand.const (Value.int IntKind.i64 1),
                    Operand.const (Value.int IntKind.i64 0)])
                none [],
              AOper.mk none (AOp.store 3 (Operand.tmp 4) (Operand.tmp 42)) none [0, 0, 0]]
def l18 : AFn :=
  (AFn.mk 43 2
    (ACode.seq
      (ACode.reg l18r0)
      (ACode.seq
        (ACode.seq
          (ACode.reg l18r1)
          (ACode.block 0
            (ACode.loop
              (ACode.seq (ACode.reg l18r2)
                (ACode.seq (ACode.cond (Operand.tmp 12) ACode.skip (ACode.exit 0))
                  (ACode.seq
                    (ACode.block 1
                      (ACode.seq
                        (ACode.reg l18r3)
                        (ACode.seq
                          (ACode.reg l18r4)
                          (ACode.seq
                            (ACode.seq
                              (ACode.reg l18r5)
                              (ACode.cond (Operand.tmp 20) (ACode.exit 1) ACode.skip))
                            (ACode.seq
                              (ACode.reg l18r6)
                              (ACode.seq
                                (ACode.reg l18r7)
                                (ACode.seq
                                  (ACode.reg l18r8)
                                  ACode.ret)))))))
                    (ACode.reg l18r9)))))))
        (ACode.seq
          (ACode.reg l18r10)
          ACode.ret)))
    [ARes.cell 4 true 3])
theorem l18_eq : lowFn Try.prog 18 = some l18 := by kernel_rfl
def l19r0 : List AOper :=
  [AOper.mk (some 1) (AOp.box (Operand.tmp 0)) none [],
          AOper.mk (some 2) (AOp.mv (Operand.const (Value.int IntKind.i64 0))) none []]
def l19r1a : List AOper :=
  [AOper.mk (some 5) (AOp.fld 1 (Operand.tmp 1)) none [], AOper.mk (some 6) (AOp.load false 1 (Operand.tmp 5)) none [0], AOper.mk (some 7) (AOp.fld 0 (Operand.tmp 1)) none [], AOper.mk (some 8) (AOp.load false 1 (Operand.tmp 7)) none [2], AOper.mk (some 9) (AOp.bin BinOp.sub (Operand.tmp 6) (Operand.tmp 8)) none [1, 3], AOper.mk (some 10) (AOp.fld 2 (Operand.tmp 1)) none [], AOper.mk (some 11) (AOp.load false 1 (Operand.tmp 10)) none [5], AOper.mk (some 3) (AOp.mv (Operand.tmp 9)) none [4, 0, 1, 2, 3, 4]]
def l19r1b : List AOper :=
  [AOper.mk (some 4) (AOp.mv (Operand.tmp 11)) none [6, 7, 0, 1, 2, 3, 4, 5, 6, 7]]
def l19r1 : List AOper := l19r1a ++ l19r1b
def l19r2 : List AOper :=
  [AOper.mk (some 12) (AOp.mv (Operand.tmp 4)) none [],
                AOper.mk (some 13)
                  (AOp.bin BinOp.lss (Operand.tmp 12) (Operand.const (Value.int IntKind.i64 0))) none [0]]
def l19r3 : List AOper :=
  [AOper.mk (some 14) (AOp.mv (Operand.tmp 3)) none [],
                  AOper.mk (some 15) (AOp.un UnOp.neg (Operand.tmp 14)) none [0],
                  AOper.mk (some 16) (AOp.mv (Operand.tmp 4)) none [],
                  AOper.mk (some 17) (AOp.un UnOp.neg (Operand.tmp 16)) none [2],
                  AOper.mk (some 3) (AOp.mv (Operand.tmp 15)) none [1, 0, 1],
                  AOper.mk (some 4) (AOp.mv (Operand.tmp 17)) none [3, 4, 0, 1, 2, 3, 4]]
def l19r4 : List AOper :=
  [AOper.mk (some 18) (AOp.mv (Operand.tmp 3)) none [],
                  AOper.mk (some 19)
                    (AOp.bin BinOp.leq (Operand.tmp 18) (Operand.const (Value.int IntKind.i64 0))) none
                    [0]]
def l19r5 : List AOper :=
  [AOper.mk (some 2) (AOp.mv (Operand.const (Value.int IntKind.i64 0))) none []]
def l19r6 : List AOper :=
  [AOper.mk (some 20) (AOp.mv (Operand.tmp 3)) none [],
                  AOper.mk (some 21) (AOp.mv (Operand.tmp 4)) none [],
                  AOper.mk (some 22) (AOp.bin BinOp.add (Operand.tmp 20) (Operand.tmp 21)) none [0, 1],
                  AOper.mk (some 23)
                    (AOp.bin BinOp.sub (Operand.tmp 22) (Operand.const (Value.int IntKind.i64 1))) none [2],
                  AOper.mk (some 24) (AOp.mv (Operand.tmp 4)) none [],
                  AOper.mk (some 25) (AOp.bin BinOp.quo (Operand.tmp 23) (Operand.tmp 24)) none [3, 4],
                  AOper.mk (some 2) (AOp.mv (Operand.tmp 25)) none [5, 0, 1, 2, 3, 4, 5]]
def l19 : AFn :=
  (AFn.mk 26 1
    (ACode.seq
      (ACode.reg l19r0)
      (ACode.seq
        (ACode.draw l19r1)
        (ACode.seq
          (ACode.seq
            (ACode.reg l19r2)
            (ACode.cond (Operand.tmp 13)
              (ACode.reg l19r3)
              ACode.skip))
          (ACode.seq
            (ACode.seq
              (ACode.reg l19r4)
              (ACode.cond (Operand.tmp 19)
                (ACode.seq
                  (ACode.reg l19r5)
                  ACode.ret)
                ACode.skip))
            (ACode.seq
              (ACode.reg l19r6)
              ACode.ret)))))
    [ARes.tmp 2])
theorem l19_eq : lowFn Try.prog 19 = some l19 := by kernel_rfl
def l20r0 : List AOper :=
  [AOper.mk (some 4) (AOp.mv (Operand.const (Value.bool false))) none []]
def l20r1 : List AOper :=
  [AOper.mk (some 6) (AOp.mv (Operand.tmp 0)) none [], AOper.mk (some 7) (AOp.len (Operand.tmp 6)) none [0],
              AOper.mk (some 8) (AOp.mv (Operand.tmp 1)) none [], AOper.mk (some 9) (AOp.len (Operand.tmp 8)) none [2],
              AOper.mk (some 10) (AOp.bin BinOp.neq (Operand.tmp 7) (Operand.tmp 9)) none [1, 3]]
def l20r2 : List AOper :=
  [AOper.mk (some 4) (AOp.mv (Operand.const (Value.bool false))) none []]
def l20r3 : List AOper :=
  [AOper.mk (some 5) (AOp.mv (Operand.const (Value.int IntKind.i64 0))) none []]
def l20r4 : List AOper :=
  [AOper.mk (some 11) (AOp.mv (Operand.tmp 5)) none [],
                        AOper.mk (some 12) (AOp.mv (Operand.tmp 0)) none [],
                        AOper.mk (some 13) (AOp.len (Operand.tmp 12)) none [1],
                        AOper.mk (some 14) (AOp.bin BinOp.lss (Operand.tmp 11) (Operand.tmp 13)) none [0, 2]]
def l20r5a : List AOper :=
  [AOper.mk (some 17) (AOp.mv (Operand.tmp 0)) none [], AOper.mk (some 18) (AOp.mv (Operand.tmp 5)) none [], AOper.mk (some 19) (AOp.idxA 1 (Operand.tmp 17) (Operand.tmp 18)) none [0, 1], AOper.mk (some 20) (AOp.load false 1 (Operand.tmp 19)) none [2], AOper.mk (some 21) (AOp.mv (Operand.tmp 1)) none [], AOper.mk (some 22) (AOp.mv (Operand.tmp 5)) none [], AOper.mk (some 23) (AOp.idxA 1 (Operand.tmp 21) (Operand.tmp 22)) none [4, 5], AOper.mk (some 24) (AOp.load false 1 (Operand.tmp 23)) none [6]]
def l20r5b : List AOper :=
  [AOper.mk (some 25) (AOp.bin BinOp.neq (Operand.tmp 20) (Operand.tmp 24)) none [3, 7]]
def l20r5 : List AOper := l20r5a ++ l20r5b
def l20r6 : List AOper :=
  [AOper.mk (some 4) (AOp.mv (Operand.const (Value.bool false))) none []]
def l20r7 : List AOper :=
  [AOper.mk (some 15) (AOp.mv (Operand.tmp 5)) none [],
                        AOper.mk (some 16)
                          (AOp.bin BinOp.add (Operand.tmp 15) (Operand.const (Value.int IntKind.i64 1)))
                          none [0],
                        AOper.mk (some 5) (AOp.mv (Operand.tmp 16)) none [1, 0, 1]]
def l20r8 : List AOper :=
  [AOper.mk (some 4) (AOp.mv (Operand.const (Value.bool true))) none []]
def l20 : AFn :=
  (AFn.mk 26 2
    (ACode.seq (ACode.reg l20r0)
      (ACode.seq
        (ACode.seq
          (ACode.reg l20r1)
          (ACode.cond (Operand.tmp 10)
            (ACode.seq (ACode.reg l20r2) ACode.ret)
            ACode.skip))
        (ACode.seq
          (ACode.seq
            (ACode.reg l20r3)
            (ACode.block 0
              (ACode.loop
                (ACode.seq
                  (ACode.seq
                    (ACode.reg l20r4)
                    (ACode.cond (Operand.tmp 14) ACode.skip (ACode.exit 0)))
                  (ACode.seq
                    (ACode.block 1
                      (ACode.seq
                        (ACode.draw l20r5)
                        (ACode.cond (Operand.tmp 25)
                          (ACode.seq (ACode.reg l20r6)
                            ACode.ret)
                          ACode.skip)))
                    (ACode.reg l20r7))))))
          (ACode.seq (ACode.reg l20r8) ACode.ret))))
    [ARes.tmp 4])
theorem l20_eq : lowFn Try.prog 20 = some l20 := by kernel_rfl
def l21r0 : List AOper :=
  [AOper.mk (some 1) (AOp.box (Operand.tmp 0)) none [],
          AOper.mk (some 2) (AOp.mv (Operand.const (Value.bool false))) none []]
def l21r1 : List AOper :=
  [AOper.mk (some 3) (AOp.fld 1 (Operand.tmp 1)) none [],
            AOper.mk (some 4) (AOp.load false 1 (Operand.tmp 3)) none [0],
            AOper.mk (some 5) (AOp.call 36 [Operand.tmp 4]) none [1],
            AOper.mk (some 6) (AOp.mv (Operand.tmp 5)) none [2, 2],
            AOper.mk (some 7) (AOp.fld 2 (Operand.tmp 1)) (some (6, true)) [3],
            AOper.mk (some 8) (AOp.load false 1 (Operand.tmp 7)) (some (6, true)) [4, 3],
            AOper.mk (some 9) (AOp.len (Operand.tmp 8)) (some (6, true)) [5, 3],
            AOper.mk (some 10) (AOp.fld 1 (Operand.tmp 1)) (some (6, true)) [3],
            AOper.mk (some 11) (AOp.load false 1 (Operand.tmp 10)) (some (6, true)) [7, 3],
            AOper.mk (some 12) (AOp.len (Operand.tmp 11)) (some (6, true)) [8, 3],
            AOper.mk (some 13) (AOp.bin BinOp.eql (Operand.tmp 9) (Operand.tmp 12)) (some (6, true)) [6, 9, 3],
            AOper.mk (some 14) (AOp.pick (Operand.tmp 6) (Operand.tmp 13) (Operand.const (Value.bool false))) none
              [3, 10],
            AOper.mk (some 15) (AOp.mv (Operand.tmp 14)) none [11, 3],
            AOper.mk (some 16) (AOp.fld 2 (Operand.tmp 1)) (some (15, true)) [12],
            AOper.mk (some 17) (AOp.load false 1 (Operand.tmp 16)) (some (15, true)) [13, 12],
            AOper.mk (some 18)
              (AOp.call 37
                [Operand.tmp 17, Operand.const (Value.int IntKind.i64 (-60)),
                  Operand.const (Value.int IntKind.i64 60)])
              (some (15, true)) [14, 12, 12],
            AOper.mk (some 19) (AOp.pick (Operand.tmp 15) (Operand.tmp 18) (Operand.const (Value.bool false))) none
              [12, 15],
            AOper.mk (some 20) (AOp.mv (Operand.tmp 19)) none [16, 15],
            AOper.mk (some 21) (AOp.fld 0 (Operand.tmp 1)) (some (20, true)) [17],
            AOper.mk (some 22) (AOp.load false 1 (Operand.tmp 21)) (some (20, true)) [18, 17],
            AOper.mk (some 23)
              (AOp.call 38
                [Operand.tmp 22, Operand.const (Value.int IntKind.i64 0),
                  Operand.const (Value.int IntKind.i64 60)])
              (some (20, true)) [19, 17, 17],
            AOper.mk (some 24) (AOp.pick (Operand.tmp 20) (Operand.tmp 23) (Operand.const (Value.bool false))) none
              [17, 20],
            AOper.mk (some 25) (AOp.mv (Operand.tmp 24)) none [21, 20],
            AOper.mk (some 26) (AOp.fld 1 (Operand.tmp 1)) (some (25, true)) [22],
            AOper.mk (some 27) (AOp.load false 1 (Operand.tmp 26)) (some (25, true)) [23, 22],
            AOper.mk (some 28) (AOp.call 26 [Operand.tmp 27]) (some (25, true)) [24, 22, 22],
            AOper.mk (some 29)
              (AOp.bin BinOp.eql (Operand.tmp 28) (Operand.const (Value.int IntKind.i64 0)))
              (some (25, true)) [25, 22],
            AOper.mk (some 30) (AOp.mv (Operand.tmp 29)) (some (25, true)) [26, 25, 22],
            AOper.mk (some 31) (AOp.load true 3 (Operand.tmp 1)) (some (30, false)) [27],
            AOper.mk (some 32) (AOp.call 27 [Operand.tmp 31]) (some (30, false)) [28, 27, 27],
            AOper.mk (some 33)
              (AOp.call 37
                [Operand.tmp 32, Operand.const (Value.int IntKind.i64 0),
                  Operand.const (Value.int IntKind.i64 59)])
              (some (30, false)) [29, 29, 27],
            AOper.mk (some 34) (AOp.pick (Operand.tmp 30) (Operand.const (Value.bool true)) (Operand.tmp 33))
              (some (25, true)) [27, 30, 22],
            AOper.mk (some 35) (AOp.pick (Operand.tmp 25) (Operand.tmp 34) (Operand.const (Value.bool false))) none
              [22, 31],
            AOper.mk (some 2) (AOp.mv (Operand.tmp 35)) none
              [32, 30, 0, 1, 2, 3, 4, 5, 6, 7, 8, 9, 10, 11, 12, 13, 14, 15, 16, 17, 18, 19, 20, 21, 22, 23, 24, 25, 26,
                27, 28, 29, 30, 31, 32]]
def l21 : AFn :=
  (AFn.mk 36 1
    (ACode.seq
      (ACode.reg l21r0)
      (ACode.seq
        (ACode.reg l21r1)
        ACode.ret))
    [ARes.tmp 2])
theorem l21_eq : lowFn Try.prog 21 = some l21 := by kernel_rfl
def l24r0 : List AOper :=
  [AOper.mk (some 6)
            (AOp.alloc
              [Value.int IntKind.i64 0, Value.int IntKind.i64 0,
                Value.int IntKind.i64 0])
            none []]
def l24r1 : List AOper :=
  [AOper.mk (some 8) (AOp.mv (Operand.tmp 2)) none [],
              AOper.mk (some 9)
                (AOp.bin BinOp.lss (Operand.tmp 8) (Operand.const (Value.int IntKind.i64 1))) none [0]]
def l24r2 : List AOper :=
  [AOper.mk (some 10)
                    (AOp.build
                      [Value.int IntKind.i64 0, Value.int IntKind.i64 0,
                        Value.int IntKind.i64 0]
                      [(0, 1, Operand.const (Value.int IntKind.i64 0)),
                        (1, 1, Operand.const (Value.int IntKind.i64 0)),
                        (2, 1, Operand.const (Value.int IntKind.i64 1))])
                    none [],
                  AOper.mk none (AOp.store 3 (Operand.tmp 6) (Operand.tmp 10)) none [0, 0]]
def l24r3 : List AOper :=
  [AOper.mk (some 11) (AOp.mv (Operand.tmp 2)) none [],
                AOper.mk (some 12)
                  (AOp.bin BinOp.eql (Operand.tmp 11) (Operand.const (Value.int IntKind.i64 1))) none [0]]
def l24r4 : List AOper :=
  [AOper.mk (some 13) (AOp.mv (Operand.tmp 0)) none [],
                    AOper.mk (some 14) (AOp.mv (Operand.tmp 0)) none [],
                    AOper.mk (some 15)
                      (AOp.bin BinOp.add (Operand.tmp 14) (Operand.const (Value.int IntKind.i64 1))) none
                      [1],
                    AOper.mk (some 16)
                      (AOp.build
                        [Value.int IntKind.i64 0, Value.int IntKind.i64 0,
                          Value.int IntKind.i64 0]
                        [(0, 1, Operand.tmp 13), (1, 1, Operand.tmp 15),
                          (2, 1, Operand.const (Value.int IntKind.i64 1))])
                      none [0, 2],
                    AOper.mk none (AOp.store 3 (Operand.tmp 6) (Operand.tmp 16)) none [3, 0, 1, 2, 3]]
def l24r5 : List AOper :=
  [AOper.mk (some 17) (AOp.mv (Operand.tmp 0)) none [], AOper.mk (some 18) (AOp.mv (Operand.tmp 2)) none [],
                AOper.mk (some 19)
                  (AOp.bin BinOp.sub (Operand.tmp 18) (Operand.const (Value.int IntKind.i64 1))) none [1],
                AOper.mk (some 20) (AOp.mv (Operand.tmp 1)) none [],
                AOper.mk (some 21) (AOp.bin BinOp.mul (Operand.tmp 19) (Operand.tmp 20)) none [2, 3],
                AOper.mk (some 22) (AOp.bin BinOp.add (Operand.tmp 17) (Operand.tmp 21)) none [0, 4],
                AOper.mk (some 7) (AOp.mv (Operand.tmp 22)) none [5, 0, 1, 2, 3, 4, 5]]
def l24r6 : List AOper :=
  [AOper.mk (some 23) (AOp.mv (Operand.tmp 1)) none [],
                    AOper.mk (some 24)
                      (AOp.bin BinOp.lss (Operand.tmp 23) (Operand.const (Value.int IntKind.i64 0))) none
                      [0]]
def l24r7 : List AOper :=
  [AOper.mk (some 25) (AOp.mv (Operand.tmp 0)) none [],
                        AOper.mk (some 26) (AOp.mv (Operand.tmp 7)) none [],
                        AOper.mk (some 27)
                          (AOp.bin BinOp.sub (Operand.tmp 26) (Operand.const (Value.int IntKind.i64 1)))
                          none [1],
                        AOper.mk (some 28) (AOp.mv (Operand.tmp 1)) none [],
                        AOper.mk (some 29)
                          (AOp.build
                            [Value.int IntKind.i64 0, Value.int IntKind.i64 0,
                              Value.int IntKind.i64 0]
                            [(0, 1, Operand.tmp 25), (1, 1, Operand.tmp 27), (2, 1, Operand.tmp 28)])
                          none [0, 2, 3],
                        AOper.mk none (AOp.store 3 (Operand.tmp 6) (Operand.tmp 29)) none [4, 0, 1, 2, 3, 4]]
def l24r8 : List AOper :=
  [AOper.mk (some 30) (AOp.mv (Operand.tmp 0)) none [],
                    AOper.mk (some 31) (AOp.mv (Operand.tmp 7)) none [],
                    AOper.mk (some 32)
                      (AOp.bin BinOp.add (Operand.tmp 31) (Operand.const (Value.int IntKind.i64 1))) none
                      [1],
                    AOper.mk (some 33) (AOp.mv (Operand.tmp 1)) none [],
                    AOper.mk (some 34)
                      (AOp.build
                        [Value.int IntKind.i64 0, Value.int IntKind.i64 0,
                          Value.int IntKind.i64 0]
                        [(0, 1, Operand.tmp 30), (1, 1, Operand.tmp 32), (2, 1, Operand.tmp 33)])
                      none [0, 2, 3],
                    AOper.mk none (AOp.store 3 (Operand.tmp 6) (Operand.tmp 34)) none [4, 0, 1, 2, 3, 4]]
def l24 : AFn :=
  (AFn.mk 35 3
    (ACode.seq
      (ACode.reg l24r0)
      (ACode.seq
        (ACode.seq
          (ACode.reg l24r1)
          (ACode.cond (Operand.tmp 9)
            (ACode.seq
              (ACode.reg l24r2)
              ACode.ret)
            ACode.skip))
        (ACode.seq
          (ACode.seq
            (ACode.reg l24r3)
            (ACode.cond (Operand.tmp 12)
              (ACode.seq
                (ACode.reg l24r4)
                ACode.ret)
              ACode.skip))
          (ACode.seq
            (ACode.reg l24r5)
            (ACode.seq
              (ACode.seq
                (ACode.reg l24r6)
                (ACode.cond (Operand.tmp 24)
                  (ACode.seq
                    (ACode.reg l24r7)
                    ACode.ret)
                  ACode.skip))
              (ACode.seq
                (ACode.reg l24r8)
                ACode.ret))))))
    [ARes.cell 6 true 3])
theorem l24_eq : lowFn Try.prog 24 = some l24 := by kernel_rfl
def l26r0 : List AOper :=
  [AOper.mk (some 2) (AOp.mv (Operand.const (Value.int IntKind.i64 0))) none []]
def l26r1 : List AOper :=
  [AOper.mk (some 3) (AOp.mv (Operand.const (Value.int IntKind.i64 1))) none []]
def l26r2 : List AOper :=
  [AOper.mk (some 4) (AOp.mv (Operand.const (Value.int IntKind.i64 0))) none []]
def l26r3 : List AOper :=
  [AOper.mk (some 5) (AOp.mv (Operand.tmp 4)) none [],
                        AOper.mk (some 6) (AOp.mv (Operand.tmp 0)) none [],
                        AOper.mk (some 7) (AOp.len (Operand.tmp 6)) none [1],
                        AOper.mk (some 8) (AOp.bin BinOp.lss (Operand.tmp 5) (Operand.tmp 7)) none [0, 2]]
def l26r4 : List AOper :=
  [AOper.mk (some 11) (AOp.mv (Operand.tmp 3)) none [],
                          AOper.mk (some 12) (AOp.mv (Operand.tmp 0)) none [],
                          AOper.mk (some 13) (AOp.mv (Operand.tmp 4)) none [],
                          AOper.mk (some 14) (AOp.idxA 1 (Operand.tmp 12) (Operand.tmp 13)) none [1, 2],
                          AOper.mk (some 15) (AOp.load false 1 (Operand.tmp 14)) none [3],
                          AOper.mk (some 16) (AOp.bin BinOp.mul (Operand.tmp 11) (Operand.tmp 15)) none [0, 4],
                          AOper.mk (some 3) (AOp.mv (Operand.tmp 16)) none [5, 0, 1, 2, 3, 4, 5]]
def l26r5 : List AOper :=
  [AOper.mk (some 9) (AOp.mv (Operand.tmp 4)) none [],
                        AOper.mk (some 10)
                          (AOp.bin BinOp.add (Operand.tmp 9) (Operand.const (Value.int IntKind.i64 1))) none
                          [0],
                        AOper.mk (some 4) (AOp.mv (Operand.tmp 10)) none [1, 0, 1]]
def l26r6 : List AOper :=
  [AOper.mk (some 17) (AOp.mv (Operand.tmp 3)) none [],
                AOper.mk (some 2) (AOp.mv (Operand.tmp 17)) none [0, 0]]
def l26 : AFn :=
  (AFn.mk 18 1
    (ACode.seq (ACode.reg l26r0)
      (ACode.seq (ACode.reg l26r1)
        (ACode.seq
          (ACode.seq
            (ACode.reg l26r2)
            (ACode.block 0
              (ACode.loop
                (ACode.seq
                  (ACode.seq
                    (ACode.reg l26r3)
                    (ACode.cond (Operand.tmp 8) ACode.skip (ACode.exit 0)))
                  (ACode.seq
                    (ACode.block 1
                      (ACode.reg l26r4))
                    (ACode.reg l26r5))))))
          (ACode.seq
            (ACode.reg l26r6)
            ACode.ret))))
    [ARes.tmp 2])
theorem l26_eq : lowFn Try.prog 26 = some l26 := by kernel_rfl
def l27r0 : List AOper :=
  [AOper.mk (some 1) (AOp.box (Operand.tmp 0)) none [],
          AOper.mk (some 2) (AOp.mv (Operand.const (Value.slice none 0 0))) none []]
def l27r1 : List AOper :=
  [AOper.mk (some 5) (AOp.bslice 1 [Value.int IntKind.i64 0] [] 0) none [],
            AOper.mk (some 3) (AOp.mv (Operand.tmp 5)) none [0, 0]]
def l27r2 : List AOper :=
  [AOper.mk (some 4) (AOp.mv (Operand.const (Value.int IntKind.i64 0))) none []]
def l27r3 : List AOper :=
  [AOper.mk (some 6) (AOp.mv (Operand.tmp 4)) none [],
                        AOper.mk (some 7) (AOp.fld 1 (Operand.tmp 1)) none [],
                        AOper.mk (some 8) (AOp.load false 1 (Operand.tmp 7)) none [1],
                        AOper.mk (some 9) (AOp.call 26 [Operand.tmp 8]) none [2],
                        AOper.mk (some 10) (AOp.bin BinOp.lss (Operand.tmp 6) (Operand.tmp 9)) none [0, 3]]
def l27r4a : List AOper :=
  [AOper.mk (some 13) (AOp.mv (Operand.tmp 3)) none [], AOper.mk (some 14) (AOp.load true 3 (Operand.tmp 1)) none [], AOper.mk (some 15) (AOp.fld 1 (Operand.tmp 1)) none [], AOper.mk (some 16) (AOp.load false 1 (Operand.tmp 15)) none [2], AOper.mk (some 17) (AOp.mv (Operand.tmp 4)) none [], AOper.mk (some 18) (AOp.call 43 [Operand.tmp 16, Operand.tmp 17]) none [3, 4], AOper.mk (some 19) (AOp.call 42 [Operand.tmp 14, Operand.tmp 18]) none [1, 5, 5], AOper.mk (some 20)
                            (AOp.bslice 1 [Value.int IntKind.i64 0] [(0, Operand.tmp 19)] 1) none [6]]
def l27r4b : List AOper :=
  [AOper.mk (some 21) (AOp.append 1 (Operand.tmp 13) (Operand.tmp 20)) none [0, 7, 6], AOper.mk (some 3) (AOp.mv (Operand.tmp 21)) none [8, 8, 0, 1, 2, 3, 4, 5, 6, 7, 8]]
def l27r4 : List AOper := l27r4a ++ l27r4b
def l27r5 : List AOper :=
  [AOper.mk (some 11) (AOp.mv (Operand.tmp 4)) none [],
                        AOper.mk (some 12)
                          (AOp.bin BinOp.add (Operand.tmp 11) (Operand.const (Value.int IntKind.i64 1)))
                          none [0],
                        AOper.mk (some 4) (AOp.mv (Operand.tmp 12)) none [1, 0, 1]]
def l27r6 : List AOper :=
  [AOper.mk (some 22) (AOp.mv (Operand.tmp 3)) none [],
                AOper.mk (some 2) (AOp.mv (Operand.tmp 22)) none [0, 0]]
def l27 : AFn :=
  (AFn.mk 23 1
    (ACode.seq
      (ACode.reg l27r0)
      (ACode.seq
        (ACode.reg l27r1)
        (ACode.seq
          (ACode.seq
            (ACode.reg l27r2)
            (ACode.block 0
              (ACode.loop
                (ACode.seq
                  (ACode.seq
                    (ACode.reg l27r3)
                    (ACode.cond (Operand.tmp 10) ACode.skip (ACode.exit 0)))
                  (ACode.seq
                    (ACode.block 1
                      (ACode.draw l27r4))
                    (ACode.reg l27r5))))))
          (ACode.seq
            (ACode.reg l27r6)
            ACode.ret))))
    [ARes.tmp 2])
theorem l27_eq : lowFn Try.prog 27 = some l27 := by kernel_rfl
def l28r0 : List AOper :=
  [AOper.mk (some 2) (AOp.mv (Operand.const (Value.bool false))) none []]
def l28r1 : List AOper :=
  [AOper.mk (some 5) (AOp.mv (Operand.tmp 0)) none [], AOper.mk (some 6) (AOp.len (Operand.tmp 5)) none [0],
              AOper.mk (some 7)
                (AOp.bin BinOp.gtr (Operand.tmp 6) (Operand.const (Value.int IntKind.i64 4))) none [1]]
def l28r2 : List AOper :=
  [AOper.mk (some 2) (AOp.mv (Operand.const (Value.bool false))) none []]
def l28r3 : List AOper :=
  [AOper.mk (some 8) (AOp.mv (Operand.tmp 0)) none [], AOper.mk (some 9) (AOp.len (Operand.tmp 8)) none [0],
                AOper.mk (some 10) (AOp.mv (Operand.const (Value.int IntKind.i64 0))) none []]
def l28r4 : List AOper :=
  [AOper.mk (some 11) (AOp.bin BinOp.lss (Operand.tmp 10) (Operand.tmp 9)) none []]
def l28r5 : List AOper :=
  [AOper.mk (some 12) (AOp.idxA 1 (Operand.tmp 8) (Operand.tmp 10)) none [],
                              AOper.mk (some 13) (AOp.load false 1 (Operand.tmp 12)) none [0],
                              AOper.mk (some 4) (AOp.mv (Operand.tmp 13)) none [1, 0, 1]]
def l28r6 : List AOper :=
  [AOper.mk (some 14) (AOp.mv (Operand.tmp 4)) none [],
                                AOper.mk (some 15)
                                  (AOp.call 30 [Operand.tmp 14, Operand.const (Value.int IntKind.i64 60)])
                                  none [0],
                                AOper.mk (some 16) (AOp.un UnOp.not (Operand.tmp 15)) none [1]]
def l28r7 : List AOper :=
  [AOper.mk (some 2) (AOp.mv (Operand.const (Value.bool false))) none []]
def l28r8 : List AOper :=
  [AOper.mk (some 17)
                            (AOp.bin BinOp.add (Operand.tmp 10) (Operand.const (Value.int IntKind.i64 1)))
                            none [],
                          AOper.mk (some 10) (AOp.mv (Operand.tmp 17)) none [0]]
def l28r9 : List AOper :=
  [AOper.mk (some 18) (AOp.mv (Operand.tmp 0)) none [],
                AOper.mk (some 19) (AOp.call 44 [Operand.tmp 18]) none [0],
                AOper.mk (some 20)
                  (AOp.bin BinOp.leq (Operand.tmp 19) (Operand.const (Value.int IntKind.i64 60))) none [1],
                AOper.mk (some 2) (AOp.mv (Operand.tmp 20)) none [2, 1, 0, 1, 2]]
def l28 : AFn :=
  (AFn.mk 21 1
    (ACode.seq (ACode.reg l28r0)
      (ACode.seq
        (ACode.seq
          (ACode.reg l28r1)
          (ACode.cond (Operand.tmp 7)
            (ACode.seq (ACode.reg l28r2) ACode.ret)
            ACode.skip))
        (ACode.seq
          (ACode.seq
            (ACode.reg l28r3)
            (ACode.block 0
              (ACode.loop
                (ACode.seq (ACode.reg l28r4)
                  (ACode.seq (ACode.cond (Operand.tmp 11) ACode.skip (ACode.exit 0))
                    (ACode.seq
                      (ACode.block 1
                        (ACode.seq
                          (ACode.reg l28r5)
                          (ACode.seq
                            (ACode.reg l28r6)
                            (ACode.cond (Operand.tmp 16)
                              (ACode.seq
                                (ACode.reg l28r7)
                                ACode.ret)
                              ACode.skip))))
                      (ACode.reg l28r8)))))))
          (ACode.seq
            (ACode.reg l28r9)
            ACode.ret))))
    [ARes.tmp 2])
theorem l28_eq : lowFn Try.prog 28 = some l28 := by kernel_rfl
def l29r0 : List AOper :=
  [AOper.mk (some 4) (AOp.mv (Operand.const (Value.bool false))) none []]
def l29r1 : List AOper :=
  [AOper.mk (some 7) (AOp.mv (Operand.tmp 0)) none [], AOper.mk (some 8) (AOp.len (Operand.tmp 7)) none [0],
              AOper.mk (some 9) (AOp.mv (Operand.tmp 1)) none [],
              AOper.mk (some 10) (AOp.bin BinOp.neq (Operand.tmp 8) (Operand.tmp 9)) none [1, 2]]
def l29r2 : List AOper :=
  [AOper.mk (some 4) (AOp.mv (Operand.const (Value.bool false))) none []]
def l29r3 : List AOper :=
  [AOper.mk (some 11) (AOp.mv (Operand.tmp 0)) none [],
                AOper.mk (some 12) (AOp.len (Operand.tmp 11)) none [0],
                AOper.mk (some 13) (AOp.mv (Operand.const (Value.int IntKind.i64 0))) none []]
def l29r4 : List AOper :=
  [AOper.mk (some 14) (AOp.bin BinOp.lss (Operand.tmp 13) (Operand.tmp 12)) none []]
def l29r5 : List AOper :=
  [AOper.mk (some 15) (AOp.idxA 1 (Operand.tmp 11) (Operand.tmp 13)) none [],
                              AOper.mk (some 16) (AOp.load false 1 (Operand.tmp 15)) none [0],
                              AOper.mk (some 6) (AOp.mv (Operand.tmp 16)) none [1, 0, 1]]
def l29r6 : List AOper :=
  [AOper.mk (some 17) (AOp.mv (Operand.tmp 6)) none [],
                                AOper.mk (some 18)
                                  (AOp.call 45 [Operand.tmp 17, Operand.const (Value.int IntKind.i64 60)])
                                  none [0],
                                AOper.mk (some 19) (AOp.un UnOp.not (Operand.tmp 18)) none [1]]
def l29r7 : List AOper :=
  [AOper.mk (some 4) (AOp.mv (Operand.const (Value.bool false))) none []]
def l29r8 : List AOper :=
  [AOper.mk (some 20)
                            (AOp.bin BinOp.add (Operand.tmp 13) (Operand.const (Value.int IntKind.i64 1)))
                            none [],
                          AOper.mk (some 13) (AOp.mv (Operand.tmp 20)) none [0]]
def l29r9 : List AOper :=
  [AOper.mk (some 4) (AOp.mv (Operand.const (Value.bool true))) none []]
def l29 : AFn :=
  (AFn.mk 21 2
    (ACode.seq (ACode.reg l29r0)
      (ACode.seq
        (ACode.seq
          (ACode.reg l29r1)
          (ACode.cond (Operand.tmp 10)
            (ACode.seq (ACode.reg l29r2) ACode.ret)
            ACode.skip))
        (ACode.seq
          (ACode.seq
            (ACode.reg l29r3)
            (ACode.block 0
              (ACode.loop
                (ACode.seq
                  (ACode.reg l29r4)
                  (ACode.seq (ACode.cond (Operand.tmp 14) ACode.skip (ACode.exit 0))
                    (ACode.seq
                      (ACode.block 1
                        (ACode.seq
                          (ACode.reg l29r5)
                          (ACode.seq
                            (ACode.reg l29r6)
                            (ACode.cond (Operand.tmp 19)
                              (ACode.seq
                                (ACode.reg l29r7)
                                ACode.ret)
                              ACode.skip))))
                      (ACode.reg l29r8)))))))
          (ACode.seq (ACode.reg l29r9) ACode.ret))))
    [ARes.tmp 4])
theorem l29_eq : lowFn Try.prog 29 = some l29 := by kernel_rfl
def l30r0 : List AOper :=
  [AOper.mk (some 4) (AOp.mv (Operand.const (Value.bool false))) none []]
def l30r1 : List AOper :=
  [AOper.mk (some 5) (AOp.mv (Operand.tmp 0)) none [],
            AOper.mk (some 6) (AOp.bin BinOp.leq (Operand.const (Value.int IntKind.i64 0)) (Operand.tmp 5))
              none [0],
            AOper.mk (some 7) (AOp.mv (Operand.tmp 6)) none [1],
            AOper.mk (some 8) (AOp.mv (Operand.tmp 0)) (some (7, true)) [2],
            AOper.mk (some 9) (AOp.mv (Operand.tmp 1)) (some (7, true)) [2],
            AOper.mk (some 10) (AOp.bin BinOp.leq (Operand.tmp 8) (Operand.tmp 9)) (some (7, true)) [3, 4, 2],
            AOper.mk (some 11) (AOp.pick (Operand.tmp 7) (Operand.tmp 10) (Operand.const (Value.bool false))) none
              [2, 5],
            AOper.mk (some 4) (AOp.mv (Operand.tmp 11)) none [6, 2, 0, 1, 2, 3, 4, 5, 6]]
def l30 : AFn :=
  (AFn.mk 12 2
    (ACode.seq (ACode.reg l30r0)
      (ACode.seq
        (ACode.reg l30r1)
        ACode.ret))
    [ARes.tmp 4])
theorem l30_eq : lowFn Try.prog 30 = some l30 := by kernel_rfl
def l31r0 : List AOper :=
  [AOper.mk (some 1) (AOp.box (Operand.tmp 0)) none [],
          AOper.mk (some 2) (AOp.mv (Operand.const (Value.int IntKind.i64 0))) none [],
          AOper.mk (some 3) (AOp.mv (Operand.const (Value.int IntKind.i64 0))) none [1]]
def l31r1 : List AOper :=
  [AOper.mk (some 9) (AOp.load true 3 (Operand.tmp 1)) none [],
              AOper.mk (some 10) (AOp.call 32 [Operand.tmp 9]) none [0],
              AOper.mk (some 11)
                (AOp.bin BinOp.eql (Operand.tmp 10) (Operand.const (Value.int IntKind.i64 0))) none [1]]
def l31r2 : List AOper :=
  [AOper.mk (some 2) (AOp.mv (Operand.const (Value.int IntKind.i64 (-1)))) none [],
                  AOper.mk (some 3) (AOp.mv (Operand.const (Value.int IntKind.i64 (-1)))) none [0, 0]]
def l31r3a : List AOper :=
  [AOper.mk (some 12) (AOp.fld 0 (Operand.tmp 1)) none [], AOper.mk (some 13) (AOp.load false 1 (Operand.tmp 12)) none [0], AOper.mk (some 14) (AOp.fld 0 (Operand.tmp 1)) none [], AOper.mk (some 15) (AOp.load false 1 (Operand.tmp 14)) none [2], AOper.mk (some 4) (AOp.mv (Operand.tmp 13)) none [1, 0, 1]]
def l31r3b : List AOper :=
  [AOper.mk (some 5) (AOp.mv (Operand.tmp 15)) none [3, 4, 0, 1, 2, 3, 4]]
def l31r3 : List AOper := l31r3a ++ l31r3b
def l31r4 : List AOper :=
  [AOper.mk (some 16) (AOp.fld 2 (Operand.tmp 1)) none [],
                  AOper.mk (some 17) (AOp.load false 1 (Operand.tmp 16)) none [0],
                  AOper.mk (some 18) (AOp.len (Operand.tmp 17)) none [1],
                  AOper.mk (some 19) (AOp.mv (Operand.const (Value.int IntKind.i64 0))) none []]
def l31r5 : List AOper :=
  [AOper.mk (some 20) (AOp.bin BinOp.lss (Operand.tmp 19) (Operand.tmp 18)) none []]
def l31r6 : List AOper :=
  [AOper.mk (some 21) (AOp.mv (Operand.tmp 19)) none [],
                                AOper.mk (some 22) (AOp.idxA 1 (Operand.tmp 17) (Operand.tmp 19)) none [],
                                AOper.mk (some 23) (AOp.load false 1 (Operand.tmp 22)) none [1],
                                AOper.mk (some 6) (AOp.mv (Operand.tmp 21)) none [0, 0, 1, 2],
                                AOper.mk (some 7) (AOp.mv (Operand.tmp 23)) none [2, 3, 0, 1, 2, 3]]
def l31r7 : List AOper :=
  [AOper.mk (some 24) (AOp.fld 1 (Operand.tmp 1)) none [],
                                  AOper.mk (some 25) (AOp.load false 1 (Operand.tmp 24)) none [0],
                                  AOper.mk (some 26) (AOp.mv (Operand.tmp 6)) none [],
                                  AOper.mk (some 27) (AOp.idxA 1 (Operand.tmp 25) (Operand.tmp 26)) none [1, 2],
                                  AOper.mk (some 28) (AOp.load false 1 (Operand.tmp 27)) none [3],
                                  AOper.mk (some 29)
                                    (AOp.bin BinOp.sub (Operand.tmp 28)
                                      (Operand.const (Value.int IntKind.i64 1)))
                                    none [4],
                                  AOper.mk (some 30) (AOp.mv (Operand.tmp 7)) none [],
                                  AOper.mk (some 31) (AOp.bin BinOp.mul (Operand.tmp 29) (Operand.tmp 30)) none [5, 6],
                                  AOper.mk (some 8) (AOp.mv (Operand.tmp 31)) none [7, 0, 1, 2, 3, 4, 5, 6, 7]]
def l31r8 : List AOper :=
  [AOper.mk (some 32) (AOp.mv (Operand.tmp 4)) none [],
                                    AOper.mk (some 33) (AOp.mv (Operand.tmp 8)) none [],
                                    AOper.mk (some 34)
                                      (AOp.minmax false (Operand.tmp 33)
                                        (Operand.const (Value.int IntKind.i64 0)))
                                      none [1],
                                    AOper.mk (some 35) (AOp.bin BinOp.add (Operand.tmp 32) (Operand.tmp 34)) none
                                      [0, 2],
                                    AOper.mk (some 4) (AOp.mv (Operand.tmp 35)) none [3, 0, 1, 2, 3]]
def l31r9 : List AOper :=
  [AOper.mk (some 36) (AOp.mv (Operand.tmp 5)) none [],
                                    AOper.mk (some 37) (AOp.mv (Operand.tmp 8)) none [],
                                    AOper.mk (some 38)
                                      (AOp.minmax true (Operand.tmp 37)
                                        (Operand.const (Value.int IntKind.i64 0)))
                                      none [1],
                                    AOper.mk (some 39) (AOp.bin BinOp.add (Operand.tmp 36) (Operand.tmp 38)) none
                                      [0, 2],
                                    AOper.mk (some 5) (AOp.mv (Operand.tmp 39)) none [3, 0, 1, 2, 3]]
def l31r10 : List AOper :=
  [AOper.mk (some 40)
                              (AOp.bin BinOp.add (Operand.tmp 19) (Operand.const (Value.int IntKind.i64 1)))
                              none [],
                            AOper.mk (some 19) (AOp.mv (Operand.tmp 40)) none [0]]
def l31r11 : List AOper :=
  [AOper.mk (some 41) (AOp.mv (Operand.tmp 4)) none [],
                  AOper.mk (some 42) (AOp.mv (Operand.tmp 5)) none [],
                  AOper.mk (some 2) (AOp.mv (Operand.tmp 41)) none [0, 0],
                  AOper.mk (some 3) (AOp.mv (Operand.tmp 42)) none [1, 2, 0, 1, 2]]
def l31 : AFn :=
  (AFn.mk 43 1
    (ACode.seq
      (ACode.reg l31r0)
      (ACode.seq
        (ACode.seq
          (ACode.reg l31r1)
          (ACode.cond (Operand.tmp 11)
            (ACode.seq
              (ACode.reg l31r2)
              ACode.ret)
            ACode.skip))
        (ACode.seq
          (ACode.draw l31r3)
          (ACode.seq
            (ACode.seq
              (ACode.reg l31r4)
              (ACode.block 0
                (ACode.loop
                  (ACode.seq
                    (ACode.reg l31r5)
                    (ACode.seq (ACode.cond (Operand.tmp 20) ACode.skip (ACode.exit 0))
                      (ACode.seq
                        (ACode.block 1
                          (ACode.seq
                            (ACode.reg l31r6)
                            (ACode.seq
                              (ACode.reg l31r7)
                              (ACode.seq
                                (ACode.reg l31r8)
                                (ACode.reg l31r9)))))
                        (ACode.reg l31r10)))))))
            (ACode.seq
              (ACode.reg l31r11)
              ACode.ret)))))
    [ARes.tmp 2, ARes.tmp 3])
theorem l31_eq : lowFn Try.prog 31 = some l31 := by kernel_rfl
def l32r0 : List AOper :=
  [AOper.mk (some 1) (AOp.box (Operand.tmp 0)) none [],
          AOper.mk (some 2) (AOp.mv (Operand.const (Value.int IntKind.i64 0))) none []]
def l32r1 : List AOper :=
  [AOper.mk (some 3) (AOp.fld 1 (Operand.tmp 1)) none [],
            AOper.mk (some 4) (AOp.load false 1 (Operand.tmp 3)) none [0],
            AOper.mk (some 5) (AOp.call 44 [Operand.tmp 4]) none [1],
            AOper.mk (some 2) (AOp.mv (Operand.tmp 5)) none [2, 2, 0, 1, 2]]
def l32 : AFn :=
  (AFn.mk 6 1
    (ACode.seq
      (ACode.reg l32r0)
      (ACode.seq
        (ACode.reg l32r1)
        ACode.ret))
    [ARes.tmp 2])
theorem l32_eq : lowFn Try.prog 32 = some l32 := by kernel_rfl
def l33r0 : List AOper :=
  [AOper.mk (some 2) (AOp.box (Operand.tmp 0)) none [],
          AOper.mk (some 4) (AOp.mv (Operand.const (Value.int IntKind.i64 0))) none []]
def l33r1 : List AOper :=
  [AOper.mk (some 5) (AOp.fld 0 (Operand.tmp 2)) none [],
            AOper.mk (some 6) (AOp.load false 1 (Operand.tmp 5)) none [0],
            AOper.mk (some 7) (AOp.mv (Operand.tmp 1)) none [], AOper.mk (some 8) (AOp.fld 2 (Operand.tmp 2)) none [],
            AOper.mk (some 9) (AOp.load false 1 (Operand.tmp 8)) none [3],
            AOper.mk (some 10) (AOp.bin BinOp.mul (Operand.tmp 7) (Operand.tmp 9)) none [2, 4],
            AOper.mk (some 11) (AOp.bin BinOp.add (Operand.tmp 6) (Operand.tmp 10)) none [1, 5],
            AOper.mk (some 4) (AOp.mv (Operand.tmp 11)) none [6, 0, 1, 2, 3, 4, 5, 6]]
def l33 : AFn :=
  (AFn.mk 12 2
    (ACode.seq
      (ACode.reg l33r0)
      (ACode.seq
        (ACode.reg l33r1)
        ACode.ret))
    [ARes.tmp 4])
theorem l33_eq : lowFn Try.prog 33 = some l33 := by kernel_rfl
def l34r0 : List AOper :=
  [AOper.mk (some 2) (AOp.box (Operand.tmp 0)) none [],
          AOper.mk (some 4) (AOp.mv (Operand.const (Value.int IntKind.i64 0))) none []]
def l34r1 : List AOper :=
  [AOper.mk (some 6) (AOp.mv (Operand.tmp 1)) none [],
              AOper.mk (some 7) (AOp.call 45 [Operand.tmp 6, Operand.const (Value.int IntKind.i64 100)])
                none [0],
              AOper.mk (some 8) (AOp.un UnOp.not (Operand.tmp 7)) none [1],
              AOper.mk (some 9) (AOp.mv (Operand.tmp 8)) none [2, 1],
              AOper.mk (some 10) (AOp.mv (Operand.tmp 1)) (some (9, false)) [3],
              AOper.mk (some 11) (AOp.fld 0 (Operand.tmp 2)) (some (9, false)) [3],
              AOper.mk (some 12) (AOp.load false 1 (Operand.tmp 11)) (some (9, false)) [5, 3],
              AOper.mk (some 13) (AOp.bin BinOp.sub (Operand.tmp 10) (Operand.tmp 12)) (some (9, false)) [4, 6, 3],
              AOper.mk (some 14) (AOp.fld 2 (Operand.tmp 2)) (some (9, false)) [3],
              AOper.mk (some 15) (AOp.load false 1 (Operand.tmp 14)) (some (9, false)) [8, 3],
              AOper.mk (some 16) (AOp.bin BinOp.rem (Operand.tmp 13) (Operand.tmp 15)) (some (9, false)) [7, 9, 3],
              AOper.mk (some 17)
                (AOp.bin BinOp.neq (Operand.tmp 16) (Operand.const (Value.int IntKind.i64 0)))
                (some (9, false)) [10, 3],
              AOper.mk (some 18) (AOp.pick (Operand.tmp 9) (Operand.const (Value.bool true)) (Operand.tmp 17)) none
                [3, 11]]
def l34r2 : List AOper :=
  [AOper.mk (some 4) (AOp.mv (Operand.const (Value.int IntKind.i64 (-1)))) none []]
def l34r3 : List AOper :=
  [AOper.mk (some 19) (AOp.mv (Operand.tmp 1)) none [],
              AOper.mk (some 20) (AOp.fld 0 (Operand.tmp 2)) none [],
              AOper.mk (some 21) (AOp.load false 1 (Operand.tmp 20)) none [1],
              AOper.mk (some 22) (AOp.bin BinOp.sub (Operand.tmp 19) (Operand.tmp 21)) none [0, 2],
              AOper.mk (some 23) (AOp.fld 2 (Operand.tmp 2)) none [],
              AOper.mk (some 24) (AOp.load false 1 (Operand.tmp 23)) none [4],
              AOper.mk (some 25) (AOp.bin BinOp.quo (Operand.tmp 22) (Operand.tmp 24)) none [3, 5],
              AOper.mk (some 5) (AOp.mv (Operand.tmp 25)) none [6, 0, 1, 2, 3, 4, 5, 6]]
def l34r4 : List AOper :=
  [AOper.mk (some 26) (AOp.mv (Operand.tmp 5)) none [],
                  AOper.mk (some 27)
                    (AOp.bin BinOp.lss (Operand.tmp 26) (Operand.const (Value.int IntKind.i64 0))) none [0],
                  AOper.mk (some 28) (AOp.mv (Operand.tmp 27)) none [1],
                  AOper.mk (some 29) (AOp.mv (Operand.tmp 5)) (some (28, false)) [2],
                  AOper.mk (some 30) (AOp.load true 3 (Operand.tmp 2)) (some (28, false)) [2],
                  AOper.mk (some 31) (AOp.call 19 [Operand.tmp 30]) (some (28, false)) [4, 2, 2],
                  AOper.mk (some 32) (AOp.bin BinOp.geq (Operand.tmp 29) (Operand.tmp 31)) (some (28, false)) [3, 5, 2],
                  AOper.mk (some 33) (AOp.pick (Operand.tmp 28) (Operand.const (Value.bool true)) (Operand.tmp 32)) none
                    [2, 6]]
def l34r5 : List AOper :=
  [AOper.mk (some 4) (AOp.mv (Operand.const (Value.int IntKind.i64 (-1)))) none []]
def l34r6 : List AOper :=
  [AOper.mk (some 34) (AOp.mv (Operand.tmp 5)) none [],
                  AOper.mk (some 4) (AOp.mv (Operand.tmp 34)) none [0, 0]]
def l34 : AFn :=
  (AFn.mk 35 2
    (ACode.seq
      (ACode.reg l34r0)
      (ACode.seq
        (ACode.seq
          (ACode.reg l34r1)
          (ACode.cond (Operand.tmp 18)
            (ACode.seq
              (ACode.reg l34r2)
              ACode.ret)
            ACode.skip))
        (ACode.seq
          (ACode.reg l34r3)
          (ACode.seq
            (ACode.seq
              (ACode.reg l34r4)
              (ACode.cond (Operand.tmp 33)
                (ACode.seq
                  (ACode.reg l34r5)
                  ACode.ret)
                ACode.skip))
            (ACode.seq
              (ACode.reg l34r6)
              ACode.ret)))))
    [ARes.tmp 4])
theorem l34_eq : lowFn Try.prog 34 = some l34 := by kernel_rfl
def l35r0 : List AOper :=
  [AOper.mk (some 4) (AOp.mv (Operand.const (Value.int IntKind.i64 0))) none []]
def l35r1 : List AOper :=
  [AOper.mk (some 7) (AOp.mv (Operand.tmp 0)) none [], AOper.mk (some 8) (AOp.mv (Operand.tmp 1)) none [],
            AOper.mk (some 5) (AOp.mv (Operand.tmp 7)) none [0, 0],
            AOper.mk (some 6) (AOp.mv (Operand.tmp 8)) none [1, 2, 0, 1, 2]]
def l35r2 : List AOper :=
  [AOper.mk (some 9) (AOp.mv (Operand.tmp 6)) none [],
                      AOper.mk (some 10)
                        (AOp.bin BinOp.gtr (Operand.tmp 9) (Operand.const (Value.int IntKind.i64 0))) none
                        [0]]
def l35r3a : List AOper :=
  [AOper.mk (some 11) (AOp.mv (Operand.tmp 6)) none [], AOper.mk (some 12) (AOp.mv (Operand.tmp 5)) none [], AOper.mk (some 13) (AOp.mv (Operand.tmp 6)) none [], AOper.mk (some 14) (AOp.bin BinOp.rem (Operand.tmp 12) (Operand.tmp 13)) none [1, 2], AOper.mk (some 5) (AOp.mv (Operand.tmp 11)) none [0, 0, 1]]
def l35r3b : List AOper :=
  [AOper.mk (some 6) (AOp.mv (Operand.tmp 14)) none [3, 4, 0, 1, 2, 3, 4]]
def l35r3 : List AOper := l35r3a ++ l35r3b
def l35r4 : List AOper :=
  [AOper.mk (some 15) (AOp.mv (Operand.tmp 0)) none [], AOper.mk (some 16) (AOp.mv (Operand.tmp 5)) none [],
                AOper.mk (some 17) (AOp.bin BinOp.quo (Operand.tmp 15) (Operand.tmp 16)) none [0, 1],
                AOper.mk (some 18) (AOp.mv (Operand.tmp 1)) none [],
                AOper.mk (some 19) (AOp.bin BinOp.mul (Operand.tmp 17) (Operand.tmp 18)) none [2, 3],
                AOper.mk (some 4) (AOp.mv (Operand.tmp 19)) none [4, 0, 1, 2, 3, 4]]
def l35 : AFn :=
  (AFn.mk 20 2
    (ACode.seq (ACode.reg l35r0)
      (ACode.seq
        (ACode.reg l35r1)
        (ACode.seq
          (ACode.block 0
            (ACode.loop
              (ACode.seq
                (ACode.seq
                  (ACode.reg l35r2)
                  (ACode.cond (Operand.tmp 10) ACode.skip (ACode.exit 0)))
                (ACode.block 1
                  (ACode.draw l35r3)))))
          (ACode.seq
            (ACode.reg l35r4)
            ACode.ret))))
    [ARes.tmp 4])
theorem l35_eq : lowFn Try.prog 35 = some l35 := by kernel_rfl
def l36r0 : List AOper :=
  [AOper.mk (some 2) (AOp.mv (Operand.const (Value.bool false))) none []]
def l36r1 : List AOper :=
  [AOper.mk (some 3) (AOp.mv (Operand.tmp 0)) none [], AOper.mk (some 4) (AOp.len (Operand.tmp 3)) none [0],
            AOper.mk (some 5) (AOp.bin BinOp.leq (Operand.tmp 4) (Operand.const (Value.int IntKind.i64 4)))
              none [1],
            AOper.mk (some 6) (AOp.mv (Operand.tmp 5)) none [2],
            AOper.mk (some 7) (AOp.mv (Operand.tmp 0)) (some (6, true)) [3],
            AOper.mk (some 8)
              (AOp.call 37
                [Operand.tmp 7, Operand.const (Value.int IntKind.i64 0),
                  Operand.const (Value.int IntKind.i64 60)])
              (some (6, true)) [4, 3, 3],
            AOper.mk (some 9) (AOp.pick (Operand.tmp 6) (Operand.tmp 8) (Operand.const (Value.bool false))) none [3, 5],
            AOper.mk (some 10) (AOp.mv (Operand.tmp 9)) none [6, 5],
            AOper.mk (some 11) (AOp.mv (Operand.tmp 0)) (some (10, true)) [7],
            AOper.mk (some 12) (AOp.call 26 [Operand.tmp 11]) (some (10, true)) [8, 7, 7],
            AOper.mk (some 13)
              (AOp.bin BinOp.leq (Operand.tmp 12) (Operand.const (Value.int IntKind.i64 60)))
              (some (10, true)) [9, 7],
            AOper.mk (some 14) (AOp.pick (Operand.tmp 10) (Operand.tmp 13) (Operand.const (Value.bool false))) none
              [7, 10],
            AOper.mk (some 2) (AOp.mv (Operand.tmp 14)) none [11, 9, 0, 1, 2, 3, 4, 5, 6, 7, 8, 9, 10, 11]]
def l36 : AFn :=
  (AFn.mk 15 1
    (ACode.seq (ACode.reg l36r0)
      (ACode.seq
        (ACode.reg l36r1)
        ACode.ret))
    [ARes.tmp 2])
theorem l36_eq : lowFn Try.prog 36 = some l36 := by kernel_rfl
def l37r0 : List AOper :=
  [AOper.mk (some 6) (AOp.mv (Operand.const (Value.bool false))) none []]
def l37r1 : List AOper :=
  [AOper.mk (some 7) (AOp.mv (Operand.const (Value.int IntKind.i64 0))) none []]
def l37r2 : List AOper :=
  [AOper.mk (some 8) (AOp.mv (Operand.tmp 7)) none [],
                      AOper.mk (some 9) (AOp.mv (Operand.tmp 0)) none [],
                      AOper.mk (some 10) (AOp.len (Operand.tmp 9)) none [1],
                      AOper.mk (some 11) (AOp.bin BinOp.lss (Operand.tmp 8) (Operand.tmp 10)) none [0, 2]]
def l37r3 : List AOper :=
  [AOper.mk (some 14) (AOp.mv (Operand.tmp 0)) none [],
                          AOper.mk (some 15) (AOp.mv (Operand.tmp 7)) none [],
                          AOper.mk (some 16) (AOp.idxA 1 (Operand.tmp 14) (Operand.tmp 15)) none [0, 1],
                          AOper.mk (some 17) (AOp.load false 1 (Operand.tmp 16)) none [2],
                          AOper.mk (some 18) (AOp.mv (Operand.tmp 1)) none [],
                          AOper.mk (some 19) (AOp.mv (Operand.tmp 2)) none [],
                          AOper.mk (some 20) (AOp.call 38 [Operand.tmp 17, Operand.tmp 18, Operand.tmp 19]) none
                            [3, 4, 5],
                          AOper.mk (some 21) (AOp.un UnOp.not (Operand.tmp 20)) none [6]]
def l37r4 : List AOper :=
  [AOper.mk (some 6) (AOp.mv (Operand.const (Value.bool false))) none []]
def l37r5 : List AOper :=
  [AOper.mk (some 12) (AOp.mv (Operand.tmp 7)) none [],
                      AOper.mk (some 13)
                        (AOp.bin BinOp.add (Operand.tmp 12) (Operand.const (Value.int IntKind.i64 1))) none
                        [0],
                      AOper.mk (some 7) (AOp.mv (Operand.tmp 13)) none [1, 0, 1]]
def l37r6 : List AOper :=
  [AOper.mk (some 6) (AOp.mv (Operand.const (Value.bool true))) none []]
def l37 : AFn :=
  (AFn.mk 22 3
    (ACode.seq (ACode.reg l37r0)
      (ACode.seq
        (ACode.seq
          (ACode.reg l37r1)
          (ACode.block 0
            (ACode.loop
              (ACode.seq
                (ACode.seq
                  (ACode.reg l37r2)
                  (ACode.cond (Operand.tmp 11) ACode.skip (ACode.exit 0)))
                (ACode.seq
                  (ACode.block 1
                    (ACode.seq
                      (ACode.reg l37r3)
                      (ACode.cond (Operand.tmp 21)
                        (ACode.seq (ACode.reg l37r4)
                          ACode.ret)
                        ACode.skip)))
                  (ACode.reg l37r5))))))
        (ACode.seq (ACode.reg l37r6) ACode.ret)))
    [ARes.tmp 6])
theorem l37_eq : lowFn Try.prog 37 = some l37 := by kernel_rfl
def l38r0 : List AOper :=
  [AOper.mk (some 6) (AOp.mv (Operand.const (Value.bool false))) none []]
def l38r1 : List AOper :=
  [AOper.mk (some 7) (AOp.mv (Operand.tmp 1)) none [], AOper.mk (some 8) (AOp.mv (Operand.tmp 0)) none [],
            AOper.mk (some 9) (AOp.bin BinOp.leq (Operand.tmp 7) (Operand.tmp 8)) none [0, 1],
            AOper.mk (some 10) (AOp.mv (Operand.tmp 9)) none [2],
            AOper.mk (some 11) (AOp.mv (Operand.tmp 0)) (some (10, true)) [3],
            AOper.mk (some 12) (AOp.mv (Operand.tmp 2)) (some (10, true)) [3],
            AOper.mk (some 13) (AOp.bin BinOp.leq (Operand.tmp 11) (Operand.tmp 12)) (some (10, true)) [4, 5, 3],
            AOper.mk (some 14) (AOp.pick (Operand.tmp 10) (Operand.tmp 13) (Operand.const (Value.bool false))) none
              [3, 6],
            AOper.mk (some 6) (AOp.mv (Operand.tmp 14)) none [7, 3, 0, 1, 2, 3, 4, 5, 6, 7]]
def l38 : AFn :=
  (AFn.mk 15 3
    (ACode.seq (ACode.reg l38r0)
      (ACode.seq
        (ACode.reg l38r1)
        ACode.ret))
    [ARes.tmp 6])
theorem l38_eq : lowFn Try.prog 38 = some l38 := by kernel_rfl
def l42r0 : List AOper :=
  [AOper.mk (some 2) (AOp.box (Operand.tmp 0)) none [],
          AOper.mk (some 4) (AOp.mv (Operand.const (Value.int IntKind.i64 0))) none []]
def l42r1 : List AOper :=
  [AOper.mk (some 7) (AOp.fld 0 (Operand.tmp 2)) none [],
            AOper.mk (some 8) (AOp.load false 1 (Operand.tmp 7)) none [0],
            AOper.mk (some 5) (AOp.mv (Operand.tmp 8)) none [1, 0, 1]]
def l42r2 : List AOper :=
  [AOper.mk (some 6) (AOp.mv (Operand.const (Value.int IntKind.i64 0))) none []]
def l42r3 : List AOper :=
  [AOper.mk (some 9) (AOp.mv (Operand.tmp 6)) none [],
                        AOper.mk (some 10) (AOp.mv (Operand.tmp 1)) none [],
                        AOper.mk (some 11) (AOp.len (Operand.tmp 10)) none [1],
                        AOper.mk (some 12) (AOp.bin BinOp.lss (Operand.tmp 9) (Operand.tmp 11)) none [0, 2]]
def l42r4a : List AOper :=
  [AOper.mk (some 15) (AOp.mv (Operand.tmp 5)) none [], AOper.mk (some 16) (AOp.mv (Operand.tmp 1)) none [], AOper.mk (some 17) (AOp.mv (Operand.tmp 6)) none [], AOper.mk (some 18) (AOp.idxA 1 (Operand.tmp 16) (Operand.tmp 17)) none [1, 2], AOper.mk (some 19) (AOp.load false 1 (Operand.tmp 18)) none [3], AOper.mk (some 20) (AOp.fld 2 (Operand.tmp 2)) none [], AOper.mk (some 21) (AOp.load false 1 (Operand.tmp 20)) none [5], AOper.mk (some 22) (AOp.mv (Operand.tmp 6)) none [], AOper.mk (some 23) (AOp.idxA 1 (Operand.tmp 21) (Operand.tmp 22)) none [6, 7], AOper.mk (some 24) (AOp.load false 1 (Operand.tmp 23)) none [8], AOper.mk (some 25) (AOp.bin BinOp.mul (Operand.tmp 19) (Operand.tmp 24)) none [4, 9]]
def l42r4b : List AOper :=
  [AOper.mk (some 26) (AOp.bin BinOp.add (Operand.tmp 15) (Operand.tmp 25)) none [0, 10], AOper.mk (some 5) (AOp.mv (Operand.tmp 26)) none [11, 0, 1, 2, 3, 4, 5, 6, 7, 8, 9, 10, 11]]
def l42r4 : List AOper := l42r4a ++ l42r4b
def l42r5 : List AOper :=
  [AOper.mk (some 13) (AOp.mv (Operand.tmp 6)) none [],
                        AOper.mk (some 14)
                          (AOp.bin BinOp.add (Operand.tmp 13) (Operand.const (Value.int IntKind.i64 1)))
                          none [0],
                        AOper.mk (some 6) (AOp.mv (Operand.tmp 14)) none [1, 0, 1]]
def l42r6 : List AOper :=
  [AOper.mk (some 27) (AOp.mv (Operand.tmp 5)) none [],
                AOper.mk (some 4) (AOp.mv (Operand.tmp 27)) none [0, 0]]
def l42 : AFn :=
  (AFn.mk 28 2
    (ACode.seq
      (ACode.reg l42r0)
      (ACode.seq
        (ACode.reg l42r1)
        (ACode.seq
          (ACode.seq
            (ACode.reg l42r2)
            (ACode.block 0
              (ACode.loop
                (ACode.seq
                  (ACode.seq
                    (ACode.reg l42r3)
                    (ACode.cond (Operand.tmp 12) ACode.skip (ACode.exit 0)))
                  (ACode.seq
                    (ACode.block 1
                      (ACode.draw l42r4))
                    (ACode.reg l42r5))))))
          (ACode.seq
            (ACode.reg l42r6)
            ACode.ret))))
    [ARes.tmp 4])
theorem l42_eq : lowFn Try.prog 42 = some l42 := by kernel_rfl
def l43r0 : List AOper :=
  [AOper.mk (some 4) (AOp.mv (Operand.const (Value.slice none 0 0))) none []]
def l43r1 : List AOper :=
  [AOper.mk (some 7) (AOp.mv (Operand.tmp 0)) none [], AOper.mk (some 8) (AOp.len (Operand.tmp 7)) none [0],
            AOper.mk (some 9) (AOp.mkslice 1 [Value.int IntKind.i64 0] (Operand.tmp 8) (Operand.tmp 8)) none
              [1, 1],
            AOper.mk (some 5) (AOp.mv (Operand.tmp 9)) none [2, 0, 1, 2]]
def l43r2 : List AOper :=
  [AOper.mk (some 10) (AOp.mv (Operand.tmp 0)) none [],
                AOper.mk (some 11) (AOp.len (Operand.tmp 10)) none [0],
                AOper.mk (some 12)
                  (AOp.bin BinOp.sub (Operand.tmp 11) (Operand.const (Value.int IntKind.i64 1))) none [1],
                AOper.mk (some 6) (AOp.mv (Operand.tmp 12)) none [2, 0, 1, 2]]
def l43r3 : List AOper :=
  [AOper.mk (some 13) (AOp.mv (Operand.tmp 6)) none [],
                        AOper.mk (some 14)
                          (AOp.bin BinOp.geq (Operand.tmp 13) (Operand.const (Value.int IntKind.i64 0)))
                          none [0]]
def l43r4 : List AOper :=
  [AOper.mk (some 17) (AOp.mv (Operand.tmp 5)) none [],
                            AOper.mk (some 18) (AOp.mv (Operand.tmp 6)) none [],
                            AOper.mk (some 19) (AOp.mv (Operand.tmp 1)) none [],
                            AOper.mk (some 20) (AOp.mv (Operand.tmp 0)) none [],
                            AOper.mk (some 21) (AOp.mv (Operand.tmp 6)) none [],
                            AOper.mk (some 22) (AOp.idxA 1 (Operand.tmp 20) (Operand.tmp 21)) none [3, 4],
                            AOper.mk (some 23) (AOp.load false 1 (Operand.tmp 22)) none [5],
                            AOper.mk (some 24) (AOp.bin BinOp.rem (Operand.tmp 19) (Operand.tmp 23)) none [2, 6],
                            AOper.mk (some 25) (AOp.idxA 1 (Operand.tmp 17) (Operand.tmp 18)) none
                              [0, 1, 0, 1, 2, 3, 4, 5, 6, 7],
                            AOper.mk none (AOp.store 1 (Operand.tmp 25) (Operand.tmp 24)) none
                              [8, 7, 0, 1, 2, 3, 4, 5, 6, 7]]
def l43r5 : List AOper :=
  [AOper.mk (some 26) (AOp.mv (Operand.tmp 1)) none [],
                            AOper.mk (some 27) (AOp.mv (Operand.tmp 0)) none [],
                            AOper.mk (some 28) (AOp.mv (Operand.tmp 6)) none [],
                            AOper.mk (some 29) (AOp.idxA 1 (Operand.tmp 27) (Operand.tmp 28)) none [1, 2],
                            AOper.mk (some 30) (AOp.load false 1 (Operand.tmp 29)) none [3],
                            AOper.mk (some 31) (AOp.bin BinOp.quo (Operand.tmp 26) (Operand.tmp 30)) none [0, 4],
                            AOper.mk (some 1) (AOp.mv (Operand.tmp 31)) none [5, 0, 1, 2, 3, 4, 5]]
def l43r6 : List AOper :=
  [AOper.mk (some 15) (AOp.mv (Operand.tmp 6)) none [],
                        AOper.mk (some 16)
                          (AOp.bin BinOp.sub (Operand.tmp 15) (Operand.const (Value.int IntKind.i64 1)))
                          none [0],
                        AOper.mk (some 6) (AOp.mv (Operand.tmp 16)) none [1, 0, 1]]
def l43r7 : List AOper :=
  [AOper.mk (some 32) (AOp.mv (Operand.tmp 5)) none [],
                AOper.mk (some 4) (AOp.mv (Operand.tmp 32)) none [0, 0]]
def l43 : AFn :=
  (AFn.mk 33 2
    (ACode.seq (ACode.reg l43r0)
      (ACode.seq
        (ACode.reg l43r1)
        (ACode.seq
          (ACode.seq
            (ACode.reg l43r2)
            (ACode.block 0
              (ACode.loop
                (ACode.seq
                  (ACode.seq
                    (ACode.reg l43r3)
                    (ACode.cond (Operand.tmp 14) ACode.skip (ACode.exit 0)))
                  (ACode.seq
                    (ACode.block 1
                      (ACode.seq
                        (ACode.reg l43r4)
                        (ACode.reg l43r5)))
                    (ACode.reg l43r6))))))
          (ACode.seq
            (ACode.reg l43r7)
            ACode.ret))))
    [ARes.tmp 4])
theorem l43_eq : lowFn Try.prog 43 = some l43 := by kernel_rfl
def l44r0 : List AOper :=
  [AOper.mk (some 2) (AOp.mv (Operand.const (Value.int IntKind.i64 0))) none []]
def l44r1 : List AOper :=
  [AOper.mk (some 3) (AOp.mv (Operand.const (Value.int IntKind.i64 1))) none []]
def l44r2 : List AOper :=
  [AOper.mk (some 6) (AOp.mv (Operand.tmp 0)) none [], AOper.mk (some 7) (AOp.len (Operand.tmp 6)) none [0],
                AOper.mk (some 8) (AOp.mv (Operand.const (Value.int IntKind.i64 0))) none []]
def l44r3 : List AOper :=
  [AOper.mk (some 9) (AOp.bin BinOp.lss (Operand.tmp 8) (Operand.tmp 7)) none []]
def l44r4 : List AOper :=
  [AOper.mk (some 10) (AOp.idxA 1 (Operand.tmp 6) (Operand.tmp 8)) none [],
                              AOper.mk (some 11) (AOp.load false 1 (Operand.tmp 10)) none [0],
                              AOper.mk (some 5) (AOp.mv (Operand.tmp 11)) none [1, 0, 1]]
def l44r5 : List AOper :=
  [AOper.mk (some 12) (AOp.mv (Operand.tmp 3)) none [],
                              AOper.mk (some 13) (AOp.mv (Operand.tmp 5)) none [],
                              AOper.mk (some 14) (AOp.bin BinOp.mul (Operand.tmp 12) (Operand.tmp 13)) none [0, 1],
                              AOper.mk (some 3) (AOp.mv (Operand.tmp 14)) none [2, 0, 1, 2]]
def l44r6 : List AOper :=
  [AOper.mk (some 15)
                            (AOp.bin BinOp.add (Operand.tmp 8) (Operand.const (Value.int IntKind.i64 1)))
                            none [],
                          AOper.mk (some 8) (AOp.mv (Operand.tmp 15)) none [0]]
def l44r7 : List AOper :=
  [AOper.mk (some 16) (AOp.mv (Operand.tmp 3)) none [],
                AOper.mk (some 2) (AOp.mv (Operand.tmp 16)) none [0, 0]]
def l44 : AFn :=
  (AFn.mk 17 1
    (ACode.seq (ACode.reg l44r0)
      (ACode.seq (ACode.reg l44r1)
        (ACode.seq
          (ACode.seq
            (ACode.reg l44r2)
            (ACode.block 0
              (ACode.loop
                (ACode.seq (ACode.reg l44r3)
                  (ACode.seq (ACode.cond (Operand.tmp 9) ACode.skip (ACode.exit 0))
                    (ACode.seq
                      (ACode.block 1
                        (ACode.seq
                          (ACode.reg l44r4)
                          (ACode.reg l44r5)))
                      (ACode.reg l44r6)))))))
          (ACode.seq
            (ACode.reg l44r7)
            ACode.ret))))
    [ARes.tmp 2])
theorem l44_eq : lowFn Try.prog 44 = some l44 := by kernel_rfl
def l45r0 : List AOper :=
  [AOper.mk (some 4) (AOp.mv (Operand.const (Value.bool false))) none []]
def l45r1 : List AOper :=
  [AOper.mk (some 5) (AOp.mv (Operand.tmp 1)) none [],
            AOper.mk (some 6) (AOp.un UnOp.neg (Operand.tmp 5)) none [0],
            AOper.mk (some 7) (AOp.mv (Operand.tmp 0)) none [],
            AOper.mk (some 8) (AOp.bin BinOp.leq (Operand.tmp 6) (Operand.tmp 7)) none [1, 2],
            AOper.mk (some 9) (AOp.mv (Operand.tmp 8)) none [3],
            AOper.mk (some 10) (AOp.mv (Operand.tmp 0)) (some (9, true)) [4],
            AOper.mk (some 11) (AOp.mv (Operand.tmp 1)) (some (9, true)) [4],
            AOper.mk (some 12) (AOp.bin BinOp.leq (Operand.tmp 10) (Operand.tmp 11)) (some (9, true)) [5, 6, 4],
            AOper.mk (some 13) (AOp.pick (Operand.tmp 9) (Operand.tmp 12) (Operand.const (Value.bool false))) none
              [4, 7],
            AOper.mk (some 4) (AOp.mv (Operand.tmp 13)) none [8, 4, 0, 1, 2, 3, 4, 5, 6, 7, 8]]
def l45 : AFn :=
  (AFn.mk 14 2
    (ACode.seq (ACode.reg l45r0)
      (ACode.seq
        (ACode.reg l45r1)
        ACode.ret))
    [ARes.tmp 4])
theorem l45_eq : lowFn Try.prog 45 = some l45 := by kernel_rfl
end Go.Proofs.Ytldchedgdllckaa
