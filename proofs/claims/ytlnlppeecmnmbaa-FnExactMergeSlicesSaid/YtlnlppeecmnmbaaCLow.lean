import Derived.Test.YtlnlppeecmnmbaaCVwR
import Derived.Test.YtlnlppeecmnmbaaProg
import Derived.KernelRfl
set_option maxRecDepth 100000
namespace Go.Proofs.Ytlnlppeecmnmbaa
open Vw Go
def l3r0 : List AOper :=
  [AOper.mk (some 1) (AOp.box (Operand.tmp 0)) none [],
          AOper.mk (some 2) (AOp.mv (Operand.const (Value.bool false))) none []]
def l3r1 : List AOper :=
  [AOper.mk (some 8) (AOp.load true 3 (Operand.tmp 1)) none [],
            AOper.mk (some 9) (AOp.call 11 [Operand.tmp 8]) none [0],
            AOper.mk (some 10) (AOp.call 10 [Operand.tmp 9]) none [1, 1],
            AOper.mk (some 3) (AOp.mv (Operand.tmp 10)) none [2, 2, 0, 1, 2]]
def l3r2 : List AOper :=
  [AOper.mk (some 11) (AOp.load true 3 (Operand.tmp 1)) none [],
              AOper.mk (some 12) (AOp.call 11 [Operand.tmp 11]) none [0],
              AOper.mk (some 13) (AOp.call 12 [Operand.tmp 12]) none [1, 1],
              AOper.mk (some 4) (AOp.mv (Operand.tmp 13)) none [2, 2, 0, 1, 2]]
def l3r3 : List AOper :=
  [AOper.mk (some 14) (AOp.mv (Operand.tmp 4)) none [],
                  AOper.mk (some 15) (AOp.mv (Operand.tmp 3)) none [],
                  AOper.mk (some 16) (AOp.call 13 [Operand.tmp 14, Operand.tmp 15]) none [0, 1],
                  AOper.mk (some 17) (AOp.un UnOp.not (Operand.tmp 16)) none [2]]
def l3r4 : List AOper :=
  [AOper.mk (some 2) (AOp.mv (Operand.const (Value.bool false))) none []]
def l3r5 : List AOper :=
  [AOper.mk (some 5) (AOp.mv (Operand.const (Value.int IntKind.i64 1))) none []]
def l3r6 : List AOper :=
  [AOper.mk (some 18) (AOp.mv (Operand.tmp 4)) none [],
                    AOper.mk (some 19) (AOp.mv (Operand.tmp 5)) none [],
                    AOper.mk (some 20) (AOp.call 14 [Operand.tmp 18, Operand.tmp 19]) none [0, 1],
                    AOper.mk (some 5) (AOp.mv (Operand.tmp 20)) none [2, 2, 0, 1, 2]]
def l3r7 : List AOper :=
  [AOper.mk (some 6) (AOp.mv (Operand.const (Value.int IntKind.i64 1))) none []]
def l3r8 : List AOper :=
  [AOper.mk (some 21) (AOp.mv (Operand.tmp 4)) none [],
                        AOper.mk (some 22) (AOp.mv (Operand.tmp 6)) none [],
                        AOper.mk (some 23) (AOp.call 15 [Operand.tmp 21, Operand.tmp 22]) none [0, 1],
                        AOper.mk (some 6) (AOp.mv (Operand.tmp 23)) none [2, 2, 0, 1, 2]]
def l3r9 : List AOper :=
  [AOper.mk (some 24) (AOp.mv (Operand.tmp 6)) none [],
                            AOper.mk (some 25)
                              (AOp.bin BinOp.lss (Operand.tmp 24) (Operand.const (Value.int IntKind.i64 0)))
                              none [0]]
def l3r10 : List AOper :=
  [AOper.mk (some 2) (AOp.mv (Operand.const (Value.bool false))) none []]
def l3r11 : List AOper :=
  [AOper.mk (some 26) (AOp.mv (Operand.tmp 6)) none [],
                              AOper.mk (some 27) (AOp.mv (Operand.tmp 5)) none [],
                              AOper.mk (some 28) (AOp.bin BinOp.neq (Operand.tmp 26) (Operand.tmp 27)) none [0, 1]]
def l3r12 : List AOper :=
  [AOper.mk (some 2) (AOp.mv (Operand.const (Value.bool false))) none []]
def l3r13 : List AOper :=
  [AOper.mk (some 29) (AOp.load true 3 (Operand.tmp 1)) none [],
                              AOper.mk (some 30) (AOp.call 11 [Operand.tmp 29]) none [0],
                              AOper.mk (some 31) (AOp.call 12 [Operand.tmp 30]) none [1, 1],
                              AOper.mk (some 7) (AOp.mv (Operand.tmp 31)) none [2, 2, 0, 1, 2]]
def l3r14 : List AOper :=
  [AOper.mk (some 32) (AOp.mv (Operand.tmp 7)) none [],
                                  AOper.mk (some 33) (AOp.mv (Operand.tmp 3)) none [],
                                  AOper.mk (some 34) (AOp.call 13 [Operand.tmp 32, Operand.tmp 33]) none [0, 1],
                                  AOper.mk (some 35) (AOp.un UnOp.not (Operand.tmp 34)) none [2]]
def l3r15 : List AOper :=
  [AOper.mk (some 2) (AOp.mv (Operand.const (Value.bool false))) none []]
def l3r16 : List AOper :=
  [AOper.mk (some 6) (AOp.mv (Operand.const (Value.int IntKind.i64 1))) none
                                    []]
def l3r17 : List AOper :=
  [AOper.mk (some 36) (AOp.mv (Operand.tmp 4)) none [],
                                    AOper.mk (some 37) (AOp.mv (Operand.tmp 6)) none [],
                                    AOper.mk (some 38) (AOp.call 15 [Operand.tmp 36, Operand.tmp 37]) none [0, 1],
                                    AOper.mk (some 6) (AOp.mv (Operand.tmp 38)) none [2, 2, 0, 1, 2]]
def l3r18 : List AOper :=
  [AOper.mk (some 39) (AOp.mv (Operand.tmp 6)) none [],
                                        AOper.mk (some 40)
                                          (AOp.bin BinOp.lss (Operand.tmp 39)
                                            (Operand.const (Value.int IntKind.i64 0)))
                                          none [0]]
def l3r19 : List AOper :=
  [AOper.mk (some 2) (AOp.mv (Operand.const (Value.bool false))) none []]
def l3r20 : List AOper :=
  [AOper.mk (some 41) (AOp.mv (Operand.tmp 6)) none [],
                                          AOper.mk (some 42) (AOp.mv (Operand.tmp 5)) none [],
                                          AOper.mk (some 43) (AOp.bin BinOp.neq (Operand.tmp 41) (Operand.tmp 42)) none
                                            [0, 1]]
def l3r21 : List AOper :=
  [AOper.mk (some 2) (AOp.mv (Operand.const (Value.bool false))) none []]
def l3r22 : List AOper :=
  [AOper.mk (some 2) (AOp.mv (Operand.const (Value.bool true))) none []]
def l3 : AFn :=
  (AFn.mk 44 1
    (ACode.seq
      (ACode.reg l3r0)
      (ACode.seq
        (ACode.reg l3r1)
        (ACode.seq
          (ACode.reg l3r2)
          (ACode.seq
            (ACode.seq
              (ACode.reg l3r3)
              (ACode.cond (Operand.tmp 17)
                (ACode.seq (ACode.reg l3r4)
                  ACode.ret)
                ACode.skip))
            (ACode.seq
              (ACode.reg l3r5)
              (ACode.seq
                (ACode.reg l3r6)
                (ACode.seq
                  (ACode.reg l3r7)
                  (ACode.seq
                    (ACode.reg l3r8)
                    (ACode.seq
                      (ACode.seq
                        (ACode.reg l3r9)
                        (ACode.cond (Operand.tmp 25)
                          (ACode.seq (ACode.reg l3r10)
                            ACode.ret)
                          ACode.skip))
                      (ACode.seq
                        (ACode.seq
                          (ACode.reg l3r11)
                          (ACode.cond (Operand.tmp 28)
                            (ACode.seq
                              (ACode.reg l3r12)
                              ACode.ret)
                            ACode.skip))
                        (ACode.seq
                          (ACode.reg l3r13)
                          (ACode.seq
                            (ACode.seq
                              (ACode.reg l3r14)
                              (ACode.cond (Operand.tmp 35)
                                (ACode.seq
                                  (ACode.reg l3r15)
                                  ACode.ret)
                                ACode.skip))
                            (ACode.seq
                              (ACode.reg l3r16)
                              (ACode.seq
                                (ACode.reg l3r17)
                                (ACode.seq
                                  (ACode.seq
                                    (ACode.reg l3r18)
                                    (ACode.cond (Operand.tmp 40)
                                      (ACode.seq
                                        (ACode.reg l3r19)
                                        ACode.ret)
                                      ACode.skip))
                                  (ACode.seq
                                    (ACode.seq
                                      (ACode.reg l3r20)
                                      (ACode.cond (Operand.tmp 43)
                                        (ACode.seq
                                          (ACode.reg l3r21)
                                          ACode.ret)
                                        ACode.skip))
                                    (ACode.seq
                                      (ACode.reg l3r22)
                                      ACode.ret)))))))))))))))))
    [ARes.tmp 2])
theorem l3_eq : lowFn Try.prog 3 = some l3 := by kernel_rfl
def l4r0 : List AOper :=
  [AOper.mk (some 3) (AOp.box (Operand.tmp 1)) none [],
          AOper.mk (some 4) (AOp.mv (Operand.const (Value.bool false))) none []]
def l4r1 : List AOper :=
  [AOper.mk (some 10) (AOp.mv (Operand.tmp 0)) none [],
            AOper.mk (some 11) (AOp.load true 5 (Operand.tmp 3)) none [],
            AOper.mk (some 12) (AOp.call 17 [Operand.tmp 11]) none [1],
            AOper.mk (some 13) (AOp.call 16 [Operand.tmp 10, Operand.tmp 12]) none [0, 2, 2],
            AOper.mk (some 5) (AOp.mv (Operand.tmp 13)) none [3, 3, 0, 1, 2, 3]]
def l4r2 : List AOper :=
  [AOper.mk (some 14) (AOp.mv (Operand.tmp 0)) none [],
              AOper.mk (some 15) (AOp.load true 5 (Operand.tmp 3)) none [],
              AOper.mk (some 16) (AOp.call 17 [Operand.tmp 15]) none [1],
              AOper.mk (some 17) (AOp.call 18 [Operand.tmp 14, Operand.tmp 16]) none [0, 2, 2],
              AOper.mk (some 6) (AOp.mv (Operand.tmp 17)) none [3, 3, 0, 1, 2, 3]]
def l4r3 : List AOper :=
  [AOper.mk (some 18) (AOp.mv (Operand.tmp 6)) none [],
                  AOper.mk (some 19) (AOp.mv (Operand.tmp 5)) none [],
                  AOper.mk (some 20) (AOp.call 13 [Operand.tmp 18, Operand.tmp 19]) none [0, 1],
                  AOper.mk (some 21) (AOp.un UnOp.not (Operand.tmp 20)) none [2]]
def l4r4 : List AOper :=
  [AOper.mk (some 4) (AOp.mv (Operand.const (Value.bool false))) none []]
def l4r5 : List AOper :=
  [AOper.mk (some 7) (AOp.mv (Operand.const (Value.int IntKind.i64 1))) none []]
def l4r6 : List AOper :=
  [AOper.mk (some 22) (AOp.mv (Operand.tmp 6)) none [],
                    AOper.mk (some 23) (AOp.mv (Operand.tmp 7)) none [],
                    AOper.mk (some 24) (AOp.call 14 [Operand.tmp 22, Operand.tmp 23]) none [0, 1],
                    AOper.mk (some 7) (AOp.mv (Operand.tmp 24)) none [2, 2, 0, 1, 2]]
def l4r7 : List AOper :=
  [AOper.mk (some 8) (AOp.mv (Operand.const (Value.int IntKind.i64 1))) none []]
def l4r8 : List AOper :=
  [AOper.mk (some 25) (AOp.mv (Operand.tmp 6)) none [],
                        AOper.mk (some 26) (AOp.mv (Operand.tmp 8)) none [],
                        AOper.mk (some 27) (AOp.call 15 [Operand.tmp 25, Operand.tmp 26]) none [0, 1],
                        AOper.mk (some 8) (AOp.mv (Operand.tmp 27)) none [2, 2, 0, 1, 2]]
def l4r9 : List AOper :=
  [AOper.mk (some 28) (AOp.mv (Operand.tmp 8)) none [],
                            AOper.mk (some 29)
                              (AOp.bin BinOp.lss (Operand.tmp 28) (Operand.const (Value.int IntKind.i64 0)))
                              none [0]]
def l4r10 : List AOper :=
  [AOper.mk (some 4) (AOp.mv (Operand.const (Value.bool false))) none []]
def l4r11 : List AOper :=
  [AOper.mk (some 30) (AOp.mv (Operand.tmp 8)) none [],
                              AOper.mk (some 31) (AOp.mv (Operand.tmp 7)) none [],
                              AOper.mk (some 32) (AOp.bin BinOp.neq (Operand.tmp 30) (Operand.tmp 31)) none [0, 1]]
def l4r12 : List AOper :=
  [AOper.mk (some 4) (AOp.mv (Operand.const (Value.bool false))) none []]
def l4r13 : List AOper :=
  [AOper.mk (some 33) (AOp.mv (Operand.tmp 0)) none [],
                              AOper.mk (some 34) (AOp.load true 5 (Operand.tmp 3)) none [],
                              AOper.mk (some 35) (AOp.call 17 [Operand.tmp 34]) none [1],
                              AOper.mk (some 36) (AOp.call 18 [Operand.tmp 33, Operand.tmp 35]) none [0, 2, 2],
                              AOper.mk (some 9) (AOp.mv (Operand.tmp 36)) none [3, 3, 0, 1, 2, 3]]
def l4r14 : List AOper :=
  [AOper.mk (some 37) (AOp.mv (Operand.tmp 9)) none [],
                                  AOper.mk (some 38) (AOp.mv (Operand.tmp 5)) none [],
                                  AOper.mk (some 39) (AOp.call 13 [Operand.tmp 37, Operand.tmp 38]) none [0, 1],
                                  AOper.mk (some 40) (AOp.un UnOp.not (Operand.tmp 39)) none [2]]
def l4r15 : List AOper :=
  [AOper.mk (some 4) (AOp.mv (Operand.const (Value.bool false))) none []]
def l4r16 : List AOper :=
  [AOper.mk (some 8) (AOp.mv (Operand.const (Value.int IntKind.i64 1))) none
                                    []]
def l4r17 : List AOper :=
  [AOper.mk (some 41) (AOp.mv (Operand.tmp 6)) none [],
                                    AOper.mk (some 42) (AOp.mv (Operand.tmp 8)) none [],
                                    AOper.mk (some 43) (AOp.call 15 [Operand.tmp 41, Operand.tmp 42]) none [0, 1],
                                    AOper.mk (some 8) (AOp.mv (Operand.tmp 43)) none [2, 2, 0, 1, 2]]
def l4r18 : List AOper :=
  [AOper.mk (some 44) (AOp.mv (Operand.tmp 8)) none [],
                                        AOper.mk (some 45)
                                          (AOp.bin BinOp.lss (Operand.tmp 44)
                                            (Operand.const (Value.int IntKind.i64 0)))
                                          none [0]]
def l4r19 : List AOper :=
  [AOper.mk (some 4) (AOp.mv (Operand.const (Value.bool false))) none []]
def l4r20 : List AOper :=
  [AOper.mk (some 46) (AOp.mv (Operand.tmp 8)) none [],
                                          AOper.mk (some 47) (AOp.mv (Operand.tmp 7)) none [],
                                          AOper.mk (some 48) (AOp.bin BinOp.neq (Operand.tmp 46) (Operand.tmp 47)) none
                                            [0, 1]]
def l4r21 : List AOper :=
  [AOper.mk (some 4) (AOp.mv (Operand.const (Value.bool false))) none []]
def l4r22 : List AOper :=
  [AOper.mk (some 4) (AOp.mv (Operand.const (Value.bool true))) none []]
def l4 : AFn :=
  (AFn.mk 49 2
    (ACode.seq
      (ACode.reg l4r0)
      (ACode.seq
        (ACode.reg l4r1)
        (ACode.seq
          (ACode.reg l4r2)
          (ACode.seq
            (ACode.seq
              (ACode.reg l4r3)
              (ACode.cond (Operand.tmp 21)
                (ACode.seq (ACode.reg l4r4)
                  ACode.ret)
                ACode.skip))
            (ACode.seq
              (ACode.reg l4r5)
              (ACode.seq
                (ACode.reg l4r6)
                (ACode.seq
                  (ACode.reg l4r7)
                  (ACode.seq
                    (ACode.reg l4r8)
                    (ACode.seq
                      (ACode.seq
                        (ACode.reg l4r9)
                        (ACode.cond (Operand.tmp 29)
                          (ACode.seq (ACode.reg l4r10)
                            ACode.ret)
                          ACode.skip))
                      (ACode.seq
                        (ACode.seq
                          (ACode.reg l4r11)
                          (ACode.cond (Operand.tmp 32)
                            (ACode.seq
                              (ACode.reg l4r12)
                              ACode.ret)
                            ACode.skip))
                        (ACode.seq
                          (ACode.reg l4r13)
                          (ACode.seq
                            (ACode.seq
                              (ACode.reg l4r14)
                              (ACode.cond (Operand.tmp 40)
                                (ACode.seq
                                  (ACode.reg l4r15)
                                  ACode.ret)
                                ACode.skip))
                            (ACode.seq
                              (ACode.reg l4r16)
                              (ACode.seq
                                (ACode.reg l4r17)
                                (ACode.seq
                                  (ACode.seq
                                    (ACode.reg l4r18)
                                    (ACode.cond (Operand.tmp 45)
                                      (ACode.seq
                                        (ACode.reg l4r19)
                                        ACode.ret)
                                      ACode.skip))
                                  (ACode.seq
                                    (ACode.seq
                                      (ACode.reg l4r20)
                                      (ACode.cond (Operand.tmp 48)
                                        (ACode.seq
                                          (ACode.reg l4r21)
                                          ACode.ret)
                                        ACode.skip))
                                    (ACode.seq
                                      (ACode.reg l4r22)
                                      ACode.ret)))))))))))))))))
    [ARes.tmp 4])
theorem l4_eq : lowFn Try.prog 4 = some l4 := by kernel_rfl
def l5r0 : List AOper :=
  [AOper.mk (some 2) (AOp.box (Operand.tmp 0)) none [], AOper.mk (some 3) (AOp.box (Operand.tmp 1)) none [],
          AOper.mk (some 4) (AOp.mv (Operand.const (Value.bool false))) none []]
def l5r1a : List AOper :=
  [AOper.mk (some 7) (AOp.load true 3 (Operand.tmp 2)) none [], AOper.mk (some 8) (AOp.call 11 [Operand.tmp 7]) none [0], AOper.mk (some 9) (AOp.load true 5 (Operand.tmp 3)) none [], AOper.mk (some 10) (AOp.call 17 [Operand.tmp 9]) none [2, 1], AOper.mk (some 11) (AOp.call 19 [Operand.tmp 8, Operand.tmp 10]) none [1, 3, 3], AOper.mk (some 5)
              (AOp.alloc
                [Value.int IntKind.i64 0, Value.int IntKind.i64 0,
                  Value.int IntKind.i64 0])
              none []]
def l5r1b : List AOper :=
  [AOper.mk none (AOp.store 3 (Operand.tmp 5) (Operand.tmp 11)) none [5, 4, 4, 0, 1, 2, 3, 4, 5]]
def l5r1 : List AOper := l5r1a ++ l5r1b
def l5r2a : List AOper :=
  [AOper.mk (some 12) (AOp.load true 3 (Operand.tmp 2)) none [], AOper.mk (some 13) (AOp.call 11 [Operand.tmp 12]) none [0], AOper.mk (some 14) (AOp.load true 5 (Operand.tmp 3)) none [], AOper.mk (some 15) (AOp.call 17 [Operand.tmp 14]) none [2, 1], AOper.mk (some 16) (AOp.call 20 [Operand.tmp 13, Operand.tmp 15]) none [1, 3, 3], AOper.mk (some 6)
                (AOp.alloc
                  [Value.int IntKind.i64 0, Value.int IntKind.i64 0,
                    Value.int IntKind.i64 0])
                none []]
def l5r2b : List AOper :=
  [AOper.mk none (AOp.store 3 (Operand.tmp 6) (Operand.tmp 16)) none [5, 4, 4, 0, 1, 2, 3, 4, 5]]
def l5r2 : List AOper := l5r2a ++ l5r2b
def l5r3 : List AOper :=
  [AOper.mk (some 17) (AOp.load true 3 (Operand.tmp 6)) none [],
                  AOper.mk (some 18) (AOp.load true 3 (Operand.tmp 5)) none [],
                  AOper.mk (some 19) (AOp.call 21 [Operand.tmp 17, Operand.tmp 18]) none [0, 1],
                  AOper.mk (some 20) (AOp.un UnOp.not (Operand.tmp 19)) none [2]]
def l5r4 : List AOper :=
  [AOper.mk (some 4) (AOp.mv (Operand.const (Value.bool false))) none []]
def l5r5 : List AOper :=
  [AOper.mk (some 4) (AOp.mv (Operand.const (Value.bool true))) none []]
def l5 : AFn :=
  (AFn.mk 21 2
    (ACode.seq
      (ACode.reg l5r0)
      (ACode.seq
        (ACode.draw l5r1)
        (ACode.seq
          (ACode.draw l5r2)
          (ACode.seq
            (ACode.seq
              (ACode.reg l5r3)
              (ACode.cond (Operand.tmp 20)
                (ACode.seq (ACode.reg l5r4)
                  ACode.ret)
                ACode.skip))
            (ACode.seq (ACode.reg l5r5) ACode.ret)))))
    [ARes.tmp 4])
theorem l5_eq : lowFn Try.prog 5 = some l5 := by kernel_rfl
def l6r0 : List AOper :=
  [AOper.mk (some 4) (AOp.box (Operand.tmp 1)) none [], AOper.mk (some 5) (AOp.box (Operand.tmp 2)) none [],
          AOper.mk (some 6) (AOp.mv (Operand.const (Value.bool false))) none []]
def l6r1a : List AOper :=
  [AOper.mk (some 9) (AOp.mv (Operand.tmp 0)) none [], AOper.mk (some 10) (AOp.load true 5 (Operand.tmp 4)) none [], AOper.mk (some 11) (AOp.call 17 [Operand.tmp 10]) none [1], AOper.mk (some 12) (AOp.load true 5 (Operand.tmp 5)) none [], AOper.mk (some 13) (AOp.call 17 [Operand.tmp 12]) none [3, 2], AOper.mk (some 14) (AOp.call 22 [Operand.tmp 9, Operand.tmp 11, Operand.tmp 13]) none [0, 2, 4, 4], AOper.mk (some 7)
              (AOp.alloc
                [Value.int IntKind.i64 0, Value.int IntKind.i64 0,
                  Value.int IntKind.i64 0, Value.bool false, Value.bool false])
              none []]
def l6r1b : List AOper :=
  [AOper.mk none (AOp.store 5 (Operand.tmp 7) (Operand.tmp 14)) none [6, 5, 5, 0, 1, 2, 3, 4, 5, 6]]
def l6r1 : List AOper := l6r1a ++ l6r1b
def l6r2a : List AOper :=
  [AOper.mk (some 15) (AOp.mv (Operand.tmp 0)) none [], AOper.mk (some 16) (AOp.load true 5 (Operand.tmp 4)) none [], AOper.mk (some 17) (AOp.call 17 [Operand.tmp 16]) none [1], AOper.mk (some 18) (AOp.load true 5 (Operand.tmp 5)) none [], AOper.mk (some 19) (AOp.call 17 [Operand.tmp 18]) none [3, 2], AOper.mk (some 20) (AOp.call 23 [Operand.tmp 15, Operand.tmp 17, Operand.tmp 19]) none [0, 2, 4, 4], AOper.mk (some 8)
                (AOp.alloc
                  [Value.int IntKind.i64 0, Value.int IntKind.i64 0,
                    Value.int IntKind.i64 0, Value.bool false, Value.bool false])
                none []]
def l6r2b : List AOper :=
  [AOper.mk none (AOp.store 5 (Operand.tmp 8) (Operand.tmp 20)) none [6, 5, 5, 0, 1, 2, 3, 4, 5, 6]]
def l6r2 : List AOper := l6r2a ++ l6r2b
def l6r3 : List AOper :=
  [AOper.mk (some 21) (AOp.load true 5 (Operand.tmp 8)) none [],
                  AOper.mk (some 22) (AOp.load true 5 (Operand.tmp 7)) none [],
                  AOper.mk (some 23) (AOp.call 24 [Operand.tmp 21, Operand.tmp 22]) none [0, 1],
                  AOper.mk (some 24) (AOp.un UnOp.not (Operand.tmp 23)) none [2]]
def l6r4 : List AOper :=
  [AOper.mk (some 6) (AOp.mv (Operand.const (Value.bool false))) none []]
def l6r5 : List AOper :=
  [AOper.mk (some 6) (AOp.mv (Operand.const (Value.bool true))) none []]
def l6 : AFn :=
  (AFn.mk 25 3
    (ACode.seq
      (ACode.reg l6r0)
      (ACode.seq
        (ACode.draw l6r1)
        (ACode.seq
          (ACode.draw l6r2)
          (ACode.seq
            (ACode.seq
              (ACode.reg l6r3)
              (ACode.cond (Operand.tmp 24)
                (ACode.seq (ACode.reg l6r4)
                  ACode.ret)
                ACode.skip))
            (ACode.seq (ACode.reg l6r5) ACode.ret)))))
    [ARes.tmp 6])
theorem l6_eq : lowFn Try.prog 6 = some l6 := by kernel_rfl
def l7r0 : List AOper :=
  [AOper.mk (some 2) (AOp.box (Operand.tmp 0)) none [], AOper.mk (some 3) (AOp.box (Operand.tmp 1)) none [],
          AOper.mk (some 4) (AOp.mv (Operand.const (Value.bool false))) none []]
def l7r1a : List AOper :=
  [AOper.mk (some 7) (AOp.load true 3 (Operand.tmp 2)) none [], AOper.mk (some 8) (AOp.call 11 [Operand.tmp 7]) none [0], AOper.mk (some 9) (AOp.load true 3 (Operand.tmp 3)) none [], AOper.mk (some 10) (AOp.call 11 [Operand.tmp 9]) none [2, 1], AOper.mk (some 11) (AOp.call 25 [Operand.tmp 8, Operand.tmp 10]) none [1, 3, 3], AOper.mk (some 5)
              (AOp.alloc
                [Value.int IntKind.i64 0, Value.int IntKind.i64 0,
                  Value.int IntKind.i64 0])
              none []]
def l7r1b : List AOper :=
  [AOper.mk none (AOp.store 3 (Operand.tmp 5) (Operand.tmp 11)) none [5, 4, 4, 0, 1, 2, 3, 4, 5]]
def l7r1 : List AOper := l7r1a ++ l7r1b
def l7r2a : List AOper :=
  [AOper.mk (some 12) (AOp.load true 3 (Operand.tmp 2)) none [], AOper.mk (some 13) (AOp.call 11 [Operand.tmp 12]) none [0], AOper.mk (some 14) (AOp.load true 3 (Operand.tmp 3)) none [], AOper.mk (some 15) (AOp.call 11 [Operand.tmp 14]) none [2, 1], AOper.mk (some 16) (AOp.call 26 [Operand.tmp 13, Operand.tmp 15]) none [1, 3, 3], AOper.mk (some 6)
                (AOp.alloc
                  [Value.int IntKind.i64 0, Value.int IntKind.i64 0,
                    Value.int IntKind.i64 0])
                none []]
def l7r2b : List AOper :=
  [AOper.mk none (AOp.store 3 (Operand.tmp 6) (Operand.tmp 16)) none [5, 4, 4, 0, 1, 2, 3, 4, 5]]
def l7r2 : List AOper := l7r2a ++ l7r2b
def l7r3 : List AOper :=
  [AOper.mk (some 17) (AOp.load true 3 (Operand.tmp 6)) none [],
                  AOper.mk (some 18) (AOp.load true 3 (Operand.tmp 5)) none [],
                  AOper.mk (some 19) (AOp.call 21 [Operand.tmp 17, Operand.tmp 18]) none [0, 1],
                  AOper.mk (some 20) (AOp.un UnOp.not (Operand.tmp 19)) none [2]]
def l7r4 : List AOper :=
  [AOper.mk (some 4) (AOp.mv (Operand.const (Value.bool false))) none []]
def l7r5 : List AOper :=
  [AOper.mk (some 4) (AOp.mv (Operand.const (Value.bool true))) none []]
def l7 : AFn :=
  (AFn.mk 21 2
    (ACode.seq
      (ACode.reg l7r0)
      (ACode.seq
        (ACode.draw l7r1)
        (ACode.seq
          (ACode.draw l7r2)
          (ACode.seq
            (ACode.seq
              (ACode.reg l7r3)
              (ACode.cond (Operand.tmp 20)
                (ACode.seq (ACode.reg l7r4)
                  ACode.ret)
                ACode.skip))
            (ACode.seq (ACode.reg l7r5) ACode.ret)))))
    [ARes.tmp 4])
theorem l7_eq : lowFn Try.prog 7 = some l7 := by kernel_rfl
def l8r0 : List AOper :=
  [AOper.mk (some 2) (AOp.box (Operand.tmp 0)) none [], AOper.mk (some 3) (AOp.box (Operand.tmp 1)) none [],
          AOper.mk (some 4) (AOp.mv (Operand.const (Value.bool false))) none []]
def l8r1a : List AOper :=
  [AOper.mk (some 7) (AOp.load true 3 (Operand.tmp 2)) none [], AOper.mk (some 8) (AOp.call 11 [Operand.tmp 7]) none [0], AOper.mk (some 9) (AOp.load true 3 (Operand.tmp 3)) none []]
def l8r1b : List AOper :=
  [AOper.mk (some 10) (AOp.call 11 [Operand.tmp 9]) none [2, 1], AOper.mk (some 11) (AOp.call 27 [Operand.tmp 8, Operand.tmp 10]) none [1, 3, 3], AOper.mk (some 5) (AOp.mv (Operand.tmp 11)) none [4, 4, 0, 1, 2, 3, 4]]
def l8r1 : List AOper := l8r1a ++ l8r1b
def l8r2a : List AOper :=
  [AOper.mk (some 12) (AOp.load true 3 (Operand.tmp 2)) none [], AOper.mk (some 13) (AOp.call 11 [Operand.tmp 12]) none [0], AOper.mk (some 14) (AOp.load true 3 (Operand.tmp 3)) none []]
def l8r2b : List AOper :=
  [AOper.mk (some 15) (AOp.call 11 [Operand.tmp 14]) none [2, 1], AOper.mk (some 16) (AOp.call 28 [Operand.tmp 13, Operand.tmp 15]) none [1, 3, 3], AOper.mk (some 6) (AOp.mv (Operand.tmp 16)) none [4, 4, 0, 1, 2, 3, 4]]
def l8r2 : List AOper := l8r2a ++ l8r2b
def l8r3 : List AOper :=
  [AOper.mk (some 17) (AOp.mv (Operand.tmp 6)) none [],
                  AOper.mk (some 18) (AOp.mv (Operand.tmp 5)) none [],
                  AOper.mk (some 19) (AOp.binB BinOp.neq (Operand.tmp 17) (Operand.tmp 18)) none [0, 1]]
def l8r4 : List AOper :=
  [AOper.mk (some 4) (AOp.mv (Operand.const (Value.bool false))) none []]
def l8r5 : List AOper :=
  [AOper.mk (some 4) (AOp.mv (Operand.const (Value.bool true))) none []]
def l8 : AFn :=
  (AFn.mk 20 2
    (ACode.seq
      (ACode.reg l8r0)
      (ACode.seq
        (ACode.draw l8r1)
        (ACode.seq
          (ACode.draw l8r2)
          (ACode.seq
            (ACode.seq
              (ACode.reg l8r3)
              (ACode.cond (Operand.tmp 19)
                (ACode.seq (ACode.reg l8r4)
                  ACode.ret)
                ACode.skip))
            (ACode.seq (ACode.reg l8r5) ACode.ret)))))
    [ARes.tmp 4])
theorem l8_eq : lowFn Try.prog 8 = some l8 := by kernel_rfl
def l9r0 : List AOper :=
  [AOper.mk (some 2) (AOp.box (Operand.tmp 0)) none [],
          AOper.mk (some 4) (AOp.mv (Operand.const (Value.bool false))) none []]
def l9r1 : List AOper :=
  [AOper.mk (some 10) (AOp.load true 3 (Operand.tmp 2)) none [],
            AOper.mk (some 11) (AOp.call 11 [Operand.tmp 10]) none [0],
            AOper.mk (some 12) (AOp.mv (Operand.tmp 1)) none [],
            AOper.mk (some 13) (AOp.call 29 [Operand.tmp 11, Operand.tmp 12]) none [1, 2, 1],
            AOper.mk (some 5) (AOp.mv (Operand.tmp 13)) none [3, 3, 0, 1, 2, 3]]
def l9r2 : List AOper :=
  [AOper.mk (some 14) (AOp.load true 3 (Operand.tmp 2)) none [],
              AOper.mk (some 15) (AOp.call 11 [Operand.tmp 14]) none [0],
              AOper.mk (some 16) (AOp.mv (Operand.tmp 1)) none [],
              AOper.mk (some 17) (AOp.call 30 [Operand.tmp 15, Operand.tmp 16]) none [1, 2, 1],
              AOper.mk (some 6) (AOp.mv (Operand.tmp 17)) none [3, 3, 0, 1, 2, 3]]
def l9r3 : List AOper :=
  [AOper.mk (some 18) (AOp.mv (Operand.tmp 6)) none [],
                  AOper.mk (some 19) (AOp.mv (Operand.tmp 5)) none [],
                  AOper.mk (some 20) (AOp.call 31 [Operand.tmp 18, Operand.tmp 19]) none [0, 1],
                  AOper.mk (some 21) (AOp.un UnOp.not (Operand.tmp 20)) none [2]]
def l9r4 : List AOper :=
  [AOper.mk (some 4) (AOp.mv (Operand.const (Value.bool false))) none []]
def l9r5 : List AOper :=
  [AOper.mk (some 7) (AOp.mv (Operand.const (Value.int IntKind.i64 1))) none []]
def l9r6 : List AOper :=
  [AOper.mk (some 22) (AOp.mv (Operand.tmp 6)) none [],
                    AOper.mk (some 23) (AOp.mv (Operand.tmp 7)) none [],
                    AOper.mk (some 24) (AOp.call 32 [Operand.tmp 22, Operand.tmp 23]) none [0, 1],
                    AOper.mk (some 7) (AOp.mv (Operand.tmp 24)) none [2, 2, 0, 1, 2]]
def l9r7 : List AOper :=
  [AOper.mk (some 8) (AOp.mv (Operand.const (Value.int IntKind.i64 1))) none []]
def l9r8 : List AOper :=
  [AOper.mk (some 25) (AOp.mv (Operand.tmp 6)) none [],
                        AOper.mk (some 26) (AOp.mv (Operand.tmp 8)) none [],
                        AOper.mk (some 27) (AOp.call 33 [Operand.tmp 25, Operand.tmp 26]) none [0, 1],
                        AOper.mk (some 8) (AOp.mv (Operand.tmp 27)) none [2, 2, 0, 1, 2]]
def l9r9 : List AOper :=
  [AOper.mk (some 28) (AOp.mv (Operand.tmp 8)) none [],
                            AOper.mk (some 29)
                              (AOp.bin BinOp.lss (Operand.tmp 28) (Operand.const (Value.int IntKind.i64 0)))
                              none [0]]
def l9r10 : List AOper :=
  [AOper.mk (some 4) (AOp.mv (Operand.const (Value.bool false))) none []]
def l9r11 : List AOper :=
  [AOper.mk (some 30) (AOp.mv (Operand.tmp 8)) none [],
                              AOper.mk (some 31) (AOp.mv (Operand.tmp 7)) none [],
                              AOper.mk (some 32) (AOp.bin BinOp.neq (Operand.tmp 30) (Operand.tmp 31)) none [0, 1]]
def l9r12 : List AOper :=
  [AOper.mk (some 4) (AOp.mv (Operand.const (Value.bool false))) none []]
def l9r13 : List AOper :=
  [AOper.mk (some 33) (AOp.load true 3 (Operand.tmp 2)) none [],
                              AOper.mk (some 34) (AOp.call 11 [Operand.tmp 33]) none [0],
                              AOper.mk (some 35) (AOp.mv (Operand.tmp 1)) none [],
                              AOper.mk (some 36) (AOp.call 30 [Operand.tmp 34, Operand.tmp 35]) none [1, 2, 1],
                              AOper.mk (some 9) (AOp.mv (Operand.tmp 36)) none [3, 3, 0, 1, 2, 3]]
def l9r14 : List AOper :=
  [AOper.mk (some 37) (AOp.mv (Operand.tmp 9)) none [],
                                  AOper.mk (some 38) (AOp.mv (Operand.tmp 5)) none [],
                                  AOper.mk (some 39) (AOp.call 31 [Operand.tmp 37, Operand.tmp 38]) none [0, 1],
                                  AOper.mk (some 40) (AOp.un UnOp.not (Operand.tmp 39)) none [2]]
def l9r15 : List AOper :=
  [AOper.mk (some 4) (AOp.mv (Operand.const (Value.bool false))) none []]
def l9r16 : List AOper :=
  [AOper.mk (some 8) (AOp.mv (Operand.const (Value.int IntKind.i64 1))) none
                                    []]
def l9r17 : List AOper :=
  [AOper.mk (some 41) (AOp.mv (Operand.tmp 6)) none [],
                                    AOper.mk (some 42) (AOp.mv (Operand.tmp 8)) none [],
                                    AOper.mk (some 43) (AOp.call 33 [Operand.tmp 41, Operand.tmp 42]) none [0, 1],
                                    AOper.mk (some 8) (AOp.mv (Operand.tmp 43)) none [2, 2, 0, 1, 2]]
def l9r18 : List AOper :=
  [AOper.mk (some 44) (AOp.mv (Operand.tmp 8)) none [],
                                        AOper.mk (some 45)
                                          (AOp.bin BinOp.lss (Operand.tmp 44)
                                            (Operand.const (Value.int IntKind.i64 0)))
                                          none [0]]
def l9r19 : List AOper :=
  [AOper.mk (some 4) (AOp.mv (Operand.const (Value.bool false))) none []]
def l9r20 : List AOper :=
  [AOper.mk (some 46) (AOp.mv (Operand.tmp 8)) none [],
                                          AOper.mk (some 47) (AOp.mv (Operand.tmp 7)) none [],
                                          AOper.mk (some 48) (AOp.bin BinOp.neq (Operand.tmp 46) (Operand.tmp 47)) none
                                            [0, 1]]
def l9r21 : List AOper :=
  [AOper.mk (some 4) (AOp.mv (Operand.const (Value.bool false))) none []]
def l9r22 : List AOper :=
  [AOper.mk (some 4) (AOp.mv (Operand.const (Value.bool true))) none []]
def l9 : AFn :=
  (AFn.mk 49 2
    (ACode.seq
      (ACode.reg l9r0)
      (ACode.seq
        (ACode.reg l9r1)
        (ACode.seq
          (ACode.reg l9r2)
          (ACode.seq
            (ACode.seq
              (ACode.reg l9r3)
              (ACode.cond (Operand.tmp 21)
                (ACode.seq (ACode.reg l9r4)
                  ACode.ret)
                ACode.skip))
            (ACode.seq
              (ACode.reg l9r5)
              (ACode.seq
                (ACode.reg l9r6)
                (ACode.seq
                  (ACode.reg l9r7)
                  (ACode.seq
                    (ACode.reg l9r8)
                    (ACode.seq
                      (ACode.seq
                        (ACode.reg l9r9)
                        (ACode.cond (Operand.tmp 29)
                          (ACode.seq (ACode.reg l9r10)
                            ACode.ret)
                          ACode.skip))
                      (ACode.seq
                        (ACode.seq
                          (ACode.reg l9r11)
                          (ACode.cond (Operand.tmp 32)
                            (ACode.seq
                              (ACode.reg l9r12)
                              ACode.ret)
                            ACode.skip))
                        (ACode.seq
                          (ACode.reg l9r13)
                          (ACode.seq
                            (ACode.seq
                              (ACode.reg l9r14)
                              (ACode.cond (Operand.tmp 40)
                                (ACode.seq
                                  (ACode.reg l9r15)
                                  ACode.ret)
                                ACode.skip))
                            (ACode.seq
                              (ACode.reg l9r16)
                              (ACode.seq
                                (ACode.reg l9r17)
                                (ACode.seq
                                  (ACode.seq
                                    (ACode.reg l9r18)
                                    (ACode.cond (Operand.tmp 45)
                                      (ACode.seq
                                        (ACode.reg l9r19)
                                        ACode.ret)
                                      ACode.skip))
                                  (ACode.seq
                                    (ACode.seq
                                      (ACode.reg l9r20)
                                      (ACode.cond (Operand.tmp 48)
                                        (ACode.seq
                                          (ACode.reg l9r21)
                                          ACode.ret)
                                        ACode.skip))
                                    (ACode.seq
                                      (ACode.reg l9r22)
                                      ACode.ret)))))))))))))))))
    [ARes.tmp 4])
theorem l9_eq : lowFn Try.prog 9 = some l9 := by kernel_rfl
def l10r0 : List AOper :=
  [AOper.mk (some 1) (AOp.box (Operand.tmp 0)) none [],
          AOper.mk (some 2) (AOp.mv (Operand.const (Value.slice none 0 0))) none []]
def l10r1 : List AOper :=
  [AOper.mk (some 3) (AOp.load true 3 (Operand.tmp 1)) none [],
              AOper.mk (some 4) (AOp.call 34 [Operand.tmp 3]) none [0],
              AOper.mk (some 5) (AOp.un UnOp.not (Operand.tmp 4)) none [1]]
def l10r2 : List AOper :=
  [AOper.mk (some 2) (AOp.mv (Operand.const (Value.slice none 0 0))) none []]
def l10r3 : List AOper :=
  [AOper.mk (some 6) (AOp.load true 3 (Operand.tmp 1)) none [],
              AOper.mk (some 7) (AOp.call 35 [Operand.tmp 6]) none [0],
              AOper.mk (some 2) (AOp.mv (Operand.tmp 7)) none [1, 1, 0, 1]]
def l10 : AFn :=
  (AFn.mk 8 1
    (ACode.seq
      (ACode.reg l10r0)
      (ACode.seq
        (ACode.seq
          (ACode.reg l10r1)
          (ACode.cond (Operand.tmp 5)
            (ACode.seq (ACode.reg l10r2)
              ACode.ret)
            ACode.skip))
        (ACode.seq
          (ACode.reg l10r3)
          ACode.ret)))
    [ARes.tmp 2])
theorem l10_eq : lowFn Try.prog 10 = some l10 := by kernel_rfl
def l11r0 : List AOper :=
  [AOper.mk (some 1) (AOp.box (Operand.tmp 0)) none [],
          AOper.mk (some 2)
            (AOp.alloc
              [Value.int IntKind.i64 0, Value.int IntKind.i64 0,
                Value.int IntKind.i64 0])
            none []]
def l11r1 : List AOper :=
  [AOper.mk (some 3)
              (AOp.alloc
                [Value.int IntKind.i64 0, Value.int IntKind.i64 0,
                  Value.int IntKind.i64 0])
              none []]
def l11r2 : List AOper :=
  [AOper.mk (some 4) (AOp.fld 0 (Operand.tmp 1)) none [],
              AOper.mk (some 5) (AOp.load false 1 (Operand.tmp 4)) none [0],
              AOper.mk (some 6) (AOp.fld 0 (Operand.tmp 3)) none [0, 1],
              AOper.mk none (AOp.store 1 (Operand.tmp 6) (Operand.tmp 5)) none [2, 1, 0, 1]]
def l11r3 : List AOper :=
  [AOper.mk (some 7) (AOp.fld 1 (Operand.tmp 1)) none [],
                AOper.mk (some 8) (AOp.load false 1 (Operand.tmp 7)) none [0],
                AOper.mk (some 9) (AOp.fld 1 (Operand.tmp 3)) none [0, 1],
                AOper.mk none (AOp.store 1 (Operand.tmp 9) (Operand.tmp 8)) none [2, 1, 0, 1]]
def l11r4 : List AOper :=
  [AOper.mk (some 10) (AOp.fld 2 (Operand.tmp 1)) none [],
                  AOper.mk (some 11) (AOp.load false 1 (Operand.tmp 10)) none [0],
                  AOper.mk (some 12) (AOp.fld 2 (Operand.tmp 3)) none [0, 1],
                  AOper.mk none (AOp.store 1 (Operand.tmp 12) (Operand.tmp 11)) none [2, 1, 0, 1]]
def l11r5 : List AOper :=
  [AOper.mk (some 13) (AOp.load true 3 (Operand.tmp 3)) none [],
                    AOper.mk none (AOp.store 3 (Operand.tmp 2) (Operand.tmp 13)) none [0, 0]]
def l11 : AFn :=
  (AFn.mk 14 1
    (ACode.seq
      (ACode.reg l11r0)
      (ACode.seq
        (ACode.reg l11r1)
        (ACode.seq
          (ACode.reg l11r2)
          (ACode.seq
            (ACode.reg l11r3)
            (ACode.seq
              (ACode.reg l11r4)
              (ACode.seq
                (ACode.reg l11r5)
                ACode.ret))))))
    [ARes.cell 2 true 3])
theorem l11_eq : lowFn Try.prog 11 = some l11 := by kernel_rfl
def l12r0 : List AOper :=
  [AOper.mk (some 1) (AOp.box (Operand.tmp 0)) none [],
          AOper.mk (some 2) (AOp.mv (Operand.const (Value.slice none 0 0))) none []]
def l12r1 : List AOper :=
  [AOper.mk (some 3) (AOp.load true 3 (Operand.tmp 1)) none [],
              AOper.mk (some 4) (AOp.call 36 [Operand.tmp 3]) none [0],
              AOper.mk (some 5) (AOp.un UnOp.not (Operand.tmp 4)) none [1]]
def l12r2 : List AOper :=
  [AOper.mk (some 2) (AOp.mv (Operand.const (Value.slice none 0 0))) none []]
def l12r3 : List AOper :=
  [AOper.mk (some 6) (AOp.load true 3 (Operand.tmp 1)) none [],
              AOper.mk (some 7) (AOp.call 37 [Operand.tmp 6]) none [0],
              AOper.mk (some 2) (AOp.mv (Operand.tmp 7)) none [1, 1, 0, 1]]
def l12 : AFn :=
  (AFn.mk 8 1
    (ACode.seq
      (ACode.reg l12r0)
      (ACode.seq
        (ACode.seq
          (ACode.reg l12r1)
          (ACode.cond (Operand.tmp 5)
            (ACode.seq (ACode.reg l12r2)
              ACode.ret)
            ACode.skip))
        (ACode.seq
          (ACode.reg l12r3)
          ACode.ret)))
    [ARes.tmp 2])
theorem l12_eq : lowFn Try.prog 12 = some l12 := by kernel_rfl
def l13r0 : List AOper :=
  [AOper.mk (some 4) (AOp.mv (Operand.const (Value.bool false))) none []]
def l13r1 : List AOper :=
  [AOper.mk (some 6) (AOp.mv (Operand.tmp 0)) none [], AOper.mk (some 7) (AOp.len (Operand.tmp 6)) none [0],
              AOper.mk (some 8) (AOp.mv (Operand.tmp 1)) none [], AOper.mk (some 9) (AOp.len (Operand.tmp 8)) none [2],
              AOper.mk (some 10) (AOp.bin BinOp.neq (Operand.tmp 7) (Operand.tmp 9)) none [1, 3]]
def l13r2 : List AOper :=
  [AOper.mk (some 4) (AOp.mv (Operand.const (Value.bool false))) none []]
def l13r3 : List AOper :=
  [AOper.mk (some 5) (AOp.mv (Operand.const (Value.int IntKind.i64 0))) none []]
def l13r4 : List AOper :=
  [AOper.mk (some 11) (AOp.mv (Operand.tmp 5)) none [],
                        AOper.mk (some 12) (AOp.mv (Operand.tmp 0)) none [],
                        AOper.mk (some 13) (AOp.len (Operand.tmp 12)) none [1],
                        AOper.mk (some 14) (AOp.bin BinOp.lss (Operand.tmp 11) (Operand.tmp 13)) none [0, 2]]
def l13r5a : List AOper :=
  [AOper.mk (some 17) (AOp.mv (Operand.tmp 0)) none [], AOper.mk (some 18) (AOp.mv (Operand.tmp 5)) none [], AOper.mk (some 19) (AOp.idxA 1 (Operand.tmp 17) (Operand.tmp 18)) none [0, 1], AOper.mk (some 20) (AOp.load false 1 (Operand.tmp 19)) none [2], AOper.mk (some 21) (AOp.mv (Operand.tmp 1)) none [], AOper.mk (some 22) (AOp.mv (Operand.tmp 5)) none [], AOper.mk (some 23) (AOp.idxA 1 (Operand.tmp 21) (Operand.tmp 22)) none [4, 5], AOper.mk (some 24) (AOp.load false 1 (Operand.tmp 23)) none [6]]
def l13r5b : List AOper :=
  [AOper.mk (some 25) (AOp.bin BinOp.neq (Operand.tmp 20) (Operand.tmp 24)) none [3, 7]]
def l13r5 : List AOper := l13r5a ++ l13r5b
def l13r6 : List AOper :=
  [AOper.mk (some 4) (AOp.mv (Operand.const (Value.bool false))) none []]
def l13r7 : List AOper :=
  [AOper.mk (some 15) (AOp.mv (Operand.tmp 5)) none [],
                        AOper.mk (some 16)
                          (AOp.bin BinOp.add (Operand.tmp 15) (Operand.const (Value.int IntKind.i64 1)))
                          none [0],
                        AOper.mk (some 5) (AOp.mv (Operand.tmp 16)) none [1, 0, 1]]
def l13r8 : List AOper :=
  [AOper.mk (some 4) (AOp.mv (Operand.const (Value.bool true))) none []]
def l13 : AFn :=
  (AFn.mk 26 2
    (ACode.seq (ACode.reg l13r0)
      (ACode.seq
        (ACode.seq
          (ACode.reg l13r1)
          (ACode.cond (Operand.tmp 10)
            (ACode.seq (ACode.reg l13r2) ACode.ret)
            ACode.skip))
        (ACode.seq
          (ACode.seq
            (ACode.reg l13r3)
            (ACode.block 0
              (ACode.loop
                (ACode.seq
                  (ACode.seq
                    (ACode.reg l13r4)
                    (ACode.cond (Operand.tmp 14) ACode.skip (ACode.exit 0)))
                  (ACode.seq
                    (ACode.block 1
                      (ACode.seq
                        (ACode.draw l13r5)
                        (ACode.cond (Operand.tmp 25)
                          (ACode.seq (ACode.reg l13r6)
                            ACode.ret)
                          ACode.skip)))
                    (ACode.reg l13r7))))))
          (ACode.seq (ACode.reg l13r8) ACode.ret))))
    [ARes.tmp 4])
theorem l13_eq : lowFn Try.prog 13 = some l13 := by kernel_rfl
def l14r0 : List AOper :=
  [AOper.mk (some 4) (AOp.mv (Operand.const (Value.int IntKind.i64 0))) none []]
def l14r1 : List AOper :=
  [AOper.mk (some 5) (AOp.mv (Operand.const (Value.int IntKind.i64 0))) none []]
def l14r2 : List AOper :=
  [AOper.mk (some 6) (AOp.mv (Operand.tmp 5)) none [],
                      AOper.mk (some 7) (AOp.mv (Operand.tmp 0)) none [],
                      AOper.mk (some 8) (AOp.len (Operand.tmp 7)) none [1],
                      AOper.mk (some 9) (AOp.bin BinOp.lss (Operand.tmp 6) (Operand.tmp 8)) none [0, 2]]
def l14r3 : List AOper :=
  [AOper.mk (some 12) (AOp.mv (Operand.tmp 0)) none [],
                          AOper.mk (some 13) (AOp.mv (Operand.tmp 5)) none [],
                          AOper.mk (some 14) (AOp.mv (Operand.tmp 1)) none [],
                          AOper.mk (some 15) (AOp.idxA 1 (Operand.tmp 12) (Operand.tmp 13)) none [0, 1, 0, 1, 2],
                          AOper.mk none (AOp.store 1 (Operand.tmp 15) (Operand.tmp 14)) none [3, 2, 0, 1, 2]]
def l14r4 : List AOper :=
  [AOper.mk (some 16) (AOp.mv (Operand.tmp 1)) none [],
                          AOper.mk (some 17)
                            (AOp.bin BinOp.add (Operand.tmp 16) (Operand.const (Value.int IntKind.i64 1)))
                            none [0],
                          AOper.mk (some 1) (AOp.mv (Operand.tmp 17)) none [1, 0, 1]]
def l14r5 : List AOper :=
  [AOper.mk (some 10) (AOp.mv (Operand.tmp 5)) none [],
                      AOper.mk (some 11)
                        (AOp.bin BinOp.add (Operand.tmp 10) (Operand.const (Value.int IntKind.i64 1))) none
                        [0],
                      AOper.mk (some 5) (AOp.mv (Operand.tmp 11)) none [1, 0, 1]]
def l14r6 : List AOper :=
  [AOper.mk (some 18) (AOp.mv (Operand.tmp 1)) none [],
              AOper.mk (some 4) (AOp.mv (Operand.tmp 18)) none [0, 0]]
def l14 : AFn :=
  (AFn.mk 19 2
    (ACode.seq (ACode.reg l14r0)
      (ACode.seq
        (ACode.seq
          (ACode.reg l14r1)
          (ACode.block 0
            (ACode.loop
              (ACode.seq
                (ACode.seq
                  (ACode.reg l14r2)
                  (ACode.cond (Operand.tmp 9) ACode.skip (ACode.exit 0)))
                (ACode.seq
                  (ACode.block 1
                    (ACode.seq
                      (ACode.reg l14r3)
                      (ACode.reg l14r4)))
                  (ACode.reg l14r5))))))
        (ACode.seq
          (ACode.reg l14r6)
          ACode.ret)))
    [ARes.tmp 4])
theorem l14_eq : lowFn Try.prog 14 = some l14 := by kernel_rfl
def l15r0 : List AOper :=
  [AOper.mk (some 4) (AOp.mv (Operand.const (Value.int IntKind.i64 0))) none []]
def l15r1 : List AOper :=
  [AOper.mk (some 5) (AOp.mv (Operand.const (Value.int IntKind.i64 0))) none []]
def l15r2 : List AOper :=
  [AOper.mk (some 6) (AOp.mv (Operand.tmp 5)) none [],
                      AOper.mk (some 7) (AOp.mv (Operand.tmp 0)) none [],
                      AOper.mk (some 8) (AOp.len (Operand.tmp 7)) none [1],
                      AOper.mk (some 9) (AOp.bin BinOp.lss (Operand.tmp 6) (Operand.tmp 8)) none [0, 2]]
def l15r3 : List AOper :=
  [AOper.mk (some 12) (AOp.mv (Operand.tmp 0)) none [],
                            AOper.mk (some 13) (AOp.mv (Operand.tmp 5)) none [],
                            AOper.mk (some 14) (AOp.idxA 1 (Operand.tmp 12) (Operand.tmp 13)) none [0, 1],
                            AOper.mk (some 15) (AOp.load false 1 (Operand.tmp 14)) none [2],
                            AOper.mk (some 16) (AOp.mv (Operand.tmp 1)) none [],
                            AOper.mk (some 17) (AOp.bin BinOp.neq (Operand.tmp 15) (Operand.tmp 16)) none [3, 4]]
def l15r4 : List AOper :=
  [AOper.mk (some 4) (AOp.mv (Operand.const (Value.int IntKind.i64 (-1)))) none
                                  []]
def l15r5 : List AOper :=
  [AOper.mk (some 18) (AOp.mv (Operand.tmp 1)) none [],
                          AOper.mk (some 19)
                            (AOp.bin BinOp.add (Operand.tmp 18) (Operand.const (Value.int IntKind.i64 1)))
                            none [0],
                          AOper.mk (some 1) (AOp.mv (Operand.tmp 19)) none [1, 0, 1]]
def l15r6 : List AOper :=
  [AOper.mk (some 10) (AOp.mv (Operand.tmp 5)) none [],
                      AOper.mk (some 11)
                        (AOp.bin BinOp.add (Operand.tmp 10) (Operand.const (Value.int IntKind.i64 1))) none
                        [0],
                      AOper.mk (some 5) (AOp.mv (Operand.tmp 11)) none [1, 0, 1]]
def l15r7 : List AOper :=
  [AOper.mk (some 20) (AOp.mv (Operand.tmp 1)) none [],
              AOper.mk (some 4) (AOp.mv (Operand.tmp 20)) none [0, 0]]
def l15 : AFn :=
  (AFn.mk 21 2
    (ACode.seq (ACode.reg l15r0)
      (ACode.seq
        (ACode.seq
          (ACode.reg l15r1)
          (ACode.block 0
            (ACode.loop
              (ACode.seq
                (ACode.seq
                  (ACode.reg l15r2)
                  (ACode.cond (Operand.tmp 9) ACode.skip (ACode.exit 0)))
                (ACode.seq
                  (ACode.block 1
                    (ACode.seq
                      (ACode.seq
                        (ACode.reg l15r3)
                        (ACode.cond (Operand.tmp 17)
                          (ACode.seq
                            (ACode.reg l15r4)
                            ACode.ret)
                          ACode.skip))
                      (ACode.reg l15r5)))
                  (ACode.reg l15r6))))))
        (ACode.seq
          (ACode.reg l15r7)
          ACode.ret)))
    [ARes.tmp 4])
theorem l15_eq : lowFn Try.prog 15 = some l15 := by kernel_rfl
def l16r0 : List AOper :=
  [AOper.mk (some 3) (AOp.box (Operand.tmp 1)) none [],
          AOper.mk (some 4) (AOp.mv (Operand.const (Value.slice none 0 0))) none []]
def l16r1 : List AOper :=
  [AOper.mk (some 5) (AOp.mv (Operand.tmp 0)) none [],
              AOper.mk (some 6)
                (AOp.call 38
                  [Operand.tmp 5, Operand.const (Value.int IntKind.i64 0),
                    Operand.const (Value.int IntKind.i64 60)])
                none [0],
              AOper.mk (some 7) (AOp.un UnOp.not (Operand.tmp 6)) none [1],
              AOper.mk (some 8) (AOp.mv (Operand.tmp 7)) none [2, 1],
              AOper.mk (some 9) (AOp.load true 5 (Operand.tmp 3)) (some (8, false)) [3],
              AOper.mk (some 10) (AOp.call 39 [Operand.tmp 9]) (some (8, false)) [4, 3, 3],
              AOper.mk (some 11) (AOp.un UnOp.not (Operand.tmp 10)) (some (8, false)) [5, 3],
              AOper.mk (some 12) (AOp.pick (Operand.tmp 8) (Operand.const (Value.bool true)) (Operand.tmp 11)) none
                [3, 6]]
def l16r2 : List AOper :=
  [AOper.mk (some 4) (AOp.mv (Operand.const (Value.slice none 0 0))) none []]
def l16r3 : List AOper :=
  [AOper.mk (some 13) (AOp.mv (Operand.tmp 0)) none [],
              AOper.mk (some 14) (AOp.load true 5 (Operand.tmp 3)) none [],
              AOper.mk (some 15) (AOp.call 40 [Operand.tmp 13, Operand.tmp 14]) none [0, 1],
              AOper.mk (some 4) (AOp.mv (Operand.tmp 15)) none [2, 2, 0, 1, 2]]
def l16 : AFn :=
  (AFn.mk 16 2
    (ACode.seq
      (ACode.reg l16r0)
      (ACode.seq
        (ACode.seq
          (ACode.reg l16r1)
          (ACode.cond (Operand.tmp 12)
            (ACode.seq (ACode.reg l16r2)
              ACode.ret)
            ACode.skip))
        (ACode.seq
          (ACode.reg l16r3)
          ACode.ret)))
    [ARes.tmp 4])
theorem l16_eq : lowFn Try.prog 16 = some l16 := by kernel_rfl
def l17r0 : List AOper :=
  [AOper.mk (some 1) (AOp.box (Operand.tmp 0)) none [],
          AOper.mk (some 2)
            (AOp.alloc
              [Value.int IntKind.i64 0, Value.int IntKind.i64 0,
                Value.int IntKind.i64 0, Value.bool false, Value.bool false])
            none []]
def l17r1 : List AOper :=
  [AOper.mk (some 3)
              (AOp.alloc
                [Value.int IntKind.i64 0, Value.int IntKind.i64 0,
                  Value.int IntKind.i64 0, Value.bool false, Value.bool false])
              none []]
def l17r2 : List AOper :=
  [AOper.mk (some 4) (AOp.fld 0 (Operand.tmp 1)) none [],
              AOper.mk (some 5) (AOp.load false 1 (Operand.tmp 4)) none [0],
              AOper.mk (some 6) (AOp.fld 0 (Operand.tmp 3)) none [0, 1],
              AOper.mk none (AOp.store 1 (Operand.tmp 6) (Operand.tmp 5)) none [2, 1, 0, 1]]
def l17r3 : List AOper :=
  [AOper.mk (some 7) (AOp.fld 1 (Operand.tmp 1)) none [],
                AOper.mk (some 8) (AOp.load false 1 (Operand.tmp 7)) none [0],
                AOper.mk (some 9) (AOp.fld 1 (Operand.tmp 3)) none [0, 1],
                AOper.mk none (AOp.store 1 (Operand.tmp 9) (Operand.tmp 8)) none [2, 1, 0, 1]]
def l17r4 : List AOper :=
  [AOper.mk (some 10) (AOp.fld 2 (Operand.tmp 1)) none [],
                  AOper.mk (some 11) (AOp.load false 1 (Operand.tmp 10)) none [0],
                  AOper.mk (some 12) (AOp.fld 2 (Operand.tmp 3)) none [0, 1],
                  AOper.mk none (AOp.store 1 (Operand.tmp 12) (Operand.tmp 11)) none [2, 1, 0, 1]]
def l17r5 : List AOper :=
  [AOper.mk (some 13) (AOp.fld 3 (Operand.tmp 1)) none [],
                    AOper.mk (some 14) (AOp.load false 1 (Operand.tmp 13)) none [0],
                    AOper.mk (some 15) (AOp.fld 3 (Operand.tmp 3)) none [0, 1],
                    AOper.mk none (AOp.store 1 (Operand.tmp 15) (Operand.tmp 14)) none [2, 1, 0, 1]]
def l17r6 : List AOper :=
  [AOper.mk (some 16) (AOp.fld 4 (Operand.tmp 1)) none [],
                      AOper.mk (some 17) (AOp.load false 1 (Operand.tmp 16)) none [0],
                      AOper.mk (some 18) (AOp.fld 4 (Operand.tmp 3)) none [0, 1],
                      AOper.mk none (AOp.store 1 (Operand.tmp 18) (Operand.tmp 17)) none [2, 1, 0, 1]]
def l17r7 : List AOper :=
  [AOper.mk (some 19) (AOp.load true 5 (Operand.tmp 3)) none [],
                        AOper.mk none (AOp.store 5 (Operand.tmp 2) (Operand.tmp 19)) none [0, 0]]
def l17 : AFn :=
  (AFn.mk 20 1
    (ACode.seq
      (ACode.reg l17r0)
      (ACode.seq
        (ACode.reg l17r1)
        (ACode.seq
          (ACode.reg l17r2)
          (ACode.seq
            (ACode.reg l17r3)
            (ACode.seq
              (ACode.reg l17r4)
              (ACode.seq
                (ACode.reg l17r5)
                (ACode.seq
                  (ACode.reg l17r6)
                  (ACode.seq
                    (ACode.reg l17r7)
                    ACode.ret))))))))
    [ARes.cell 2 true 5])
theorem l17_eq : lowFn Try.prog 17 = some l17 := by kernel_rfl
def l18r0 : List AOper :=
  [AOper.mk (some 3) (AOp.box (Operand.tmp 1)) none [],
          AOper.mk (some 4) (AOp.mv (Operand.const (Value.slice none 0 0))) none []]
def l18r1 : List AOper :=
  [AOper.mk (some 5) (AOp.mv (Operand.tmp 0)) none [],
              AOper.mk (some 6) (AOp.call 41 [Operand.tmp 5]) none [0],
              AOper.mk (some 7) (AOp.un UnOp.not (Operand.tmp 6)) none [1],
              AOper.mk (some 8) (AOp.mv (Operand.tmp 7)) none [2, 1],
              AOper.mk (some 9) (AOp.load true 5 (Operand.tmp 3)) (some (8, false)) [3],
              AOper.mk (some 10) (AOp.call 42 [Operand.tmp 9]) (some (8, false)) [4, 3, 3],
              AOper.mk (some 11) (AOp.un UnOp.not (Operand.tmp 10)) (some (8, false)) [5, 3],
              AOper.mk (some 12) (AOp.pick (Operand.tmp 8) (Operand.const (Value.bool true)) (Operand.tmp 11)) none
                [3, 6]]
def l18r2 : List AOper :=
  [AOper.mk (some 4) (AOp.mv (Operand.const (Value.slice none 0 0))) none []]
def l18r3 : List AOper :=
  [AOper.mk (some 13) (AOp.load true 5 (Operand.tmp 3)) none [],
              AOper.mk (some 14) (AOp.mv (Operand.tmp 0)) none [],
              AOper.mk (some 15) (AOp.call 43 [Operand.tmp 13, Operand.tmp 14]) none [0, 1],
              AOper.mk (some 16) (AOp.call 37 [Operand.tmp 15]) none [2, 2],
              AOper.mk (some 4) (AOp.mv (Operand.tmp 16)) none [3, 3, 0, 1, 2, 3]]
def l18 : AFn :=
  (AFn.mk 17 2
    (ACode.seq
      (ACode.reg l18r0)
      (ACode.seq
        (ACode.seq
          (ACode.reg l18r1)
          (ACode.cond (Operand.tmp 12)
            (ACode.seq (ACode.reg l18r2)
              ACode.ret)
            ACode.skip))
        (ACode.seq
          (ACode.reg l18r3)
          ACode.ret)))
    [ARes.tmp 4])
theorem l18_eq : lowFn Try.prog 18 = some l18 := by kernel_rfl
def l19r0 : List AOper :=
  [AOper.mk (some 2) (AOp.box (Operand.tmp 0)) none [], AOper.mk (some 3) (AOp.box (Operand.tmp 1)) none [],
          AOper.mk (some 4)
            (AOp.alloc
              [Value.int IntKind.i64 0, Value.int IntKind.i64 0,
                Value.int IntKind.i64 0])
            none []]
def l19r1 : List AOper :=
  [AOper.mk (some 9) (AOp.load true 3 (Operand.tmp 2)) none [],
              AOper.mk (some 10) (AOp.call 34 [Operand.tmp 9]) none [0],
              AOper.mk (some 11) (AOp.un UnOp.not (Operand.tmp 10)) none [1],
              AOper.mk (some 12) (AOp.mv (Operand.tmp 11)) none [2, 1],
              AOper.mk (some 13) (AOp.load true 5 (Operand.tmp 3)) (some (12, false)) [3],
              AOper.mk (some 14) (AOp.call 39 [Operand.tmp 13]) (some (12, false)) [4, 3, 3],
              AOper.mk (some 15) (AOp.un UnOp.not (Operand.tmp 14)) (some (12, false)) [5, 3],
              AOper.mk (some 16) (AOp.pick (Operand.tmp 12) (Operand.const (Value.bool true)) (Operand.tmp 15)) none
                [3, 6],
              AOper.mk (some 17) (AOp.mv (Operand.tmp 16)) none [7, 5],
              AOper.mk (some 18) (AOp.load true 3 (Operand.tmp 2)) (some (17, false)) [8],
              AOper.mk (some 19) (AOp.call 35 [Operand.tmp 18]) (some (17, false)) [9, 8, 8],
              AOper.mk (some 20) (AOp.len (Operand.tmp 19)) (some (17, false)) [10, 8],
              AOper.mk (some 21)
                (AOp.bin BinOp.gtr (Operand.tmp 20) (Operand.const (Value.int IntKind.i64 60)))
                (some (17, false)) [11, 8],
              AOper.mk (some 22) (AOp.pick (Operand.tmp 17) (Operand.const (Value.bool true)) (Operand.tmp 21)) none
                [8, 12]]
def l19r2 : List AOper :=
  [AOper.mk (some 23)
                    (AOp.build
                      [Value.int IntKind.i64 0, Value.int IntKind.i64 0,
                        Value.int IntKind.i64 0]
                      [])
                    none [],
                  AOper.mk none (AOp.store 3 (Operand.tmp 4) (Operand.tmp 23)) none [0, 0]]
def l19r3 : List AOper :=
  [AOper.mk (some 24) (AOp.load true 3 (Operand.tmp 2)) none [],
              AOper.mk (some 25) (AOp.call 35 [Operand.tmp 24]) none [0],
              AOper.mk (some 5) (AOp.mv (Operand.tmp 25)) none [1, 1, 0, 1]]
def l19r4 : List AOper :=
  [AOper.mk (some 26) (AOp.mv (Operand.tmp 5)) none [],
                AOper.mk (some 27) (AOp.len (Operand.tmp 26)) none [0],
                AOper.mk (some 28) (AOp.load true 5 (Operand.tmp 3)) none [],
                AOper.mk (some 29) (AOp.call 40 [Operand.tmp 27, Operand.tmp 28]) none [1, 2],
                AOper.mk (some 6) (AOp.mv (Operand.tmp 29)) none [3, 3, 0, 1, 2, 3]]
def l19r5 : List AOper :=
  [AOper.mk (some 30) (AOp.bslice 1 [Value.int IntKind.i64 0] [] 0) none [],
                  AOper.mk (some 7) (AOp.mv (Operand.tmp 30)) none [0, 0]]
def l19r6 : List AOper :=
  [AOper.mk (some 8) (AOp.mv (Operand.const (Value.int IntKind.i64 0))) none []]
def l19r7 : List AOper :=
  [AOper.mk (some 31) (AOp.mv (Operand.tmp 8)) none [],
                              AOper.mk (some 32) (AOp.mv (Operand.tmp 6)) none [],
                              AOper.mk (some 33) (AOp.len (Operand.tmp 32)) none [1],
                              AOper.mk (some 34) (AOp.bin BinOp.lss (Operand.tmp 31) (Operand.tmp 33)) none [0, 2]]
def l19r8 : List AOper :=
  [AOper.mk (some 37) (AOp.mv (Operand.tmp 7)) none [],
                                AOper.mk (some 38) (AOp.mv (Operand.tmp 5)) none [],
                                AOper.mk (some 39) (AOp.mv (Operand.tmp 6)) none [],
                                AOper.mk (some 40) (AOp.mv (Operand.tmp 8)) none [],
                                AOper.mk (some 41) (AOp.idxA 1 (Operand.tmp 39) (Operand.tmp 40)) none [2, 3],
                                AOper.mk (some 42) (AOp.load false 1 (Operand.tmp 41)) none [4],
                                AOper.mk (some 43) (AOp.idxA 1 (Operand.tmp 38) (Operand.tmp 42)) none [1, 5],
                                AOper.mk (some 44) (AOp.load false 1 (Operand.tmp 43)) none [6],
                                AOper.mk (some 45)
                                  (AOp.bslice 1 [Value.int IntKind.i64 0] [(0, Operand.tmp 44)] 1) none [7],
                                AOper.mk (some 46) (AOp.append 1 (Operand.tmp 37) (Operand.tmp 45)) none [0, 8],
                                AOper.mk (some 7) (AOp.mv (Operand.tmp 46)) none [9, 9, 0, 1, 2, 3, 4, 5, 6, 7, 8, 9]]
def l19r9 : List AOper :=
  [AOper.mk (some 35) (AOp.mv (Operand.tmp 8)) none [],
                              AOper.mk (some 36)
                                (AOp.bin BinOp.add (Operand.tmp 35)
                                  (Operand.const (Value.int IntKind.i64 1)))
                                none [0],
                              AOper.mk (some 8) (AOp.mv (Operand.tmp 36)) none [1, 0, 1]]
def l19r10 : List AOper :=
  [AOper.mk (some 47) (AOp.mv (Operand.tmp 7)) none [],
                      AOper.mk (some 48) (AOp.call 44 [Operand.tmp 47]) none [0],
                      AOper.mk none (AOp.store 3 (Operand.tmp 4) (Operand.tmp 48)) none [1, 1, 0, 1]]
def l19 : AFn :=
  (AFn.mk 49 2
    (ACode.seq
      (ACode.reg l19r0)
      (ACode.seq
        (ACode.seq
          (ACode.reg l19r1)
          (ACode.cond (Operand.tmp 22)
            (ACode.seq
              (ACode.reg l19r2)
              ACode.ret)
            ACode.skip))
        (ACode.seq
          (ACode.reg l19r3)
          (ACode.seq
            (ACode.reg l19r4)
            (ACode.seq
              (ACode.reg l19r5)
              (ACode.seq
                (ACode.seq
                  (ACode.reg l19r6)
                  (ACode.block 0
                    (ACode.loop
                      (ACode.seq
                        (ACode.seq
                          (ACode.reg l19r7)
                          (ACode.cond (Operand.tmp 34) ACode.skip (ACode.exit 0)))
                        (ACode.seq
                          (ACode.block 1
                            (ACode.reg l19r8))
                          (ACode.reg l19r9))))))
                (ACode.seq
                  (ACode.reg l19r10)
                  ACode.ret)))))))
    [ARes.cell 4 true 3])
theorem l19_eq : lowFn Try.prog 19 = some l19 := by kernel_rfl
def l20r0 : List AOper :=
  [AOper.mk (some 2) (AOp.box (Operand.tmp 0)) none [], AOper.mk (some 3) (AOp.box (Operand.tmp 1)) none [],
          AOper.mk (some 4)
            (AOp.alloc
              [Value.int IntKind.i64 0, Value.int IntKind.i64 0,
                Value.int IntKind.i64 0])
            none []]
def l20r1 : List AOper :=
  [AOper.mk (some 5) (AOp.load true 3 (Operand.tmp 2)) none [],
              AOper.mk (some 6) (AOp.call 36 [Operand.tmp 5]) none [0],
              AOper.mk (some 7) (AOp.un UnOp.not (Operand.tmp 6)) none [1],
              AOper.mk (some 8) (AOp.mv (Operand.tmp 7)) none [2, 1],
              AOper.mk (some 9) (AOp.load true 5 (Operand.tmp 3)) (some (8, false)) [3],
              AOper.mk (some 10) (AOp.call 42 [Operand.tmp 9]) (some (8, false)) [4, 3, 3],
              AOper.mk (some 11) (AOp.un UnOp.not (Operand.tmp 10)) (some (8, false)) [5, 3],
              AOper.mk (some 12) (AOp.pick (Operand.tmp 8) (Operand.const (Value.bool true)) (Operand.tmp 11)) none
                [3, 6],
              AOper.mk (some 13) (AOp.mv (Operand.tmp 12)) none [7, 5],
              AOper.mk (some 14) (AOp.load true 3 (Operand.tmp 2)) (some (13, false)) [8],
              AOper.mk (some 15) (AOp.call 45 [Operand.tmp 14]) (some (13, false)) [9, 8, 8],
              AOper.mk (some 16) (AOp.call 41 [Operand.tmp 15]) (some (13, false)) [10, 10, 8],
              AOper.mk (some 17) (AOp.un UnOp.not (Operand.tmp 16)) (some (13, false)) [11, 8],
              AOper.mk (some 18) (AOp.pick (Operand.tmp 13) (Operand.const (Value.bool true)) (Operand.tmp 17)) none
                [8, 12]]
def l20r2 : List AOper :=
  [AOper.mk (some 19)
                    (AOp.build
                      [Value.int IntKind.i64 0, Value.int IntKind.i64 0,
                        Value.int IntKind.i64 0]
                      [])
                    none [],
                  AOper.mk none (AOp.store 3 (Operand.tmp 4) (Operand.tmp 19)) none [0, 0]]
def l20r3a : List AOper :=
  [AOper.mk (some 20) (AOp.load true 3 (Operand.tmp 2)) none [], AOper.mk (some 21) (AOp.load true 5 (Operand.tmp 3)) none [], AOper.mk (some 22) (AOp.load true 3 (Operand.tmp 2)) none [], AOper.mk (some 23) (AOp.call 45 [Operand.tmp 22]) none [2], AOper.mk (some 24) (AOp.call 43 [Operand.tmp 21, Operand.tmp 23]) none [1, 3, 3]]
def l20r3b : List AOper :=
  [AOper.mk (some 25) (AOp.call 46 [Operand.tmp 20, Operand.tmp 24]) none [0, 4, 4], AOper.mk none (AOp.store 3 (Operand.tmp 4) (Operand.tmp 25)) none [5, 5, 0, 1, 2, 3, 4, 5]]
def l20r3 : List AOper := l20r3a ++ l20r3b
def l20 : AFn :=
  (AFn.mk 26 2
    (ACode.seq
      (ACode.reg l20r0)
      (ACode.seq
        (ACode.seq
          (ACode.reg l20r1)
          (ACode.cond (Operand.tmp 18)
            (ACode.seq
              (ACode.reg l20r2)
              ACode.ret)
            ACode.skip))
        (ACode.seq
          (ACode.draw l20r3)
          ACode.ret)))
    [ARes.cell 4 true 3])
theorem l20_eq : lowFn Try.prog 20 = some l20 := by kernel_rfl
def l21r0 : List AOper :=
  [AOper.mk (some 2) (AOp.box (Operand.tmp 0)) none [], AOper.mk (some 3) (AOp.box (Operand.tmp 1)) none [],
          AOper.mk (some 4) (AOp.mv (Operand.const (Value.bool false))) none []]
def l21r1 : List AOper :=
  [AOper.mk (some 5) (AOp.fld 0 (Operand.tmp 2)) none [],
              AOper.mk (some 6) (AOp.load false 1 (Operand.tmp 5)) none [0],
              AOper.mk (some 7) (AOp.fld 0 (Operand.tmp 3)) none [],
              AOper.mk (some 8) (AOp.load false 1 (Operand.tmp 7)) none [2],
              AOper.mk (some 9) (AOp.bin BinOp.neq (Operand.tmp 6) (Operand.tmp 8)) none [1, 3]]
def l21r2 : List AOper :=
  [AOper.mk (some 4) (AOp.mv (Operand.const (Value.bool false))) none []]
def l21r3 : List AOper :=
  [AOper.mk (some 10) (AOp.fld 1 (Operand.tmp 2)) none [],
                AOper.mk (some 11) (AOp.load false 1 (Operand.tmp 10)) none [0],
                AOper.mk (some 12) (AOp.fld 1 (Operand.tmp 3)) none [],
                AOper.mk (some 13) (AOp.load false 1 (Operand.tmp 12)) none [2],
                AOper.mk (some 14) (AOp.bin BinOp.neq (Operand.tmp 11) (Operand.tmp 13)) none [1, 3]]
def l21r4 : List AOper :=
  [AOper.mk (some 4) (AOp.mv (Operand.const (Value.bool false))) none []]
def l21r5 : List AOper :=
  [AOper.mk (some 15) (AOp.fld 2 (Operand.tmp 2)) none [],
                  AOper.mk (some 16) (AOp.load false 1 (Operand.tmp 15)) none [0],
                  AOper.mk (some 17) (AOp.fld 2 (Operand.tmp 3)) none [],
                  AOper.mk (some 18) (AOp.load false 1 (Operand.tmp 17)) none [2],
                  AOper.mk (some 19) (AOp.bin BinOp.neq (Operand.tmp 16) (Operand.tmp 18)) none [1, 3]]
def l21r6 : List AOper :=
  [AOper.mk (some 4) (AOp.mv (Operand.const (Value.bool false))) none []]
def l21r7 : List AOper :=
  [AOper.mk (some 4) (AOp.mv (Operand.const (Value.bool true))) none []]
def l21 : AFn :=
  (AFn.mk 20 2
    (ACode.seq
      (ACode.reg l21r0)
      (ACode.seq
        (ACode.seq
          (ACode.reg l21r1)
          (ACode.cond (Operand.tmp 9)
            (ACode.seq (ACode.reg l21r2) ACode.ret)
            ACode.skip))
        (ACode.seq
          (ACode.seq
            (ACode.reg l21r3)
            (ACode.cond (Operand.tmp 14)
              (ACode.seq (ACode.reg l21r4) ACode.ret)
              ACode.skip))
          (ACode.seq
            (ACode.seq
              (ACode.reg l21r5)
              (ACode.cond (Operand.tmp 19)
                (ACode.seq (ACode.reg l21r6)
                  ACode.ret)
                ACode.skip))
            (ACode.seq (ACode.reg l21r7) ACode.ret)))))
    [ARes.tmp 4])
theorem l21_eq : lowFn Try.prog 21 = some l21 := by kernel_rfl
def l22r0 : List AOper :=
  [AOper.mk (some 4) (AOp.box (Operand.tmp 1)) none [], AOper.mk (some 5) (AOp.box (Operand.tmp 2)) none [],
          AOper.mk (some 6)
            (AOp.alloc
              [Value.int IntKind.i64 0, Value.int IntKind.i64 0,
                Value.int IntKind.i64 0, Value.bool false, Value.bool false])
            none []]
def l22r1 : List AOper :=
  [AOper.mk (some 11) (AOp.mv (Operand.tmp 0)) none [],
              AOper.mk (some 12)
                (AOp.call 38
                  [Operand.tmp 11, Operand.const (Value.int IntKind.i64 0),
                    Operand.const (Value.int IntKind.i64 60)])
                none [0],
              AOper.mk (some 13) (AOp.un UnOp.not (Operand.tmp 12)) none [1],
              AOper.mk (some 14) (AOp.mv (Operand.tmp 13)) none [2, 1],
              AOper.mk (some 15) (AOp.load true 5 (Operand.tmp 4)) (some (14, false)) [3],
              AOper.mk (some 16) (AOp.call 39 [Operand.tmp 15]) (some (14, false)) [4, 3, 3],
              AOper.mk (some 17) (AOp.un UnOp.not (Operand.tmp 16)) (some (14, false)) [5, 3],
              AOper.mk (some 18) (AOp.pick (Operand.tmp 14) (Operand.const (Value.bool true)) (Operand.tmp 17)) none
                [3, 6],
              AOper.mk (some 19) (AOp.mv (Operand.tmp 18)) none [7, 5],
              AOper.mk (some 20) (AOp.load true 5 (Operand.tmp 5)) (some (19, false)) [8],
              AOper.mk (some 21) (AOp.call 39 [Operand.tmp 20]) (some (19, false)) [9, 8, 8],
              AOper.mk (some 22) (AOp.un UnOp.not (Operand.tmp 21)) (some (19, false)) [10, 8],
              AOper.mk (some 23) (AOp.pick (Operand.tmp 19) (Operand.const (Value.bool true)) (Operand.tmp 22)) none
                [8, 11]]
def l22r2 : List AOper :=
  [AOper.mk (some 24)
                    (AOp.build
                      [Value.int IntKind.i64 0, Value.int IntKind.i64 0,
                        Value.int IntKind.i64 0, Value.bool false, Value.bool false]
                      [])
                    none [],
                  AOper.mk none (AOp.store 5 (Operand.tmp 6) (Operand.tmp 24)) none [0, 0]]
def l22r3 : List AOper :=
  [AOper.mk (some 25) (AOp.mv (Operand.tmp 0)) none [],
              AOper.mk (some 26) (AOp.load true 5 (Operand.tmp 4)) none [],
              AOper.mk (some 27) (AOp.call 40 [Operand.tmp 25, Operand.tmp 26]) none [0, 1],
              AOper.mk (some 7) (AOp.mv (Operand.tmp 27)) none [2, 2, 0, 1, 2]]
def l22r4 : List AOper :=
  [AOper.mk (some 28) (AOp.mv (Operand.tmp 7)) none [],
                AOper.mk (some 29) (AOp.len (Operand.tmp 28)) none [0],
                AOper.mk (some 30) (AOp.load true 5 (Operand.tmp 5)) none [],
                AOper.mk (some 31) (AOp.call 40 [Operand.tmp 29, Operand.tmp 30]) none [1, 2],
                AOper.mk (some 8) (AOp.mv (Operand.tmp 31)) none [3, 3, 0, 1, 2, 3]]
def l22r5 : List AOper :=
  [AOper.mk (some 32) (AOp.bslice 1 [Value.int IntKind.i64 0] [] 0) none [],
                  AOper.mk (some 9) (AOp.mv (Operand.tmp 32)) none [0, 0]]
def l22r6 : List AOper :=
  [AOper.mk (some 10) (AOp.mv (Operand.const (Value.int IntKind.i64 0))) none []]
def l22r7 : List AOper :=
  [AOper.mk (some 33) (AOp.mv (Operand.tmp 10)) none [],
                              AOper.mk (some 34) (AOp.mv (Operand.tmp 8)) none [],
                              AOper.mk (some 35) (AOp.len (Operand.tmp 34)) none [1],
                              AOper.mk (some 36) (AOp.bin BinOp.lss (Operand.tmp 33) (Operand.tmp 35)) none [0, 2]]
def l22r8 : List AOper :=
  [AOper.mk (some 39) (AOp.mv (Operand.tmp 9)) none [],
                                AOper.mk (some 40) (AOp.mv (Operand.tmp 7)) none [],
                                AOper.mk (some 41) (AOp.mv (Operand.tmp 8)) none [],
                                AOper.mk (some 42) (AOp.mv (Operand.tmp 10)) none [],
                                AOper.mk (some 43) (AOp.idxA 1 (Operand.tmp 41) (Operand.tmp 42)) none [2, 3],
                                AOper.mk (some 44) (AOp.load false 1 (Operand.tmp 43)) none [4],
                                AOper.mk (some 45) (AOp.idxA 1 (Operand.tmp 40) (Operand.tmp 44)) none [1, 5],
                                AOper.mk (some 46) (AOp.load false 1 (Operand.tmp 45)) none [6],
                                AOper.mk (some 47)
                                  (AOp.bslice 1 [Value.int IntKind.i64 0] [(0, Operand.tmp 46)] 1) none [7],
                                AOper.mk (some 48) (AOp.append 1 (Operand.tmp 39) (Operand.tmp 47)) none [0, 8],
                                AOper.mk (some 9) (AOp.mv (Operand.tmp 48)) none [9, 9, 0, 1, 2, 3, 4, 5, 6, 7, 8, 9]]
def l22r9 : List AOper :=
  [AOper.mk (some 37) (AOp.mv (Operand.tmp 10)) none [],
                              AOper.mk (some 38)
                                (AOp.bin BinOp.add (Operand.tmp 37)
                                  (Operand.const (Value.int IntKind.i64 1)))
                                none [0],
                              AOper.mk (some 10) (AOp.mv (Operand.tmp 38)) none [1, 0, 1]]
def l22r10 : List AOper :=
  [AOper.mk (some 49) (AOp.mv (Operand.tmp 9)) none [],
                      AOper.mk (some 50) (AOp.call 44 [Operand.tmp 49]) none [0],
                      AOper.mk (some 51) (AOp.call 47 [Operand.tmp 50]) none [1, 1],
                      AOper.mk none (AOp.store 5 (Operand.tmp 6) (Operand.tmp 51)) none [2, 2, 0, 1, 2]]
def l22 : AFn :=
  (AFn.mk 52 3
    (ACode.seq
      (ACode.reg l22r0)
      (ACode.seq
        (ACode.seq
          (ACode.reg l22r1)
          (ACode.cond (Operand.tmp 23)
            (ACode.seq
              (ACode.reg l22r2)
              ACode.ret)
            ACode.skip))
        (ACode.seq
          (ACode.reg l22r3)
          (ACode.seq
            (ACode.reg l22r4)
            (ACode.seq
              (ACode.reg l22r5)
              (ACode.seq
                (ACode.seq
                  (ACode.reg l22r6)
                  (ACode.block 0
                    (ACode.loop
                      (ACode.seq
                        (ACode.seq
                          (ACode.reg l22r7)
                          (ACode.cond (Operand.tmp 36) ACode.skip (ACode.exit 0)))
                        (ACode.seq
                          (ACode.block 1
                            (ACode.reg l22r8))
                          (ACode.reg l22r9))))))
                (ACode.seq
                  (ACode.reg l22r10)
                  ACode.ret)))))))
    [ARes.cell 6 true 5])
theorem l22_eq : lowFn Try.prog 22 = some l22 := by kernel_rfl
def l23r0 : List AOper :=
  [AOper.mk (some 4) (AOp.box (Operand.tmp 1)) none [], AOper.mk (some 5) (AOp.box (Operand.tmp 2)) none [],
          AOper.mk (some 6)
            (AOp.alloc
              [Value.int IntKind.i64 0, Value.int IntKind.i64 0,
                Value.int IntKind.i64 0, Value.bool false, Value.bool false])
            none []]
def l23r1 : List AOper :=
  [AOper.mk (some 10) (AOp.mv (Operand.tmp 0)) none [],
              AOper.mk (some 11) (AOp.call 41 [Operand.tmp 10]) none [0],
              AOper.mk (some 12) (AOp.un UnOp.not (Operand.tmp 11)) none [1],
              AOper.mk (some 13) (AOp.mv (Operand.tmp 12)) none [2, 1],
              AOper.mk (some 14) (AOp.load true 5 (Operand.tmp 4)) (some (13, false)) [3],
              AOper.mk (some 15) (AOp.call 42 [Operand.tmp 14]) (some (13, false)) [4, 3, 3],
              AOper.mk (some 16) (AOp.un UnOp.not (Operand.tmp 15)) (some (13, false)) [5, 3],
              AOper.mk (some 17) (AOp.pick (Operand.tmp 13) (Operand.const (Value.bool true)) (Operand.tmp 16)) none
                [3, 6],
              AOper.mk (some 18) (AOp.mv (Operand.tmp 17)) none [7, 5],
              AOper.mk (some 19) (AOp.load true 5 (Operand.tmp 5)) (some (18, false)) [8],
              AOper.mk (some 20) (AOp.call 42 [Operand.tmp 19]) (some (18, false)) [9, 8, 8],
              AOper.mk (some 21) (AOp.un UnOp.not (Operand.tmp 20)) (some (18, false)) [10, 8],
              AOper.mk (some 22) (AOp.pick (Operand.tmp 18) (Operand.const (Value.bool true)) (Operand.tmp 21)) none
                [8, 11]]
def l23r2 : List AOper :=
  [AOper.mk (some 23)
                    (AOp.build
                      [Value.int IntKind.i64 0, Value.int IntKind.i64 0,
                        Value.int IntKind.i64 0, Value.bool false, Value.bool false]
                      [])
                    none [],
                  AOper.mk none (AOp.store 5 (Operand.tmp 6) (Operand.tmp 23)) none [0, 0]]
def l23r3 : List AOper :=
  [AOper.mk (some 24) (AOp.load true 5 (Operand.tmp 4)) none [],
              AOper.mk (some 25) (AOp.mv (Operand.tmp 0)) none [],
              AOper.mk (some 26) (AOp.call 43 [Operand.tmp 24, Operand.tmp 25]) none [0, 1],
              AOper.mk (some 7)
                (AOp.alloc
                  [Value.int IntKind.i64 0, Value.int IntKind.i64 0,
                    Value.int IntKind.i64 0])
                none [],
              AOper.mk none (AOp.store 3 (Operand.tmp 7) (Operand.tmp 26)) none [3, 2, 2, 0, 1, 2, 3]]
def l23r4a : List AOper :=
  [AOper.mk (some 27) (AOp.load true 3 (Operand.tmp 7)) none [], AOper.mk (some 28) (AOp.load true 5 (Operand.tmp 5)) none [], AOper.mk (some 29) (AOp.load true 3 (Operand.tmp 7)) none [], AOper.mk (some 30) (AOp.call 45 [Operand.tmp 29]) none [2], AOper.mk (some 31) (AOp.call 43 [Operand.tmp 28, Operand.tmp 30]) none [1, 3, 3], AOper.mk (some 32) (AOp.call 46 [Operand.tmp 27, Operand.tmp 31]) none [0, 4, 4], AOper.mk (some 8)
                  (AOp.alloc
                    [Value.int IntKind.i64 0, Value.int IntKind.i64 0,
                      Value.int IntKind.i64 0])
                  none []]
def l23r4b : List AOper :=
  [AOper.mk none (AOp.store 3 (Operand.tmp 8) (Operand.tmp 32)) none [6, 5, 5, 0, 1, 2, 3, 4, 5, 6]]
def l23r4 : List AOper := l23r4a ++ l23r4b
def l23r5 : List AOper :=
  [AOper.mk (some 33) (AOp.fld 0 (Operand.tmp 8)) none [],
                  AOper.mk (some 34) (AOp.load false 1 (Operand.tmp 33)) none [0],
                  AOper.mk (some 35) (AOp.fld 1 (Operand.tmp 8)) none [],
                  AOper.mk (some 36) (AOp.load false 1 (Operand.tmp 35)) none [2],
                  AOper.mk (some 37) (AOp.fld 2 (Operand.tmp 8)) none [],
                  AOper.mk (some 38) (AOp.load false 1 (Operand.tmp 37)) none [4],
                  AOper.mk (some 39)
                    (AOp.build
                      [Value.int IntKind.i64 0, Value.int IntKind.i64 0,
                        Value.int IntKind.i64 0, Value.bool false, Value.bool false]
                      [(0, 1, Operand.tmp 34), (1, 1, Operand.tmp 36), (2, 1, Operand.tmp 38),
                        (3, 1, Operand.const (Value.bool true)), (4, 1, Operand.const (Value.bool true))])
                    none [1, 3, 5],
                  AOper.mk (some 9)
                    (AOp.alloc
                      [Value.int IntKind.i64 0, Value.int IntKind.i64 0,
                        Value.int IntKind.i64 0, Value.bool false, Value.bool false])
                    none [],
                  AOper.mk none (AOp.store 5 (Operand.tmp 9) (Operand.tmp 39)) none [7, 6, 0, 1, 2, 3, 4, 5, 6, 7]]
def l23r6 : List AOper :=
  [AOper.mk (some 40) (AOp.fld 1 (Operand.tmp 8)) none [],
                      AOper.mk (some 41) (AOp.load false 1 (Operand.tmp 40)) none [0],
                      AOper.mk (some 42)
                        (AOp.bin BinOp.eql (Operand.tmp 41) (Operand.const (Value.int IntKind.i64 (-1))))
                        none [1]]
def l23r7 : List AOper :=
  [AOper.mk (some 43) (AOp.fld 1 (Operand.tmp 9)) none [],
                        AOper.mk none
                          (AOp.store 1 (Operand.tmp 43) (Operand.const (Value.int IntKind.i64 0))) none [0],
                        AOper.mk (some 44) (AOp.fld 4 (Operand.tmp 9)) none [0, 1],
                        AOper.mk none (AOp.store 1 (Operand.tmp 44) (Operand.const (Value.bool false))) none
                          [2, 1, 0, 1]]
def l23r8 : List AOper :=
  [AOper.mk (some 45) (AOp.load true 5 (Operand.tmp 9)) none [],
                      AOper.mk none (AOp.store 5 (Operand.tmp 6) (Operand.tmp 45)) none [0, 0]]
def l23 : AFn :=
  (AFn.mk 46 3
    (ACode.seq
      (ACode.reg l23r0)
      (ACode.seq
        (ACode.seq
          (ACode.reg l23r1)
          (ACode.cond (Operand.tmp 22)
            (ACode.seq
              (ACode.reg l23r2)
              ACode.ret)
            ACode.skip))
        (ACode.seq
          (ACode.reg l23r3)
          (ACode.seq
            (ACode.draw l23r4)
            (ACode.seq
              (ACode.reg l23r5)
              (ACode.seq
                (ACode.seq
                  (ACode.reg l23r6)
                  (ACode.cond (Operand.tmp 42)
                    (ACode.reg l23r7)
                    ACode.skip))
                (ACode.seq
                  (ACode.reg l23r8)
                  ACode.ret)))))))
    [ARes.cell 6 true 5])
theorem l23_eq : lowFn Try.prog 23 = some l23 := by kernel_rfl
def l24r0 : List AOper :=
  [AOper.mk (some 2) (AOp.box (Operand.tmp 0)) none [], AOper.mk (some 3) (AOp.box (Operand.tmp 1)) none [],
          AOper.mk (some 4) (AOp.mv (Operand.const (Value.bool false))) none []]
def l24r1 : List AOper :=
  [AOper.mk (some 5) (AOp.fld 0 (Operand.tmp 2)) none [],
              AOper.mk (some 6) (AOp.load false 1 (Operand.tmp 5)) none [0],
              AOper.mk (some 7) (AOp.fld 0 (Operand.tmp 3)) none [],
              AOper.mk (some 8) (AOp.load false 1 (Operand.tmp 7)) none [2],
              AOper.mk (some 9) (AOp.bin BinOp.neq (Operand.tmp 6) (Operand.tmp 8)) none [1, 3]]
def l24r2 : List AOper :=
  [AOper.mk (some 4) (AOp.mv (Operand.const (Value.bool false))) none []]
def l24r3 : List AOper :=
  [AOper.mk (some 10) (AOp.fld 1 (Operand.tmp 2)) none [],
                AOper.mk (some 11) (AOp.load false 1 (Operand.tmp 10)) none [0],
                AOper.mk (some 12) (AOp.fld 1 (Operand.tmp 3)) none [],
                AOper.mk (some 13) (AOp.load false 1 (Operand.tmp 12)) none [2],
                AOper.mk (some 14) (AOp.bin BinOp.neq (Operand.tmp 11) (Operand.tmp 13)) none [1, 3]]
def l24r4 : List AOper :=
  [AOper.mk (some 4) (AOp.mv (Operand.const (Value.bool false))) none []]
def l24r5 : List AOper :=
  [AOper.mk (some 15) (AOp.fld 2 (Operand.tmp 2)) none [],
                  AOper.mk (some 16) (AOp.load false 1 (Operand.tmp 15)) none [0],
                  AOper.mk (some 17) (AOp.fld 2 (Operand.tmp 3)) none [],
                  AOper.mk (some 18) (AOp.load false 1 (Operand.tmp 17)) none [2],
                  AOper.mk (some 19) (AOp.bin BinOp.neq (Operand.tmp 16) (Operand.tmp 18)) none [1, 3]]
def l24r6 : List AOper :=
  [AOper.mk (some 4) (AOp.mv (Operand.const (Value.bool false))) none []]
def l24r7 : List AOper :=
  [AOper.mk (some 20) (AOp.fld 3 (Operand.tmp 2)) none [],
                    AOper.mk (some 21) (AOp.load false 1 (Operand.tmp 20)) none [0],
                    AOper.mk (some 22) (AOp.fld 3 (Operand.tmp 3)) none [],
                    AOper.mk (some 23) (AOp.load false 1 (Operand.tmp 22)) none [2],
                    AOper.mk (some 24) (AOp.binB BinOp.neq (Operand.tmp 21) (Operand.tmp 23)) none [1, 3]]
def l24r8 : List AOper :=
  [AOper.mk (some 4) (AOp.mv (Operand.const (Value.bool false))) none []]
def l24r9 : List AOper :=
  [AOper.mk (some 25) (AOp.fld 4 (Operand.tmp 2)) none [],
                      AOper.mk (some 26) (AOp.load false 1 (Operand.tmp 25)) none [0],
                      AOper.mk (some 27) (AOp.fld 4 (Operand.tmp 3)) none [],
                      AOper.mk (some 28) (AOp.load false 1 (Operand.tmp 27)) none [2],
                      AOper.mk (some 29) (AOp.binB BinOp.neq (Operand.tmp 26) (Operand.tmp 28)) none [1, 3]]
def l24r10 : List AOper :=
  [AOper.mk (some 4) (AOp.mv (Operand.const (Value.bool false))) none []]
def l24r11 : List AOper :=
  [AOper.mk (some 4) (AOp.mv (Operand.const (Value.bool true))) none []]
def l24 : AFn :=
  (AFn.mk 30 2
    (ACode.seq
      (ACode.reg l24r0)
      (ACode.seq
        (ACode.seq
          (ACode.reg l24r1)
          (ACode.cond (Operand.tmp 9)
            (ACode.seq (ACode.reg l24r2) ACode.ret)
            ACode.skip))
        (ACode.seq
          (ACode.seq
            (ACode.reg l24r3)
            (ACode.cond (Operand.tmp 14)
              (ACode.seq (ACode.reg l24r4) ACode.ret)
              ACode.skip))
          (ACode.seq
            (ACode.seq
              (ACode.reg l24r5)
              (ACode.cond (Operand.tmp 19)
                (ACode.seq (ACode.reg l24r6)
                  ACode.ret)
                ACode.skip))
            (ACode.seq
              (ACode.seq
                (ACode.reg l24r7)
                (ACode.cond (Operand.tmp 24)
                  (ACode.seq (ACode.reg l24r8)
                    ACode.ret)
                  ACode.skip))
              (ACode.seq
                (ACode.seq
                  (ACode.reg l24r9)
                  (ACode.cond (Operand.tmp 29)
                    (ACode.seq (ACode.reg l24r10)
                      ACode.ret)
                    ACode.skip))
                (ACode.seq (ACode.reg l24r11)
                  ACode.ret)))))))
    [ARes.tmp 4])
theorem l24_eq : lowFn Try.prog 24 = some l24 := by kernel_rfl
def l25r0 : List AOper :=
  [AOper.mk (some 2) (AOp.box (Operand.tmp 0)) none [], AOper.mk (some 3) (AOp.box (Operand.tmp 1)) none [],
          AOper.mk (some 4)
            (AOp.alloc
              [Value.int IntKind.i64 0, Value.int IntKind.i64 0,
                Value.int IntKind.i64 0])
            none []]
def l25r1 : List AOper :=
  [AOper.mk (some 5) (AOp.load true 3 (Operand.tmp 2)) none [],
              AOper.mk (some 6) (AOp.call 34 [Operand.tmp 5]) none [0],
              AOper.mk (some 7) (AOp.un UnOp.not (Operand.tmp 6)) none [1],
              AOper.mk (some 8) (AOp.mv (Operand.tmp 7)) none [2, 1],
              AOper.mk (some 9) (AOp.load true 3 (Operand.tmp 3)) (some (8, false)) [3],
              AOper.mk (some 10) (AOp.call 34 [Operand.tmp 9]) (some (8, false)) [4, 3, 3],
              AOper.mk (some 11) (AOp.un UnOp.not (Operand.tmp 10)) (some (8, false)) [5, 3],
              AOper.mk (some 12) (AOp.pick (Operand.tmp 8) (Operand.const (Value.bool true)) (Operand.tmp 11)) none
                [3, 6]]
def l25r2 : List AOper :=
  [AOper.mk (some 13)
                    (AOp.build
                      [Value.int IntKind.i64 0, Value.int IntKind.i64 0,
                        Value.int IntKind.i64 0]
                      [])
                    none [],
                  AOper.mk none (AOp.store 3 (Operand.tmp 4) (Operand.tmp 13)) none [0, 0]]
def l25r3a : List AOper :=
  [AOper.mk (some 14) (AOp.load true 3 (Operand.tmp 2)) none [], AOper.mk (some 15) (AOp.call 35 [Operand.tmp 14]) none [0], AOper.mk (some 16) (AOp.call 49 [Operand.tmp 15]) none [1, 1], AOper.mk (some 17) (AOp.load true 3 (Operand.tmp 3)) none []]
def l25r3b : List AOper :=
  [AOper.mk (some 18) (AOp.call 35 [Operand.tmp 17]) none [3, 2], AOper.mk (some 19) (AOp.call 48 [Operand.tmp 16, Operand.tmp 18]) none [2, 4, 4], AOper.mk (some 20) (AOp.call 44 [Operand.tmp 19]) none [5, 5], AOper.mk none (AOp.store 3 (Operand.tmp 4) (Operand.tmp 20)) none [6, 6, 0, 1, 2, 3, 4, 5, 6]]
def l25r3 : List AOper := l25r3a ++ l25r3b
def l25 : AFn :=
  (AFn.mk 21 2
    (ACode.seq
      (ACode.reg l25r0)
      (ACode.seq
        (ACode.seq
          (ACode.reg l25r1)
          (ACode.cond (Operand.tmp 12)
            (ACode.seq
              (ACode.reg l25r2)
              ACode.ret)
            ACode.skip))
        (ACode.seq
          (ACode.draw l25r3)
          ACode.ret)))
    [ARes.cell 4 true 3])
theorem l25_eq : lowFn Try.prog 25 = some l25 := by kernel_rfl
def l26r0 : List AOper :=
  [AOper.mk (some 2) (AOp.box (Operand.tmp 0)) none [], AOper.mk (some 3) (AOp.box (Operand.tmp 1)) none [],
          AOper.mk (some 4)
            (AOp.alloc
              [Value.int IntKind.i64 0, Value.int IntKind.i64 0,
                Value.int IntKind.i64 0])
            none []]
def l26r1 : List AOper :=
  [AOper.mk (some 5) (AOp.load true 3 (Operand.tmp 2)) none [],
              AOper.mk (some 6) (AOp.call 36 [Operand.tmp 5]) none [0],
              AOper.mk (some 7) (AOp.un UnOp.not (Operand.tmp 6)) none [1],
              AOper.mk (some 8) (AOp.mv (Operand.tmp 7)) none [2, 1],
              AOper.mk (some 9) (AOp.load true 3 (Operand.tmp 3)) (some (8, false)) [3],
              AOper.mk (some 10) (AOp.call 36 [Operand.tmp 9]) (some (8, false)) [4, 3, 3],
              AOper.mk (some 11) (AOp.un UnOp.not (Operand.tmp 10)) (some (8, false)) [5, 3],
              AOper.mk (some 12) (AOp.pick (Operand.tmp 8) (Operand.const (Value.bool true)) (Operand.tmp 11)) none
                [3, 6]]
def l26r2 : List AOper :=
  [AOper.mk (some 13)
                    (AOp.build
                      [Value.int IntKind.i64 0, Value.int IntKind.i64 0,
                        Value.int IntKind.i64 0]
                      [])
                    none [],
                  AOper.mk none (AOp.store 3 (Operand.tmp 4) (Operand.tmp 13)) none [0, 0]]
def l26r3a : List AOper :=
  [AOper.mk (some 14) (AOp.load true 3 (Operand.tmp 2)) none [], AOper.mk (some 15) (AOp.call 50 [Operand.tmp 14]) none [0], AOper.mk (some 16) (AOp.load true 3 (Operand.tmp 3)) none []]
def l26r3b : List AOper :=
  [AOper.mk (some 17) (AOp.call 50 [Operand.tmp 16]) none [2, 1], AOper.mk (some 18) (AOp.call 51 [Operand.tmp 15, Operand.tmp 17]) none [1, 3, 3], AOper.mk none (AOp.store 3 (Operand.tmp 4) (Operand.tmp 18)) none [4, 4, 0, 1, 2, 3, 4]]
def l26r3 : List AOper := l26r3a ++ l26r3b
def l26 : AFn :=
  (AFn.mk 19 2
    (ACode.seq
      (ACode.reg l26r0)
      (ACode.seq
        (ACode.seq
          (ACode.reg l26r1)
          (ACode.cond (Operand.tmp 12)
            (ACode.seq
              (ACode.reg l26r2)
              ACode.ret)
            ACode.skip))
        (ACode.seq
          (ACode.draw l26r3)
          ACode.ret)))
    [ARes.cell 4 true 3])
theorem l26_eq : lowFn Try.prog 26 = some l26 := by kernel_rfl
def l27r0 : List AOper :=
  [AOper.mk (some 2) (AOp.box (Operand.tmp 0)) none [], AOper.mk (some 3) (AOp.box (Operand.tmp 1)) none [],
          AOper.mk (some 4) (AOp.mv (Operand.const (Value.bool false))) none []]
def l27r1a : List AOper :=
  [AOper.mk (some 5) (AOp.load true 3 (Operand.tmp 2)) none [], AOper.mk (some 6) (AOp.call 34 [Operand.tmp 5]) none [0], AOper.mk (some 7) (AOp.mv (Operand.tmp 6)) none [1, 1], AOper.mk (some 8) (AOp.load true 3 (Operand.tmp 3)) (some (7, true)) [2], AOper.mk (some 9) (AOp.call 34 [Operand.tmp 8]) (some (7, true)) [3, 2, 2], AOper.mk (some 10) (AOp.pick (Operand.tmp 7) (Operand.tmp 9) (Operand.const (Value.bool false))) none
              [2, 4], AOper.mk (some 11) (AOp.mv (Operand.tmp 10)) none [5, 4], AOper.mk (some 12) (AOp.load true 3 (Operand.tmp 3)) (some (11, true)) [6], AOper.mk (some 13) (AOp.call 35 [Operand.tmp 12]) (some (11, true)) [7, 6, 6], AOper.mk (some 14) (AOp.load true 3 (Operand.tmp 2)) (some (11, true)) [6], AOper.mk (some 15) (AOp.call 35 [Operand.tmp 14]) (some (11, true)) [9, 8, 6], AOper.mk (some 16) (AOp.call 48 [Operand.tmp 13, Operand.tmp 15]) (some (11, true)) [8, 10, 10, 6], AOper.mk (some 17) (AOp.len (Operand.tmp 16)) (some (11, true)) [11, 6], AOper.mk (some 18) (AOp.load true 3 (Operand.tmp 3)) (some (11, true)) [6], AOper.mk (some 19) (AOp.call 35 [Operand.tmp 18]) (some (11, true)) [13, 11, 6], AOper.mk (some 20) (AOp.len (Operand.tmp 19)) (some (11, true)) [14, 6]]
def l27r1b : List AOper :=
  [AOper.mk (some 21) (AOp.bin BinOp.eql (Operand.tmp 17) (Operand.tmp 20)) (some (11, true)) [12, 15, 6], AOper.mk (some 22) (AOp.pick (Operand.tmp 11) (Operand.tmp 21) (Operand.const (Value.bool false))) none
              [6, 16], AOper.mk (some 4) (AOp.mv (Operand.tmp 22)) none
              [17, 14, 0, 1, 2, 3, 4, 5, 6, 7, 8, 9, 10, 11, 12, 13, 14, 15, 16, 17]]
def l27r1 : List AOper := l27r1a ++ l27r1b
def l27 : AFn :=
  (AFn.mk 23 2
    (ACode.seq
      (ACode.reg l27r0)
      (ACode.seq
        (ACode.draw l27r1)
        ACode.ret))
    [ARes.tmp 4])
theorem l27_eq : lowFn Try.prog 27 = some l27 := by kernel_rfl
def l28r0 : List AOper :=
  [AOper.mk (some 2) (AOp.box (Operand.tmp 0)) none [], AOper.mk (some 3) (AOp.box (Operand.tmp 1)) none [],
          AOper.mk (some 4) (AOp.mv (Operand.const (Value.bool false))) none []]
def l28r1 : List AOper :=
  [AOper.mk (some 5) (AOp.load true 3 (Operand.tmp 2)) none [],
              AOper.mk (some 6) (AOp.call 36 [Operand.tmp 5]) none [0],
              AOper.mk (some 7) (AOp.un UnOp.not (Operand.tmp 6)) none [1],
              AOper.mk (some 8) (AOp.mv (Operand.tmp 7)) none [2, 1],
              AOper.mk (some 9) (AOp.load true 3 (Operand.tmp 3)) (some (8, false)) [3],
              AOper.mk (some 10) (AOp.call 36 [Operand.tmp 9]) (some (8, false)) [4, 3, 3],
              AOper.mk (some 11) (AOp.un UnOp.not (Operand.tmp 10)) (some (8, false)) [5, 3],
              AOper.mk (some 12) (AOp.pick (Operand.tmp 8) (Operand.const (Value.bool true)) (Operand.tmp 11)) none
                [3, 6]]
def l28r2 : List AOper :=
  [AOper.mk (some 4) (AOp.mv (Operand.const (Value.bool false))) none []]
def l28r3a : List AOper :=
  [AOper.mk (some 13) (AOp.load true 3 (Operand.tmp 2)) none [], AOper.mk (some 14) (AOp.load true 3 (Operand.tmp 3)) none [], AOper.mk (some 15) (AOp.call 26 [Operand.tmp 13, Operand.tmp 14]) none [0, 1], AOper.mk (some 16) (AOp.load true 3 (Operand.tmp 3)) none []]
def l28r3b : List AOper :=
  [AOper.mk (some 17) (AOp.call 50 [Operand.tmp 16]) none [3, 2], AOper.mk (some 18)
                (AOp.eqS false [(0, some IntKind.i64), (1, some IntKind.i64), (2, some IntKind.i64)] (Operand.tmp 15)
                  (Operand.tmp 17))
                none [2, 4], AOper.mk (some 4) (AOp.mv (Operand.tmp 18)) none [5, 4, 0, 1, 2, 3, 4, 5]]
def l28r3 : List AOper := l28r3a ++ l28r3b
def l28 : AFn :=
  (AFn.mk 19 2
    (ACode.seq
      (ACode.reg l28r0)
      (ACode.seq
        (ACode.seq
          (ACode.reg l28r1)
          (ACode.cond (Operand.tmp 12)
            (ACode.seq (ACode.reg l28r2) ACode.ret)
            ACode.skip))
        (ACode.seq
          (ACode.draw l28r3)
          ACode.ret)))
    [ARes.tmp 4])
theorem l28_eq : lowFn Try.prog 28 = some l28 := by kernel_rfl
def l29r0 : List AOper :=
  [AOper.mk (some 2) (AOp.box (Operand.tmp 0)) none [],
          AOper.mk (some 4) (AOp.mv (Operand.const (Value.slice none 0 0))) none []]
def l29r1 : List AOper :=
  [AOper.mk (some 10) (AOp.load true 3 (Operand.tmp 2)) none [],
              AOper.mk (some 11) (AOp.call 34 [Operand.tmp 10]) none [0],
              AOper.mk (some 12) (AOp.un UnOp.not (Operand.tmp 11)) none [1],
              AOper.mk (some 13) (AOp.mv (Operand.tmp 12)) none [2, 1],
              AOper.mk (some 14) (AOp.mv (Operand.tmp 1)) (some (13, false)) [3],
              AOper.mk (some 15)
                (AOp.call 38
                  [Operand.tmp 14, Operand.const (Value.int IntKind.i64 1),
                    Operand.const (Value.int IntKind.i64 6)])
                (some (13, false)) [4, 3, 3],
              AOper.mk (some 16) (AOp.un UnOp.not (Operand.tmp 15)) (some (13, false)) [5, 3],
              AOper.mk (some 17) (AOp.pick (Operand.tmp 13) (Operand.const (Value.bool true)) (Operand.tmp 16)) none
                [3, 6]]
def l29r2 : List AOper :=
  [AOper.mk (some 4) (AOp.mv (Operand.const (Value.slice none 0 0))) none []]
def l29r3 : List AOper :=
  [AOper.mk (some 18)
                (AOp.bslice 3
                  [Value.int IntKind.i64 0, Value.int IntKind.i64 0,
                    Value.int IntKind.i64 0]
                  [] 0)
                none [],
              AOper.mk (some 5) (AOp.mv (Operand.tmp 18)) none [0, 0]]
def l29r4 : List AOper :=
  [AOper.mk (some 19) (AOp.load true 3 (Operand.tmp 2)) none [],
                AOper.mk (some 20) (AOp.call 35 [Operand.tmp 19]) none [0],
                AOper.mk (some 6) (AOp.mv (Operand.tmp 20)) none [1, 1, 0, 1]]
def l29r5 : List AOper :=
  [AOper.mk (some 7) (AOp.mv (Operand.const (Value.int IntKind.i64 0))) none []]
def l29r6 : List AOper :=
  [AOper.mk (some 21) (AOp.mv (Operand.tmp 7)) none [],
                            AOper.mk (some 22) (AOp.mv (Operand.tmp 1)) none [],
                            AOper.mk (some 23) (AOp.bin BinOp.lss (Operand.tmp 21) (Operand.tmp 22)) none [0, 1]]
def l29r7 : List AOper :=
  [AOper.mk (some 26) (AOp.bslice 1 [Value.int IntKind.i64 0] [] 0) none [],
                                AOper.mk (some 8) (AOp.mv (Operand.tmp 26)) none [0, 0]]
def l29r8 : List AOper :=
  [AOper.mk (some 27) (AOp.mv (Operand.tmp 7)) none [],
                                    AOper.mk (some 9) (AOp.mv (Operand.tmp 27)) none [0, 0]]
def l29r9 : List AOper :=
  [AOper.mk (some 28) (AOp.mv (Operand.tmp 9)) none [],
                                            AOper.mk (some 29) (AOp.mv (Operand.tmp 6)) none [],
                                            AOper.mk (some 30) (AOp.len (Operand.tmp 29)) none [1],
                                            AOper.mk (some 31) (AOp.bin BinOp.lss (Operand.tmp 28) (Operand.tmp 30))
                                              none [0, 2]]
def l29r10 : List AOper :=
  [AOper.mk (some 35) (AOp.mv (Operand.tmp 8)) none [],
                                              AOper.mk (some 36) (AOp.mv (Operand.tmp 6)) none [],
                                              AOper.mk (some 37) (AOp.mv (Operand.tmp 9)) none [],
                                              AOper.mk (some 38) (AOp.idxA 1 (Operand.tmp 36) (Operand.tmp 37)) none
                                                [1, 2],
                                              AOper.mk (some 39) (AOp.load false 1 (Operand.tmp 38)) none [3],
                                              AOper.mk (some 40)
                                                (AOp.bslice 1 [Value.int IntKind.i64 0]
                                                  [(0, Operand.tmp 39)] 1)
                                                none [4],
                                              AOper.mk (some 41) (AOp.append 1 (Operand.tmp 35) (Operand.tmp 40)) none
                                                [0, 5],
                                              AOper.mk (some 8) (AOp.mv (Operand.tmp 41)) none
                                                [6, 6, 0, 1, 2, 3, 4, 5, 6]]
def l29r11 : List AOper :=
  [AOper.mk (some 32) (AOp.mv (Operand.tmp 9)) none [],
                                            AOper.mk (some 33) (AOp.mv (Operand.tmp 1)) none [],
                                            AOper.mk (some 34) (AOp.bin BinOp.add (Operand.tmp 32) (Operand.tmp 33))
                                              none [0, 1],
                                            AOper.mk (some 9) (AOp.mv (Operand.tmp 34)) none [2, 0, 1, 2]]
def l29r12 : List AOper :=
  [AOper.mk (some 42) (AOp.mv (Operand.tmp 5)) none [],
                                  AOper.mk (some 43) (AOp.mv (Operand.tmp 8)) none [],
                                  AOper.mk (some 44) (AOp.call 44 [Operand.tmp 43]) none [1],
                                  AOper.mk (some 45)
                                    (AOp.bslice 3
                                      [Value.int IntKind.i64 0, Value.int IntKind.i64 0,
                                        Value.int IntKind.i64 0]
                                      [(0, Operand.tmp 44)] 1)
                                    none [2],
                                  AOper.mk (some 46) (AOp.append 3 (Operand.tmp 42) (Operand.tmp 45)) none [0, 3, 2],
                                  AOper.mk (some 5) (AOp.mv (Operand.tmp 46)) none [4, 4, 0, 1, 2, 3, 4]]
def l29r13 : List AOper :=
  [AOper.mk (some 24) (AOp.mv (Operand.tmp 7)) none [],
                            AOper.mk (some 25)
                              (AOp.bin BinOp.add (Operand.tmp 24) (Operand.const (Value.int IntKind.i64 1)))
                              none [0],
                            AOper.mk (some 7) (AOp.mv (Operand.tmp 25)) none [1, 0, 1]]
def l29r14 : List AOper :=
  [AOper.mk (some 47) (AOp.mv (Operand.tmp 5)) none [],
                    AOper.mk (some 4) (AOp.mv (Operand.tmp 47)) none [0, 0]]
def l29 : AFn :=
  (AFn.mk 48 2
    (ACode.seq
      (ACode.reg l29r0)
      (ACode.seq
        (ACode.seq
          (ACode.reg l29r1)
          (ACode.cond (Operand.tmp 17)
            (ACode.seq (ACode.reg l29r2)
              ACode.ret)
            ACode.skip))
        (ACode.seq
          (ACode.reg l29r3)
          (ACode.seq
            (ACode.reg l29r4)
            (ACode.seq
              (ACode.seq
                (ACode.reg l29r5)
                (ACode.block 0
                  (ACode.loop
                    (ACode.seq
                      (ACode.seq
                        (ACode.reg l29r6)
                        (ACode.cond (Operand.tmp 23) ACode.skip (ACode.exit 0)))
                      (ACode.seq
                        (ACode.block 1
                          (ACode.seq
                            (ACode.reg l29r7)
                            (ACode.seq
                              (ACode.seq
                                (ACode.reg l29r8)
                                (ACode.block 2
                                  (ACode.loop
                                    (ACode.seq
                                      (ACode.seq
                                        (ACode.reg l29r9)
                                        (ACode.cond (Operand.tmp 31) ACode.skip (ACode.exit 2)))
                                      (ACode.seq
                                        (ACode.block 3
                                          (ACode.reg l29r10))
                                        (ACode.reg l29r11))))))
                              (ACode.reg l29r12))))
                        (ACode.reg l29r13))))))
              (ACode.seq
                (ACode.reg l29r14)
                ACode.ret))))))
    [ARes.tmp 4])
theorem l29_eq : lowFn Try.prog 29 = some l29 := by kernel_rfl
def l30r0 : List AOper :=
  [AOper.mk (some 2) (AOp.box (Operand.tmp 0)) none [],
          AOper.mk (some 4) (AOp.mv (Operand.const (Value.slice none 0 0))) none []]
def l30r1 : List AOper :=
  [AOper.mk (some 7) (AOp.load true 3 (Operand.tmp 2)) none [],
              AOper.mk (some 8) (AOp.call 36 [Operand.tmp 7]) none [0],
              AOper.mk (some 9) (AOp.un UnOp.not (Operand.tmp 8)) none [1],
              AOper.mk (some 10) (AOp.mv (Operand.tmp 9)) none [2, 1],
              AOper.mk (some 11) (AOp.mv (Operand.tmp 1)) (some (10, false)) [3],
              AOper.mk (some 12)
                (AOp.bin BinOp.lss (Operand.tmp 11) (Operand.const (Value.int IntKind.i64 1)))
                (some (10, false)) [4, 3],
              AOper.mk (some 13) (AOp.pick (Operand.tmp 10) (Operand.const (Value.bool true)) (Operand.tmp 12)) none
                [3, 5],
              AOper.mk (some 14) (AOp.mv (Operand.tmp 13)) none [6, 3],
              AOper.mk (some 15) (AOp.mv (Operand.tmp 1)) (some (14, false)) [7],
              AOper.mk (some 16)
                (AOp.bin BinOp.gtr (Operand.tmp 15) (Operand.const (Value.int IntKind.i64 6)))
                (some (14, false)) [8, 7],
              AOper.mk (some 17) (AOp.pick (Operand.tmp 14) (Operand.const (Value.bool true)) (Operand.tmp 16)) none
                [7, 9]]
def l30r2 : List AOper :=
  [AOper.mk (some 4) (AOp.mv (Operand.const (Value.slice none 0 0))) none []]
def l30r3 : List AOper :=
  [AOper.mk (some 18) (AOp.mv (Operand.tmp 1)) none [],
              AOper.mk (some 19)
                (AOp.mkslice 3
                  [Value.int IntKind.i64 0, Value.int IntKind.i64 0,
                    Value.int IntKind.i64 0]
                  (Operand.tmp 18) (Operand.tmp 18))
                none [0, 0],
              AOper.mk (some 5) (AOp.mv (Operand.tmp 19)) none [1, 0, 1]]
def l30r4 : List AOper :=
  [AOper.mk (some 20) (AOp.mv (Operand.tmp 5)) none [],
                  AOper.mk (some 21) (AOp.len (Operand.tmp 20)) none [0],
                  AOper.mk (some 22) (AOp.mv (Operand.const (Value.int IntKind.i64 0))) none []]
def l30r5 : List AOper :=
  [AOper.mk (some 23) (AOp.bin BinOp.lss (Operand.tmp 22) (Operand.tmp 21)) none []]
def l30r6 : List AOper :=
  [AOper.mk (some 24) (AOp.mv (Operand.tmp 22)) none [],
                                AOper.mk (some 6) (AOp.mv (Operand.tmp 24)) none [0, 0]]
def l30r7a : List AOper :=
  [AOper.mk (some 25) (AOp.mv (Operand.tmp 5)) none [], AOper.mk (some 26) (AOp.mv (Operand.tmp 6)) none [], AOper.mk (some 27) (AOp.load true 3 (Operand.tmp 2)) none [], AOper.mk (some 28) (AOp.mv (Operand.tmp 6)) none [], AOper.mk (some 29) (AOp.load true 3 (Operand.tmp 2)) none [], AOper.mk (some 30) (AOp.call 45 [Operand.tmp 29]) none [4], AOper.mk (some 31) (AOp.mv (Operand.tmp 1)) none [], AOper.mk (some 32)
                                  (AOp.build
                                    [Value.int IntKind.i64 0, Value.int IntKind.i64 0,
                                      Value.int IntKind.i64 0]
                                    [(0, 1, Operand.tmp 28), (1, 1, Operand.tmp 30), (2, 1, Operand.tmp 31)])
                                  none [3, 5, 6], AOper.mk (some 33) (AOp.call 46 [Operand.tmp 27, Operand.tmp 32]) none [2, 7, 5]]
def l30r7b : List AOper :=
  [AOper.mk (some 34) (AOp.idxA 3 (Operand.tmp 25) (Operand.tmp 26)) none
                                  [0, 1, 0, 1, 2, 3, 4, 5, 6, 7, 8], AOper.mk none (AOp.store 3 (Operand.tmp 34) (Operand.tmp 33)) none
                                  [9, 8, 8, 0, 1, 2, 3, 4, 5, 6, 7, 8]]
def l30r7 : List AOper := l30r7a ++ l30r7b
def l30r8 : List AOper :=
  [AOper.mk (some 35)
                              (AOp.bin BinOp.add (Operand.tmp 22) (Operand.const (Value.int IntKind.i64 1)))
                              none [],
                            AOper.mk (some 22) (AOp.mv (Operand.tmp 35)) none [0]]
def l30r9 : List AOper :=
  [AOper.mk (some 36) (AOp.mv (Operand.tmp 5)) none [],
                  AOper.mk (some 4) (AOp.mv (Operand.tmp 36)) none [0, 0]]
def l30 : AFn :=
  (AFn.mk 37 2
    (ACode.seq
      (ACode.reg l30r0)
      (ACode.seq
        (ACode.seq
          (ACode.reg l30r1)
          (ACode.cond (Operand.tmp 17)
            (ACode.seq (ACode.reg l30r2)
              ACode.ret)
            ACode.skip))
        (ACode.seq
          (ACode.reg l30r3)
          (ACode.seq
            (ACode.seq
              (ACode.reg l30r4)
              (ACode.block 0
                (ACode.loop
                  (ACode.seq
                    (ACode.reg l30r5)
                    (ACode.seq (ACode.cond (Operand.tmp 23) ACode.skip (ACode.exit 0))
                      (ACode.seq
                        (ACode.block 1
                          (ACode.seq
                            (ACode.reg l30r6)
                            (ACode.draw l30r7)))
                        (ACode.reg l30r8)))))))
            (ACode.seq
              (ACode.reg l30r9)
              ACode.ret)))))
    [ARes.tmp 4])
theorem l30_eq : lowFn Try.prog 30 = some l30 := by kernel_rfl
def l31r0 : List AOper :=
  [AOper.mk (some 4) (AOp.mv (Operand.const (Value.bool false))) none []]
def l31r1 : List AOper :=
  [AOper.mk (some 6) (AOp.mv (Operand.tmp 0)) none [], AOper.mk (some 7) (AOp.len (Operand.tmp 6)) none [0],
              AOper.mk (some 8) (AOp.mv (Operand.tmp 1)) none [], AOper.mk (some 9) (AOp.len (Operand.tmp 8)) none [2],
              AOper.mk (some 10) (AOp.bin BinOp.neq (Operand.tmp 7) (Operand.tmp 9)) none [1, 3]]
def l31r2 : List AOper :=
  [AOper.mk (some 4) (AOp.mv (Operand.const (Value.bool false))) none []]
def l31r3 : List AOper :=
  [AOper.mk (some 5) (AOp.mv (Operand.const (Value.int IntKind.i64 0))) none []]
def l31r4 : List AOper :=
  [AOper.mk (some 11) (AOp.mv (Operand.tmp 5)) none [],
                        AOper.mk (some 12) (AOp.mv (Operand.tmp 0)) none [],
                        AOper.mk (some 13) (AOp.len (Operand.tmp 12)) none [1],
                        AOper.mk (some 14) (AOp.bin BinOp.lss (Operand.tmp 11) (Operand.tmp 13)) none [0, 2]]
def l31r5a : List AOper :=
  [AOper.mk (some 17) (AOp.mv (Operand.tmp 0)) none [], AOper.mk (some 18) (AOp.mv (Operand.tmp 5)) none [], AOper.mk (some 19) (AOp.idxA 3 (Operand.tmp 17) (Operand.tmp 18)) none [0, 1], AOper.mk (some 20) (AOp.load true 3 (Operand.tmp 19)) none [2], AOper.mk (some 21) (AOp.mv (Operand.tmp 1)) none [], AOper.mk (some 22) (AOp.mv (Operand.tmp 5)) none [], AOper.mk (some 23) (AOp.idxA 3 (Operand.tmp 21) (Operand.tmp 22)) none [4, 5], AOper.mk (some 24) (AOp.load true 3 (Operand.tmp 23)) none [6]]
def l31r5b : List AOper :=
  [AOper.mk (some 25) (AOp.call 21 [Operand.tmp 20, Operand.tmp 24]) none [3, 7], AOper.mk (some 26) (AOp.un UnOp.not (Operand.tmp 25)) none [8]]
def l31r5 : List AOper := l31r5a ++ l31r5b
def l31r6 : List AOper :=
  [AOper.mk (some 4) (AOp.mv (Operand.const (Value.bool false))) none []]
def l31r7 : List AOper :=
  [AOper.mk (some 15) (AOp.mv (Operand.tmp 5)) none [],
                        AOper.mk (some 16)
                          (AOp.bin BinOp.add (Operand.tmp 15) (Operand.const (Value.int IntKind.i64 1)))
                          none [0],
                        AOper.mk (some 5) (AOp.mv (Operand.tmp 16)) none [1, 0, 1]]
def l31r8 : List AOper :=
  [AOper.mk (some 4) (AOp.mv (Operand.const (Value.bool true))) none []]
def l31 : AFn :=
  (AFn.mk 27 2
    (ACode.seq (ACode.reg l31r0)
      (ACode.seq
        (ACode.seq
          (ACode.reg l31r1)
          (ACode.cond (Operand.tmp 10)
            (ACode.seq (ACode.reg l31r2) ACode.ret)
            ACode.skip))
        (ACode.seq
          (ACode.seq
            (ACode.reg l31r3)
            (ACode.block 0
              (ACode.loop
                (ACode.seq
                  (ACode.seq
                    (ACode.reg l31r4)
                    (ACode.cond (Operand.tmp 14) ACode.skip (ACode.exit 0)))
                  (ACode.seq
                    (ACode.block 1
                      (ACode.seq
                        (ACode.draw l31r5)
                        (ACode.cond (Operand.tmp 26)
                          (ACode.seq (ACode.reg l31r6)
                            ACode.ret)
                          ACode.skip)))
                    (ACode.reg l31r7))))))
          (ACode.seq (ACode.reg l31r8) ACode.ret))))
    [ARes.tmp 4])
theorem l31_eq : lowFn Try.prog 31 = some l31 := by kernel_rfl
def l32r0 : List AOper :=
  [AOper.mk (some 4) (AOp.mv (Operand.const (Value.int IntKind.i64 0))) none []]
def l32r1 : List AOper :=
  [AOper.mk (some 5) (AOp.mv (Operand.const (Value.int IntKind.i64 0))) none []]
def l32r2 : List AOper :=
  [AOper.mk (some 6) (AOp.mv (Operand.tmp 5)) none [],
                      AOper.mk (some 7) (AOp.mv (Operand.tmp 0)) none [],
                      AOper.mk (some 8) (AOp.len (Operand.tmp 7)) none [1],
                      AOper.mk (some 9) (AOp.bin BinOp.lss (Operand.tmp 6) (Operand.tmp 8)) none [0, 2]]
def l32r3 : List AOper :=
  [AOper.mk (some 12) (AOp.mv (Operand.tmp 0)) none [],
                          AOper.mk (some 13) (AOp.mv (Operand.tmp 5)) none [],
                          AOper.mk (some 14) (AOp.mv (Operand.tmp 1)) none [],
                          AOper.mk (some 15) (AOp.idxA 3 (Operand.tmp 12) (Operand.tmp 13)) none [0, 1, 0, 1, 2],
                          AOper.mk (some 16) (AOp.fld 0 (Operand.tmp 15)) none [3, 0, 1, 2],
                          AOper.mk none (AOp.store 1 (Operand.tmp 16) (Operand.tmp 14)) none [4, 2, 0, 1, 2]]
def l32r4 : List AOper :=
  [AOper.mk (some 17) (AOp.mv (Operand.tmp 1)) none [],
                            AOper.mk (some 18)
                              (AOp.bin BinOp.add (Operand.tmp 17) (Operand.const (Value.int IntKind.i64 1)))
                              none [0],
                            AOper.mk (some 1) (AOp.mv (Operand.tmp 18)) none [1, 0, 1]]
def l32r5 : List AOper :=
  [AOper.mk (some 19) (AOp.mv (Operand.tmp 0)) none [],
                              AOper.mk (some 20) (AOp.mv (Operand.tmp 5)) none [],
                              AOper.mk (some 21) (AOp.mv (Operand.tmp 1)) none [],
                              AOper.mk (some 22) (AOp.idxA 3 (Operand.tmp 19) (Operand.tmp 20)) none [0, 1, 0, 1, 2],
                              AOper.mk (some 23) (AOp.fld 1 (Operand.tmp 22)) none [3, 0, 1, 2],
                              AOper.mk none (AOp.store 1 (Operand.tmp 23) (Operand.tmp 21)) none [4, 2, 0, 1, 2]]
def l32r6 : List AOper :=
  [AOper.mk (some 24) (AOp.mv (Operand.tmp 1)) none [],
                                AOper.mk (some 25)
                                  (AOp.bin BinOp.add (Operand.tmp 24)
                                    (Operand.const (Value.int IntKind.i64 1)))
                                  none [0],
                                AOper.mk (some 1) (AOp.mv (Operand.tmp 25)) none [1, 0, 1]]
def l32r7 : List AOper :=
  [AOper.mk (some 26) (AOp.mv (Operand.tmp 0)) none [],
                                  AOper.mk (some 27) (AOp.mv (Operand.tmp 5)) none [],
                                  AOper.mk (some 28) (AOp.mv (Operand.tmp 1)) none [],
                                  AOper.mk (some 29) (AOp.idxA 3 (Operand.tmp 26) (Operand.tmp 27)) none
                                    [0, 1, 0, 1, 2],
                                  AOper.mk (some 30) (AOp.fld 2 (Operand.tmp 29)) none [3, 0, 1, 2],
                                  AOper.mk none (AOp.store 1 (Operand.tmp 30) (Operand.tmp 28)) none [4, 2, 0, 1, 2]]
def l32r8 : List AOper :=
  [AOper.mk (some 31) (AOp.mv (Operand.tmp 1)) none [],
                                  AOper.mk (some 32)
                                    (AOp.bin BinOp.add (Operand.tmp 31)
                                      (Operand.const (Value.int IntKind.i64 1)))
                                    none [0],
                                  AOper.mk (some 1) (AOp.mv (Operand.tmp 32)) none [1, 0, 1]]
def l32r9 : List AOper :=
  [AOper.mk (some 10) (AOp.mv (Operand.tmp 5)) none [],
                      AOper.mk (some 11)
                        (AOp.bin BinOp.add (Operand.tmp 10) (Operand.const (Value.int IntKind.i64 1))) none
                        [0],
                      AOper.mk (some 5) (AOp.mv (Operand.tmp 11)) none [1, 0, 1]]
def l32r10 : List AOper :=
  [AOper.mk (some 33) (AOp.mv (Operand.tmp 1)) none [],
              AOper.mk (some 4) (AOp.mv (Operand.tmp 33)) none [0, 0]]
def l32 : AFn :=
  (AFn.mk 34 2
    (ACode.seq (ACode.reg l32r0)
      (ACode.seq
        (ACode.seq
          (ACode.reg l32r1)
          (ACode.block 0
            (ACode.loop
              (ACode.seq
                (ACode.seq
                  (ACode.reg l32r2)
                  (ACode.cond (Operand.tmp 9) ACode.skip (ACode.exit 0)))
                (ACode.seq
                  (ACode.block 1
                    (ACode.seq
                      (ACode.reg l32r3)
                      (ACode.seq
                        (ACode.reg l32r4)
                        (ACode.seq
                          (ACode.reg l32r5)
                          (ACode.seq
                            (ACode.reg l32r6)
                            (ACode.seq
                              (ACode.reg l32r7)
                              (ACode.reg l32r8)))))))
                  (ACode.reg l32r9))))))
        (ACode.seq
          (ACode.reg l32r10)
          ACode.ret)))
    [ARes.tmp 4])
theorem l32_eq : lowFn Try.prog 32 = some l32 := by kernel_rfl
def l33r0 : List AOper :=
  [AOper.mk (some 4) (AOp.mv (Operand.const (Value.int IntKind.i64 0))) none []]
def l33r1 : List AOper :=
  [AOper.mk (some 5) (AOp.mv (Operand.const (Value.int IntKind.i64 0))) none []]
def l33r2 : List AOper :=
  [AOper.mk (some 6) (AOp.mv (Operand.tmp 5)) none [],
                      AOper.mk (some 7) (AOp.mv (Operand.tmp 0)) none [],
                      AOper.mk (some 8) (AOp.len (Operand.tmp 7)) none [1],
                      AOper.mk (some 9) (AOp.bin BinOp.lss (Operand.tmp 6) (Operand.tmp 8)) none [0, 2]]
def l33r3 : List AOper :=
  [AOper.mk (some 12) (AOp.mv (Operand.tmp 0)) none [],
                            AOper.mk (some 13) (AOp.mv (Operand.tmp 5)) none [],
                            AOper.mk (some 14) (AOp.idxA 3 (Operand.tmp 12) (Operand.tmp 13)) none [0, 1],
                            AOper.mk (some 15) (AOp.fld 0 (Operand.tmp 14)) none [2],
                            AOper.mk (some 16) (AOp.load false 1 (Operand.tmp 15)) none [3],
                            AOper.mk (some 17) (AOp.mv (Operand.tmp 1)) none [],
                            AOper.mk (some 18) (AOp.bin BinOp.neq (Operand.tmp 16) (Operand.tmp 17)) none [4, 5]]
def l33r4 : List AOper :=
  [AOper.mk (some 4) (AOp.mv (Operand.const (Value.int IntKind.i64 (-1)))) none
                                  []]
def l33r5 : List AOper :=
  [AOper.mk (some 19) (AOp.mv (Operand.tmp 1)) none [],
                            AOper.mk (some 20)
                              (AOp.bin BinOp.add (Operand.tmp 19) (Operand.const (Value.int IntKind.i64 1)))
                              none [0],
                            AOper.mk (some 1) (AOp.mv (Operand.tmp 20)) none [1, 0, 1]]
def l33r6 : List AOper :=
  [AOper.mk (some 21) (AOp.mv (Operand.tmp 0)) none [],
                                AOper.mk (some 22) (AOp.mv (Operand.tmp 5)) none [],
                                AOper.mk (some 23) (AOp.idxA 3 (Operand.tmp 21) (Operand.tmp 22)) none [0, 1],
                                AOper.mk (some 24) (AOp.fld 1 (Operand.tmp 23)) none [2],
                                AOper.mk (some 25) (AOp.load false 1 (Operand.tmp 24)) none [3],
                                AOper.mk (some 26) (AOp.mv (Operand.tmp 1)) none [],
                                AOper.mk (some 27) (AOp.bin BinOp.neq (Operand.tmp 25) (Operand.tmp 26)) none [4, 5]]
def l33r7 : List AOper :=
  [AOper.mk (some 4) (AOp.mv (Operand.const (Value.int IntKind.i64 (-1))))
                                      none []]
def l33r8 : List AOper :=
  [AOper.mk (some 28) (AOp.mv (Operand.tmp 1)) none [],
                                AOper.mk (some 29)
                                  (AOp.bin BinOp.add (Operand.tmp 28)
                                    (Operand.const (Value.int IntKind.i64 1)))
                                  none [0],
                                AOper.mk (some 1) (AOp.mv (Operand.tmp 29)) none [1, 0, 1]]
def l33r9 : List AOper :=
  [AOper.mk (some 30) (AOp.mv (Operand.tmp 0)) none [],
                                    AOper.mk (some 31) (AOp.mv (Operand.tmp 5)) none [],
                                    AOper.mk (some 32) (AOp.idxA 3 (Operand.tmp 30) (Operand.tmp 31)) none [0, 1],
                                    AOper.mk (some 33) (AOp.fld 2 (Operand.tmp 32)) none [2],
                                    AOper.mk (some 34) (AOp.load false 1 (Operand.tmp 33)) none [3],
                                    AOper.mk (some 35) (AOp.mv (Operand.tmp 1)) none [],
                                    AOper.mk (some 36) (AOp.bin BinOp.neq (Operand.tmp 34) (Operand.tmp 35)) none
                                      [4, 5]]
def l33r10 : List AOper :=
  [AOper.mk (some 4)
                                          (AOp.mv (Operand.const (Value.int IntKind.i64 (-1)))) none []]
def l33r11 : List AOper :=
  [AOper.mk (some 37) (AOp.mv (Operand.tmp 1)) none [],
                                  AOper.mk (some 38)
                                    (AOp.bin BinOp.add (Operand.tmp 37)
                                      (Operand.const (Value.int IntKind.i64 1)))
                                    none [0],
                                  AOper.mk (some 1) (AOp.mv (Operand.tmp 38)) none [1, 0, 1]]
def l33r12 : List AOper :=
  [AOper.mk (some 10) (AOp.mv (Operand.tmp 5)) none [],
                      AOper.mk (some 11)
                        (AOp.bin BinOp.add (Operand.tmp 10) (Operand.const (Value.int IntKind.i64 1))) none
                        [0],
                      AOper.mk (some 5) (AOp.mv (Operand.tmp 11)) none [1, 0, 1]]
def l33r13 : List AOper :=
  [AOper.mk (some 39) (AOp.mv (Operand.tmp 1)) none [],
              AOper.mk (some 4) (AOp.mv (Operand.tmp 39)) none [0, 0]]
def l33 : AFn :=
  (AFn.mk 40 2
    (ACode.seq (ACode.reg l33r0)
      (ACode.seq
        (ACode.seq
          (ACode.reg l33r1)
          (ACode.block 0
            (ACode.loop
              (ACode.seq
                (ACode.seq
                  (ACode.reg l33r2)
                  (ACode.cond (Operand.tmp 9) ACode.skip (ACode.exit 0)))
                (ACode.seq
                  (ACode.block 1
                    (ACode.seq
                      (ACode.seq
                        (ACode.reg l33r3)
                        (ACode.cond (Operand.tmp 18)
                          (ACode.seq
                            (ACode.reg l33r4)
                            ACode.ret)
                          ACode.skip))
                      (ACode.seq
                        (ACode.reg l33r5)
                        (ACode.seq
                          (ACode.seq
                            (ACode.reg l33r6)
                            (ACode.cond (Operand.tmp 27)
                              (ACode.seq
                                (ACode.reg l33r7)
                                ACode.ret)
                              ACode.skip))
                          (ACode.seq
                            (ACode.reg l33r8)
                            (ACode.seq
                              (ACode.seq
                                (ACode.reg l33r9)
                                (ACode.cond (Operand.tmp 36)
                                  (ACode.seq
                                    (ACode.reg l33r10)
                                    ACode.ret)
                                  ACode.skip))
                              (ACode.reg l33r11)))))))
                  (ACode.reg l33r12))))))
        (ACode.seq
          (ACode.reg l33r13)
          ACode.ret)))
    [ARes.tmp 4])
theorem l33_eq : lowFn Try.prog 33 = some l33 := by kernel_rfl
def l34r0 : List AOper :=
  [AOper.mk (some 1) (AOp.box (Operand.tmp 0)) none [],
          AOper.mk (some 2) (AOp.mv (Operand.const (Value.bool false))) none []]
def l34r1 : List AOper :=
  [AOper.mk (some 3) (AOp.fld 0 (Operand.tmp 1)) none [],
            AOper.mk (some 4) (AOp.load false 1 (Operand.tmp 3)) none [0],
            AOper.mk (some 5)
              (AOp.call 38
                [Operand.tmp 4, Operand.const (Value.int IntKind.i64 (-100)),
                  Operand.const (Value.int IntKind.i64 100)])
              none [1],
            AOper.mk (some 6) (AOp.mv (Operand.tmp 5)) none [2, 2],
            AOper.mk (some 7) (AOp.fld 1 (Operand.tmp 1)) (some (6, true)) [3],
            AOper.mk (some 8) (AOp.load false 1 (Operand.tmp 7)) (some (6, true)) [4, 3],
            AOper.mk (some 9)
              (AOp.call 38
                [Operand.tmp 8, Operand.const (Value.int IntKind.i64 (-101)),
                  Operand.const (Value.int IntKind.i64 101)])
              (some (6, true)) [5, 3, 3],
            AOper.mk (some 10) (AOp.pick (Operand.tmp 6) (Operand.tmp 9) (Operand.const (Value.bool false))) none
              [3, 6],
            AOper.mk (some 11) (AOp.mv (Operand.tmp 10)) none [7, 6],
            AOper.mk (some 12) (AOp.fld 2 (Operand.tmp 1)) (some (11, true)) [8],
            AOper.mk (some 13) (AOp.load false 1 (Operand.tmp 12)) (some (11, true)) [9, 8],
            AOper.mk (some 14)
              (AOp.call 38
                [Operand.tmp 13, Operand.const (Value.int IntKind.i64 (-200)),
                  Operand.const (Value.int IntKind.i64 200)])
              (some (11, true)) [10, 8, 8],
            AOper.mk (some 15) (AOp.pick (Operand.tmp 11) (Operand.tmp 14) (Operand.const (Value.bool false))) none
              [8, 11],
            AOper.mk (some 16) (AOp.mv (Operand.tmp 15)) none [12, 11],
            AOper.mk (some 17) (AOp.fld 2 (Operand.tmp 1)) (some (16, true)) [13],
            AOper.mk (some 18) (AOp.load false 1 (Operand.tmp 17)) (some (16, true)) [14, 13],
            AOper.mk (some 19)
              (AOp.bin BinOp.neq (Operand.tmp 18) (Operand.const (Value.int IntKind.i64 0)))
              (some (16, true)) [15, 13],
            AOper.mk (some 20) (AOp.pick (Operand.tmp 16) (Operand.tmp 19) (Operand.const (Value.bool false))) none
              [13, 16],
            AOper.mk (some 2) (AOp.mv (Operand.tmp 20)) none
              [17, 13, 0, 1, 2, 3, 4, 5, 6, 7, 8, 9, 10, 11, 12, 13, 14, 15, 16, 17]]
def l34 : AFn :=
  (AFn.mk 21 1
    (ACode.seq
      (ACode.reg l34r0)
      (ACode.seq
        (ACode.reg l34r1)
        ACode.ret))
    [ARes.tmp 2])
theorem l34_eq : lowFn Try.prog 34 = some l34 := by kernel_rfl
def l35r0 : List AOper :=
  [AOper.mk (some 1) (AOp.box (Operand.tmp 0)) none [],
          AOper.mk (some 2) (AOp.mv (Operand.const (Value.slice none 0 0))) none []]
def l35r1 : List AOper :=
  [AOper.mk (some 5) (AOp.bslice 1 [Value.int IntKind.i64 0] [] 0) none [],
            AOper.mk (some 3) (AOp.mv (Operand.tmp 5)) none [0, 0]]
def l35r2 : List AOper :=
  [AOper.mk (some 6) (AOp.fld 0 (Operand.tmp 1)) none [],
                AOper.mk (some 7) (AOp.load false 1 (Operand.tmp 6)) none [0],
                AOper.mk (some 4) (AOp.mv (Operand.tmp 7)) none [1, 0, 1]]
def l35r3 : List AOper :=
  [AOper.mk (some 8) (AOp.fld 2 (Operand.tmp 1)) none [],
                        AOper.mk (some 9) (AOp.load false 1 (Operand.tmp 8)) none [0],
                        AOper.mk (some 10)
                          (AOp.bin BinOp.gtr (Operand.tmp 9) (Operand.const (Value.int IntKind.i64 0))) none
                          [1],
                        AOper.mk (some 11) (AOp.mv (Operand.tmp 10)) none [2],
                        AOper.mk (some 12) (AOp.mv (Operand.tmp 4)) (some (11, true)) [3],
                        AOper.mk (some 13) (AOp.fld 1 (Operand.tmp 1)) (some (11, true)) [3],
                        AOper.mk (some 14) (AOp.load false 1 (Operand.tmp 13)) (some (11, true)) [5, 3],
                        AOper.mk (some 15) (AOp.bin BinOp.lss (Operand.tmp 12) (Operand.tmp 14)) (some (11, true))
                          [4, 6, 3],
                        AOper.mk (some 16)
                          (AOp.pick (Operand.tmp 11) (Operand.tmp 15) (Operand.const (Value.bool false))) none [3, 7],
                        AOper.mk (some 17) (AOp.mv (Operand.tmp 16)) none [8, 3],
                        AOper.mk (some 18) (AOp.fld 2 (Operand.tmp 1)) (some (17, false)) [9],
                        AOper.mk (some 19) (AOp.load false 1 (Operand.tmp 18)) (some (17, false)) [10, 9],
                        AOper.mk (some 20)
                          (AOp.bin BinOp.lss (Operand.tmp 19) (Operand.const (Value.int IntKind.i64 0)))
                          (some (17, false)) [11, 9],
                        AOper.mk (some 21) (AOp.mv (Operand.tmp 20)) (some (17, false)) [12, 9, 9],
                        AOper.mk (some 22) (AOp.mv (Operand.tmp 4)) (some (21, true)) [13],
                        AOper.mk (some 23) (AOp.fld 1 (Operand.tmp 1)) (some (21, true)) [13],
                        AOper.mk (some 24) (AOp.load false 1 (Operand.tmp 23)) (some (21, true)) [15, 13],
                        AOper.mk (some 25) (AOp.bin BinOp.gtr (Operand.tmp 22) (Operand.tmp 24)) (some (21, true))
                          [14, 16, 13],
                        AOper.mk (some 26)
                          (AOp.pick (Operand.tmp 21) (Operand.tmp 25) (Operand.const (Value.bool false)))
                          (some (17, false)) [13, 17, 9],
                        AOper.mk (some 27)
                          (AOp.pick (Operand.tmp 17) (Operand.const (Value.bool true)) (Operand.tmp 26)) none [9, 18]]
def l35r4 : List AOper :=
  [AOper.mk (some 32) (AOp.mv (Operand.tmp 3)) none [],
                          AOper.mk (some 33) (AOp.mv (Operand.tmp 4)) none [],
                          AOper.mk (some 34)
                            (AOp.bslice 1 [Value.int IntKind.i64 0] [(0, Operand.tmp 33)] 1) none [1],
                          AOper.mk (some 35) (AOp.append 1 (Operand.tmp 32) (Operand.tmp 34)) none [0, 2],
                          AOper.mk (some 3) (AOp.mv (Operand.tmp 35)) none [3, 3, 0, 1, 2, 3]]
def l35r5 : List AOper :=
  [AOper.mk (some 28) (AOp.mv (Operand.tmp 4)) none [],
                        AOper.mk (some 29) (AOp.fld 2 (Operand.tmp 1)) none [],
                        AOper.mk (some 30) (AOp.load false 1 (Operand.tmp 29)) none [1],
                        AOper.mk (some 31) (AOp.bin BinOp.add (Operand.tmp 28) (Operand.tmp 30)) none [0, 2],
                        AOper.mk (some 4) (AOp.mv (Operand.tmp 31)) none [3, 0, 1, 2, 3]]
def l35r6 : List AOper :=
  [AOper.mk (some 36) (AOp.mv (Operand.tmp 3)) none [],
                AOper.mk (some 2) (AOp.mv (Operand.tmp 36)) none [0, 0]]
def l35 : AFn :=
  (AFn.mk 37 1
    (ACode.seq
      (ACode.reg l35r0)
      (ACode.seq
        (ACode.reg l35r1)
        (ACode.seq
          (ACode.seq
            (ACode.reg l35r2)
            (ACode.block 0
              (ACode.loop
                (ACode.seq
                  (ACode.seq
                    (ACode.reg l35r3)
                    (ACode.cond (Operand.tmp 27) ACode.skip (ACode.exit 0)))
                  (ACode.seq
                    (ACode.block 1
                      (ACode.reg l35r4))
                    (ACode.reg l35r5))))))
          (ACode.seq
            (ACode.reg l35r6)
            ACode.ret))))
    [ARes.tmp 2])
theorem l35_eq : lowFn Try.prog 35 = some l35 := by kernel_rfl
def l36r0 : List AOper :=
  [AOper.mk (some 1) (AOp.box (Operand.tmp 0)) none [],
          AOper.mk (some 2) (AOp.mv (Operand.const (Value.bool false))) none []]
def l36r1 : List AOper :=
  [AOper.mk (some 3) (AOp.fld 0 (Operand.tmp 1)) none [],
            AOper.mk (some 4) (AOp.load false 1 (Operand.tmp 3)) none [0],
            AOper.mk (some 5) (AOp.call 52 [Operand.tmp 4, Operand.const (Value.int IntKind.i64 100)]) none
              [1],
            AOper.mk (some 6) (AOp.mv (Operand.tmp 5)) none [2, 2],
            AOper.mk (some 7) (AOp.fld 1 (Operand.tmp 1)) (some (6, true)) [3],
            AOper.mk (some 8) (AOp.load false 1 (Operand.tmp 7)) (some (6, true)) [4, 3],
            AOper.mk (some 9) (AOp.call 52 [Operand.tmp 8, Operand.const (Value.int IntKind.i64 101)])
              (some (6, true)) [5, 3, 3],
            AOper.mk (some 10) (AOp.pick (Operand.tmp 6) (Operand.tmp 9) (Operand.const (Value.bool false))) none
              [3, 6],
            AOper.mk (some 11) (AOp.mv (Operand.tmp 10)) none [7, 6],
            AOper.mk (some 12) (AOp.fld 2 (Operand.tmp 1)) (some (11, true)) [8],
            AOper.mk (some 13) (AOp.load false 1 (Operand.tmp 12)) (some (11, true)) [9, 8],
            AOper.mk (some 14) (AOp.call 53 [Operand.tmp 13]) (some (11, true)) [10, 8, 8],
            AOper.mk (some 15) (AOp.pick (Operand.tmp 11) (Operand.tmp 14) (Operand.const (Value.bool false))) none
              [8, 11],
            AOper.mk (some 2) (AOp.mv (Operand.tmp 15)) none [12, 11, 0, 1, 2, 3, 4, 5, 6, 7, 8, 9, 10, 11, 12]]
def l36 : AFn :=
  (AFn.mk 16 1
    (ACode.seq
      (ACode.reg l36r0)
      (ACode.seq
        (ACode.reg l36r1)
        ACode.ret))
    [ARes.tmp 2])
theorem l36_eq : lowFn Try.prog 36 = some l36 := by kernel_rfl
def l37r0 : List AOper :=
  [AOper.mk (some 1) (AOp.box (Operand.tmp 0)) none [],
          AOper.mk (some 2) (AOp.mv (Operand.const (Value.slice none 0 0))) none []]
def l37r1 : List AOper :=
  [AOper.mk (some 5) (AOp.load true 3 (Operand.tmp 1)) none [],
            AOper.mk (some 6) (AOp.call 45 [Operand.tmp 5]) none [0],
            AOper.mk (some 7) (AOp.mkslice 1 [Value.int IntKind.i64 0] (Operand.tmp 6) (Operand.tmp 6)) none
              [1, 1],
            AOper.mk (some 3) (AOp.mv (Operand.tmp 7)) none [2, 1, 0, 1, 2]]
def l37r2 : List AOper :=
  [AOper.mk (some 8) (AOp.mv (Operand.tmp 3)) none [], AOper.mk (some 9) (AOp.len (Operand.tmp 8)) none [0],
                AOper.mk (some 10) (AOp.mv (Operand.const (Value.int IntKind.i64 0))) none []]
def l37r3 : List AOper :=
  [AOper.mk (some 11) (AOp.bin BinOp.lss (Operand.tmp 10) (Operand.tmp 9)) none []]
def l37r4 : List AOper :=
  [AOper.mk (some 12) (AOp.mv (Operand.tmp 10)) none [],
                              AOper.mk (some 4) (AOp.mv (Operand.tmp 12)) none [0, 0]]
def l37r5 : List AOper :=
  [AOper.mk (some 13) (AOp.mv (Operand.tmp 3)) none [],
                              AOper.mk (some 14) (AOp.mv (Operand.tmp 4)) none [],
                              AOper.mk (some 15) (AOp.load true 3 (Operand.tmp 1)) none [],
                              AOper.mk (some 16) (AOp.mv (Operand.tmp 4)) none [],
                              AOper.mk (some 17) (AOp.call 54 [Operand.tmp 15, Operand.tmp 16]) none [2, 3],
                              AOper.mk (some 18) (AOp.idxA 1 (Operand.tmp 13) (Operand.tmp 14)) none
                                [0, 1, 0, 1, 2, 3, 4],
                              AOper.mk none (AOp.store 1 (Operand.tmp 18) (Operand.tmp 17)) none
                                [5, 4, 4, 0, 1, 2, 3, 4]]
def l37r6 : List AOper :=
  [AOper.mk (some 19)
                            (AOp.bin BinOp.add (Operand.tmp 10) (Operand.const (Value.int IntKind.i64 1)))
                            none [],
                          AOper.mk (some 10) (AOp.mv (Operand.tmp 19)) none [0]]
def l37r7 : List AOper :=
  [AOper.mk (some 20) (AOp.mv (Operand.tmp 3)) none [],
                AOper.mk (some 2) (AOp.mv (Operand.tmp 20)) none [0, 0]]
def l37 : AFn :=
  (AFn.mk 21 1
    (ACode.seq
      (ACode.reg l37r0)
      (ACode.seq
        (ACode.reg l37r1)
        (ACode.seq
          (ACode.seq
            (ACode.reg l37r2)
            (ACode.block 0
              (ACode.loop
                (ACode.seq (ACode.reg l37r3)
                  (ACode.seq (ACode.cond (Operand.tmp 11) ACode.skip (ACode.exit 0))
                    (ACode.seq
                      (ACode.block 1
                        (ACode.seq
                          (ACode.reg l37r4)
                          (ACode.reg l37r5)))
                      (ACode.reg l37r6)))))))
          (ACode.seq
            (ACode.reg l37r7)
            ACode.ret))))
    [ARes.tmp 2])
theorem l37_eq : lowFn Try.prog 37 = some l37 := by kernel_rfl
def l38r0 : List AOper :=
  [AOper.mk (some 6) (AOp.mv (Operand.const (Value.bool false))) none []]
def l38r1 : List AOper :=
  [AOper.mk (some 7) (AOp.mv (Operand.tmp 1)) none [], AOper.mk (some 8) (AOp.mv (Operand.tmp 0)) none [],
            AOper.mk (some 9) (AOp.bin BinOp.leq (Operand.tmp 7) (Operand.tmp 8)) none [0, 1],
            AOper.mk (some 10) (AOp.mv (Operand.tmp 9)) none [2],
            AOper.mk (some 11) (AOp.mv (Operand.tmp 0)) (some (10, true)) [3],
            AOper.mk (some 12) (AOp.mv (Operand.tmp 2)) (some (10, true)) [3],
            AOper.mk (some 13) (AOp.bin BinOp.leq (Operand.tmp 11) (Operand.tmp 12)) (some (10, true)) [4, 5, 3],
            AOper.mk (some 14) (AOp.pick (Operand.tmp 10) (Operand.tmp 13) (Operand.const (Value.bool false))) none
              [3, 6],
            AOper.mk (some 6) (AOp.mv (Operand.tmp 14)) none [7, 3, 0, 1, 2, 3, 4, 5, 6, 7]]
def l38 : AFn :=
  (AFn.mk 15 3
    (ACode.seq (ACode.reg l38r0)
      (ACode.seq
        (ACode.reg l38r1)
        ACode.ret))
    [ARes.tmp 6])
theorem l38_eq : lowFn Try.prog 38 = some l38 := by kernel_rfl
def l39r0 : List AOper :=
  [AOper.mk (some 1) (AOp.box (Operand.tmp 0)) none [],
          AOper.mk (some 2) (AOp.mv (Operand.const (Value.bool false))) none []]
def l39r1 : List AOper :=
  [AOper.mk (some 3) (AOp.fld 0 (Operand.tmp 1)) none [],
            AOper.mk (some 4) (AOp.load false 1 (Operand.tmp 3)) none [0],
            AOper.mk (some 5)
              (AOp.call 38
                [Operand.tmp 4, Operand.const (Value.int IntKind.i64 (-100)),
                  Operand.const (Value.int IntKind.i64 100)])
              none [1],
            AOper.mk (some 6) (AOp.mv (Operand.tmp 5)) none [2, 2],
            AOper.mk (some 7) (AOp.fld 1 (Operand.tmp 1)) (some (6, true)) [3],
            AOper.mk (some 8) (AOp.load false 1 (Operand.tmp 7)) (some (6, true)) [4, 3],
            AOper.mk (some 9)
              (AOp.call 38
                [Operand.tmp 8, Operand.const (Value.int IntKind.i64 (-100)),
                  Operand.const (Value.int IntKind.i64 100)])
              (some (6, true)) [5, 3, 3],
            AOper.mk (some 10) (AOp.pick (Operand.tmp 6) (Operand.tmp 9) (Operand.const (Value.bool false))) none
              [3, 6],
            AOper.mk (some 11) (AOp.mv (Operand.tmp 10)) none [7, 6],
            AOper.mk (some 12) (AOp.fld 2 (Operand.tmp 1)) (some (11, true)) [8],
            AOper.mk (some 13) (AOp.load false 1 (Operand.tmp 12)) (some (11, true)) [9, 8],
            AOper.mk (some 14)
              (AOp.call 38
                [Operand.tmp 13, Operand.const (Value.int IntKind.i64 (-200)),
                  Operand.const (Value.int IntKind.i64 200)])
              (some (11, true)) [10, 8, 8],
            AOper.mk (some 15) (AOp.pick (Operand.tmp 11) (Operand.tmp 14) (Operand.const (Value.bool false))) none
              [8, 11],
            AOper.mk (some 16) (AOp.mv (Operand.tmp 15)) none [12, 11],
            AOper.mk (some 17) (AOp.fld 2 (Operand.tmp 1)) (some (16, true)) [13],
            AOper.mk (some 18) (AOp.load false 1 (Operand.tmp 17)) (some (16, true)) [14, 13],
            AOper.mk (some 19)
              (AOp.bin BinOp.neq (Operand.tmp 18) (Operand.const (Value.int IntKind.i64 0)))
              (some (16, true)) [15, 13],
            AOper.mk (some 20) (AOp.pick (Operand.tmp 16) (Operand.tmp 19) (Operand.const (Value.bool false))) none
              [13, 16],
            AOper.mk (some 21) (AOp.mv (Operand.tmp 20)) none [17, 13],
            AOper.mk (some 22) (AOp.fld 3 (Operand.tmp 1)) (some (21, true)) [18],
            AOper.mk (some 23) (AOp.load false 1 (Operand.tmp 22)) (some (21, true)) [19, 18],
            AOper.mk (some 24) (AOp.mv (Operand.tmp 23)) (some (21, true)) [20, 18, 18],
            AOper.mk (some 25) (AOp.fld 0 (Operand.tmp 1)) (some (24, false)) [21],
            AOper.mk (some 26) (AOp.load false 1 (Operand.tmp 25)) (some (24, false)) [22, 21],
            AOper.mk (some 27)
              (AOp.bin BinOp.eql (Operand.tmp 26) (Operand.const (Value.int IntKind.i64 0)))
              (some (24, false)) [23, 21],
            AOper.mk (some 28) (AOp.pick (Operand.tmp 24) (Operand.const (Value.bool true)) (Operand.tmp 27))
              (some (21, true)) [21, 24, 18],
            AOper.mk (some 29) (AOp.pick (Operand.tmp 21) (Operand.tmp 28) (Operand.const (Value.bool false))) none
              [18, 25],
            AOper.mk (some 30) (AOp.mv (Operand.tmp 29)) none [26, 21],
            AOper.mk (some 31) (AOp.fld 4 (Operand.tmp 1)) (some (30, true)) [27],
            AOper.mk (some 32) (AOp.load false 1 (Operand.tmp 31)) (some (30, true)) [28, 27],
            AOper.mk (some 33) (AOp.mv (Operand.tmp 32)) (some (30, true)) [29, 27, 27],
            AOper.mk (some 34) (AOp.fld 1 (Operand.tmp 1)) (some (33, false)) [30],
            AOper.mk (some 35) (AOp.load false 1 (Operand.tmp 34)) (some (33, false)) [31, 30],
            AOper.mk (some 36)
              (AOp.bin BinOp.eql (Operand.tmp 35) (Operand.const (Value.int IntKind.i64 0)))
              (some (33, false)) [32, 30],
            AOper.mk (some 37) (AOp.pick (Operand.tmp 33) (Operand.const (Value.bool true)) (Operand.tmp 36))
              (some (30, true)) [30, 33, 27],
            AOper.mk (some 38) (AOp.pick (Operand.tmp 30) (Operand.tmp 37) (Operand.const (Value.bool false))) none
              [27, 34],
            AOper.mk (some 2) (AOp.mv (Operand.tmp 38)) none
              [35, 30, 0, 1, 2, 3, 4, 5, 6, 7, 8, 9, 10, 11, 12, 13, 14, 15, 16, 17, 18, 19, 20, 21, 22, 23, 24, 25, 26,
                27, 28, 29, 30, 31, 32, 33, 34, 35]]
def l39 : AFn :=
  (AFn.mk 39 1
    (ACode.seq
      (ACode.reg l39r0)
      (ACode.seq
        (ACode.reg l39r1)
        ACode.ret))
    [ARes.tmp 2])
theorem l39_eq : lowFn Try.prog 39 = some l39 := by kernel_rfl
def l40r0 : List AOper :=
  [AOper.mk (some 3) (AOp.box (Operand.tmp 1)) none [],
          AOper.mk (some 4) (AOp.mv (Operand.const (Value.slice none 0 0))) none []]
def l40r1 : List AOper :=
  [AOper.mk (some 5) (AOp.mv (Operand.const (Value.int IntKind.i64 0))) none []]
def l40r2 : List AOper :=
  [AOper.mk (some 7) (AOp.mv (Operand.tmp 0)) none [],
              AOper.mk (some 6) (AOp.mv (Operand.tmp 7)) none [0, 0]]
def l40r3 : List AOper :=
  [AOper.mk (some 8) (AOp.fld 2 (Operand.tmp 3)) none [],
                  AOper.mk (some 9) (AOp.load false 1 (Operand.tmp 8)) none [0],
                  AOper.mk (some 10)
                    (AOp.bin BinOp.lss (Operand.tmp 9) (Operand.const (Value.int IntKind.i64 0))) none [1]]
def l40r4 : List AOper :=
  [AOper.mk (some 11) (AOp.mv (Operand.tmp 0)) none [],
                      AOper.mk (some 12)
                        (AOp.bin BinOp.sub (Operand.tmp 11) (Operand.const (Value.int IntKind.i64 1))) none
                        [0],
                      AOper.mk (some 5) (AOp.mv (Operand.tmp 12)) none [1, 0, 1]]
def l40r5 : List AOper :=
  [AOper.mk (some 6) (AOp.mv (Operand.const (Value.int IntKind.i64 (-1)))) none []]
def l40r6 : List AOper :=
  [AOper.mk (some 13) (AOp.fld 3 (Operand.tmp 3)) none [],
                    AOper.mk (some 14) (AOp.load false 1 (Operand.tmp 13)) none [0]]
def l40r7 : List AOper :=
  [AOper.mk (some 15) (AOp.mv (Operand.tmp 0)) none [],
                      AOper.mk (some 16) (AOp.fld 0 (Operand.tmp 3)) none [],
                      AOper.mk (some 17) (AOp.load false 1 (Operand.tmp 16)) none [1],
                      AOper.mk (some 18) (AOp.fld 2 (Operand.tmp 3)) none [],
                      AOper.mk (some 19) (AOp.load false 1 (Operand.tmp 18)) none [3],
                      AOper.mk (some 20) (AOp.call 55 [Operand.tmp 15, Operand.tmp 17, Operand.tmp 19]) none [0, 2, 4],
                      AOper.mk (some 5) (AOp.mv (Operand.tmp 20)) none [5, 5, 0, 1, 2, 3, 4, 5]]
def l40r8 : List AOper :=
  [AOper.mk (some 21) (AOp.fld 4 (Operand.tmp 3)) none [],
                      AOper.mk (some 22) (AOp.load false 1 (Operand.tmp 21)) none [0]]
def l40r9 : List AOper :=
  [AOper.mk (some 23) (AOp.mv (Operand.tmp 0)) none [],
                        AOper.mk (some 24) (AOp.fld 1 (Operand.tmp 3)) none [],
                        AOper.mk (some 25) (AOp.load false 1 (Operand.tmp 24)) none [1],
                        AOper.mk (some 26) (AOp.fld 2 (Operand.tmp 3)) none [],
                        AOper.mk (some 27) (AOp.load false 1 (Operand.tmp 26)) none [3],
                        AOper.mk (some 28) (AOp.call 55 [Operand.tmp 23, Operand.tmp 25, Operand.tmp 27]) none
                          [0, 2, 4],
                        AOper.mk (some 6) (AOp.mv (Operand.tmp 28)) none [5, 5, 0, 1, 2, 3, 4, 5]]
def l40r10 : List AOper :=
  [AOper.mk (some 29) (AOp.mv (Operand.tmp 5)) none [],
                      AOper.mk (some 30) (AOp.mv (Operand.tmp 6)) none [],
                      AOper.mk (some 31) (AOp.fld 2 (Operand.tmp 3)) none [],
                      AOper.mk (some 32) (AOp.load false 1 (Operand.tmp 31)) none [2],
                      AOper.mk (some 33)
                        (AOp.build
                          [Value.int IntKind.i64 0, Value.int IntKind.i64 0,
                            Value.int IntKind.i64 0]
                          [(0, 1, Operand.tmp 29), (1, 1, Operand.tmp 30), (2, 1, Operand.tmp 32)])
                        none [0, 1, 3],
                      AOper.mk (some 34) (AOp.call 35 [Operand.tmp 33]) none [4],
                      AOper.mk (some 4) (AOp.mv (Operand.tmp 34)) none [5, 5, 0, 1, 2, 3, 4, 5]]
def l40 : AFn :=
  (AFn.mk 35 2
    (ACode.seq
      (ACode.reg l40r0)
      (ACode.seq (ACode.reg l40r1)
        (ACode.seq
          (ACode.reg l40r2)
          (ACode.seq
            (ACode.seq
              (ACode.reg l40r3)
              (ACode.cond (Operand.tmp 10)
                (ACode.seq
                  (ACode.reg l40r4)
                  (ACode.reg l40r5))
                ACode.skip))
            (ACode.seq
              (ACode.seq
                (ACode.reg l40r6)
                (ACode.cond (Operand.tmp 14)
                  (ACode.reg l40r7)
                  ACode.skip))
              (ACode.seq
                (ACode.seq
                  (ACode.reg l40r8)
                  (ACode.cond (Operand.tmp 22)
                    (ACode.reg l40r9)
                    ACode.skip))
                (ACode.seq
                  (ACode.reg l40r10)
                  ACode.ret)))))))
    [ARes.tmp 4])
theorem l40_eq : lowFn Try.prog 40 = some l40 := by kernel_rfl
def l41r0 : List AOper :=
  [AOper.mk (some 2) (AOp.mv (Operand.const (Value.bool false))) none []]
def l41r1 : List AOper :=
  [AOper.mk (some 3) (AOp.mv (Operand.tmp 0)) none [],
            AOper.mk (some 4) (AOp.bin BinOp.leq (Operand.const (Value.int IntKind.i64 0)) (Operand.tmp 3))
              none [0],
            AOper.mk (some 5) (AOp.mv (Operand.tmp 4)) none [1],
            AOper.mk (some 6) (AOp.mv (Operand.tmp 0)) (some (5, true)) [2],
            AOper.mk (some 7) (AOp.bin BinOp.leq (Operand.tmp 6) (Operand.const (Value.int IntKind.i64 60)))
              (some (5, true)) [3, 2],
            AOper.mk (some 8) (AOp.pick (Operand.tmp 5) (Operand.tmp 7) (Operand.const (Value.bool false))) none [2, 4],
            AOper.mk (some 2) (AOp.mv (Operand.tmp 8)) none [5, 2, 0, 1, 2, 3, 4, 5]]
def l41 : AFn :=
  (AFn.mk 9 1
    (ACode.seq (ACode.reg l41r0)
      (ACode.seq
        (ACode.reg l41r1)
        ACode.ret))
    [ARes.tmp 2])
theorem l41_eq : lowFn Try.prog 41 = some l41 := by kernel_rfl
def l42r0 : List AOper :=
  [AOper.mk (some 1) (AOp.box (Operand.tmp 0)) none [],
          AOper.mk (some 2) (AOp.mv (Operand.const (Value.bool false))) none []]
def l42r1 : List AOper :=
  [AOper.mk (some 3) (AOp.fld 0 (Operand.tmp 1)) none [],
            AOper.mk (some 4) (AOp.load false 1 (Operand.tmp 3)) none [0],
            AOper.mk (some 5) (AOp.fld 3 (Operand.tmp 1)) none [],
            AOper.mk (some 6) (AOp.load false 1 (Operand.tmp 5)) none [2],
            AOper.mk (some 7) (AOp.call 56 [Operand.tmp 4, Operand.tmp 6]) none [1, 3],
            AOper.mk (some 8) (AOp.mv (Operand.tmp 7)) none [4, 4],
            AOper.mk (some 9) (AOp.fld 1 (Operand.tmp 1)) (some (8, true)) [5],
            AOper.mk (some 10) (AOp.load false 1 (Operand.tmp 9)) (some (8, true)) [6, 5],
            AOper.mk (some 11) (AOp.fld 4 (Operand.tmp 1)) (some (8, true)) [5],
            AOper.mk (some 12) (AOp.load false 1 (Operand.tmp 11)) (some (8, true)) [8, 5],
            AOper.mk (some 13) (AOp.call 56 [Operand.tmp 10, Operand.tmp 12]) (some (8, true)) [7, 9, 5, 5],
            AOper.mk (some 14) (AOp.pick (Operand.tmp 8) (Operand.tmp 13) (Operand.const (Value.bool false))) none
              [5, 10],
            AOper.mk (some 15) (AOp.mv (Operand.tmp 14)) none [11, 10],
            AOper.mk (some 16) (AOp.fld 2 (Operand.tmp 1)) (some (15, true)) [12],
            AOper.mk (some 17) (AOp.load false 1 (Operand.tmp 16)) (some (15, true)) [13, 12],
            AOper.mk (some 18) (AOp.call 53 [Operand.tmp 17]) (some (15, true)) [14, 12, 12],
            AOper.mk (some 19) (AOp.pick (Operand.tmp 15) (Operand.tmp 18) (Operand.const (Value.bool false))) none
              [12, 15],
            AOper.mk (some 2) (AOp.mv (Operand.tmp 19)) none
              [16, 15, 0, 1, 2, 3, 4, 5, 6, 7, 8, 9, 10, 11, 12, 13, 14, 15, 16]]
def l42 : AFn :=
  (AFn.mk 20 1
    (ACode.seq
      (ACode.reg l42r0)
      (ACode.seq
        (ACode.reg l42r1)
        ACode.ret))
    [ARes.tmp 2])
theorem l42_eq : lowFn Try.prog 42 = some l42 := by kernel_rfl
def l43r0 : List AOper :=
  [AOper.mk (some 2) (AOp.box (Operand.tmp 0)) none [],
          AOper.mk (some 4)
            (AOp.alloc
              [Value.int IntKind.i64 0, Value.int IntKind.i64 0,
                Value.int IntKind.i64 0])
            none []]
def l43r1 : List AOper :=
  [AOper.mk (some 8) (AOp.mv (Operand.tmp 1)) none [],
            AOper.mk (some 5) (AOp.mv (Operand.const (Value.int IntKind.i64 0))) none [],
            AOper.mk (some 6) (AOp.mv (Operand.tmp 8)) none [0, 1, 0, 1]]
def l43r2 : List AOper :=
  [AOper.mk (some 9) (AOp.mv (Operand.tmp 5)) none [], AOper.mk (some 10) (AOp.mv (Operand.tmp 6)) none [],
              AOper.mk (some 11) (AOp.fld 2 (Operand.tmp 2)) none [],
              AOper.mk (some 12) (AOp.load false 1 (Operand.tmp 11)) none [2],
              AOper.mk (some 13)
                (AOp.build
                  [Value.int IntKind.i64 0, Value.int IntKind.i64 0,
                    Value.int IntKind.i64 0]
                  [(0, 1, Operand.tmp 9), (1, 1, Operand.tmp 10), (2, 1, Operand.tmp 12)])
                none [0, 1, 3],
              AOper.mk (some 7)
                (AOp.alloc
                  [Value.int IntKind.i64 0, Value.int IntKind.i64 0,
                    Value.int IntKind.i64 0])
                none [],
              AOper.mk none (AOp.store 3 (Operand.tmp 7) (Operand.tmp 13)) none [5, 4, 0, 1, 2, 3, 4, 5]]
def l43r3 : List AOper :=
  [AOper.mk (some 14) (AOp.fld 2 (Operand.tmp 2)) none [],
                  AOper.mk (some 15) (AOp.load false 1 (Operand.tmp 14)) none [0],
                  AOper.mk (some 16)
                    (AOp.bin BinOp.lss (Operand.tmp 15) (Operand.const (Value.int IntKind.i64 0))) none
                    [1]]
def l43r4 : List AOper :=
  [AOper.mk (some 17) (AOp.mv (Operand.tmp 1)) none [],
                      AOper.mk (some 18)
                        (AOp.bin BinOp.sub (Operand.tmp 17) (Operand.const (Value.int IntKind.i64 1))) none
                        [0],
                      AOper.mk (some 5) (AOp.mv (Operand.const (Value.int IntKind.i64 (-1)))) none [],
                      AOper.mk (some 6) (AOp.mv (Operand.tmp 18)) none [1, 2, 0, 1, 2]]
def l43r5 : List AOper :=
  [AOper.mk (some 19) (AOp.mv (Operand.tmp 6)) none [],
                      AOper.mk (some 20) (AOp.mv (Operand.tmp 5)) none [],
                      AOper.mk (some 21) (AOp.fld 0 (Operand.tmp 7)) none [0],
                      AOper.mk none (AOp.store 1 (Operand.tmp 21) (Operand.tmp 19)) none [2, 0, 0],
                      AOper.mk (some 22) (AOp.fld 1 (Operand.tmp 7)) none [0, 1, 2, 3],
                      AOper.mk none (AOp.store 1 (Operand.tmp 22) (Operand.tmp 20)) none [4, 1, 3, 0, 1, 2, 3]]
def l43r6 : List AOper :=
  [AOper.mk (some 23) (AOp.fld 3 (Operand.tmp 2)) none [],
                    AOper.mk (some 24) (AOp.load false 1 (Operand.tmp 23)) none [0]]
def l43r7 : List AOper :=
  [AOper.mk (some 25) (AOp.fld 0 (Operand.tmp 2)) none [],
                      AOper.mk (some 26) (AOp.load false 1 (Operand.tmp 25)) none [0],
                      AOper.mk (some 27) (AOp.mv (Operand.tmp 1)) none [],
                      AOper.mk (some 28) (AOp.mv (Operand.tmp 5)) none [],
                      AOper.mk (some 29) (AOp.mv (Operand.tmp 6)) none [],
                      AOper.mk (some 30) (AOp.call 57 [Operand.tmp 26, Operand.tmp 27, Operand.tmp 28, Operand.tmp 29])
                        none [1, 2, 3, 4],
                      AOper.mk (some 31) (AOp.fld 0 (Operand.tmp 7)) none [0, 1, 2, 3, 4, 5],
                      AOper.mk none (AOp.store 1 (Operand.tmp 31) (Operand.tmp 30)) none [6, 5, 5, 0, 1, 2, 3, 4, 5]]
def l43r8 : List AOper :=
  [AOper.mk (some 32) (AOp.fld 4 (Operand.tmp 2)) none [],
                      AOper.mk (some 33) (AOp.load false 1 (Operand.tmp 32)) none [0]]
def l43r9 : List AOper :=
  [AOper.mk (some 34) (AOp.fld 1 (Operand.tmp 2)) none [],
                        AOper.mk (some 35) (AOp.load false 1 (Operand.tmp 34)) none [0],
                        AOper.mk (some 36) (AOp.mv (Operand.tmp 1)) none [],
                        AOper.mk (some 37) (AOp.mv (Operand.tmp 5)) none [],
                        AOper.mk (some 38) (AOp.mv (Operand.tmp 6)) none [],
                        AOper.mk (some 39)
                          (AOp.call 57 [Operand.tmp 35, Operand.tmp 36, Operand.tmp 37, Operand.tmp 38]) none
                          [1, 2, 3, 4],
                        AOper.mk (some 40) (AOp.fld 1 (Operand.tmp 7)) none [0, 1, 2, 3, 4, 5],
                        AOper.mk none (AOp.store 1 (Operand.tmp 40) (Operand.tmp 39)) none [6, 5, 5, 0, 1, 2, 3, 4, 5]]
def l43r10 : List AOper :=
  [AOper.mk (some 41) (AOp.load true 3 (Operand.tmp 7)) none [],
                      AOper.mk none (AOp.store 3 (Operand.tmp 4) (Operand.tmp 41)) none [0, 0]]
def l43 : AFn :=
  (AFn.mk 42 2
    (ACode.seq
      (ACode.reg l43r0)
      (ACode.seq
        (ACode.reg l43r1)
        (ACode.seq
          (ACode.reg l43r2)
          (ACode.seq
            (ACode.seq
              (ACode.reg l43r3)
              (ACode.cond (Operand.tmp 16)
                (ACode.seq
                  (ACode.reg l43r4)
                  (ACode.reg l43r5))
                ACode.skip))
            (ACode.seq
              (ACode.seq
                (ACode.reg l43r6)
                (ACode.cond (Operand.tmp 24)
                  (ACode.reg l43r7)
                  ACode.skip))
              (ACode.seq
                (ACode.seq
                  (ACode.reg l43r8)
                  (ACode.cond (Operand.tmp 33)
                    (ACode.reg l43r9)
                    ACode.skip))
                (ACode.seq
                  (ACode.reg l43r10)
                  ACode.ret)))))))
    [ARes.cell 4 true 3])
theorem l43_eq : lowFn Try.prog 43 = some l43 := by kernel_rfl
def l44r0 : List AOper :=
  [AOper.mk (some 2)
            (AOp.alloc
              [Value.int IntKind.i64 0, Value.int IntKind.i64 0,
                Value.int IntKind.i64 0])
            none []]
def l44r1 : List AOper :=
  [AOper.mk (some 5) (AOp.mv (Operand.tmp 0)) none [], AOper.mk (some 6) (AOp.len (Operand.tmp 5)) none [0]]
def l44r2 : List AOper :=
  [AOper.mk (some 8)
                    (AOp.bin BinOp.eql (Operand.tmp 6) (Operand.const (Value.int IntKind.i64 0))) none [],
                  AOper.mk (some 7) (AOp.mv (Operand.tmp 8)) none [0]]
def l44r3 : List AOper :=
  [AOper.mk (some 9)
                        (AOp.build
                          [Value.int IntKind.i64 0, Value.int IntKind.i64 0,
                            Value.int IntKind.i64 0]
                          [(0, 1, Operand.const (Value.int IntKind.i64 0)),
                            (1, 1, Operand.const (Value.int IntKind.i64 0)),
                            (2, 1, Operand.const (Value.int IntKind.i64 1))])
                        none [],
                      AOper.mk none (AOp.store 3 (Operand.tmp 2) (Operand.tmp 9)) none [0, 0]]
def l44r4 : List AOper :=
  [AOper.mk (some 11)
                        (AOp.bin BinOp.eql (Operand.tmp 6) (Operand.const (Value.int IntKind.i64 1))) none
                        [],
                      AOper.mk (some 10) (AOp.mv (Operand.tmp 11)) none [0]]
def l44r5a : List AOper :=
  [AOper.mk (some 12) (AOp.mv (Operand.tmp 0)) none [], AOper.mk (some 13)
                            (AOp.idxA 1 (Operand.tmp 12) (Operand.const (Value.int IntKind.i64 0))) none
                            [0], AOper.mk (some 14) (AOp.load false 1 (Operand.tmp 13)) none [1], AOper.mk (some 15) (AOp.mv (Operand.tmp 0)) none [], AOper.mk (some 16)
                            (AOp.idxA 1 (Operand.tmp 15) (Operand.const (Value.int IntKind.i64 0))) none
                            [3], AOper.mk (some 17) (AOp.load false 1 (Operand.tmp 16)) none [4], AOper.mk (some 18)
                            (AOp.bin BinOp.add (Operand.tmp 17) (Operand.const (Value.int IntKind.i64 1)))
                            none [5]]
def l44r5b : List AOper :=
  [AOper.mk (some 19)
                            (AOp.build
                              [Value.int IntKind.i64 0, Value.int IntKind.i64 0,
                                Value.int IntKind.i64 0]
                              [(0, 1, Operand.tmp 14), (1, 1, Operand.tmp 18),
                                (2, 1, Operand.const (Value.int IntKind.i64 1))])
                            none [2, 6], AOper.mk none (AOp.store 3 (Operand.tmp 2) (Operand.tmp 19)) none
                            [7, 0, 1, 2, 3, 4, 5, 6, 7]]
def l44r5 : List AOper := l44r5a ++ l44r5b
def l44r6a : List AOper :=
  [AOper.mk (some 20) (AOp.mv (Operand.tmp 0)) none [], AOper.mk (some 21) (AOp.idxA 1 (Operand.tmp 20) (Operand.const (Value.int IntKind.i64 1)))
                none [0], AOper.mk (some 22) (AOp.load false 1 (Operand.tmp 21)) none [1], AOper.mk (some 23) (AOp.mv (Operand.tmp 0)) none [], AOper.mk (some 24) (AOp.idxA 1 (Operand.tmp 23) (Operand.const (Value.int IntKind.i64 0)))
                none [3], AOper.mk (some 25) (AOp.load false 1 (Operand.tmp 24)) none [4]]
def l44r6b : List AOper :=
  [AOper.mk (some 26) (AOp.bin BinOp.sub (Operand.tmp 22) (Operand.tmp 25)) none [2, 5], AOper.mk (some 3) (AOp.mv (Operand.tmp 26)) none [6, 0, 1, 2, 3, 4, 5, 6]]
def l44r6 : List AOper := l44r6a ++ l44r6b
def l44r7 : List AOper :=
  [AOper.mk (some 27) (AOp.mv (Operand.tmp 0)) none [], AOper.mk (some 28) (AOp.mv (Operand.tmp 0)) none [],
                AOper.mk (some 29) (AOp.len (Operand.tmp 28)) none [1],
                AOper.mk (some 30)
                  (AOp.bin BinOp.sub (Operand.tmp 29) (Operand.const (Value.int IntKind.i64 1))) none [2],
                AOper.mk (some 31) (AOp.idxA 1 (Operand.tmp 27) (Operand.tmp 30)) none [0, 3],
                AOper.mk (some 32) (AOp.load false 1 (Operand.tmp 31)) none [4],
                AOper.mk (some 33)
                  (AOp.bin BinOp.add (Operand.tmp 32) (Operand.const (Value.int IntKind.i64 1))) none [5],
                AOper.mk (some 4) (AOp.mv (Operand.tmp 33)) none [6, 0, 1, 2, 3, 4, 5, 6]]
def l44r8 : List AOper :=
  [AOper.mk (some 34) (AOp.mv (Operand.tmp 3)) none [],
                    AOper.mk (some 35)
                      (AOp.bin BinOp.lss (Operand.tmp 34) (Operand.const (Value.int IntKind.i64 0))) none
                      [0]]
def l44r9 : List AOper :=
  [AOper.mk (some 36) (AOp.mv (Operand.tmp 0)) none [],
                      AOper.mk (some 37) (AOp.mv (Operand.tmp 0)) none [],
                      AOper.mk (some 38) (AOp.len (Operand.tmp 37)) none [1],
                      AOper.mk (some 39)
                        (AOp.bin BinOp.sub (Operand.tmp 38) (Operand.const (Value.int IntKind.i64 1))) none
                        [2],
                      AOper.mk (some 40) (AOp.idxA 1 (Operand.tmp 36) (Operand.tmp 39)) none [0, 3],
                      AOper.mk (some 41) (AOp.load false 1 (Operand.tmp 40)) none [4],
                      AOper.mk (some 42)
                        (AOp.bin BinOp.sub (Operand.tmp 41) (Operand.const (Value.int IntKind.i64 1))) none
                        [5],
                      AOper.mk (some 4) (AOp.mv (Operand.tmp 42)) none [6, 0, 1, 2, 3, 4, 5, 6]]
def l44r10 : List AOper :=
  [AOper.mk (some 43) (AOp.mv (Operand.tmp 0)) none [],
                    AOper.mk (some 44)
                      (AOp.idxA 1 (Operand.tmp 43) (Operand.const (Value.int IntKind.i64 0))) none [0],
                    AOper.mk (some 45) (AOp.load false 1 (Operand.tmp 44)) none [1],
                    AOper.mk (some 46) (AOp.mv (Operand.tmp 4)) none [],
                    AOper.mk (some 47) (AOp.mv (Operand.tmp 3)) none [],
                    AOper.mk (some 48)
                      (AOp.build
                        [Value.int IntKind.i64 0, Value.int IntKind.i64 0,
                          Value.int IntKind.i64 0]
                        [(0, 1, Operand.tmp 45), (1, 1, Operand.tmp 46), (2, 1, Operand.tmp 47)])
                      none [2, 3, 4],
                    AOper.mk none (AOp.store 3 (Operand.tmp 2) (Operand.tmp 48)) none [5, 0, 1, 2, 3, 4, 5]]
def l44 : AFn :=
  (AFn.mk 49 1
    (ACode.seq
      (ACode.reg l44r0)
      (ACode.seq
        (ACode.seq
          (ACode.reg l44r1)
          (ACode.block 0
            (ACode.seq
              (ACode.reg l44r2)
              (ACode.cond (Operand.tmp 7)
                (ACode.seq
                  (ACode.reg l44r3)
                  ACode.ret)
                (ACode.seq
                  (ACode.reg l44r4)
                  (ACode.cond (Operand.tmp 10)
                    (ACode.seq
                      (ACode.draw l44r5)
                      ACode.ret)
                    ACode.skip))))))
        (ACode.seq
          (ACode.draw l44r6)
          (ACode.seq
            (ACode.reg l44r7)
            (ACode.seq
              (ACode.seq
                (ACode.reg l44r8)
                (ACode.cond (Operand.tmp 35)
                  (ACode.reg l44r9)
                  ACode.skip))
              (ACode.seq
                (ACode.reg l44r10)
                ACode.ret))))))
    [ARes.cell 2 true 3])
theorem l44_eq : lowFn Try.prog 44 = some l44 := by kernel_rfl
def l45r0 : List AOper :=
  [AOper.mk (some 1) (AOp.box (Operand.tmp 0)) none [],
          AOper.mk (some 2) (AOp.mv (Operand.const (Value.int IntKind.i64 0))) none []]
def l45r1a : List AOper :=
  [AOper.mk (some 5) (AOp.fld 1 (Operand.tmp 1)) none [], AOper.mk (some 6) (AOp.load false 1 (Operand.tmp 5)) none [0], AOper.mk (some 7) (AOp.fld 0 (Operand.tmp 1)) none [], AOper.mk (some 8) (AOp.load false 1 (Operand.tmp 7)) none [2], AOper.mk (some 9) (AOp.bin BinOp.sub (Operand.tmp 6) (Operand.tmp 8)) none [1, 3], AOper.mk (some 10) (AOp.fld 2 (Operand.tmp 1)) none [], AOper.mk (some 11) (AOp.load false 1 (Operand.tmp 10)) none [5], AOper.mk (some 3) (AOp.mv (Operand.tmp 9)) none [4, 0, 1, 2, 3, 4]]
def l45r1b : List AOper :=
  [AOper.mk (some 4) (AOp.mv (Operand.tmp 11)) none [6, 7, 0, 1, 2, 3, 4, 5, 6, 7]]
def l45r1 : List AOper := l45r1a ++ l45r1b
def l45r2 : List AOper :=
  [AOper.mk (some 12) (AOp.mv (Operand.tmp 4)) none [],
                AOper.mk (some 13)
                  (AOp.bin BinOp.lss (Operand.tmp 12) (Operand.const (Value.int IntKind.i64 0))) none [0]]
def l45r3 : List AOper :=
  [AOper.mk (some 14) (AOp.mv (Operand.tmp 3)) none [],
                  AOper.mk (some 15) (AOp.un UnOp.neg (Operand.tmp 14)) none [0],
                  AOper.mk (some 16) (AOp.mv (Operand.tmp 4)) none [],
                  AOper.mk (some 17) (AOp.un UnOp.neg (Operand.tmp 16)) none [2],
                  AOper.mk (some 3) (AOp.mv (Operand.tmp 15)) none [1, 0, 1],
                  AOper.mk (some 4) (AOp.mv (Operand.tmp 17)) none [3, 4, 0, 1, 2, 3, 4]]
def l45r4 : List AOper :=
  [AOper.mk (some 18) (AOp.mv (Operand.tmp 3)) none [],
                  AOper.mk (some 19)
                    (AOp.bin BinOp.leq (Operand.tmp 18) (Operand.const (Value.int IntKind.i64 0))) none
                    [0]]
def l45r5 : List AOper :=
  [AOper.mk (some 2) (AOp.mv (Operand.const (Value.int IntKind.i64 0))) none []]
def l45r6 : List AOper :=
  [AOper.mk (some 20) (AOp.mv (Operand.tmp 3)) none [],
                  AOper.mk (some 21) (AOp.mv (Operand.tmp 4)) none [],
                  AOper.mk (some 22) (AOp.bin BinOp.add (Operand.tmp 20) (Operand.tmp 21)) none [0, 1],
                  AOper.mk (some 23)
                    (AOp.bin BinOp.sub (Operand.tmp 22) (Operand.const (Value.int IntKind.i64 1))) none [2],
                  AOper.mk (some 24) (AOp.mv (Operand.tmp 4)) none [],
                  AOper.mk (some 25) (AOp.bin BinOp.quo (Operand.tmp 23) (Operand.tmp 24)) none [3, 4],
                  AOper.mk (some 2) (AOp.mv (Operand.tmp 25)) none [5, 0, 1, 2, 3, 4, 5]]
def l45 : AFn :=
  (AFn.mk 26 1
    (ACode.seq
      (ACode.reg l45r0)
      (ACode.seq
        (ACode.draw l45r1)
        (ACode.seq
          (ACode.seq
            (ACode.reg l45r2)
            (ACode.cond (Operand.tmp 13)
              (ACode.reg l45r3)
              ACode.skip))
          (ACode.seq
            (ACode.seq
              (ACode.reg l45r4)
              (ACode.cond (Operand.tmp 19)
                (ACode.seq
                  (ACode.reg l45r5)
                  ACode.ret)
                ACode.skip))
            (ACode.seq
              (ACode.reg l45r6)
              ACode.ret)))))
    [ARes.tmp 2])
theorem l45_eq : lowFn Try.prog 45 = some l45 := by kernel_rfl
def l46r0 : List AOper :=
  [AOper.mk (some 2) (AOp.box (Operand.tmp 0)) none [], AOper.mk (some 3) (AOp.box (Operand.tmp 1)) none [],
          AOper.mk (some 4)
            (AOp.alloc
              [Value.int IntKind.i64 0, Value.int IntKind.i64 0,
                Value.int IntKind.i64 0])
            none []]
def l46r1a : List AOper :=
  [AOper.mk (some 5) (AOp.load true 3 (Operand.tmp 2)) none [], AOper.mk (some 6) (AOp.fld 0 (Operand.tmp 3)) none [], AOper.mk (some 7) (AOp.load false 1 (Operand.tmp 6)) none [1], AOper.mk (some 8) (AOp.call 54 [Operand.tmp 5, Operand.tmp 7]) none [0, 2], AOper.mk (some 9) (AOp.fld 2 (Operand.tmp 2)) none [], AOper.mk (some 10) (AOp.load false 1 (Operand.tmp 9)) none [4], AOper.mk (some 11) (AOp.fld 2 (Operand.tmp 3)) none [], AOper.mk (some 12) (AOp.load false 1 (Operand.tmp 11)) none [6], AOper.mk (some 13) (AOp.bin BinOp.mul (Operand.tmp 10) (Operand.tmp 12)) none [5, 7], AOper.mk (some 14) (AOp.load true 3 (Operand.tmp 3)) none [], AOper.mk (some 15) (AOp.call 45 [Operand.tmp 14]) none [9, 3]]
def l46r1b : List AOper :=
  [AOper.mk (some 16) (AOp.call 58 [Operand.tmp 8, Operand.tmp 13, Operand.tmp 15]) none [3, 8, 10, 10], AOper.mk none (AOp.store 3 (Operand.tmp 4) (Operand.tmp 16)) none
              [11, 11, 0, 1, 2, 3, 4, 5, 6, 7, 8, 9, 10, 11]]
def l46r1 : List AOper := l46r1a ++ l46r1b
def l46 : AFn :=
  (AFn.mk 17 2
    (ACode.seq
      (ACode.reg l46r0)
      (ACode.seq
        (ACode.draw l46r1)
        ACode.ret))
    [ARes.cell 4 true 3])
theorem l46_eq : lowFn Try.prog 46 = some l46 := by kernel_rfl
def l47r0 : List AOper :=
  [AOper.mk (some 1) (AOp.box (Operand.tmp 0)) none [],
          AOper.mk (some 2)
            (AOp.alloc
              [Value.int IntKind.i64 0, Value.int IntKind.i64 0,
                Value.int IntKind.i64 0, Value.bool false, Value.bool false])
            none []]
def l47r1 : List AOper :=
  [AOper.mk (some 4) (AOp.fld 0 (Operand.tmp 1)) none [],
            AOper.mk (some 5) (AOp.load false 1 (Operand.tmp 4)) none [0],
            AOper.mk (some 6) (AOp.fld 1 (Operand.tmp 1)) none [],
            AOper.mk (some 7) (AOp.load false 1 (Operand.tmp 6)) none [2],
            AOper.mk (some 8) (AOp.fld 2 (Operand.tmp 1)) none [],
            AOper.mk (some 9) (AOp.load false 1 (Operand.tmp 8)) none [4],
            AOper.mk (some 10)
              (AOp.build
                [Value.int IntKind.i64 0, Value.int IntKind.i64 0,
                  Value.int IntKind.i64 0, Value.bool false, Value.bool false]
                [(0, 1, Operand.tmp 5), (1, 1, Operand.tmp 7), (2, 1, Operand.tmp 9),
                  (3, 1, Operand.const (Value.bool true)), (4, 1, Operand.const (Value.bool true))])
              none [1, 3, 5],
            AOper.mk (some 3)
              (AOp.alloc
                [Value.int IntKind.i64 0, Value.int IntKind.i64 0,
                  Value.int IntKind.i64 0, Value.bool false, Value.bool false])
              none [],
            AOper.mk none (AOp.store 5 (Operand.tmp 3) (Operand.tmp 10)) none [7, 6, 0, 1, 2, 3, 4, 5, 6, 7]]
def l47r2 : List AOper :=
  [AOper.mk (some 11) (AOp.fld 1 (Operand.tmp 1)) none [],
                AOper.mk (some 12) (AOp.load false 1 (Operand.tmp 11)) none [0],
                AOper.mk (some 13)
                  (AOp.bin BinOp.lss (Operand.tmp 12) (Operand.const (Value.int IntKind.i64 0))) none [1]]
def l47r3 : List AOper :=
  [AOper.mk (some 14) (AOp.fld 1 (Operand.tmp 3)) none [],
                    AOper.mk none (AOp.store 1 (Operand.tmp 14) (Operand.const (Value.int IntKind.i64 0)))
                      none [0]]
def l47r4 : List AOper :=
  [AOper.mk (some 15) (AOp.fld 4 (Operand.tmp 3)) none [],
                    AOper.mk none (AOp.store 1 (Operand.tmp 15) (Operand.const (Value.bool false))) none [0]]
def l47r5 : List AOper :=
  [AOper.mk (some 16) (AOp.load true 5 (Operand.tmp 3)) none [],
                AOper.mk none (AOp.store 5 (Operand.tmp 2) (Operand.tmp 16)) none [0, 0]]
def l47 : AFn :=
  (AFn.mk 17 1
    (ACode.seq
      (ACode.reg l47r0)
      (ACode.seq
        (ACode.reg l47r1)
        (ACode.seq
          (ACode.seq
            (ACode.reg l47r2)
            (ACode.cond (Operand.tmp 13)
              (ACode.seq
                (ACode.reg l47r3)
                (ACode.reg l47r4))
              ACode.skip))
          (ACode.seq
            (ACode.reg l47r5)
            ACode.ret))))
    [ARes.cell 2 true 5])
theorem l47_eq : lowFn Try.prog 47 = some l47 := by kernel_rfl
def l48r0 : List AOper :=
  [AOper.mk (some 4) (AOp.mv (Operand.const (Value.slice none 0 0))) none []]
def l48r1 : List AOper :=
  [AOper.mk (some 7) (AOp.bslice 1 [Value.int IntKind.i64 0] [] 0) none [],
            AOper.mk (some 5) (AOp.mv (Operand.tmp 7)) none [0, 0]]
def l48r2 : List AOper :=
  [AOper.mk (some 6) (AOp.mv (Operand.const (Value.int IntKind.i64 0))) none []]
def l48r3 : List AOper :=
  [AOper.mk (some 8) (AOp.mv (Operand.tmp 6)) none [],
                        AOper.mk (some 9) (AOp.mv (Operand.tmp 0)) none [],
                        AOper.mk (some 10) (AOp.len (Operand.tmp 9)) none [1],
                        AOper.mk (some 11) (AOp.bin BinOp.lss (Operand.tmp 8) (Operand.tmp 10)) none [0, 2]]
def l48r4 : List AOper :=
  [AOper.mk (some 14) (AOp.mv (Operand.tmp 1)) none [],
                            AOper.mk (some 15) (AOp.mv (Operand.tmp 0)) none [],
                            AOper.mk (some 16) (AOp.mv (Operand.tmp 6)) none [],
                            AOper.mk (some 17) (AOp.idxA 1 (Operand.tmp 15) (Operand.tmp 16)) none [1, 2],
                            AOper.mk (some 18) (AOp.load false 1 (Operand.tmp 17)) none [3],
                            AOper.mk (some 19) (AOp.call 59 [Operand.tmp 14, Operand.tmp 18]) none [0, 4],
                            AOper.mk (some 20)
                              (AOp.bin BinOp.geq (Operand.tmp 19) (Operand.const (Value.int IntKind.i64 0)))
                              none [5]]
def l48r5 : List AOper :=
  [AOper.mk (some 21) (AOp.mv (Operand.tmp 5)) none [],
                              AOper.mk (some 22) (AOp.mv (Operand.tmp 0)) none [],
                              AOper.mk (some 23) (AOp.mv (Operand.tmp 6)) none [],
                              AOper.mk (some 24) (AOp.idxA 1 (Operand.tmp 22) (Operand.tmp 23)) none [1, 2],
                              AOper.mk (some 25) (AOp.load false 1 (Operand.tmp 24)) none [3],
                              AOper.mk (some 26)
                                (AOp.bslice 1 [Value.int IntKind.i64 0] [(0, Operand.tmp 25)] 1) none [4],
                              AOper.mk (some 27) (AOp.append 1 (Operand.tmp 21) (Operand.tmp 26)) none [0, 5],
                              AOper.mk (some 5) (AOp.mv (Operand.tmp 27)) none [6, 6, 0, 1, 2, 3, 4, 5, 6]]
def l48r6 : List AOper :=
  [AOper.mk (some 12) (AOp.mv (Operand.tmp 6)) none [],
                        AOper.mk (some 13)
                          (AOp.bin BinOp.add (Operand.tmp 12) (Operand.const (Value.int IntKind.i64 1)))
                          none [0],
                        AOper.mk (some 6) (AOp.mv (Operand.tmp 13)) none [1, 0, 1]]
def l48r7 : List AOper :=
  [AOper.mk (some 28) (AOp.mv (Operand.tmp 5)) none [],
                AOper.mk (some 4) (AOp.mv (Operand.tmp 28)) none [0, 0]]
def l48 : AFn :=
  (AFn.mk 29 2
    (ACode.seq (ACode.reg l48r0)
      (ACode.seq
        (ACode.reg l48r1)
        (ACode.seq
          (ACode.seq
            (ACode.reg l48r2)
            (ACode.block 0
              (ACode.loop
                (ACode.seq
                  (ACode.seq
                    (ACode.reg l48r3)
                    (ACode.cond (Operand.tmp 11) ACode.skip (ACode.exit 0)))
                  (ACode.seq
                    (ACode.block 1
                      (ACode.seq
                        (ACode.reg l48r4)
                        (ACode.cond (Operand.tmp 20)
                          (ACode.reg l48r5)
                          ACode.skip)))
                    (ACode.reg l48r6))))))
          (ACode.seq
            (ACode.reg l48r7)
            ACode.ret))))
    [ARes.tmp 4])
theorem l48_eq : lowFn Try.prog 48 = some l48 := by kernel_rfl
def l49r0 : List AOper :=
  [AOper.mk (some 2) (AOp.mv (Operand.const (Value.slice none 0 0))) none []]
def l49r1a : List AOper :=
  [AOper.mk (some 3) (AOp.mv (Operand.tmp 0)) none [], AOper.mk (some 4) (AOp.len (Operand.tmp 3)) none [0], AOper.mk (some 5)
                (AOp.bin BinOp.gtr (Operand.tmp 4) (Operand.const (Value.int IntKind.i64 1))) none [1], AOper.mk (some 6) (AOp.mv (Operand.tmp 5)) none [2], AOper.mk (some 7) (AOp.mv (Operand.tmp 0)) (some (6, true)) [3], AOper.mk (some 8) (AOp.idxA 1 (Operand.tmp 7) (Operand.const (Value.int IntKind.i64 0)))
                (some (6, true)) [4, 3], AOper.mk (some 9) (AOp.load false 1 (Operand.tmp 8)) (some (6, true)) [5, 3], AOper.mk (some 10) (AOp.mv (Operand.tmp 0)) (some (6, true)) [3], AOper.mk (some 11) (AOp.idxA 1 (Operand.tmp 10) (Operand.const (Value.int IntKind.i64 1)))
                (some (6, true)) [7, 3], AOper.mk (some 12) (AOp.load false 1 (Operand.tmp 11)) (some (6, true)) [8, 3]]
def l49r1b : List AOper :=
  [AOper.mk (some 13) (AOp.bin BinOp.gtr (Operand.tmp 9) (Operand.tmp 12)) (some (6, true)) [6, 9, 3], AOper.mk (some 14) (AOp.pick (Operand.tmp 6) (Operand.tmp 13) (Operand.const (Value.bool false))) none
                [3, 10]]
def l49r1 : List AOper := l49r1a ++ l49r1b
def l49r2 : List AOper :=
  [AOper.mk (some 15) (AOp.mv (Operand.tmp 0)) none [],
                  AOper.mk (some 16) (AOp.call 60 [Operand.tmp 15]) none [0],
                  AOper.mk (some 2) (AOp.mv (Operand.tmp 16)) none [1, 1, 0, 1]]
def l49r3 : List AOper :=
  [AOper.mk (some 17) (AOp.mv (Operand.tmp 0)) none [],
              AOper.mk (some 18) (AOp.call 61 [Operand.tmp 17]) none [0],
              AOper.mk (some 2) (AOp.mv (Operand.tmp 18)) none [1, 1, 0, 1]]
def l49 : AFn :=
  (AFn.mk 19 1
    (ACode.seq (ACode.reg l49r0)
      (ACode.seq
        (ACode.seq
          (ACode.draw l49r1)
          (ACode.cond (Operand.tmp 14)
            (ACode.seq
              (ACode.reg l49r2)
              ACode.ret)
            ACode.skip))
        (ACode.seq
          (ACode.reg l49r3)
          ACode.ret)))
    [ARes.tmp 2])
theorem l49_eq : lowFn Try.prog 49 = some l49 := by kernel_rfl
def l50r0 : List AOper :=
  [AOper.mk (some 1) (AOp.box (Operand.tmp 0)) none [],
          AOper.mk (some 2)
            (AOp.alloc
              [Value.int IntKind.i64 0, Value.int IntKind.i64 0,
                Value.int IntKind.i64 0])
            none []]
def l50r1 : List AOper :=
  [AOper.mk (some 3) (AOp.fld 2 (Operand.tmp 1)) none [],
              AOper.mk (some 4) (AOp.load false 1 (Operand.tmp 3)) none [0],
              AOper.mk (some 5)
                (AOp.bin BinOp.lss (Operand.tmp 4) (Operand.const (Value.int IntKind.i64 0))) none [1]]
def l50r2 : List AOper :=
  [AOper.mk (some 6) (AOp.load true 3 (Operand.tmp 1)) none [],
                  AOper.mk (some 7) (AOp.call 62 [Operand.tmp 6]) none [0],
                  AOper.mk none (AOp.store 3 (Operand.tmp 2) (Operand.tmp 7)) none [1, 1, 0, 1]]
def l50r3 : List AOper :=
  [AOper.mk (some 8) (AOp.load true 3 (Operand.tmp 1)) none [],
              AOper.mk (some 9) (AOp.call 63 [Operand.tmp 8]) none [0],
              AOper.mk none (AOp.store 3 (Operand.tmp 2) (Operand.tmp 9)) none [1, 1, 0, 1]]
def l50 : AFn :=
  (AFn.mk 10 1
    (ACode.seq
      (ACode.reg l50r0)
      (ACode.seq
        (ACode.seq
          (ACode.reg l50r1)
          (ACode.cond (Operand.tmp 5)
            (ACode.seq
              (ACode.reg l50r2)
              ACode.ret)
            ACode.skip))
        (ACode.seq
          (ACode.reg l50r3)
          ACode.ret)))
    [ARes.cell 2 true 3])
theorem l50_eq : lowFn Try.prog 50 = some l50 := by kernel_rfl
def l51r0 : List AOper :=
  [AOper.mk (some 2) (AOp.box (Operand.tmp 0)) none [], AOper.mk (some 3) (AOp.box (Operand.tmp 1)) none [],
          AOper.mk (some 4)
            (AOp.alloc
              [Value.int IntKind.i64 0, Value.int IntKind.i64 0,
                Value.int IntKind.i64 0])
            none []]
def l51r1 : List AOper :=
  [AOper.mk (some 9) (AOp.load true 3 (Operand.tmp 2)) none [],
              AOper.mk (some 10) (AOp.call 45 [Operand.tmp 9]) none [0],
              AOper.mk (some 11) (AOp.mv (Operand.const (Value.int IntKind.i64 0))) none []]
def l51r2 : List AOper :=
  [AOper.mk (some 12) (AOp.bin BinOp.lss (Operand.tmp 11) (Operand.tmp 10)) none []]
def l51r3 : List AOper :=
  [AOper.mk (some 13) (AOp.mv (Operand.tmp 11)) none [],
                            AOper.mk (some 5) (AOp.mv (Operand.tmp 13)) none [0, 0]]
def l51r4 : List AOper :=
  [AOper.mk (some 14) (AOp.load true 3 (Operand.tmp 2)) none [],
                              AOper.mk (some 15) (AOp.mv (Operand.tmp 5)) none [],
                              AOper.mk (some 16) (AOp.call 54 [Operand.tmp 14, Operand.tmp 15]) none [0, 1],
                              AOper.mk (some 6) (AOp.mv (Operand.tmp 16)) none [2, 2, 0, 1, 2]]
def l51r5 : List AOper :=
  [AOper.mk (some 17) (AOp.load true 3 (Operand.tmp 3)) none [],
                                  AOper.mk (some 18) (AOp.mv (Operand.tmp 6)) none [],
                                  AOper.mk (some 19) (AOp.call 64 [Operand.tmp 17, Operand.tmp 18]) none [0, 1],
                                  AOper.mk (some 20)
                                    (AOp.bin BinOp.lss (Operand.tmp 19)
                                      (Operand.const (Value.int IntKind.i64 0)))
                                    none [2]]
def l51r6 : List AOper :=
  [AOper.mk (some 21) (AOp.fld 2 (Operand.tmp 2)) none [],
                                  AOper.mk (some 22) (AOp.load false 1 (Operand.tmp 21)) none [0],
                                  AOper.mk (some 23) (AOp.fld 2 (Operand.tmp 3)) none [],
                                  AOper.mk (some 24) (AOp.load false 1 (Operand.tmp 23)) none [2],
                                  AOper.mk (some 25) (AOp.call 65 [Operand.tmp 22, Operand.tmp 24]) none [1, 3],
                                  AOper.mk (some 7) (AOp.mv (Operand.tmp 25)) none [4, 4, 0, 1, 2, 3, 4]]
def l51r7 : List AOper :=
  [AOper.mk (some 26) (AOp.fld 1 (Operand.tmp 2)) none [],
                                    AOper.mk (some 27) (AOp.load false 1 (Operand.tmp 26)) none [0],
                                    AOper.mk (some 28) (AOp.fld 1 (Operand.tmp 3)) none [],
                                    AOper.mk (some 29) (AOp.load false 1 (Operand.tmp 28)) none [2],
                                    AOper.mk (some 30) (AOp.minmax false (Operand.tmp 27) (Operand.tmp 29)) none [1, 3],
                                    AOper.mk (some 31)
                                      (AOp.bin BinOp.sub (Operand.tmp 30)
                                        (Operand.const (Value.int IntKind.i64 1)))
                                      none [4],
                                    AOper.mk (some 32) (AOp.mv (Operand.tmp 6)) none [],
                                    AOper.mk (some 33) (AOp.bin BinOp.sub (Operand.tmp 31) (Operand.tmp 32)) none
                                      [5, 6],
                                    AOper.mk (some 8) (AOp.mv (Operand.tmp 33)) none [7, 0, 1, 2, 3, 4, 5, 6, 7]]
def l51r8 : List AOper :=
  [AOper.mk (some 34) (AOp.mv (Operand.tmp 6)) none [],
                                      AOper.mk (some 35) (AOp.mv (Operand.tmp 7)) none [],
                                      AOper.mk (some 36) (AOp.mv (Operand.tmp 8)) none [],
                                      AOper.mk (some 37) (AOp.mv (Operand.tmp 7)) none [],
                                      AOper.mk (some 38) (AOp.bin BinOp.quo (Operand.tmp 36) (Operand.tmp 37)) none
                                        [2, 3],
                                      AOper.mk (some 39)
                                        (AOp.bin BinOp.add (Operand.tmp 38)
                                          (Operand.const (Value.int IntKind.i64 1)))
                                        none [4],
                                      AOper.mk (some 40) (AOp.call 58 [Operand.tmp 34, Operand.tmp 35, Operand.tmp 39])
                                        none [0, 1, 5],
                                      AOper.mk none (AOp.store 3 (Operand.tmp 4) (Operand.tmp 40)) none
                                        [6, 6, 0, 1, 2, 3, 4, 5, 6]]
def l51r9 : List AOper :=
  [AOper.mk (some 41)
                          (AOp.bin BinOp.add (Operand.tmp 11) (Operand.const (Value.int IntKind.i64 1)))
                          none [],
                        AOper.mk (some 11) (AOp.mv (Operand.tmp 41)) none [0]]
def l51r10 : List AOper :=
  [AOper.mk (some 42)
                (AOp.call 58
                  [Operand.const (Value.int IntKind.i64 0),
                    Operand.const (Value.int IntKind.i64 1),
                    Operand.const (Value.int IntKind.i64 0)])
                none [],
              AOper.mk none (AOp.store 3 (Operand.tmp 4) (Operand.tmp 42)) none [0, 0, 0]]
def l51 : AFn :=
  (AFn.mk 43 2
    (ACode.seq
      (ACode.reg l51r0)
      (ACode.seq
        (ACode.seq
          (ACode.reg l51r1)
          (ACode.block 0
            (ACode.loop
              (ACode.seq (ACode.reg l51r2)
                (ACode.seq (ACode.cond (Operand.tmp 12) ACode.skip (ACode.exit 0))
                  (ACode.seq
                    (ACode.block 1
                      (ACode.seq
                        (ACode.reg l51r3)
                        (ACode.seq
                          (ACode.reg l51r4)
                          (ACode.seq
                            (ACode.seq
                              (ACode.reg l51r5)
                              (ACode.cond (Operand.tmp 20) (ACode.exit 1) ACode.skip))
                            (ACode.seq
                              (ACode.reg l51r6)
                              (ACode.seq
                                (ACode.reg l51r7)
                                (ACode.seq
                                  (ACode.reg l51r8)
                                  ACode.ret)))))))
                    (ACode.reg l51r9)))))))
        (ACode.seq
          (ACode.reg l51r10)
          ACode.ret)))
    [ARes.cell 4 true 3])
theorem l51_eq : lowFn Try.prog 51 = some l51 := by kernel_rfl
def l52r0 : List AOper :=
  [AOper.mk (some 4) (AOp.mv (Operand.const (Value.bool false))) none []]
def l52r1 : List AOper :=
  [AOper.mk (some 5) (AOp.mv (Operand.tmp 1)) none [],
            AOper.mk (some 6) (AOp.un UnOp.neg (Operand.tmp 5)) none [0],
            AOper.mk (some 7) (AOp.mv (Operand.tmp 0)) none [],
            AOper.mk (some 8) (AOp.bin BinOp.leq (Operand.tmp 6) (Operand.tmp 7)) none [1, 2],
            AOper.mk (some 9) (AOp.mv (Operand.tmp 8)) none [3],
            AOper.mk (some 10) (AOp.mv (Operand.tmp 0)) (some (9, true)) [4],
            AOper.mk (some 11) (AOp.mv (Operand.tmp 1)) (some (9, true)) [4],
            AOper.mk (some 12) (AOp.bin BinOp.leq (Operand.tmp 10) (Operand.tmp 11)) (some (9, true)) [5, 6, 4],
            AOper.mk (some 13) (AOp.pick (Operand.tmp 9) (Operand.tmp 12) (Operand.const (Value.bool false))) none
              [4, 7],
            AOper.mk (some 4) (AOp.mv (Operand.tmp 13)) none [8, 4, 0, 1, 2, 3, 4, 5, 6, 7, 8]]
def l52 : AFn :=
  (AFn.mk 14 2
    (ACode.seq (ACode.reg l52r0)
      (ACode.seq
        (ACode.reg l52r1)
        ACode.ret))
    [ARes.tmp 4])
theorem l52_eq : lowFn Try.prog 52 = some l52 := by kernel_rfl
def l53r0 : List AOper :=
  [AOper.mk (some 2) (AOp.mv (Operand.const (Value.bool false))) none []]
def l53r1 : List AOper :=
  [AOper.mk (some 3) (AOp.mv (Operand.tmp 0)) none [],
            AOper.mk (some 4) (AOp.call 52 [Operand.tmp 3, Operand.const (Value.int IntKind.i64 200)]) none
              [0],
            AOper.mk (some 5) (AOp.mv (Operand.tmp 4)) none [1, 1],
            AOper.mk (some 6) (AOp.mv (Operand.tmp 0)) (some (5, true)) [2],
            AOper.mk (some 7) (AOp.bin BinOp.neq (Operand.tmp 6) (Operand.const (Value.int IntKind.i64 0)))
              (some (5, true)) [3, 2],
            AOper.mk (some 8) (AOp.pick (Operand.tmp 5) (Operand.tmp 7) (Operand.const (Value.bool false))) none [2, 4],
            AOper.mk (some 2) (AOp.mv (Operand.tmp 8)) none [5, 2, 0, 1, 2, 3, 4, 5]]
def l53 : AFn :=
  (AFn.mk 9 1
    (ACode.seq (ACode.reg l53r0)
      (ACode.seq
        (ACode.reg l53r1)
        ACode.ret))
    [ARes.tmp 2])
theorem l53_eq : lowFn Try.prog 53 = some l53 := by kernel_rfl
def l54r0 : List AOper :=
  [AOper.mk (some 2) (AOp.box (Operand.tmp 0)) none [],
          AOper.mk (some 4) (AOp.mv (Operand.const (Value.int IntKind.i64 0))) none []]
def l54r1 : List AOper :=
  [AOper.mk (some 5) (AOp.fld 0 (Operand.tmp 2)) none [],
            AOper.mk (some 6) (AOp.load false 1 (Operand.tmp 5)) none [0],
            AOper.mk (some 7) (AOp.mv (Operand.tmp 1)) none [], AOper.mk (some 8) (AOp.fld 2 (Operand.tmp 2)) none [],
            AOper.mk (some 9) (AOp.load false 1 (Operand.tmp 8)) none [3],
            AOper.mk (some 10) (AOp.bin BinOp.mul (Operand.tmp 7) (Operand.tmp 9)) none [2, 4],
            AOper.mk (some 11) (AOp.bin BinOp.add (Operand.tmp 6) (Operand.tmp 10)) none [1, 5],
            AOper.mk (some 4) (AOp.mv (Operand.tmp 11)) none [6, 0, 1, 2, 3, 4, 5, 6]]
def l54 : AFn :=
  (AFn.mk 12 2
    (ACode.seq
      (ACode.reg l54r0)
      (ACode.seq
        (ACode.reg l54r1)
        ACode.ret))
    [ARes.tmp 4])
theorem l54_eq : lowFn Try.prog 54 = some l54 := by kernel_rfl
def l55r0 : List AOper :=
  [AOper.mk (some 6) (AOp.mv (Operand.const (Value.int IntKind.i64 0))) none []]
def l55r1 : List AOper :=
  [AOper.mk (some 7) (AOp.mv (Operand.const (Value.int IntKind.i64 0))) none []]
def l55r2 : List AOper :=
  [AOper.mk (some 9) (AOp.mv (Operand.tmp 0)) none [],
              AOper.mk (some 8) (AOp.mv (Operand.tmp 9)) none [0, 0]]
def l55r3 : List AOper :=
  [AOper.mk (some 10) (AOp.mv (Operand.tmp 2)) none [],
                  AOper.mk (some 11)
                    (AOp.bin BinOp.lss (Operand.tmp 10) (Operand.const (Value.int IntKind.i64 0))) none
                    [0]]
def l55r4 : List AOper :=
  [AOper.mk (some 7) (AOp.mv (Operand.const (Value.int IntKind.i64 (-1)))) none []]
def l55r5 : List AOper :=
  [AOper.mk (some 12) (AOp.mv (Operand.tmp 0)) none [],
                      AOper.mk (some 13)
                        (AOp.bin BinOp.sub (Operand.tmp 12) (Operand.const (Value.int IntKind.i64 1))) none
                        [0],
                      AOper.mk (some 8) (AOp.mv (Operand.tmp 13)) none [1, 0, 1]]
def l55r6 : List AOper :=
  [AOper.mk (some 14) (AOp.mv (Operand.tmp 1)) none [],
                    AOper.mk (some 15)
                      (AOp.bin BinOp.lss (Operand.tmp 14) (Operand.const (Value.int IntKind.i64 0))) none
                      [0]]
def l55r7 : List AOper :=
  [AOper.mk (some 16) (AOp.mv (Operand.tmp 1)) none [],
                      AOper.mk (some 17) (AOp.mv (Operand.tmp 0)) none [],
                      AOper.mk (some 18) (AOp.bin BinOp.add (Operand.tmp 16) (Operand.tmp 17)) none [0, 1],
                      AOper.mk (some 1) (AOp.mv (Operand.tmp 18)) none [2, 0, 1, 2]]
def l55r8 : List AOper :=
  [AOper.mk (some 19) (AOp.mv (Operand.tmp 8)) none [],
                    AOper.mk (some 20) (AOp.mv (Operand.tmp 7)) none [],
                    AOper.mk (some 21) (AOp.mv (Operand.tmp 1)) none [],
                    AOper.mk (some 22) (AOp.minmax true (Operand.tmp 20) (Operand.tmp 21)) none [1, 2],
                    AOper.mk (some 23) (AOp.minmax false (Operand.tmp 19) (Operand.tmp 22)) none [0, 3],
                    AOper.mk (some 6) (AOp.mv (Operand.tmp 23)) none [4, 0, 1, 2, 3, 4]]
def l55 : AFn :=
  (AFn.mk 24 3
    (ACode.seq (ACode.reg l55r0)
      (ACode.seq (ACode.reg l55r1)
        (ACode.seq
          (ACode.reg l55r2)
          (ACode.seq
            (ACode.seq
              (ACode.reg l55r3)
              (ACode.cond (Operand.tmp 11)
                (ACode.seq
                  (ACode.reg l55r4)
                  (ACode.reg l55r5))
                ACode.skip))
            (ACode.seq
              (ACode.seq
                (ACode.reg l55r6)
                (ACode.cond (Operand.tmp 15)
                  (ACode.reg l55r7)
                  ACode.skip))
              (ACode.seq
                (ACode.reg l55r8)
                ACode.ret))))))
    [ARes.tmp 6])
theorem l55_eq : lowFn Try.prog 55 = some l55 := by kernel_rfl
def l56r0 : List AOper :=
  [AOper.mk (some 4) (AOp.mv (Operand.const (Value.bool false))) none []]
def l56r1 : List AOper :=
  [AOper.mk (some 5) (AOp.mv (Operand.tmp 0)) none [],
            AOper.mk (some 6) (AOp.call 52 [Operand.tmp 5, Operand.const (Value.int IntKind.i64 100)]) none
              [0],
            AOper.mk (some 7) (AOp.mv (Operand.tmp 6)) none [1, 1],
            AOper.mk (some 8) (AOp.mv (Operand.tmp 1)) (some (7, true)) [2],
            AOper.mk (some 9) (AOp.mv (Operand.tmp 8)) (some (7, true)) [3, 2, 2],
            AOper.mk (some 10) (AOp.mv (Operand.tmp 0)) (some (9, false)) [4],
            AOper.mk (some 11)
              (AOp.bin BinOp.eql (Operand.tmp 10) (Operand.const (Value.int IntKind.i64 0)))
              (some (9, false)) [5, 4],
            AOper.mk (some 12) (AOp.pick (Operand.tmp 9) (Operand.const (Value.bool true)) (Operand.tmp 11))
              (some (7, true)) [4, 6, 2],
            AOper.mk (some 13) (AOp.pick (Operand.tmp 7) (Operand.tmp 12) (Operand.const (Value.bool false))) none
              [2, 7],
            AOper.mk (some 4) (AOp.mv (Operand.tmp 13)) none [8, 4, 0, 1, 2, 3, 4, 5, 6, 7, 8]]
def l56 : AFn :=
  (AFn.mk 14 2
    (ACode.seq (ACode.reg l56r0)
      (ACode.seq
        (ACode.reg l56r1)
        ACode.ret))
    [ARes.tmp 4])
theorem l56_eq : lowFn Try.prog 56 = some l56 := by kernel_rfl
def l57r0 : List AOper :=
  [AOper.mk (some 8) (AOp.mv (Operand.const (Value.int IntKind.i64 0))) none []]
def l57r1 : List AOper :=
  [AOper.mk (some 9) (AOp.mv (Operand.tmp 0)) none [],
              AOper.mk (some 10)
                (AOp.bin BinOp.lss (Operand.tmp 9) (Operand.const (Value.int IntKind.i64 0))) none [0]]
def l57r2 : List AOper :=
  [AOper.mk (some 11) (AOp.mv (Operand.tmp 0)) none [], AOper.mk (some 12) (AOp.mv (Operand.tmp 1)) none [],
                AOper.mk (some 13) (AOp.bin BinOp.add (Operand.tmp 11) (Operand.tmp 12)) none [0, 1],
                AOper.mk (some 0) (AOp.mv (Operand.tmp 13)) none [2, 0, 1, 2]]
def l57r3 : List AOper :=
  [AOper.mk (some 14) (AOp.mv (Operand.tmp 0)) none [], AOper.mk (some 15) (AOp.mv (Operand.tmp 2)) none [],
              AOper.mk (some 16) (AOp.minmax true (Operand.tmp 14) (Operand.tmp 15)) none [0, 1],
              AOper.mk (some 17) (AOp.mv (Operand.tmp 3)) none [],
              AOper.mk (some 18) (AOp.minmax false (Operand.tmp 16) (Operand.tmp 17)) none [2, 3],
              AOper.mk (some 8) (AOp.mv (Operand.tmp 18)) none [4, 0, 1, 2, 3, 4]]
def l57 : AFn :=
  (AFn.mk 19 4
    (ACode.seq (ACode.reg l57r0)
      (ACode.seq
        (ACode.seq
          (ACode.reg l57r1)
          (ACode.cond (Operand.tmp 10)
            (ACode.reg l57r2)
            ACode.skip))
        (ACode.seq
          (ACode.reg l57r3)
          ACode.ret)))
    [ARes.tmp 8])
theorem l57_eq : lowFn Try.prog 57 = some l57 := by kernel_rfl
def l58r0 : List AOper :=
  [AOper.mk (some 6)
            (AOp.alloc
              [Value.int IntKind.i64 0, Value.int IntKind.i64 0,
                Value.int IntKind.i64 0])
            none []]
def l58r1 : List AOper :=
  [AOper.mk (some 8) (AOp.mv (Operand.tmp 2)) none [],
              AOper.mk (some 9)
                (AOp.bin BinOp.lss (Operand.tmp 8) (Operand.const (Value.int IntKind.i64 1))) none [0]]
def l58r2 : List AOper :=
  [AOper.mk (some 10)
                    (AOp.build
                      [Value.int IntKind.i64 0, Value.int IntKind.i64 0,
                        Value.int IntKind.i64 0]
                      [(0, 1, Operand.const (Value.int IntKind.i64 0)),
                        (1, 1, Operand.const (Value.int IntKind.i64 0)),
                        (2, 1, Operand.const (Value.int IntKind.i64 1))])
                    none [],
                  AOper.mk none (AOp.store 3 (Operand.tmp 6) (Operand.tmp 10)) none [0, 0]]
def l58r3 : List AOper :=
  [AOper.mk (some 11) (AOp.mv (Operand.tmp 2)) none [],
                AOper.mk (some 12)
                  (AOp.bin BinOp.eql (Operand.tmp 11) (Operand.const (Value.int IntKind.i64 1))) none [0]]
def l58r4 : List AOper :=
  [AOper.mk (some 13) (AOp.mv (Operand.tmp 0)) none [],
                    AOper.mk (some 14) (AOp.mv (Operand.tmp 0)) none [],
                    AOper.mk (some 15)
                      (AOp.bin BinOp.add (Operand.tmp 14) (Operand.const (Value.int IntKind.i64 1))) none
                      [1],
                    AOper.mk (some 16)
                      (AOp.build
                        [Value.int IntKind.i64 0, Value.int IntKind.i64 0,
                          Value.int IntKind.i64 0]
                        [(0, 1, Operand.tmp 13), (1, 1, Operand.tmp 15),
                          (2, 1, Operand.const (Value.int IntKind.i64 1))])
                      none [0, 2],
                    AOper.mk none (AOp.store 3 (Operand.tmp 6) (Operand.tmp 16)) none [3, 0, 1, 2, 3]]
def l58r5 : List AOper :=
  [AOper.mk (some 17) (AOp.mv (Operand.tmp 0)) none [], AOper.mk (some 18) (AOp.mv (Operand.tmp 2)) none [],
                AOper.mk (some 19)
                  (AOp.bin BinOp.sub (Operand.tmp 18) (Operand.const (Value.int IntKind.i64 1))) none [1],
                AOper.mk (some 20) (AOp.mv (Operand.tmp 1)) none [],
                AOper.mk (some 21) (AOp.bin BinOp.mul (Operand.tmp 19) (Operand.tmp 20)) none [2, 3],
                AOper.mk (some 22) (AOp.bin BinOp.add (Operand.tmp 17) (Operand.tmp 21)) none [0, 4],
                AOper.mk (some 7) (AOp.mv (Operand.tmp 22)) none [5, 0, 1, 2, 3, 4, 5]]
def l58r6 : List AOper :=
  [AOper.mk (some 23) (AOp.mv (Operand.tmp 1)) none [],
                    AOper.mk (some 24)
                      (AOp.bin BinOp.lss (Operand.tmp 23) (Operand.const (Value.int IntKind.i64 0))) none
                      [0]]
def l58r7 : List AOper :=
  [AOper.mk (some 25) (AOp.mv (Operand.tmp 0)) none [],
                        AOper.mk (some 26) (AOp.mv (Operand.tmp 7)) none [],
                        AOper.mk (some 27)
                          (AOp.bin BinOp.sub (Operand.tmp 26) (Operand.const (Value.int IntKind.i64 1)))
                          none [1],
                        AOper.mk (some 28) (AOp.mv (Operand.tmp 1)) none [],
                        AOper.mk (some 29)
                          (AOp.build
                            [Value.int IntKind.i64 0, Value.int IntKind.i64 0,
                              Value.int IntKind.i64 0]
                            [(0, 1, Operand.tmp 25), (1, 1, Operand.tmp 27), (2, 1, Operand.tmp 28)])
                          none [0, 2, 3],
                        AOper.mk none (AOp.store 3 (Operand.tmp 6) (Operand.tmp 29)) none [4, 0, 1, 2, 3, 4]]
def l58r8 : List AOper :=
  [AOper.mk (some 30) (AOp.mv (Operand.tmp 0)) none [],
                    AOper.mk (some 31) (AOp.mv (Operand.tmp 7)) none [],
                    AOper.mk (some 32)
                      (AOp.bin BinOp.add (Operand.tmp 31) (Operand.const (Value.int IntKind.i64 1))) none
                      [1],
                    AOper.mk (some 33) (AOp.mv (Operand.tmp 1)) none [],
                    AOper.mk (some 34)
                      (AOp.build
                        [Value.int IntKind.i64 0, Value.int IntKind.i64 0,
                          Value.int IntKind.i64 0]
                        [(0, 1, Operand.tmp 30), (1, 1, Operand.tmp 32), (2, 1, Operand.tmp 33)])
                      none [0, 2, 3],
                    AOper.mk none (AOp.store 3 (Operand.tmp 6) (Operand.tmp 34)) none [4, 0, 1, 2, 3, 4]]
def l58 : AFn :=
  (AFn.mk 35 3
    (ACode.seq
      (ACode.reg l58r0)
      (ACode.seq
        (ACode.seq
          (ACode.reg l58r1)
          (ACode.cond (Operand.tmp 9)
            (ACode.seq
              (ACode.reg l58r2)
              ACode.ret)
            ACode.skip))
        (ACode.seq
          (ACode.seq
            (ACode.reg l58r3)
            (ACode.cond (Operand.tmp 12)
              (ACode.seq
                (ACode.reg l58r4)
                ACode.ret)
              ACode.skip))
          (ACode.seq
            (ACode.reg l58r5)
            (ACode.seq
              (ACode.seq
                (ACode.reg l58r6)
                (ACode.cond (Operand.tmp 24)
                  (ACode.seq
                    (ACode.reg l58r7)
                    ACode.ret)
                  ACode.skip))
              (ACode.seq
                (ACode.reg l58r8)
                ACode.ret))))))
    [ARes.cell 6 true 3])
theorem l58_eq : lowFn Try.prog 58 = some l58 := by kernel_rfl
def l59r0 : List AOper :=
  [AOper.mk (some 4) (AOp.mv (Operand.const (Value.int IntKind.i64 0))) none []]
def l59r1 : List AOper :=
  [AOper.mk (some 5) (AOp.mv (Operand.const (Value.int IntKind.i64 0))) none []]
def l59r2 : List AOper :=
  [AOper.mk (some 6) (AOp.mv (Operand.tmp 5)) none [],
                      AOper.mk (some 7) (AOp.mv (Operand.tmp 0)) none [],
                      AOper.mk (some 8) (AOp.len (Operand.tmp 7)) none [1],
                      AOper.mk (some 9) (AOp.bin BinOp.lss (Operand.tmp 6) (Operand.tmp 8)) none [0, 2]]
def l59r3 : List AOper :=
  [AOper.mk (some 12) (AOp.mv (Operand.tmp 0)) none [],
                          AOper.mk (some 13) (AOp.mv (Operand.tmp 5)) none [],
                          AOper.mk (some 14) (AOp.idxA 1 (Operand.tmp 12) (Operand.tmp 13)) none [0, 1],
                          AOper.mk (some 15) (AOp.load false 1 (Operand.tmp 14)) none [2],
                          AOper.mk (some 16) (AOp.mv (Operand.tmp 1)) none [],
                          AOper.mk (some 17) (AOp.bin BinOp.eql (Operand.tmp 15) (Operand.tmp 16)) none [3, 4]]
def l59r4 : List AOper :=
  [AOper.mk (some 18) (AOp.mv (Operand.tmp 5)) none [],
                              AOper.mk (some 4) (AOp.mv (Operand.tmp 18)) none [0, 0]]
def l59r5 : List AOper :=
  [AOper.mk (some 10) (AOp.mv (Operand.tmp 5)) none [],
                      AOper.mk (some 11)
                        (AOp.bin BinOp.add (Operand.tmp 10) (Operand.const (Value.int IntKind.i64 1))) none
                        [0],
                      AOper.mk (some 5) (AOp.mv (Operand.tmp 11)) none [1, 0, 1]]
def l59r6 : List AOper :=
  [AOper.mk (some 4) (AOp.mv (Operand.const (Value.int IntKind.i64 (-1)))) none []]
def l59 : AFn :=
  (AFn.mk 19 2
    (ACode.seq (ACode.reg l59r0)
      (ACode.seq
        (ACode.seq
          (ACode.reg l59r1)
          (ACode.block 0
            (ACode.loop
              (ACode.seq
                (ACode.seq
                  (ACode.reg l59r2)
                  (ACode.cond (Operand.tmp 9) ACode.skip (ACode.exit 0)))
                (ACode.seq
                  (ACode.block 1
                    (ACode.seq
                      (ACode.reg l59r3)
                      (ACode.cond (Operand.tmp 17)
                        (ACode.seq
                          (ACode.reg l59r4)
                          ACode.ret)
                        ACode.skip)))
                  (ACode.reg l59r5))))))
        (ACode.seq
          (ACode.reg l59r6)
          ACode.ret)))
    [ARes.tmp 4])
theorem l59_eq : lowFn Try.prog 59 = some l59 := by kernel_rfl
def l60r0 : List AOper :=
  [AOper.mk (some 2) (AOp.mv (Operand.const (Value.slice none 0 0))) none []]
def l60r1 : List AOper :=
  [AOper.mk (some 5) (AOp.bslice 1 [Value.int IntKind.i64 0] [] 0) none [],
            AOper.mk (some 3) (AOp.mv (Operand.tmp 5)) none [0, 0]]
def l60r2 : List AOper :=
  [AOper.mk (some 6) (AOp.mv (Operand.tmp 0)) none [], AOper.mk (some 7) (AOp.len (Operand.tmp 6)) none [0],
                AOper.mk (some 8)
                  (AOp.bin BinOp.sub (Operand.tmp 7) (Operand.const (Value.int IntKind.i64 1))) none [1],
                AOper.mk (some 4) (AOp.mv (Operand.tmp 8)) none [2, 0, 1, 2]]
def l60r3 : List AOper :=
  [AOper.mk (some 9) (AOp.mv (Operand.tmp 4)) none [],
                        AOper.mk (some 10)
                          (AOp.bin BinOp.geq (Operand.tmp 9) (Operand.const (Value.int IntKind.i64 0))) none
                          [0]]
def l60r4 : List AOper :=
  [AOper.mk (some 13) (AOp.mv (Operand.tmp 3)) none [],
                          AOper.mk (some 14) (AOp.mv (Operand.tmp 0)) none [],
                          AOper.mk (some 15) (AOp.mv (Operand.tmp 4)) none [],
                          AOper.mk (some 16) (AOp.idxA 1 (Operand.tmp 14) (Operand.tmp 15)) none [1, 2],
                          AOper.mk (some 17) (AOp.load false 1 (Operand.tmp 16)) none [3],
                          AOper.mk (some 18)
                            (AOp.bslice 1 [Value.int IntKind.i64 0] [(0, Operand.tmp 17)] 1) none [4],
                          AOper.mk (some 19) (AOp.append 1 (Operand.tmp 13) (Operand.tmp 18)) none [0, 5],
                          AOper.mk (some 3) (AOp.mv (Operand.tmp 19)) none [6, 6, 0, 1, 2, 3, 4, 5, 6]]
def l60r5 : List AOper :=
  [AOper.mk (some 11) (AOp.mv (Operand.tmp 4)) none [],
                        AOper.mk (some 12)
                          (AOp.bin BinOp.sub (Operand.tmp 11) (Operand.const (Value.int IntKind.i64 1)))
                          none [0],
                        AOper.mk (some 4) (AOp.mv (Operand.tmp 12)) none [1, 0, 1]]
def l60r6 : List AOper :=
  [AOper.mk (some 20) (AOp.mv (Operand.tmp 3)) none [],
                AOper.mk (some 2) (AOp.mv (Operand.tmp 20)) none [0, 0]]
def l60 : AFn :=
  (AFn.mk 21 1
    (ACode.seq (ACode.reg l60r0)
      (ACode.seq
        (ACode.reg l60r1)
        (ACode.seq
          (ACode.seq
            (ACode.reg l60r2)
            (ACode.block 0
              (ACode.loop
                (ACode.seq
                  (ACode.seq
                    (ACode.reg l60r3)
                    (ACode.cond (Operand.tmp 10) ACode.skip (ACode.exit 0)))
                  (ACode.seq
                    (ACode.block 1
                      (ACode.reg l60r4))
                    (ACode.reg l60r5))))))
          (ACode.seq
            (ACode.reg l60r6)
            ACode.ret))))
    [ARes.tmp 2])
theorem l60_eq : lowFn Try.prog 60 = some l60 := by kernel_rfl
def l61r0 : List AOper :=
  [AOper.mk (some 2) (AOp.mv (Operand.const (Value.slice none 0 0))) none []]
def l61r1 : List AOper :=
  [AOper.mk (some 3) (AOp.bslice 1 [Value.int IntKind.i64 0] [] 0) none [],
            AOper.mk (some 4) (AOp.mv (Operand.tmp 0)) none [],
            AOper.mk (some 5) (AOp.append 1 (Operand.tmp 3) (Operand.tmp 4)) none [0, 1],
            AOper.mk (some 2) (AOp.mv (Operand.tmp 5)) none [2, 2, 0, 1, 2]]
def l61 : AFn :=
  (AFn.mk 6 1
    (ACode.seq (ACode.reg l61r0)
      (ACode.seq
        (ACode.reg l61r1)
        ACode.ret))
    [ARes.tmp 2])
theorem l61_eq : lowFn Try.prog 61 = some l61 := by kernel_rfl
def l62r0 : List AOper :=
  [AOper.mk (some 1) (AOp.box (Operand.tmp 0)) none [],
          AOper.mk (some 2)
            (AOp.alloc
              [Value.int IntKind.i64 0, Value.int IntKind.i64 0,
                Value.int IntKind.i64 0])
            none []]
def l62r1 : List AOper :=
  [AOper.mk (some 4) (AOp.load true 3 (Operand.tmp 1)) none [],
            AOper.mk (some 5) (AOp.call 45 [Operand.tmp 4]) none [0],
            AOper.mk (some 3) (AOp.mv (Operand.tmp 5)) none [1, 1, 0, 1]]
def l62r2a : List AOper :=
  [AOper.mk (some 6) (AOp.load true 3 (Operand.tmp 1)) none [], AOper.mk (some 7) (AOp.mv (Operand.tmp 3)) none [], AOper.mk (some 8)
                (AOp.bin BinOp.sub (Operand.tmp 7) (Operand.const (Value.int IntKind.i64 1))) none [1], AOper.mk (some 9) (AOp.call 54 [Operand.tmp 6, Operand.tmp 8]) none [0, 2], AOper.mk (some 10) (AOp.fld 2 (Operand.tmp 1)) none [], AOper.mk (some 11) (AOp.load false 1 (Operand.tmp 10)) none [4], AOper.mk (some 12) (AOp.un UnOp.neg (Operand.tmp 11)) none [5], AOper.mk (some 13) (AOp.mv (Operand.tmp 3)) none []]
def l62r2b : List AOper :=
  [AOper.mk (some 14) (AOp.call 58 [Operand.tmp 9, Operand.tmp 12, Operand.tmp 13]) none [3, 6, 7, 3], AOper.mk none (AOp.store 3 (Operand.tmp 2) (Operand.tmp 14)) none [8, 8, 0, 1, 2, 3, 4, 5, 6, 7, 8]]
def l62r2 : List AOper := l62r2a ++ l62r2b
def l62 : AFn :=
  (AFn.mk 15 1
    (ACode.seq
      (ACode.reg l62r0)
      (ACode.seq
        (ACode.reg l62r1)
        (ACode.seq
          (ACode.draw l62r2)
          ACode.ret)))
    [ARes.cell 2 true 3])
theorem l62_eq : lowFn Try.prog 62 = some l62 := by kernel_rfl
def l63r0 : List AOper :=
  [AOper.mk (some 1) (AOp.box (Operand.tmp 0)) none [],
          AOper.mk (some 2)
            (AOp.alloc
              [Value.int IntKind.i64 0, Value.int IntKind.i64 0,
                Value.int IntKind.i64 0])
            none []]
def l63r1a : List AOper :=
  [AOper.mk (some 3) (AOp.fld 0 (Operand.tmp 1)) none [], AOper.mk (some 4) (AOp.load false 1 (Operand.tmp 3)) none [0], AOper.mk (some 5) (AOp.fld 2 (Operand.tmp 1)) none [], AOper.mk (some 6) (AOp.load false 1 (Operand.tmp 5)) none [2], AOper.mk (some 7) (AOp.load true 3 (Operand.tmp 1)) none [], AOper.mk (some 8) (AOp.call 45 [Operand.tmp 7]) none [4]]
def l63r1b : List AOper :=
  [AOper.mk (some 9) (AOp.call 58 [Operand.tmp 4, Operand.tmp 6, Operand.tmp 8]) none [1, 3, 5, 5], AOper.mk none (AOp.store 3 (Operand.tmp 2) (Operand.tmp 9)) none [6, 6, 0, 1, 2, 3, 4, 5, 6]]
def l63r1 : List AOper := l63r1a ++ l63r1b
def l63 : AFn :=
  (AFn.mk 10 1
    (ACode.seq
      (ACode.reg l63r0)
      (ACode.seq
        (ACode.draw l63r1)
        ACode.ret))
    [ARes.cell 2 true 3])
theorem l63_eq : lowFn Try.prog 63 = some l63 := by kernel_rfl
def l64r0 : List AOper :=
  [AOper.mk (some 2) (AOp.box (Operand.tmp 0)) none [],
          AOper.mk (some 4) (AOp.mv (Operand.const (Value.int IntKind.i64 0))) none []]
def l64r1 : List AOper :=
  [AOper.mk (some 6) (AOp.mv (Operand.tmp 1)) none [],
              AOper.mk (some 7) (AOp.call 52 [Operand.tmp 6, Operand.const (Value.int IntKind.i64 100)])
                none [0],
              AOper.mk (some 8) (AOp.un UnOp.not (Operand.tmp 7)) none [1],
              AOper.mk (some 9) (AOp.mv (Operand.tmp 8)) none [2, 1],
              AOper.mk (some 10) (AOp.mv (Operand.tmp 1)) (some (9, false)) [3],
              AOper.mk (some 11) (AOp.fld 0 (Operand.tmp 2)) (some (9, false)) [3],
              AOper.mk (some 12) (AOp.load false 1 (Operand.tmp 11)) (some (9, false)) [5, 3],
              AOper.mk (some 13) (AOp.bin BinOp.sub (Operand.tmp 10) (Operand.tmp 12)) (some (9, false)) [4, 6, 3],
              AOper.mk (some 14) (AOp.fld 2 (Operand.tmp 2)) (some (9, false)) [3],
              AOper.mk (some 15) (AOp.load false 1 (Operand.tmp 14)) (some (9, false)) [8, 3],
              AOper.mk (some 16) (AOp.bin BinOp.rem (Operand.tmp 13) (Operand.tmp 15)) (some (9, false)) [7, 9, 3],
              AOper.mk (some 17)
                (AOp.bin BinOp.neq (Operand.tmp 16) (Operand.const (Value.int IntKind.i64 0)))
                (some (9, false)) [10, 3],
              AOper.mk (some 18) (AOp.pick (Operand.tmp 9) (Operand.const (Value.bool true)) (Operand.tmp 17)) none
                [3, 11]]
def l64r2 : List AOper :=
  [AOper.mk (some 4) (AOp.mv (Operand.const (Value.int IntKind.i64 (-1)))) none []]
def l64r3 : List AOper :=
  [AOper.mk (some 19) (AOp.mv (Operand.tmp 1)) none [],
              AOper.mk (some 20) (AOp.fld 0 (Operand.tmp 2)) none [],
              AOper.mk (some 21) (AOp.load false 1 (Operand.tmp 20)) none [1],
              AOper.mk (some 22) (AOp.bin BinOp.sub (Operand.tmp 19) (Operand.tmp 21)) none [0, 2],
              AOper.mk (some 23) (AOp.fld 2 (Operand.tmp 2)) none [],
              AOper.mk (some 24) (AOp.load false 1 (Operand.tmp 23)) none [4],
              AOper.mk (some 25) (AOp.bin BinOp.quo (Operand.tmp 22) (Operand.tmp 24)) none [3, 5],
              AOper.mk (some 5) (AOp.mv (Operand.tmp 25)) none [6, 0, 1, 2, 3, 4, 5, 6]]
def l64r4 : List AOper :=
  [AOper.mk (some 26) (AOp.mv (Operand.tmp 5)) none [],
                  AOper.mk (some 27)
                    (AOp.bin BinOp.lss (Operand.tmp 26) (Operand.const (Value.int IntKind.i64 0))) none [0],
                  AOper.mk (some 28) (AOp.mv (Operand.tmp 27)) none [1],
                  AOper.mk (some 29) (AOp.mv (Operand.tmp 5)) (some (28, false)) [2],
                  AOper.mk (some 30) (AOp.load true 3 (Operand.tmp 2)) (some (28, false)) [2],
                  AOper.mk (some 31) (AOp.call 45 [Operand.tmp 30]) (some (28, false)) [4, 2, 2],
                  AOper.mk (some 32) (AOp.bin BinOp.geq (Operand.tmp 29) (Operand.tmp 31)) (some (28, false)) [3, 5, 2],
                  AOper.mk (some 33) (AOp.pick (Operand.tmp 28) (Operand.const (Value.bool true)) (Operand.tmp 32)) none
                    [2, 6]]
def l64r5 : List AOper :=
  [AOper.mk (some 4) (AOp.mv (Operand.const (Value.int IntKind.i64 (-1)))) none []]
def l64r6 : List AOper :=
  [AOper.mk (some 34) (AOp.mv (Operand.tmp 5)) none [],
                  AOper.mk (some 4) (AOp.mv (Operand.tmp 34)) none [0, 0]]
def l64 : AFn :=
  (AFn.mk 35 2
    (ACode.seq
      (ACode.reg l64r0)
      (ACode.seq
        (ACode.seq
          (ACode.reg l64r1)
          (ACode.cond (Operand.tmp 18)
            (ACode.seq
              (ACode.reg l64r2)
              ACode.ret)
            ACode.skip))
        (ACode.seq
          (ACode.reg l64r3)
          (ACode.seq
            (ACode.seq
              (ACode.reg l64r4)
              (ACode.cond (Operand.tmp 33)
                (ACode.seq
                  (ACode.reg l64r5)
                  ACode.ret)
                ACode.skip))
            (ACode.seq
              (ACode.reg l64r6)
              ACode.ret)))))
    [ARes.tmp 4])
theorem l64_eq : lowFn Try.prog 64 = some l64 := by kernel_rfl
def l65r0 : List AOper :=
  [AOper.mk (some 4) (AOp.mv (Operand.const (Value.int IntKind.i64 0))) none []]
def l65r1 : List AOper :=
  [AOper.mk (some 7) (AOp.mv (Operand.tmp 0)) none [], AOper.mk (some 8) (AOp.mv (Operand.tmp 1)) none [],
            AOper.mk (some 5) (AOp.mv (Operand.tmp 7)) none [0, 0],
            AOper.mk (some 6) (AOp.mv (Operand.tmp 8)) none [1, 2, 0, 1, 2]]
def l65r2 : List AOper :=
  [AOper.mk (some 9) (AOp.mv (Operand.tmp 6)) none [],
                      AOper.mk (some 10)
                        (AOp.bin BinOp.gtr (Operand.tmp 9) (Operand.const (Value.int IntKind.i64 0))) none
                        [0]]
def l65r3a : List AOper :=
  [AOper.mk (some 11) (AOp.mv (Operand.tmp 6)) none [], AOper.mk (some 12) (AOp.mv (Operand.tmp 5)) none [], AOper.mk (some 13) (AOp.mv (Operand.tmp 6)) none [], AOper.mk (some 14) (AOp.bin BinOp.rem (Operand.tmp 12) (Operand.tmp 13)) none [1, 2], AOper.mk (some 5) (AOp.mv (Operand.tmp 11)) none [0, 0, 1]]
def l65r3b : List AOper :=
  [AOper.mk (some 6) (AOp.mv (Operand.tmp 14)) none [3, 4, 0, 1, 2, 3, 4]]
def l65r3 : List AOper := l65r3a ++ l65r3b
def l65r4 : List AOper :=
  [AOper.mk (some 15) (AOp.mv (Operand.tmp 0)) none [], AOper.mk (some 16) (AOp.mv (Operand.tmp 5)) none [],
                AOper.mk (some 17) (AOp.bin BinOp.quo (Operand.tmp 15) (Operand.tmp 16)) none [0, 1],
                AOper.mk (some 18) (AOp.mv (Operand.tmp 1)) none [],
                AOper.mk (some 19) (AOp.bin BinOp.mul (Operand.tmp 17) (Operand.tmp 18)) none [2, 3],
                AOper.mk (some 4) (AOp.mv (Operand.tmp 19)) none [4, 0, 1, 2, 3, 4]]
def l65 : AFn :=
  (AFn.mk 20 2
    (ACode.seq (ACode.reg l65r0)
      (ACode.seq
        (ACode.reg l65r1)
        (ACode.seq
          (ACode.block 0
            (ACode.loop
              (ACode.seq
                (ACode.seq
                  (ACode.reg l65r2)
                  (ACode.cond (Operand.tmp 10) ACode.skip (ACode.exit 0)))
                (ACode.block 1
                  (ACode.draw l65r3)))))
          (ACode.seq
            (ACode.reg l65r4)
            ACode.ret))))
    [ARes.tmp 4])
theorem l65_eq : lowFn Try.prog 65 = some l65 := by kernel_rfl
end Go.Proofs.Ytlnlppeecmnmbaa
