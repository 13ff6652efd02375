import Derived.Test.YticgaegkhcjeeaaCVwR
import Derived.Test.YticgaegkhcjeeaaProg
import Derived.KernelRfl
set_option maxRecDepth 100000
namespace Go.Proofs.Yticgaegkhcjeeaa
open Vw Go
def l3r0 : List AOper :=
  [AOper.mk (some 2) (AOp.mv (Operand.const (Value.bool false))) none []]
def l3r1 : List AOper :=
  [AOper.mk (some 6) (AOp.mv (Operand.tmp 0)) none [], AOper.mk (some 7) (AOp.len (Operand.tmp 6)) none [0],
              AOper.mk (some 8)
                (AOp.bin BinOp.gtr (Operand.tmp 7) (Operand.const (Value.int IntKind.i64 1048576))) none
                [1]]
def l3r2 : List AOper :=
  [AOper.mk (some 2) (AOp.mv (Operand.const (Value.bool true))) none []]
def l3r3 : List AOper :=
  [AOper.mk (some 9) (AOp.mv (Operand.tmp 0)) none [],
              AOper.mk (some 10) (AOp.call 11 [Operand.tmp 9]) none [0],
              AOper.mk (some 11) (AOp.call 10 [Operand.tmp 10]) none [1, 1],
              AOper.mk (some 3) (AOp.mv (Operand.tmp 11)) none [2, 2, 0, 1, 2]]
def l3r4 : List AOper :=
  [AOper.mk (some 12) (AOp.mv (Operand.tmp 0)) none [],
                AOper.mk (some 13) (AOp.call 11 [Operand.tmp 12]) none [0],
                AOper.mk (some 4) (AOp.mv (Operand.tmp 13)) none [1, 1, 0, 1]]
def l3r5 : List AOper :=
  [AOper.mk (some 14) (AOp.mv (Operand.tmp 4)) none [],
                  AOper.mk (some 15) (AOp.call 12 [Operand.tmp 14]) none [0],
                  AOper.mk (some 5) (AOp.mv (Operand.tmp 15)) none [1, 1, 0, 1]]
def l3r6 : List AOper :=
  [AOper.mk (some 16) (AOp.mv (Operand.tmp 5)) none [],
                      AOper.mk (some 17) (AOp.mv (Operand.tmp 3)) none [],
                      AOper.mk (some 18) (AOp.binB BinOp.neq (Operand.tmp 16) (Operand.tmp 17)) none [0, 1]]
def l3r7 : List AOper :=
  [AOper.mk (some 2) (AOp.mv (Operand.const (Value.bool false))) none []]
def l3r8 : List AOper :=
  [AOper.mk (some 19) (AOp.mv (Operand.tmp 4)) none [],
                        AOper.mk (some 20) (AOp.mv (Operand.tmp 0)) none [],
                        AOper.mk (some 21) (AOp.call 11 [Operand.tmp 20]) none [1],
                        AOper.mk (some 22) (AOp.call 13 [Operand.tmp 19, Operand.tmp 21]) none [0, 2, 2],
                        AOper.mk (some 23) (AOp.un UnOp.not (Operand.tmp 22)) none [3]]
def l3r9 : List AOper :=
  [AOper.mk (some 2) (AOp.mv (Operand.const (Value.bool false))) none []]
def l3r10 : List AOper :=
  [AOper.mk (some 2) (AOp.mv (Operand.const (Value.bool true))) none []]
def l3 : AFn :=
  (AFn.mk 24 1
    (ACode.seq (ACode.reg l3r0)
      (ACode.seq
        (ACode.seq
          (ACode.reg l3r1)
          (ACode.cond (Operand.tmp 8)
            (ACode.seq (ACode.reg l3r2) ACode.ret)
            ACode.skip))
        (ACode.seq
          (ACode.reg l3r3)
          (ACode.seq
            (ACode.reg l3r4)
            (ACode.seq
              (ACode.reg l3r5)
              (ACode.seq
                (ACode.seq
                  (ACode.reg l3r6)
                  (ACode.cond (Operand.tmp 18)
                    (ACode.seq (ACode.reg l3r7)
                      ACode.ret)
                    ACode.skip))
                (ACode.seq
                  (ACode.seq
                    (ACode.reg l3r8)
                    (ACode.cond (Operand.tmp 23)
                      (ACode.seq (ACode.reg l3r9)
                        ACode.ret)
                      ACode.skip))
                  (ACode.seq (ACode.reg l3r10)
                    ACode.ret))))))))
    [ARes.tmp 2])
theorem l3_eq : lowFn Try.prog 3 = some l3 := by kernel_rfl
def l4r0 : List AOper :=
  [AOper.mk (some 2) (AOp.mv (Operand.const (Value.bool false))) none []]
def l4r1 : List AOper :=
  [AOper.mk (some 6) (AOp.mv (Operand.tmp 0)) none [], AOper.mk (some 7) (AOp.len (Operand.tmp 6)) none [0],
              AOper.mk (some 8)
                (AOp.bin BinOp.gtr (Operand.tmp 7) (Operand.const (Value.int IntKind.i64 1048576))) none
                [1]]
def l4r2 : List AOper :=
  [AOper.mk (some 2) (AOp.mv (Operand.const (Value.bool true))) none []]
def l4r3 : List AOper :=
  [AOper.mk (some 9) (AOp.mv (Operand.tmp 0)) none [],
              AOper.mk (some 10) (AOp.call 11 [Operand.tmp 9]) none [0],
              AOper.mk (some 11) (AOp.call 14 [Operand.tmp 10]) none [1, 1],
              AOper.mk (some 3) (AOp.mv (Operand.tmp 11)) none [2, 2, 0, 1, 2]]
def l4r4 : List AOper :=
  [AOper.mk (some 12) (AOp.mv (Operand.tmp 0)) none [],
                AOper.mk (some 13) (AOp.call 11 [Operand.tmp 12]) none [0],
                AOper.mk (some 4) (AOp.mv (Operand.tmp 13)) none [1, 1, 0, 1]]
def l4r5 : List AOper :=
  [AOper.mk (some 14) (AOp.mv (Operand.tmp 4)) none [],
                  AOper.mk (some 15) (AOp.call 15 [Operand.tmp 14]) none [0],
                  AOper.mk (some 5) (AOp.mv (Operand.tmp 15)) none [1, 1, 0, 1]]
def l4r6 : List AOper :=
  [AOper.mk (some 16) (AOp.mv (Operand.tmp 5)) none [],
                      AOper.mk (some 17) (AOp.mv (Operand.tmp 3)) none [],
                      AOper.mk (some 18) (AOp.bin BinOp.neq (Operand.tmp 16) (Operand.tmp 17)) none [0, 1]]
def l4r7 : List AOper :=
  [AOper.mk (some 2) (AOp.mv (Operand.const (Value.bool false))) none []]
def l4r8 : List AOper :=
  [AOper.mk (some 19) (AOp.mv (Operand.tmp 4)) none [],
                        AOper.mk (some 20) (AOp.mv (Operand.tmp 0)) none [],
                        AOper.mk (some 21) (AOp.call 11 [Operand.tmp 20]) none [1],
                        AOper.mk (some 22) (AOp.call 13 [Operand.tmp 19, Operand.tmp 21]) none [0, 2, 2],
                        AOper.mk (some 23) (AOp.un UnOp.not (Operand.tmp 22)) none [3]]
def l4r9 : List AOper :=
  [AOper.mk (some 2) (AOp.mv (Operand.const (Value.bool false))) none []]
def l4r10 : List AOper :=
  [AOper.mk (some 2) (AOp.mv (Operand.const (Value.bool true))) none []]
def l4 : AFn :=
  (AFn.mk 24 1
    (ACode.seq (ACode.reg l4r0)
      (ACode.seq
        (ACode.seq
          (ACode.reg l4r1)
          (ACode.cond (Operand.tmp 8)
            (ACode.seq (ACode.reg l4r2) ACode.ret)
            ACode.skip))
        (ACode.seq
          (ACode.reg l4r3)
          (ACode.seq
            (ACode.reg l4r4)
            (ACode.seq
              (ACode.reg l4r5)
              (ACode.seq
                (ACode.seq
                  (ACode.reg l4r6)
                  (ACode.cond (Operand.tmp 18)
                    (ACode.seq (ACode.reg l4r7)
                      ACode.ret)
                    ACode.skip))
                (ACode.seq
                  (ACode.seq
                    (ACode.reg l4r8)
                    (ACode.cond (Operand.tmp 23)
                      (ACode.seq (ACode.reg l4r9)
                        ACode.ret)
                      ACode.skip))
                  (ACode.seq (ACode.reg l4r10)
                    ACode.ret))))))))
    [ARes.tmp 2])
theorem l4_eq : lowFn Try.prog 4 = some l4 := by kernel_rfl
def l5r0 : List AOper :=
  [AOper.mk (some 4) (AOp.mv (Operand.const (Value.bool false))) none []]
def l5r1 : List AOper :=
  [AOper.mk (some 12) (AOp.mv (Operand.tmp 0)) none [],
              AOper.mk (some 13) (AOp.len (Operand.tmp 12)) none [0],
              AOper.mk (some 14)
                (AOp.bin BinOp.gtr (Operand.tmp 13) (Operand.const (Value.int IntKind.i64 1048576))) none
                [1]]
def l5r2 : List AOper :=
  [AOper.mk (some 4) (AOp.mv (Operand.const (Value.bool true))) none []]
def l5r3 : List AOper :=
  [AOper.mk (some 15) (AOp.mv (Operand.tmp 0)) none [],
              AOper.mk (some 16) (AOp.call 11 [Operand.tmp 15]) none [0],
              AOper.mk (some 17) (AOp.mv (Operand.tmp 1)) none [],
              AOper.mk (some 18) (AOp.call 16 [Operand.tmp 16, Operand.tmp 17]) none [1, 2, 1],
              AOper.mk (some 5) (AOp.mv (Operand.tmp 18)) none [3, 3, 0, 1, 2, 3]]
def l5r4 : List AOper :=
  [AOper.mk (some 19) (AOp.mv (Operand.tmp 0)) none [],
                AOper.mk (some 20) (AOp.call 11 [Operand.tmp 19]) none [0],
                AOper.mk (some 6) (AOp.mv (Operand.tmp 20)) none [1, 1, 0, 1]]
def l5r5 : List AOper :=
  [AOper.mk (some 21) (AOp.mv (Operand.tmp 6)) none [],
                  AOper.mk (some 22) (AOp.mv (Operand.tmp 1)) none [],
                  AOper.mk (some 23) (AOp.call 17 [Operand.tmp 21, Operand.tmp 22]) none [0, 1],
                  AOper.mk (some 7) (AOp.mv (Operand.tmp 23)) none [2, 2, 0, 1, 2]]
def l5r6 : List AOper :=
  [AOper.mk (some 24) (AOp.mv (Operand.tmp 7)) none [],
                      AOper.mk (some 25) (AOp.mv (Operand.tmp 5)) none [],
                      AOper.mk (some 26) (AOp.call 13 [Operand.tmp 24, Operand.tmp 25]) none [0, 1],
                      AOper.mk (some 27) (AOp.un UnOp.not (Operand.tmp 26)) none [2]]
def l5r7 : List AOper :=
  [AOper.mk (some 4) (AOp.mv (Operand.const (Value.bool false))) none []]
def l5r8 : List AOper :=
  [AOper.mk (some 28) (AOp.mv (Operand.tmp 6)) none [],
                        AOper.mk (some 29) (AOp.mv (Operand.tmp 0)) none [],
                        AOper.mk (some 30) (AOp.call 11 [Operand.tmp 29]) none [1],
                        AOper.mk (some 31) (AOp.call 13 [Operand.tmp 28, Operand.tmp 30]) none [0, 2, 2],
                        AOper.mk (some 32) (AOp.un UnOp.not (Operand.tmp 31)) none [3]]
def l5r9 : List AOper :=
  [AOper.mk (some 4) (AOp.mv (Operand.const (Value.bool false))) none []]
def l5r10 : List AOper :=
  [AOper.mk (some 8) (AOp.mv (Operand.const (Value.int IntKind.i64 1))) none []]
def l5r11 : List AOper :=
  [AOper.mk (some 33) (AOp.mv (Operand.tmp 6)) none [],
                          AOper.mk (some 34) (AOp.mv (Operand.tmp 8)) none [],
                          AOper.mk (some 35) (AOp.call 18 [Operand.tmp 33, Operand.tmp 34]) none [0, 1],
                          AOper.mk (some 8) (AOp.mv (Operand.tmp 35)) none [2, 2, 0, 1, 2]]
def l5r12 : List AOper :=
  [AOper.mk (some 36) (AOp.mv (Operand.tmp 8)) none [],
                              AOper.mk (some 37)
                                (AOp.bin BinOp.lss (Operand.tmp 36)
                                  (Operand.const (Value.int IntKind.i64 0)))
                                none [0],
                              AOper.mk (some 38) (AOp.mv (Operand.tmp 37)) none [1],
                              AOper.mk (some 39) (AOp.mv (Operand.tmp 7)) (some (38, false)) [2],
                              AOper.mk (some 40) (AOp.mv (Operand.tmp 5)) (some (38, false)) [2],
                              AOper.mk (some 41) (AOp.call 13 [Operand.tmp 39, Operand.tmp 40]) (some (38, false))
                                [3, 4, 2, 2],
                              AOper.mk (some 42) (AOp.un UnOp.not (Operand.tmp 41)) (some (38, false)) [5, 2],
                              AOper.mk (some 43)
                                (AOp.pick (Operand.tmp 38) (Operand.const (Value.bool true)) (Operand.tmp 42)) none
                                [2, 6]]
def l5r13 : List AOper :=
  [AOper.mk (some 4) (AOp.mv (Operand.const (Value.bool false))) none []]
def l5r14 : List AOper :=
  [AOper.mk (some 9) (AOp.mv (Operand.const (Value.int IntKind.i64 1))) none []]
def l5r15 : List AOper :=
  [AOper.mk (some 44) (AOp.mv (Operand.tmp 7)) none [],
                                AOper.mk (some 45) (AOp.mv (Operand.tmp 9)) none [],
                                AOper.mk (some 46) (AOp.call 18 [Operand.tmp 44, Operand.tmp 45]) none [0, 1],
                                AOper.mk (some 9) (AOp.mv (Operand.tmp 46)) none [2, 2, 0, 1, 2]]
def l5r16 : List AOper :=
  [AOper.mk (some 10) (AOp.mv (Operand.const (Value.int IntKind.i64 1))) none
                                    []]
def l5r17 : List AOper :=
  [AOper.mk (some 47) (AOp.mv (Operand.tmp 7)) none [],
                                    AOper.mk (some 48) (AOp.mv (Operand.tmp 10)) none [],
                                    AOper.mk (some 49) (AOp.call 19 [Operand.tmp 47, Operand.tmp 48]) none [0, 1],
                                    AOper.mk (some 10) (AOp.mv (Operand.tmp 49)) none [2, 2, 0, 1, 2]]
def l5r18 : List AOper :=
  [AOper.mk (some 50) (AOp.mv (Operand.tmp 10)) none [],
                                        AOper.mk (some 51)
                                          (AOp.bin BinOp.lss (Operand.tmp 50)
                                            (Operand.const (Value.int IntKind.i64 0)))
                                          none [0]]
def l5r19 : List AOper :=
  [AOper.mk (some 4) (AOp.mv (Operand.const (Value.bool false))) none []]
def l5r20 : List AOper :=
  [AOper.mk (some 52) (AOp.mv (Operand.tmp 10)) none [],
                                          AOper.mk (some 53) (AOp.mv (Operand.tmp 9)) none [],
                                          AOper.mk (some 54) (AOp.bin BinOp.neq (Operand.tmp 52) (Operand.tmp 53)) none
                                            [0, 1]]
def l5r21 : List AOper :=
  [AOper.mk (some 4) (AOp.mv (Operand.const (Value.bool false))) none []]
def l5r22 : List AOper :=
  [AOper.mk (some 55) (AOp.mv (Operand.tmp 0)) none [],
                                          AOper.mk (some 56) (AOp.call 11 [Operand.tmp 55]) none [0],
                                          AOper.mk (some 57) (AOp.mv (Operand.tmp 1)) none [],
                                          AOper.mk (some 58) (AOp.call 17 [Operand.tmp 56, Operand.tmp 57]) none
                                            [1, 2, 1],
                                          AOper.mk (some 11) (AOp.mv (Operand.tmp 58)) none [3, 3, 0, 1, 2, 3]]
def l5r23 : List AOper :=
  [AOper.mk (some 59) (AOp.mv (Operand.tmp 11)) none [],
                                              AOper.mk (some 60) (AOp.mv (Operand.tmp 5)) none [],
                                              AOper.mk (some 61) (AOp.call 13 [Operand.tmp 59, Operand.tmp 60]) none
                                                [0, 1],
                                              AOper.mk (some 62) (AOp.un UnOp.not (Operand.tmp 61)) none [2]]
def l5r24 : List AOper :=
  [AOper.mk (some 4) (AOp.mv (Operand.const (Value.bool false))) none []]
def l5r25 : List AOper :=
  [AOper.mk (some 10)
                                                (AOp.mv (Operand.const (Value.int IntKind.i64 1))) none []]
def l5r26 : List AOper :=
  [AOper.mk (some 63) (AOp.mv (Operand.tmp 7)) none [],
                                                AOper.mk (some 64) (AOp.mv (Operand.tmp 10)) none [],
                                                AOper.mk (some 65) (AOp.call 19 [Operand.tmp 63, Operand.tmp 64]) none
                                                  [0, 1],
                                                AOper.mk (some 10) (AOp.mv (Operand.tmp 65)) none [2, 2, 0, 1, 2]]
def l5r27 : List AOper :=
  [AOper.mk (some 66) (AOp.mv (Operand.tmp 10)) none [],
                                                    AOper.mk (some 67)
                                                      (AOp.bin BinOp.lss (Operand.tmp 66)
                                                        (Operand.const (Value.int IntKind.i64 0)))
                                                      none [0]]
def l5r28 : List AOper :=
  [AOper.mk (some 4) (AOp.mv (Operand.const (Value.bool false)))
                                                          none []]
def l5r29 : List AOper :=
  [AOper.mk (some 68) (AOp.mv (Operand.tmp 10)) none [],
                                                      AOper.mk (some 69) (AOp.mv (Operand.tmp 9)) none [],
                                                      AOper.mk (some 70)
                                                        (AOp.bin BinOp.neq (Operand.tmp 68) (Operand.tmp 69)) none
                                                        [0, 1]]
def l5r30 : List AOper :=
  [AOper.mk (some 4) (AOp.mv (Operand.const (Value.bool false)))
                                                            none []]
def l5r31 : List AOper :=
  [AOper.mk (some 4) (AOp.mv (Operand.const (Value.bool true))) none
                                                        []]
def l5 : AFn :=
  (AFn.mk 71 2
    (ACode.seq (ACode.reg l5r0)
      (ACode.seq
        (ACode.seq
          (ACode.reg l5r1)
          (ACode.cond (Operand.tmp 14)
            (ACode.seq (ACode.reg l5r2) ACode.ret)
            ACode.skip))
        (ACode.seq
          (ACode.reg l5r3)
          (ACode.seq
            (ACode.reg l5r4)
            (ACode.seq
              (ACode.reg l5r5)
              (ACode.seq
                (ACode.seq
                  (ACode.reg l5r6)
                  (ACode.cond (Operand.tmp 27)
                    (ACode.seq (ACode.reg l5r7)
                      ACode.ret)
                    ACode.skip))
                (ACode.seq
                  (ACode.seq
                    (ACode.reg l5r8)
                    (ACode.cond (Operand.tmp 32)
                      (ACode.seq (ACode.reg l5r9)
                        ACode.ret)
                      ACode.skip))
                  (ACode.seq
                    (ACode.reg l5r10)
                    (ACode.seq
                      (ACode.reg l5r11)
                      (ACode.seq
                        (ACode.seq
                          (ACode.reg l5r12)
                          (ACode.cond (Operand.tmp 43)
                            (ACode.seq
                              (ACode.reg l5r13)
                              ACode.ret)
                            ACode.skip))
                        (ACode.seq
                          (ACode.reg l5r14)
                          (ACode.seq
                            (ACode.reg l5r15)
                            (ACode.seq
                              (ACode.reg l5r16)
                              (ACode.seq
                                (ACode.reg l5r17)
                                (ACode.seq
                                  (ACode.seq
                                    (ACode.reg l5r18)
                                    (ACode.cond (Operand.tmp 51)
                                      (ACode.seq
                                        (ACode.reg l5r19)
                                        ACode.ret)
                                      ACode.skip))
                                  (ACode.seq
                                    (ACode.seq
                                      (ACode.reg l5r20)
                                      (ACode.cond (Operand.tmp 54)
                                        (ACode.seq
                                          (ACode.reg l5r21)
                                          ACode.ret)
                                        ACode.skip))
                                    (ACode.seq
                                      (ACode.reg l5r22)
                                      (ACode.seq
                                        (ACode.seq
                                          (ACode.reg l5r23)
                                          (ACode.cond (Operand.tmp 62)
                                            (ACode.seq
                                              (ACode.reg l5r24)
                                              ACode.ret)
                                            ACode.skip))
                                        (ACode.seq
                                          (ACode.reg l5r25)
                                          (ACode.seq
                                            (ACode.reg l5r26)
                                            (ACode.seq
                                              (ACode.seq
                                                (ACode.reg l5r27)
                                                (ACode.cond (Operand.tmp 67)
                                                  (ACode.seq
                                                    (ACode.reg l5r28)
                                                    ACode.ret)
                                                  ACode.skip))
                                              (ACode.seq
                                                (ACode.seq
                                                  (ACode.reg l5r29)
                                                  (ACode.cond (Operand.tmp 70)
                                                    (ACode.seq
                                                      (ACode.reg l5r30)
                                                      ACode.ret)
                                                    ACode.skip))
                                                (ACode.seq
                                                  (ACode.reg l5r31)
                                                  ACode.ret)))))))))))))))))))))))
    [ARes.tmp 4])
theorem l5_eq : lowFn Try.prog 5 = some l5 := by kernel_rfl
def l6r0 : List AOper :=
  [AOper.mk (some 4) (AOp.mv (Operand.const (Value.bool false))) none []]
def l6r1 : List AOper :=
  [AOper.mk (some 9) (AOp.mv (Operand.tmp 0)) none [], AOper.mk (some 10) (AOp.len (Operand.tmp 9)) none [0],
              AOper.mk (some 11)
                (AOp.bin BinOp.gtr (Operand.tmp 10) (Operand.const (Value.int IntKind.i64 1048576))) none
                [1]]
def l6r2 : List AOper :=
  [AOper.mk (some 4) (AOp.mv (Operand.const (Value.bool true))) none []]
def l6r3 : List AOper :=
  [AOper.mk (some 12) (AOp.mv (Operand.tmp 1)) none [],
                AOper.mk (some 13) (AOp.len (Operand.tmp 12)) none [0],
                AOper.mk (some 14)
                  (AOp.bin BinOp.gtr (Operand.tmp 13) (Operand.const (Value.int IntKind.i64 1048576))) none
                  [1]]
def l6r4 : List AOper :=
  [AOper.mk (some 4) (AOp.mv (Operand.const (Value.bool true))) none []]
def l6r5 : List AOper :=
  [AOper.mk (some 15) (AOp.mv (Operand.tmp 0)) none [],
                AOper.mk (some 16) (AOp.call 11 [Operand.tmp 15]) none [0],
                AOper.mk (some 17) (AOp.mv (Operand.tmp 1)) none [],
                AOper.mk (some 18) (AOp.call 11 [Operand.tmp 17]) none [2, 1],
                AOper.mk (some 19) (AOp.call 20 [Operand.tmp 16, Operand.tmp 18]) none [1, 3, 3],
                AOper.mk (some 5) (AOp.mv (Operand.tmp 19)) none [4, 4, 0, 1, 2, 3, 4]]
def l6r6 : List AOper :=
  [AOper.mk (some 20) (AOp.mv (Operand.tmp 0)) none [],
                  AOper.mk (some 21) (AOp.call 11 [Operand.tmp 20]) none [0],
                  AOper.mk (some 6) (AOp.mv (Operand.tmp 21)) none [1, 1, 0, 1]]
def l6r7 : List AOper :=
  [AOper.mk (some 22) (AOp.mv (Operand.tmp 1)) none [],
                    AOper.mk (some 23) (AOp.call 11 [Operand.tmp 22]) none [0],
                    AOper.mk (some 7) (AOp.mv (Operand.tmp 23)) none [1, 1, 0, 1]]
def l6r8 : List AOper :=
  [AOper.mk (some 24) (AOp.mv (Operand.tmp 6)) none [],
                      AOper.mk (some 25) (AOp.mv (Operand.tmp 7)) none [],
                      AOper.mk (some 26) (AOp.call 21 [Operand.tmp 24, Operand.tmp 25]) none [0, 1],
                      AOper.mk (some 8) (AOp.mv (Operand.tmp 26)) none [2, 2, 0, 1, 2]]
def l6r9 : List AOper :=
  [AOper.mk (some 27) (AOp.mv (Operand.tmp 8)) none [],
                          AOper.mk (some 28) (AOp.mv (Operand.tmp 5)) none [],
                          AOper.mk (some 29) (AOp.bin BinOp.neq (Operand.tmp 27) (Operand.tmp 28)) none [0, 1]]
def l6r10 : List AOper :=
  [AOper.mk (some 4) (AOp.mv (Operand.const (Value.bool false))) none []]
def l6r11 : List AOper :=
  [AOper.mk (some 30) (AOp.mv (Operand.tmp 6)) none [],
                            AOper.mk (some 31) (AOp.mv (Operand.tmp 0)) none [],
                            AOper.mk (some 32) (AOp.call 11 [Operand.tmp 31]) none [1],
                            AOper.mk (some 33) (AOp.call 13 [Operand.tmp 30, Operand.tmp 32]) none [0, 2, 2],
                            AOper.mk (some 34) (AOp.un UnOp.not (Operand.tmp 33)) none [3]]
def l6r12 : List AOper :=
  [AOper.mk (some 4) (AOp.mv (Operand.const (Value.bool false))) none []]
def l6r13 : List AOper :=
  [AOper.mk (some 35) (AOp.mv (Operand.tmp 7)) none [],
                              AOper.mk (some 36) (AOp.mv (Operand.tmp 1)) none [],
                              AOper.mk (some 37) (AOp.call 11 [Operand.tmp 36]) none [1],
                              AOper.mk (some 38) (AOp.call 13 [Operand.tmp 35, Operand.tmp 37]) none [0, 2, 2],
                              AOper.mk (some 39) (AOp.un UnOp.not (Operand.tmp 38)) none [3]]
def l6r14 : List AOper :=
  [AOper.mk (some 4) (AOp.mv (Operand.const (Value.bool false))) none []]
def l6r15 : List AOper :=
  [AOper.mk (some 4) (AOp.mv (Operand.const (Value.bool true))) none []]
def l6 : AFn :=
  (AFn.mk 40 2
    (ACode.seq (ACode.reg l6r0)
      (ACode.seq
        (ACode.seq
          (ACode.reg l6r1)
          (ACode.cond (Operand.tmp 11)
            (ACode.seq (ACode.reg l6r2) ACode.ret)
            ACode.skip))
        (ACode.seq
          (ACode.seq
            (ACode.reg l6r3)
            (ACode.cond (Operand.tmp 14)
              (ACode.seq (ACode.reg l6r4) ACode.ret)
              ACode.skip))
          (ACode.seq
            (ACode.reg l6r5)
            (ACode.seq
              (ACode.reg l6r6)
              (ACode.seq
                (ACode.reg l6r7)
                (ACode.seq
                  (ACode.reg l6r8)
                  (ACode.seq
                    (ACode.seq
                      (ACode.reg l6r9)
                      (ACode.cond (Operand.tmp 29)
                        (ACode.seq (ACode.reg l6r10)
                          ACode.ret)
                        ACode.skip))
                    (ACode.seq
                      (ACode.seq
                        (ACode.reg l6r11)
                        (ACode.cond (Operand.tmp 34)
                          (ACode.seq (ACode.reg l6r12)
                            ACode.ret)
                          ACode.skip))
                      (ACode.seq
                        (ACode.seq
                          (ACode.reg l6r13)
                          (ACode.cond (Operand.tmp 39)
                            (ACode.seq
                              (ACode.reg l6r14)
                              ACode.ret)
                            ACode.skip))
                        (ACode.seq (ACode.reg l6r15)
                          ACode.ret)))))))))))
    [ARes.tmp 4])
theorem l6_eq : lowFn Try.prog 6 = some l6 := by kernel_rfl
def l7r0 : List AOper :=
  [AOper.mk (some 2) (AOp.mv (Operand.const (Value.bool false))) none []]
def l7r1 : List AOper :=
  [AOper.mk (some 10) (AOp.mv (Operand.tmp 0)) none [],
              AOper.mk (some 11) (AOp.len (Operand.tmp 10)) none [0],
              AOper.mk (some 12)
                (AOp.bin BinOp.gtr (Operand.tmp 11) (Operand.const (Value.int IntKind.i64 1048576))) none
                [1]]
def l7r2 : List AOper :=
  [AOper.mk (some 2) (AOp.mv (Operand.const (Value.bool true))) none []]
def l7r3 : List AOper :=
  [AOper.mk (some 13) (AOp.mv (Operand.tmp 0)) none [],
              AOper.mk (some 14) (AOp.call 11 [Operand.tmp 13]) none [0],
              AOper.mk (some 15) (AOp.call 22 [Operand.tmp 14]) none [1, 1],
              AOper.mk (some 3) (AOp.mv (Operand.tmp 15)) none [2, 2, 0, 1, 2]]
def l7r4 : List AOper :=
  [AOper.mk (some 16) (AOp.mv (Operand.tmp 0)) none [],
                AOper.mk (some 17) (AOp.call 11 [Operand.tmp 16]) none [0],
                AOper.mk (some 4) (AOp.mv (Operand.tmp 17)) none [1, 1, 0, 1]]
def l7r5 : List AOper :=
  [AOper.mk (some 18) (AOp.mv (Operand.tmp 4)) none [],
                  AOper.mk (some 19) (AOp.call 23 [Operand.tmp 18]) none [0],
                  AOper.mk (some 5) (AOp.mv (Operand.tmp 19)) none [1, 1, 0, 1]]
def l7r6 : List AOper :=
  [AOper.mk (some 20) (AOp.mv (Operand.tmp 5)) none [],
                      AOper.mk (some 21) (AOp.mv (Operand.tmp 3)) none [],
                      AOper.mk (some 22) (AOp.call 13 [Operand.tmp 20, Operand.tmp 21]) none [0, 1],
                      AOper.mk (some 23) (AOp.un UnOp.not (Operand.tmp 22)) none [2]]
def l7r7 : List AOper :=
  [AOper.mk (some 2) (AOp.mv (Operand.const (Value.bool false))) none []]
def l7r8 : List AOper :=
  [AOper.mk (some 24) (AOp.mv (Operand.tmp 4)) none [],
                        AOper.mk (some 25) (AOp.mv (Operand.tmp 0)) none [],
                        AOper.mk (some 26) (AOp.call 11 [Operand.tmp 25]) none [1],
                        AOper.mk (some 27) (AOp.call 13 [Operand.tmp 24, Operand.tmp 26]) none [0, 2, 2],
                        AOper.mk (some 28) (AOp.un UnOp.not (Operand.tmp 27)) none [3]]
def l7r9 : List AOper :=
  [AOper.mk (some 2) (AOp.mv (Operand.const (Value.bool false))) none []]
def l7r10 : List AOper :=
  [AOper.mk (some 6) (AOp.mv (Operand.const (Value.int IntKind.i64 1))) none []]
def l7r11 : List AOper :=
  [AOper.mk (some 29) (AOp.mv (Operand.tmp 4)) none [],
                          AOper.mk (some 30) (AOp.mv (Operand.tmp 6)) none [],
                          AOper.mk (some 31) (AOp.call 18 [Operand.tmp 29, Operand.tmp 30]) none [0, 1],
                          AOper.mk (some 6) (AOp.mv (Operand.tmp 31)) none [2, 2, 0, 1, 2]]
def l7r12 : List AOper :=
  [AOper.mk (some 32) (AOp.mv (Operand.tmp 6)) none [],
                              AOper.mk (some 33)
                                (AOp.bin BinOp.lss (Operand.tmp 32)
                                  (Operand.const (Value.int IntKind.i64 0)))
                                none [0],
                              AOper.mk (some 34) (AOp.mv (Operand.tmp 33)) none [1],
                              AOper.mk (some 35) (AOp.mv (Operand.tmp 5)) (some (34, false)) [2],
                              AOper.mk (some 36) (AOp.mv (Operand.tmp 3)) (some (34, false)) [2],
                              AOper.mk (some 37) (AOp.call 13 [Operand.tmp 35, Operand.tmp 36]) (some (34, false))
                                [3, 4, 2, 2],
                              AOper.mk (some 38) (AOp.un UnOp.not (Operand.tmp 37)) (some (34, false)) [5, 2],
                              AOper.mk (some 39)
                                (AOp.pick (Operand.tmp 34) (Operand.const (Value.bool true)) (Operand.tmp 38)) none
                                [2, 6]]
def l7r13 : List AOper :=
  [AOper.mk (some 2) (AOp.mv (Operand.const (Value.bool false))) none []]
def l7r14 : List AOper :=
  [AOper.mk (some 7) (AOp.mv (Operand.const (Value.int IntKind.i64 1))) none []]
def l7r15 : List AOper :=
  [AOper.mk (some 40) (AOp.mv (Operand.tmp 5)) none [],
                                AOper.mk (some 41) (AOp.mv (Operand.tmp 7)) none [],
                                AOper.mk (some 42) (AOp.call 18 [Operand.tmp 40, Operand.tmp 41]) none [0, 1],
                                AOper.mk (some 7) (AOp.mv (Operand.tmp 42)) none [2, 2, 0, 1, 2]]
def l7r16 : List AOper :=
  [AOper.mk (some 8) (AOp.mv (Operand.const (Value.int IntKind.i64 1))) none
                                    []]
def l7r17 : List AOper :=
  [AOper.mk (some 43) (AOp.mv (Operand.tmp 5)) none [],
                                    AOper.mk (some 44) (AOp.mv (Operand.tmp 8)) none [],
                                    AOper.mk (some 45) (AOp.call 19 [Operand.tmp 43, Operand.tmp 44]) none [0, 1],
                                    AOper.mk (some 8) (AOp.mv (Operand.tmp 45)) none [2, 2, 0, 1, 2]]
def l7r18 : List AOper :=
  [AOper.mk (some 46) (AOp.mv (Operand.tmp 8)) none [],
                                        AOper.mk (some 47)
                                          (AOp.bin BinOp.lss (Operand.tmp 46)
                                            (Operand.const (Value.int IntKind.i64 0)))
                                          none [0]]
def l7r19 : List AOper :=
  [AOper.mk (some 2) (AOp.mv (Operand.const (Value.bool false))) none []]
def l7r20 : List AOper :=
  [AOper.mk (some 48) (AOp.mv (Operand.tmp 8)) none [],
                                          AOper.mk (some 49) (AOp.mv (Operand.tmp 7)) none [],
                                          AOper.mk (some 50) (AOp.bin BinOp.neq (Operand.tmp 48) (Operand.tmp 49)) none
                                            [0, 1]]
def l7r21 : List AOper :=
  [AOper.mk (some 2) (AOp.mv (Operand.const (Value.bool false))) none []]
def l7r22 : List AOper :=
  [AOper.mk (some 51) (AOp.mv (Operand.tmp 0)) none [],
                                          AOper.mk (some 52) (AOp.call 11 [Operand.tmp 51]) none [0],
                                          AOper.mk (some 53) (AOp.call 23 [Operand.tmp 52]) none [1, 1],
                                          AOper.mk (some 9) (AOp.mv (Operand.tmp 53)) none [2, 2, 0, 1, 2]]
def l7r23 : List AOper :=
  [AOper.mk (some 54) (AOp.mv (Operand.tmp 9)) none [],
                                              AOper.mk (some 55) (AOp.mv (Operand.tmp 3)) none [],
                                              AOper.mk (some 56) (AOp.call 13 [Operand.tmp 54, Operand.tmp 55]) none
                                                [0, 1],
                                              AOper.mk (some 57) (AOp.un UnOp.not (Operand.tmp 56)) none [2]]
def l7r24 : List AOper :=
  [AOper.mk (some 2) (AOp.mv (Operand.const (Value.bool false))) none []]
def l7r25 : List AOper :=
  [AOper.mk (some 8)
                                                (AOp.mv (Operand.const (Value.int IntKind.i64 1))) none []]
def l7r26 : List AOper :=
  [AOper.mk (some 58) (AOp.mv (Operand.tmp 5)) none [],
                                                AOper.mk (some 59) (AOp.mv (Operand.tmp 8)) none [],
                                                AOper.mk (some 60) (AOp.call 19 [Operand.tmp 58, Operand.tmp 59]) none
                                                  [0, 1],
                                                AOper.mk (some 8) (AOp.mv (Operand.tmp 60)) none [2, 2, 0, 1, 2]]
def l7r27 : List AOper :=
  [AOper.mk (some 61) (AOp.mv (Operand.tmp 8)) none [],
                                                    AOper.mk (some 62)
                                                      (AOp.bin BinOp.lss (Operand.tmp 61)
                                                        (Operand.const (Value.int IntKind.i64 0)))
                                                      none [0]]
def l7r28 : List AOper :=
  [AOper.mk (some 2) (AOp.mv (Operand.const (Value.bool false)))
                                                          none []]
def l7r29 : List AOper :=
  [AOper.mk (some 63) (AOp.mv (Operand.tmp 8)) none [],
                                                      AOper.mk (some 64) (AOp.mv (Operand.tmp 7)) none [],
                                                      AOper.mk (some 65)
                                                        (AOp.bin BinOp.neq (Operand.tmp 63) (Operand.tmp 64)) none
                                                        [0, 1]]
def l7r30 : List AOper :=
  [AOper.mk (some 2) (AOp.mv (Operand.const (Value.bool false)))
                                                            none []]
def l7r31 : List AOper :=
  [AOper.mk (some 2) (AOp.mv (Operand.const (Value.bool true))) none
                                                        []]
def l7 : AFn :=
  (AFn.mk 66 1
    (ACode.seq (ACode.reg l7r0)
      (ACode.seq
        (ACode.seq
          (ACode.reg l7r1)
          (ACode.cond (Operand.tmp 12)
            (ACode.seq (ACode.reg l7r2) ACode.ret)
            ACode.skip))
        (ACode.seq
          (ACode.reg l7r3)
          (ACode.seq
            (ACode.reg l7r4)
            (ACode.seq
              (ACode.reg l7r5)
              (ACode.seq
                (ACode.seq
                  (ACode.reg l7r6)
                  (ACode.cond (Operand.tmp 23)
                    (ACode.seq (ACode.reg l7r7)
                      ACode.ret)
                    ACode.skip))
                (ACode.seq
                  (ACode.seq
                    (ACode.reg l7r8)
                    (ACode.cond (Operand.tmp 28)
                      (ACode.seq (ACode.reg l7r9)
                        ACode.ret)
                      ACode.skip))
                  (ACode.seq
                    (ACode.reg l7r10)
                    (ACode.seq
                      (ACode.reg l7r11)
                      (ACode.seq
                        (ACode.seq
                          (ACode.reg l7r12)
                          (ACode.cond (Operand.tmp 39)
                            (ACode.seq
                              (ACode.reg l7r13)
                              ACode.ret)
                            ACode.skip))
                        (ACode.seq
                          (ACode.reg l7r14)
                          (ACode.seq
                            (ACode.reg l7r15)
                            (ACode.seq
                              (ACode.reg l7r16)
                              (ACode.seq
                                (ACode.reg l7r17)
                                (ACode.seq
                                  (ACode.seq
                                    (ACode.reg l7r18)
                                    (ACode.cond (Operand.tmp 47)
                                      (ACode.seq
                                        (ACode.reg l7r19)
                                        ACode.ret)
                                      ACode.skip))
                                  (ACode.seq
                                    (ACode.seq
                                      (ACode.reg l7r20)
                                      (ACode.cond (Operand.tmp 50)
                                        (ACode.seq
                                          (ACode.reg l7r21)
                                          ACode.ret)
                                        ACode.skip))
                                    (ACode.seq
                                      (ACode.reg l7r22)
                                      (ACode.seq
                                        (ACode.seq
                                          (ACode.reg l7r23)
                                          (ACode.cond (Operand.tmp 57)
                                            (ACode.seq
                                              (ACode.reg l7r24)
                                              ACode.ret)
                                            ACode.skip))
                                        (ACode.seq
                                          (ACode.reg l7r25)
                                          (ACode.seq
                                            (ACode.reg l7r26)
                                            (ACode.seq
                                              (ACode.seq
                                                (ACode.reg l7r27)
                                                (ACode.cond (Operand.tmp 62)
                                                  (ACode.seq
                                                    (ACode.reg l7r28)
                                                    ACode.ret)
                                                  ACode.skip))
                                              (ACode.seq
                                                (ACode.seq
                                                  (ACode.reg l7r29)
                                                  (ACode.cond (Operand.tmp 65)
                                                    (ACode.seq
                                                      (ACode.reg l7r30)
                                                      ACode.ret)
                                                    ACode.skip))
                                                (ACode.seq
                                                  (ACode.reg l7r31)
                                                  ACode.ret)))))))))))))))))))))))
    [ARes.tmp 2])
theorem l7_eq : lowFn Try.prog 7 = some l7 := by kernel_rfl
def l8r0 : List AOper :=
  [AOper.mk (some 2) (AOp.mv (Operand.const (Value.bool false))) none []]
def l8r1 : List AOper :=
  [AOper.mk (some 10) (AOp.mv (Operand.tmp 0)) none [],
              AOper.mk (some 11) (AOp.len (Operand.tmp 10)) none [0],
              AOper.mk (some 12)
                (AOp.bin BinOp.gtr (Operand.tmp 11) (Operand.const (Value.int IntKind.i64 1048576))) none
                [1]]
def l8r2 : List AOper :=
  [AOper.mk (some 2) (AOp.mv (Operand.const (Value.bool true))) none []]
def l8r3 : List AOper :=
  [AOper.mk (some 13) (AOp.mv (Operand.tmp 0)) none [],
              AOper.mk (some 14) (AOp.call 11 [Operand.tmp 13]) none [0],
              AOper.mk (some 15) (AOp.call 24 [Operand.tmp 14]) none [1, 1],
              AOper.mk (some 3) (AOp.mv (Operand.tmp 15)) none [2, 2, 0, 1, 2]]
def l8r4 : List AOper :=
  [AOper.mk (some 16) (AOp.mv (Operand.tmp 0)) none [],
                AOper.mk (some 17) (AOp.call 11 [Operand.tmp 16]) none [0],
                AOper.mk (some 4) (AOp.mv (Operand.tmp 17)) none [1, 1, 0, 1]]
def l8r5 : List AOper :=
  [AOper.mk (some 18) (AOp.mv (Operand.tmp 4)) none [],
                  AOper.mk (some 19) (AOp.call 25 [Operand.tmp 18]) none [0],
                  AOper.mk (some 5) (AOp.mv (Operand.tmp 19)) none [1, 1, 0, 1]]
def l8r6 : List AOper :=
  [AOper.mk (some 20) (AOp.mv (Operand.tmp 5)) none [],
                      AOper.mk (some 21) (AOp.mv (Operand.tmp 3)) none [],
                      AOper.mk (some 22) (AOp.call 13 [Operand.tmp 20, Operand.tmp 21]) none [0, 1],
                      AOper.mk (some 23) (AOp.un UnOp.not (Operand.tmp 22)) none [2]]
def l8r7 : List AOper :=
  [AOper.mk (some 2) (AOp.mv (Operand.const (Value.bool false))) none []]
def l8r8 : List AOper :=
  [AOper.mk (some 24) (AOp.mv (Operand.tmp 4)) none [],
                        AOper.mk (some 25) (AOp.mv (Operand.tmp 0)) none [],
                        AOper.mk (some 26) (AOp.call 11 [Operand.tmp 25]) none [1],
                        AOper.mk (some 27) (AOp.call 13 [Operand.tmp 24, Operand.tmp 26]) none [0, 2, 2],
                        AOper.mk (some 28) (AOp.un UnOp.not (Operand.tmp 27)) none [3]]
def l8r9 : List AOper :=
  [AOper.mk (some 2) (AOp.mv (Operand.const (Value.bool false))) none []]
def l8r10 : List AOper :=
  [AOper.mk (some 6) (AOp.mv (Operand.const (Value.int IntKind.i64 1))) none []]
def l8r11 : List AOper :=
  [AOper.mk (some 29) (AOp.mv (Operand.tmp 4)) none [],
                          AOper.mk (some 30) (AOp.mv (Operand.tmp 6)) none [],
                          AOper.mk (some 31) (AOp.call 18 [Operand.tmp 29, Operand.tmp 30]) none [0, 1],
                          AOper.mk (some 6) (AOp.mv (Operand.tmp 31)) none [2, 2, 0, 1, 2]]
def l8r12 : List AOper :=
  [AOper.mk (some 32) (AOp.mv (Operand.tmp 6)) none [],
                              AOper.mk (some 33)
                                (AOp.bin BinOp.lss (Operand.tmp 32)
                                  (Operand.const (Value.int IntKind.i64 0)))
                                none [0],
                              AOper.mk (some 34) (AOp.mv (Operand.tmp 33)) none [1],
                              AOper.mk (some 35) (AOp.mv (Operand.tmp 5)) (some (34, false)) [2],
                              AOper.mk (some 36) (AOp.mv (Operand.tmp 3)) (some (34, false)) [2],
                              AOper.mk (some 37) (AOp.call 13 [Operand.tmp 35, Operand.tmp 36]) (some (34, false))
                                [3, 4, 2, 2],
                              AOper.mk (some 38) (AOp.un UnOp.not (Operand.tmp 37)) (some (34, false)) [5, 2],
                              AOper.mk (some 39)
                                (AOp.pick (Operand.tmp 34) (Operand.const (Value.bool true)) (Operand.tmp 38)) none
                                [2, 6]]
def l8r13 : List AOper :=
  [AOper.mk (some 2) (AOp.mv (Operand.const (Value.bool false))) none []]
def l8r14 : List AOper :=
  [AOper.mk (some 7) (AOp.mv (Operand.const (Value.int IntKind.i64 1))) none []]
def l8r15 : List AOper :=
  [AOper.mk (some 40) (AOp.mv (Operand.tmp 5)) none [],
                                AOper.mk (some 41) (AOp.mv (Operand.tmp 7)) none [],
                                AOper.mk (some 42) (AOp.call 18 [Operand.tmp 40, Operand.tmp 41]) none [0, 1],
                                AOper.mk (some 7) (AOp.mv (Operand.tmp 42)) none [2, 2, 0, 1, 2]]
def l8r16 : List AOper :=
  [AOper.mk (some 8) (AOp.mv (Operand.const (Value.int IntKind.i64 1))) none
                                    []]
def l8r17 : List AOper :=
  [AOper.mk (some 43) (AOp.mv (Operand.tmp 5)) none [],
                                    AOper.mk (some 44) (AOp.mv (Operand.tmp 8)) none [],
                                    AOper.mk (some 45) (AOp.call 19 [Operand.tmp 43, Operand.tmp 44]) none [0, 1],
                                    AOper.mk (some 8) (AOp.mv (Operand.tmp 45)) none [2, 2, 0, 1, 2]]
def l8r18 : List AOper :=
  [AOper.mk (some 46) (AOp.mv (Operand.tmp 8)) none [],
                                        AOper.mk (some 47)
                                          (AOp.bin BinOp.lss (Operand.tmp 46)
                                            (Operand.const (Value.int IntKind.i64 0)))
                                          none [0]]
def l8r19 : List AOper :=
  [AOper.mk (some 2) (AOp.mv (Operand.const (Value.bool false))) none []]
def l8r20 : List AOper :=
  [AOper.mk (some 48) (AOp.mv (Operand.tmp 8)) none [],
                                          AOper.mk (some 49) (AOp.mv (Operand.tmp 7)) none [],
                                          AOper.mk (some 50) (AOp.bin BinOp.neq (Operand.tmp 48) (Operand.tmp 49)) none
                                            [0, 1]]
def l8r21 : List AOper :=
  [AOper.mk (some 2) (AOp.mv (Operand.const (Value.bool false))) none []]
def l8r22 : List AOper :=
  [AOper.mk (some 51) (AOp.mv (Operand.tmp 0)) none [],
                                          AOper.mk (some 52) (AOp.call 11 [Operand.tmp 51]) none [0],
                                          AOper.mk (some 53) (AOp.call 25 [Operand.tmp 52]) none [1, 1],
                                          AOper.mk (some 9) (AOp.mv (Operand.tmp 53)) none [2, 2, 0, 1, 2]]
def l8r23 : List AOper :=
  [AOper.mk (some 54) (AOp.mv (Operand.tmp 9)) none [],
                                              AOper.mk (some 55) (AOp.mv (Operand.tmp 3)) none [],
                                              AOper.mk (some 56) (AOp.call 13 [Operand.tmp 54, Operand.tmp 55]) none
                                                [0, 1],
                                              AOper.mk (some 57) (AOp.un UnOp.not (Operand.tmp 56)) none [2]]
def l8r24 : List AOper :=
  [AOper.mk (some 2) (AOp.mv (Operand.const (Value.bool false))) none []]
def l8r25 : List AOper :=
  [AOper.mk (some 8)
                                                (AOp.mv (Operand.const (Value.int IntKind.i64 1))) none []]
def l8r26 : List AOper :=
  [AOper.mk (some 58) (AOp.mv (Operand.tmp 5)) none [],
                                                AOper.mk (some 59) (AOp.mv (Operand.tmp 8)) none [],
                                                AOper.mk (some 60) (AOp.call 19 [Operand.tmp 58, Operand.tmp 59]) none
                                                  [0, 1],
                                                AOper.mk (some 8) (AOp.mv (Operand.tmp 60)) none [2, 2, 0, 1, 2]]
def l8r27 : List AOper :=
  [AOper.mk (some 61) (AOp.mv (Operand.tmp 8)) none [],
                                                    AOper.mk (some 62)
                                                      (AOp.bin BinOp.lss (Operand.tmp 61)
                                                        (Operand.const (Value.int IntKind.i64 0)))
                                                      none [0]]
def l8r28 : List AOper :=
  [AOper.mk (some 2) (AOp.mv (Operand.const (Value.bool false)))
                                                          none []]
def l8r29 : List AOper :=
  [AOper.mk (some 63) (AOp.mv (Operand.tmp 8)) none [],
                                                      AOper.mk (some 64) (AOp.mv (Operand.tmp 7)) none [],
                                                      AOper.mk (some 65)
                                                        (AOp.bin BinOp.neq (Operand.tmp 63) (Operand.tmp 64)) none
                                                        [0, 1]]
def l8r30 : List AOper :=
  [AOper.mk (some 2) (AOp.mv (Operand.const (Value.bool false)))
                                                            none []]
def l8r31 : List AOper :=
  [AOper.mk (some 2) (AOp.mv (Operand.const (Value.bool true))) none
                                                        []]
def l8 : AFn :=
  (AFn.mk 66 1
    (ACode.seq (ACode.reg l8r0)
      (ACode.seq
        (ACode.seq
          (ACode.reg l8r1)
          (ACode.cond (Operand.tmp 12)
            (ACode.seq (ACode.reg l8r2) ACode.ret)
            ACode.skip))
        (ACode.seq
          (ACode.reg l8r3)
          (ACode.seq
            (ACode.reg l8r4)
            (ACode.seq
              (ACode.reg l8r5)
              (ACode.seq
                (ACode.seq
                  (ACode.reg l8r6)
                  (ACode.cond (Operand.tmp 23)
                    (ACode.seq (ACode.reg l8r7)
                      ACode.ret)
                    ACode.skip))
                (ACode.seq
                  (ACode.seq
                    (ACode.reg l8r8)
                    (ACode.cond (Operand.tmp 28)
                      (ACode.seq (ACode.reg l8r9)
                        ACode.ret)
                      ACode.skip))
                  (ACode.seq
                    (ACode.reg l8r10)
                    (ACode.seq
                      (ACode.reg l8r11)
                      (ACode.seq
                        (ACode.seq
                          (ACode.reg l8r12)
                          (ACode.cond (Operand.tmp 39)
                            (ACode.seq
                              (ACode.reg l8r13)
                              ACode.ret)
                            ACode.skip))
                        (ACode.seq
                          (ACode.reg l8r14)
                          (ACode.seq
                            (ACode.reg l8r15)
                            (ACode.seq
                              (ACode.reg l8r16)
                              (ACode.seq
                                (ACode.reg l8r17)
                                (ACode.seq
                                  (ACode.seq
                                    (ACode.reg l8r18)
                                    (ACode.cond (Operand.tmp 47)
                                      (ACode.seq
                                        (ACode.reg l8r19)
                                        ACode.ret)
                                      ACode.skip))
                                  (ACode.seq
                                    (ACode.seq
                                      (ACode.reg l8r20)
                                      (ACode.cond (Operand.tmp 50)
                                        (ACode.seq
                                          (ACode.reg l8r21)
                                          ACode.ret)
                                        ACode.skip))
                                    (ACode.seq
                                      (ACode.reg l8r22)
                                      (ACode.seq
                                        (ACode.seq
                                          (ACode.reg l8r23)
                                          (ACode.cond (Operand.tmp 57)
                                            (ACode.seq
                                              (ACode.reg l8r24)
                                              ACode.ret)
                                            ACode.skip))
                                        (ACode.seq
                                          (ACode.reg l8r25)
                                          (ACode.seq
                                            (ACode.reg l8r26)
                                            (ACode.seq
                                              (ACode.seq
                                                (ACode.reg l8r27)
                                                (ACode.cond (Operand.tmp 62)
                                                  (ACode.seq
                                                    (ACode.reg l8r28)
                                                    ACode.ret)
                                                  ACode.skip))
                                              (ACode.seq
                                                (ACode.seq
                                                  (ACode.reg l8r29)
                                                  (ACode.cond (Operand.tmp 65)
                                                    (ACode.seq
                                                      (ACode.reg l8r30)
                                                      ACode.ret)
                                                    ACode.skip))
                                                (ACode.seq
                                                  (ACode.reg l8r31)
                                                  ACode.ret)))))))))))))))))))))))
    [ARes.tmp 2])
theorem l8_eq : lowFn Try.prog 8 = some l8 := by kernel_rfl
def l9r0 : List AOper :=
  [AOper.mk (some 2) (AOp.mv (Operand.const (Value.bool false))) none []]
def l9r1 : List AOper :=
  [AOper.mk (some 10) (AOp.mv (Operand.tmp 0)) none [],
              AOper.mk (some 11) (AOp.len (Operand.tmp 10)) none [0],
              AOper.mk (some 12)
                (AOp.bin BinOp.gtr (Operand.tmp 11) (Operand.const (Value.int IntKind.i64 1048576))) none
                [1]]
def l9r2 : List AOper :=
  [AOper.mk (some 2) (AOp.mv (Operand.const (Value.bool true))) none []]
def l9r3 : List AOper :=
  [AOper.mk (some 13) (AOp.mv (Operand.tmp 0)) none [],
              AOper.mk (some 14) (AOp.call 11 [Operand.tmp 13]) none [0],
              AOper.mk (some 15) (AOp.call 26 [Operand.tmp 14]) none [1, 1],
              AOper.mk (some 3)
                (AOp.alloc [Value.int IntKind.i64 0, Value.slice none 0 0, Value.slice none 0 0]) none [],
              AOper.mk none (AOp.store 3 (Operand.tmp 3) (Operand.tmp 15)) none [3, 2, 2, 0, 1, 2, 3]]
def l9r4 : List AOper :=
  [AOper.mk (some 16) (AOp.mv (Operand.tmp 0)) none [],
                AOper.mk (some 17) (AOp.call 11 [Operand.tmp 16]) none [0],
                AOper.mk (some 4) (AOp.mv (Operand.tmp 17)) none [1, 1, 0, 1]]
def l9r5 : List AOper :=
  [AOper.mk (some 18) (AOp.mv (Operand.tmp 4)) none [],
                  AOper.mk (some 19) (AOp.call 27 [Operand.tmp 18]) none [0],
                  AOper.mk (some 5)
                    (AOp.alloc [Value.int IntKind.i64 0, Value.slice none 0 0, Value.slice none 0 0]) none
                    [],
                  AOper.mk none (AOp.store 3 (Operand.tmp 5) (Operand.tmp 19)) none [2, 1, 1, 0, 1, 2]]
def l9r6 : List AOper :=
  [AOper.mk (some 20) (AOp.load true 3 (Operand.tmp 5)) none [],
                      AOper.mk (some 21) (AOp.load true 3 (Operand.tmp 3)) none [],
                      AOper.mk (some 22) (AOp.call 28 [Operand.tmp 20, Operand.tmp 21]) none [0, 1],
                      AOper.mk (some 23) (AOp.un UnOp.not (Operand.tmp 22)) none [2]]
def l9r7 : List AOper :=
  [AOper.mk (some 2) (AOp.mv (Operand.const (Value.bool false))) none []]
def l9r8 : List AOper :=
  [AOper.mk (some 24) (AOp.mv (Operand.tmp 4)) none [],
                        AOper.mk (some 25) (AOp.mv (Operand.tmp 0)) none [],
                        AOper.mk (some 26) (AOp.call 11 [Operand.tmp 25]) none [1],
                        AOper.mk (some 27) (AOp.call 13 [Operand.tmp 24, Operand.tmp 26]) none [0, 2, 2],
                        AOper.mk (some 28) (AOp.un UnOp.not (Operand.tmp 27)) none [3]]
def l9r9 : List AOper :=
  [AOper.mk (some 2) (AOp.mv (Operand.const (Value.bool false))) none []]
def l9r10 : List AOper :=
  [AOper.mk (some 6) (AOp.mv (Operand.const (Value.int IntKind.i64 1))) none []]
def l9r11 : List AOper :=
  [AOper.mk (some 29) (AOp.mv (Operand.tmp 4)) none [],
                          AOper.mk (some 30) (AOp.mv (Operand.tmp 6)) none [],
                          AOper.mk (some 31) (AOp.call 18 [Operand.tmp 29, Operand.tmp 30]) none [0, 1],
                          AOper.mk (some 6) (AOp.mv (Operand.tmp 31)) none [2, 2, 0, 1, 2]]
def l9r12 : List AOper :=
  [AOper.mk (some 32) (AOp.mv (Operand.tmp 6)) none [],
                              AOper.mk (some 33)
                                (AOp.bin BinOp.lss (Operand.tmp 32)
                                  (Operand.const (Value.int IntKind.i64 0)))
                                none [0],
                              AOper.mk (some 34) (AOp.mv (Operand.tmp 33)) none [1],
                              AOper.mk (some 35) (AOp.load true 3 (Operand.tmp 5)) (some (34, false)) [2],
                              AOper.mk (some 36) (AOp.load true 3 (Operand.tmp 3)) (some (34, false)) [2],
                              AOper.mk (some 37) (AOp.call 28 [Operand.tmp 35, Operand.tmp 36]) (some (34, false))
                                [3, 4, 2, 2],
                              AOper.mk (some 38) (AOp.un UnOp.not (Operand.tmp 37)) (some (34, false)) [5, 2],
                              AOper.mk (some 39)
                                (AOp.pick (Operand.tmp 34) (Operand.const (Value.bool true)) (Operand.tmp 38)) none
                                [2, 6]]
def l9r13 : List AOper :=
  [AOper.mk (some 2) (AOp.mv (Operand.const (Value.bool false))) none []]
def l9r14 : List AOper :=
  [AOper.mk (some 7) (AOp.mv (Operand.const (Value.int IntKind.i64 1))) none []]
def l9r15 : List AOper :=
  [AOper.mk (some 40) (AOp.load true 3 (Operand.tmp 5)) none [],
                                AOper.mk (some 41) (AOp.mv (Operand.tmp 7)) none [],
                                AOper.mk (some 42) (AOp.call 29 [Operand.tmp 40, Operand.tmp 41]) none [0, 1],
                                AOper.mk (some 7) (AOp.mv (Operand.tmp 42)) none [2, 2, 0, 1, 2]]
def l9r16 : List AOper :=
  [AOper.mk (some 8) (AOp.mv (Operand.const (Value.int IntKind.i64 1))) none
                                    []]
def l9r17 : List AOper :=
  [AOper.mk (some 43) (AOp.load true 3 (Operand.tmp 5)) none [],
                                    AOper.mk (some 44) (AOp.mv (Operand.tmp 8)) none [],
                                    AOper.mk (some 45) (AOp.call 30 [Operand.tmp 43, Operand.tmp 44]) none [0, 1],
                                    AOper.mk (some 8) (AOp.mv (Operand.tmp 45)) none [2, 2, 0, 1, 2]]
def l9r18 : List AOper :=
  [AOper.mk (some 46) (AOp.mv (Operand.tmp 8)) none [],
                                        AOper.mk (some 47)
                                          (AOp.bin BinOp.lss (Operand.tmp 46)
                                            (Operand.const (Value.int IntKind.i64 0)))
                                          none [0]]
def l9r19 : List AOper :=
  [AOper.mk (some 2) (AOp.mv (Operand.const (Value.bool false))) none []]
def l9r20 : List AOper :=
  [AOper.mk (some 48) (AOp.mv (Operand.tmp 8)) none [],
                                          AOper.mk (some 49) (AOp.mv (Operand.tmp 7)) none [],
                                          AOper.mk (some 50) (AOp.bin BinOp.neq (Operand.tmp 48) (Operand.tmp 49)) none
                                            [0, 1]]
def l9r21 : List AOper :=
  [AOper.mk (some 2) (AOp.mv (Operand.const (Value.bool false))) none []]
def l9r22 : List AOper :=
  [AOper.mk (some 51) (AOp.mv (Operand.tmp 0)) none [],
                                          AOper.mk (some 52) (AOp.call 11 [Operand.tmp 51]) none [0],
                                          AOper.mk (some 53) (AOp.call 27 [Operand.tmp 52]) none [1, 1],
                                          AOper.mk (some 9)
                                            (AOp.alloc
                                              [Value.int IntKind.i64 0, Value.slice none 0 0,
                                                Value.slice none 0 0])
                                            none [],
                                          AOper.mk none (AOp.store 3 (Operand.tmp 9) (Operand.tmp 53)) none
                                            [3, 2, 2, 0, 1, 2, 3]]
def l9r23 : List AOper :=
  [AOper.mk (some 54) (AOp.load true 3 (Operand.tmp 9)) none [],
                                              AOper.mk (some 55) (AOp.load true 3 (Operand.tmp 3)) none [],
                                              AOper.mk (some 56) (AOp.call 28 [Operand.tmp 54, Operand.tmp 55]) none
                                                [0, 1],
                                              AOper.mk (some 57) (AOp.un UnOp.not (Operand.tmp 56)) none [2]]
def l9r24 : List AOper :=
  [AOper.mk (some 2) (AOp.mv (Operand.const (Value.bool false))) none []]
def l9r25 : List AOper :=
  [AOper.mk (some 8)
                                                (AOp.mv (Operand.const (Value.int IntKind.i64 1))) none []]
def l9r26 : List AOper :=
  [AOper.mk (some 58) (AOp.load true 3 (Operand.tmp 5)) none [],
                                                AOper.mk (some 59) (AOp.mv (Operand.tmp 8)) none [],
                                                AOper.mk (some 60) (AOp.call 30 [Operand.tmp 58, Operand.tmp 59]) none
                                                  [0, 1],
                                                AOper.mk (some 8) (AOp.mv (Operand.tmp 60)) none [2, 2, 0, 1, 2]]
def l9r27 : List AOper :=
  [AOper.mk (some 61) (AOp.mv (Operand.tmp 8)) none [],
                                                    AOper.mk (some 62)
                                                      (AOp.bin BinOp.lss (Operand.tmp 61)
                                                        (Operand.const (Value.int IntKind.i64 0)))
                                                      none [0]]
def l9r28 : List AOper :=
  [AOper.mk (some 2) (AOp.mv (Operand.const (Value.bool false)))
                                                          none []]
def l9r29 : List AOper :=
  [AOper.mk (some 63) (AOp.mv (Operand.tmp 8)) none [],
                                                      AOper.mk (some 64) (AOp.mv (Operand.tmp 7)) none [],
                                                      AOper.mk (some 65)
                                                        (AOp.bin BinOp.neq (Operand.tmp 63) (Operand.tmp 64)) none
                                                        [0, 1]]
def l9r30 : List AOper :=
  [AOper.mk (some 2) (AOp.mv (Operand.const (Value.bool false)))
                                                            none []]
def l9r31 : List AOper :=
  [AOper.mk (some 2) (AOp.mv (Operand.const (Value.bool true))) none
                                                        []]
def l9 : AFn :=
  (AFn.mk 66 1
    (ACode.seq (ACode.reg l9r0)
      (ACode.seq
        (ACode.seq
          (ACode.reg l9r1)
          (ACode.cond (Operand.tmp 12)
            (ACode.seq (ACode.reg l9r2) ACode.ret)
            ACode.skip))
        (ACode.seq
          (ACode.reg l9r3)
          (ACode.seq
            (ACode.reg l9r4)
            (ACode.seq
              (ACode.reg l9r5)
              (ACode.seq
                (ACode.seq
                  (ACode.reg l9r6)
                  (ACode.cond (Operand.tmp 23)
                    (ACode.seq (ACode.reg l9r7)
                      ACode.ret)
                    ACode.skip))
                (ACode.seq
                  (ACode.seq
                    (ACode.reg l9r8)
                    (ACode.cond (Operand.tmp 28)
                      (ACode.seq (ACode.reg l9r9)
                        ACode.ret)
                      ACode.skip))
                  (ACode.seq
                    (ACode.reg l9r10)
                    (ACode.seq
                      (ACode.reg l9r11)
                      (ACode.seq
                        (ACode.seq
                          (ACode.reg l9r12)
                          (ACode.cond (Operand.tmp 39)
                            (ACode.seq
                              (ACode.reg l9r13)
                              ACode.ret)
                            ACode.skip))
                        (ACode.seq
                          (ACode.reg l9r14)
                          (ACode.seq
                            (ACode.reg l9r15)
                            (ACode.seq
                              (ACode.reg l9r16)
                              (ACode.seq
                                (ACode.reg l9r17)
                                (ACode.seq
                                  (ACode.seq
                                    (ACode.reg l9r18)
                                    (ACode.cond (Operand.tmp 47)
                                      (ACode.seq
                                        (ACode.reg l9r19)
                                        ACode.ret)
                                      ACode.skip))
                                  (ACode.seq
                                    (ACode.seq
                                      (ACode.reg l9r20)
                                      (ACode.cond (Operand.tmp 50)
                                        (ACode.seq
                                          (ACode.reg l9r21)
                                          ACode.ret)
                                        ACode.skip))
                                    (ACode.seq
                                      (ACode.reg l9r22)
                                      (ACode.seq
                                        (ACode.seq
                                          (ACode.reg l9r23)
                                          (ACode.cond (Operand.tmp 57)
                                            (ACode.seq
                                              (ACode.reg l9r24)
                                              ACode.ret)
                                            ACode.skip))
                                        (ACode.seq
                                          (ACode.reg l9r25)
                                          (ACode.seq
                                            (ACode.reg l9r26)
                                            (ACode.seq
                                              (ACode.seq
                                                (ACode.reg l9r27)
                                                (ACode.cond (Operand.tmp 62)
                                                  (ACode.seq
                                                    (ACode.reg l9r28)
                                                    ACode.ret)
                                                  ACode.skip))
                                              (ACode.seq
                                                (ACode.seq
                                                  (ACode.reg l9r29)
                                                  (ACode.cond (Operand.tmp 65)
                                                    (ACode.seq
                                                      (ACode.reg l9r30)
                                                      ACode.ret)
                                                    ACode.skip))
                                                (ACode.seq
                                                  (ACode.reg l9r31)
                                                  ACode.ret)))))))))))))))))))))))
    [ARes.tmp 2])
theorem l9_eq : lowFn Try.prog 9 = some l9 := by kernel_rfl
def l10r0 : List AOper :=
  [AOper.mk (some 2) (AOp.mv (Operand.const (Value.bool false))) none []]
def l10r1 : List AOper :=
  [AOper.mk (some 3) (AOp.mv (Operand.tmp 0)) none [], AOper.mk (some 4) (AOp.call 31 [Operand.tmp 3]) none [0],
            AOper.mk (some 2) (AOp.mv (Operand.tmp 4)) none [1, 1, 0, 1]]
def l10 : AFn :=
  (AFn.mk 5 1
    (ACode.seq (ACode.reg l10r0)
      (ACode.seq
        (ACode.reg l10r1)
        ACode.ret))
    [ARes.tmp 2])
theorem l10_eq : lowFn Try.prog 10 = some l10 := by kernel_rfl
def l11r0 : List AOper :=
  [AOper.mk (some 2) (AOp.mv (Operand.const (Value.slice none 0 0))) none []]
def l11r1 : List AOper :=
  [AOper.mk (some 5) (AOp.mv (Operand.tmp 0)) none [], AOper.mk (some 6) (AOp.len (Operand.tmp 5)) none [0],
            AOper.mk (some 7) (AOp.mkslice 1 [Value.int IntKind.i64 0] (Operand.tmp 6) (Operand.tmp 6)) none
              [1, 1],
            AOper.mk (some 3) (AOp.mv (Operand.tmp 7)) none [2, 0, 1, 2]]
def l11r2 : List AOper :=
  [AOper.mk (some 4) (AOp.mv (Operand.const (Value.int IntKind.i64 0))) none []]
def l11r3 : List AOper :=
  [AOper.mk (some 8) (AOp.mv (Operand.tmp 4)) none [],
                        AOper.mk (some 9) (AOp.mv (Operand.tmp 0)) none [],
                        AOper.mk (some 10) (AOp.len (Operand.tmp 9)) none [1],
                        AOper.mk (some 11) (AOp.bin BinOp.lss (Operand.tmp 8) (Operand.tmp 10)) none [0, 2]]
def l11r4 : List AOper :=
  [AOper.mk (some 14) (AOp.mv (Operand.tmp 3)) none [],
                          AOper.mk (some 15) (AOp.mv (Operand.tmp 4)) none [],
                          AOper.mk (some 16) (AOp.mv (Operand.tmp 0)) none [],
                          AOper.mk (some 17) (AOp.mv (Operand.tmp 4)) none [],
                          AOper.mk (some 18) (AOp.idxA 1 (Operand.tmp 16) (Operand.tmp 17)) none [2, 3],
                          AOper.mk (some 19) (AOp.load false 1 (Operand.tmp 18)) none [4],
                          AOper.mk (some 20) (AOp.idxA 1 (Operand.tmp 14) (Operand.tmp 15)) none
                            [0, 1, 0, 1, 2, 3, 4, 5],
                          AOper.mk none (AOp.store 1 (Operand.tmp 20) (Operand.tmp 19)) none [6, 5, 0, 1, 2, 3, 4, 5]]
def l11r5 : List AOper :=
  [AOper.mk (some 12) (AOp.mv (Operand.tmp 4)) none [],
                        AOper.mk (some 13)
                          (AOp.bin BinOp.add (Operand.tmp 12) (Operand.const (Value.int IntKind.i64 1)))
                          none [0],
                        AOper.mk (some 4) (AOp.mv (Operand.tmp 13)) none [1, 0, 1]]
def l11r6 : List AOper :=
  [AOper.mk (some 21) (AOp.mv (Operand.tmp 3)) none [],
                AOper.mk (some 2) (AOp.mv (Operand.tmp 21)) none [0, 0]]
def l11 : AFn :=
  (AFn.mk 22 1
    (ACode.seq (ACode.reg l11r0)
      (ACode.seq
        (ACode.reg l11r1)
        (ACode.seq
          (ACode.seq
            (ACode.reg l11r2)
            (ACode.block 0
              (ACode.loop
                (ACode.seq
                  (ACode.seq
                    (ACode.reg l11r3)
                    (ACode.cond (Operand.tmp 11) ACode.skip (ACode.exit 0)))
                  (ACode.seq
                    (ACode.block 1
                      (ACode.reg l11r4))
                    (ACode.reg l11r5))))))
          (ACode.seq
            (ACode.reg l11r6)
            ACode.ret))))
    [ARes.tmp 2])
theorem l11_eq : lowFn Try.prog 11 = some l11 := by kernel_rfl
def l12r0 : List AOper :=
  [AOper.mk (some 2) (AOp.mv (Operand.const (Value.bool false))) none []]
def l12r1 : List AOper :=
  [AOper.mk (some 5) (AOp.mv (Operand.tmp 0)) none [], AOper.mk (some 6) (AOp.len (Operand.tmp 5)) none [0],
              AOper.mk (some 7)
                (AOp.bin BinOp.gtr (Operand.tmp 6) (Operand.const (Value.int IntKind.i64 4))) none [1]]
def l12r2 : List AOper :=
  [AOper.mk (some 2) (AOp.mv (Operand.const (Value.bool false))) none []]
def l12r3 : List AOper :=
  [AOper.mk (some 8) (AOp.mv (Operand.tmp 0)) none [], AOper.mk (some 9) (AOp.len (Operand.tmp 8)) none [0],
                AOper.mk (some 10) (AOp.mv (Operand.const (Value.int IntKind.i64 0))) none []]
def l12r4 : List AOper :=
  [AOper.mk (some 11) (AOp.bin BinOp.lss (Operand.tmp 10) (Operand.tmp 9)) none []]
def l12r5 : List AOper :=
  [AOper.mk (some 12) (AOp.idxA 1 (Operand.tmp 8) (Operand.tmp 10)) none [],
                              AOper.mk (some 13) (AOp.load false 1 (Operand.tmp 12)) none [0],
                              AOper.mk (some 4) (AOp.mv (Operand.tmp 13)) none [1, 0, 1]]
def l12r6 : List AOper :=
  [AOper.mk (some 14) (AOp.mv (Operand.tmp 4)) none [],
                                AOper.mk (some 15)
                                  (AOp.call 32 [Operand.tmp 14, Operand.const (Value.int IntKind.i64 60)])
                                  none [0],
                                AOper.mk (some 16) (AOp.un UnOp.not (Operand.tmp 15)) none [1]]
def l12r7 : List AOper :=
  [AOper.mk (some 2) (AOp.mv (Operand.const (Value.bool false))) none []]
def l12r8 : List AOper :=
  [AOper.mk (some 17)
                            (AOp.bin BinOp.add (Operand.tmp 10) (Operand.const (Value.int IntKind.i64 1)))
                            none [],
                          AOper.mk (some 10) (AOp.mv (Operand.tmp 17)) none [0]]
def l12r9 : List AOper :=
  [AOper.mk (some 18) (AOp.mv (Operand.tmp 0)) none [],
                AOper.mk (some 19) (AOp.call 33 [Operand.tmp 18]) none [0],
                AOper.mk (some 20)
                  (AOp.bin BinOp.leq (Operand.tmp 19) (Operand.const (Value.int IntKind.i64 60))) none [1],
                AOper.mk (some 2) (AOp.mv (Operand.tmp 20)) none [2, 1, 0, 1, 2]]
def l12 : AFn :=
  (AFn.mk 21 1
    (ACode.seq (ACode.reg l12r0)
      (ACode.seq
        (ACode.seq
          (ACode.reg l12r1)
          (ACode.cond (Operand.tmp 7)
            (ACode.seq (ACode.reg l12r2) ACode.ret)
            ACode.skip))
        (ACode.seq
          (ACode.seq
            (ACode.reg l12r3)
            (ACode.block 0
              (ACode.loop
                (ACode.seq (ACode.reg l12r4)
                  (ACode.seq (ACode.cond (Operand.tmp 11) ACode.skip (ACode.exit 0))
                    (ACode.seq
                      (ACode.block 1
                        (ACode.seq
                          (ACode.reg l12r5)
                          (ACode.seq
                            (ACode.reg l12r6)
                            (ACode.cond (Operand.tmp 16)
                              (ACode.seq
                                (ACode.reg l12r7)
                                ACode.ret)
                              ACode.skip))))
                      (ACode.reg l12r8)))))))
          (ACode.seq
            (ACode.reg l12r9)
            ACode.ret))))
    [ARes.tmp 2])
theorem l12_eq : lowFn Try.prog 12 = some l12 := by kernel_rfl
def l13r0 : List AOper :=
  [AOper.mk (some 4) (AOp.mv (Operand.const (Value.bool false))) none []]
def l13r1 : List AOper :=
  [AOper.mk (some 6) (AOp.mv (Operand.tmp 0)) none [], AOper.mk (some 7) (AOp.len (Operand.tmp 6)) none [0],
              AOper.mk (some 8) (AOp.mv (Operand.tmp 1)) none [], AOper.mk (some 9) (AOp.len (Operand.tmp 8)) none [2],
              AOper.mk (some 10) (AOp.bin BinOp.neq (Operand.tmp 7) (Operand.tmp 9)) none [1, 3]]
def l13r2 : List AOper :=
  [AOper.mk (some 4) (AOp.mv (Operand.const (Value.bool false))) none []]
def l13r3 : List AOper :=
  [AOper.mk (some 5) (AOp.mv (Operand.const (Value.int IntKind.i64 0))) none []]
def l13r4 : List AOper :=
  [AOper.mk (some 11) (AOp.mv (Operand.tmp 5)) none [],
                        AOper.mk (some 12) (AOp.mv (Operand.tmp 0)) none [],
                        AOper.mk (some 13) (AOp.len (Operand.tmp 12)) none [1],
                        AOper.mk (some 14) (AOp.bin BinOp.lss (Operand.tmp 11) (Operand.tmp 13)) none [0, 2]]
def l13r5a : List AOper :=
  [AOper.mk (some 17) (AOp.mv (Operand.tmp 0)) none [], AOper.mk (some 18) (AOp.mv (Operand.tmp 5)) none [], AOper.mk (some 19) (AOp.idxA 1 (Operand.tmp 17) (Operand.tmp 18)) none [0, 1], AOper.mk (some 20) (AOp.load false 1 (Operand.tmp 19)) none [2], AOper.mk (some 21) (AOp.mv (Operand.tmp 1)) none [], AOper.mk (some 22) (AOp.mv (Operand.tmp 5)) none [], AOper.mk (some 23) (AOp.idxA 1 (Operand.tmp 21) (Operand.tmp 22)) none [4, 5], AOper.mk (some 24) (AOp.load false 1 (Operand.tmp 23)) none [6]]
def l13r5b : List AOper :=
  [AOper.mk (some 25) (AOp.bin BinOp.neq (Operand.tmp 20) (Operand.tmp 24)) none [3, 7]]
def l13r5 : List AOper := l13r5a ++ l13r5b
def l13r6 : List AOper :=
  [AOper.mk (some 4) (AOp.mv (Operand.const (Value.bool false))) none []]
def l13r7 : List AOper :=
  [AOper.mk (some 15) (AOp.mv (Operand.tmp 5)) none [],
                        AOper.mk (some 16)
                          (AOp.bin BinOp.add (Operand.tmp 15) (Operand.const (Value.int IntKind.i64 1)))
                          none [0],
                        AOper.mk (some 5) (AOp.mv (Operand.tmp 16)) none [1, 0, 1]]
def l13r8 : List AOper :=
  [AOper.mk (some 4) (AOp.mv (Operand.const (Value.bool true))) none []]
def l13 : AFn :=
  (AFn.mk 26 2
    (ACode.seq (ACode.reg l13r0)
      (ACode.seq
        (ACode.seq
          (ACode.reg l13r1)
          (ACode.cond (Operand.tmp 10)
            (ACode.seq (ACode.reg l13r2) ACode.ret)
            ACode.skip))
        (ACode.seq
          (ACode.seq
            (ACode.reg l13r3)
            (ACode.block 0
              (ACode.loop
                (ACode.seq
                  (ACode.seq
                    (ACode.reg l13r4)
                    (ACode.cond (Operand.tmp 14) ACode.skip (ACode.exit 0)))
                  (ACode.seq
                    (ACode.block 1
                      (ACode.seq
                        (ACode.draw l13r5)
                        (ACode.cond (Operand.tmp 25)
                          (ACode.seq (ACode.reg l13r6)
                            ACode.ret)
                          ACode.skip)))
                    (ACode.reg l13r7))))))
          (ACode.seq (ACode.reg l13r8) ACode.ret))))
    [ARes.tmp 4])
theorem l13_eq : lowFn Try.prog 13 = some l13 := by kernel_rfl
def l14r0 : List AOper :=
  [AOper.mk (some 2) (AOp.mv (Operand.const (Value.int IntKind.i64 0))) none []]
def l14r1 : List AOper :=
  [AOper.mk (some 3) (AOp.mv (Operand.tmp 0)) none [],
              AOper.mk (some 4) (AOp.call 31 [Operand.tmp 3]) none [0],
              AOper.mk (some 5) (AOp.un UnOp.not (Operand.tmp 4)) none [1]]
def l14r2 : List AOper :=
  [AOper.mk (some 2) (AOp.mv (Operand.const (Value.int IntKind.i64 (-1)))) none []]
def l14r3 : List AOper :=
  [AOper.mk (some 6) (AOp.mv (Operand.tmp 0)) none [],
              AOper.mk (some 7) (AOp.call 34 [Operand.tmp 6]) none [0],
              AOper.mk (some 2) (AOp.mv (Operand.tmp 7)) none [1, 1, 0, 1]]
def l14 : AFn :=
  (AFn.mk 8 1
    (ACode.seq (ACode.reg l14r0)
      (ACode.seq
        (ACode.seq
          (ACode.reg l14r1)
          (ACode.cond (Operand.tmp 5)
            (ACode.seq
              (ACode.reg l14r2)
              ACode.ret)
            ACode.skip))
        (ACode.seq
          (ACode.reg l14r3)
          ACode.ret)))
    [ARes.tmp 2])
theorem l14_eq : lowFn Try.prog 14 = some l14 := by kernel_rfl
def l15r0 : List AOper :=
  [AOper.mk (some 2) (AOp.mv (Operand.const (Value.int IntKind.i64 0))) none []]
def l15r1 : List AOper :=
  [AOper.mk (some 3) (AOp.mv (Operand.tmp 0)) none [],
              AOper.mk (some 4) (AOp.call 12 [Operand.tmp 3]) none [0],
              AOper.mk (some 5) (AOp.un UnOp.not (Operand.tmp 4)) none [1]]
def l15r2 : List AOper :=
  [AOper.mk (some 2) (AOp.mv (Operand.const (Value.int IntKind.i64 (-1)))) none []]
def l15r3 : List AOper :=
  [AOper.mk (some 6) (AOp.mv (Operand.tmp 0)) none [],
              AOper.mk (some 7) (AOp.call 33 [Operand.tmp 6]) none [0],
              AOper.mk (some 2) (AOp.mv (Operand.tmp 7)) none [1, 1, 0, 1]]
def l15 : AFn :=
  (AFn.mk 8 1
    (ACode.seq (ACode.reg l15r0)
      (ACode.seq
        (ACode.seq
          (ACode.reg l15r1)
          (ACode.cond (Operand.tmp 5)
            (ACode.seq
              (ACode.reg l15r2)
              ACode.ret)
            ACode.skip))
        (ACode.seq
          (ACode.reg l15r3)
          ACode.ret)))
    [ARes.tmp 2])
theorem l15_eq : lowFn Try.prog 15 = some l15 := by kernel_rfl
def l16r0 : List AOper :=
  [AOper.mk (some 4) (AOp.mv (Operand.const (Value.slice none 0 0))) none []]
def l16r1 : List AOper :=
  [AOper.mk (some 5) (AOp.mv (Operand.tmp 0)) none [],
              AOper.mk (some 6) (AOp.call 31 [Operand.tmp 5]) none [0],
              AOper.mk (some 7) (AOp.un UnOp.not (Operand.tmp 6)) none [1],
              AOper.mk (some 8) (AOp.mv (Operand.tmp 7)) none [2, 1],
              AOper.mk (some 9) (AOp.mv (Operand.tmp 1)) (some (8, false)) [3],
              AOper.mk (some 10) (AOp.mv (Operand.tmp 0)) (some (8, false)) [3],
              AOper.mk (some 11) (AOp.call 34 [Operand.tmp 10]) (some (8, false)) [5, 3, 3],
              AOper.mk (some 12)
                (AOp.bin BinOp.sub (Operand.tmp 11) (Operand.const (Value.int IntKind.i64 1)))
                (some (8, false)) [6, 3],
              AOper.mk (some 13)
                (AOp.call 35 [Operand.tmp 9, Operand.const (Value.int IntKind.i64 0), Operand.tmp 12])
                (some (8, false)) [4, 7, 6, 3],
              AOper.mk (some 14) (AOp.un UnOp.not (Operand.tmp 13)) (some (8, false)) [8, 3],
              AOper.mk (some 15) (AOp.pick (Operand.tmp 8) (Operand.const (Value.bool true)) (Operand.tmp 14)) none
                [3, 9]]
def l16r2 : List AOper :=
  [AOper.mk (some 4) (AOp.mv (Operand.const (Value.slice none 0 0))) none []]
def l16r3 : List AOper :=
  [AOper.mk (some 16) (AOp.mv (Operand.tmp 0)) none [], AOper.mk (some 17) (AOp.mv (Operand.tmp 1)) none [],
              AOper.mk (some 18) (AOp.call 36 [Operand.tmp 16, Operand.tmp 17]) none [0, 1],
              AOper.mk (some 4) (AOp.mv (Operand.tmp 18)) none [2, 2, 0, 1, 2]]
def l16 : AFn :=
  (AFn.mk 19 2
    (ACode.seq (ACode.reg l16r0)
      (ACode.seq
        (ACode.seq
          (ACode.reg l16r1)
          (ACode.cond (Operand.tmp 15)
            (ACode.seq (ACode.reg l16r2)
              ACode.ret)
            ACode.skip))
        (ACode.seq
          (ACode.reg l16r3)
          ACode.ret)))
    [ARes.tmp 4])
theorem l16_eq : lowFn Try.prog 16 = some l16 := by kernel_rfl
def l17r0 : List AOper :=
  [AOper.mk (some 4) (AOp.mv (Operand.const (Value.slice none 0 0))) none []]
def l17r1 : List AOper :=
  [AOper.mk (some 6) (AOp.mv (Operand.tmp 0)) none [],
              AOper.mk (some 7) (AOp.call 12 [Operand.tmp 6]) none [0],
              AOper.mk (some 8) (AOp.un UnOp.not (Operand.tmp 7)) none [1],
              AOper.mk (some 9) (AOp.mv (Operand.tmp 8)) none [2, 1],
              AOper.mk (some 10) (AOp.mv (Operand.tmp 1)) (some (9, false)) [3],
              AOper.mk (some 11) (AOp.mv (Operand.tmp 0)) (some (9, false)) [3],
              AOper.mk (some 12) (AOp.call 33 [Operand.tmp 11]) (some (9, false)) [5, 3, 3],
              AOper.mk (some 13)
                (AOp.bin BinOp.sub (Operand.tmp 12) (Operand.const (Value.int IntKind.i64 1)))
                (some (9, false)) [6, 3],
              AOper.mk (some 14) (AOp.call 32 [Operand.tmp 10, Operand.tmp 13]) (some (9, false)) [4, 7, 6, 3],
              AOper.mk (some 15) (AOp.un UnOp.not (Operand.tmp 14)) (some (9, false)) [8, 3],
              AOper.mk (some 16) (AOp.pick (Operand.tmp 9) (Operand.const (Value.bool true)) (Operand.tmp 15)) none
                [3, 9]]
def l17r2 : List AOper :=
  [AOper.mk (some 4) (AOp.mv (Operand.const (Value.slice none 0 0))) none []]
def l17r3 : List AOper :=
  [AOper.mk (some 17) (AOp.mv (Operand.tmp 0)) none [], AOper.mk (some 18) (AOp.mv (Operand.tmp 1)) none [],
              AOper.mk (some 19) (AOp.call 37 [Operand.tmp 17, Operand.tmp 18]) none [0, 1],
              AOper.mk (some 5)
                (AOp.alloc
                  [Value.int IntKind.i64 0, Value.int IntKind.i64 0,
                    Value.int IntKind.i64 0, Value.int IntKind.i64 0])
                none [],
              AOper.mk none (AOp.store 4 (Operand.tmp 5) (Operand.tmp 19)) none [3, 2, 2, 0, 1, 2, 3]]
def l17r4 : List AOper :=
  [AOper.mk (some 20) (AOp.mv (Operand.tmp 0)) none [],
                AOper.mk (some 21) (AOp.len (Operand.tmp 20)) none [0],
                AOper.mk (some 22) (AOp.sliceP 1 4 (Operand.tmp 5) none (some (Operand.tmp 21))) none [1],
                AOper.mk (some 23) (AOp.call 38 [Operand.tmp 22]) none [2],
                AOper.mk (some 4) (AOp.mv (Operand.tmp 23)) none [3, 3, 0, 1, 2, 3]]
def l17 : AFn :=
  (AFn.mk 24 2
    (ACode.seq (ACode.reg l17r0)
      (ACode.seq
        (ACode.seq
          (ACode.reg l17r1)
          (ACode.cond (Operand.tmp 16)
            (ACode.seq (ACode.reg l17r2)
              ACode.ret)
            ACode.skip))
        (ACode.seq
          (ACode.reg l17r3)
          (ACode.seq
            (ACode.reg l17r4)
            ACode.ret))))
    [ARes.tmp 4])
theorem l17_eq : lowFn Try.prog 17 = some l17 := by kernel_rfl
def l18r0 : List AOper :=
  [AOper.mk (some 4) (AOp.mv (Operand.const (Value.int IntKind.i64 0))) none []]
def l18r1 : List AOper :=
  [AOper.mk (some 5) (AOp.mv (Operand.const (Value.int IntKind.i64 0))) none []]
def l18r2 : List AOper :=
  [AOper.mk (some 6) (AOp.mv (Operand.tmp 5)) none [],
                      AOper.mk (some 7) (AOp.mv (Operand.tmp 0)) none [],
                      AOper.mk (some 8) (AOp.len (Operand.tmp 7)) none [1],
                      AOper.mk (some 9) (AOp.bin BinOp.lss (Operand.tmp 6) (Operand.tmp 8)) none [0, 2]]
def l18r3 : List AOper :=
  [AOper.mk (some 12) (AOp.mv (Operand.tmp 0)) none [],
                          AOper.mk (some 13) (AOp.mv (Operand.tmp 5)) none [],
                          AOper.mk (some 14) (AOp.mv (Operand.tmp 1)) none [],
                          AOper.mk (some 15) (AOp.idxA 1 (Operand.tmp 12) (Operand.tmp 13)) none [0, 1, 0, 1, 2],
                          AOper.mk none (AOp.store 1 (Operand.tmp 15) (Operand.tmp 14)) none [3, 2, 0, 1, 2]]
def l18r4 : List AOper :=
  [AOper.mk (some 16) (AOp.mv (Operand.tmp 1)) none [],
                          AOper.mk (some 17)
                            (AOp.bin BinOp.add (Operand.tmp 16) (Operand.const (Value.int IntKind.i64 1)))
                            none [0],
                          AOper.mk (some 1) (AOp.mv (Operand.tmp 17)) none [1, 0, 1]]
def l18r5 : List AOper :=
  [AOper.mk (some 10) (AOp.mv (Operand.tmp 5)) none [],
                      AOper.mk (some 11)
                        (AOp.bin BinOp.add (Operand.tmp 10) (Operand.const (Value.int IntKind.i64 1))) none
                        [0],
                      AOper.mk (some 5) (AOp.mv (Operand.tmp 11)) none [1, 0, 1]]
def l18r6 : List AOper :=
  [AOper.mk (some 18) (AOp.mv (Operand.tmp 1)) none [],
              AOper.mk (some 4) (AOp.mv (Operand.tmp 18)) none [0, 0]]
def l18 : AFn :=
  (AFn.mk 19 2
    (ACode.seq (ACode.reg l18r0)
      (ACode.seq
        (ACode.seq
          (ACode.reg l18r1)
          (ACode.block 0
            (ACode.loop
              (ACode.seq
                (ACode.seq
                  (ACode.reg l18r2)
                  (ACode.cond (Operand.tmp 9) ACode.skip (ACode.exit 0)))
                (ACode.seq
                  (ACode.block 1
                    (ACode.seq
                      (ACode.reg l18r3)
                      (ACode.reg l18r4)))
                  (ACode.reg l18r5))))))
        (ACode.seq
          (ACode.reg l18r6)
          ACode.ret)))
    [ARes.tmp 4])
theorem l18_eq : lowFn Try.prog 18 = some l18 := by kernel_rfl
def l19r0 : List AOper :=
  [AOper.mk (some 4) (AOp.mv (Operand.const (Value.int IntKind.i64 0))) none []]
def l19r1 : List AOper :=
  [AOper.mk (some 5) (AOp.mv (Operand.const (Value.int IntKind.i64 0))) none []]
def l19r2 : List AOper :=
  [AOper.mk (some 6) (AOp.mv (Operand.tmp 5)) none [],
                      AOper.mk (some 7) (AOp.mv (Operand.tmp 0)) none [],
                      AOper.mk (some 8) (AOp.len (Operand.tmp 7)) none [1],
                      AOper.mk (some 9) (AOp.bin BinOp.lss (Operand.tmp 6) (Operand.tmp 8)) none [0, 2]]
def l19r3 : List AOper :=
  [AOper.mk (some 12) (AOp.mv (Operand.tmp 0)) none [],
                            AOper.mk (some 13) (AOp.mv (Operand.tmp 5)) none [],
                            AOper.mk (some 14) (AOp.idxA 1 (Operand.tmp 12) (Operand.tmp 13)) none [0, 1],
                            AOper.mk (some 15) (AOp.load false 1 (Operand.tmp 14)) none [2],
                            AOper.mk (some 16) (AOp.mv (Operand.tmp 1)) none [],
                            AOper.mk (some 17) (AOp.bin BinOp.neq (Operand.tmp 15) (Operand.tmp 16)) none [3, 4]]
def l19r4 : List AOper :=
  [AOper.mk (some 4) (AOp.mv (Operand.const (Value.int IntKind.i64 (-1)))) none
                                  []]
def l19r5 : List AOper :=
  [AOper.mk (some 18) (AOp.mv (Operand.tmp 1)) none [],
                          AOper.mk (some 19)
                            (AOp.bin BinOp.add (Operand.tmp 18) (Operand.const (Value.int IntKind.i64 1)))
                            none [0],
                          AOper.mk (some 1) (AOp.mv (Operand.tmp 19)) none [1, 0, 1]]
def l19r6 : List AOper :=
  [AOper.mk (some 10) (AOp.mv (Operand.tmp 5)) none [],
                      AOper.mk (some 11)
                        (AOp.bin BinOp.add (Operand.tmp 10) (Operand.const (Value.int IntKind.i64 1))) none
                        [0],
                      AOper.mk (some 5) (AOp.mv (Operand.tmp 11)) none [1, 0, 1]]
def l19r7 : List AOper :=
  [AOper.mk (some 20) (AOp.mv (Operand.tmp 1)) none [],
              AOper.mk (some 4) (AOp.mv (Operand.tmp 20)) none [0, 0]]
def l19 : AFn :=
  (AFn.mk 21 2
    (ACode.seq (ACode.reg l19r0)
      (ACode.seq
        (ACode.seq
          (ACode.reg l19r1)
          (ACode.block 0
            (ACode.loop
              (ACode.seq
                (ACode.seq
                  (ACode.reg l19r2)
                  (ACode.cond (Operand.tmp 9) ACode.skip (ACode.exit 0)))
                (ACode.seq
                  (ACode.block 1
                    (ACode.seq
                      (ACode.seq
                        (ACode.reg l19r3)
                        (ACode.cond (Operand.tmp 17)
                          (ACode.seq
                            (ACode.reg l19r4)
                            ACode.ret)
                          ACode.skip))
                      (ACode.reg l19r5)))
                  (ACode.reg l19r6))))))
        (ACode.seq
          (ACode.reg l19r7)
          ACode.ret)))
    [ARes.tmp 4])
theorem l19_eq : lowFn Try.prog 19 = some l19 := by kernel_rfl
def l20r0 : List AOper :=
  [AOper.mk (some 4) (AOp.mv (Operand.const (Value.int IntKind.i64 0))) none []]
def l20r1 : List AOper :=
  [AOper.mk (some 5) (AOp.mv (Operand.tmp 0)) none [],
              AOper.mk (some 6) (AOp.call 31 [Operand.tmp 5]) none [0],
              AOper.mk (some 7) (AOp.un UnOp.not (Operand.tmp 6)) none [1],
              AOper.mk (some 8) (AOp.mv (Operand.tmp 7)) none [2, 1],
              AOper.mk (some 9) (AOp.mv (Operand.tmp 0)) (some (8, false)) [3],
              AOper.mk (some 10) (AOp.mv (Operand.tmp 1)) (some (8, false)) [3],
              AOper.mk (some 11) (AOp.call 39 [Operand.tmp 9, Operand.tmp 10]) (some (8, false)) [4, 5, 3, 3],
              AOper.mk (some 12) (AOp.un UnOp.not (Operand.tmp 11)) (some (8, false)) [6, 3],
              AOper.mk (some 13) (AOp.pick (Operand.tmp 8) (Operand.const (Value.bool true)) (Operand.tmp 12)) none
                [3, 7]]
def l20r2 : List AOper :=
  [AOper.mk (some 4) (AOp.mv (Operand.const (Value.int IntKind.i64 (-1)))) none []]
def l20r3 : List AOper :=
  [AOper.mk (some 14) (AOp.mv (Operand.tmp 0)) none [], AOper.mk (some 15) (AOp.mv (Operand.tmp 1)) none [],
              AOper.mk (some 16) (AOp.call 40 [Operand.tmp 14, Operand.tmp 15]) none [0, 1],
              AOper.mk (some 4) (AOp.mv (Operand.tmp 16)) none [2, 2, 0, 1, 2]]
def l20 : AFn :=
  (AFn.mk 17 2
    (ACode.seq (ACode.reg l20r0)
      (ACode.seq
        (ACode.seq
          (ACode.reg l20r1)
          (ACode.cond (Operand.tmp 13)
            (ACode.seq
              (ACode.reg l20r2)
              ACode.ret)
            ACode.skip))
        (ACode.seq
          (ACode.reg l20r3)
          ACode.ret)))
    [ARes.tmp 4])
theorem l20_eq : lowFn Try.prog 20 = some l20 := by kernel_rfl
def l21r0 : List AOper :=
  [AOper.mk (some 4) (AOp.mv (Operand.const (Value.int IntKind.i64 0))) none []]
def l21r1 : List AOper :=
  [AOper.mk (some 7) (AOp.mv (Operand.tmp 0)) none [],
              AOper.mk (some 8) (AOp.call 12 [Operand.tmp 7]) none [0],
              AOper.mk (some 9) (AOp.un UnOp.not (Operand.tmp 8)) none [1]]
def l21r2 : List AOper :=
  [AOper.mk (some 4) (AOp.mv (Operand.const (Value.int IntKind.i64 (-1)))) none []]
def l21r3 : List AOper :=
  [AOper.mk (some 11) (AOp.mv (Operand.tmp 0)) none [], AOper.mk (some 12) (AOp.mv (Operand.tmp 1)) none [],
              AOper.mk (some 13) (AOp.call 41 [Operand.tmp 11, Operand.tmp 12]) none [0, 1],
              AOper.mk (some 10) (AOp.mv (Operand.tmp 13)) none [2],
              AOper.mk (some 14) (AOp.extract (Operand.tmp 10) 0) none [3],
              AOper.mk (some 15) (AOp.extract (Operand.tmp 10) 1) none [3],
              AOper.mk (some 5)
                (AOp.alloc
                  [Value.int IntKind.i64 0, Value.int IntKind.i64 0,
                    Value.int IntKind.i64 0, Value.int IntKind.i64 0])
                none [],
              AOper.mk none (AOp.store 4 (Operand.tmp 5) (Operand.tmp 14)) none [6, 4, 2, 0, 1, 2, 3, 4, 6],
              AOper.mk (some 6) (AOp.mv (Operand.tmp 15)) none [5, 7, 0, 1, 2, 3, 4, 5, 6, 7]]
def l21r4 : List AOper :=
  [AOper.mk (some 16) (AOp.mv (Operand.tmp 6)) none [],
                  AOper.mk (some 17) (AOp.un UnOp.not (Operand.tmp 16)) none [0]]
def l21r5 : List AOper :=
  [AOper.mk (some 4) (AOp.mv (Operand.const (Value.int IntKind.i64 (-1)))) none []]
def l21r6a : List AOper :=
  [AOper.mk (some 18) (AOp.load true 4 (Operand.tmp 5)) none [], AOper.mk (some 19) (AOp.mv (Operand.tmp 0)) none [], AOper.mk (some 20) (AOp.call 23 [Operand.tmp 19]) none [1]]
def l21r6b : List AOper :=
  [AOper.mk (some 21) (AOp.call 42 [Operand.tmp 18, Operand.tmp 20]) none [0, 2, 2], AOper.mk (some 4) (AOp.mv (Operand.tmp 21)) none [3, 3, 0, 1, 2, 3]]
def l21r6 : List AOper := l21r6a ++ l21r6b
def l21 : AFn :=
  (AFn.mk 22 2
    (ACode.seq (ACode.reg l21r0)
      (ACode.seq
        (ACode.seq
          (ACode.reg l21r1)
          (ACode.cond (Operand.tmp 9)
            (ACode.seq
              (ACode.reg l21r2)
              ACode.ret)
            ACode.skip))
        (ACode.seq
          (ACode.reg l21r3)
          (ACode.seq
            (ACode.seq
              (ACode.reg l21r4)
              (ACode.cond (Operand.tmp 17)
                (ACode.seq
                  (ACode.reg l21r5)
                  ACode.ret)
                ACode.skip))
            (ACode.seq
              (ACode.draw l21r6)
              ACode.ret)))))
    [ARes.tmp 4])
theorem l21_eq : lowFn Try.prog 21 = some l21 := by kernel_rfl
def l22r0 : List AOper :=
  [AOper.mk (some 2) (AOp.mv (Operand.const (Value.slice none 0 0))) none []]
def l22r1 : List AOper :=
  [AOper.mk (some 3) (AOp.mv (Operand.tmp 0)) none [],
              AOper.mk (some 4) (AOp.call 31 [Operand.tmp 3]) none [0],
              AOper.mk (some 5) (AOp.un UnOp.not (Operand.tmp 4)) none [1]]
def l22r2 : List AOper :=
  [AOper.mk (some 2) (AOp.mv (Operand.const (Value.slice none 0 0))) none []]
def l22r3 : List AOper :=
  [AOper.mk (some 6) (AOp.mv (Operand.tmp 0)) none [],
              AOper.mk (some 7) (AOp.call 43 [Operand.tmp 6]) none [0],
              AOper.mk (some 2) (AOp.mv (Operand.tmp 7)) none [1, 1, 0, 1]]
def l22 : AFn :=
  (AFn.mk 8 1
    (ACode.seq (ACode.reg l22r0)
      (ACode.seq
        (ACode.seq
          (ACode.reg l22r1)
          (ACode.cond (Operand.tmp 5)
            (ACode.seq (ACode.reg l22r2)
              ACode.ret)
            ACode.skip))
        (ACode.seq
          (ACode.reg l22r3)
          ACode.ret)))
    [ARes.tmp 2])
theorem l22_eq : lowFn Try.prog 22 = some l22 := by kernel_rfl
def l23r0 : List AOper :=
  [AOper.mk (some 2) (AOp.mv (Operand.const (Value.slice none 0 0))) none []]
def l23r1 : List AOper :=
  [AOper.mk (some 5) (AOp.mv (Operand.tmp 0)) none [],
              AOper.mk (some 6) (AOp.call 12 [Operand.tmp 5]) none [0],
              AOper.mk (some 7) (AOp.un UnOp.not (Operand.tmp 6)) none [1]]
def l23r2 : List AOper :=
  [AOper.mk (some 2) (AOp.mv (Operand.const (Value.slice none 0 0))) none []]
def l23r3 : List AOper :=
  [AOper.mk (some 8) (AOp.mv (Operand.tmp 0)) none [], AOper.mk (some 9) (AOp.len (Operand.tmp 8)) none [0],
              AOper.mk (some 10) (AOp.mkslice 1 [Value.int IntKind.i64 0] (Operand.tmp 9) (Operand.tmp 9))
                none [1, 1],
              AOper.mk (some 3) (AOp.mv (Operand.tmp 10)) none [2, 0, 1, 2]]
def l23r4 : List AOper :=
  [AOper.mk (some 11) (AOp.mv (Operand.tmp 3)) none [],
                  AOper.mk (some 12) (AOp.len (Operand.tmp 11)) none [0],
                  AOper.mk (some 13) (AOp.mv (Operand.const (Value.int IntKind.i64 0))) none []]
def l23r5 : List AOper :=
  [AOper.mk (some 14) (AOp.bin BinOp.lss (Operand.tmp 13) (Operand.tmp 12)) none []]
def l23r6 : List AOper :=
  [AOper.mk (some 15) (AOp.mv (Operand.tmp 13)) none [],
                                AOper.mk (some 4) (AOp.mv (Operand.tmp 15)) none [0, 0]]
def l23r7 : List AOper :=
  [AOper.mk (some 16) (AOp.mv (Operand.tmp 3)) none [],
                                AOper.mk (some 17) (AOp.mv (Operand.tmp 4)) none [],
                                AOper.mk (some 18) (AOp.mv (Operand.tmp 0)) none [],
                                AOper.mk (some 19) (AOp.mv (Operand.tmp 4)) none [],
                                AOper.mk (some 20)
                                  (AOp.bin BinOp.add (Operand.tmp 19)
                                    (Operand.const (Value.int IntKind.i64 1)))
                                  none [3],
                                AOper.mk (some 21) (AOp.slice 1 (Operand.tmp 18) (some (Operand.tmp 20)) none) none
                                  [2, 4],
                                AOper.mk (some 22) (AOp.call 33 [Operand.tmp 21]) none [5],
                                AOper.mk (some 23) (AOp.idxA 1 (Operand.tmp 16) (Operand.tmp 17)) none
                                  [0, 1, 0, 1, 2, 3, 4, 5, 6],
                                AOper.mk none (AOp.store 1 (Operand.tmp 23) (Operand.tmp 22)) none
                                  [7, 6, 6, 0, 1, 2, 3, 4, 5, 6]]
def l23r8 : List AOper :=
  [AOper.mk (some 24)
                              (AOp.bin BinOp.add (Operand.tmp 13) (Operand.const (Value.int IntKind.i64 1)))
                              none [],
                            AOper.mk (some 13) (AOp.mv (Operand.tmp 24)) none [0]]
def l23r9 : List AOper :=
  [AOper.mk (some 25) (AOp.mv (Operand.tmp 3)) none [],
                  AOper.mk (some 2) (AOp.mv (Operand.tmp 25)) none [0, 0]]
def l23 : AFn :=
  (AFn.mk 26 1
    (ACode.seq (ACode.reg l23r0)
      (ACode.seq
        (ACode.seq
          (ACode.reg l23r1)
          (ACode.cond (Operand.tmp 7)
            (ACode.seq (ACode.reg l23r2)
              ACode.ret)
            ACode.skip))
        (ACode.seq
          (ACode.reg l23r3)
          (ACode.seq
            (ACode.seq
              (ACode.reg l23r4)
              (ACode.block 0
                (ACode.loop
                  (ACode.seq
                    (ACode.reg l23r5)
                    (ACode.seq (ACode.cond (Operand.tmp 14) ACode.skip (ACode.exit 0))
                      (ACode.seq
                        (ACode.block 1
                          (ACode.seq
                            (ACode.reg l23r6)
                            (ACode.reg l23r7)))
                        (ACode.reg l23r8)))))))
            (ACode.seq
              (ACode.reg l23r9)
              ACode.ret)))))
    [ARes.tmp 2])
theorem l23_eq : lowFn Try.prog 23 = some l23 := by kernel_rfl
def l24r0 : List AOper :=
  [AOper.mk (some 2) (AOp.mv (Operand.const (Value.slice none 0 0))) none []]
def l24r1 : List AOper :=
  [AOper.mk (some 3) (AOp.mv (Operand.tmp 0)) none [],
              AOper.mk (some 4) (AOp.call 31 [Operand.tmp 3]) none [0],
              AOper.mk (some 5) (AOp.un UnOp.not (Operand.tmp 4)) none [1]]
def l24r2 : List AOper :=
  [AOper.mk (some 2) (AOp.mv (Operand.const (Value.slice none 0 0))) none []]
def l24r3 : List AOper :=
  [AOper.mk (some 6) (AOp.mv (Operand.tmp 0)) none [],
              AOper.mk (some 7) (AOp.call 44 [Operand.tmp 6]) none [0],
              AOper.mk (some 2) (AOp.mv (Operand.tmp 7)) none [1, 1, 0, 1]]
def l24 : AFn :=
  (AFn.mk 8 1
    (ACode.seq (ACode.reg l24r0)
      (ACode.seq
        (ACode.seq
          (ACode.reg l24r1)
          (ACode.cond (Operand.tmp 5)
            (ACode.seq (ACode.reg l24r2)
              ACode.ret)
            ACode.skip))
        (ACode.seq
          (ACode.reg l24r3)
          ACode.ret)))
    [ARes.tmp 2])
theorem l24_eq : lowFn Try.prog 24 = some l24 := by kernel_rfl
def l25r0 : List AOper :=
  [AOper.mk (some 2) (AOp.mv (Operand.const (Value.slice none 0 0))) none []]
def l25r1 : List AOper :=
  [AOper.mk (some 5) (AOp.mv (Operand.tmp 0)) none [],
              AOper.mk (some 6) (AOp.call 12 [Operand.tmp 5]) none [0],
              AOper.mk (some 7) (AOp.un UnOp.not (Operand.tmp 6)) none [1]]
def l25r2 : List AOper :=
  [AOper.mk (some 2) (AOp.mv (Operand.const (Value.slice none 0 0))) none []]
def l25r3 : List AOper :=
  [AOper.mk (some 8) (AOp.mv (Operand.tmp 0)) none [], AOper.mk (some 9) (AOp.len (Operand.tmp 8)) none [0],
              AOper.mk (some 10) (AOp.mkslice 1 [Value.int IntKind.i64 0] (Operand.tmp 9) (Operand.tmp 9))
                none [1, 1],
              AOper.mk (some 3) (AOp.mv (Operand.tmp 10)) none [2, 0, 1, 2]]
def l25r4 : List AOper :=
  [AOper.mk (some 11) (AOp.mv (Operand.tmp 3)) none [],
                  AOper.mk (some 12) (AOp.len (Operand.tmp 11)) none [0],
                  AOper.mk (some 13) (AOp.mv (Operand.const (Value.int IntKind.i64 0))) none []]
def l25r5 : List AOper :=
  [AOper.mk (some 14) (AOp.bin BinOp.lss (Operand.tmp 13) (Operand.tmp 12)) none []]
def l25r6 : List AOper :=
  [AOper.mk (some 15) (AOp.mv (Operand.tmp 13)) none [],
                                AOper.mk (some 4) (AOp.mv (Operand.tmp 15)) none [0, 0]]
def l25r7 : List AOper :=
  [AOper.mk (some 16) (AOp.mv (Operand.tmp 3)) none [],
                                AOper.mk (some 17) (AOp.mv (Operand.tmp 4)) none [],
                                AOper.mk (some 18) (AOp.mv (Operand.tmp 0)) none [],
                                AOper.mk (some 19) (AOp.mv (Operand.tmp 4)) none [],
                                AOper.mk (some 20) (AOp.slice 1 (Operand.tmp 18) none (some (Operand.tmp 19))) none
                                  [2, 3],
                                AOper.mk (some 21) (AOp.call 33 [Operand.tmp 20]) none [4],
                                AOper.mk (some 22) (AOp.idxA 1 (Operand.tmp 16) (Operand.tmp 17)) none
                                  [0, 1, 0, 1, 2, 3, 4, 5],
                                AOper.mk none (AOp.store 1 (Operand.tmp 22) (Operand.tmp 21)) none
                                  [6, 5, 5, 0, 1, 2, 3, 4, 5]]
def l25r8 : List AOper :=
  [AOper.mk (some 23)
                              (AOp.bin BinOp.add (Operand.tmp 13) (Operand.const (Value.int IntKind.i64 1)))
                              none [],
                            AOper.mk (some 13) (AOp.mv (Operand.tmp 23)) none [0]]
def l25r9 : List AOper :=
  [AOper.mk (some 24) (AOp.mv (Operand.tmp 3)) none [],
                  AOper.mk (some 2) (AOp.mv (Operand.tmp 24)) none [0, 0]]
def l25 : AFn :=
  (AFn.mk 25 1
    (ACode.seq (ACode.reg l25r0)
      (ACode.seq
        (ACode.seq
          (ACode.reg l25r1)
          (ACode.cond (Operand.tmp 7)
            (ACode.seq (ACode.reg l25r2)
              ACode.ret)
            ACode.skip))
        (ACode.seq
          (ACode.reg l25r3)
          (ACode.seq
            (ACode.seq
              (ACode.reg l25r4)
              (ACode.block 0
                (ACode.loop
                  (ACode.seq
                    (ACode.reg l25r5)
                    (ACode.seq (ACode.cond (Operand.tmp 14) ACode.skip (ACode.exit 0))
                      (ACode.seq
                        (ACode.block 1
                          (ACode.seq
                            (ACode.reg l25r6)
                            (ACode.reg l25r7)))
                        (ACode.reg l25r8)))))))
            (ACode.seq
              (ACode.reg l25r9)
              ACode.ret)))))
    [ARes.tmp 2])
theorem l25_eq : lowFn Try.prog 25 = some l25 := by kernel_rfl
def l26r0 : List AOper :=
  [AOper.mk (some 2) (AOp.alloc [Value.int IntKind.i64 0, Value.slice none 0 0, Value.slice none 0 0])
            none []]
def l26r1 : List AOper :=
  [AOper.mk (some 3) (AOp.mv (Operand.tmp 0)) none [],
              AOper.mk (some 4) (AOp.call 31 [Operand.tmp 3]) none [0],
              AOper.mk (some 5) (AOp.un UnOp.not (Operand.tmp 4)) none [1]]
def l26r2 : List AOper :=
  [AOper.mk (some 6)
                    (AOp.build [Value.int IntKind.i64 0, Value.slice none 0 0, Value.slice none 0 0] [])
                    none [],
                  AOper.mk none (AOp.store 3 (Operand.tmp 2) (Operand.tmp 6)) none [0, 0]]
def l26r3 : List AOper :=
  [AOper.mk (some 7) (AOp.mv (Operand.tmp 0)) none [],
                AOper.mk (some 8) (AOp.call 34 [Operand.tmp 7]) none [0],
                AOper.mk (some 9)
                  (AOp.bin BinOp.eql (Operand.tmp 8) (Operand.const (Value.int IntKind.i64 0))) none [1]]
def l26r4a : List AOper :=
  [AOper.mk (some 10) (AOp.mv (Operand.tmp 0)) none [], AOper.mk (some 11) (AOp.call 45 [Operand.tmp 10]) none [0], AOper.mk (some 12) (AOp.mv (Operand.tmp 0)) none [], AOper.mk (some 13) (AOp.len (Operand.tmp 12)) none [2], AOper.mk (some 14)
                      (AOp.mkslice 1 [Value.int IntKind.i64 0] (Operand.tmp 13) (Operand.tmp 13)) none
                      [3, 3]]
def l26r4b : List AOper :=
  [AOper.mk (some 15)
                      (AOp.build [Value.int IntKind.i64 0, Value.slice none 0 0, Value.slice none 0 0]
                        [(1, 1, Operand.tmp 11), (2, 1, Operand.tmp 14)])
                      none [1, 4], AOper.mk none (AOp.store 3 (Operand.tmp 2) (Operand.tmp 15)) none [5, 1, 0, 1, 2, 3, 4, 5]]
def l26r4 : List AOper := l26r4a ++ l26r4b
def l26r5 : List AOper :=
  [AOper.mk (some 16) (AOp.mv (Operand.tmp 0)) none [],
                AOper.mk (some 17) (AOp.call 45 [Operand.tmp 16]) none [0],
                AOper.mk (some 18) (AOp.mv (Operand.tmp 0)) none [],
                AOper.mk (some 19) (AOp.call 43 [Operand.tmp 18]) none [2, 1],
                AOper.mk (some 20)
                  (AOp.build [Value.int IntKind.i64 0, Value.slice none 0 0, Value.slice none 0 0]
                    [(1, 1, Operand.tmp 17), (2, 1, Operand.tmp 19)])
                  none [1, 3],
                AOper.mk none (AOp.store 3 (Operand.tmp 2) (Operand.tmp 20)) none [4, 3, 0, 1, 2, 3, 4]]
def l26 : AFn :=
  (AFn.mk 21 1
    (ACode.seq
      (ACode.reg l26r0)
      (ACode.seq
        (ACode.seq
          (ACode.reg l26r1)
          (ACode.cond (Operand.tmp 5)
            (ACode.seq
              (ACode.reg l26r2)
              ACode.ret)
            ACode.skip))
        (ACode.seq
          (ACode.seq
            (ACode.reg l26r3)
            (ACode.cond (Operand.tmp 9)
              (ACode.seq
                (ACode.draw l26r4)
                ACode.ret)
              ACode.skip))
          (ACode.seq
            (ACode.reg l26r5)
            ACode.ret))))
    [ARes.cell 2 true 3])
theorem l26_eq : lowFn Try.prog 26 = some l26 := by kernel_rfl
def l27r0 : List AOper :=
  [AOper.mk (some 2) (AOp.alloc [Value.int IntKind.i64 0, Value.slice none 0 0, Value.slice none 0 0])
            none []]
def l27r1 : List AOper :=
  [AOper.mk (some 4) (AOp.mv (Operand.tmp 0)) none [],
              AOper.mk (some 5) (AOp.call 12 [Operand.tmp 4]) none [0],
              AOper.mk (some 6) (AOp.un UnOp.not (Operand.tmp 5)) none [1]]
def l27r2 : List AOper :=
  [AOper.mk (some 7)
                    (AOp.build [Value.int IntKind.i64 0, Value.slice none 0 0, Value.slice none 0 0] [])
                    none [],
                  AOper.mk none (AOp.store 3 (Operand.tmp 2) (Operand.tmp 7)) none [0, 0]]
def l27r3 : List AOper :=
  [AOper.mk (some 8) (AOp.mv (Operand.tmp 0)) none [],
              AOper.mk (some 9) (AOp.call 46 [Operand.tmp 8]) none [0],
              AOper.mk (some 10) (AOp.mv (Operand.tmp 0)) none [],
              AOper.mk (some 11) (AOp.call 23 [Operand.tmp 10]) none [2, 1],
              AOper.mk (some 12)
                (AOp.build [Value.int IntKind.i64 0, Value.slice none 0 0, Value.slice none 0 0]
                  [(1, 1, Operand.tmp 9), (2, 1, Operand.tmp 11)])
                none [1, 3],
              AOper.mk (some 3)
                (AOp.alloc [Value.int IntKind.i64 0, Value.slice none 0 0, Value.slice none 0 0]) none [],
              AOper.mk none (AOp.store 3 (Operand.tmp 3) (Operand.tmp 12)) none [5, 4, 3, 0, 1, 2, 3, 4, 5]]
def l27r4 : List AOper :=
  [AOper.mk (some 13) (AOp.load true 3 (Operand.tmp 3)) none [],
                  AOper.mk (some 14) (AOp.call 47 [Operand.tmp 13]) none [0],
                  AOper.mk (some 15)
                    (AOp.bin BinOp.eql (Operand.tmp 14) (Operand.const (Value.int IntKind.i64 0))) none
                    [1]]
def l27r5 : List AOper :=
  [AOper.mk (some 16) (AOp.mv (Operand.tmp 0)) none [],
                    AOper.mk (some 17) (AOp.len (Operand.tmp 16)) none [0],
                    AOper.mk (some 18)
                      (AOp.mkslice 1 [Value.int IntKind.i64 0] (Operand.tmp 17) (Operand.tmp 17)) none
                      [1, 1],
                    AOper.mk (some 19) (AOp.fld 2 (Operand.tmp 3)) none [0, 1, 2],
                    AOper.mk none (AOp.store 1 (Operand.tmp 19) (Operand.tmp 18)) none [3, 2, 0, 1, 2]]
def l27r6 : List AOper :=
  [AOper.mk (some 20) (AOp.load true 3 (Operand.tmp 3)) none [],
                  AOper.mk none (AOp.store 3 (Operand.tmp 2) (Operand.tmp 20)) none [0, 0]]
def l27 : AFn :=
  (AFn.mk 21 1
    (ACode.seq
      (ACode.reg l27r0)
      (ACode.seq
        (ACode.seq
          (ACode.reg l27r1)
          (ACode.cond (Operand.tmp 6)
            (ACode.seq
              (ACode.reg l27r2)
              ACode.ret)
            ACode.skip))
        (ACode.seq
          (ACode.reg l27r3)
          (ACode.seq
            (ACode.seq
              (ACode.reg l27r4)
              (ACode.cond (Operand.tmp 15)
                (ACode.reg l27r5)
                ACode.skip))
            (ACode.seq
              (ACode.reg l27r6)
              ACode.ret)))))
    [ARes.cell 2 true 3])
theorem l27_eq : lowFn Try.prog 27 = some l27 := by kernel_rfl
def l28r0 : List AOper :=
  [AOper.mk (some 2) (AOp.box (Operand.tmp 0)) none [], AOper.mk (some 3) (AOp.box (Operand.tmp 1)) none [],
          AOper.mk (some 4) (AOp.mv (Operand.const (Value.bool false))) none []]
def l28r1 : List AOper :=
  [AOper.mk (some 5) (AOp.fld 0 (Operand.tmp 2)) none [],
              AOper.mk (some 6) (AOp.load false 1 (Operand.tmp 5)) none [0],
              AOper.mk (some 7) (AOp.fld 0 (Operand.tmp 3)) none [],
              AOper.mk (some 8) (AOp.load false 1 (Operand.tmp 7)) none [2],
              AOper.mk (some 9) (AOp.bin BinOp.neq (Operand.tmp 6) (Operand.tmp 8)) none [1, 3]]
def l28r2 : List AOper :=
  [AOper.mk (some 4) (AOp.mv (Operand.const (Value.bool false))) none []]
def l28r3 : List AOper :=
  [AOper.mk (some 10) (AOp.fld 1 (Operand.tmp 2)) none [],
                AOper.mk (some 11) (AOp.load false 1 (Operand.tmp 10)) none [0],
                AOper.mk (some 12) (AOp.fld 1 (Operand.tmp 3)) none [],
                AOper.mk (some 13) (AOp.load false 1 (Operand.tmp 12)) none [2],
                AOper.mk (some 14) (AOp.call 13 [Operand.tmp 11, Operand.tmp 13]) none [1, 3],
                AOper.mk (some 15) (AOp.un UnOp.not (Operand.tmp 14)) none [4]]
def l28r4 : List AOper :=
  [AOper.mk (some 4) (AOp.mv (Operand.const (Value.bool false))) none []]
def l28r5 : List AOper :=
  [AOper.mk (some 16) (AOp.fld 2 (Operand.tmp 2)) none [],
                  AOper.mk (some 17) (AOp.load false 1 (Operand.tmp 16)) none [0],
                  AOper.mk (some 18) (AOp.fld 2 (Operand.tmp 3)) none [],
                  AOper.mk (some 19) (AOp.load false 1 (Operand.tmp 18)) none [2],
                  AOper.mk (some 20) (AOp.call 13 [Operand.tmp 17, Operand.tmp 19]) none [1, 3],
                  AOper.mk (some 21) (AOp.un UnOp.not (Operand.tmp 20)) none [4]]
def l28r6 : List AOper :=
  [AOper.mk (some 4) (AOp.mv (Operand.const (Value.bool false))) none []]
def l28r7 : List AOper :=
  [AOper.mk (some 4) (AOp.mv (Operand.const (Value.bool true))) none []]
def l28 : AFn :=
  (AFn.mk 22 2
    (ACode.seq
      (ACode.reg l28r0)
      (ACode.seq
        (ACode.seq
          (ACode.reg l28r1)
          (ACode.cond (Operand.tmp 9)
            (ACode.seq (ACode.reg l28r2) ACode.ret)
            ACode.skip))
        (ACode.seq
          (ACode.seq
            (ACode.reg l28r3)
            (ACode.cond (Operand.tmp 15)
              (ACode.seq (ACode.reg l28r4) ACode.ret)
              ACode.skip))
          (ACode.seq
            (ACode.seq
              (ACode.reg l28r5)
              (ACode.cond (Operand.tmp 21)
                (ACode.seq (ACode.reg l28r6)
                  ACode.ret)
                ACode.skip))
            (ACode.seq (ACode.reg l28r7) ACode.ret)))))
    [ARes.tmp 4])
theorem l28_eq : lowFn Try.prog 28 = some l28 := by kernel_rfl
def l29r0 : List AOper :=
  [AOper.mk (some 2) (AOp.box (Operand.tmp 0)) none [],
          AOper.mk (some 4) (AOp.mv (Operand.const (Value.int IntKind.i64 0))) none []]
def l29r1 : List AOper :=
  [AOper.mk (some 5) (AOp.fld 1 (Operand.tmp 2)) none [],
            AOper.mk (some 6) (AOp.load false 1 (Operand.tmp 5)) none [0],
            AOper.mk (some 7) (AOp.mv (Operand.tmp 1)) none [],
            AOper.mk (some 8) (AOp.call 18 [Operand.tmp 6, Operand.tmp 7]) none [1, 2],
            AOper.mk (some 1) (AOp.mv (Operand.tmp 8)) none [3, 3, 0, 1, 2, 3]]
def l29r2 : List AOper :=
  [AOper.mk (some 9) (AOp.fld 2 (Operand.tmp 2)) none [],
              AOper.mk (some 10) (AOp.load false 1 (Operand.tmp 9)) none [0],
              AOper.mk (some 11) (AOp.mv (Operand.tmp 1)) none [],
              AOper.mk (some 12) (AOp.call 18 [Operand.tmp 10, Operand.tmp 11]) none [1, 2],
              AOper.mk (some 1) (AOp.mv (Operand.tmp 12)) none [3, 3, 0, 1, 2, 3]]
def l29r3 : List AOper :=
  [AOper.mk (some 13) (AOp.mv (Operand.tmp 1)) none [],
                AOper.mk (some 4) (AOp.mv (Operand.tmp 13)) none [0, 0]]
def l29 : AFn :=
  (AFn.mk 14 2
    (ACode.seq
      (ACode.reg l29r0)
      (ACode.seq
        (ACode.reg l29r1)
        (ACode.seq
          (ACode.reg l29r2)
          (ACode.seq
            (ACode.reg l29r3)
            ACode.ret))))
    [ARes.tmp 4])
theorem l29_eq : lowFn Try.prog 29 = some l29 := by kernel_rfl
def l30r0 : List AOper :=
  [AOper.mk (some 2) (AOp.box (Operand.tmp 0)) none [],
          AOper.mk (some 4) (AOp.mv (Operand.const (Value.int IntKind.i64 0))) none []]
def l30r1 : List AOper :=
  [AOper.mk (some 5) (AOp.fld 1 (Operand.tmp 2)) none [],
            AOper.mk (some 6) (AOp.load false 1 (Operand.tmp 5)) none [0],
            AOper.mk (some 7) (AOp.mv (Operand.tmp 1)) none [],
            AOper.mk (some 8) (AOp.call 19 [Operand.tmp 6, Operand.tmp 7]) none [1, 2],
            AOper.mk (some 1) (AOp.mv (Operand.tmp 8)) none [3, 3, 0, 1, 2, 3]]
def l30r2 : List AOper :=
  [AOper.mk (some 9) (AOp.mv (Operand.tmp 1)) none [],
                AOper.mk (some 10)
                  (AOp.bin BinOp.lss (Operand.tmp 9) (Operand.const (Value.int IntKind.i64 0))) none [0]]
def l30r3 : List AOper :=
  [AOper.mk (some 4) (AOp.mv (Operand.const (Value.int IntKind.i64 (-1)))) none []]
def l30r4 : List AOper :=
  [AOper.mk (some 11) (AOp.fld 2 (Operand.tmp 2)) none [],
                AOper.mk (some 12) (AOp.load false 1 (Operand.tmp 11)) none [0],
                AOper.mk (some 13) (AOp.mv (Operand.tmp 1)) none [],
                AOper.mk (some 14) (AOp.call 19 [Operand.tmp 12, Operand.tmp 13]) none [1, 2],
                AOper.mk (some 1) (AOp.mv (Operand.tmp 14)) none [3, 3, 0, 1, 2, 3]]
def l30r5 : List AOper :=
  [AOper.mk (some 15) (AOp.mv (Operand.tmp 1)) none [],
                    AOper.mk (some 16)
                      (AOp.bin BinOp.lss (Operand.tmp 15) (Operand.const (Value.int IntKind.i64 0))) none
                      [0]]
def l30r6 : List AOper :=
  [AOper.mk (some 4) (AOp.mv (Operand.const (Value.int IntKind.i64 (-1)))) none []]
def l30r7 : List AOper :=
  [AOper.mk (some 17) (AOp.mv (Operand.tmp 1)) none [],
                    AOper.mk (some 4) (AOp.mv (Operand.tmp 17)) none [0, 0]]
def l30 : AFn :=
  (AFn.mk 18 2
    (ACode.seq
      (ACode.reg l30r0)
      (ACode.seq
        (ACode.reg l30r1)
        (ACode.seq
          (ACode.seq
            (ACode.reg l30r2)
            (ACode.cond (Operand.tmp 10)
              (ACode.seq
                (ACode.reg l30r3)
                ACode.ret)
              ACode.skip))
          (ACode.seq
            (ACode.reg l30r4)
            (ACode.seq
              (ACode.seq
                (ACode.reg l30r5)
                (ACode.cond (Operand.tmp 16)
                  (ACode.seq
                    (ACode.reg l30r6)
                    ACode.ret)
                  ACode.skip))
              (ACode.seq
                (ACode.reg l30r7)
                ACode.ret))))))
    [ARes.tmp 4])
theorem l30_eq : lowFn Try.prog 30 = some l30 := by kernel_rfl
def l31r0 : List AOper :=
  [AOper.mk (some 2) (AOp.mv (Operand.const (Value.bool false))) none []]
def l31r1 : List AOper :=
  [AOper.mk (some 3) (AOp.mv (Operand.tmp 0)) none [], AOper.mk (some 4) (AOp.len (Operand.tmp 3)) none [0],
            AOper.mk (some 5) (AOp.bin BinOp.leq (Operand.tmp 4) (Operand.const (Value.int IntKind.i64 4)))
              none [1],
            AOper.mk (some 6) (AOp.mv (Operand.tmp 5)) none [2],
            AOper.mk (some 7) (AOp.mv (Operand.tmp 0)) (some (6, true)) [3],
            AOper.mk (some 8)
              (AOp.call 48
                [Operand.tmp 7, Operand.const (Value.int IntKind.i64 0),
                  Operand.const (Value.int IntKind.i64 60)])
              (some (6, true)) [4, 3, 3],
            AOper.mk (some 9) (AOp.pick (Operand.tmp 6) (Operand.tmp 8) (Operand.const (Value.bool false))) none [3, 5],
            AOper.mk (some 10) (AOp.mv (Operand.tmp 9)) none [6, 5],
            AOper.mk (some 11) (AOp.mv (Operand.tmp 0)) (some (10, true)) [7],
            AOper.mk (some 12) (AOp.call 34 [Operand.tmp 11]) (some (10, true)) [8, 7, 7],
            AOper.mk (some 13)
              (AOp.bin BinOp.leq (Operand.tmp 12) (Operand.const (Value.int IntKind.i64 60)))
              (some (10, true)) [9, 7],
            AOper.mk (some 14) (AOp.pick (Operand.tmp 10) (Operand.tmp 13) (Operand.const (Value.bool false))) none
              [7, 10],
            AOper.mk (some 2) (AOp.mv (Operand.tmp 14)) none [11, 9, 0, 1, 2, 3, 4, 5, 6, 7, 8, 9, 10, 11]]
def l31 : AFn :=
  (AFn.mk 15 1
    (ACode.seq (ACode.reg l31r0)
      (ACode.seq
        (ACode.reg l31r1)
        ACode.ret))
    [ARes.tmp 2])
theorem l31_eq : lowFn Try.prog 31 = some l31 := by kernel_rfl
def l32r0 : List AOper :=
  [AOper.mk (some 4) (AOp.mv (Operand.const (Value.bool false))) none []]
def l32r1 : List AOper :=
  [AOper.mk (some 5) (AOp.mv (Operand.tmp 0)) none [],
            AOper.mk (some 6) (AOp.bin BinOp.leq (Operand.const (Value.int IntKind.i64 0)) (Operand.tmp 5))
              none [0],
            AOper.mk (some 7) (AOp.mv (Operand.tmp 6)) none [1],
            AOper.mk (some 8) (AOp.mv (Operand.tmp 0)) (some (7, true)) [2],
            AOper.mk (some 9) (AOp.mv (Operand.tmp 1)) (some (7, true)) [2],
            AOper.mk (some 10) (AOp.bin BinOp.leq (Operand.tmp 8) (Operand.tmp 9)) (some (7, true)) [3, 4, 2],
            AOper.mk (some 11) (AOp.pick (Operand.tmp 7) (Operand.tmp 10) (Operand.const (Value.bool false))) none
              [2, 5],
            AOper.mk (some 4) (AOp.mv (Operand.tmp 11)) none [6, 2, 0, 1, 2, 3, 4, 5, 6]]
def l32 : AFn :=
  (AFn.mk 12 2
    (ACode.seq (ACode.reg l32r0)
      (ACode.seq
        (ACode.reg l32r1)
        ACode.ret))
    [ARes.tmp 4])
theorem l32_eq : lowFn Try.prog 32 = some l32 := by kernel_rfl
def l33r0 : List AOper :=
  [AOper.mk (some 2) (AOp.mv (Operand.const (Value.int IntKind.i64 0))) none []]
def l33r1 : List AOper :=
  [AOper.mk (some 3) (AOp.mv (Operand.const (Value.int IntKind.i64 1))) none []]
def l33r2 : List AOper :=
  [AOper.mk (some 6) (AOp.mv (Operand.tmp 0)) none [], AOper.mk (some 7) (AOp.len (Operand.tmp 6)) none [0],
                AOper.mk (some 8) (AOp.mv (Operand.const (Value.int IntKind.i64 0))) none []]
def l33r3 : List AOper :=
  [AOper.mk (some 9) (AOp.bin BinOp.lss (Operand.tmp 8) (Operand.tmp 7)) none []]
def l33r4 : List AOper :=
  [AOper.mk (some 10) (AOp.idxA 1 (Operand.tmp 6) (Operand.tmp 8)) none [],
                              AOper.mk (some 11) (AOp.load false 1 (Operand.tmp 10)) none [0],
                              AOper.mk (some 5) (AOp.mv (Operand.tmp 11)) none [1, 0, 1]]
def l33r5 : List AOper :=
  [AOper.mk (some 12) (AOp.mv (Operand.tmp 3)) none [],
                              AOper.mk (some 13) (AOp.mv (Operand.tmp 5)) none [],
                              AOper.mk (some 14) (AOp.bin BinOp.mul (Operand.tmp 12) (Operand.tmp 13)) none [0, 1],
                              AOper.mk (some 3) (AOp.mv (Operand.tmp 14)) none [2, 0, 1, 2]]
def l33r6 : List AOper :=
  [AOper.mk (some 15)
                            (AOp.bin BinOp.add (Operand.tmp 8) (Operand.const (Value.int IntKind.i64 1)))
                            none [],
                          AOper.mk (some 8) (AOp.mv (Operand.tmp 15)) none [0]]
def l33r7 : List AOper :=
  [AOper.mk (some 16) (AOp.mv (Operand.tmp 3)) none [],
                AOper.mk (some 2) (AOp.mv (Operand.tmp 16)) none [0, 0]]
def l33 : AFn :=
  (AFn.mk 17 1
    (ACode.seq (ACode.reg l33r0)
      (ACode.seq (ACode.reg l33r1)
        (ACode.seq
          (ACode.seq
            (ACode.reg l33r2)
            (ACode.block 0
              (ACode.loop
                (ACode.seq (ACode.reg l33r3)
                  (ACode.seq (ACode.cond (Operand.tmp 9) ACode.skip (ACode.exit 0))
                    (ACode.seq
                      (ACode.block 1
                        (ACode.seq
                          (ACode.reg l33r4)
                          (ACode.reg l33r5)))
                      (ACode.reg l33r6)))))))
          (ACode.seq
            (ACode.reg l33r7)
            ACode.ret))))
    [ARes.tmp 2])
theorem l33_eq : lowFn Try.prog 33 = some l33 := by kernel_rfl
def l34r0 : List AOper :=
  [AOper.mk (some 2) (AOp.mv (Operand.const (Value.int IntKind.i64 0))) none []]
def l34r1 : List AOper :=
  [AOper.mk (some 3) (AOp.mv (Operand.const (Value.int IntKind.i64 1))) none []]
def l34r2 : List AOper :=
  [AOper.mk (some 4) (AOp.mv (Operand.const (Value.int IntKind.i64 0))) none []]
def l34r3 : List AOper :=
  [AOper.mk (some 5) (AOp.mv (Operand.tmp 4)) none [],
                        AOper.mk (some 6) (AOp.mv (Operand.tmp 0)) none [],
                        AOper.mk (some 7) (AOp.len (Operand.tmp 6)) none [1],
                        AOper.mk (some 8) (AOp.bin BinOp.lss (Operand.tmp 5) (Operand.tmp 7)) none [0, 2]]
def l34r4 : List AOper :=
  [AOper.mk (some 11) (AOp.mv (Operand.tmp 3)) none [],
                          AOper.mk (some 12) (AOp.mv (Operand.tmp 0)) none [],
                          AOper.mk (some 13) (AOp.mv (Operand.tmp 4)) none [],
                          AOper.mk (some 14) (AOp.idxA 1 (Operand.tmp 12) (Operand.tmp 13)) none [1, 2],
                          AOper.mk (some 15) (AOp.load false 1 (Operand.tmp 14)) none [3],
                          AOper.mk (some 16) (AOp.bin BinOp.mul (Operand.tmp 11) (Operand.tmp 15)) none [0, 4],
                          AOper.mk (some 3) (AOp.mv (Operand.tmp 16)) none [5, 0, 1, 2, 3, 4, 5]]
def l34r5 : List AOper :=
  [AOper.mk (some 9) (AOp.mv (Operand.tmp 4)) none [],
                        AOper.mk (some 10)
                          (AOp.bin BinOp.add (Operand.tmp 9) (Operand.const (Value.int IntKind.i64 1))) none
                          [0],
                        AOper.mk (some 4) (AOp.mv (Operand.tmp 10)) none [1, 0, 1]]
def l34r6 : List AOper :=
  [AOper.mk (some 17) (AOp.mv (Operand.tmp 3)) none [],
                AOper.mk (some 2) (AOp.mv (Operand.tmp 17)) none [0, 0]]
def l34 : AFn :=
  (AFn.mk 18 1
    (ACode.seq (ACode.reg l34r0)
      (ACode.seq (ACode.reg l34r1)
        (ACode.seq
          (ACode.seq
            (ACode.reg l34r2)
            (ACode.block 0
              (ACode.loop
                (ACode.seq
                  (ACode.seq
                    (ACode.reg l34r3)
                    (ACode.cond (Operand.tmp 8) ACode.skip (ACode.exit 0)))
                  (ACode.seq
                    (ACode.block 1
                      (ACode.reg l34r4))
                    (ACode.reg l34r5))))))
          (ACode.seq
            (ACode.reg l34r6)
            ACode.ret))))
    [ARes.tmp 2])
theorem l34_eq : lowFn Try.prog 34 = some l34 := by kernel_rfl
def l35r0 : List AOper :=
  [AOper.mk (some 6) (AOp.mv (Operand.const (Value.bool false))) none []]
def l35r1 : List AOper :=
  [AOper.mk (some 7) (AOp.mv (Operand.tmp 1)) none [], AOper.mk (some 8) (AOp.mv (Operand.tmp 0)) none [],
            AOper.mk (some 9) (AOp.bin BinOp.leq (Operand.tmp 7) (Operand.tmp 8)) none [0, 1],
            AOper.mk (some 10) (AOp.mv (Operand.tmp 9)) none [2],
            AOper.mk (some 11) (AOp.mv (Operand.tmp 0)) (some (10, true)) [3],
            AOper.mk (some 12) (AOp.mv (Operand.tmp 2)) (some (10, true)) [3],
            AOper.mk (some 13) (AOp.bin BinOp.leq (Operand.tmp 11) (Operand.tmp 12)) (some (10, true)) [4, 5, 3],
            AOper.mk (some 14) (AOp.pick (Operand.tmp 10) (Operand.tmp 13) (Operand.const (Value.bool false))) none
              [3, 6],
            AOper.mk (some 6) (AOp.mv (Operand.tmp 14)) none [7, 3, 0, 1, 2, 3, 4, 5, 6, 7]]
def l35 : AFn :=
  (AFn.mk 15 3
    (ACode.seq (ACode.reg l35r0)
      (ACode.seq
        (ACode.reg l35r1)
        ACode.ret))
    [ARes.tmp 6])
theorem l35_eq : lowFn Try.prog 35 = some l35 := by kernel_rfl
def l36r0 : List AOper :=
  [AOper.mk (some 4) (AOp.mv (Operand.const (Value.slice none 0 0))) none []]
def l36r1 : List AOper :=
  [AOper.mk (some 7) (AOp.mv (Operand.tmp 0)) none [], AOper.mk (some 8) (AOp.len (Operand.tmp 7)) none [0],
            AOper.mk (some 9) (AOp.mkslice 1 [Value.int IntKind.i64 0] (Operand.tmp 8) (Operand.tmp 8)) none
              [1, 1],
            AOper.mk (some 5) (AOp.mv (Operand.tmp 9)) none [2, 0, 1, 2]]
def l36r2 : List AOper :=
  [AOper.mk (some 10) (AOp.mv (Operand.tmp 0)) none [],
                AOper.mk (some 11) (AOp.len (Operand.tmp 10)) none [0],
                AOper.mk (some 12)
                  (AOp.bin BinOp.sub (Operand.tmp 11) (Operand.const (Value.int IntKind.i64 1))) none [1],
                AOper.mk (some 6) (AOp.mv (Operand.tmp 12)) none [2, 0, 1, 2]]
def l36r3 : List AOper :=
  [AOper.mk (some 13) (AOp.mv (Operand.tmp 6)) none [],
                        AOper.mk (some 14)
                          (AOp.bin BinOp.geq (Operand.tmp 13) (Operand.const (Value.int IntKind.i64 0)))
                          none [0]]
def l36r4 : List AOper :=
  [AOper.mk (some 17) (AOp.mv (Operand.tmp 5)) none [],
                            AOper.mk (some 18) (AOp.mv (Operand.tmp 6)) none [],
                            AOper.mk (some 19) (AOp.mv (Operand.tmp 1)) none [],
                            AOper.mk (some 20) (AOp.mv (Operand.tmp 0)) none [],
                            AOper.mk (some 21) (AOp.mv (Operand.tmp 6)) none [],
                            AOper.mk (some 22) (AOp.idxA 1 (Operand.tmp 20) (Operand.tmp 21)) none [3, 4],
                            AOper.mk (some 23) (AOp.load false 1 (Operand.tmp 22)) none [5],
                            AOper.mk (some 24) (AOp.bin BinOp.rem (Operand.tmp 19) (Operand.tmp 23)) none [2, 6],
                            AOper.mk (some 25) (AOp.idxA 1 (Operand.tmp 17) (Operand.tmp 18)) none
                              [0, 1, 0, 1, 2, 3, 4, 5, 6, 7],
                            AOper.mk none (AOp.store 1 (Operand.tmp 25) (Operand.tmp 24)) none
                              [8, 7, 0, 1, 2, 3, 4, 5, 6, 7]]
def l36r5 : List AOper :=
  [AOper.mk (some 26) (AOp.mv (Operand.tmp 1)) none [],
                            AOper.mk (some 27) (AOp.mv (Operand.tmp 0)) none [],
                            AOper.mk (some 28) (AOp.mv (Operand.tmp 6)) none [],
                            AOper.mk (some 29) (AOp.idxA 1 (Operand.tmp 27) (Operand.tmp 28)) none [1, 2],
                            AOper.mk (some 30) (AOp.load false 1 (Operand.tmp 29)) none [3],
                            AOper.mk (some 31) (AOp.bin BinOp.quo (Operand.tmp 26) (Operand.tmp 30)) none [0, 4],
                            AOper.mk (some 1) (AOp.mv (Operand.tmp 31)) none [5, 0, 1, 2, 3, 4, 5]]
def l36r6 : List AOper :=
  [AOper.mk (some 15) (AOp.mv (Operand.tmp 6)) none [],
                        AOper.mk (some 16)
                          (AOp.bin BinOp.sub (Operand.tmp 15) (Operand.const (Value.int IntKind.i64 1)))
                          none [0],
                        AOper.mk (some 6) (AOp.mv (Operand.tmp 16)) none [1, 0, 1]]
def l36r7 : List AOper :=
  [AOper.mk (some 32) (AOp.mv (Operand.tmp 5)) none [],
                AOper.mk (some 4) (AOp.mv (Operand.tmp 32)) none [0, 0]]
def l36 : AFn :=
  (AFn.mk 33 2
    (ACode.seq (ACode.reg l36r0)
      (ACode.seq
        (ACode.reg l36r1)
        (ACode.seq
          (ACode.seq
            (ACode.reg l36r2)
            (ACode.block 0
              (ACode.loop
                (ACode.seq
                  (ACode.seq
                    (ACode.reg l36r3)
                    (ACode.cond (Operand.tmp 14) ACode.skip (ACode.exit 0)))
                  (ACode.seq
                    (ACode.block 1
                      (ACode.seq
                        (ACode.reg l36r4)
                        (ACode.reg l36r5)))
                    (ACode.reg l36r6))))))
          (ACode.seq
            (ACode.reg l36r7)
            ACode.ret))))
    [ARes.tmp 4])
theorem l36_eq : lowFn Try.prog 36 = some l36 := by kernel_rfl
def l37r0 : List AOper :=
  [AOper.mk (some 4)
            (AOp.alloc
              [Value.int IntKind.i64 0, Value.int IntKind.i64 0,
                Value.int IntKind.i64 0, Value.int IntKind.i64 0])
            none []]
def l37r1 : List AOper :=
  [AOper.mk (some 5)
              (AOp.alloc
                [Value.int IntKind.i64 0, Value.int IntKind.i64 0,
                  Value.int IntKind.i64 0, Value.int IntKind.i64 0])
              none []]
def l37r2 : List AOper :=
  [AOper.mk (some 7) (AOp.mv (Operand.tmp 0)) none [], AOper.mk (some 8) (AOp.len (Operand.tmp 7)) none [0],
                AOper.mk (some 9)
                  (AOp.bin BinOp.sub (Operand.tmp 8) (Operand.const (Value.int IntKind.i64 1))) none [1],
                AOper.mk (some 6) (AOp.mv (Operand.tmp 9)) none [2, 0, 1, 2]]
def l37r3 : List AOper :=
  [AOper.mk (some 10) (AOp.mv (Operand.tmp 6)) none [],
                        AOper.mk (some 11)
                          (AOp.bin BinOp.geq (Operand.tmp 10) (Operand.const (Value.int IntKind.i64 0)))
                          none [0]]
def l37r4 : List AOper :=
  [AOper.mk (some 14) (AOp.mv (Operand.tmp 6)) none [],
                            AOper.mk (some 15) (AOp.mv (Operand.tmp 1)) none [],
                            AOper.mk (some 16) (AOp.mv (Operand.tmp 0)) none [],
                            AOper.mk (some 17) (AOp.mv (Operand.tmp 6)) none [],
                            AOper.mk (some 18) (AOp.idxA 1 (Operand.tmp 16) (Operand.tmp 17)) none [2, 3],
                            AOper.mk (some 19) (AOp.load false 1 (Operand.tmp 18)) none [4],
                            AOper.mk (some 20) (AOp.bin BinOp.rem (Operand.tmp 15) (Operand.tmp 19)) none [1, 5],
                            AOper.mk (some 21) (AOp.idxP 1 4 (Operand.tmp 5) (Operand.tmp 14)) none
                              [0, 0, 1, 2, 3, 4, 5, 6],
                            AOper.mk none (AOp.store 1 (Operand.tmp 21) (Operand.tmp 20)) none
                              [7, 6, 0, 1, 2, 3, 4, 5, 6]]
def l37r5 : List AOper :=
  [AOper.mk (some 22) (AOp.mv (Operand.tmp 1)) none [],
                            AOper.mk (some 23) (AOp.mv (Operand.tmp 0)) none [],
                            AOper.mk (some 24) (AOp.mv (Operand.tmp 6)) none [],
                            AOper.mk (some 25) (AOp.idxA 1 (Operand.tmp 23) (Operand.tmp 24)) none [1, 2],
                            AOper.mk (some 26) (AOp.load false 1 (Operand.tmp 25)) none [3],
                            AOper.mk (some 27) (AOp.bin BinOp.quo (Operand.tmp 22) (Operand.tmp 26)) none [0, 4],
                            AOper.mk (some 1) (AOp.mv (Operand.tmp 27)) none [5, 0, 1, 2, 3, 4, 5]]
def l37r6 : List AOper :=
  [AOper.mk (some 12) (AOp.mv (Operand.tmp 6)) none [],
                        AOper.mk (some 13)
                          (AOp.bin BinOp.sub (Operand.tmp 12) (Operand.const (Value.int IntKind.i64 1)))
                          none [0],
                        AOper.mk (some 6) (AOp.mv (Operand.tmp 13)) none [1, 0, 1]]
def l37r7 : List AOper :=
  [AOper.mk (some 28) (AOp.load true 4 (Operand.tmp 5)) none [],
                AOper.mk none (AOp.store 4 (Operand.tmp 4) (Operand.tmp 28)) none [0, 0]]
def l37 : AFn :=
  (AFn.mk 29 2
    (ACode.seq
      (ACode.reg l37r0)
      (ACode.seq
        (ACode.reg l37r1)
        (ACode.seq
          (ACode.seq
            (ACode.reg l37r2)
            (ACode.block 0
              (ACode.loop
                (ACode.seq
                  (ACode.seq
                    (ACode.reg l37r3)
                    (ACode.cond (Operand.tmp 11) ACode.skip (ACode.exit 0)))
                  (ACode.seq
                    (ACode.block 1
                      (ACode.seq
                        (ACode.reg l37r4)
                        (ACode.reg l37r5)))
                    (ACode.reg l37r6))))))
          (ACode.seq
            (ACode.reg l37r7)
            ACode.ret))))
    [ARes.cell 4 true 4])
theorem l37_eq : lowFn Try.prog 37 = some l37 := by kernel_rfl
def l38r0 : List AOper :=
  [AOper.mk (some 2) (AOp.mv (Operand.const (Value.slice none 0 0))) none []]
def l38r1 : List AOper :=
  [AOper.mk (some 3) (AOp.mv (Operand.tmp 0)) none [],
              AOper.mk (some 4) (AOp.isnil false (Operand.tmp 3)) none [0]]
def l38r2 : List AOper :=
  [AOper.mk (some 2) (AOp.mv (Operand.const (Value.slice none 0 0))) none []]
def l38r3 : List AOper :=
  [AOper.mk (some 5) (AOp.bslice 1 [Value.int IntKind.i64 0] [] 0) none [],
              AOper.mk (some 6) (AOp.mv (Operand.tmp 0)) none [],
              AOper.mk (some 7) (AOp.append 1 (Operand.tmp 5) (Operand.tmp 6)) none [0, 1],
              AOper.mk (some 2) (AOp.mv (Operand.tmp 7)) none [2, 2, 0, 1, 2]]
def l38 : AFn :=
  (AFn.mk 8 1
    (ACode.seq (ACode.reg l38r0)
      (ACode.seq
        (ACode.seq
          (ACode.reg l38r1)
          (ACode.cond (Operand.tmp 4)
            (ACode.seq (ACode.reg l38r2)
              ACode.ret)
            ACode.skip))
        (ACode.seq
          (ACode.reg l38r3)
          ACode.ret)))
    [ARes.tmp 2])
theorem l38_eq : lowFn Try.prog 38 = some l38 := by kernel_rfl
def l39r0 : List AOper :=
  [AOper.mk (some 4) (AOp.mv (Operand.const (Value.bool false))) none []]
def l39r1 : List AOper :=
  [AOper.mk (some 6) (AOp.mv (Operand.tmp 1)) none [], AOper.mk (some 7) (AOp.len (Operand.tmp 6)) none [0],
              AOper.mk (some 8) (AOp.mv (Operand.tmp 0)) none [], AOper.mk (some 9) (AOp.len (Operand.tmp 8)) none [2],
              AOper.mk (some 10) (AOp.bin BinOp.neq (Operand.tmp 7) (Operand.tmp 9)) none [1, 3]]
def l39r2 : List AOper :=
  [AOper.mk (some 4) (AOp.mv (Operand.const (Value.bool false))) none []]
def l39r3 : List AOper :=
  [AOper.mk (some 5) (AOp.mv (Operand.const (Value.int IntKind.i64 0))) none []]
def l39r4 : List AOper :=
  [AOper.mk (some 11) (AOp.mv (Operand.tmp 5)) none [],
                        AOper.mk (some 12) (AOp.mv (Operand.tmp 1)) none [],
                        AOper.mk (some 13) (AOp.len (Operand.tmp 12)) none [1],
                        AOper.mk (some 14) (AOp.bin BinOp.lss (Operand.tmp 11) (Operand.tmp 13)) none [0, 2]]
def l39r5a : List AOper :=
  [AOper.mk (some 17) (AOp.mv (Operand.tmp 1)) none [], AOper.mk (some 18) (AOp.mv (Operand.tmp 5)) none [], AOper.mk (some 19) (AOp.idxA 1 (Operand.tmp 17) (Operand.tmp 18)) none [0, 1], AOper.mk (some 20) (AOp.load false 1 (Operand.tmp 19)) none [2], AOper.mk (some 21) (AOp.mv (Operand.tmp 0)) none [], AOper.mk (some 22) (AOp.mv (Operand.tmp 5)) none [], AOper.mk (some 23) (AOp.idxA 1 (Operand.tmp 21) (Operand.tmp 22)) none [4, 5], AOper.mk (some 24) (AOp.load false 1 (Operand.tmp 23)) none [6], AOper.mk (some 25)
                              (AOp.bin BinOp.sub (Operand.tmp 24) (Operand.const (Value.int IntKind.i64 1)))
                              none [7]]
def l39r5b : List AOper :=
  [AOper.mk (some 26)
                              (AOp.call 35
                                [Operand.tmp 20, Operand.const (Value.int IntKind.i64 0), Operand.tmp 25])
                              none [3, 8], AOper.mk (some 27) (AOp.un UnOp.not (Operand.tmp 26)) none [9]]
def l39r5 : List AOper := l39r5a ++ l39r5b
def l39r6 : List AOper :=
  [AOper.mk (some 4) (AOp.mv (Operand.const (Value.bool false))) none []]
def l39r7 : List AOper :=
  [AOper.mk (some 15) (AOp.mv (Operand.tmp 5)) none [],
                        AOper.mk (some 16)
                          (AOp.bin BinOp.add (Operand.tmp 15) (Operand.const (Value.int IntKind.i64 1)))
                          none [0],
                        AOper.mk (some 5) (AOp.mv (Operand.tmp 16)) none [1, 0, 1]]
def l39r8 : List AOper :=
  [AOper.mk (some 4) (AOp.mv (Operand.const (Value.bool true))) none []]
def l39 : AFn :=
  (AFn.mk 28 2
    (ACode.seq (ACode.reg l39r0)
      (ACode.seq
        (ACode.seq
          (ACode.reg l39r1)
          (ACode.cond (Operand.tmp 10)
            (ACode.seq (ACode.reg l39r2) ACode.ret)
            ACode.skip))
        (ACode.seq
          (ACode.seq
            (ACode.reg l39r3)
            (ACode.block 0
              (ACode.loop
                (ACode.seq
                  (ACode.seq
                    (ACode.reg l39r4)
                    (ACode.cond (Operand.tmp 14) ACode.skip (ACode.exit 0)))
                  (ACode.seq
                    (ACode.block 1
                      (ACode.seq
                        (ACode.draw l39r5)
                        (ACode.cond (Operand.tmp 27)
                          (ACode.seq (ACode.reg l39r6)
                            ACode.ret)
                          ACode.skip)))
                    (ACode.reg l39r7))))))
          (ACode.seq (ACode.reg l39r8) ACode.ret))))
    [ARes.tmp 4])
theorem l39_eq : lowFn Try.prog 39 = some l39 := by kernel_rfl
def l40r0 : List AOper :=
  [AOper.mk (some 4) (AOp.mv (Operand.const (Value.int IntKind.i64 0))) none []]
def l40r1 : List AOper :=
  [AOper.mk (some 5) (AOp.mv (Operand.const (Value.int IntKind.i64 0))) none []]
def l40r2 : List AOper :=
  [AOper.mk (some 6) (AOp.mv (Operand.const (Value.int IntKind.i64 0))) none []]
def l40r3 : List AOper :=
  [AOper.mk (some 7) (AOp.mv (Operand.tmp 6)) none [],
                        AOper.mk (some 8) (AOp.mv (Operand.tmp 0)) none [],
                        AOper.mk (some 9) (AOp.len (Operand.tmp 8)) none [1],
                        AOper.mk (some 10) (AOp.bin BinOp.lss (Operand.tmp 7) (Operand.tmp 9)) none [0, 2]]
def l40r4a : List AOper :=
  [AOper.mk (some 13) (AOp.mv (Operand.tmp 5)) none [], AOper.mk (some 14) (AOp.mv (Operand.tmp 0)) none [], AOper.mk (some 15) (AOp.mv (Operand.tmp 6)) none [], AOper.mk (some 16) (AOp.idxA 1 (Operand.tmp 14) (Operand.tmp 15)) none [1, 2], AOper.mk (some 17) (AOp.load false 1 (Operand.tmp 16)) none [3], AOper.mk (some 18) (AOp.bin BinOp.mul (Operand.tmp 13) (Operand.tmp 17)) none [0, 4], AOper.mk (some 19) (AOp.mv (Operand.tmp 1)) none [], AOper.mk (some 20) (AOp.mv (Operand.tmp 6)) none [], AOper.mk (some 21) (AOp.idxA 1 (Operand.tmp 19) (Operand.tmp 20)) none [6, 7], AOper.mk (some 22) (AOp.load false 1 (Operand.tmp 21)) none [8]]
def l40r4b : List AOper :=
  [AOper.mk (some 23) (AOp.bin BinOp.add (Operand.tmp 18) (Operand.tmp 22)) none [5, 9], AOper.mk (some 5) (AOp.mv (Operand.tmp 23)) none [10, 0, 1, 2, 3, 4, 5, 6, 7, 8, 9, 10]]
def l40r4 : List AOper := l40r4a ++ l40r4b
def l40r5 : List AOper :=
  [AOper.mk (some 11) (AOp.mv (Operand.tmp 6)) none [],
                        AOper.mk (some 12)
                          (AOp.bin BinOp.add (Operand.tmp 11) (Operand.const (Value.int IntKind.i64 1)))
                          none [0],
                        AOper.mk (some 6) (AOp.mv (Operand.tmp 12)) none [1, 0, 1]]
def l40r6 : List AOper :=
  [AOper.mk (some 24) (AOp.mv (Operand.tmp 5)) none [],
                AOper.mk (some 4) (AOp.mv (Operand.tmp 24)) none [0, 0]]
def l40 : AFn :=
  (AFn.mk 25 2
    (ACode.seq (ACode.reg l40r0)
      (ACode.seq (ACode.reg l40r1)
        (ACode.seq
          (ACode.seq
            (ACode.reg l40r2)
            (ACode.block 0
              (ACode.loop
                (ACode.seq
                  (ACode.seq
                    (ACode.reg l40r3)
                    (ACode.cond (Operand.tmp 10) ACode.skip (ACode.exit 0)))
                  (ACode.seq
                    (ACode.block 1
                      (ACode.draw l40r4))
                    (ACode.reg l40r5))))))
          (ACode.seq
            (ACode.reg l40r6)
            ACode.ret))))
    [ARes.tmp 4])
theorem l40_eq : lowFn Try.prog 40 = some l40 := by kernel_rfl
def l41r0 : List AOper :=
  [AOper.mk (some 4)
            (AOp.alloc
              [Value.int IntKind.i64 0, Value.int IntKind.i64 0,
                Value.int IntKind.i64 0, Value.int IntKind.i64 0])
            none [],
          AOper.mk (some 5) (AOp.mv (Operand.const (Value.bool false))) none []]
def l41r1 : List AOper :=
  [AOper.mk (some 9) (AOp.mv (Operand.tmp 1)) none [], AOper.mk (some 10) (AOp.len (Operand.tmp 9)) none [0],
              AOper.mk (some 11) (AOp.mv (Operand.tmp 0)) none [],
              AOper.mk (some 12) (AOp.len (Operand.tmp 11)) none [2],
              AOper.mk (some 13) (AOp.bin BinOp.neq (Operand.tmp 10) (Operand.tmp 12)) none [1, 3]]
def l41r2 : List AOper :=
  [AOper.mk (some 14)
                    (AOp.build
                      [Value.int IntKind.i64 0, Value.int IntKind.i64 0,
                        Value.int IntKind.i64 0, Value.int IntKind.i64 0]
                      [])
                    none [],
                  AOper.mk none (AOp.store 4 (Operand.tmp 4) (Operand.tmp 14)) none [0, 0],
                  AOper.mk (some 5) (AOp.mv (Operand.const (Value.bool false))) none [1, 0, 1]]
def l41r3 : List AOper :=
  [AOper.mk (some 6)
                (AOp.alloc
                  [Value.int IntKind.i64 0, Value.int IntKind.i64 0,
                    Value.int IntKind.i64 0, Value.int IntKind.i64 0])
                none []]
def l41r4 : List AOper :=
  [AOper.mk (some 15) (AOp.mv (Operand.tmp 0)) none [],
                  AOper.mk (some 16) (AOp.len (Operand.tmp 15)) none [0],
                  AOper.mk (some 17) (AOp.mv (Operand.const (Value.int IntKind.i64 0))) none []]
def l41r5 : List AOper :=
  [AOper.mk (some 18) (AOp.bin BinOp.lss (Operand.tmp 17) (Operand.tmp 16)) none []]
def l41r6 : List AOper :=
  [AOper.mk (some 19) (AOp.mv (Operand.tmp 17)) none [],
                                AOper.mk (some 20) (AOp.idxA 1 (Operand.tmp 15) (Operand.tmp 17)) none [],
                                AOper.mk (some 21) (AOp.load false 1 (Operand.tmp 20)) none [1],
                                AOper.mk (some 7) (AOp.mv (Operand.tmp 19)) none [0, 0, 1, 2],
                                AOper.mk (some 8) (AOp.mv (Operand.tmp 21)) none [2, 3, 0, 1, 2, 3]]
def l41r7 : List AOper :=
  [AOper.mk (some 22) (AOp.mv (Operand.tmp 1)) none [],
                                    AOper.mk (some 23) (AOp.mv (Operand.tmp 7)) none [],
                                    AOper.mk (some 24) (AOp.idxA 1 (Operand.tmp 22) (Operand.tmp 23)) none [0, 1],
                                    AOper.mk (some 25) (AOp.load false 1 (Operand.tmp 24)) none [2],
                                    AOper.mk (some 26) (AOp.mv (Operand.tmp 8)) none [],
                                    AOper.mk (some 27)
                                      (AOp.bin BinOp.sub (Operand.tmp 26)
                                        (Operand.const (Value.int IntKind.i64 1)))
                                      none [4],
                                    AOper.mk (some 28) (AOp.call 32 [Operand.tmp 25, Operand.tmp 27]) none [3, 5],
                                    AOper.mk (some 29) (AOp.un UnOp.not (Operand.tmp 28)) none [6]]
def l41r8 : List AOper :=
  [AOper.mk (some 30)
                                          (AOp.build
                                            [Value.int IntKind.i64 0, Value.int IntKind.i64 0,
                                              Value.int IntKind.i64 0, Value.int IntKind.i64 0]
                                            [])
                                          none [],
                                        AOper.mk none (AOp.store 4 (Operand.tmp 4) (Operand.tmp 30)) none [0, 0],
                                        AOper.mk (some 5) (AOp.mv (Operand.const (Value.bool false))) none [1, 0, 1]]
def l41r9 : List AOper :=
  [AOper.mk (some 31) (AOp.mv (Operand.tmp 7)) none [],
                                  AOper.mk (some 32) (AOp.mv (Operand.tmp 1)) none [],
                                  AOper.mk (some 33) (AOp.mv (Operand.tmp 7)) none [],
                                  AOper.mk (some 34) (AOp.idxA 1 (Operand.tmp 32) (Operand.tmp 33)) none [1, 2],
                                  AOper.mk (some 35) (AOp.load false 1 (Operand.tmp 34)) none [3],
                                  AOper.mk (some 36) (AOp.idxP 1 4 (Operand.tmp 6) (Operand.tmp 31)) none
                                    [0, 0, 1, 2, 3, 4],
                                  AOper.mk none (AOp.store 1 (Operand.tmp 36) (Operand.tmp 35)) none
                                    [5, 4, 0, 1, 2, 3, 4]]
def l41r10 : List AOper :=
  [AOper.mk (some 37)
                              (AOp.bin BinOp.add (Operand.tmp 17) (Operand.const (Value.int IntKind.i64 1)))
                              none [],
                            AOper.mk (some 17) (AOp.mv (Operand.tmp 37)) none [0]]
def l41r11 : List AOper :=
  [AOper.mk (some 38) (AOp.load true 4 (Operand.tmp 6)) none [],
                  AOper.mk none (AOp.store 4 (Operand.tmp 4) (Operand.tmp 38)) none [0, 0],
                  AOper.mk (some 5) (AOp.mv (Operand.const (Value.bool true))) none [1, 0, 1]]
def l41 : AFn :=
  (AFn.mk 39 2
    (ACode.seq
      (ACode.reg l41r0)
      (ACode.seq
        (ACode.seq
          (ACode.reg l41r1)
          (ACode.cond (Operand.tmp 13)
            (ACode.seq
              (ACode.reg l41r2)
              ACode.ret)
            ACode.skip))
        (ACode.seq
          (ACode.reg l41r3)
          (ACode.seq
            (ACode.seq
              (ACode.reg l41r4)
              (ACode.block 0
                (ACode.loop
                  (ACode.seq
                    (ACode.reg l41r5)
                    (ACode.seq (ACode.cond (Operand.tmp 18) ACode.skip (ACode.exit 0))
                      (ACode.seq
                        (ACode.block 1
                          (ACode.seq
                            (ACode.reg l41r6)
                            (ACode.seq
                              (ACode.seq
                                (ACode.reg l41r7)
                                (ACode.cond (Operand.tmp 29)
                                  (ACode.seq
                                    (ACode.reg l41r8)
                                    ACode.ret)
                                  ACode.skip))
                              (ACode.reg l41r9))))
                        (ACode.reg l41r10)))))))
            (ACode.seq
              (ACode.reg l41r11)
              ACode.ret)))))
    [ARes.cell 4 true 4, ARes.tmp 5])
theorem l41_eq : lowFn Try.prog 41 = some l41 := by kernel_rfl
def l42r0 : List AOper :=
  [AOper.mk (some 2) (AOp.box (Operand.tmp 0)) none [],
          AOper.mk (some 4) (AOp.mv (Operand.const (Value.int IntKind.i64 0))) none []]
def l42r1 : List AOper :=
  [AOper.mk (some 5) (AOp.mv (Operand.const (Value.int IntKind.i64 0))) none []]
def l42r2 : List AOper :=
  [AOper.mk (some 8) (AOp.mv (Operand.tmp 1)) none [], AOper.mk (some 9) (AOp.len (Operand.tmp 8)) none [0],
                AOper.mk (some 10) (AOp.mv (Operand.const (Value.int IntKind.i64 0))) none []]
def l42r3 : List AOper :=
  [AOper.mk (some 11) (AOp.bin BinOp.lss (Operand.tmp 10) (Operand.tmp 9)) none []]
def l42r4 : List AOper :=
  [AOper.mk (some 12) (AOp.mv (Operand.tmp 10)) none [],
                              AOper.mk (some 13) (AOp.idxA 1 (Operand.tmp 8) (Operand.tmp 10)) none [],
                              AOper.mk (some 14) (AOp.load false 1 (Operand.tmp 13)) none [1],
                              AOper.mk (some 6) (AOp.mv (Operand.tmp 12)) none [0, 0, 1, 2],
                              AOper.mk (some 7) (AOp.mv (Operand.tmp 14)) none [2, 3, 0, 1, 2, 3]]
def l42r5 : List AOper :=
  [AOper.mk (some 15) (AOp.mv (Operand.tmp 5)) none [],
                              AOper.mk (some 16) (AOp.mv (Operand.tmp 6)) none [],
                              AOper.mk (some 17) (AOp.idxP 1 4 (Operand.tmp 2) (Operand.tmp 16)) none [1],
                              AOper.mk (some 18) (AOp.load false 1 (Operand.tmp 17)) none [2],
                              AOper.mk (some 19) (AOp.mv (Operand.tmp 7)) none [],
                              AOper.mk (some 20) (AOp.bin BinOp.mul (Operand.tmp 18) (Operand.tmp 19)) none [3, 4],
                              AOper.mk (some 21) (AOp.bin BinOp.add (Operand.tmp 15) (Operand.tmp 20)) none [0, 5],
                              AOper.mk (some 5) (AOp.mv (Operand.tmp 21)) none [6, 0, 1, 2, 3, 4, 5, 6]]
def l42r6 : List AOper :=
  [AOper.mk (some 22)
                            (AOp.bin BinOp.add (Operand.tmp 10) (Operand.const (Value.int IntKind.i64 1)))
                            none [],
                          AOper.mk (some 10) (AOp.mv (Operand.tmp 22)) none [0]]
def l42r7 : List AOper :=
  [AOper.mk (some 23) (AOp.mv (Operand.tmp 5)) none [],
                AOper.mk (some 4) (AOp.mv (Operand.tmp 23)) none [0, 0]]
def l42 : AFn :=
  (AFn.mk 24 2
    (ACode.seq
      (ACode.reg l42r0)
      (ACode.seq (ACode.reg l42r1)
        (ACode.seq
          (ACode.seq
            (ACode.reg l42r2)
            (ACode.block 0
              (ACode.loop
                (ACode.seq (ACode.reg l42r3)
                  (ACode.seq (ACode.cond (Operand.tmp 11) ACode.skip (ACode.exit 0))
                    (ACode.seq
                      (ACode.block 1
                        (ACode.seq
                          (ACode.reg l42r4)
                          (ACode.reg l42r5)))
                      (ACode.reg l42r6)))))))
          (ACode.seq
            (ACode.reg l42r7)
            ACode.ret))))
    [ARes.tmp 4])
theorem l42_eq : lowFn Try.prog 42 = some l42 := by kernel_rfl
def l43r0 : List AOper :=
  [AOper.mk (some 2) (AOp.mv (Operand.const (Value.slice none 0 0))) none []]
def l43r1 : List AOper :=
  [AOper.mk (some 6) (AOp.mv (Operand.tmp 0)) none [], AOper.mk (some 7) (AOp.len (Operand.tmp 6)) none [0],
            AOper.mk (some 8) (AOp.mkslice 1 [Value.int IntKind.i64 0] (Operand.tmp 7) (Operand.tmp 7)) none
              [1, 1],
            AOper.mk (some 3) (AOp.mv (Operand.tmp 8)) none [2, 0, 1, 2]]
def l43r2 : List AOper :=
  [AOper.mk (some 4) (AOp.mv (Operand.const (Value.int IntKind.i64 1))) none []]
def l43r3 : List AOper :=
  [AOper.mk (some 9) (AOp.mv (Operand.tmp 0)) none [],
                  AOper.mk (some 10) (AOp.len (Operand.tmp 9)) none [0],
                  AOper.mk (some 11)
                    (AOp.bin BinOp.sub (Operand.tmp 10) (Operand.const (Value.int IntKind.i64 1))) none [1],
                  AOper.mk (some 5) (AOp.mv (Operand.tmp 11)) none [2, 0, 1, 2]]
def l43r4 : List AOper :=
  [AOper.mk (some 12) (AOp.mv (Operand.tmp 5)) none [],
                          AOper.mk (some 13)
                            (AOp.bin BinOp.geq (Operand.tmp 12) (Operand.const (Value.int IntKind.i64 0)))
                            none [0]]
def l43r5 : List AOper :=
  [AOper.mk (some 16) (AOp.mv (Operand.tmp 3)) none [],
                              AOper.mk (some 17) (AOp.mv (Operand.tmp 5)) none [],
                              AOper.mk (some 18) (AOp.mv (Operand.tmp 4)) none [],
                              AOper.mk (some 19) (AOp.idxA 1 (Operand.tmp 16) (Operand.tmp 17)) none [0, 1, 0, 1, 2],
                              AOper.mk none (AOp.store 1 (Operand.tmp 19) (Operand.tmp 18)) none [3, 2, 0, 1, 2]]
def l43r6 : List AOper :=
  [AOper.mk (some 20) (AOp.mv (Operand.tmp 4)) none [],
                              AOper.mk (some 21) (AOp.mv (Operand.tmp 0)) none [],
                              AOper.mk (some 22) (AOp.mv (Operand.tmp 5)) none [],
                              AOper.mk (some 23) (AOp.idxA 1 (Operand.tmp 21) (Operand.tmp 22)) none [1, 2],
                              AOper.mk (some 24) (AOp.load false 1 (Operand.tmp 23)) none [3],
                              AOper.mk (some 25) (AOp.bin BinOp.mul (Operand.tmp 20) (Operand.tmp 24)) none [0, 4],
                              AOper.mk (some 4) (AOp.mv (Operand.tmp 25)) none [5, 0, 1, 2, 3, 4, 5]]
def l43r7 : List AOper :=
  [AOper.mk (some 14) (AOp.mv (Operand.tmp 5)) none [],
                          AOper.mk (some 15)
                            (AOp.bin BinOp.sub (Operand.tmp 14) (Operand.const (Value.int IntKind.i64 1)))
                            none [0],
                          AOper.mk (some 5) (AOp.mv (Operand.tmp 15)) none [1, 0, 1]]
def l43r8 : List AOper :=
  [AOper.mk (some 26) (AOp.mv (Operand.tmp 3)) none [],
                  AOper.mk (some 2) (AOp.mv (Operand.tmp 26)) none [0, 0]]
def l43 : AFn :=
  (AFn.mk 27 1
    (ACode.seq (ACode.reg l43r0)
      (ACode.seq
        (ACode.reg l43r1)
        (ACode.seq
          (ACode.reg l43r2)
          (ACode.seq
            (ACode.seq
              (ACode.reg l43r3)
              (ACode.block 0
                (ACode.loop
                  (ACode.seq
                    (ACode.seq
                      (ACode.reg l43r4)
                      (ACode.cond (Operand.tmp 13) ACode.skip (ACode.exit 0)))
                    (ACode.seq
                      (ACode.block 1
                        (ACode.seq
                          (ACode.reg l43r5)
                          (ACode.reg l43r6)))
                      (ACode.reg l43r7))))))
            (ACode.seq
              (ACode.reg l43r8)
              ACode.ret)))))
    [ARes.tmp 2])
theorem l43_eq : lowFn Try.prog 43 = some l43 := by kernel_rfl
def l44r0 : List AOper :=
  [AOper.mk (some 2) (AOp.mv (Operand.const (Value.slice none 0 0))) none []]
def l44r1 : List AOper :=
  [AOper.mk (some 6) (AOp.mv (Operand.tmp 0)) none [], AOper.mk (some 7) (AOp.len (Operand.tmp 6)) none [0],
            AOper.mk (some 8) (AOp.mkslice 1 [Value.int IntKind.i64 0] (Operand.tmp 7) (Operand.tmp 7)) none
              [1, 1],
            AOper.mk (some 3) (AOp.mv (Operand.tmp 8)) none [2, 0, 1, 2]]
def l44r2 : List AOper :=
  [AOper.mk (some 4) (AOp.mv (Operand.const (Value.int IntKind.i64 1))) none []]
def l44r3 : List AOper :=
  [AOper.mk (some 5) (AOp.mv (Operand.const (Value.int IntKind.i64 0))) none []]
def l44r4 : List AOper :=
  [AOper.mk (some 9) (AOp.mv (Operand.tmp 5)) none [],
                          AOper.mk (some 10) (AOp.mv (Operand.tmp 0)) none [],
                          AOper.mk (some 11) (AOp.len (Operand.tmp 10)) none [1],
                          AOper.mk (some 12) (AOp.bin BinOp.lss (Operand.tmp 9) (Operand.tmp 11)) none [0, 2]]
def l44r5 : List AOper :=
  [AOper.mk (some 15) (AOp.mv (Operand.tmp 3)) none [],
                              AOper.mk (some 16) (AOp.mv (Operand.tmp 5)) none [],
                              AOper.mk (some 17) (AOp.mv (Operand.tmp 4)) none [],
                              AOper.mk (some 18) (AOp.idxA 1 (Operand.tmp 15) (Operand.tmp 16)) none [0, 1, 0, 1, 2],
                              AOper.mk none (AOp.store 1 (Operand.tmp 18) (Operand.tmp 17)) none [3, 2, 0, 1, 2]]
def l44r6 : List AOper :=
  [AOper.mk (some 19) (AOp.mv (Operand.tmp 4)) none [],
                              AOper.mk (some 20) (AOp.mv (Operand.tmp 0)) none [],
                              AOper.mk (some 21) (AOp.mv (Operand.tmp 5)) none [],
                              AOper.mk (some 22) (AOp.idxA 1 (Operand.tmp 20) (Operand.tmp 21)) none [1, 2],
                              AOper.mk (some 23) (AOp.load false 1 (Operand.tmp 22)) none [3],
                              AOper.mk (some 24) (AOp.bin BinOp.mul (Operand.tmp 19) (Operand.tmp 23)) none [0, 4],
                              AOper.mk (some 4) (AOp.mv (Operand.tmp 24)) none [5, 0, 1, 2, 3, 4, 5]]
def l44r7 : List AOper :=
  [AOper.mk (some 13) (AOp.mv (Operand.tmp 5)) none [],
                          AOper.mk (some 14)
                            (AOp.bin BinOp.add (Operand.tmp 13) (Operand.const (Value.int IntKind.i64 1)))
                            none [0],
                          AOper.mk (some 5) (AOp.mv (Operand.tmp 14)) none [1, 0, 1]]
def l44r8 : List AOper :=
  [AOper.mk (some 25) (AOp.mv (Operand.tmp 3)) none [],
                  AOper.mk (some 2) (AOp.mv (Operand.tmp 25)) none [0, 0]]
def l44 : AFn :=
  (AFn.mk 26 1
    (ACode.seq (ACode.reg l44r0)
      (ACode.seq
        (ACode.reg l44r1)
        (ACode.seq
          (ACode.reg l44r2)
          (ACode.seq
            (ACode.seq
              (ACode.reg l44r3)
              (ACode.block 0
                (ACode.loop
                  (ACode.seq
                    (ACode.seq
                      (ACode.reg l44r4)
                      (ACode.cond (Operand.tmp 12) ACode.skip (ACode.exit 0)))
                    (ACode.seq
                      (ACode.block 1
                        (ACode.seq
                          (ACode.reg l44r5)
                          (ACode.reg l44r6)))
                      (ACode.reg l44r7))))))
            (ACode.seq
              (ACode.reg l44r8)
              ACode.ret)))))
    [ARes.tmp 2])
theorem l44_eq : lowFn Try.prog 44 = some l44 := by kernel_rfl
def l45r0 : List AOper :=
  [AOper.mk (some 2) (AOp.mv (Operand.const (Value.slice none 0 0))) none []]
def l45r1 : List AOper :=
  [AOper.mk (some 3) (AOp.bslice 1 [Value.int IntKind.i64 0] [] 0) none [],
            AOper.mk (some 4) (AOp.mv (Operand.tmp 0)) none [],
            AOper.mk (some 5) (AOp.append 1 (Operand.tmp 3) (Operand.tmp 4)) none [0, 1],
            AOper.mk (some 2) (AOp.mv (Operand.tmp 5)) none [2, 2, 0, 1, 2]]
def l45 : AFn :=
  (AFn.mk 6 1
    (ACode.seq (ACode.reg l45r0)
      (ACode.seq
        (ACode.reg l45r1)
        ACode.ret))
    [ARes.tmp 2])
theorem l45_eq : lowFn Try.prog 45 = some l45 := by kernel_rfl
def l46r0 : List AOper :=
  [AOper.mk (some 2) (AOp.mv (Operand.const (Value.slice none 0 0))) none []]
def l46r1 : List AOper :=
  [AOper.mk (some 3) (AOp.mv (Operand.tmp 0)) none [], AOper.mk (some 4) (AOp.call 38 [Operand.tmp 3]) none [0],
            AOper.mk (some 2) (AOp.mv (Operand.tmp 4)) none [1, 1, 0, 1]]
def l46 : AFn :=
  (AFn.mk 5 1
    (ACode.seq (ACode.reg l46r0)
      (ACode.seq
        (ACode.reg l46r1)
        ACode.ret))
    [ARes.tmp 2])
theorem l46_eq : lowFn Try.prog 46 = some l46 := by kernel_rfl
def l47r0 : List AOper :=
  [AOper.mk (some 1) (AOp.box (Operand.tmp 0)) none [],
          AOper.mk (some 2) (AOp.mv (Operand.const (Value.int IntKind.i64 0))) none []]
def l47r1 : List AOper :=
  [AOper.mk (some 3) (AOp.fld 1 (Operand.tmp 1)) none [],
            AOper.mk (some 4) (AOp.load false 1 (Operand.tmp 3)) none [0],
            AOper.mk (some 5) (AOp.call 33 [Operand.tmp 4]) none [1],
            AOper.mk (some 2) (AOp.mv (Operand.tmp 5)) none [2, 2, 0, 1, 2]]
def l47 : AFn :=
  (AFn.mk 6 1
    (ACode.seq
      (ACode.reg l47r0)
      (ACode.seq
        (ACode.reg l47r1)
        ACode.ret))
    [ARes.tmp 2])
theorem l47_eq : lowFn Try.prog 47 = some l47 := by kernel_rfl
def l48r0 : List AOper :=
  [AOper.mk (some 6) (AOp.mv (Operand.const (Value.bool false))) none []]
def l48r1 : List AOper :=
  [AOper.mk (some 7) (AOp.mv (Operand.const (Value.int IntKind.i64 0))) none []]
def l48r2 : List AOper :=
  [AOper.mk (some 8) (AOp.mv (Operand.tmp 7)) none [],
                      AOper.mk (some 9) (AOp.mv (Operand.tmp 0)) none [],
                      AOper.mk (some 10) (AOp.len (Operand.tmp 9)) none [1],
                      AOper.mk (some 11) (AOp.bin BinOp.lss (Operand.tmp 8) (Operand.tmp 10)) none [0, 2]]
def l48r3 : List AOper :=
  [AOper.mk (some 14) (AOp.mv (Operand.tmp 0)) none [],
                          AOper.mk (some 15) (AOp.mv (Operand.tmp 7)) none [],
                          AOper.mk (some 16) (AOp.idxA 1 (Operand.tmp 14) (Operand.tmp 15)) none [0, 1],
                          AOper.mk (some 17) (AOp.load false 1 (Operand.tmp 16)) none [2],
                          AOper.mk (some 18) (AOp.mv (Operand.tmp 1)) none [],
                          AOper.mk (some 19) (AOp.mv (Operand.tmp 2)) none [],
                          AOper.mk (some 20) (AOp.call 35 [Operand.tmp 17, Operand.tmp 18, Operand.tmp 19]) none
                            [3, 4, 5],
                          AOper.mk (some 21) (AOp.un UnOp.not (Operand.tmp 20)) none [6]]
def l48r4 : List AOper :=
  [AOper.mk (some 6) (AOp.mv (Operand.const (Value.bool false))) none []]
def l48r5 : List AOper :=
  [AOper.mk (some 12) (AOp.mv (Operand.tmp 7)) none [],
                      AOper.mk (some 13)
                        (AOp.bin BinOp.add (Operand.tmp 12) (Operand.const (Value.int IntKind.i64 1))) none
                        [0],
                      AOper.mk (some 7) (AOp.mv (Operand.tmp 13)) none [1, 0, 1]]
def l48r6 : List AOper :=
  [AOper.mk (some 6) (AOp.mv (Operand.const (Value.bool true))) none []]
def l48 : AFn :=
  (AFn.mk 22 3
    (ACode.seq (ACode.reg l48r0)
      (ACode.seq
        (ACode.seq
          (ACode.reg l48r1)
          (ACode.block 0
            (ACode.loop
              (ACode.seq
                (ACode.seq
                  (ACode.reg l48r2)
                  (ACode.cond (Operand.tmp 11) ACode.skip (ACode.exit 0)))
                (ACode.seq
                  (ACode.block 1
                    (ACode.seq
                      (ACode.reg l48r3)
                      (ACode.cond (Operand.tmp 21)
                        (ACode.seq (ACode.reg l48r4)
                          ACode.ret)
                        ACode.skip)))
                  (ACode.reg l48r5))))))
        (ACode.seq (ACode.reg l48r6) ACode.ret)))
    [ARes.tmp 6])
theorem l48_eq : lowFn Try.prog 48 = some l48 := by kernel_rfl
end Go.Proofs.Yticgaegkhcjeeaa
