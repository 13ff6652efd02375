import Derived.Test.YtjnlcbjehhpjiaaCVwR
import Derived.Test.YtjnlcbjehhpjiaaProg
import Derived.KernelRfl
set_option maxRecDepth 100000
namespace Go.Proofs.Ytjnlcbjehhpjiaa
open Vw Go
def l8r0 : List AOper :=
  [AOper.mk (some 1) (AOp.box (Operand.tmp 0)) none [],
          AOper.mk (some 2) (AOp.mv (Operand.const (Value.bool false))) none []]
def l8r1 : List AOper :=
  [AOper.mk (some 3) (AOp.mv (Operand.const (Value.int IntKind.i64 1048576))) none []]
def l8r2 : List AOper :=
  [AOper.mk (some 11) (AOp.load true 3 (Operand.tmp 1)) none [],
              AOper.mk (some 12) (AOp.mv (Operand.tmp 3)) none [],
              AOper.mk (some 13) (AOp.call 22 [Operand.tmp 11, Operand.tmp 12]) none [0, 1],
              AOper.mk (some 3) (AOp.mv (Operand.tmp 13)) none [2, 2, 0, 1, 2]]
def l8r3 : List AOper :=
  [AOper.mk (some 14) (AOp.mv (Operand.tmp 3)) none [],
                  AOper.mk (some 15)
                    (AOp.bin BinOp.lss (Operand.tmp 14) (Operand.const (Value.int IntKind.i64 0))) none
                    [0]]
def l8r4 : List AOper :=
  [AOper.mk (some 2) (AOp.mv (Operand.const (Value.bool true))) none []]
def l8r5 : List AOper :=
  [AOper.mk (some 16) (AOp.load true 3 (Operand.tmp 1)) none [],
                  AOper.mk (some 17) (AOp.call 24 [Operand.tmp 16]) none [0],
                  AOper.mk (some 18) (AOp.call 31 [Operand.tmp 17]) none [1, 1],
                  AOper.mk (some 4) (AOp.mv (Operand.tmp 18)) none [2, 2, 0, 1, 2]]
def l8r6 : List AOper :=
  [AOper.mk (some 19) (AOp.load true 3 (Operand.tmp 1)) none [],
                    AOper.mk (some 20) (AOp.call 24 [Operand.tmp 19]) none [0],
                    AOper.mk (some 5)
                      (AOp.alloc [Value.int IntKind.i64 0, Value.slice none 0 0, Value.slice none 0 0]) none
                      [],
                    AOper.mk none (AOp.store 3 (Operand.tmp 5) (Operand.tmp 20)) none [2, 1, 1, 0, 1, 2]]
def l8r7 : List AOper :=
  [AOper.mk (some 21) (AOp.load true 3 (Operand.tmp 5)) none [],
                      AOper.mk (some 22) (AOp.call 32 [Operand.tmp 21]) none [0],
                      AOper.mk (some 6) (AOp.mv (Operand.tmp 22)) none [1, 1, 0, 1]]
def l8r8 : List AOper :=
  [AOper.mk (some 23) (AOp.mv (Operand.tmp 6)) none [],
                          AOper.mk (some 24) (AOp.mv (Operand.tmp 4)) none [],
                          AOper.mk (some 25) (AOp.call 30 [Operand.tmp 23, Operand.tmp 24]) none [0, 1],
                          AOper.mk (some 26) (AOp.un UnOp.not (Operand.tmp 25)) none [2]]
def l8r9 : List AOper :=
  [AOper.mk (some 2) (AOp.mv (Operand.const (Value.bool false))) none []]
def l8r10a : List AOper :=
  [AOper.mk (some 27) (AOp.load true 3 (Operand.tmp 5)) none [], AOper.mk (some 28) (AOp.load true 3 (Operand.tmp 1)) none [], AOper.mk (some 29) (AOp.call 24 [Operand.tmp 28]) none [1]]
def l8r10b : List AOper :=
  [AOper.mk (some 30) (AOp.call 26 [Operand.tmp 27, Operand.tmp 29]) none [0, 2, 2], AOper.mk (some 31) (AOp.un UnOp.not (Operand.tmp 30)) none [3]]
def l8r10 : List AOper := l8r10a ++ l8r10b
def l8r11 : List AOper :=
  [AOper.mk (some 2) (AOp.mv (Operand.const (Value.bool false))) none []]
def l8r12 : List AOper :=
  [AOper.mk (some 7) (AOp.mv (Operand.const (Value.int IntKind.i64 1))) none []]
def l8r13 : List AOper :=
  [AOper.mk (some 32) (AOp.load true 3 (Operand.tmp 5)) none [],
                              AOper.mk (some 33) (AOp.mv (Operand.tmp 7)) none [],
                              AOper.mk (some 34) (AOp.call 33 [Operand.tmp 32, Operand.tmp 33]) none [0, 1],
                              AOper.mk (some 7) (AOp.mv (Operand.tmp 34)) none [2, 2, 0, 1, 2]]
def l8r14 : List AOper :=
  [AOper.mk (some 35) (AOp.mv (Operand.tmp 7)) none [],
                                  AOper.mk (some 36)
                                    (AOp.bin BinOp.lss (Operand.tmp 35)
                                      (Operand.const (Value.int IntKind.i64 0)))
                                    none [0],
                                  AOper.mk (some 37) (AOp.mv (Operand.tmp 36)) none [1],
                                  AOper.mk (some 38) (AOp.mv (Operand.tmp 6)) (some (37, false)) [2],
                                  AOper.mk (some 39) (AOp.mv (Operand.tmp 4)) (some (37, false)) [2],
                                  AOper.mk (some 40) (AOp.call 30 [Operand.tmp 38, Operand.tmp 39]) (some (37, false))
                                    [3, 4, 2, 2],
                                  AOper.mk (some 41) (AOp.un UnOp.not (Operand.tmp 40)) (some (37, false)) [5, 2],
                                  AOper.mk (some 42)
                                    (AOp.pick (Operand.tmp 37) (Operand.const (Value.bool true)) (Operand.tmp 41)) none
                                    [2, 6]]
def l8r15 : List AOper :=
  [AOper.mk (some 2) (AOp.mv (Operand.const (Value.bool false))) none []]
def l8r16 : List AOper :=
  [AOper.mk (some 8) (AOp.mv (Operand.const (Value.int IntKind.i64 1))) none
                                    []]
def l8r17 : List AOper :=
  [AOper.mk (some 43) (AOp.mv (Operand.tmp 6)) none [],
                                    AOper.mk (some 44) (AOp.mv (Operand.tmp 8)) none [],
                                    AOper.mk (some 45) (AOp.call 34 [Operand.tmp 43, Operand.tmp 44]) none [0, 1],
                                    AOper.mk (some 8) (AOp.mv (Operand.tmp 45)) none [2, 2, 0, 1, 2]]
def l8r18 : List AOper :=
  [AOper.mk (some 9) (AOp.mv (Operand.const (Value.int IntKind.i64 1)))
                                        none []]
def l8r19 : List AOper :=
  [AOper.mk (some 46) (AOp.mv (Operand.tmp 6)) none [],
                                        AOper.mk (some 47) (AOp.mv (Operand.tmp 9)) none [],
                                        AOper.mk (some 48) (AOp.call 35 [Operand.tmp 46, Operand.tmp 47]) none [0, 1],
                                        AOper.mk (some 9) (AOp.mv (Operand.tmp 48)) none [2, 2, 0, 1, 2]]
def l8r20 : List AOper :=
  [AOper.mk (some 49) (AOp.mv (Operand.tmp 9)) none [],
                                            AOper.mk (some 50)
                                              (AOp.bin BinOp.lss (Operand.tmp 49)
                                                (Operand.const (Value.int IntKind.i64 0)))
                                              none [0]]
def l8r21 : List AOper :=
  [AOper.mk (some 2) (AOp.mv (Operand.const (Value.bool false))) none []]
def l8r22 : List AOper :=
  [AOper.mk (some 51) (AOp.mv (Operand.tmp 9)) none [],
                                              AOper.mk (some 52) (AOp.mv (Operand.tmp 8)) none [],
                                              AOper.mk (some 53) (AOp.bin BinOp.neq (Operand.tmp 51) (Operand.tmp 52))
                                                none [0, 1]]
def l8r23 : List AOper :=
  [AOper.mk (some 2) (AOp.mv (Operand.const (Value.bool false))) none []]
def l8r24 : List AOper :=
  [AOper.mk (some 54) (AOp.load true 3 (Operand.tmp 1)) none [],
                                              AOper.mk (some 55) (AOp.call 24 [Operand.tmp 54]) none [0],
                                              AOper.mk (some 56) (AOp.call 32 [Operand.tmp 55]) none [1, 1],
                                              AOper.mk (some 10) (AOp.mv (Operand.tmp 56)) none [2, 2, 0, 1, 2]]
def l8r25 : List AOper :=
  [AOper.mk (some 57) (AOp.mv (Operand.tmp 10)) none [],
                                                  AOper.mk (some 58) (AOp.mv (Operand.tmp 4)) none [],
                                                  AOper.mk (some 59) (AOp.call 30 [Operand.tmp 57, Operand.tmp 58]) none
                                                    [0, 1],
                                                  AOper.mk (some 60) (AOp.un UnOp.not (Operand.tmp 59)) none [2]]
def l8r26 : List AOper :=
  [AOper.mk (some 2) (AOp.mv (Operand.const (Value.bool false))) none
                                                        []]
def l8r27 : List AOper :=
  [AOper.mk (some 9)
                                                    (AOp.mv (Operand.const (Value.int IntKind.i64 1))) none
                                                    []]
def l8r28 : List AOper :=
  [AOper.mk (some 61) (AOp.mv (Operand.tmp 6)) none [],
                                                    AOper.mk (some 62) (AOp.mv (Operand.tmp 9)) none [],
                                                    AOper.mk (some 63) (AOp.call 35 [Operand.tmp 61, Operand.tmp 62])
                                                      none [0, 1],
                                                    AOper.mk (some 9) (AOp.mv (Operand.tmp 63)) none [2, 2, 0, 1, 2]]
def l8r29 : List AOper :=
  [AOper.mk (some 64) (AOp.mv (Operand.tmp 9)) none [],
                                                        AOper.mk (some 65)
                                                          (AOp.bin BinOp.lss (Operand.tmp 64)
                                                            (Operand.const (Value.int IntKind.i64 0)))
                                                          none [0]]
def l8r30 : List AOper :=
  [AOper.mk (some 2) (AOp.mv (Operand.const (Value.bool false)))
                                                              none []]
def l8r31 : List AOper :=
  [AOper.mk (some 66) (AOp.mv (Operand.tmp 9)) none [],
                                                          AOper.mk (some 67) (AOp.mv (Operand.tmp 8)) none [],
                                                          AOper.mk (some 68)
                                                            (AOp.bin BinOp.neq (Operand.tmp 66) (Operand.tmp 67)) none
                                                            [0, 1]]
def l8r32 : List AOper :=
  [AOper.mk (some 2)
                                                                (AOp.mv (Operand.const (Value.bool false))) none []]
def l8r33 : List AOper :=
  [AOper.mk (some 2) (AOp.mv (Operand.const (Value.bool true)))
                                                            none []]
def l8 : AFn :=
  (AFn.mk 69 1
    (ACode.seq
      (ACode.reg l8r0)
      (ACode.seq
        (ACode.reg l8r1)
        (ACode.seq
          (ACode.reg l8r2)
          (ACode.seq
            (ACode.seq
              (ACode.reg l8r3)
              (ACode.cond (Operand.tmp 15)
                (ACode.seq (ACode.reg l8r4) ACode.ret)
                ACode.skip))
            (ACode.seq
              (ACode.reg l8r5)
              (ACode.seq
                (ACode.reg l8r6)
                (ACode.seq
                  (ACode.reg l8r7)
                  (ACode.seq
                    (ACode.seq
                      (ACode.reg l8r8)
                      (ACode.cond (Operand.tmp 26)
                        (ACode.seq (ACode.reg l8r9)
                          ACode.ret)
                        ACode.skip))
                    (ACode.seq
                      (ACode.seq
                        (ACode.draw l8r10)
                        (ACode.cond (Operand.tmp 31)
                          (ACode.seq (ACode.reg l8r11)
                            ACode.ret)
                          ACode.skip))
                      (ACode.seq
                        (ACode.reg l8r12)
                        (ACode.seq
                          (ACode.reg l8r13)
                          (ACode.seq
                            (ACode.seq
                              (ACode.reg l8r14)
                              (ACode.cond (Operand.tmp 42)
                                (ACode.seq
                                  (ACode.reg l8r15)
                                  ACode.ret)
                                ACode.skip))
                            (ACode.seq
                              (ACode.reg l8r16)
                              (ACode.seq
                                (ACode.reg l8r17)
                                (ACode.seq
                                  (ACode.reg l8r18)
                                  (ACode.seq
                                    (ACode.reg l8r19)
                                    (ACode.seq
                                      (ACode.seq
                                        (ACode.reg l8r20)
                                        (ACode.cond (Operand.tmp 50)
                                          (ACode.seq
                                            (ACode.reg l8r21)
                                            ACode.ret)
                                          ACode.skip))
                                      (ACode.seq
                                        (ACode.seq
                                          (ACode.reg l8r22)
                                          (ACode.cond (Operand.tmp 53)
                                            (ACode.seq
                                              (ACode.reg l8r23)
                                              ACode.ret)
                                            ACode.skip))
                                        (ACode.seq
                                          (ACode.reg l8r24)
                                          (ACode.seq
                                            (ACode.seq
                                              (ACode.reg l8r25)
                                              (ACode.cond (Operand.tmp 60)
                                                (ACode.seq
                                                  (ACode.reg l8r26)
                                                  ACode.ret)
                                                ACode.skip))
                                            (ACode.seq
                                              (ACode.reg l8r27)
                                              (ACode.seq
                                                (ACode.reg l8r28)
                                                (ACode.seq
                                                  (ACode.seq
                                                    (ACode.reg l8r29)
                                                    (ACode.cond (Operand.tmp 65)
                                                      (ACode.seq
                                                        (ACode.reg l8r30)
                                                        ACode.ret)
                                                      ACode.skip))
                                                  (ACode.seq
                                                    (ACode.seq
                                                      (ACode.reg l8r31)
                                                      (ACode.cond (Operand.tmp 68)
                                                        (ACode.seq
                                                          (ACode.reg l8r32)
                                                          ACode.ret)
                                                        ACode.skip))
                                                    (ACode.seq
                                                      (ACode.reg l8r33)
                                                      ACode.ret)))))))))))))))))))))))))
    [ARes.tmp 2])
theorem l8_eq : lowFn Try.prog 8 = some l8 := by kernel_rfl
def l22r0 : List AOper :=
  [AOper.mk (some 2) (AOp.box (Operand.tmp 0)) none [],
          AOper.mk (some 4) (AOp.mv (Operand.const (Value.int IntKind.i64 0))) none []]
def l22r1 : List AOper :=
  [AOper.mk (some 5) (AOp.fld 1 (Operand.tmp 2)) none [],
            AOper.mk (some 6) (AOp.load false 1 (Operand.tmp 5)) none [0],
            AOper.mk (some 7) (AOp.mv (Operand.tmp 1)) none [],
            AOper.mk (some 8) (AOp.call 51 [Operand.tmp 6, Operand.tmp 7]) none [1, 2],
            AOper.mk (some 1) (AOp.mv (Operand.tmp 8)) none [3, 3, 0, 1, 2, 3]]
def l22r2 : List AOper :=
  [AOper.mk (some 9) (AOp.mv (Operand.tmp 1)) none [],
                AOper.mk (some 10)
                  (AOp.bin BinOp.lss (Operand.tmp 9) (Operand.const (Value.int IntKind.i64 0))) none [0]]
def l22r3 : List AOper :=
  [AOper.mk (some 4) (AOp.mv (Operand.const (Value.int IntKind.i64 (-1)))) none []]
def l22r4 : List AOper :=
  [AOper.mk (some 11) (AOp.fld 2 (Operand.tmp 2)) none [],
                AOper.mk (some 12) (AOp.load false 1 (Operand.tmp 11)) none [0],
                AOper.mk (some 13) (AOp.mv (Operand.tmp 1)) none [],
                AOper.mk (some 14) (AOp.call 51 [Operand.tmp 12, Operand.tmp 13]) none [1, 2],
                AOper.mk (some 1) (AOp.mv (Operand.tmp 14)) none [3, 3, 0, 1, 2, 3]]
def l22r5 : List AOper :=
  [AOper.mk (some 15) (AOp.mv (Operand.tmp 1)) none [],
                    AOper.mk (some 16)
                      (AOp.bin BinOp.lss (Operand.tmp 15) (Operand.const (Value.int IntKind.i64 0))) none
                      [0]]
def l22r6 : List AOper :=
  [AOper.mk (some 4) (AOp.mv (Operand.const (Value.int IntKind.i64 (-1)))) none []]
def l22r7 : List AOper :=
  [AOper.mk (some 17) (AOp.mv (Operand.tmp 1)) none [],
                    AOper.mk (some 4) (AOp.mv (Operand.tmp 17)) none [0, 0]]
def l22 : AFn :=
  (AFn.mk 18 2
    (ACode.seq
      (ACode.reg l22r0)
      (ACode.seq
        (ACode.reg l22r1)
        (ACode.seq
          (ACode.seq
            (ACode.reg l22r2)
            (ACode.cond (Operand.tmp 10)
              (ACode.seq
                (ACode.reg l22r3)
                ACode.ret)
              ACode.skip))
          (ACode.seq
            (ACode.reg l22r4)
            (ACode.seq
              (ACode.seq
                (ACode.reg l22r5)
                (ACode.cond (Operand.tmp 16)
                  (ACode.seq
                    (ACode.reg l22r6)
                    ACode.ret)
                  ACode.skip))
              (ACode.seq
                (ACode.reg l22r7)
                ACode.ret))))))
    [ARes.tmp 4])
theorem l22_eq : lowFn Try.prog 22 = some l22 := by kernel_rfl
def l24r0 : List AOper :=
  [AOper.mk (some 1) (AOp.box (Operand.tmp 0)) none [],
          AOper.mk (some 2)
            (AOp.alloc [Value.int IntKind.i64 0, Value.slice none 0 0, Value.slice none 0 0]) none []]
def l24r1 : List AOper :=
  [AOper.mk (some 3)
              (AOp.alloc [Value.int IntKind.i64 0, Value.slice none 0 0, Value.slice none 0 0]) none []]
def l24r2 : List AOper :=
  [AOper.mk (some 4) (AOp.fld 0 (Operand.tmp 1)) none [],
              AOper.mk (some 5) (AOp.load false 1 (Operand.tmp 4)) none [0],
              AOper.mk (some 6) (AOp.fld 0 (Operand.tmp 3)) none [0, 1],
              AOper.mk none (AOp.store 1 (Operand.tmp 6) (Operand.tmp 5)) none [2, 1, 0, 1]]
def l24r3 : List AOper :=
  [AOper.mk (some 7) (AOp.fld 1 (Operand.tmp 1)) none [],
                AOper.mk (some 8) (AOp.load false 1 (Operand.tmp 7)) none [0],
                AOper.mk (some 9) (AOp.call 28 [Operand.tmp 8]) none [1],
                AOper.mk (some 10) (AOp.fld 1 (Operand.tmp 3)) none [0, 1, 2],
                AOper.mk none (AOp.store 1 (Operand.tmp 10) (Operand.tmp 9)) none [3, 2, 2, 0, 1, 2]]
def l24r4 : List AOper :=
  [AOper.mk (some 11) (AOp.fld 2 (Operand.tmp 1)) none [],
                  AOper.mk (some 12) (AOp.load false 1 (Operand.tmp 11)) none [0],
                  AOper.mk (some 13) (AOp.call 28 [Operand.tmp 12]) none [1],
                  AOper.mk (some 14) (AOp.fld 2 (Operand.tmp 3)) none [0, 1, 2],
                  AOper.mk none (AOp.store 1 (Operand.tmp 14) (Operand.tmp 13)) none [3, 2, 2, 0, 1, 2]]
def l24r5 : List AOper :=
  [AOper.mk (some 15) (AOp.load true 3 (Operand.tmp 3)) none [],
                    AOper.mk none (AOp.store 3 (Operand.tmp 2) (Operand.tmp 15)) none [0, 0]]
def l24 : AFn :=
  (AFn.mk 16 1
    (ACode.seq
      (ACode.reg l24r0)
      (ACode.seq
        (ACode.reg l24r1)
        (ACode.seq
          (ACode.reg l24r2)
          (ACode.seq
            (ACode.reg l24r3)
            (ACode.seq
              (ACode.reg l24r4)
              (ACode.seq
                (ACode.reg l24r5)
                ACode.ret))))))
    [ARes.cell 2 true 3])
theorem l24_eq : lowFn Try.prog 24 = some l24 := by kernel_rfl
def l25r0 : List AOper :=
  [AOper.mk (some 1) (AOp.box (Operand.tmp 0)) none [],
          AOper.mk (some 2) (AOp.mv (Operand.const (Value.bool false))) none []]
def l25r1 : List AOper :=
  [AOper.mk (some 5) (AOp.fld 1 (Operand.tmp 1)) none [],
              AOper.mk (some 6) (AOp.load false 1 (Operand.tmp 5)) none [0],
              AOper.mk (some 7) (AOp.call 53 [Operand.tmp 6]) none [1],
              AOper.mk (some 8) (AOp.un UnOp.not (Operand.tmp 7)) none [2],
              AOper.mk (some 9) (AOp.mv (Operand.tmp 8)) none [3, 2],
              AOper.mk (some 10) (AOp.fld 2 (Operand.tmp 1)) (some (9, false)) [4],
              AOper.mk (some 11) (AOp.load false 1 (Operand.tmp 10)) (some (9, false)) [5, 4],
              AOper.mk (some 12) (AOp.fld 1 (Operand.tmp 1)) (some (9, false)) [4],
              AOper.mk (some 13) (AOp.load false 1 (Operand.tmp 12)) (some (9, false)) [7, 4],
              AOper.mk (some 14) (AOp.len (Operand.tmp 13)) (some (9, false)) [8, 4],
              AOper.mk (some 15) (AOp.call 54 [Operand.tmp 11, Operand.tmp 14]) (some (9, false)) [6, 9, 4, 4],
              AOper.mk (some 16) (AOp.un UnOp.not (Operand.tmp 15)) (some (9, false)) [10, 4],
              AOper.mk (some 17) (AOp.pick (Operand.tmp 9) (Operand.const (Value.bool true)) (Operand.tmp 16)) none
                [4, 11],
              AOper.mk (some 18) (AOp.mv (Operand.tmp 17)) none [12, 10],
              AOper.mk (some 19) (AOp.fld 0 (Operand.tmp 1)) (some (18, false)) [13],
              AOper.mk (some 20) (AOp.load false 1 (Operand.tmp 19)) (some (18, false)) [14, 13],
              AOper.mk (some 21) (AOp.call 55 [Operand.tmp 20, Operand.const (Value.int IntKind.i64 60)])
                (some (18, false)) [15, 13, 13],
              AOper.mk (some 22) (AOp.un UnOp.not (Operand.tmp 21)) (some (18, false)) [16, 13],
              AOper.mk (some 23) (AOp.pick (Operand.tmp 18) (Operand.const (Value.bool true)) (Operand.tmp 22)) none
                [13, 17]]
def l25r2 : List AOper :=
  [AOper.mk (some 2) (AOp.mv (Operand.const (Value.bool false))) none []]
def l25r3 : List AOper :=
  [AOper.mk (some 25) (AOp.load true 3 (Operand.tmp 1)) none [],
              AOper.mk (some 26) (AOp.call 56 [Operand.tmp 25]) none [0],
              AOper.mk (some 24) (AOp.mv (Operand.tmp 26)) none [1],
              AOper.mk (some 27) (AOp.extract (Operand.tmp 24) 0) none [2],
              AOper.mk (some 28) (AOp.extract (Operand.tmp 24) 1) none [2],
              AOper.mk (some 3) (AOp.mv (Operand.tmp 27)) none [3, 1, 0, 1, 2, 3],
              AOper.mk (some 4) (AOp.mv (Operand.tmp 28)) none [4, 5, 0, 1, 2, 3, 4, 5]]
def l25r4 : List AOper :=
  [AOper.mk (some 29) (AOp.load true 3 (Operand.tmp 1)) none [],
                AOper.mk (some 30) (AOp.call 57 [Operand.tmp 29]) none [0],
                AOper.mk (some 31)
                  (AOp.bin BinOp.eql (Operand.tmp 30) (Operand.const (Value.int IntKind.i64 0))) none [1],
                AOper.mk (some 32) (AOp.mv (Operand.tmp 31)) none [2, 1],
                AOper.mk (some 33) (AOp.mv (Operand.tmp 3)) (some (32, false)) [3],
                AOper.mk (some 34)
                  (AOp.bin BinOp.geq (Operand.tmp 33) (Operand.const (Value.int IntKind.i64 0)))
                  (some (32, false)) [4, 3],
                AOper.mk (some 35) (AOp.mv (Operand.tmp 34)) (some (32, false)) [5, 3, 3],
                AOper.mk (some 36) (AOp.mv (Operand.tmp 4)) (some (35, true)) [6],
                AOper.mk (some 37)
                  (AOp.bin BinOp.lss (Operand.tmp 36) (Operand.const (Value.int IntKind.i64 60)))
                  (some (35, true)) [7, 6],
                AOper.mk (some 38) (AOp.pick (Operand.tmp 35) (Operand.tmp 37) (Operand.const (Value.bool false)))
                  (some (32, false)) [6, 8, 3],
                AOper.mk (some 39) (AOp.pick (Operand.tmp 32) (Operand.const (Value.bool true)) (Operand.tmp 38)) none
                  [3, 9],
                AOper.mk (some 2) (AOp.mv (Operand.tmp 39)) none [10, 6, 0, 1, 2, 3, 4, 5, 6, 7, 8, 9, 10]]
def l25 : AFn :=
  (AFn.mk 40 1
    (ACode.seq
      (ACode.reg l25r0)
      (ACode.seq
        (ACode.seq
          (ACode.reg l25r1)
          (ACode.cond (Operand.tmp 23)
            (ACode.seq (ACode.reg l25r2) ACode.ret)
            ACode.skip))
        (ACode.seq
          (ACode.reg l25r3)
          (ACode.seq
            (ACode.reg l25r4)
            ACode.ret))))
    [ARes.tmp 2])
theorem l25_eq : lowFn Try.prog 25 = some l25 := by kernel_rfl
def l26r0 : List AOper :=
  [AOper.mk (some 2) (AOp.box (Operand.tmp 0)) none [], AOper.mk (some 3) (AOp.box (Operand.tmp 1)) none [],
          AOper.mk (some 4) (AOp.mv (Operand.const (Value.bool false))) none []]
def l26r1 : List AOper :=
  [AOper.mk (some 5) (AOp.fld 0 (Operand.tmp 2)) none [],
              AOper.mk (some 6) (AOp.load false 1 (Operand.tmp 5)) none [0],
              AOper.mk (some 7) (AOp.fld 0 (Operand.tmp 3)) none [],
              AOper.mk (some 8) (AOp.load false 1 (Operand.tmp 7)) none [2],
              AOper.mk (some 9) (AOp.bin BinOp.neq (Operand.tmp 6) (Operand.tmp 8)) none [1, 3]]
def l26r2 : List AOper :=
  [AOper.mk (some 4) (AOp.mv (Operand.const (Value.bool false))) none []]
def l26r3 : List AOper :=
  [AOper.mk (some 10) (AOp.fld 1 (Operand.tmp 2)) none [],
                AOper.mk (some 11) (AOp.load false 1 (Operand.tmp 10)) none [0],
                AOper.mk (some 12) (AOp.fld 1 (Operand.tmp 3)) none [],
                AOper.mk (some 13) (AOp.load false 1 (Operand.tmp 12)) none [2],
                AOper.mk (some 14) (AOp.call 30 [Operand.tmp 11, Operand.tmp 13]) none [1, 3],
                AOper.mk (some 15) (AOp.un UnOp.not (Operand.tmp 14)) none [4]]
def l26r4 : List AOper :=
  [AOper.mk (some 4) (AOp.mv (Operand.const (Value.bool false))) none []]
def l26r5 : List AOper :=
  [AOper.mk (some 16) (AOp.fld 2 (Operand.tmp 2)) none [],
                  AOper.mk (some 17) (AOp.load false 1 (Operand.tmp 16)) none [0],
                  AOper.mk (some 18) (AOp.fld 2 (Operand.tmp 3)) none [],
                  AOper.mk (some 19) (AOp.load false 1 (Operand.tmp 18)) none [2],
                  AOper.mk (some 20) (AOp.call 30 [Operand.tmp 17, Operand.tmp 19]) none [1, 3],
                  AOper.mk (some 21) (AOp.un UnOp.not (Operand.tmp 20)) none [4]]
def l26r6 : List AOper :=
  [AOper.mk (some 4) (AOp.mv (Operand.const (Value.bool false))) none []]
def l26r7 : List AOper :=
  [AOper.mk (some 4) (AOp.mv (Operand.const (Value.bool true))) none []]
def l26 : AFn :=
  (AFn.mk 22 2
    (ACode.seq
      (ACode.reg l26r0)
      (ACode.seq
        (ACode.seq
          (ACode.reg l26r1)
          (ACode.cond (Operand.tmp 9)
            (ACode.seq (ACode.reg l26r2) ACode.ret)
            ACode.skip))
        (ACode.seq
          (ACode.seq
            (ACode.reg l26r3)
            (ACode.cond (Operand.tmp 15)
              (ACode.seq (ACode.reg l26r4) ACode.ret)
              ACode.skip))
          (ACode.seq
            (ACode.seq
              (ACode.reg l26r5)
              (ACode.cond (Operand.tmp 21)
                (ACode.seq (ACode.reg l26r6)
                  ACode.ret)
                ACode.skip))
            (ACode.seq (ACode.reg l26r7) ACode.ret)))))
    [ARes.tmp 4])
theorem l26_eq : lowFn Try.prog 26 = some l26 := by kernel_rfl
def l28r0 : List AOper :=
  [AOper.mk (some 2) (AOp.mv (Operand.const (Value.slice none 0 0))) none []]
def l28r1 : List AOper :=
  [AOper.mk (some 5) (AOp.mv (Operand.tmp 0)) none [], AOper.mk (some 6) (AOp.len (Operand.tmp 5)) none [0],
            AOper.mk (some 7) (AOp.mkslice 1 [Value.int IntKind.i64 0] (Operand.tmp 6) (Operand.tmp 6)) none
              [1, 1],
            AOper.mk (some 3) (AOp.mv (Operand.tmp 7)) none [2, 0, 1, 2]]
def l28r2 : List AOper :=
  [AOper.mk (some 4) (AOp.mv (Operand.const (Value.int IntKind.i64 0))) none []]
def l28r3 : List AOper :=
  [AOper.mk (some 8) (AOp.mv (Operand.tmp 4)) none [],
                        AOper.mk (some 9) (AOp.mv (Operand.tmp 0)) none [],
                        AOper.mk (some 10) (AOp.len (Operand.tmp 9)) none [1],
                        AOper.mk (some 11) (AOp.bin BinOp.lss (Operand.tmp 8) (Operand.tmp 10)) none [0, 2]]
def l28r4 : List AOper :=
  [AOper.mk (some 14) (AOp.mv (Operand.tmp 3)) none [],
                          AOper.mk (some 15) (AOp.mv (Operand.tmp 4)) none [],
                          AOper.mk (some 16) (AOp.mv (Operand.tmp 0)) none [],
                          AOper.mk (some 17) (AOp.mv (Operand.tmp 4)) none [],
                          AOper.mk (some 18) (AOp.idxA 1 (Operand.tmp 16) (Operand.tmp 17)) none [2, 3],
                          AOper.mk (some 19) (AOp.load false 1 (Operand.tmp 18)) none [4],
                          AOper.mk (some 20) (AOp.idxA 1 (Operand.tmp 14) (Operand.tmp 15)) none
                            [0, 1, 0, 1, 2, 3, 4, 5],
                          AOper.mk none (AOp.store 1 (Operand.tmp 20) (Operand.tmp 19)) none [6, 5, 0, 1, 2, 3, 4, 5]]
def l28r5 : List AOper :=
  [AOper.mk (some 12) (AOp.mv (Operand.tmp 4)) none [],
                        AOper.mk (some 13)
                          (AOp.bin BinOp.add (Operand.tmp 12) (Operand.const (Value.int IntKind.i64 1)))
                          none [0],
                        AOper.mk (some 4) (AOp.mv (Operand.tmp 13)) none [1, 0, 1]]
def l28r6 : List AOper :=
  [AOper.mk (some 21) (AOp.mv (Operand.tmp 3)) none [],
                AOper.mk (some 2) (AOp.mv (Operand.tmp 21)) none [0, 0]]
def l28 : AFn :=
  (AFn.mk 22 1
    (ACode.seq (ACode.reg l28r0)
      (ACode.seq
        (ACode.reg l28r1)
        (ACode.seq
          (ACode.seq
            (ACode.reg l28r2)
            (ACode.block 0
              (ACode.loop
                (ACode.seq
                  (ACode.seq
                    (ACode.reg l28r3)
                    (ACode.cond (Operand.tmp 11) ACode.skip (ACode.exit 0)))
                  (ACode.seq
                    (ACode.block 1
                      (ACode.reg l28r4))
                    (ACode.reg l28r5))))))
          (ACode.seq
            (ACode.reg l28r6)
            ACode.ret))))
    [ARes.tmp 2])
theorem l28_eq : lowFn Try.prog 28 = some l28 := by kernel_rfl
def l30r0 : List AOper :=
  [AOper.mk (some 4) (AOp.mv (Operand.const (Value.bool false))) none []]
def l30r1 : List AOper :=
  [AOper.mk (some 6) (AOp.mv (Operand.tmp 0)) none [], AOper.mk (some 7) (AOp.len (Operand.tmp 6)) none [0],
              AOper.mk (some 8) (AOp.mv (Operand.tmp 1)) none [], AOper.mk (some 9) (AOp.len (Operand.tmp 8)) none [2],
              AOper.mk (some 10) (AOp.bin BinOp.neq (Operand.tmp 7) (Operand.tmp 9)) none [1, 3]]
def l30r2 : List AOper :=
  [AOper.mk (some 4) (AOp.mv (Operand.const (Value.bool false))) none []]
def l30r3 : List AOper :=
  [AOper.mk (some 5) (AOp.mv (Operand.const (Value.int IntKind.i64 0))) none []]
def l30r4 : List AOper :=
  [AOper.mk (some 11) (AOp.mv (Operand.tmp 5)) none [],
                        AOper.mk (some 12) (AOp.mv (Operand.tmp 0)) none [],
                        AOper.mk (some 13) (AOp.len (Operand.tmp 12)) none [1],
                        AOper.mk (some 14) (AOp.bin BinOp.lss (Operand.tmp 11) (Operand.tmp 13)) none [0, 2]]
def l30r5a : List AOper :=
  [AOper.mk (some 17) (AOp.mv (Operand.tmp 0)) none [], AOper.mk (some 18) (AOp.mv (Operand.tmp 5)) none [], AOper.mk (some 19) (AOp.idxA 1 (Operand.tmp 17) (Operand.tmp 18)) none [0, 1], AOper.mk (some 20) (AOp.load false 1 (Operand.tmp 19)) none [2], AOper.mk (some 21) (AOp.mv (Operand.tmp 1)) none [], AOper.mk (some 22) (AOp.mv (Operand.tmp 5)) none [], AOper.mk (some 23) (AOp.idxA 1 (Operand.tmp 21) (Operand.tmp 22)) none [4, 5], AOper.mk (some 24) (AOp.load false 1 (Operand.tmp 23)) none [6]]
def l30r5b : List AOper :=
  [AOper.mk (some 25) (AOp.bin BinOp.neq (Operand.tmp 20) (Operand.tmp 24)) none [3, 7]]
def l30r5 : List AOper := l30r5a ++ l30r5b
def l30r6 : List AOper :=
  [AOper.mk (some 4) (AOp.mv (Operand.const (Value.bool false))) none []]
def l30r7 : List AOper :=
  [AOper.mk (some 15) (AOp.mv (Operand.tmp 5)) none [],
                        AOper.mk (some 16)
                          (AOp.bin BinOp.add (Operand.tmp 15) (Operand.const (Value.int IntKind.i64 1)))
                          none [0],
                        AOper.mk (some 5) (AOp.mv (Operand.tmp 16)) none [1, 0, 1]]
def l30r8 : List AOper :=
  [AOper.mk (some 4) (AOp.mv (Operand.const (Value.bool true))) none []]
def l30 : AFn :=
  (AFn.mk 26 2
    (ACode.seq (ACode.reg l30r0)
      (ACode.seq
        (ACode.seq
          (ACode.reg l30r1)
          (ACode.cond (Operand.tmp 10)
            (ACode.seq (ACode.reg l30r2) ACode.ret)
            ACode.skip))
        (ACode.seq
          (ACode.seq
            (ACode.reg l30r3)
            (ACode.block 0
              (ACode.loop
                (ACode.seq
                  (ACode.seq
                    (ACode.reg l30r4)
                    (ACode.cond (Operand.tmp 14) ACode.skip (ACode.exit 0)))
                  (ACode.seq
                    (ACode.block 1
                      (ACode.seq
                        (ACode.draw l30r5)
                        (ACode.cond (Operand.tmp 25)
                          (ACode.seq (ACode.reg l30r6)
                            ACode.ret)
                          ACode.skip)))
                    (ACode.reg l30r7))))))
          (ACode.seq (ACode.reg l30r8) ACode.ret))))
    [ARes.tmp 4])
theorem l30_eq : lowFn Try.prog 30 = some l30 := by kernel_rfl
def l31r0 : List AOper :=
  [AOper.mk (some 1) (AOp.box (Operand.tmp 0)) none [],
          AOper.mk (some 2) (AOp.mv (Operand.const (Value.slice none 0 0))) none []]
def l31r1 : List AOper :=
  [AOper.mk (some 3) (AOp.load true 3 (Operand.tmp 1)) none [],
              AOper.mk (some 4) (AOp.call 52 [Operand.tmp 3]) none [0],
              AOper.mk (some 5) (AOp.un UnOp.not (Operand.tmp 4)) none [1]]
def l31r2 : List AOper :=
  [AOper.mk (some 2) (AOp.mv (Operand.const (Value.slice none 0 0))) none []]
def l31r3 : List AOper :=
  [AOper.mk (some 6) (AOp.load true 3 (Operand.tmp 1)) none [],
              AOper.mk (some 7) (AOp.call 62 [Operand.tmp 6]) none [0],
              AOper.mk (some 2) (AOp.mv (Operand.tmp 7)) none [1, 1, 0, 1]]
def l31 : AFn :=
  (AFn.mk 8 1
    (ACode.seq
      (ACode.reg l31r0)
      (ACode.seq
        (ACode.seq
          (ACode.reg l31r1)
          (ACode.cond (Operand.tmp 5)
            (ACode.seq (ACode.reg l31r2)
              ACode.ret)
            ACode.skip))
        (ACode.seq
          (ACode.reg l31r3)
          ACode.ret)))
    [ARes.tmp 2])
theorem l31_eq : lowFn Try.prog 31 = some l31 := by kernel_rfl
def l32r0 : List AOper :=
  [AOper.mk (some 1) (AOp.box (Operand.tmp 0)) none [],
          AOper.mk (some 2) (AOp.mv (Operand.const (Value.slice none 0 0))) none []]
def l32r1 : List AOper :=
  [AOper.mk (some 3) (AOp.load true 3 (Operand.tmp 1)) none [],
              AOper.mk (some 4) (AOp.call 25 [Operand.tmp 3]) none [0],
              AOper.mk (some 5) (AOp.un UnOp.not (Operand.tmp 4)) none [1]]
def l32r2 : List AOper :=
  [AOper.mk (some 2) (AOp.mv (Operand.const (Value.slice none 0 0))) none []]
def l32r3 : List AOper :=
  [AOper.mk (some 6) (AOp.load true 3 (Operand.tmp 1)) none [],
              AOper.mk (some 7) (AOp.call 63 [Operand.tmp 6]) none [0],
              AOper.mk (some 2) (AOp.mv (Operand.tmp 7)) none [1, 1, 0, 1]]
def l32 : AFn :=
  (AFn.mk 8 1
    (ACode.seq
      (ACode.reg l32r0)
      (ACode.seq
        (ACode.seq
          (ACode.reg l32r1)
          (ACode.cond (Operand.tmp 5)
            (ACode.seq (ACode.reg l32r2)
              ACode.ret)
            ACode.skip))
        (ACode.seq
          (ACode.reg l32r3)
          ACode.ret)))
    [ARes.tmp 2])
theorem l32_eq : lowFn Try.prog 32 = some l32 := by kernel_rfl
def l33r0 : List AOper :=
  [AOper.mk (some 2) (AOp.box (Operand.tmp 0)) none [],
          AOper.mk (some 4) (AOp.mv (Operand.const (Value.int IntKind.i64 0))) none []]
def l33r1 : List AOper :=
  [AOper.mk (some 5) (AOp.fld 1 (Operand.tmp 2)) none [],
            AOper.mk (some 6) (AOp.load false 1 (Operand.tmp 5)) none [0],
            AOper.mk (some 7) (AOp.mv (Operand.tmp 1)) none [],
            AOper.mk (some 8) (AOp.call 34 [Operand.tmp 6, Operand.tmp 7]) none [1, 2],
            AOper.mk (some 1) (AOp.mv (Operand.tmp 8)) none [3, 3, 0, 1, 2, 3]]
def l33r2 : List AOper :=
  [AOper.mk (some 9) (AOp.fld 2 (Operand.tmp 2)) none [],
              AOper.mk (some 10) (AOp.load false 1 (Operand.tmp 9)) none [0],
              AOper.mk (some 11) (AOp.mv (Operand.tmp 1)) none [],
              AOper.mk (some 12) (AOp.call 34 [Operand.tmp 10, Operand.tmp 11]) none [1, 2],
              AOper.mk (some 1) (AOp.mv (Operand.tmp 12)) none [3, 3, 0, 1, 2, 3]]
def l33r3 : List AOper :=
  [AOper.mk (some 13) (AOp.mv (Operand.tmp 1)) none [],
                AOper.mk (some 4) (AOp.mv (Operand.tmp 13)) none [0, 0]]
def l33 : AFn :=
  (AFn.mk 14 2
    (ACode.seq
      (ACode.reg l33r0)
      (ACode.seq
        (ACode.reg l33r1)
        (ACode.seq
          (ACode.reg l33r2)
          (ACode.seq
            (ACode.reg l33r3)
            ACode.ret))))
    [ARes.tmp 4])
theorem l33_eq : lowFn Try.prog 33 = some l33 := by kernel_rfl
def l34r0 : List AOper :=
  [AOper.mk (some 4) (AOp.mv (Operand.const (Value.int IntKind.i64 0))) none []]
def l34r1 : List AOper :=
  [AOper.mk (some 5) (AOp.mv (Operand.const (Value.int IntKind.i64 0))) none []]
def l34r2 : List AOper :=
  [AOper.mk (some 6) (AOp.mv (Operand.tmp 5)) none [],
                      AOper.mk (some 7) (AOp.mv (Operand.tmp 0)) none [],
                      AOper.mk (some 8) (AOp.len (Operand.tmp 7)) none [1],
                      AOper.mk (some 9) (AOp.bin BinOp.lss (Operand.tmp 6) (Operand.tmp 8)) none [0, 2]]
def l34r3 : List AOper :=
  [AOper.mk (some 12) (AOp.mv (Operand.tmp 0)) none [],
                          AOper.mk (some 13) (AOp.mv (Operand.tmp 5)) none [],
                          AOper.mk (some 14) (AOp.mv (Operand.tmp 1)) none [],
                          AOper.mk (some 15) (AOp.idxA 1 (Operand.tmp 12) (Operand.tmp 13)) none [0, 1, 0, 1, 2],
                          AOper.mk none (AOp.store 1 (Operand.tmp 15) (Operand.tmp 14)) none [3, 2, 0, 1, 2]]
def l34r4 : List AOper :=
  [AOper.mk (some 16) (AOp.mv (Operand.tmp 1)) none [],
                          AOper.mk (some 17)
                            (AOp.bin BinOp.add (Operand.tmp 16) (Operand.const (Value.int IntKind.i64 1)))
                            none [0],
                          AOper.mk (some 1) (AOp.mv (Operand.tmp 17)) none [1, 0, 1]]
def l34r5 : List AOper :=
  [AOper.mk (some 10) (AOp.mv (Operand.tmp 5)) none [],
                      AOper.mk (some 11)
                        (AOp.bin BinOp.add (Operand.tmp 10) (Operand.const (Value.int IntKind.i64 1))) none
                        [0],
                      AOper.mk (some 5) (AOp.mv (Operand.tmp 11)) none [1, 0, 1]]
def l34r6 : List AOper :=
  [AOper.mk (some 18) (AOp.mv (Operand.tmp 1)) none [],
              AOper.mk (some 4) (AOp.mv (Operand.tmp 18)) none [0, 0]]
def l34 : AFn :=
  (AFn.mk 19 2
    (ACode.seq (ACode.reg l34r0)
      (ACode.seq
        (ACode.seq
          (ACode.reg l34r1)
          (ACode.block 0
            (ACode.loop
              (ACode.seq
                (ACode.seq
                  (ACode.reg l34r2)
                  (ACode.cond (Operand.tmp 9) ACode.skip (ACode.exit 0)))
                (ACode.seq
                  (ACode.block 1
                    (ACode.seq
                      (ACode.reg l34r3)
                      (ACode.reg l34r4)))
                  (ACode.reg l34r5))))))
        (ACode.seq
          (ACode.reg l34r6)
          ACode.ret)))
    [ARes.tmp 4])
theorem l34_eq : lowFn Try.prog 34 = some l34 := by kernel_rfl
def l35r0 : List AOper :=
  [AOper.mk (some 4) (AOp.mv (Operand.const (Value.int IntKind.i64 0))) none []]
def l35r1 : List AOper :=
  [AOper.mk (some 5) (AOp.mv (Operand.const (Value.int IntKind.i64 0))) none []]
def l35r2 : List AOper :=
  [AOper.mk (some 6) (AOp.mv (Operand.tmp 5)) none [],
                      AOper.mk (some 7) (AOp.mv (Operand.tmp 0)) none [],
                      AOper.mk (some 8) (AOp.len (Operand.tmp 7)) none [1],
                      AOper.mk (some 9) (AOp.bin BinOp.lss (Operand.tmp 6) (Operand.tmp 8)) none [0, 2]]
def l35r3 : List AOper :=
  [AOper.mk (some 12) (AOp.mv (Operand.tmp 0)) none [],
                            AOper.mk (some 13) (AOp.mv (Operand.tmp 5)) none [],
                            AOper.mk (some 14) (AOp.idxA 1 (Operand.tmp 12) (Operand.tmp 13)) none [0, 1],
                            AOper.mk (some 15) (AOp.load false 1 (Operand.tmp 14)) none [2],
                            AOper.mk (some 16) (AOp.mv (Operand.tmp 1)) none [],
                            AOper.mk (some 17) (AOp.bin BinOp.neq (Operand.tmp 15) (Operand.tmp 16)) none [3, 4]]
def l35r4 : List AOper :=
  [AOper.mk (some 4) (AOp.mv (Operand.const (Value.int IntKind.i64 (-1)))) none
                                  []]
def l35r5 : List AOper :=
  [AOper.mk (some 18) (AOp.mv (Operand.tmp 1)) none [],
                          AOper.mk (some 19)
                            (AOp.bin BinOp.add (Operand.tmp 18) (Operand.const (Value.int IntKind.i64 1)))
                            none [0],
                          AOper.mk (some 1) (AOp.mv (Operand.tmp 19)) none [1, 0, 1]]
def l35r6 : List AOper :=
  [AOper.mk (some 10) (AOp.mv (Operand.tmp 5)) none [],
                      AOper.mk (some 11)
                        (AOp.bin BinOp.add (Operand.tmp 10) (Operand.const (Value.int IntKind.i64 1))) none
                        [0],
                      AOper.mk (some 5) (AOp.mv (Operand.tmp 11)) none [1, 0, 1]]
def l35r7 : List AOper :=
  [AOper.mk (some 20) (AOp.mv (Operand.tmp 1)) none [],
              AOper.mk (some 4) (AOp.mv (Operand.tmp 20)) none [0, 0]]
def l35 : AFn :=
  (AFn.mk 21 2
    (ACode.seq (ACode.reg l35r0)
      (ACode.seq
        (ACode.seq
          (ACode.reg l35r1)
          (ACode.block 0
            (ACode.loop
              (ACode.seq
                (ACode.seq
                  (ACode.reg l35r2)
                  (ACode.cond (Operand.tmp 9) ACode.skip (ACode.exit 0)))
                (ACode.seq
                  (ACode.block 1
                    (ACode.seq
                      (ACode.seq
                        (ACode.reg l35r3)
                        (ACode.cond (Operand.tmp 17)
                          (ACode.seq
                            (ACode.reg l35r4)
                            ACode.ret)
                          ACode.skip))
                      (ACode.reg l35r5)))
                  (ACode.reg l35r6))))))
        (ACode.seq
          (ACode.reg l35r7)
          ACode.ret)))
    [ARes.tmp 4])
theorem l35_eq : lowFn Try.prog 35 = some l35 := by kernel_rfl
def l48r0 : List AOper :=
  [AOper.mk (some 6) (AOp.mv (Operand.const (Value.bool false))) none []]
def l48r1 : List AOper :=
  [AOper.mk (some 7) (AOp.mv (Operand.tmp 1)) none [], AOper.mk (some 8) (AOp.mv (Operand.tmp 0)) none [],
            AOper.mk (some 9) (AOp.bin BinOp.leq (Operand.tmp 7) (Operand.tmp 8)) none [0, 1],
            AOper.mk (some 10) (AOp.mv (Operand.tmp 9)) none [2],
            AOper.mk (some 11) (AOp.mv (Operand.tmp 0)) (some (10, true)) [3],
            AOper.mk (some 12) (AOp.mv (Operand.tmp 2)) (some (10, true)) [3],
            AOper.mk (some 13) (AOp.bin BinOp.leq (Operand.tmp 11) (Operand.tmp 12)) (some (10, true)) [4, 5, 3],
            AOper.mk (some 14) (AOp.pick (Operand.tmp 10) (Operand.tmp 13) (Operand.const (Value.bool false))) none
              [3, 6],
            AOper.mk (some 6) (AOp.mv (Operand.tmp 14)) none [7, 3, 0, 1, 2, 3, 4, 5, 6, 7]]
def l48 : AFn :=
  (AFn.mk 15 3
    (ACode.seq (ACode.reg l48r0)
      (ACode.seq
        (ACode.reg l48r1)
        ACode.ret))
    [ARes.tmp 6])
theorem l48_eq : lowFn Try.prog 48 = some l48 := by kernel_rfl
def l51r0 : List AOper :=
  [AOper.mk (some 4) (AOp.mv (Operand.const (Value.int IntKind.i64 0))) none []]
def l51r1 : List AOper :=
  [AOper.mk (some 5) (AOp.mv (Operand.tmp 1)) none [], AOper.mk (some 6) (AOp.mv (Operand.tmp 0)) none [],
            AOper.mk (some 7) (AOp.len (Operand.tmp 6)) none [1],
            AOper.mk (some 8) (AOp.bin BinOp.sub (Operand.tmp 5) (Operand.tmp 7)) none [0, 2],
            AOper.mk (some 1) (AOp.mv (Operand.tmp 8)) none [3, 0, 1, 2, 3]]
def l51r2 : List AOper :=
  [AOper.mk (some 9) (AOp.mv (Operand.tmp 1)) none [],
                AOper.mk (some 10)
                  (AOp.bin BinOp.lss (Operand.tmp 9) (Operand.const (Value.int IntKind.i64 0))) none [0]]
def l51r3 : List AOper :=
  [AOper.mk (some 4) (AOp.mv (Operand.const (Value.int IntKind.i64 (-1)))) none []]
def l51r4 : List AOper :=
  [AOper.mk (some 11) (AOp.mv (Operand.tmp 1)) none [],
                AOper.mk (some 4) (AOp.mv (Operand.tmp 11)) none [0, 0]]
def l51 : AFn :=
  (AFn.mk 12 2
    (ACode.seq (ACode.reg l51r0)
      (ACode.seq
        (ACode.reg l51r1)
        (ACode.seq
          (ACode.seq
            (ACode.reg l51r2)
            (ACode.cond (Operand.tmp 10)
              (ACode.seq
                (ACode.reg l51r3)
                ACode.ret)
              ACode.skip))
          (ACode.seq
            (ACode.reg l51r4)
            ACode.ret))))
    [ARes.tmp 4])
theorem l51_eq : lowFn Try.prog 51 = some l51 := by kernel_rfl
def l52r0 : List AOper :=
  [AOper.mk (some 1) (AOp.box (Operand.tmp 0)) none [],
          AOper.mk (some 2) (AOp.mv (Operand.const (Value.bool false))) none []]
def l52r1 : List AOper :=
  [AOper.mk (some 3) (AOp.fld 1 (Operand.tmp 1)) none [],
            AOper.mk (some 4) (AOp.load false 1 (Operand.tmp 3)) none [0],
            AOper.mk (some 5) (AOp.call 77 [Operand.tmp 4]) none [1],
            AOper.mk (some 6) (AOp.mv (Operand.tmp 5)) none [2, 2],
            AOper.mk (some 7) (AOp.fld 2 (Operand.tmp 1)) (some (6, true)) [3],
            AOper.mk (some 8) (AOp.load false 1 (Operand.tmp 7)) (some (6, true)) [4, 3],
            AOper.mk (some 9) (AOp.len (Operand.tmp 8)) (some (6, true)) [5, 3],
            AOper.mk (some 10) (AOp.fld 1 (Operand.tmp 1)) (some (6, true)) [3],
            AOper.mk (some 11) (AOp.load false 1 (Operand.tmp 10)) (some (6, true)) [7, 3],
            AOper.mk (some 12) (AOp.len (Operand.tmp 11)) (some (6, true)) [8, 3],
            AOper.mk (some 13) (AOp.bin BinOp.eql (Operand.tmp 9) (Operand.tmp 12)) (some (6, true)) [6, 9, 3],
            AOper.mk (some 14) (AOp.pick (Operand.tmp 6) (Operand.tmp 13) (Operand.const (Value.bool false))) none
              [3, 10],
            AOper.mk (some 15) (AOp.mv (Operand.tmp 14)) none [11, 3],
            AOper.mk (some 16) (AOp.fld 2 (Operand.tmp 1)) (some (15, true)) [12],
            AOper.mk (some 17) (AOp.load false 1 (Operand.tmp 16)) (some (15, true)) [13, 12],
            AOper.mk (some 18)
              (AOp.call 78
                [Operand.tmp 17, Operand.const (Value.int IntKind.i64 (-60)),
                  Operand.const (Value.int IntKind.i64 60)])
              (some (15, true)) [14, 12, 12],
            AOper.mk (some 19) (AOp.pick (Operand.tmp 15) (Operand.tmp 18) (Operand.const (Value.bool false))) none
              [12, 15],
            AOper.mk (some 20) (AOp.mv (Operand.tmp 19)) none [16, 15],
            AOper.mk (some 21) (AOp.fld 0 (Operand.tmp 1)) (some (20, true)) [17],
            AOper.mk (some 22) (AOp.load false 1 (Operand.tmp 21)) (some (20, true)) [18, 17],
            AOper.mk (some 23)
              (AOp.call 48
                [Operand.tmp 22, Operand.const (Value.int IntKind.i64 0),
                  Operand.const (Value.int IntKind.i64 60)])
              (some (20, true)) [19, 17, 17],
            AOper.mk (some 24) (AOp.pick (Operand.tmp 20) (Operand.tmp 23) (Operand.const (Value.bool false))) none
              [17, 20],
            AOper.mk (some 25) (AOp.mv (Operand.tmp 24)) none [21, 20],
            AOper.mk (some 26) (AOp.fld 1 (Operand.tmp 1)) (some (25, true)) [22],
            AOper.mk (some 27) (AOp.load false 1 (Operand.tmp 26)) (some (25, true)) [23, 22],
            AOper.mk (some 28) (AOp.call 64 [Operand.tmp 27]) (some (25, true)) [24, 22, 22],
            AOper.mk (some 29)
              (AOp.bin BinOp.eql (Operand.tmp 28) (Operand.const (Value.int IntKind.i64 0)))
              (some (25, true)) [25, 22],
            AOper.mk (some 30) (AOp.mv (Operand.tmp 29)) (some (25, true)) [26, 25, 22],
            AOper.mk (some 31) (AOp.load true 3 (Operand.tmp 1)) (some (30, false)) [27],
            AOper.mk (some 32) (AOp.call 62 [Operand.tmp 31]) (some (30, false)) [28, 27, 27],
            AOper.mk (some 33)
              (AOp.call 78
                [Operand.tmp 32, Operand.const (Value.int IntKind.i64 0),
                  Operand.const (Value.int IntKind.i64 59)])
              (some (30, false)) [29, 29, 27],
            AOper.mk (some 34) (AOp.pick (Operand.tmp 30) (Operand.const (Value.bool true)) (Operand.tmp 33))
              (some (25, true)) [27, 30, 22],
            AOper.mk (some 35) (AOp.pick (Operand.tmp 25) (Operand.tmp 34) (Operand.const (Value.bool false))) none
              [22, 31],
            AOper.mk (some 2) (AOp.mv (Operand.tmp 35)) none
              [32, 30, 0, 1, 2, 3, 4, 5, 6, 7, 8, 9, 10, 11, 12, 13, 14, 15, 16, 17, 18, 19, 20, 21, 22, 23, 24, 25, 26,
                27, 28, 29, 30, 31, 32]]
def l52 : AFn :=
  (AFn.mk 36 1
    (ACode.seq
      (ACode.reg l52r0)
      (ACode.seq
        (ACode.reg l52r1)
        ACode.ret))
    [ARes.tmp 2])
theorem l52_eq : lowFn Try.prog 52 = some l52 := by kernel_rfl
def l53r0 : List AOper :=
  [AOper.mk (some 2) (AOp.mv (Operand.const (Value.bool false))) none []]
def l53r1 : List AOper :=
  [AOper.mk (some 5) (AOp.mv (Operand.tmp 0)) none [], AOper.mk (some 6) (AOp.len (Operand.tmp 5)) none [0],
              AOper.mk (some 7)
                (AOp.bin BinOp.gtr (Operand.tmp 6) (Operand.const (Value.int IntKind.i64 4))) none [1]]
def l53r2 : List AOper :=
  [AOper.mk (some 2) (AOp.mv (Operand.const (Value.bool false))) none []]
def l53r3 : List AOper :=
  [AOper.mk (some 8) (AOp.mv (Operand.tmp 0)) none [], AOper.mk (some 9) (AOp.len (Operand.tmp 8)) none [0],
                AOper.mk (some 10) (AOp.mv (Operand.const (Value.int IntKind.i64 0))) none []]
def l53r4 : List AOper :=
  [AOper.mk (some 11) (AOp.bin BinOp.lss (Operand.tmp 10) (Operand.tmp 9)) none []]
def l53r5 : List AOper :=
  [AOper.mk (some 12) (AOp.idxA 1 (Operand.tmp 8) (Operand.tmp 10)) none [],
                              AOper.mk (some 13) (AOp.load false 1 (Operand.tmp 12)) none [0],
                              AOper.mk (some 4) (AOp.mv (Operand.tmp 13)) none [1, 0, 1]]
def l53r6 : List AOper :=
  [AOper.mk (some 14) (AOp.mv (Operand.tmp 4)) none [],
                                AOper.mk (some 15)
                                  (AOp.call 55 [Operand.tmp 14, Operand.const (Value.int IntKind.i64 60)])
                                  none [0],
                                AOper.mk (some 16) (AOp.un UnOp.not (Operand.tmp 15)) none [1]]
def l53r7 : List AOper :=
  [AOper.mk (some 2) (AOp.mv (Operand.const (Value.bool false))) none []]
def l53r8 : List AOper :=
  [AOper.mk (some 17)
                            (AOp.bin BinOp.add (Operand.tmp 10) (Operand.const (Value.int IntKind.i64 1)))
                            none [],
                          AOper.mk (some 10) (AOp.mv (Operand.tmp 17)) none [0]]
def l53r9 : List AOper :=
  [AOper.mk (some 18) (AOp.mv (Operand.tmp 0)) none [],
                AOper.mk (some 19) (AOp.call 79 [Operand.tmp 18]) none [0],
                AOper.mk (some 20)
                  (AOp.bin BinOp.leq (Operand.tmp 19) (Operand.const (Value.int IntKind.i64 60))) none [1],
                AOper.mk (some 2) (AOp.mv (Operand.tmp 20)) none [2, 1, 0, 1, 2]]
def l53 : AFn :=
  (AFn.mk 21 1
    (ACode.seq (ACode.reg l53r0)
      (ACode.seq
        (ACode.seq
          (ACode.reg l53r1)
          (ACode.cond (Operand.tmp 7)
            (ACode.seq (ACode.reg l53r2) ACode.ret)
            ACode.skip))
        (ACode.seq
          (ACode.seq
            (ACode.reg l53r3)
            (ACode.block 0
              (ACode.loop
                (ACode.seq (ACode.reg l53r4)
                  (ACode.seq (ACode.cond (Operand.tmp 11) ACode.skip (ACode.exit 0))
                    (ACode.seq
                      (ACode.block 1
                        (ACode.seq
                          (ACode.reg l53r5)
                          (ACode.seq
                            (ACode.reg l53r6)
                            (ACode.cond (Operand.tmp 16)
                              (ACode.seq
                                (ACode.reg l53r7)
                                ACode.ret)
                              ACode.skip))))
                      (ACode.reg l53r8)))))))
          (ACode.seq
            (ACode.reg l53r9)
            ACode.ret))))
    [ARes.tmp 2])
theorem l53_eq : lowFn Try.prog 53 = some l53 := by kernel_rfl
def l54r0 : List AOper :=
  [AOper.mk (some 4) (AOp.mv (Operand.const (Value.bool false))) none []]
def l54r1 : List AOper :=
  [AOper.mk (some 7) (AOp.mv (Operand.tmp 0)) none [], AOper.mk (some 8) (AOp.len (Operand.tmp 7)) none [0],
              AOper.mk (some 9) (AOp.mv (Operand.tmp 1)) none [],
              AOper.mk (some 10) (AOp.bin BinOp.neq (Operand.tmp 8) (Operand.tmp 9)) none [1, 2]]
def l54r2 : List AOper :=
  [AOper.mk (some 4) (AOp.mv (Operand.const (Value.bool false))) none []]
def l54r3 : List AOper :=
  [AOper.mk (some 11) (AOp.mv (Operand.tmp 0)) none [],
                AOper.mk (some 12) (AOp.len (Operand.tmp 11)) none [0],
                AOper.mk (some 13) (AOp.mv (Operand.const (Value.int IntKind.i64 0))) none []]
def l54r4 : List AOper :=
  [AOper.mk (some 14) (AOp.bin BinOp.lss (Operand.tmp 13) (Operand.tmp 12)) none []]
def l54r5 : List AOper :=
  [AOper.mk (some 15) (AOp.idxA 1 (Operand.tmp 11) (Operand.tmp 13)) none [],
                              AOper.mk (some 16) (AOp.load false 1 (Operand.tmp 15)) none [0],
                              AOper.mk (some 6) (AOp.mv (Operand.tmp 16)) none [1, 0, 1]]
def l54r6 : List AOper :=
  [AOper.mk (some 17) (AOp.mv (Operand.tmp 6)) none [],
                                AOper.mk (some 18)
                                  (AOp.call 69 [Operand.tmp 17, Operand.const (Value.int IntKind.i64 60)])
                                  none [0],
                                AOper.mk (some 19) (AOp.un UnOp.not (Operand.tmp 18)) none [1]]
def l54r7 : List AOper :=
  [AOper.mk (some 4) (AOp.mv (Operand.const (Value.bool false))) none []]
def l54r8 : List AOper :=
  [AOper.mk (some 20)
                            (AOp.bin BinOp.add (Operand.tmp 13) (Operand.const (Value.int IntKind.i64 1)))
                            none [],
                          AOper.mk (some 13) (AOp.mv (Operand.tmp 20)) none [0]]
def l54r9 : List AOper :=
  [AOper.mk (some 4) (AOp.mv (Operand.const (Value.bool true))) none []]
def l54 : AFn :=
  (AFn.mk 21 2
    (ACode.seq (ACode.reg l54r0)
      (ACode.seq
        (ACode.seq
          (ACode.reg l54r1)
          (ACode.cond (Operand.tmp 10)
            (ACode.seq (ACode.reg l54r2) ACode.ret)
            ACode.skip))
        (ACode.seq
          (ACode.seq
            (ACode.reg l54r3)
            (ACode.block 0
              (ACode.loop
                (ACode.seq
                  (ACode.reg l54r4)
                  (ACode.seq (ACode.cond (Operand.tmp 14) ACode.skip (ACode.exit 0))
                    (ACode.seq
                      (ACode.block 1
                        (ACode.seq
                          (ACode.reg l54r5)
                          (ACode.seq
                            (ACode.reg l54r6)
                            (ACode.cond (Operand.tmp 19)
                              (ACode.seq
                                (ACode.reg l54r7)
                                ACode.ret)
                              ACode.skip))))
                      (ACode.reg l54r8)))))))
          (ACode.seq (ACode.reg l54r9) ACode.ret))))
    [ARes.tmp 4])
theorem l54_eq : lowFn Try.prog 54 = some l54 := by kernel_rfl
def l55r0 : List AOper :=
  [AOper.mk (some 4) (AOp.mv (Operand.const (Value.bool false))) none []]
def l55r1 : List AOper :=
  [AOper.mk (some 5) (AOp.mv (Operand.tmp 0)) none [],
            AOper.mk (some 6) (AOp.bin BinOp.leq (Operand.const (Value.int IntKind.i64 0)) (Operand.tmp 5))
              none [0],
            AOper.mk (some 7) (AOp.mv (Operand.tmp 6)) none [1],
            AOper.mk (some 8) (AOp.mv (Operand.tmp 0)) (some (7, true)) [2],
            AOper.mk (some 9) (AOp.mv (Operand.tmp 1)) (some (7, true)) [2],
            AOper.mk (some 10) (AOp.bin BinOp.leq (Operand.tmp 8) (Operand.tmp 9)) (some (7, true)) [3, 4, 2],
            AOper.mk (some 11) (AOp.pick (Operand.tmp 7) (Operand.tmp 10) (Operand.const (Value.bool false))) none
              [2, 5],
            AOper.mk (some 4) (AOp.mv (Operand.tmp 11)) none [6, 2, 0, 1, 2, 3, 4, 5, 6]]
def l55 : AFn :=
  (AFn.mk 12 2
    (ACode.seq (ACode.reg l55r0)
      (ACode.seq
        (ACode.reg l55r1)
        ACode.ret))
    [ARes.tmp 4])
theorem l55_eq : lowFn Try.prog 55 = some l55 := by kernel_rfl
def l56r0 : List AOper :=
  [AOper.mk (some 1) (AOp.box (Operand.tmp 0)) none [],
          AOper.mk (some 2) (AOp.mv (Operand.const (Value.int IntKind.i64 0))) none [],
          AOper.mk (some 3) (AOp.mv (Operand.const (Value.int IntKind.i64 0))) none [1]]
def l56r1 : List AOper :=
  [AOper.mk (some 9) (AOp.load true 3 (Operand.tmp 1)) none [],
              AOper.mk (some 10) (AOp.call 57 [Operand.tmp 9]) none [0],
              AOper.mk (some 11)
                (AOp.bin BinOp.eql (Operand.tmp 10) (Operand.const (Value.int IntKind.i64 0))) none [1]]
def l56r2 : List AOper :=
  [AOper.mk (some 2) (AOp.mv (Operand.const (Value.int IntKind.i64 (-1)))) none [],
                  AOper.mk (some 3) (AOp.mv (Operand.const (Value.int IntKind.i64 (-1)))) none [0, 0]]
def l56r3a : List AOper :=
  [AOper.mk (some 12) (AOp.fld 0 (Operand.tmp 1)) none [], AOper.mk (some 13) (AOp.load false 1 (Operand.tmp 12)) none [0], AOper.mk (some 14) (AOp.fld 0 (Operand.tmp 1)) none [], AOper.mk (some 15) (AOp.load false 1 (Operand.tmp 14)) none [2], AOper.mk (some 4) (AOp.mv (Operand.tmp 13)) none [1, 0, 1]]
def l56r3b : List AOper :=
  [AOper.mk (some 5) (AOp.mv (Operand.tmp 15)) none [3, 4, 0, 1, 2, 3, 4]]
def l56r3 : List AOper := l56r3a ++ l56r3b
def l56r4 : List AOper :=
  [AOper.mk (some 16) (AOp.fld 2 (Operand.tmp 1)) none [],
                  AOper.mk (some 17) (AOp.load false 1 (Operand.tmp 16)) none [0],
                  AOper.mk (some 18) (AOp.len (Operand.tmp 17)) none [1],
                  AOper.mk (some 19) (AOp.mv (Operand.const (Value.int IntKind.i64 0))) none []]
def l56r5 : List AOper :=
  [AOper.mk (some 20) (AOp.bin BinOp.lss (Operand.tmp 19) (Operand.tmp 18)) none []]
def l56r6 : List AOper :=
  [AOper.mk (some 21) (AOp.mv (Operand.tmp 19)) none [],
                                AOper.mk (some 22) (AOp.idxA 1 (Operand.tmp 17) (Operand.tmp 19)) none [],
                                AOper.mk (some 23) (AOp.load false 1 (Operand.tmp 22)) none [1],
                                AOper.mk (some 6) (AOp.mv (Operand.tmp 21)) none [0, 0, 1, 2],
                                AOper.mk (some 7) (AOp.mv (Operand.tmp 23)) none [2, 3, 0, 1, 2, 3]]
def l56r7 : List AOper :=
  [AOper.mk (some 24) (AOp.fld 1 (Operand.tmp 1)) none [],
                                  AOper.mk (some 25) (AOp.load false 1 (Operand.tmp 24)) none [0],
                                  AOper.mk (some 26) (AOp.mv (Operand.tmp 6)) none [],
                                  AOper.mk (some 27) (AOp.idxA 1 (Operand.tmp 25) (Operand.tmp 26)) none [1, 2],
                                  AOper.mk (some 28) (AOp.load false 1 (Operand.tmp 27)) none [3],
                                  AOper.mk (some 29)
                                    (AOp.bin BinOp.sub (Operand.tmp 28)
                                      (Operand.const (Value.int IntKind.i64 1)))
                                    none [4],
                                  AOper.mk (some 30) (AOp.mv (Operand.tmp 7)) none [],
                                  AOper.mk (some 31) (AOp.bin BinOp.mul (Operand.tmp 29) (Operand.tmp 30)) none [5, 6],
                                  AOper.mk (some 8) (AOp.mv (Operand.tmp 31)) none [7, 0, 1, 2, 3, 4, 5, 6, 7]]
def l56r8 : List AOper :=
  [AOper.mk (some 32) (AOp.mv (Operand.tmp 4)) none [],
                                    AOper.mk (some 33) (AOp.mv (Operand.tmp 8)) none [],
                                    AOper.mk (some 34)
                                      (AOp.minmax false (Operand.tmp 33)
                                        (Operand.const (Value.int IntKind.i64 0)))
                                      none [1],
                                    AOper.mk (some 35) (AOp.bin BinOp.add (Operand.tmp 32) (Operand.tmp 34)) none
                                      [0, 2],
                                    AOper.mk (some 4) (AOp.mv (Operand.tmp 35)) none [3, 0, 1, 2, 3]]
def l56r9 : List AOper :=
  [AOper.mk (some 36) (AOp.mv (Operand.tmp 5)) none [],
                                    AOper.mk (some 37) (AOp.mv (Operand.tmp 8)) none [],
                                    AOper.mk (some 38)
                                      (AOp.minmax true (Operand.tmp 37)
                                        (Operand.const (Value.int IntKind.i64 0)))
                                      none [1],
                                    AOper.mk (some 39) (AOp.bin BinOp.add (Operand.tmp 36) (Operand.tmp 38)) none
                                      [0, 2],
                                    AOper.mk (some 5) (AOp.mv (Operand.tmp 39)) none [3, 0, 1, 2, 3]]
def l56r10 : List AOper :=
  [AOper.mk (some 40)
                              (AOp.bin BinOp.add (Operand.tmp 19) (Operand.const (Value.int IntKind.i64 1)))
                              none [],
                            AOper.mk (some 19) (AOp.mv (Operand.tmp 40)) none [0]]
def l56r11 : List AOper :=
  [AOper.mk (some 41) (AOp.mv (Operand.tmp 4)) none [],
                  AOper.mk (some 42) (AOp.mv (Operand.tmp 5)) none [],
                  AOper.mk (some 2) (AOp.mv (Operand.tmp 41)) none [0, 0],
                  AOper.mk (some 3) (AOp.mv (Operand.tmp 42)) none [1, 2, 0, 1, 2]]
def l56 : AFn :=
  (AFn.mk 43 1
    (ACode.seq
      (ACode.reg l56r0)
      (ACode.seq
        (ACode.seq
          (ACode.reg l56r1)
          (ACode.cond (Operand.tmp 11)
            (ACode.seq
              (ACode.reg l56r2)
              ACode.ret)
            ACode.skip))
        (ACode.seq
          (ACode.draw l56r3)
          (ACode.seq
            (ACode.seq
              (ACode.reg l56r4)
              (ACode.block 0
                (ACode.loop
                  (ACode.seq
                    (ACode.reg l56r5)
                    (ACode.seq (ACode.cond (Operand.tmp 20) ACode.skip (ACode.exit 0))
                      (ACode.seq
                        (ACode.block 1
                          (ACode.seq
                            (ACode.reg l56r6)
                            (ACode.seq
                              (ACode.reg l56r7)
                              (ACode.seq
                                (ACode.reg l56r8)
                                (ACode.reg l56r9)))))
                        (ACode.reg l56r10)))))))
            (ACode.seq
              (ACode.reg l56r11)
              ACode.ret)))))
    [ARes.tmp 2, ARes.tmp 3])
theorem l56_eq : lowFn Try.prog 56 = some l56 := by kernel_rfl
def l57r0 : List AOper :=
  [AOper.mk (some 1) (AOp.box (Operand.tmp 0)) none [],
          AOper.mk (some 2) (AOp.mv (Operand.const (Value.int IntKind.i64 0))) none []]
def l57r1 : List AOper :=
  [AOper.mk (some 3) (AOp.fld 1 (Operand.tmp 1)) none [],
            AOper.mk (some 4) (AOp.load false 1 (Operand.tmp 3)) none [0],
            AOper.mk (some 5) (AOp.call 79 [Operand.tmp 4]) none [1],
            AOper.mk (some 2) (AOp.mv (Operand.tmp 5)) none [2, 2, 0, 1, 2]]
def l57 : AFn :=
  (AFn.mk 6 1
    (ACode.seq
      (ACode.reg l57r0)
      (ACode.seq
        (ACode.reg l57r1)
        ACode.ret))
    [ARes.tmp 2])
theorem l57_eq : lowFn Try.prog 57 = some l57 := by kernel_rfl
def l59r0 : List AOper :=
  [AOper.mk (some 2) (AOp.box (Operand.tmp 0)) none [],
          AOper.mk (some 4) (AOp.mv (Operand.const (Value.int IntKind.i64 0))) none []]
def l59r1 : List AOper :=
  [AOper.mk (some 7) (AOp.fld 0 (Operand.tmp 2)) none [],
            AOper.mk (some 8) (AOp.load false 1 (Operand.tmp 7)) none [0],
            AOper.mk (some 5) (AOp.mv (Operand.tmp 8)) none [1, 0, 1]]
def l59r2 : List AOper :=
  [AOper.mk (some 6) (AOp.mv (Operand.const (Value.int IntKind.i64 0))) none []]
def l59r3 : List AOper :=
  [AOper.mk (some 9) (AOp.mv (Operand.tmp 6)) none [],
                        AOper.mk (some 10) (AOp.mv (Operand.tmp 1)) none [],
                        AOper.mk (some 11) (AOp.len (Operand.tmp 10)) none [1],
                        AOper.mk (some 12) (AOp.bin BinOp.lss (Operand.tmp 9) (Operand.tmp 11)) none [0, 2]]
def l59r4a : List AOper :=
  [AOper.mk (some 15) (AOp.mv (Operand.tmp 5)) none [], AOper.mk (some 16) (AOp.mv (Operand.tmp 1)) none [], AOper.mk (some 17) (AOp.mv (Operand.tmp 6)) none [], AOper.mk (some 18) (AOp.idxA 1 (Operand.tmp 16) (Operand.tmp 17)) none [1, 2], AOper.mk (some 19) (AOp.load false 1 (Operand.tmp 18)) none [3], AOper.mk (some 20) (AOp.fld 2 (Operand.tmp 2)) none [], AOper.mk (some 21) (AOp.load false 1 (Operand.tmp 20)) none [5], AOper.mk (some 22) (AOp.mv (Operand.tmp 6)) none [], AOper.mk (some 23) (AOp.idxA 1 (Operand.tmp 21) (Operand.tmp 22)) none [6, 7], AOper.mk (some 24) (AOp.load false 1 (Operand.tmp 23)) none [8], AOper.mk (some 25) (AOp.bin BinOp.mul (Operand.tmp 19) (Operand.tmp 24)) none [4, 9]]
def l59r4b : List AOper :=
  [AOper.mk (some 26) (AOp.bin BinOp.add (Operand.tmp 15) (Operand.tmp 25)) none [0, 10], AOper.mk (some 5) (AOp.mv (Operand.tmp 26)) none [11, 0, 1, 2, 3, 4, 5, 6, 7, 8, 9, 10, 11]]
def l59r4 : List AOper := l59r4a ++ l59r4b
def l59r5 : List AOper :=
  [AOper.mk (some 13) (AOp.mv (Operand.tmp 6)) none [],
                        AOper.mk (some 14)
                          (AOp.bin BinOp.add (Operand.tmp 13) (Operand.const (Value.int IntKind.i64 1)))
                          none [0],
                        AOper.mk (some 6) (AOp.mv (Operand.tmp 14)) none [1, 0, 1]]
def l59r6 : List AOper :=
  [AOper.mk (some 27) (AOp.mv (Operand.tmp 5)) none [],
                AOper.mk (some 4) (AOp.mv (Operand.tmp 27)) none [0, 0]]
def l59 : AFn :=
  (AFn.mk 28 2
    (ACode.seq
      (ACode.reg l59r0)
      (ACode.seq
        (ACode.reg l59r1)
        (ACode.seq
          (ACode.seq
            (ACode.reg l59r2)
            (ACode.block 0
              (ACode.loop
                (ACode.seq
                  (ACode.seq
                    (ACode.reg l59r3)
                    (ACode.cond (Operand.tmp 12) ACode.skip (ACode.exit 0)))
                  (ACode.seq
                    (ACode.block 1
                      (ACode.draw l59r4))
                    (ACode.reg l59r5))))))
          (ACode.seq
            (ACode.reg l59r6)
            ACode.ret))))
    [ARes.tmp 4])
theorem l59_eq : lowFn Try.prog 59 = some l59 := by kernel_rfl
def l61r0 : List AOper :=
  [AOper.mk (some 2) (AOp.box (Operand.tmp 0)) none [], AOper.mk (some 3) (AOp.box (Operand.tmp 1)) none [],
          AOper.mk (some 4) (AOp.mv (Operand.const (Value.int IntKind.i64 0))) none []]
def l61r1a : List AOper :=
  [AOper.mk (some 5) (AOp.fld 0 (Operand.tmp 2)) none [], AOper.mk (some 6) (AOp.load false 1 (Operand.tmp 5)) none [0], AOper.mk (some 7) (AOp.load true 4 (Operand.tmp 3)) none [], AOper.mk (some 8) (AOp.fld 2 (Operand.tmp 2)) none [], AOper.mk (some 9) (AOp.load false 1 (Operand.tmp 8)) none [3], AOper.mk (some 10) (AOp.call 80 [Operand.tmp 7, Operand.tmp 9]) none [2, 4]]
def l61r1b : List AOper :=
  [AOper.mk (some 11) (AOp.bin BinOp.add (Operand.tmp 6) (Operand.tmp 10)) none [1, 5], AOper.mk (some 4) (AOp.mv (Operand.tmp 11)) none [6, 5, 0, 1, 2, 3, 4, 5, 6]]
def l61r1 : List AOper := l61r1a ++ l61r1b
def l61 : AFn :=
  (AFn.mk 12 2
    (ACode.seq
      (ACode.reg l61r0)
      (ACode.seq
        (ACode.draw l61r1)
        ACode.ret))
    [ARes.tmp 4])
theorem l61_eq : lowFn Try.prog 61 = some l61 := by kernel_rfl
def l62r0 : List AOper :=
  [AOper.mk (some 1) (AOp.box (Operand.tmp 0)) none [],
          AOper.mk (some 2) (AOp.mv (Operand.const (Value.slice none 0 0))) none []]
def l62r1 : List AOper :=
  [AOper.mk (some 5) (AOp.bslice 1 [Value.int IntKind.i64 0] [] 0) none [],
            AOper.mk (some 3) (AOp.mv (Operand.tmp 5)) none [0, 0]]
def l62r2 : List AOper :=
  [AOper.mk (some 4) (AOp.mv (Operand.const (Value.int IntKind.i64 0))) none []]
def l62r3 : List AOper :=
  [AOper.mk (some 6) (AOp.mv (Operand.tmp 4)) none [],
                        AOper.mk (some 7) (AOp.fld 1 (Operand.tmp 1)) none [],
                        AOper.mk (some 8) (AOp.load false 1 (Operand.tmp 7)) none [1],
                        AOper.mk (some 9) (AOp.call 64 [Operand.tmp 8]) none [2],
                        AOper.mk (some 10) (AOp.bin BinOp.lss (Operand.tmp 6) (Operand.tmp 9)) none [0, 3]]
def l62r4a : List AOper :=
  [AOper.mk (some 13) (AOp.mv (Operand.tmp 3)) none [], AOper.mk (some 14) (AOp.load true 3 (Operand.tmp 1)) none [], AOper.mk (some 15) (AOp.fld 1 (Operand.tmp 1)) none [], AOper.mk (some 16) (AOp.load false 1 (Operand.tmp 15)) none [2], AOper.mk (some 17) (AOp.mv (Operand.tmp 4)) none [], AOper.mk (some 18) (AOp.call 81 [Operand.tmp 16, Operand.tmp 17]) none [3, 4], AOper.mk (some 19) (AOp.call 59 [Operand.tmp 14, Operand.tmp 18]) none [1, 5, 5], AOper.mk (some 20)
                            (AOp.bslice 1 [Value.int IntKind.i64 0] [(0, Operand.tmp 19)] 1) none [6]]
def l62r4b : List AOper :=
  [AOper.mk (some 21) (AOp.append 1 (Operand.tmp 13) (Operand.tmp 20)) none [0, 7, 6], AOper.mk (some 3) (AOp.mv (Operand.tmp 21)) none [8, 8, 0, 1, 2, 3, 4, 5, 6, 7, 8]]
def l62r4 : List AOper := l62r4a ++ l62r4b
def l62r5 : List AOper :=
  [AOper.mk (some 11) (AOp.mv (Operand.tmp 4)) none [],
                        AOper.mk (some 12)
                          (AOp.bin BinOp.add (Operand.tmp 11) (Operand.const (Value.int IntKind.i64 1)))
                          none [0],
                        AOper.mk (some 4) (AOp.mv (Operand.tmp 12)) none [1, 0, 1]]
def l62r6 : List AOper :=
  [AOper.mk (some 22) (AOp.mv (Operand.tmp 3)) none [],
                AOper.mk (some 2) (AOp.mv (Operand.tmp 22)) none [0, 0]]
def l62 : AFn :=
  (AFn.mk 23 1
    (ACode.seq
      (ACode.reg l62r0)
      (ACode.seq
        (ACode.reg l62r1)
        (ACode.seq
          (ACode.seq
            (ACode.reg l62r2)
            (ACode.block 0
              (ACode.loop
                (ACode.seq
                  (ACode.seq
                    (ACode.reg l62r3)
                    (ACode.cond (Operand.tmp 10) ACode.skip (ACode.exit 0)))
                  (ACode.seq
                    (ACode.block 1
                      (ACode.draw l62r4))
                    (ACode.reg l62r5))))))
          (ACode.seq
            (ACode.reg l62r6)
            ACode.ret))))
    [ARes.tmp 2])
theorem l62_eq : lowFn Try.prog 62 = some l62 := by kernel_rfl
def l63r0 : List AOper :=
  [AOper.mk (some 1) (AOp.box (Operand.tmp 0)) none [],
          AOper.mk (some 2) (AOp.mv (Operand.const (Value.slice none 0 0))) none []]
def l63r1 : List AOper :=
  [AOper.mk (some 5) (AOp.load true 3 (Operand.tmp 1)) none [],
            AOper.mk (some 6) (AOp.call 57 [Operand.tmp 5]) none [0],
            AOper.mk (some 7) (AOp.mkslice 1 [Value.int IntKind.i64 0] (Operand.tmp 6) (Operand.tmp 6)) none
              [1, 1],
            AOper.mk (some 3) (AOp.mv (Operand.tmp 7)) none [2, 1, 0, 1, 2]]
def l63r2 : List AOper :=
  [AOper.mk (some 8) (AOp.mv (Operand.tmp 3)) none [], AOper.mk (some 9) (AOp.len (Operand.tmp 8)) none [0],
                AOper.mk (some 10) (AOp.mv (Operand.const (Value.int IntKind.i64 0))) none []]
def l63r3 : List AOper :=
  [AOper.mk (some 11) (AOp.bin BinOp.lss (Operand.tmp 10) (Operand.tmp 9)) none []]
def l63r4 : List AOper :=
  [AOper.mk (some 12) (AOp.mv (Operand.tmp 10)) none [],
                              AOper.mk (some 4) (AOp.mv (Operand.tmp 12)) none [0, 0]]
def l63r5a : List AOper :=
  [AOper.mk (some 13) (AOp.mv (Operand.tmp 3)) none [], AOper.mk (some 14) (AOp.mv (Operand.tmp 4)) none [], AOper.mk (some 15) (AOp.load true 3 (Operand.tmp 1)) none [], AOper.mk (some 16) (AOp.fld 1 (Operand.tmp 1)) none [], AOper.mk (some 17) (AOp.load false 1 (Operand.tmp 16)) none [3], AOper.mk (some 18) (AOp.mv (Operand.tmp 4)) none [], AOper.mk (some 19) (AOp.call 82 [Operand.tmp 17, Operand.tmp 18]) none [4, 5], AOper.mk (some 20) (AOp.call 61 [Operand.tmp 15, Operand.tmp 19]) none [2, 6, 6]]
def l63r5b : List AOper :=
  [AOper.mk (some 21) (AOp.idxA 1 (Operand.tmp 13) (Operand.tmp 14)) none
                                [0, 1, 0, 1, 2, 3, 4, 5, 6, 7], AOper.mk none (AOp.store 1 (Operand.tmp 21) (Operand.tmp 20)) none
                                [8, 7, 7, 0, 1, 2, 3, 4, 5, 6, 7]]
def l63r5 : List AOper := l63r5a ++ l63r5b
def l63r6 : List AOper :=
  [AOper.mk (some 22)
                            (AOp.bin BinOp.add (Operand.tmp 10) (Operand.const (Value.int IntKind.i64 1)))
                            none [],
                          AOper.mk (some 10) (AOp.mv (Operand.tmp 22)) none [0]]
def l63r7 : List AOper :=
  [AOper.mk (some 23) (AOp.mv (Operand.tmp 3)) none [],
                AOper.mk (some 2) (AOp.mv (Operand.tmp 23)) none [0, 0]]
def l63 : AFn :=
  (AFn.mk 24 1
    (ACode.seq
      (ACode.reg l63r0)
      (ACode.seq
        (ACode.reg l63r1)
        (ACode.seq
          (ACode.seq
            (ACode.reg l63r2)
            (ACode.block 0
              (ACode.loop
                (ACode.seq (ACode.reg l63r3)
                  (ACode.seq (ACode.cond (Operand.tmp 11) ACode.skip (ACode.exit 0))
                    (ACode.seq
                      (ACode.block 1
                        (ACode.seq
                          (ACode.reg l63r4)
                          (ACode.draw l63r5)))
                      (ACode.reg l63r6)))))))
          (ACode.seq
            (ACode.reg l63r7)
            ACode.ret))))
    [ARes.tmp 2])
theorem l63_eq : lowFn Try.prog 63 = some l63 := by kernel_rfl
def l64r0 : List AOper :=
  [AOper.mk (some 2) (AOp.mv (Operand.const (Value.int IntKind.i64 0))) none []]
def l64r1 : List AOper :=
  [AOper.mk (some 3) (AOp.mv (Operand.const (Value.int IntKind.i64 1))) none []]
def l64r2 : List AOper :=
  [AOper.mk (some 4) (AOp.mv (Operand.const (Value.int IntKind.i64 0))) none []]
def l64r3 : List AOper :=
  [AOper.mk (some 5) (AOp.mv (Operand.tmp 4)) none [],
                        AOper.mk (some 6) (AOp.mv (Operand.tmp 0)) none [],
                        AOper.mk (some 7) (AOp.len (Operand.tmp 6)) none [1],
                        AOper.mk (some 8) (AOp.bin BinOp.lss (Operand.tmp 5) (Operand.tmp 7)) none [0, 2]]
def l64r4 : List AOper :=
  [AOper.mk (some 11) (AOp.mv (Operand.tmp 3)) none [],
                          AOper.mk (some 12) (AOp.mv (Operand.tmp 0)) none [],
                          AOper.mk (some 13) (AOp.mv (Operand.tmp 4)) none [],
                          AOper.mk (some 14) (AOp.idxA 1 (Operand.tmp 12) (Operand.tmp 13)) none [1, 2],
                          AOper.mk (some 15) (AOp.load false 1 (Operand.tmp 14)) none [3],
                          AOper.mk (some 16) (AOp.bin BinOp.mul (Operand.tmp 11) (Operand.tmp 15)) none [0, 4],
                          AOper.mk (some 3) (AOp.mv (Operand.tmp 16)) none [5, 0, 1, 2, 3, 4, 5]]
def l64r5 : List AOper :=
  [AOper.mk (some 9) (AOp.mv (Operand.tmp 4)) none [],
                        AOper.mk (some 10)
                          (AOp.bin BinOp.add (Operand.tmp 9) (Operand.const (Value.int IntKind.i64 1))) none
                          [0],
                        AOper.mk (some 4) (AOp.mv (Operand.tmp 10)) none [1, 0, 1]]
def l64r6 : List AOper :=
  [AOper.mk (some 17) (AOp.mv (Operand.tmp 3)) none [],
                AOper.mk (some 2) (AOp.mv (Operand.tmp 17)) none [0, 0]]
def l64 : AFn :=
  (AFn.mk 18 1
    (ACode.seq (ACode.reg l64r0)
      (ACode.seq (ACode.reg l64r1)
        (ACode.seq
          (ACode.seq
            (ACode.reg l64r2)
            (ACode.block 0
              (ACode.loop
                (ACode.seq
                  (ACode.seq
                    (ACode.reg l64r3)
                    (ACode.cond (Operand.tmp 8) ACode.skip (ACode.exit 0)))
                  (ACode.seq
                    (ACode.block 1
                      (ACode.reg l64r4))
                    (ACode.reg l64r5))))))
          (ACode.seq
            (ACode.reg l64r6)
            ACode.ret))))
    [ARes.tmp 2])
theorem l64_eq : lowFn Try.prog 64 = some l64 := by kernel_rfl
def l69r0 : List AOper :=
  [AOper.mk (some 4) (AOp.mv (Operand.const (Value.bool false))) none []]
def l69r1 : List AOper :=
  [AOper.mk (some 5) (AOp.mv (Operand.tmp 1)) none [],
            AOper.mk (some 6) (AOp.un UnOp.neg (Operand.tmp 5)) none [0],
            AOper.mk (some 7) (AOp.mv (Operand.tmp 0)) none [],
            AOper.mk (some 8) (AOp.bin BinOp.leq (Operand.tmp 6) (Operand.tmp 7)) none [1, 2],
            AOper.mk (some 9) (AOp.mv (Operand.tmp 8)) none [3],
            AOper.mk (some 10) (AOp.mv (Operand.tmp 0)) (some (9, true)) [4],
            AOper.mk (some 11) (AOp.mv (Operand.tmp 1)) (some (9, true)) [4],
            AOper.mk (some 12) (AOp.bin BinOp.leq (Operand.tmp 10) (Operand.tmp 11)) (some (9, true)) [5, 6, 4],
            AOper.mk (some 13) (AOp.pick (Operand.tmp 9) (Operand.tmp 12) (Operand.const (Value.bool false))) none
              [4, 7],
            AOper.mk (some 4) (AOp.mv (Operand.tmp 13)) none [8, 4, 0, 1, 2, 3, 4, 5, 6, 7, 8]]
def l69 : AFn :=
  (AFn.mk 14 2
    (ACode.seq (ACode.reg l69r0)
      (ACode.seq
        (ACode.reg l69r1)
        ACode.ret))
    [ARes.tmp 4])
theorem l69_eq : lowFn Try.prog 69 = some l69 := by kernel_rfl
def l77r0 : List AOper :=
  [AOper.mk (some 2) (AOp.mv (Operand.const (Value.bool false))) none []]
def l77r1 : List AOper :=
  [AOper.mk (some 3) (AOp.mv (Operand.tmp 0)) none [], AOper.mk (some 4) (AOp.len (Operand.tmp 3)) none [0],
            AOper.mk (some 5) (AOp.bin BinOp.leq (Operand.tmp 4) (Operand.const (Value.int IntKind.i64 4)))
              none [1],
            AOper.mk (some 6) (AOp.mv (Operand.tmp 5)) none [2],
            AOper.mk (some 7) (AOp.mv (Operand.tmp 0)) (some (6, true)) [3],
            AOper.mk (some 8)
              (AOp.call 78
                [Operand.tmp 7, Operand.const (Value.int IntKind.i64 0),
                  Operand.const (Value.int IntKind.i64 60)])
              (some (6, true)) [4, 3, 3],
            AOper.mk (some 9) (AOp.pick (Operand.tmp 6) (Operand.tmp 8) (Operand.const (Value.bool false))) none [3, 5],
            AOper.mk (some 10) (AOp.mv (Operand.tmp 9)) none [6, 5],
            AOper.mk (some 11) (AOp.mv (Operand.tmp 0)) (some (10, true)) [7],
            AOper.mk (some 12) (AOp.call 64 [Operand.tmp 11]) (some (10, true)) [8, 7, 7],
            AOper.mk (some 13)
              (AOp.bin BinOp.leq (Operand.tmp 12) (Operand.const (Value.int IntKind.i64 60)))
              (some (10, true)) [9, 7],
            AOper.mk (some 14) (AOp.pick (Operand.tmp 10) (Operand.tmp 13) (Operand.const (Value.bool false))) none
              [7, 10],
            AOper.mk (some 2) (AOp.mv (Operand.tmp 14)) none [11, 9, 0, 1, 2, 3, 4, 5, 6, 7, 8, 9, 10, 11]]
def l77 : AFn :=
  (AFn.mk 15 1
    (ACode.seq (ACode.reg l77r0)
      (ACode.seq
        (ACode.reg l77r1)
        ACode.ret))
    [ARes.tmp 2])
theorem l77_eq : lowFn Try.prog 77 = some l77 := by kernel_rfl
def l78r0 : List AOper :=
  [AOper.mk (some 6) (AOp.mv (Operand.const (Value.bool false))) none []]
def l78r1 : List AOper :=
  [AOper.mk (some 7) (AOp.mv (Operand.const (Value.int IntKind.i64 0))) none []]
def l78r2 : List AOper :=
  [AOper.mk (some 8) (AOp.mv (Operand.tmp 7)) none [],
                      AOper.mk (some 9) (AOp.mv (Operand.tmp 0)) none [],
                      AOper.mk (some 10) (AOp.len (Operand.tmp 9)) none [1],
                      AOper.mk (some 11) (AOp.bin BinOp.lss (Operand.tmp 8) (Operand.tmp 10)) none [0, 2]]
def l78r3 : List AOper :=
  [AOper.mk (some 14) (AOp.mv (Operand.tmp 0)) none [],
                          AOper.mk (some 15) (AOp.mv (Operand.tmp 7)) none [],
                          AOper.mk (some 16) (AOp.idxA 1 (Operand.tmp 14) (Operand.tmp 15)) none [0, 1],
                          AOper.mk (some 17) (AOp.load false 1 (Operand.tmp 16)) none [2],
                          AOper.mk (some 18) (AOp.mv (Operand.tmp 1)) none [],
                          AOper.mk (some 19) (AOp.mv (Operand.tmp 2)) none [],
                          AOper.mk (some 20) (AOp.call 48 [Operand.tmp 17, Operand.tmp 18, Operand.tmp 19]) none
                            [3, 4, 5],
                          AOper.mk (some 21) (AOp.un UnOp.not (Operand.tmp 20)) none [6]]
def l78r4 : List AOper :=
  [AOper.mk (some 6) (AOp.mv (Operand.const (Value.bool false))) none []]
def l78r5 : List AOper :=
  [AOper.mk (some 12) (AOp.mv (Operand.tmp 7)) none [],
                      AOper.mk (some 13)
                        (AOp.bin BinOp.add (Operand.tmp 12) (Operand.const (Value.int IntKind.i64 1))) none
                        [0],
                      AOper.mk (some 7) (AOp.mv (Operand.tmp 13)) none [1, 0, 1]]
def l78r6 : List AOper :=
  [AOper.mk (some 6) (AOp.mv (Operand.const (Value.bool true))) none []]
def l78 : AFn :=
  (AFn.mk 22 3
    (ACode.seq (ACode.reg l78r0)
      (ACode.seq
        (ACode.seq
          (ACode.reg l78r1)
          (ACode.block 0
            (ACode.loop
              (ACode.seq
                (ACode.seq
                  (ACode.reg l78r2)
                  (ACode.cond (Operand.tmp 11) ACode.skip (ACode.exit 0)))
                (ACode.seq
                  (ACode.block 1
                    (ACode.seq
                      (ACode.reg l78r3)
                      (ACode.cond (Operand.tmp 21)
                        (ACode.seq (ACode.reg l78r4)
                          ACode.ret)
                        ACode.skip)))
                  (ACode.reg l78r5))))))
        (ACode.seq (ACode.reg l78r6) ACode.ret)))
    [ARes.tmp 6])
theorem l78_eq : lowFn Try.prog 78 = some l78 := by kernel_rfl
def l79r0 : List AOper :=
  [AOper.mk (some 2) (AOp.mv (Operand.const (Value.int IntKind.i64 0))) none []]
def l79r1 : List AOper :=
  [AOper.mk (some 3) (AOp.mv (Operand.const (Value.int IntKind.i64 1))) none []]
def l79r2 : List AOper :=
  [AOper.mk (some 6) (AOp.mv (Operand.tmp 0)) none [], AOper.mk (some 7) (AOp.len (Operand.tmp 6)) none [0],
                AOper.mk (some 8) (AOp.mv (Operand.const (Value.int IntKind.i64 0))) none []]
def l79r3 : List AOper :=
  [AOper.mk (some 9) (AOp.bin BinOp.lss (Operand.tmp 8) (Operand.tmp 7)) none []]
def l79r4 : List AOper :=
  [AOper.mk (some 10) (AOp.idxA 1 (Operand.tmp 6) (Operand.tmp 8)) none [],
                              AOper.mk (some 11) (AOp.load false 1 (Operand.tmp 10)) none [0],
                              AOper.mk (some 5) (AOp.mv (Operand.tmp 11)) none [1, 0, 1]]
def l79r5 : List AOper :=
  [AOper.mk (some 12) (AOp.mv (Operand.tmp 3)) none [],
                              AOper.mk (some 13) (AOp.mv (Operand.tmp 5)) none [],
                              AOper.mk (some 14) (AOp.bin BinOp.mul (Operand.tmp 12) (Operand.tmp 13)) none [0, 1],
                              AOper.mk (some 3) (AOp.mv (Operand.tmp 14)) none [2, 0, 1, 2]]
def l79r6 : List AOper :=
  [AOper.mk (some 15)
                            (AOp.bin BinOp.add (Operand.tmp 8) (Operand.const (Value.int IntKind.i64 1)))
                            none [],
                          AOper.mk (some 8) (AOp.mv (Operand.tmp 15)) none [0]]
def l79r7 : List AOper :=
  [AOper.mk (some 16) (AOp.mv (Operand.tmp 3)) none [],
                AOper.mk (some 2) (AOp.mv (Operand.tmp 16)) none [0, 0]]
def l79 : AFn :=
  (AFn.mk 17 1
    (ACode.seq (ACode.reg l79r0)
      (ACode.seq (ACode.reg l79r1)
        (ACode.seq
          (ACode.seq
            (ACode.reg l79r2)
            (ACode.block 0
              (ACode.loop
                (ACode.seq (ACode.reg l79r3)
                  (ACode.seq (ACode.cond (Operand.tmp 9) ACode.skip (ACode.exit 0))
                    (ACode.seq
                      (ACode.block 1
                        (ACode.seq
                          (ACode.reg l79r4)
                          (ACode.reg l79r5)))
                      (ACode.reg l79r6)))))))
          (ACode.seq
            (ACode.reg l79r7)
            ACode.ret))))
    [ARes.tmp 2])
theorem l79_eq : lowFn Try.prog 79 = some l79 := by kernel_rfl
def l80r0 : List AOper :=
  [AOper.mk (some 2) (AOp.box (Operand.tmp 0)) none [],
          AOper.mk (some 4) (AOp.mv (Operand.const (Value.int IntKind.i64 0))) none []]
def l80r1 : List AOper :=
  [AOper.mk (some 5) (AOp.mv (Operand.const (Value.int IntKind.i64 0))) none []]
def l80r2 : List AOper :=
  [AOper.mk (some 8) (AOp.mv (Operand.tmp 1)) none [], AOper.mk (some 9) (AOp.len (Operand.tmp 8)) none [0],
                AOper.mk (some 10) (AOp.mv (Operand.const (Value.int IntKind.i64 0))) none []]
def l80r3 : List AOper :=
  [AOper.mk (some 11) (AOp.bin BinOp.lss (Operand.tmp 10) (Operand.tmp 9)) none []]
def l80r4 : List AOper :=
  [AOper.mk (some 12) (AOp.mv (Operand.tmp 10)) none [],
                              AOper.mk (some 13) (AOp.idxA 1 (Operand.tmp 8) (Operand.tmp 10)) none [],
                              AOper.mk (some 14) (AOp.load false 1 (Operand.tmp 13)) none [1],
                              AOper.mk (some 6) (AOp.mv (Operand.tmp 12)) none [0, 0, 1, 2],
                              AOper.mk (some 7) (AOp.mv (Operand.tmp 14)) none [2, 3, 0, 1, 2, 3]]
def l80r5 : List AOper :=
  [AOper.mk (some 15) (AOp.mv (Operand.tmp 5)) none [],
                              AOper.mk (some 16) (AOp.mv (Operand.tmp 6)) none [],
                              AOper.mk (some 17) (AOp.idxP 1 4 (Operand.tmp 2) (Operand.tmp 16)) none [1],
                              AOper.mk (some 18) (AOp.load false 1 (Operand.tmp 17)) none [2],
                              AOper.mk (some 19) (AOp.mv (Operand.tmp 7)) none [],
                              AOper.mk (some 20) (AOp.bin BinOp.mul (Operand.tmp 18) (Operand.tmp 19)) none [3, 4],
                              AOper.mk (some 21) (AOp.bin BinOp.add (Operand.tmp 15) (Operand.tmp 20)) none [0, 5],
                              AOper.mk (some 5) (AOp.mv (Operand.tmp 21)) none [6, 0, 1, 2, 3, 4, 5, 6]]
def l80r6 : List AOper :=
  [AOper.mk (some 22)
                            (AOp.bin BinOp.add (Operand.tmp 10) (Operand.const (Value.int IntKind.i64 1)))
                            none [],
                          AOper.mk (some 10) (AOp.mv (Operand.tmp 22)) none [0]]
def l80r7 : List AOper :=
  [AOper.mk (some 23) (AOp.mv (Operand.tmp 5)) none [],
                AOper.mk (some 4) (AOp.mv (Operand.tmp 23)) none [0, 0]]
def l80 : AFn :=
  (AFn.mk 24 2
    (ACode.seq
      (ACode.reg l80r0)
      (ACode.seq (ACode.reg l80r1)
        (ACode.seq
          (ACode.seq
            (ACode.reg l80r2)
            (ACode.block 0
              (ACode.loop
                (ACode.seq (ACode.reg l80r3)
                  (ACode.seq (ACode.cond (Operand.tmp 11) ACode.skip (ACode.exit 0))
                    (ACode.seq
                      (ACode.block 1
                        (ACode.seq
                          (ACode.reg l80r4)
                          (ACode.reg l80r5)))
                      (ACode.reg l80r6)))))))
          (ACode.seq
            (ACode.reg l80r7)
            ACode.ret))))
    [ARes.tmp 4])
theorem l80_eq : lowFn Try.prog 80 = some l80 := by kernel_rfl
def l81r0 : List AOper :=
  [AOper.mk (some 4) (AOp.mv (Operand.const (Value.slice none 0 0))) none []]
def l81r1 : List AOper :=
  [AOper.mk (some 7) (AOp.mv (Operand.tmp 0)) none [], AOper.mk (some 8) (AOp.len (Operand.tmp 7)) none [0],
            AOper.mk (some 9) (AOp.mkslice 1 [Value.int IntKind.i64 0] (Operand.tmp 8) (Operand.tmp 8)) none
              [1, 1],
            AOper.mk (some 5) (AOp.mv (Operand.tmp 9)) none [2, 0, 1, 2]]
def l81r2 : List AOper :=
  [AOper.mk (some 10) (AOp.mv (Operand.tmp 0)) none [],
                AOper.mk (some 11) (AOp.len (Operand.tmp 10)) none [0],
                AOper.mk (some 12)
                  (AOp.bin BinOp.sub (Operand.tmp 11) (Operand.const (Value.int IntKind.i64 1))) none [1],
                AOper.mk (some 6) (AOp.mv (Operand.tmp 12)) none [2, 0, 1, 2]]
def l81r3 : List AOper :=
  [AOper.mk (some 13) (AOp.mv (Operand.tmp 6)) none [],
                        AOper.mk (some 14)
                          (AOp.bin BinOp.geq (Operand.tmp 13) (Operand.const (Value.int IntKind.i64 0)))
                          none [0]]
def l81r4 : List AOper :=
  [AOper.mk (some 17) (AOp.mv (Operand.tmp 5)) none [],
                            AOper.mk (some 18) (AOp.mv (Operand.tmp 6)) none [],
                            AOper.mk (some 19) (AOp.mv (Operand.tmp 1)) none [],
                            AOper.mk (some 20) (AOp.mv (Operand.tmp 0)) none [],
                            AOper.mk (some 21) (AOp.mv (Operand.tmp 6)) none [],
                            AOper.mk (some 22) (AOp.idxA 1 (Operand.tmp 20) (Operand.tmp 21)) none [3, 4],
                            AOper.mk (some 23) (AOp.load false 1 (Operand.tmp 22)) none [5],
                            AOper.mk (some 24) (AOp.bin BinOp.rem (Operand.tmp 19) (Operand.tmp 23)) none [2, 6],
                            AOper.mk (some 25) (AOp.idxA 1 (Operand.tmp 17) (Operand.tmp 18)) none
                              [0, 1, 0, 1, 2, 3, 4, 5, 6, 7],
                            AOper.mk none (AOp.store 1 (Operand.tmp 25) (Operand.tmp 24)) none
                              [8, 7, 0, 1, 2, 3, 4, 5, 6, 7]]
def l81r5 : List AOper :=
  [AOper.mk (some 26) (AOp.mv (Operand.tmp 1)) none [],
                            AOper.mk (some 27) (AOp.mv (Operand.tmp 0)) none [],
                            AOper.mk (some 28) (AOp.mv (Operand.tmp 6)) none [],
                            AOper.mk (some 29) (AOp.idxA 1 (Operand.tmp 27) (Operand.tmp 28)) none [1, 2],
                            AOper.mk (some 30) (AOp.load false 1 (Operand.tmp 29)) none [3],
                            AOper.mk (some 31) (AOp.bin BinOp.quo (Operand.tmp 26) (Operand.tmp 30)) none [0, 4],
                            AOper.mk (some 1) (AOp.mv (Operand.tmp 31)) none [5, 0, 1, 2, 3, 4, 5]]
def l81r6 : List AOper :=
  [AOper.mk (some 15) (AOp.mv (Operand.tmp 6)) none [],
                        AOper.mk (some 16)
                          (AOp.bin BinOp.sub (Operand.tmp 15) (Operand.const (Value.int IntKind.i64 1)))
                          none [0],
                        AOper.mk (some 6) (AOp.mv (Operand.tmp 16)) none [1, 0, 1]]
def l81r7 : List AOper :=
  [AOper.mk (some 32) (AOp.mv (Operand.tmp 5)) none [],
                AOper.mk (some 4) (AOp.mv (Operand.tmp 32)) none [0, 0]]
def l81 : AFn :=
  (AFn.mk 33 2
    (ACode.seq (ACode.reg l81r0)
      (ACode.seq
        (ACode.reg l81r1)
        (ACode.seq
          (ACode.seq
            (ACode.reg l81r2)
            (ACode.block 0
              (ACode.loop
                (ACode.seq
                  (ACode.seq
                    (ACode.reg l81r3)
                    (ACode.cond (Operand.tmp 14) ACode.skip (ACode.exit 0)))
                  (ACode.seq
                    (ACode.block 1
                      (ACode.seq
                        (ACode.reg l81r4)
                        (ACode.reg l81r5)))
                    (ACode.reg l81r6))))))
          (ACode.seq
            (ACode.reg l81r7)
            ACode.ret))))
    [ARes.tmp 4])
theorem l81_eq : lowFn Try.prog 81 = some l81 := by kernel_rfl
def l82r0 : List AOper :=
  [AOper.mk (some 4)
            (AOp.alloc
              [Value.int IntKind.i64 0, Value.int IntKind.i64 0,
                Value.int IntKind.i64 0, Value.int IntKind.i64 0])
            none []]
def l82r1 : List AOper :=
  [AOper.mk (some 5)
              (AOp.alloc
                [Value.int IntKind.i64 0, Value.int IntKind.i64 0,
                  Value.int IntKind.i64 0, Value.int IntKind.i64 0])
              none []]
def l82r2 : List AOper :=
  [AOper.mk (some 7) (AOp.mv (Operand.tmp 0)) none [], AOper.mk (some 8) (AOp.len (Operand.tmp 7)) none [0],
                AOper.mk (some 9)
                  (AOp.bin BinOp.sub (Operand.tmp 8) (Operand.const (Value.int IntKind.i64 1))) none [1],
                AOper.mk (some 6) (AOp.mv (Operand.tmp 9)) none [2, 0, 1, 2]]
def l82r3 : List AOper :=
  [AOper.mk (some 10) (AOp.mv (Operand.tmp 6)) none [],
                        AOper.mk (some 11)
                          (AOp.bin BinOp.geq (Operand.tmp 10) (Operand.const (Value.int IntKind.i64 0)))
                          none [0]]
def l82r4 : List AOper :=
  [AOper.mk (some 14) (AOp.mv (Operand.tmp 6)) none [],
                            AOper.mk (some 15) (AOp.mv (Operand.tmp 1)) none [],
                            AOper.mk (some 16) (AOp.mv (Operand.tmp 0)) none [],
                            AOper.mk (some 17) (AOp.mv (Operand.tmp 6)) none [],
                            AOper.mk (some 18) (AOp.idxA 1 (Operand.tmp 16) (Operand.tmp 17)) none [2, 3],
                            AOper.mk (some 19) (AOp.load false 1 (Operand.tmp 18)) none [4],
                            AOper.mk (some 20) (AOp.bin BinOp.rem (Operand.tmp 15) (Operand.tmp 19)) none [1, 5],
                            AOper.mk (some 21) (AOp.idxP 1 4 (Operand.tmp 5) (Operand.tmp 14)) none
                              [0, 0, 1, 2, 3, 4, 5, 6],
                            AOper.mk none (AOp.store 1 (Operand.tmp 21) (Operand.tmp 20)) none
                              [7, 6, 0, 1, 2, 3, 4, 5, 6]]
def l82r5 : List AOper :=
  [AOper.mk (some 22) (AOp.mv (Operand.tmp 1)) none [],
                            AOper.mk (some 23) (AOp.mv (Operand.tmp 0)) none [],
                            AOper.mk (some 24) (AOp.mv (Operand.tmp 6)) none [],
                            AOper.mk (some 25) (AOp.idxA 1 (Operand.tmp 23) (Operand.tmp 24)) none [1, 2],
                            AOper.mk (some 26) (AOp.load false 1 (Operand.tmp 25)) none [3],
                            AOper.mk (some 27) (AOp.bin BinOp.quo (Operand.tmp 22) (Operand.tmp 26)) none [0, 4],
                            AOper.mk (some 1) (AOp.mv (Operand.tmp 27)) none [5, 0, 1, 2, 3, 4, 5]]
def l82r6 : List AOper :=
  [AOper.mk (some 12) (AOp.mv (Operand.tmp 6)) none [],
                        AOper.mk (some 13)
                          (AOp.bin BinOp.sub (Operand.tmp 12) (Operand.const (Value.int IntKind.i64 1)))
                          none [0],
                        AOper.mk (some 6) (AOp.mv (Operand.tmp 13)) none [1, 0, 1]]
def l82r7 : List AOper :=
  [AOper.mk (some 28) (AOp.load true 4 (Operand.tmp 5)) none [],
                AOper.mk none (AOp.store 4 (Operand.tmp 4) (Operand.tmp 28)) none [0, 0]]
def l82 : AFn :=
  (AFn.mk 29 2
    (ACode.seq
      (ACode.reg l82r0)
      (ACode.seq
        (ACode.reg l82r1)
        (ACode.seq
          (ACode.seq
            (ACode.reg l82r2)
            (ACode.block 0
              (ACode.loop
                (ACode.seq
                  (ACode.seq
                    (ACode.reg l82r3)
                    (ACode.cond (Operand.tmp 11) ACode.skip (ACode.exit 0)))
                  (ACode.seq
                    (ACode.block 1
                      (ACode.seq
                        (ACode.reg l82r4)
                        (ACode.reg l82r5)))
                    (ACode.reg l82r6))))))
          (ACode.seq
            (ACode.reg l82r7)
            ACode.ret))))
    [ARes.cell 4 true 4])
theorem l82_eq : lowFn Try.prog 82 = some l82 := by kernel_rfl
end Go.Proofs.Ytjnlcbjehhpjiaa
