import Derived.Test.YtjhamlapjiadaaaCVwR
import Derived.Test.YtjhamlapjiadaaaProg
import Derived.KernelRfl
set_option maxRecDepth 100000
namespace Go.Proofs.Ytjhamlapjiadaaa
open Vw Go
def l7r0 : List AOper :=
  [AOper.mk (some 2) (AOp.mv (Operand.const (Value.bool false))) none []]
def l7r1 : List AOper :=
  [AOper.mk (some 9) (AOp.mv (Operand.tmp 0)) none [], AOper.mk (some 10) (AOp.len (Operand.tmp 9)) none [0],
              AOper.mk (some 11)
                (AOp.bin BinOp.gtr (Operand.tmp 10) (Operand.const (Value.int IntKind.i64 1048576))) none
                [1]]
def l7r2 : List AOper :=
  [AOper.mk (some 2) (AOp.mv (Operand.const (Value.bool true))) none []]
def l7r3 : List AOper :=
  [AOper.mk (some 13) (AOp.mv (Operand.tmp 0)) none [],
              AOper.mk (some 14) (AOp.call 31 [Operand.tmp 13]) none [0],
              AOper.mk (some 12) (AOp.mv (Operand.tmp 14)) none [1],
              AOper.mk (some 15) (AOp.extract (Operand.tmp 12) 0) none [2],
              AOper.mk (some 16) (AOp.extract (Operand.tmp 12) 1) none [2],
              AOper.mk (some 3) (AOp.mv (Operand.tmp 15)) none [3, 1, 0, 1, 2, 3],
              AOper.mk (some 4) (AOp.mv (Operand.tmp 16)) none [4, 5, 0, 1, 2, 3, 4, 5]]
def l7r4 : List AOper :=
  [AOper.mk (some 17) (AOp.mv (Operand.tmp 3)) none [], AOper.mk (some 18) (AOp.mv (Operand.tmp 4)) none [],
                AOper.mk (some 19) (AOp.call 30 [Operand.tmp 17, Operand.tmp 18]) none [0, 1],
                AOper.mk (some 5) (AOp.mv (Operand.tmp 19)) none [2, 2, 0, 1, 2]]
def l7r5 : List AOper :=
  [AOper.mk (some 20) (AOp.mv (Operand.tmp 5)) none [],
                    AOper.mk (some 21) (AOp.mv (Operand.tmp 3)) none [],
                    AOper.mk (some 22) (AOp.mv (Operand.tmp 4)) none [],
                    AOper.mk (some 23) (AOp.call 32 [Operand.tmp 21, Operand.tmp 22]) none [1, 2],
                    AOper.mk (some 24) (AOp.bin BinOp.neq (Operand.tmp 20) (Operand.tmp 23)) none [0, 3],
                    AOper.mk (some 25) (AOp.mv (Operand.tmp 24)) none [4, 3],
                    AOper.mk (some 26) (AOp.mv (Operand.tmp 5)) (some (25, false)) [5],
                    AOper.mk (some 27)
                      (AOp.bin BinOp.lss (Operand.tmp 26) (Operand.const (Value.int IntKind.i64 0)))
                      (some (25, false)) [6, 5],
                    AOper.mk (some 28) (AOp.pick (Operand.tmp 25) (Operand.const (Value.bool true)) (Operand.tmp 27))
                      none [5, 7]]
def l7r6 : List AOper :=
  [AOper.mk (some 29) (AOp.mv (Operand.tmp 5)) none [],
                        AOper.mk (some 30) (AOp.mv (Operand.tmp 3)) none [],
                        AOper.mk (some 31) (AOp.mv (Operand.tmp 4)) none [],
                        AOper.mk (some 32) (AOp.call 32 [Operand.tmp 30, Operand.tmp 31]) none [1, 2],
                        AOper.mk (some 33) (AOp.bin BinOp.eql (Operand.tmp 29) (Operand.tmp 32)) none [0, 3],
                        AOper.mk (some 2) (AOp.mv (Operand.tmp 33)) none [4, 3, 0, 1, 2, 3, 4]]
def l7r7 : List AOper :=
  [AOper.mk (some 6) (AOp.mv (Operand.const (Value.int IntKind.i64 0))) none []]
def l7r8 : List AOper :=
  [AOper.mk (some 34) (AOp.mv (Operand.tmp 3)) none [],
                      AOper.mk (some 35) (AOp.call 33 [Operand.tmp 34]) none [0],
                      AOper.mk (some 7) (AOp.mv (Operand.tmp 35)) none [1, 1, 0, 1]]
def l7r9 : List AOper :=
  [AOper.mk (some 8) (AOp.mv (Operand.const (Value.int IntKind.i64 0))) none []]
def l7r10 : List AOper :=
  [AOper.mk (some 36) (AOp.mv (Operand.tmp 8)) none [],
                                  AOper.mk (some 37) (AOp.mv (Operand.tmp 3)) none [],
                                  AOper.mk (some 38) (AOp.len (Operand.tmp 37)) none [1],
                                  AOper.mk (some 39) (AOp.bin BinOp.lss (Operand.tmp 36) (Operand.tmp 38)) none [0, 2]]
def l7r11a : List AOper :=
  [AOper.mk (some 42) (AOp.mv (Operand.tmp 6)) none [], AOper.mk (some 43) (AOp.mv (Operand.tmp 4)) none [], AOper.mk (some 44) (AOp.mv (Operand.tmp 8)) none [], AOper.mk (some 45) (AOp.idxA 1 (Operand.tmp 43) (Operand.tmp 44)) none [1, 2], AOper.mk (some 46) (AOp.load false 1 (Operand.tmp 45)) none [3], AOper.mk (some 47) (AOp.mv (Operand.tmp 7)) none [], AOper.mk (some 48) (AOp.mv (Operand.tmp 8)) none [], AOper.mk (some 49) (AOp.idxA 1 (Operand.tmp 47) (Operand.tmp 48)) none [5, 6], AOper.mk (some 50) (AOp.load false 1 (Operand.tmp 49)) none [7], AOper.mk (some 51) (AOp.bin BinOp.mul (Operand.tmp 46) (Operand.tmp 50)) none
                                      [4, 8]]
def l7r11b : List AOper :=
  [AOper.mk (some 52) (AOp.bin BinOp.add (Operand.tmp 42) (Operand.tmp 51)) none
                                      [0, 9], AOper.mk (some 6) (AOp.mv (Operand.tmp 52)) none
                                      [10, 0, 1, 2, 3, 4, 5, 6, 7, 8, 9, 10]]
def l7r11 : List AOper := l7r11a ++ l7r11b
def l7r12 : List AOper :=
  [AOper.mk (some 40) (AOp.mv (Operand.tmp 8)) none [],
                                  AOper.mk (some 41)
                                    (AOp.bin BinOp.add (Operand.tmp 40)
                                      (Operand.const (Value.int IntKind.i64 1)))
                                    none [0],
                                  AOper.mk (some 8) (AOp.mv (Operand.tmp 41)) none [1, 0, 1]]
def l7r13 : List AOper :=
  [AOper.mk (some 53) (AOp.mv (Operand.tmp 6)) none [],
                          AOper.mk (some 54) (AOp.mv (Operand.tmp 5)) none [],
                          AOper.mk (some 55) (AOp.bin BinOp.eql (Operand.tmp 53) (Operand.tmp 54)) none [0, 1],
                          AOper.mk (some 56) (AOp.mv (Operand.tmp 55)) none [2],
                          AOper.mk (some 57) (AOp.mv (Operand.tmp 3)) (some (56, true)) [3],
                          AOper.mk (some 58) (AOp.mv (Operand.tmp 5)) (some (56, true)) [3],
                          AOper.mk (some 59) (AOp.call 27 [Operand.tmp 57, Operand.tmp 58]) (some (56, true))
                            [4, 5, 3, 3],
                          AOper.mk (some 60) (AOp.mv (Operand.tmp 4)) (some (56, true)) [3],
                          AOper.mk (some 61) (AOp.call 28 [Operand.tmp 59, Operand.tmp 60]) (some (56, true))
                            [6, 7, 6, 3],
                          AOper.mk (some 62)
                            (AOp.pick (Operand.tmp 56) (Operand.tmp 61) (Operand.const (Value.bool false))) none [3, 8],
                          AOper.mk (some 63) (AOp.mv (Operand.tmp 62)) none [9, 8],
                          AOper.mk (some 64) (AOp.mv (Operand.tmp 5)) (some (63, true)) [10],
                          AOper.mk (some 65) (AOp.mv (Operand.tmp 3)) (some (63, true)) [10],
                          AOper.mk (some 66) (AOp.call 20 [Operand.tmp 65]) (some (63, true)) [12, 10, 10],
                          AOper.mk (some 67) (AOp.bin BinOp.lss (Operand.tmp 64) (Operand.tmp 66)) (some (63, true))
                            [11, 13, 10],
                          AOper.mk (some 68)
                            (AOp.pick (Operand.tmp 63) (Operand.tmp 67) (Operand.const (Value.bool false))) none
                            [10, 14],
                          AOper.mk (some 2) (AOp.mv (Operand.tmp 68)) none
                            [15, 13, 0, 1, 2, 3, 4, 5, 6, 7, 8, 9, 10, 11, 12, 13, 14, 15]]
def l7 : AFn :=
  (AFn.mk 69 1
    (ACode.seq (ACode.reg l7r0)
      (ACode.seq
        (ACode.seq
          (ACode.reg l7r1)
          (ACode.cond (Operand.tmp 11)
            (ACode.seq (ACode.reg l7r2) ACode.ret)
            ACode.skip))
        (ACode.seq
          (ACode.reg l7r3)
          (ACode.seq
            (ACode.reg l7r4)
            (ACode.seq
              (ACode.seq
                (ACode.reg l7r5)
                (ACode.cond (Operand.tmp 28)
                  (ACode.seq
                    (ACode.reg l7r6)
                    ACode.ret)
                  ACode.skip))
              (ACode.seq
                (ACode.reg l7r7)
                (ACode.seq
                  (ACode.reg l7r8)
                  (ACode.seq
                    (ACode.seq
                      (ACode.reg l7r9)
                      (ACode.block 0
                        (ACode.loop
                          (ACode.seq
                            (ACode.seq
                              (ACode.reg l7r10)
                              (ACode.cond (Operand.tmp 39) ACode.skip (ACode.exit 0)))
                            (ACode.seq
                              (ACode.block 1
                                (ACode.draw l7r11))
                              (ACode.reg l7r12))))))
                    (ACode.seq
                      (ACode.reg l7r13)
                      ACode.ret)))))))))
    [ARes.tmp 2])
theorem l7_eq : lowFn Try.prog 7 = some l7 := by kernel_rfl
def l18r0 : List AOper :=
  [AOper.mk (some 2) (AOp.mv (Operand.const (Value.bool false))) none []]
def l18r1 : List AOper :=
  [AOper.mk (some 5) (AOp.mv (Operand.tmp 0)) none [], AOper.mk (some 6) (AOp.len (Operand.tmp 5)) none [0],
              AOper.mk (some 7)
                (AOp.bin BinOp.gtr (Operand.tmp 6) (Operand.const (Value.int IntKind.i64 4))) none [1]]
def l18r2 : List AOper :=
  [AOper.mk (some 2) (AOp.mv (Operand.const (Value.bool false))) none []]
def l18r3 : List AOper :=
  [AOper.mk (some 8) (AOp.mv (Operand.tmp 0)) none [], AOper.mk (some 9) (AOp.len (Operand.tmp 8)) none [0],
                AOper.mk (some 10) (AOp.mv (Operand.const (Value.int IntKind.i64 0))) none []]
def l18r4 : List AOper :=
  [AOper.mk (some 11) (AOp.bin BinOp.lss (Operand.tmp 10) (Operand.tmp 9)) none []]
def l18r5 : List AOper :=
  [AOper.mk (some 12) (AOp.idxA 1 (Operand.tmp 8) (Operand.tmp 10)) none [],
                              AOper.mk (some 13) (AOp.load false 1 (Operand.tmp 12)) none [0],
                              AOper.mk (some 4) (AOp.mv (Operand.tmp 13)) none [1, 0, 1]]
def l18r6 : List AOper :=
  [AOper.mk (some 14) (AOp.mv (Operand.tmp 4)) none [],
                                AOper.mk (some 15)
                                  (AOp.call 53 [Operand.tmp 14, Operand.const (Value.int IntKind.i64 60)])
                                  none [0],
                                AOper.mk (some 16) (AOp.un UnOp.not (Operand.tmp 15)) none [1]]
def l18r7 : List AOper :=
  [AOper.mk (some 2) (AOp.mv (Operand.const (Value.bool false))) none []]
def l18r8 : List AOper :=
  [AOper.mk (some 17)
                            (AOp.bin BinOp.add (Operand.tmp 10) (Operand.const (Value.int IntKind.i64 1)))
                            none [],
                          AOper.mk (some 10) (AOp.mv (Operand.tmp 17)) none [0]]
def l18r9 : List AOper :=
  [AOper.mk (some 18) (AOp.mv (Operand.tmp 0)) none [],
                AOper.mk (some 19) (AOp.call 54 [Operand.tmp 18]) none [0],
                AOper.mk (some 20)
                  (AOp.bin BinOp.leq (Operand.tmp 19) (Operand.const (Value.int IntKind.i64 60))) none [1],
                AOper.mk (some 2) (AOp.mv (Operand.tmp 20)) none [2, 1, 0, 1, 2]]
def l18 : AFn :=
  (AFn.mk 21 1
    (ACode.seq (ACode.reg l18r0)
      (ACode.seq
        (ACode.seq
          (ACode.reg l18r1)
          (ACode.cond (Operand.tmp 7)
            (ACode.seq (ACode.reg l18r2) ACode.ret)
            ACode.skip))
        (ACode.seq
          (ACode.seq
            (ACode.reg l18r3)
            (ACode.block 0
              (ACode.loop
                (ACode.seq (ACode.reg l18r4)
                  (ACode.seq (ACode.cond (Operand.tmp 11) ACode.skip (ACode.exit 0))
                    (ACode.seq
                      (ACode.block 1
                        (ACode.seq
                          (ACode.reg l18r5)
                          (ACode.seq
                            (ACode.reg l18r6)
                            (ACode.cond (Operand.tmp 16)
                              (ACode.seq
                                (ACode.reg l18r7)
                                ACode.ret)
                              ACode.skip))))
                      (ACode.reg l18r8)))))))
          (ACode.seq
            (ACode.reg l18r9)
            ACode.ret))))
    [ARes.tmp 2])
theorem l18_eq : lowFn Try.prog 18 = some l18 := by kernel_rfl
def l20r0 : List AOper :=
  [AOper.mk (some 2) (AOp.mv (Operand.const (Value.int IntKind.i64 0))) none []]
def l20r1 : List AOper :=
  [AOper.mk (some 3) (AOp.mv (Operand.tmp 0)) none [],
              AOper.mk (some 4) (AOp.call 18 [Operand.tmp 3]) none [0],
              AOper.mk (some 5) (AOp.un UnOp.not (Operand.tmp 4)) none [1]]
def l20r2 : List AOper :=
  [AOper.mk (some 2) (AOp.mv (Operand.const (Value.int IntKind.i64 (-1)))) none []]
def l20r3 : List AOper :=
  [AOper.mk (some 6) (AOp.mv (Operand.tmp 0)) none [],
              AOper.mk (some 7) (AOp.call 54 [Operand.tmp 6]) none [0],
              AOper.mk (some 2) (AOp.mv (Operand.tmp 7)) none [1, 1, 0, 1]]
def l20 : AFn :=
  (AFn.mk 8 1
    (ACode.seq (ACode.reg l20r0)
      (ACode.seq
        (ACode.seq
          (ACode.reg l20r1)
          (ACode.cond (Operand.tmp 5)
            (ACode.seq
              (ACode.reg l20r2)
              ACode.ret)
            ACode.skip))
        (ACode.seq
          (ACode.reg l20r3)
          ACode.ret)))
    [ARes.tmp 2])
theorem l20_eq : lowFn Try.prog 20 = some l20 := by kernel_rfl
def l27r0 : List AOper :=
  [AOper.mk (some 4) (AOp.mv (Operand.const (Value.slice none 0 0))) none []]
def l27r1 : List AOper :=
  [AOper.mk (some 6) (AOp.mv (Operand.tmp 0)) none [],
              AOper.mk (some 7) (AOp.call 18 [Operand.tmp 6]) none [0],
              AOper.mk (some 8) (AOp.un UnOp.not (Operand.tmp 7)) none [1],
              AOper.mk (some 9) (AOp.mv (Operand.tmp 8)) none [2, 1],
              AOper.mk (some 10) (AOp.mv (Operand.tmp 1)) (some (9, false)) [3],
              AOper.mk (some 11) (AOp.mv (Operand.tmp 0)) (some (9, false)) [3],
              AOper.mk (some 12) (AOp.call 54 [Operand.tmp 11]) (some (9, false)) [5, 3, 3],
              AOper.mk (some 13)
                (AOp.bin BinOp.sub (Operand.tmp 12) (Operand.const (Value.int IntKind.i64 1)))
                (some (9, false)) [6, 3],
              AOper.mk (some 14) (AOp.call 53 [Operand.tmp 10, Operand.tmp 13]) (some (9, false)) [4, 7, 6, 3],
              AOper.mk (some 15) (AOp.un UnOp.not (Operand.tmp 14)) (some (9, false)) [8, 3],
              AOper.mk (some 16) (AOp.pick (Operand.tmp 9) (Operand.const (Value.bool true)) (Operand.tmp 15)) none
                [3, 9]]
def l27r2 : List AOper :=
  [AOper.mk (some 4) (AOp.mv (Operand.const (Value.slice none 0 0))) none []]
def l27r3 : List AOper :=
  [AOper.mk (some 17) (AOp.mv (Operand.tmp 0)) none [], AOper.mk (some 18) (AOp.mv (Operand.tmp 1)) none [],
              AOper.mk (some 19) (AOp.call 58 [Operand.tmp 17, Operand.tmp 18]) none [0, 1],
              AOper.mk (some 5)
                (AOp.alloc
                  [Value.int IntKind.i64 0, Value.int IntKind.i64 0,
                    Value.int IntKind.i64 0, Value.int IntKind.i64 0])
                none [],
              AOper.mk none (AOp.store 4 (Operand.tmp 5) (Operand.tmp 19)) none [3, 2, 2, 0, 1, 2, 3]]
def l27r4 : List AOper :=
  [AOper.mk (some 20) (AOp.mv (Operand.tmp 0)) none [],
                AOper.mk (some 21) (AOp.len (Operand.tmp 20)) none [0],
                AOper.mk (some 22) (AOp.sliceP 1 4 (Operand.tmp 5) none (some (Operand.tmp 21))) none [1],
                AOper.mk (some 23) (AOp.call 59 [Operand.tmp 22]) none [2],
                AOper.mk (some 4) (AOp.mv (Operand.tmp 23)) none [3, 3, 0, 1, 2, 3]]
def l27 : AFn :=
  (AFn.mk 24 2
    (ACode.seq (ACode.reg l27r0)
      (ACode.seq
        (ACode.seq
          (ACode.reg l27r1)
          (ACode.cond (Operand.tmp 16)
            (ACode.seq (ACode.reg l27r2)
              ACode.ret)
            ACode.skip))
        (ACode.seq
          (ACode.reg l27r3)
          (ACode.seq
            (ACode.reg l27r4)
            ACode.ret))))
    [ARes.tmp 4])
theorem l27_eq : lowFn Try.prog 27 = some l27 := by kernel_rfl
def l28r0 : List AOper :=
  [AOper.mk (some 4) (AOp.mv (Operand.const (Value.bool false))) none []]
def l28r1 : List AOper :=
  [AOper.mk (some 6) (AOp.mv (Operand.tmp 0)) none [], AOper.mk (some 7) (AOp.len (Operand.tmp 6)) none [0],
              AOper.mk (some 8) (AOp.mv (Operand.tmp 1)) none [], AOper.mk (some 9) (AOp.len (Operand.tmp 8)) none [2],
              AOper.mk (some 10) (AOp.bin BinOp.neq (Operand.tmp 7) (Operand.tmp 9)) none [1, 3]]
def l28r2 : List AOper :=
  [AOper.mk (some 4) (AOp.mv (Operand.const (Value.bool false))) none []]
def l28r3 : List AOper :=
  [AOper.mk (some 5) (AOp.mv (Operand.const (Value.int IntKind.i64 0))) none []]
def l28r4 : List AOper :=
  [AOper.mk (some 11) (AOp.mv (Operand.tmp 5)) none [],
                        AOper.mk (some 12) (AOp.mv (Operand.tmp 0)) none [],
                        AOper.mk (some 13) (AOp.len (Operand.tmp 12)) none [1],
                        AOper.mk (some 14) (AOp.bin BinOp.lss (Operand.tmp 11) (Operand.tmp 13)) none [0, 2]]
def l28r5a : List AOper :=
  [AOper.mk (some 17) (AOp.mv (Operand.tmp 0)) none [], AOper.mk (some 18) (AOp.mv (Operand.tmp 5)) none [], AOper.mk (some 19) (AOp.idxA 1 (Operand.tmp 17) (Operand.tmp 18)) none [0, 1], AOper.mk (some 20) (AOp.load false 1 (Operand.tmp 19)) none [2], AOper.mk (some 21) (AOp.mv (Operand.tmp 1)) none [], AOper.mk (some 22) (AOp.mv (Operand.tmp 5)) none [], AOper.mk (some 23) (AOp.idxA 1 (Operand.tmp 21) (Operand.tmp 22)) none [4, 5], AOper.mk (some 24) (AOp.load false 1 (Operand.tmp 23)) none [6]]
def l28r5b : List AOper :=
  [AOper.mk (some 25) (AOp.bin BinOp.neq (Operand.tmp 20) (Operand.tmp 24)) none [3, 7]]
def l28r5 : List AOper := l28r5a ++ l28r5b
def l28r6 : List AOper :=
  [AOper.mk (some 4) (AOp.mv (Operand.const (Value.bool false))) none []]
def l28r7 : List AOper :=
  [AOper.mk (some 15) (AOp.mv (Operand.tmp 5)) none [],
                        AOper.mk (some 16)
                          (AOp.bin BinOp.add (Operand.tmp 15) (Operand.const (Value.int IntKind.i64 1)))
                          none [0],
                        AOper.mk (some 5) (AOp.mv (Operand.tmp 16)) none [1, 0, 1]]
def l28r8 : List AOper :=
  [AOper.mk (some 4) (AOp.mv (Operand.const (Value.bool true))) none []]
def l28 : AFn :=
  (AFn.mk 26 2
    (ACode.seq (ACode.reg l28r0)
      (ACode.seq
        (ACode.seq
          (ACode.reg l28r1)
          (ACode.cond (Operand.tmp 10)
            (ACode.seq (ACode.reg l28r2) ACode.ret)
            ACode.skip))
        (ACode.seq
          (ACode.seq
            (ACode.reg l28r3)
            (ACode.block 0
              (ACode.loop
                (ACode.seq
                  (ACode.seq
                    (ACode.reg l28r4)
                    (ACode.cond (Operand.tmp 14) ACode.skip (ACode.exit 0)))
                  (ACode.seq
                    (ACode.block 1
                      (ACode.seq
                        (ACode.draw l28r5)
                        (ACode.cond (Operand.tmp 25)
                          (ACode.seq (ACode.reg l28r6)
                            ACode.ret)
                          ACode.skip)))
                    (ACode.reg l28r7))))))
          (ACode.seq (ACode.reg l28r8) ACode.ret))))
    [ARes.tmp 4])
theorem l28_eq : lowFn Try.prog 28 = some l28 := by kernel_rfl
def l30r0 : List AOper :=
  [AOper.mk (some 4) (AOp.mv (Operand.const (Value.int IntKind.i64 0))) none []]
def l30r1 : List AOper :=
  [AOper.mk (some 7) (AOp.mv (Operand.tmp 0)) none [],
              AOper.mk (some 8) (AOp.call 18 [Operand.tmp 7]) none [0],
              AOper.mk (some 9) (AOp.un UnOp.not (Operand.tmp 8)) none [1]]
def l30r2 : List AOper :=
  [AOper.mk (some 4) (AOp.mv (Operand.const (Value.int IntKind.i64 (-1)))) none []]
def l30r3 : List AOper :=
  [AOper.mk (some 11) (AOp.mv (Operand.tmp 0)) none [], AOper.mk (some 12) (AOp.mv (Operand.tmp 1)) none [],
              AOper.mk (some 13) (AOp.call 61 [Operand.tmp 11, Operand.tmp 12]) none [0, 1],
              AOper.mk (some 10) (AOp.mv (Operand.tmp 13)) none [2],
              AOper.mk (some 14) (AOp.extract (Operand.tmp 10) 0) none [3],
              AOper.mk (some 15) (AOp.extract (Operand.tmp 10) 1) none [3],
              AOper.mk (some 5)
                (AOp.alloc
                  [Value.int IntKind.i64 0, Value.int IntKind.i64 0,
                    Value.int IntKind.i64 0, Value.int IntKind.i64 0])
                none [],
              AOper.mk none (AOp.store 4 (Operand.tmp 5) (Operand.tmp 14)) none [6, 4, 2, 0, 1, 2, 3, 4, 6],
              AOper.mk (some 6) (AOp.mv (Operand.tmp 15)) none [5, 7, 0, 1, 2, 3, 4, 5, 6, 7]]
def l30r4 : List AOper :=
  [AOper.mk (some 16) (AOp.mv (Operand.tmp 6)) none [],
                  AOper.mk (some 17) (AOp.un UnOp.not (Operand.tmp 16)) none [0]]
def l30r5 : List AOper :=
  [AOper.mk (some 4) (AOp.mv (Operand.const (Value.int IntKind.i64 (-1)))) none []]
def l30r6a : List AOper :=
  [AOper.mk (some 18) (AOp.load true 4 (Operand.tmp 5)) none [], AOper.mk (some 19) (AOp.mv (Operand.tmp 0)) none [], AOper.mk (some 20) (AOp.call 33 [Operand.tmp 19]) none [1]]
def l30r6b : List AOper :=
  [AOper.mk (some 21) (AOp.call 62 [Operand.tmp 18, Operand.tmp 20]) none [0, 2, 2], AOper.mk (some 4) (AOp.mv (Operand.tmp 21)) none [3, 3, 0, 1, 2, 3]]
def l30r6 : List AOper := l30r6a ++ l30r6b
def l30 : AFn :=
  (AFn.mk 22 2
    (ACode.seq (ACode.reg l30r0)
      (ACode.seq
        (ACode.seq
          (ACode.reg l30r1)
          (ACode.cond (Operand.tmp 9)
            (ACode.seq
              (ACode.reg l30r2)
              ACode.ret)
            ACode.skip))
        (ACode.seq
          (ACode.reg l30r3)
          (ACode.seq
            (ACode.seq
              (ACode.reg l30r4)
              (ACode.cond (Operand.tmp 17)
                (ACode.seq
                  (ACode.reg l30r5)
                  ACode.ret)
                ACode.skip))
            (ACode.seq
              (ACode.draw l30r6)
              ACode.ret)))))
    [ARes.tmp 4])
theorem l30_eq : lowFn Try.prog 30 = some l30 := by kernel_rfl
def l31r0 : List AOper :=
  [AOper.mk (some 2) (AOp.mv (Operand.const (Value.slice none 0 0))) none [],
          AOper.mk (some 3) (AOp.mv (Operand.const (Value.slice none 0 0))) none [0]]
def l31r1 : List AOper :=
  [AOper.mk (some 8) (AOp.mv (Operand.tmp 0)) none [], AOper.mk (some 9) (AOp.call 40 [Operand.tmp 8]) none [0],
            AOper.mk (some 4) (AOp.mv (Operand.tmp 9)) none [1, 1, 0, 1]]
def l31r2 : List AOper :=
  [AOper.mk (some 10) (AOp.mv (Operand.tmp 4)) none [],
              AOper.mk (some 11) (AOp.call 52 [Operand.tmp 10]) none [0],
              AOper.mk (some 5) (AOp.mv (Operand.tmp 11)) none [1, 1, 0, 1]]
def l31r3 : List AOper :=
  [AOper.mk (some 12) (AOp.bslice 1 [Value.int IntKind.i64 0] [] 0) none [],
                AOper.mk (some 6) (AOp.mv (Operand.tmp 12)) none [0, 0]]
def l31r4 : List AOper :=
  [AOper.mk (some 7) (AOp.mv (Operand.const (Value.int IntKind.i64 0))) none []]
def l31r5 : List AOper :=
  [AOper.mk (some 13) (AOp.mv (Operand.tmp 7)) none [],
                            AOper.mk (some 14) (AOp.mv (Operand.tmp 5)) none [],
                            AOper.mk (some 15) (AOp.len (Operand.tmp 14)) none [1],
                            AOper.mk (some 16) (AOp.bin BinOp.lss (Operand.tmp 13) (Operand.tmp 15)) none [0, 2]]
def l31r6 : List AOper :=
  [AOper.mk (some 19) (AOp.mv (Operand.tmp 6)) none [],
                              AOper.mk (some 20) (AOp.mv (Operand.tmp 4)) none [],
                              AOper.mk (some 21) (AOp.mv (Operand.tmp 4)) none [],
                              AOper.mk (some 22)
                                (AOp.call 57 [Operand.tmp 21, Operand.const (Value.int IntKind.i64 3)]) none
                                [2],
                              AOper.mk (some 23) (AOp.mv (Operand.tmp 4)) none [],
                              AOper.mk (some 24)
                                (AOp.call 57 [Operand.tmp 23, Operand.const (Value.int IntKind.i64 5)]) none
                                [4, 3],
                              AOper.mk (some 25)
                                (AOp.bslice 1 [Value.int IntKind.i64 0]
                                  [(0, Operand.const (Value.int IntKind.i64 0)), (1, Operand.tmp 22),
                                    (2, Operand.tmp 24)]
                                  3)
                                none [3, 5],
                              AOper.mk (some 26) (AOp.call 42 [Operand.tmp 20, Operand.tmp 25]) none [1, 6, 5],
                              AOper.mk (some 27)
                                (AOp.bslice 1 [Value.int IntKind.i64 0] [(0, Operand.tmp 26)] 1) none [7],
                              AOper.mk (some 28) (AOp.append 1 (Operand.tmp 19) (Operand.tmp 27)) none [0, 8, 7],
                              AOper.mk (some 6) (AOp.mv (Operand.tmp 28)) none [9, 9, 0, 1, 2, 3, 4, 5, 6, 7, 8, 9]]
def l31r7 : List AOper :=
  [AOper.mk (some 17) (AOp.mv (Operand.tmp 7)) none [],
                            AOper.mk (some 18)
                              (AOp.bin BinOp.add (Operand.tmp 17) (Operand.const (Value.int IntKind.i64 1)))
                              none [0],
                            AOper.mk (some 7) (AOp.mv (Operand.tmp 18)) none [1, 0, 1]]
def l31r8 : List AOper :=
  [AOper.mk (some 29) (AOp.mv (Operand.tmp 4)) none [],
                      AOper.mk (some 30)
                        (AOp.call 57 [Operand.tmp 29, Operand.const (Value.int IntKind.i64 16)]) none [0],
                      AOper.mk (some 31)
                        (AOp.bin BinOp.eql (Operand.tmp 30) (Operand.const (Value.int IntKind.i64 0))) none
                        [1]]
def l31r9 : List AOper :=
  [AOper.mk (some 32) (AOp.mv (Operand.tmp 6)) none [],
                        AOper.mk (some 33) (AOp.mv (Operand.tmp 4)) none [],
                        AOper.mk (some 34)
                          (AOp.bslice 1 [Value.int IntKind.i64 0]
                            [(0, Operand.const (Value.int IntKind.i64 0)),
                              (1, Operand.const (Value.int IntKind.i64 (-1)))]
                            2)
                          none [],
                        AOper.mk (some 35) (AOp.call 42 [Operand.tmp 33, Operand.tmp 34]) none [1, 2],
                        AOper.mk (some 36) (AOp.bslice 1 [Value.int IntKind.i64 0] [(0, Operand.tmp 35)] 1)
                          none [3],
                        AOper.mk (some 37) (AOp.append 1 (Operand.tmp 32) (Operand.tmp 36)) none [0, 4, 3],
                        AOper.mk (some 6) (AOp.mv (Operand.tmp 37)) none [5, 5, 0, 1, 2, 3, 4, 5]]
def l31r10 : List AOper :=
  [AOper.mk (some 38) (AOp.mv (Operand.tmp 5)) none [],
                      AOper.mk (some 39) (AOp.mv (Operand.tmp 6)) none [],
                      AOper.mk (some 2) (AOp.mv (Operand.tmp 38)) none [0, 0],
                      AOper.mk (some 3) (AOp.mv (Operand.tmp 39)) none [1, 2, 0, 1, 2]]
def l31 : AFn :=
  (AFn.mk 40 1
    (ACode.seq
      (ACode.reg l31r0)
      (ACode.seq
        (ACode.reg l31r1)
        (ACode.seq
          (ACode.reg l31r2)
          (ACode.seq
            (ACode.reg l31r3)
            (ACode.seq
              (ACode.seq
                (ACode.reg l31r4)
                (ACode.block 0
                  (ACode.loop
                    (ACode.seq
                      (ACode.seq
                        (ACode.reg l31r5)
                        (ACode.cond (Operand.tmp 16) ACode.skip (ACode.exit 0)))
                      (ACode.seq
                        (ACode.block 1
                          (ACode.reg l31r6))
                        (ACode.reg l31r7))))))
              (ACode.seq
                (ACode.seq
                  (ACode.reg l31r8)
                  (ACode.cond (Operand.tmp 31)
                    (ACode.reg l31r9)
                    ACode.skip))
                (ACode.seq
                  (ACode.reg l31r10)
                  ACode.ret)))))))
    [ARes.tmp 2, ARes.tmp 3])
theorem l31_eq : lowFn Try.prog 31 = some l31 := by kernel_rfl
def l32r0 : List AOper :=
  [AOper.mk (some 4) (AOp.mv (Operand.const (Value.int IntKind.i64 0))) none []]
def l32r1 : List AOper :=
  [AOper.mk (some 5) (AOp.mv (Operand.tmp 0)) none [],
              AOper.mk (some 6) (AOp.call 55 [Operand.tmp 5]) none [0],
              AOper.mk (some 7) (AOp.un UnOp.not (Operand.tmp 6)) none [1],
              AOper.mk (some 8) (AOp.mv (Operand.tmp 7)) none [2, 1],
              AOper.mk (some 9) (AOp.mv (Operand.tmp 0)) (some (8, false)) [3],
              AOper.mk (some 10) (AOp.mv (Operand.tmp 1)) (some (8, false)) [3],
              AOper.mk (some 11) (AOp.call 63 [Operand.tmp 9, Operand.tmp 10]) (some (8, false)) [4, 5, 3, 3],
              AOper.mk (some 12) (AOp.un UnOp.not (Operand.tmp 11)) (some (8, false)) [6, 3],
              AOper.mk (some 13) (AOp.pick (Operand.tmp 8) (Operand.const (Value.bool true)) (Operand.tmp 12)) none
                [3, 7]]
def l32r2 : List AOper :=
  [AOper.mk (some 4) (AOp.mv (Operand.const (Value.int IntKind.i64 (-1)))) none []]
def l32r3 : List AOper :=
  [AOper.mk (some 14) (AOp.mv (Operand.tmp 0)) none [], AOper.mk (some 15) (AOp.mv (Operand.tmp 1)) none [],
              AOper.mk (some 16) (AOp.call 64 [Operand.tmp 14, Operand.tmp 15]) none [0, 1],
              AOper.mk (some 4) (AOp.mv (Operand.tmp 16)) none [2, 2, 0, 1, 2]]
def l32 : AFn :=
  (AFn.mk 17 2
    (ACode.seq (ACode.reg l32r0)
      (ACode.seq
        (ACode.seq
          (ACode.reg l32r1)
          (ACode.cond (Operand.tmp 13)
            (ACode.seq
              (ACode.reg l32r2)
              ACode.ret)
            ACode.skip))
        (ACode.seq
          (ACode.reg l32r3)
          ACode.ret)))
    [ARes.tmp 4])
theorem l32_eq : lowFn Try.prog 32 = some l32 := by kernel_rfl
def l33r0 : List AOper :=
  [AOper.mk (some 2) (AOp.mv (Operand.const (Value.slice none 0 0))) none []]
def l33r1 : List AOper :=
  [AOper.mk (some 5) (AOp.mv (Operand.tmp 0)) none [],
              AOper.mk (some 6) (AOp.call 18 [Operand.tmp 5]) none [0],
              AOper.mk (some 7) (AOp.un UnOp.not (Operand.tmp 6)) none [1]]
def l33r2 : List AOper :=
  [AOper.mk (some 2) (AOp.mv (Operand.const (Value.slice none 0 0))) none []]
def l33r3 : List AOper :=
  [AOper.mk (some 8) (AOp.mv (Operand.tmp 0)) none [], AOper.mk (some 9) (AOp.len (Operand.tmp 8)) none [0],
              AOper.mk (some 10) (AOp.mkslice 1 [Value.int IntKind.i64 0] (Operand.tmp 9) (Operand.tmp 9))
                none [1, 1],
              AOper.mk (some 3) (AOp.mv (Operand.tmp 10)) none [2, 0, 1, 2]]
def l33r4 : List AOper :=
  [AOper.mk (some 11) (AOp.mv (Operand.tmp 3)) none [],
                  AOper.mk (some 12) (AOp.len (Operand.tmp 11)) none [0],
                  AOper.mk (some 13) (AOp.mv (Operand.const (Value.int IntKind.i64 0))) none []]
def l33r5 : List AOper :=
  [AOper.mk (some 14) (AOp.bin BinOp.lss (Operand.tmp 13) (Operand.tmp 12)) none []]
def l33r6 : List AOper :=
  [AOper.mk (some 15) (AOp.mv (Operand.tmp 13)) none [],
                                AOper.mk (some 4) (AOp.mv (Operand.tmp 15)) none [0, 0]]
def l33r7 : List AOper :=
  [AOper.mk (some 16) (AOp.mv (Operand.tmp 3)) none [],
                                AOper.mk (some 17) (AOp.mv (Operand.tmp 4)) none [],
                                AOper.mk (some 18) (AOp.mv (Operand.tmp 0)) none [],
                                AOper.mk (some 19) (AOp.mv (Operand.tmp 4)) none [],
                                AOper.mk (some 20)
                                  (AOp.bin BinOp.add (Operand.tmp 19)
                                    (Operand.const (Value.int IntKind.i64 1)))
                                  none [3],
                                AOper.mk (some 21) (AOp.slice 1 (Operand.tmp 18) (some (Operand.tmp 20)) none) none
                                  [2, 4],
                                AOper.mk (some 22) (AOp.call 54 [Operand.tmp 21]) none [5],
                                AOper.mk (some 23) (AOp.idxA 1 (Operand.tmp 16) (Operand.tmp 17)) none
                                  [0, 1, 0, 1, 2, 3, 4, 5, 6],
                                AOper.mk none (AOp.store 1 (Operand.tmp 23) (Operand.tmp 22)) none
                                  [7, 6, 6, 0, 1, 2, 3, 4, 5, 6]]
def l33r8 : List AOper :=
  [AOper.mk (some 24)
                              (AOp.bin BinOp.add (Operand.tmp 13) (Operand.const (Value.int IntKind.i64 1)))
                              none [],
                            AOper.mk (some 13) (AOp.mv (Operand.tmp 24)) none [0]]
def l33r9 : List AOper :=
  [AOper.mk (some 25) (AOp.mv (Operand.tmp 3)) none [],
                  AOper.mk (some 2) (AOp.mv (Operand.tmp 25)) none [0, 0]]
def l33 : AFn :=
  (AFn.mk 26 1
    (ACode.seq (ACode.reg l33r0)
      (ACode.seq
        (ACode.seq
          (ACode.reg l33r1)
          (ACode.cond (Operand.tmp 7)
            (ACode.seq (ACode.reg l33r2)
              ACode.ret)
            ACode.skip))
        (ACode.seq
          (ACode.reg l33r3)
          (ACode.seq
            (ACode.seq
              (ACode.reg l33r4)
              (ACode.block 0
                (ACode.loop
                  (ACode.seq
                    (ACode.reg l33r5)
                    (ACode.seq (ACode.cond (Operand.tmp 14) ACode.skip (ACode.exit 0))
                      (ACode.seq
                        (ACode.block 1
                          (ACode.seq
                            (ACode.reg l33r6)
                            (ACode.reg l33r7)))
                        (ACode.reg l33r8)))))))
            (ACode.seq
              (ACode.reg l33r9)
              ACode.ret)))))
    [ARes.tmp 2])
theorem l33_eq : lowFn Try.prog 33 = some l33 := by kernel_rfl
def l40r0 : List AOper :=
  [AOper.mk (some 2) (AOp.mv (Operand.const (Value.pointer none))) none []]
def l40r1 : List AOper :=
  [AOper.mk (some 3) (AOp.mv (Operand.tmp 0)) none [], AOper.mk (some 4) (AOp.len (Operand.tmp 3)) none [0],
              AOper.mk (some 5)
                (AOp.bin BinOp.gtr (Operand.tmp 4) (Operand.const (Value.int IntKind.i64 2000))) none [1]]
def l40r2 : List AOper :=
  [AOper.mk (some 6) (AOp.mv (Operand.tmp 0)) none [],
                AOper.mk (some 7)
                  (AOp.slice 1 (Operand.tmp 6) none (some (Operand.const (Value.int IntKind.i64 2000))))
                  none [0],
                AOper.mk (some 0) (AOp.mv (Operand.tmp 7)) none [1, 0, 1]]
def l40r3 : List AOper :=
  [AOper.mk (some 8) (AOp.mv (Operand.tmp 0)) none [],
              AOper.mk (some 9)
                (AOp.build [Value.slice none 0 0, Value.int IntKind.i64 0] [(0, 1, Operand.tmp 8)]) none
                [0],
              AOper.mk (some 10) (AOp.box (Operand.tmp 9)) none [1],
              AOper.mk (some 2) (AOp.mv (Operand.tmp 10)) none [2, 0, 1, 2]]
def l40 : AFn :=
  (AFn.mk 11 1
    (ACode.seq (ACode.reg l40r0)
      (ACode.seq
        (ACode.seq
          (ACode.reg l40r1)
          (ACode.cond (Operand.tmp 5)
            (ACode.reg l40r2)
            ACode.skip))
        (ACode.seq
          (ACode.reg l40r3)
          ACode.ret)))
    [ARes.tmp 2])
theorem l40_eq : lowFn Try.prog 40 = some l40 := by kernel_rfl
def l42r0 : List AOper :=
  [AOper.mk (some 4) (AOp.mv (Operand.const (Value.int IntKind.i64 0))) none []]
def l42r1 : List AOper :=
  [AOper.mk (some 5) (AOp.mv (Operand.tmp 1)) none [], AOper.mk (some 6) (AOp.mv (Operand.tmp 0)) none [],
            AOper.mk (some 7) (AOp.mv (Operand.tmp 1)) none [], AOper.mk (some 8) (AOp.len (Operand.tmp 7)) none [2],
            AOper.mk (some 9) (AOp.call 57 [Operand.tmp 6, Operand.tmp 8]) none [1, 3],
            AOper.mk (some 10) (AOp.idxA 1 (Operand.tmp 5) (Operand.tmp 9)) none [0, 4],
            AOper.mk (some 11) (AOp.load false 1 (Operand.tmp 10)) none [5],
            AOper.mk (some 4) (AOp.mv (Operand.tmp 11)) none [6, 4, 0, 1, 2, 3, 4, 5, 6]]
def l42 : AFn :=
  (AFn.mk 12 2
    (ACode.seq (ACode.reg l42r0)
      (ACode.seq
        (ACode.reg l42r1)
        ACode.ret))
    [ARes.tmp 4])
theorem l42_eq : lowFn Try.prog 42 = some l42 := by kernel_rfl
def l47r0 : List AOper :=
  [AOper.mk (some 6) (AOp.mv (Operand.const (Value.bool false))) none []]
def l47r1 : List AOper :=
  [AOper.mk (some 7) (AOp.mv (Operand.tmp 1)) none [], AOper.mk (some 8) (AOp.mv (Operand.tmp 0)) none [],
            AOper.mk (some 9) (AOp.bin BinOp.leq (Operand.tmp 7) (Operand.tmp 8)) none [0, 1],
            AOper.mk (some 10) (AOp.mv (Operand.tmp 9)) none [2],
            AOper.mk (some 11) (AOp.mv (Operand.tmp 0)) (some (10, true)) [3],
            AOper.mk (some 12) (AOp.mv (Operand.tmp 2)) (some (10, true)) [3],
            AOper.mk (some 13) (AOp.bin BinOp.leq (Operand.tmp 11) (Operand.tmp 12)) (some (10, true)) [4, 5, 3],
            AOper.mk (some 14) (AOp.pick (Operand.tmp 10) (Operand.tmp 13) (Operand.const (Value.bool false))) none
              [3, 6],
            AOper.mk (some 6) (AOp.mv (Operand.tmp 14)) none [7, 3, 0, 1, 2, 3, 4, 5, 6, 7]]
def l47 : AFn :=
  (AFn.mk 15 3
    (ACode.seq (ACode.reg l47r0)
      (ACode.seq
        (ACode.reg l47r1)
        ACode.ret))
    [ARes.tmp 6])
theorem l47_eq : lowFn Try.prog 47 = some l47 := by kernel_rfl
def l52r0 : List AOper :=
  [AOper.mk (some 2) (AOp.mv (Operand.const (Value.slice none 0 0))) none []]
def l52r1 : List AOper :=
  [AOper.mk (some 4) (AOp.mv (Operand.tmp 0)) none [], AOper.mk (some 5) (AOp.call 70 [Operand.tmp 4]) none [0],
            AOper.mk (some 3) (AOp.mv (Operand.tmp 5)) none [1, 1, 0, 1]]
def l52r2 : List AOper :=
  [AOper.mk (some 6) (AOp.mv (Operand.tmp 0)) none [],
                AOper.mk (some 7) (AOp.call 57 [Operand.tmp 6, Operand.const (Value.int IntKind.i64 24)])
                  none [0]]
def l52r3 : List AOper :=
  [AOper.mk (some 9)
                      (AOp.bin BinOp.eql (Operand.tmp 7) (Operand.const (Value.int IntKind.i64 0))) none [],
                    AOper.mk (some 8) (AOp.mv (Operand.tmp 9)) none [0]]
def l52r4 : List AOper :=
  [AOper.mk (some 10) (AOp.mv (Operand.tmp 3)) none [],
                        AOper.mk (some 11) (AOp.mv (Operand.tmp 0)) none [],
                        AOper.mk (some 12)
                          (AOp.bslice 1 [Value.int IntKind.i64 0]
                            [(0, Operand.const (Value.int IntKind.i64 (-1))),
                              (1, Operand.const (Value.int IntKind.i64 61)),
                              (2, Operand.const (Value.int IntKind.i64 40))]
                            3)
                          none [],
                        AOper.mk (some 13) (AOp.call 42 [Operand.tmp 11, Operand.tmp 12]) none [1, 2],
                        AOper.mk (some 14) (AOp.bslice 1 [Value.int IntKind.i64 0] [(0, Operand.tmp 13)] 1)
                          none [3],
                        AOper.mk (some 15) (AOp.append 1 (Operand.tmp 10) (Operand.tmp 14)) none [0, 4, 3],
                        AOper.mk (some 2) (AOp.mv (Operand.tmp 15)) none [5, 5, 0, 1, 2, 3, 4, 5]]
def l52r5 : List AOper :=
  [AOper.mk (some 17)
                          (AOp.bin BinOp.eql (Operand.tmp 7) (Operand.const (Value.int IntKind.i64 1))) none
                          [],
                        AOper.mk (some 16) (AOp.mv (Operand.tmp 17)) none [0]]
def l52r6 : List AOper :=
  [AOper.mk (some 18)
                              (AOp.bslice 1 [Value.int IntKind.i64 0]
                                [(0, Operand.const (Value.int IntKind.i64 1)),
                                  (1, Operand.const (Value.int IntKind.i64 1)),
                                  (2, Operand.const (Value.int IntKind.i64 1)),
                                  (3, Operand.const (Value.int IntKind.i64 1)),
                                  (4, Operand.const (Value.int IntKind.i64 1))]
                                5)
                              none [],
                            AOper.mk (some 2) (AOp.mv (Operand.tmp 18)) none [0, 0]]
def l52r7 : List AOper :=
  [AOper.mk (some 19) (AOp.mv (Operand.tmp 3)) none [],
                AOper.mk (some 2) (AOp.mv (Operand.tmp 19)) none [0, 0]]
def l52 : AFn :=
  (AFn.mk 20 1
    (ACode.seq (ACode.reg l52r0)
      (ACode.seq
        (ACode.reg l52r1)
        (ACode.seq
          (ACode.seq
            (ACode.reg l52r2)
            (ACode.block 0
              (ACode.seq
                (ACode.reg l52r3)
                (ACode.cond (Operand.tmp 8)
                  (ACode.seq
                    (ACode.reg l52r4)
                    ACode.ret)
                  (ACode.seq
                    (ACode.reg l52r5)
                    (ACode.cond (Operand.tmp 16)
                      (ACode.seq
                        (ACode.reg l52r6)
                        ACode.ret)
                      ACode.skip))))))
          (ACode.seq
            (ACode.reg l52r7)
            ACode.ret))))
    [ARes.tmp 2])
theorem l52_eq : lowFn Try.prog 52 = some l52 := by kernel_rfl
def l53r0 : List AOper :=
  [AOper.mk (some 4) (AOp.mv (Operand.const (Value.bool false))) none []]
def l53r1 : List AOper :=
  [AOper.mk (some 5) (AOp.mv (Operand.tmp 0)) none [],
            AOper.mk (some 6) (AOp.bin BinOp.leq (Operand.const (Value.int IntKind.i64 0)) (Operand.tmp 5))
              none [0],
            AOper.mk (some 7) (AOp.mv (Operand.tmp 6)) none [1],
            AOper.mk (some 8) (AOp.mv (Operand.tmp 0)) (some (7, true)) [2],
            AOper.mk (some 9) (AOp.mv (Operand.tmp 1)) (some (7, true)) [2],
            AOper.mk (some 10) (AOp.bin BinOp.leq (Operand.tmp 8) (Operand.tmp 9)) (some (7, true)) [3, 4, 2],
            AOper.mk (some 11) (AOp.pick (Operand.tmp 7) (Operand.tmp 10) (Operand.const (Value.bool false))) none
              [2, 5],
            AOper.mk (some 4) (AOp.mv (Operand.tmp 11)) none [6, 2, 0, 1, 2, 3, 4, 5, 6]]
def l53 : AFn :=
  (AFn.mk 12 2
    (ACode.seq (ACode.reg l53r0)
      (ACode.seq
        (ACode.reg l53r1)
        ACode.ret))
    [ARes.tmp 4])
theorem l53_eq : lowFn Try.prog 53 = some l53 := by kernel_rfl
def l54r0 : List AOper :=
  [AOper.mk (some 2) (AOp.mv (Operand.const (Value.int IntKind.i64 0))) none []]
def l54r1 : List AOper :=
  [AOper.mk (some 3) (AOp.mv (Operand.const (Value.int IntKind.i64 1))) none []]
def l54r2 : List AOper :=
  [AOper.mk (some 6) (AOp.mv (Operand.tmp 0)) none [], AOper.mk (some 7) (AOp.len (Operand.tmp 6)) none [0],
                AOper.mk (some 8) (AOp.mv (Operand.const (Value.int IntKind.i64 0))) none []]
def l54r3 : List AOper :=
  [AOper.mk (some 9) (AOp.bin BinOp.lss (Operand.tmp 8) (Operand.tmp 7)) none []]
def l54r4 : List AOper :=
  [AOper.mk (some 10) (AOp.idxA 1 (Operand.tmp 6) (Operand.tmp 8)) none [],
                              AOper.mk (some 11) (AOp.load false 1 (Operand.tmp 10)) none [0],
                              AOper.mk (some 5) (AOp.mv (Operand.tmp 11)) none [1, 0, 1]]
def l54r5 : List AOper :=
  [AOper.mk (some 12) (AOp.mv (Operand.tmp 3)) none [],
                              AOper.mk (some 13) (AOp.mv (Operand.tmp 5)) none [],
                              AOper.mk (some 14) (AOp.bin BinOp.mul (Operand.tmp 12) (Operand.tmp 13)) none [0, 1],
                              AOper.mk (some 3) (AOp.mv (Operand.tmp 14)) none [2, 0, 1, 2]]
def l54r6 : List AOper :=
  [AOper.mk (some 15)
                            (AOp.bin BinOp.add (Operand.tmp 8) (Operand.const (Value.int IntKind.i64 1)))
                            none [],
                          AOper.mk (some 8) (AOp.mv (Operand.tmp 15)) none [0]]
def l54r7 : List AOper :=
  [AOper.mk (some 16) (AOp.mv (Operand.tmp 3)) none [],
                AOper.mk (some 2) (AOp.mv (Operand.tmp 16)) none [0, 0]]
def l54 : AFn :=
  (AFn.mk 17 1
    (ACode.seq (ACode.reg l54r0)
      (ACode.seq (ACode.reg l54r1)
        (ACode.seq
          (ACode.seq
            (ACode.reg l54r2)
            (ACode.block 0
              (ACode.loop
                (ACode.seq (ACode.reg l54r3)
                  (ACode.seq (ACode.cond (Operand.tmp 9) ACode.skip (ACode.exit 0))
                    (ACode.seq
                      (ACode.block 1
                        (ACode.seq
                          (ACode.reg l54r4)
                          (ACode.reg l54r5)))
                      (ACode.reg l54r6)))))))
          (ACode.seq
            (ACode.reg l54r7)
            ACode.ret))))
    [ARes.tmp 2])
theorem l54_eq : lowFn Try.prog 54 = some l54 := by kernel_rfl
def l55r0 : List AOper :=
  [AOper.mk (some 2) (AOp.mv (Operand.const (Value.bool false))) none []]
def l55r1 : List AOper :=
  [AOper.mk (some 3) (AOp.mv (Operand.tmp 0)) none [], AOper.mk (some 4) (AOp.len (Operand.tmp 3)) none [0],
            AOper.mk (some 5) (AOp.bin BinOp.leq (Operand.tmp 4) (Operand.const (Value.int IntKind.i64 4)))
              none [1],
            AOper.mk (some 6) (AOp.mv (Operand.tmp 5)) none [2],
            AOper.mk (some 7) (AOp.mv (Operand.tmp 0)) (some (6, true)) [3],
            AOper.mk (some 8)
              (AOp.call 71
                [Operand.tmp 7, Operand.const (Value.int IntKind.i64 0),
                  Operand.const (Value.int IntKind.i64 60)])
              (some (6, true)) [4, 3, 3],
            AOper.mk (some 9) (AOp.pick (Operand.tmp 6) (Operand.tmp 8) (Operand.const (Value.bool false))) none [3, 5],
            AOper.mk (some 10) (AOp.mv (Operand.tmp 9)) none [6, 5],
            AOper.mk (some 11) (AOp.mv (Operand.tmp 0)) (some (10, true)) [7],
            AOper.mk (some 12) (AOp.call 56 [Operand.tmp 11]) (some (10, true)) [8, 7, 7],
            AOper.mk (some 13)
              (AOp.bin BinOp.leq (Operand.tmp 12) (Operand.const (Value.int IntKind.i64 60)))
              (some (10, true)) [9, 7],
            AOper.mk (some 14) (AOp.pick (Operand.tmp 10) (Operand.tmp 13) (Operand.const (Value.bool false))) none
              [7, 10],
            AOper.mk (some 2) (AOp.mv (Operand.tmp 14)) none [11, 9, 0, 1, 2, 3, 4, 5, 6, 7, 8, 9, 10, 11]]
def l55 : AFn :=
  (AFn.mk 15 1
    (ACode.seq (ACode.reg l55r0)
      (ACode.seq
        (ACode.reg l55r1)
        ACode.ret))
    [ARes.tmp 2])
theorem l55_eq : lowFn Try.prog 55 = some l55 := by kernel_rfl
def l56r0 : List AOper :=
  [AOper.mk (some 2) (AOp.mv (Operand.const (Value.int IntKind.i64 0))) none []]
def l56r1 : List AOper :=
  [AOper.mk (some 3) (AOp.mv (Operand.const (Value.int IntKind.i64 1))) none []]
def l56r2 : List AOper :=
  [AOper.mk (some 4) (AOp.mv (Operand.const (Value.int IntKind.i64 0))) none []]
def l56r3 : List AOper :=
  [AOper.mk (some 5) (AOp.mv (Operand.tmp 4)) none [],
                        AOper.mk (some 6) (AOp.mv (Operand.tmp 0)) none [],
                        AOper.mk (some 7) (AOp.len (Operand.tmp 6)) none [1],
                        AOper.mk (some 8) (AOp.bin BinOp.lss (Operand.tmp 5) (Operand.tmp 7)) none [0, 2]]
def l56r4 : List AOper :=
  [AOper.mk (some 11) (AOp.mv (Operand.tmp 3)) none [],
                          AOper.mk (some 12) (AOp.mv (Operand.tmp 0)) none [],
                          AOper.mk (some 13) (AOp.mv (Operand.tmp 4)) none [],
                          AOper.mk (some 14) (AOp.idxA 1 (Operand.tmp 12) (Operand.tmp 13)) none [1, 2],
                          AOper.mk (some 15) (AOp.load false 1 (Operand.tmp 14)) none [3],
                          AOper.mk (some 16) (AOp.bin BinOp.mul (Operand.tmp 11) (Operand.tmp 15)) none [0, 4],
                          AOper.mk (some 3) (AOp.mv (Operand.tmp 16)) none [5, 0, 1, 2, 3, 4, 5]]
def l56r5 : List AOper :=
  [AOper.mk (some 9) (AOp.mv (Operand.tmp 4)) none [],
                        AOper.mk (some 10)
                          (AOp.bin BinOp.add (Operand.tmp 9) (Operand.const (Value.int IntKind.i64 1))) none
                          [0],
                        AOper.mk (some 4) (AOp.mv (Operand.tmp 10)) none [1, 0, 1]]
def l56r6 : List AOper :=
  [AOper.mk (some 17) (AOp.mv (Operand.tmp 3)) none [],
                AOper.mk (some 2) (AOp.mv (Operand.tmp 17)) none [0, 0]]
def l56 : AFn :=
  (AFn.mk 18 1
    (ACode.seq (ACode.reg l56r0)
      (ACode.seq (ACode.reg l56r1)
        (ACode.seq
          (ACode.seq
            (ACode.reg l56r2)
            (ACode.block 0
              (ACode.loop
                (ACode.seq
                  (ACode.seq
                    (ACode.reg l56r3)
                    (ACode.cond (Operand.tmp 8) ACode.skip (ACode.exit 0)))
                  (ACode.seq
                    (ACode.block 1
                      (ACode.reg l56r4))
                    (ACode.reg l56r5))))))
          (ACode.seq
            (ACode.reg l56r6)
            ACode.ret))))
    [ARes.tmp 2])
theorem l56_eq : lowFn Try.prog 56 = some l56 := by kernel_rfl
def l57r0 : List AOper :=
  [AOper.mk (some 4) (AOp.mv (Operand.const (Value.int IntKind.i64 0))) none []]
def l57r1 : List AOper :=
  [AOper.mk (some 7) (AOp.mv (Operand.tmp 0)) none [], AOper.mk (some 8) (AOp.mv (Operand.tmp 0)) none [],
            AOper.mk (some 9) (AOp.nilck (Operand.tmp 8)) none [1],
            AOper.mk (some 10) (AOp.fld 1 (Operand.tmp 9)) none [2],
            AOper.mk (some 11) (AOp.load false 1 (Operand.tmp 10)) none [3],
            AOper.mk (some 12)
              (AOp.bin BinOp.add (Operand.tmp 11) (Operand.const (Value.int IntKind.i64 1))) none [4],
            AOper.mk (some 13) (AOp.nilck (Operand.tmp 7)) none [0, 0, 1, 2, 3, 4, 5],
            AOper.mk (some 14) (AOp.fld 1 (Operand.tmp 13)) none [6, 0, 1, 2, 3, 4, 5],
            AOper.mk none (AOp.store 1 (Operand.tmp 14) (Operand.tmp 12)) none [7, 5, 0, 1, 2, 3, 4, 5]]
def l57r2 : List AOper :=
  [AOper.mk (some 15) (AOp.mv (Operand.tmp 1)) none [],
                AOper.mk (some 16)
                  (AOp.bin BinOp.lss (Operand.tmp 15) (Operand.const (Value.int IntKind.i64 1))) none [0],
                AOper.mk (some 17) (AOp.mv (Operand.tmp 16)) none [1],
                AOper.mk (some 18) (AOp.mv (Operand.tmp 0)) (some (17, false)) [2],
                AOper.mk (some 19) (AOp.nilck (Operand.tmp 18)) (some (17, false)) [3, 2],
                AOper.mk (some 20) (AOp.fld 0 (Operand.tmp 19)) (some (17, false)) [4, 2],
                AOper.mk (some 21) (AOp.load false 1 (Operand.tmp 20)) (some (17, false)) [5, 2],
                AOper.mk (some 22) (AOp.len (Operand.tmp 21)) (some (17, false)) [6, 2],
                AOper.mk (some 23)
                  (AOp.bin BinOp.eql (Operand.tmp 22) (Operand.const (Value.int IntKind.i64 0)))
                  (some (17, false)) [7, 2],
                AOper.mk (some 24) (AOp.pick (Operand.tmp 17) (Operand.const (Value.bool true)) (Operand.tmp 23)) none
                  [2, 8]]
def l57r3 : List AOper :=
  [AOper.mk (some 4) (AOp.mv (Operand.const (Value.int IntKind.i64 0))) none []]
def l57r4 : List AOper :=
  [AOper.mk (some 25) (AOp.mv (Operand.tmp 0)) none [],
                AOper.mk (some 26) (AOp.nilck (Operand.tmp 25)) none [0],
                AOper.mk (some 27) (AOp.fld 1 (Operand.tmp 26)) none [1],
                AOper.mk (some 28) (AOp.load false 1 (Operand.tmp 27)) none [2],
                AOper.mk (some 29)
                  (AOp.bin BinOp.sub (Operand.tmp 28) (Operand.const (Value.int IntKind.i64 1))) none [3],
                AOper.mk (some 5) (AOp.mv (Operand.tmp 29)) none [4, 0, 1, 2, 3, 4]]
def l57r5 : List AOper :=
  [AOper.mk (some 30) (AOp.mv (Operand.tmp 5)) none [],
                    AOper.mk (some 31) (AOp.mv (Operand.tmp 0)) none [],
                    AOper.mk (some 32) (AOp.nilck (Operand.tmp 31)) none [1],
                    AOper.mk (some 33) (AOp.fld 0 (Operand.tmp 32)) none [2],
                    AOper.mk (some 34) (AOp.load false 1 (Operand.tmp 33)) none [3],
                    AOper.mk (some 35) (AOp.len (Operand.tmp 34)) none [4],
                    AOper.mk (some 36) (AOp.bin BinOp.lss (Operand.tmp 30) (Operand.tmp 35)) none [0, 5]]
def l57r6 : List AOper :=
  [AOper.mk (some 37) (AOp.mv (Operand.tmp 0)) none [],
                        AOper.mk (some 38) (AOp.nilck (Operand.tmp 37)) none [0],
                        AOper.mk (some 39) (AOp.fld 0 (Operand.tmp 38)) none [1],
                        AOper.mk (some 40) (AOp.load false 1 (Operand.tmp 39)) none [2],
                        AOper.mk (some 41) (AOp.mv (Operand.tmp 5)) none [],
                        AOper.mk (some 42) (AOp.idxA 1 (Operand.tmp 40) (Operand.tmp 41)) none [3, 4],
                        AOper.mk (some 43) (AOp.load false 1 (Operand.tmp 42)) none [5],
                        AOper.mk (some 44) (AOp.conv IntKind.i64 (Operand.tmp 43)) none [6],
                        AOper.mk (some 45) (AOp.mv (Operand.tmp 1)) none [],
                        AOper.mk (some 46) (AOp.bin BinOp.rem (Operand.tmp 44) (Operand.tmp 45)) none [7, 8],
                        AOper.mk (some 4) (AOp.mv (Operand.tmp 46)) none [9, 0, 1, 2, 3, 4, 5, 6, 7, 8, 9]]
def l57r7a : List AOper :=
  [AOper.mk (some 47) (AOp.mv (Operand.tmp 0)) none [], AOper.mk (some 48) (AOp.nilck (Operand.tmp 47)) none [0], AOper.mk (some 49) (AOp.fld 0 (Operand.tmp 48)) none [1], AOper.mk (some 50) (AOp.load false 1 (Operand.tmp 49)) none [2], AOper.mk (some 51) (AOp.mv (Operand.tmp 5)) none [], AOper.mk (some 52) (AOp.mv (Operand.tmp 0)) none [], AOper.mk (some 53) (AOp.nilck (Operand.tmp 52)) none [5], AOper.mk (some 54) (AOp.fld 0 (Operand.tmp 53)) none [6], AOper.mk (some 55) (AOp.load false 1 (Operand.tmp 54)) none [7], AOper.mk (some 56) (AOp.len (Operand.tmp 55)) none [8], AOper.mk (some 57) (AOp.bin BinOp.rem (Operand.tmp 51) (Operand.tmp 56)) none [4, 9], AOper.mk (some 58) (AOp.idxA 1 (Operand.tmp 50) (Operand.tmp 57)) none [3, 10], AOper.mk (some 59) (AOp.load false 1 (Operand.tmp 58)) none [11], AOper.mk (some 60) (AOp.conv IntKind.i64 (Operand.tmp 59)) none [12], AOper.mk (some 61)
                      (AOp.bin BinOp.mul (Operand.tmp 60) (Operand.const (Value.int IntKind.i64 131))) none
                      [13], AOper.mk (some 62) (AOp.mv (Operand.tmp 0)) none [], AOper.mk (some 63) (AOp.nilck (Operand.tmp 62)) none [15], AOper.mk (some 64) (AOp.fld 0 (Operand.tmp 63)) none [16], AOper.mk (some 65) (AOp.load false 1 (Operand.tmp 64)) none [17], AOper.mk (some 66) (AOp.mv (Operand.tmp 5)) none [], AOper.mk (some 67)
                      (AOp.bin BinOp.mul (Operand.tmp 66) (Operand.const (Value.int IntKind.i64 7))) none
                      [19], AOper.mk (some 68)
                      (AOp.bin BinOp.add (Operand.tmp 67) (Operand.const (Value.int IntKind.i64 3))) none
                      [20], AOper.mk (some 69) (AOp.mv (Operand.tmp 0)) none [], AOper.mk (some 70) (AOp.nilck (Operand.tmp 69)) none [22], AOper.mk (some 71) (AOp.fld 0 (Operand.tmp 70)) none [23], AOper.mk (some 72) (AOp.load false 1 (Operand.tmp 71)) none [24], AOper.mk (some 73) (AOp.len (Operand.tmp 72)) none [25], AOper.mk (some 74) (AOp.bin BinOp.rem (Operand.tmp 68) (Operand.tmp 73)) none [21, 26], AOper.mk (some 75) (AOp.idxA 1 (Operand.tmp 65) (Operand.tmp 74)) none [18, 27], AOper.mk (some 76) (AOp.load false 1 (Operand.tmp 75)) none [28], AOper.mk (some 77) (AOp.conv IntKind.i64 (Operand.tmp 76)) none [29], AOper.mk (some 78)
                      (AOp.bin BinOp.mul (Operand.tmp 77) (Operand.const (Value.int IntKind.i64 1117))) none
                      [30], AOper.mk (some 79) (AOp.bin BinOp.add (Operand.tmp 61) (Operand.tmp 78)) none [14, 31], AOper.mk (some 80) (AOp.mv (Operand.tmp 5)) none [], AOper.mk (some 81)
                      (AOp.bin BinOp.mul (Operand.tmp 80) (Operand.const (Value.int IntKind.i64 29))) none
                      [33], AOper.mk (some 82) (AOp.bin BinOp.add (Operand.tmp 79) (Operand.tmp 81)) none [32, 34], AOper.mk (some 83) (AOp.mv (Operand.tmp 5)) none [], AOper.mk (some 84) (AOp.mv (Operand.tmp 0)) none [], AOper.mk (some 85) (AOp.nilck (Operand.tmp 84)) none [37], AOper.mk (some 86) (AOp.fld 0 (Operand.tmp 85)) none [38], AOper.mk (some 87) (AOp.load false 1 (Operand.tmp 86)) none [39], AOper.mk (some 88) (AOp.len (Operand.tmp 87)) none [40], AOper.mk (some 89) (AOp.bin BinOp.quo (Operand.tmp 83) (Operand.tmp 88)) none [36, 41], AOper.mk (some 90)
                      (AOp.bin BinOp.mul (Operand.tmp 89) (Operand.const (Value.int IntKind.i64 53))) none
                      [42]]
def l57r7b : List AOper :=
  [AOper.mk (some 91) (AOp.bin BinOp.add (Operand.tmp 82) (Operand.tmp 90)) none [35, 43], AOper.mk (some 6) (AOp.mv (Operand.tmp 91)) none
                      [44, 0, 1, 2, 3, 4, 5, 6, 7, 8, 9, 10, 11, 12, 13, 14, 15, 16, 17, 18, 19, 20, 21, 22, 23, 24, 25,
                        26, 27, 28, 29, 30, 31, 32, 33, 34, 35, 36, 37, 38, 39, 40, 41, 42, 43, 44]]
def l57r7 : List AOper := l57r7a ++ l57r7b
def l57r8 : List AOper :=
  [AOper.mk (some 92) (AOp.mv (Operand.tmp 6)) none [],
                      AOper.mk (some 93) (AOp.mv (Operand.tmp 6)) none [],
                      AOper.mk (some 94)
                        (AOp.bin BinOp.quo (Operand.tmp 93) (Operand.const (Value.int IntKind.i64 64))) none
                        [1],
                      AOper.mk (some 95) (AOp.bin BinOp.xor (Operand.tmp 92) (Operand.tmp 94)) none [0, 2],
                      AOper.mk (some 6) (AOp.mv (Operand.tmp 95)) none [3, 0, 1, 2, 3]]
def l57r9 : List AOper :=
  [AOper.mk (some 96) (AOp.mv (Operand.tmp 6)) none [],
                        AOper.mk (some 97) (AOp.mv (Operand.tmp 1)) none [],
                        AOper.mk (some 98) (AOp.bin BinOp.rem (Operand.tmp 96) (Operand.tmp 97)) none [0, 1],
                        AOper.mk (some 4) (AOp.mv (Operand.tmp 98)) none [2, 0, 1, 2]]
def l57 : AFn :=
  (AFn.mk 99 2
    (ACode.seq (ACode.reg l57r0)
      (ACode.seq
        (ACode.reg l57r1)
        (ACode.seq
          (ACode.seq
            (ACode.reg l57r2)
            (ACode.cond (Operand.tmp 24)
              (ACode.seq
                (ACode.reg l57r3)
                ACode.ret)
              ACode.skip))
          (ACode.seq
            (ACode.reg l57r4)
            (ACode.seq
              (ACode.seq
                (ACode.reg l57r5)
                (ACode.cond (Operand.tmp 36)
                  (ACode.seq
                    (ACode.reg l57r6)
                    ACode.ret)
                  ACode.skip))
              (ACode.seq
                (ACode.draw l57r7)
                (ACode.seq
                  (ACode.reg l57r8)
                  (ACode.seq
                    (ACode.reg l57r9)
                    ACode.ret))))))))
    [ARes.tmp 4])
theorem l57_eq : lowFn Try.prog 57 = some l57 := by kernel_rfl
def l58r0 : List AOper :=
  [AOper.mk (some 4)
            (AOp.alloc
              [Value.int IntKind.i64 0, Value.int IntKind.i64 0,
                Value.int IntKind.i64 0, Value.int IntKind.i64 0])
            none []]
def l58r1 : List AOper :=
  [AOper.mk (some 5)
              (AOp.alloc
                [Value.int IntKind.i64 0, Value.int IntKind.i64 0,
                  Value.int IntKind.i64 0, Value.int IntKind.i64 0])
              none []]
def l58r2 : List AOper :=
  [AOper.mk (some 7) (AOp.mv (Operand.tmp 0)) none [], AOper.mk (some 8) (AOp.len (Operand.tmp 7)) none [0],
                AOper.mk (some 9)
                  (AOp.bin BinOp.sub (Operand.tmp 8) (Operand.const (Value.int IntKind.i64 1))) none [1],
                AOper.mk (some 6) (AOp.mv (Operand.tmp 9)) none [2, 0, 1, 2]]
def l58r3 : List AOper :=
  [AOper.mk (some 10) (AOp.mv (Operand.tmp 6)) none [],
                        AOper.mk (some 11)
                          (AOp.bin BinOp.geq (Operand.tmp 10) (Operand.const (Value.int IntKind.i64 0)))
                          none [0]]
def l58r4 : List AOper :=
  [AOper.mk (some 14) (AOp.mv (Operand.tmp 6)) none [],
                            AOper.mk (some 15) (AOp.mv (Operand.tmp 1)) none [],
                            AOper.mk (some 16) (AOp.mv (Operand.tmp 0)) none [],
                            AOper.mk (some 17) (AOp.mv (Operand.tmp 6)) none [],
                            AOper.mk (some 18) (AOp.idxA 1 (Operand.tmp 16) (Operand.tmp 17)) none [2, 3],
                            AOper.mk (some 19) (AOp.load false 1 (Operand.tmp 18)) none [4],
                            AOper.mk (some 20) (AOp.bin BinOp.rem (Operand.tmp 15) (Operand.tmp 19)) none [1, 5],
                            AOper.mk (some 21) (AOp.idxP 1 4 (Operand.tmp 5) (Operand.tmp 14)) none
                              [0, 0, 1, 2, 3, 4, 5, 6],
                            AOper.mk none (AOp.store 1 (Operand.tmp 21) (Operand.tmp 20)) none
                              [7, 6, 0, 1, 2, 3, 4, 5, 6]]
def l58r5 : List AOper :=
  [AOper.mk (some 22) (AOp.mv (Operand.tmp 1)) none [],
                            AOper.mk (some 23) (AOp.mv (Operand.tmp 0)) none [],
                            AOper.mk (some 24) (AOp.mv (Operand.tmp 6)) none [],
                            AOper.mk (some 25) (AOp.idxA 1 (Operand.tmp 23) (Operand.tmp 24)) none [1, 2],
                            AOper.mk (some 26) (AOp.load false 1 (Operand.tmp 25)) none [3],
                            AOper.mk (some 27) (AOp.bin BinOp.quo (Operand.tmp 22) (Operand.tmp 26)) none [0, 4],
                            AOper.mk (some 1) (AOp.mv (Operand.tmp 27)) none [5, 0, 1, 2, 3, 4, 5]]
def l58r6 : List AOper :=
  [AOper.mk (some 12) (AOp.mv (Operand.tmp 6)) none [],
                        AOper.mk (some 13)
                          (AOp.bin BinOp.sub (Operand.tmp 12) (Operand.const (Value.int IntKind.i64 1)))
                          none [0],
                        AOper.mk (some 6) (AOp.mv (Operand.tmp 13)) none [1, 0, 1]]
def l58r7 : List AOper :=
  [AOper.mk (some 28) (AOp.load true 4 (Operand.tmp 5)) none [],
                AOper.mk none (AOp.store 4 (Operand.tmp 4) (Operand.tmp 28)) none [0, 0]]
def l58 : AFn :=
  (AFn.mk 29 2
    (ACode.seq
      (ACode.reg l58r0)
      (ACode.seq
        (ACode.reg l58r1)
        (ACode.seq
          (ACode.seq
            (ACode.reg l58r2)
            (ACode.block 0
              (ACode.loop
                (ACode.seq
                  (ACode.seq
                    (ACode.reg l58r3)
                    (ACode.cond (Operand.tmp 11) ACode.skip (ACode.exit 0)))
                  (ACode.seq
                    (ACode.block 1
                      (ACode.seq
                        (ACode.reg l58r4)
                        (ACode.reg l58r5)))
                    (ACode.reg l58r6))))))
          (ACode.seq
            (ACode.reg l58r7)
            ACode.ret))))
    [ARes.cell 4 true 4])
theorem l58_eq : lowFn Try.prog 58 = some l58 := by kernel_rfl
def l59r0 : List AOper :=
  [AOper.mk (some 2) (AOp.mv (Operand.const (Value.slice none 0 0))) none []]
def l59r1 : List AOper :=
  [AOper.mk (some 3) (AOp.mv (Operand.tmp 0)) none [],
              AOper.mk (some 4) (AOp.isnil false (Operand.tmp 3)) none [0]]
def l59r2 : List AOper :=
  [AOper.mk (some 2) (AOp.mv (Operand.const (Value.slice none 0 0))) none []]
def l59r3 : List AOper :=
  [AOper.mk (some 5) (AOp.bslice 1 [Value.int IntKind.i64 0] [] 0) none [],
              AOper.mk (some 6) (AOp.mv (Operand.tmp 0)) none [],
              AOper.mk (some 7) (AOp.append 1 (Operand.tmp 5) (Operand.tmp 6)) none [0, 1],
              AOper.mk (some 2) (AOp.mv (Operand.tmp 7)) none [2, 2, 0, 1, 2]]
def l59 : AFn :=
  (AFn.mk 8 1
    (ACode.seq (ACode.reg l59r0)
      (ACode.seq
        (ACode.seq
          (ACode.reg l59r1)
          (ACode.cond (Operand.tmp 4)
            (ACode.seq (ACode.reg l59r2)
              ACode.ret)
            ACode.skip))
        (ACode.seq
          (ACode.reg l59r3)
          ACode.ret)))
    [ARes.tmp 2])
theorem l59_eq : lowFn Try.prog 59 = some l59 := by kernel_rfl
def l61r0 : List AOper :=
  [AOper.mk (some 4)
            (AOp.alloc
              [Value.int IntKind.i64 0, Value.int IntKind.i64 0,
                Value.int IntKind.i64 0, Value.int IntKind.i64 0])
            none [],
          AOper.mk (some 5) (AOp.mv (Operand.const (Value.bool false))) none []]
def l61r1 : List AOper :=
  [AOper.mk (some 9) (AOp.mv (Operand.tmp 1)) none [], AOper.mk (some 10) (AOp.len (Operand.tmp 9)) none [0],
              AOper.mk (some 11) (AOp.mv (Operand.tmp 0)) none [],
              AOper.mk (some 12) (AOp.len (Operand.tmp 11)) none [2],
              AOper.mk (some 13) (AOp.bin BinOp.neq (Operand.tmp 10) (Operand.tmp 12)) none [1, 3]]
def l61r2 : List AOper :=
  [AOper.mk (some 14)
                    (AOp.build
                      [Value.int IntKind.i64 0, Value.int IntKind.i64 0,
                        Value.int IntKind.i64 0, Value.int IntKind.i64 0]
                      [])
                    none [],
                  AOper.mk none (AOp.store 4 (Operand.tmp 4) (Operand.tmp 14)) none [0, 0],
                  AOper.mk (some 5) (AOp.mv (Operand.const (Value.bool false))) none [1, 0, 1]]
def l61r3 : List AOper :=
  [AOper.mk (some 6)
                (AOp.alloc
                  [Value.int IntKind.i64 0, Value.int IntKind.i64 0,
                    Value.int IntKind.i64 0, Value.int IntKind.i64 0])
                none []]
def l61r4 : List AOper :=
  [AOper.mk (some 15) (AOp.mv (Operand.tmp 0)) none [],
                  AOper.mk (some 16) (AOp.len (Operand.tmp 15)) none [0],
                  AOper.mk (some 17) (AOp.mv (Operand.const (Value.int IntKind.i64 0))) none []]
def l61r5 : List AOper :=
  [AOper.mk (some 18) (AOp.bin BinOp.lss (Operand.tmp 17) (Operand.tmp 16)) none []]
def l61r6 : List AOper :=
  [AOper.mk (some 19) (AOp.mv (Operand.tmp 17)) none [],
                                AOper.mk (some 20) (AOp.idxA 1 (Operand.tmp 15) (Operand.tmp 17)) none [],
                                AOper.mk (some 21) (AOp.load false 1 (Operand.tmp 20)) none [1],
                                AOper.mk (some 7) (AOp.mv (Operand.tmp 19)) none [0, 0, 1, 2],
                                AOper.mk (some 8) (AOp.mv (Operand.tmp 21)) none [2, 3, 0, 1, 2, 3]]
def l61r7 : List AOper :=
  [AOper.mk (some 22) (AOp.mv (Operand.tmp 1)) none [],
                                    AOper.mk (some 23) (AOp.mv (Operand.tmp 7)) none [],
                                    AOper.mk (some 24) (AOp.idxA 1 (Operand.tmp 22) (Operand.tmp 23)) none [0, 1],
                                    AOper.mk (some 25) (AOp.load false 1 (Operand.tmp 24)) none [2],
                                    AOper.mk (some 26) (AOp.mv (Operand.tmp 8)) none [],
                                    AOper.mk (some 27)
                                      (AOp.bin BinOp.sub (Operand.tmp 26)
                                        (Operand.const (Value.int IntKind.i64 1)))
                                      none [4],
                                    AOper.mk (some 28) (AOp.call 53 [Operand.tmp 25, Operand.tmp 27]) none [3, 5],
                                    AOper.mk (some 29) (AOp.un UnOp.not (Operand.tmp 28)) none [6]]
def l61r8 : List AOper :=
  [AOper.mk (some 30)
                                          (AOp.build
                                            [Value.int IntKind.i64 0, Value.int IntKind.i64 0,
                                              Value.int IntKind.i64 0, Value.int IntKind.i64 0]
                                            [])
                                          none [],
                                        AOper.mk none (AOp.store 4 (Operand.tmp 4) (Operand.tmp 30)) none [0, 0],
                                        AOper.mk (some 5) (AOp.mv (Operand.const (Value.bool false))) none [1, 0, 1]]
def l61r9 : List AOper :=
  [AOper.mk (some 31) (AOp.mv (Operand.tmp 7)) none [],
                                  AOper.mk (some 32) (AOp.mv (Operand.tmp 1)) none [],
                                  AOper.mk (some 33) (AOp.mv (Operand.tmp 7)) none [],
                                  AOper.mk (some 34) (AOp.idxA 1 (Operand.tmp 32) (Operand.tmp 33)) none [1, 2],
                                  AOper.mk (some 35) (AOp.load false 1 (Operand.tmp 34)) none [3],
                                  AOper.mk (some 36) (AOp.idxP 1 4 (Operand.tmp 6) (Operand.tmp 31)) none
                                    [0, 0, 1, 2, 3, 4],
                                  AOper.mk none (AOp.store 1 (Operand.tmp 36) (Operand.tmp 35)) none
                                    [5, 4, 0, 1, 2, 3, 4]]
def l61r10 : List AOper :=
  [AOper.mk (some 37)
                              (AOp.bin BinOp.add (Operand.tmp 17) (Operand.const (Value.int IntKind.i64 1)))
                              none [],
                            AOper.mk (some 17) (AOp.mv (Operand.tmp 37)) none [0]]
def l61r11 : List AOper :=
  [AOper.mk (some 38) (AOp.load true 4 (Operand.tmp 6)) none [],
                  AOper.mk none (AOp.store 4 (Operand.tmp 4) (Operand.tmp 38)) none [0, 0],
                  AOper.mk (some 5) (AOp.mv (Operand.const (Value.bool true))) none [1, 0, 1]]
def l61 : AFn :=
  (AFn.mk 39 2
    (ACode.seq
      (ACode.reg l61r0)
      (ACode.seq
        (ACode.seq
          (ACode.reg l61r1)
          (ACode.cond (Operand.tmp 13)
            (ACode.seq
              (ACode.reg l61r2)
              ACode.ret)
            ACode.skip))
        (ACode.seq
          (ACode.reg l61r3)
          (ACode.seq
            (ACode.seq
              (ACode.reg l61r4)
              (ACode.block 0
                (ACode.loop
                  (ACode.seq
                    (ACode.reg l61r5)
                    (ACode.seq (ACode.cond (Operand.tmp 18) ACode.skip (ACode.exit 0))
                      (ACode.seq
                        (ACode.block 1
                          (ACode.seq
                            (ACode.reg l61r6)
                            (ACode.seq
                              (ACode.seq
                                (ACode.reg l61r7)
                                (ACode.cond (Operand.tmp 29)
                                  (ACode.seq
                                    (ACode.reg l61r8)
                                    ACode.ret)
                                  ACode.skip))
                              (ACode.reg l61r9))))
                        (ACode.reg l61r10)))))))
            (ACode.seq
              (ACode.reg l61r11)
              ACode.ret)))))
    [ARes.cell 4 true 4, ARes.tmp 5])
theorem l61_eq : lowFn Try.prog 61 = some l61 := by kernel_rfl
def l62r0 : List AOper :=
  [AOper.mk (some 2) (AOp.box (Operand.tmp 0)) none [],
          AOper.mk (some 4) (AOp.mv (Operand.const (Value.int IntKind.i64 0))) none []]
def l62r1 : List AOper :=
  [AOper.mk (some 5) (AOp.mv (Operand.const (Value.int IntKind.i64 0))) none []]
def l62r2 : List AOper :=
  [AOper.mk (some 8) (AOp.mv (Operand.tmp 1)) none [], AOper.mk (some 9) (AOp.len (Operand.tmp 8)) none [0],
                AOper.mk (some 10) (AOp.mv (Operand.const (Value.int IntKind.i64 0))) none []]
def l62r3 : List AOper :=
  [AOper.mk (some 11) (AOp.bin BinOp.lss (Operand.tmp 10) (Operand.tmp 9)) none []]
def l62r4 : List AOper :=
  [AOper.mk (some 12) (AOp.mv (Operand.tmp 10)) none [],
                              AOper.mk (some 13) (AOp.idxA 1 (Operand.tmp 8) (Operand.tmp 10)) none [],
                              AOper.mk (some 14) (AOp.load false 1 (Operand.tmp 13)) none [1],
                              AOper.mk (some 6) (AOp.mv (Operand.tmp 12)) none [0, 0, 1, 2],
                              AOper.mk (some 7) (AOp.mv (Operand.tmp 14)) none [2, 3, 0, 1, 2, 3]]
def l62r5 : List AOper :=
  [AOper.mk (some 15) (AOp.mv (Operand.tmp 5)) none [],
                              AOper.mk (some 16) (AOp.mv (Operand.tmp 6)) none [],
                              AOper.mk (some 17) (AOp.idxP 1 4 (Operand.tmp 2) (Operand.tmp 16)) none [1],
                              AOper.mk (some 18) (AOp.load false 1 (Operand.tmp 17)) none [2],
                              AOper.mk (some 19) (AOp.mv (Operand.tmp 7)) none [],
                              AOper.mk (some 20) (AOp.bin BinOp.mul (Operand.tmp 18) (Operand.tmp 19)) none [3, 4],
                              AOper.mk (some 21) (AOp.bin BinOp.add (Operand.tmp 15) (Operand.tmp 20)) none [0, 5],
                              AOper.mk (some 5) (AOp.mv (Operand.tmp 21)) none [6, 0, 1, 2, 3, 4, 5, 6]]
def l62r6 : List AOper :=
  [AOper.mk (some 22)
                            (AOp.bin BinOp.add (Operand.tmp 10) (Operand.const (Value.int IntKind.i64 1)))
                            none [],
                          AOper.mk (some 10) (AOp.mv (Operand.tmp 22)) none [0]]
def l62r7 : List AOper :=
  [AOper.mk (some 23) (AOp.mv (Operand.tmp 5)) none [],
                AOper.mk (some 4) (AOp.mv (Operand.tmp 23)) none [0, 0]]
def l62 : AFn :=
  (AFn.mk 24 2
    (ACode.seq
      (ACode.reg l62r0)
      (ACode.seq (ACode.reg l62r1)
        (ACode.seq
          (ACode.seq
            (ACode.reg l62r2)
            (ACode.block 0
              (ACode.loop
                (ACode.seq (ACode.reg l62r3)
                  (ACode.seq (ACode.cond (Operand.tmp 11) ACode.skip (ACode.exit 0))
                    (ACode.seq
                      (ACode.block 1
                        (ACode.seq
                          (ACode.reg l62r4)
                          (ACode.reg l62r5)))
                      (ACode.reg l62r6)))))))
          (ACode.seq
            (ACode.reg l62r7)
            ACode.ret))))
    [ARes.tmp 4])
theorem l62_eq : lowFn Try.prog 62 = some l62 := by kernel_rfl
def l63r0 : List AOper :=
  [AOper.mk (some 4) (AOp.mv (Operand.const (Value.bool false))) none []]
def l63r1 : List AOper :=
  [AOper.mk (some 6) (AOp.mv (Operand.tmp 1)) none [], AOper.mk (some 7) (AOp.len (Operand.tmp 6)) none [0],
              AOper.mk (some 8) (AOp.mv (Operand.tmp 0)) none [], AOper.mk (some 9) (AOp.len (Operand.tmp 8)) none [2],
              AOper.mk (some 10) (AOp.bin BinOp.neq (Operand.tmp 7) (Operand.tmp 9)) none [1, 3]]
def l63r2 : List AOper :=
  [AOper.mk (some 4) (AOp.mv (Operand.const (Value.bool false))) none []]
def l63r3 : List AOper :=
  [AOper.mk (some 5) (AOp.mv (Operand.const (Value.int IntKind.i64 0))) none []]
def l63r4 : List AOper :=
  [AOper.mk (some 11) (AOp.mv (Operand.tmp 5)) none [],
                        AOper.mk (some 12) (AOp.mv (Operand.tmp 1)) none [],
                        AOper.mk (some 13) (AOp.len (Operand.tmp 12)) none [1],
                        AOper.mk (some 14) (AOp.bin BinOp.lss (Operand.tmp 11) (Operand.tmp 13)) none [0, 2]]
def l63r5a : List AOper :=
  [AOper.mk (some 17) (AOp.mv (Operand.tmp 1)) none [], AOper.mk (some 18) (AOp.mv (Operand.tmp 5)) none [], AOper.mk (some 19) (AOp.idxA 1 (Operand.tmp 17) (Operand.tmp 18)) none [0, 1], AOper.mk (some 20) (AOp.load false 1 (Operand.tmp 19)) none [2], AOper.mk (some 21) (AOp.mv (Operand.tmp 0)) none [], AOper.mk (some 22) (AOp.mv (Operand.tmp 5)) none [], AOper.mk (some 23) (AOp.idxA 1 (Operand.tmp 21) (Operand.tmp 22)) none [4, 5], AOper.mk (some 24) (AOp.load false 1 (Operand.tmp 23)) none [6], AOper.mk (some 25)
                              (AOp.bin BinOp.sub (Operand.tmp 24) (Operand.const (Value.int IntKind.i64 1)))
                              none [7]]
def l63r5b : List AOper :=
  [AOper.mk (some 26)
                              (AOp.call 47
                                [Operand.tmp 20, Operand.const (Value.int IntKind.i64 0), Operand.tmp 25])
                              none [3, 8], AOper.mk (some 27) (AOp.un UnOp.not (Operand.tmp 26)) none [9]]
def l63r5 : List AOper := l63r5a ++ l63r5b
def l63r6 : List AOper :=
  [AOper.mk (some 4) (AOp.mv (Operand.const (Value.bool false))) none []]
def l63r7 : List AOper :=
  [AOper.mk (some 15) (AOp.mv (Operand.tmp 5)) none [],
                        AOper.mk (some 16)
                          (AOp.bin BinOp.add (Operand.tmp 15) (Operand.const (Value.int IntKind.i64 1)))
                          none [0],
                        AOper.mk (some 5) (AOp.mv (Operand.tmp 16)) none [1, 0, 1]]
def l63r8 : List AOper :=
  [AOper.mk (some 4) (AOp.mv (Operand.const (Value.bool true))) none []]
def l63 : AFn :=
  (AFn.mk 28 2
    (ACode.seq (ACode.reg l63r0)
      (ACode.seq
        (ACode.seq
          (ACode.reg l63r1)
          (ACode.cond (Operand.tmp 10)
            (ACode.seq (ACode.reg l63r2) ACode.ret)
            ACode.skip))
        (ACode.seq
          (ACode.seq
            (ACode.reg l63r3)
            (ACode.block 0
              (ACode.loop
                (ACode.seq
                  (ACode.seq
                    (ACode.reg l63r4)
                    (ACode.cond (Operand.tmp 14) ACode.skip (ACode.exit 0)))
                  (ACode.seq
                    (ACode.block 1
                      (ACode.seq
                        (ACode.draw l63r5)
                        (ACode.cond (Operand.tmp 27)
                          (ACode.seq (ACode.reg l63r6)
                            ACode.ret)
                          ACode.skip)))
                    (ACode.reg l63r7))))))
          (ACode.seq (ACode.reg l63r8) ACode.ret))))
    [ARes.tmp 4])
theorem l63_eq : lowFn Try.prog 63 = some l63 := by kernel_rfl
def l64r0 : List AOper :=
  [AOper.mk (some 4) (AOp.mv (Operand.const (Value.int IntKind.i64 0))) none []]
def l64r1 : List AOper :=
  [AOper.mk (some 5) (AOp.mv (Operand.const (Value.int IntKind.i64 0))) none []]
def l64r2 : List AOper :=
  [AOper.mk (some 6) (AOp.mv (Operand.const (Value.int IntKind.i64 0))) none []]
def l64r3 : List AOper :=
  [AOper.mk (some 7) (AOp.mv (Operand.tmp 6)) none [],
                        AOper.mk (some 8) (AOp.mv (Operand.tmp 0)) none [],
                        AOper.mk (some 9) (AOp.len (Operand.tmp 8)) none [1],
                        AOper.mk (some 10) (AOp.bin BinOp.lss (Operand.tmp 7) (Operand.tmp 9)) none [0, 2]]
def l64r4a : List AOper :=
  [AOper.mk (some 13) (AOp.mv (Operand.tmp 5)) none [], AOper.mk (some 14) (AOp.mv (Operand.tmp 0)) none [], AOper.mk (some 15) (AOp.mv (Operand.tmp 6)) none [], AOper.mk (some 16) (AOp.idxA 1 (Operand.tmp 14) (Operand.tmp 15)) none [1, 2], AOper.mk (some 17) (AOp.load false 1 (Operand.tmp 16)) none [3], AOper.mk (some 18) (AOp.bin BinOp.mul (Operand.tmp 13) (Operand.tmp 17)) none [0, 4], AOper.mk (some 19) (AOp.mv (Operand.tmp 1)) none [], AOper.mk (some 20) (AOp.mv (Operand.tmp 6)) none [], AOper.mk (some 21) (AOp.idxA 1 (Operand.tmp 19) (Operand.tmp 20)) none [6, 7], AOper.mk (some 22) (AOp.load false 1 (Operand.tmp 21)) none [8]]
def l64r4b : List AOper :=
  [AOper.mk (some 23) (AOp.bin BinOp.add (Operand.tmp 18) (Operand.tmp 22)) none [5, 9], AOper.mk (some 5) (AOp.mv (Operand.tmp 23)) none [10, 0, 1, 2, 3, 4, 5, 6, 7, 8, 9, 10]]
def l64r4 : List AOper := l64r4a ++ l64r4b
def l64r5 : List AOper :=
  [AOper.mk (some 11) (AOp.mv (Operand.tmp 6)) none [],
                        AOper.mk (some 12)
                          (AOp.bin BinOp.add (Operand.tmp 11) (Operand.const (Value.int IntKind.i64 1)))
                          none [0],
                        AOper.mk (some 6) (AOp.mv (Operand.tmp 12)) none [1, 0, 1]]
def l64r6 : List AOper :=
  [AOper.mk (some 24) (AOp.mv (Operand.tmp 5)) none [],
                AOper.mk (some 4) (AOp.mv (Operand.tmp 24)) none [0, 0]]
def l64 : AFn :=
  (AFn.mk 25 2
    (ACode.seq (ACode.reg l64r0)
      (ACode.seq (ACode.reg l64r1)
        (ACode.seq
          (ACode.seq
            (ACode.reg l64r2)
            (ACode.block 0
              (ACode.loop
                (ACode.seq
                  (ACode.seq
                    (ACode.reg l64r3)
                    (ACode.cond (Operand.tmp 10) ACode.skip (ACode.exit 0)))
                  (ACode.seq
                    (ACode.block 1
                      (ACode.draw l64r4))
                    (ACode.reg l64r5))))))
          (ACode.seq
            (ACode.reg l64r6)
            ACode.ret))))
    [ARes.tmp 4])
theorem l64_eq : lowFn Try.prog 64 = some l64 := by kernel_rfl
def l70r0 : List AOper :=
  [AOper.mk (some 2) (AOp.mv (Operand.const (Value.slice none 0 0))) none []]
def l70r1 : List AOper :=
  [AOper.mk (some 6) (AOp.bslice 1 [Value.int IntKind.i64 0] [] 0) none [],
            AOper.mk (some 3) (AOp.mv (Operand.tmp 6)) none [0, 0]]
def l70r2 : List AOper :=
  [AOper.mk (some 7) (AOp.mv (Operand.tmp 0)) none [],
                AOper.mk (some 8)
                  (AOp.bslice 1 [Value.int IntKind.i64 0]
                    [(0, Operand.const (Value.int IntKind.i64 2)),
                      (1, Operand.const (Value.int IntKind.i64 1)),
                      (2, Operand.const (Value.int IntKind.i64 3)),
                      (3, Operand.const (Value.int IntKind.i64 2)),
                      (4, Operand.const (Value.int IntKind.i64 0)),
                      (5, Operand.const (Value.int IntKind.i64 4))]
                    6)
                  none [],
                AOper.mk (some 9) (AOp.call 42 [Operand.tmp 7, Operand.tmp 8]) none [0, 1],
                AOper.mk (some 4) (AOp.mv (Operand.tmp 9)) none [2, 2, 0, 1, 2]]
def l70r3 : List AOper :=
  [AOper.mk (some 10) (AOp.mv (Operand.tmp 4)) none [],
                        AOper.mk (some 11)
                          (AOp.bin BinOp.gtr (Operand.tmp 10) (Operand.const (Value.int IntKind.i64 0)))
                          none [0]]
def l70r4 : List AOper :=
  [AOper.mk (some 14) (AOp.mv (Operand.tmp 0)) none [],
                            AOper.mk (some 15)
                              (AOp.bslice 1 [Value.int IntKind.i64 0]
                                [(0, Operand.const (Value.int IntKind.i64 2)),
                                  (1, Operand.const (Value.int IntKind.i64 3)),
                                  (2, Operand.const (Value.int IntKind.i64 1)),
                                  (3, Operand.const (Value.int IntKind.i64 4)),
                                  (4, Operand.const (Value.int IntKind.i64 2)),
                                  (5, Operand.const (Value.int IntKind.i64 3)),
                                  (6, Operand.const (Value.int IntKind.i64 5)),
                                  (7, Operand.const (Value.int IntKind.i64 0))]
                                8)
                              none [],
                            AOper.mk (some 16) (AOp.call 42 [Operand.tmp 14, Operand.tmp 15]) none [0, 1],
                            AOper.mk (some 5) (AOp.mv (Operand.tmp 16)) none [2, 2, 0, 1, 2]]
def l70r5 : List AOper :=
  [AOper.mk (some 17) (AOp.mv (Operand.tmp 3)) none [],
                              AOper.mk (some 18) (AOp.call 56 [Operand.tmp 17]) none [0],
                              AOper.mk (some 19) (AOp.mv (Operand.tmp 5)) none [],
                              AOper.mk (some 20) (AOp.bin BinOp.mul (Operand.tmp 18) (Operand.tmp 19)) none [1, 2],
                              AOper.mk (some 21)
                                (AOp.bin BinOp.leq (Operand.tmp 20)
                                  (Operand.const (Value.int IntKind.i64 60)))
                                none [3]]
def l70r6 : List AOper :=
  [AOper.mk (some 22) (AOp.mv (Operand.tmp 3)) none [],
                                AOper.mk (some 23) (AOp.mv (Operand.tmp 5)) none [],
                                AOper.mk (some 24)
                                  (AOp.bslice 1 [Value.int IntKind.i64 0] [(0, Operand.tmp 23)] 1) none [1],
                                AOper.mk (some 25) (AOp.append 1 (Operand.tmp 22) (Operand.tmp 24)) none [0, 2],
                                AOper.mk (some 3) (AOp.mv (Operand.tmp 25)) none [3, 3, 0, 1, 2, 3]]
def l70r7 : List AOper :=
  [AOper.mk (some 12) (AOp.mv (Operand.tmp 4)) none [],
                        AOper.mk (some 13)
                          (AOp.bin BinOp.sub (Operand.tmp 12) (Operand.const (Value.int IntKind.i64 1)))
                          none [0],
                        AOper.mk (some 4) (AOp.mv (Operand.tmp 13)) none [1, 0, 1]]
def l70r8 : List AOper :=
  [AOper.mk (some 26) (AOp.mv (Operand.tmp 3)) none [],
                AOper.mk (some 2) (AOp.mv (Operand.tmp 26)) none [0, 0]]
def l70 : AFn :=
  (AFn.mk 27 1
    (ACode.seq (ACode.reg l70r0)
      (ACode.seq
        (ACode.reg l70r1)
        (ACode.seq
          (ACode.seq
            (ACode.reg l70r2)
            (ACode.block 0
              (ACode.loop
                (ACode.seq
                  (ACode.seq
                    (ACode.reg l70r3)
                    (ACode.cond (Operand.tmp 11) ACode.skip (ACode.exit 0)))
                  (ACode.seq
                    (ACode.block 1
                      (ACode.seq
                        (ACode.reg l70r4)
                        (ACode.seq
                          (ACode.reg l70r5)
                          (ACode.cond (Operand.tmp 21)
                            (ACode.reg l70r6)
                            ACode.skip))))
                    (ACode.reg l70r7))))))
          (ACode.seq
            (ACode.reg l70r8)
            ACode.ret))))
    [ARes.tmp 2])
theorem l70_eq : lowFn Try.prog 70 = some l70 := by kernel_rfl
def l71r0 : List AOper :=
  [AOper.mk (some 6) (AOp.mv (Operand.const (Value.bool false))) none []]
def l71r1 : List AOper :=
  [AOper.mk (some 7) (AOp.mv (Operand.const (Value.int IntKind.i64 0))) none []]
def l71r2 : List AOper :=
  [AOper.mk (some 8) (AOp.mv (Operand.tmp 7)) none [],
                      AOper.mk (some 9) (AOp.mv (Operand.tmp 0)) none [],
                      AOper.mk (some 10) (AOp.len (Operand.tmp 9)) none [1],
                      AOper.mk (some 11) (AOp.bin BinOp.lss (Operand.tmp 8) (Operand.tmp 10)) none [0, 2]]
def l71r3 : List AOper :=
  [AOper.mk (some 14) (AOp.mv (Operand.tmp 0)) none [],
                          AOper.mk (some 15) (AOp.mv (Operand.tmp 7)) none [],
                          AOper.mk (some 16) (AOp.idxA 1 (Operand.tmp 14) (Operand.tmp 15)) none [0, 1],
                          AOper.mk (some 17) (AOp.load false 1 (Operand.tmp 16)) none [2],
                          AOper.mk (some 18) (AOp.mv (Operand.tmp 1)) none [],
                          AOper.mk (some 19) (AOp.mv (Operand.tmp 2)) none [],
                          AOper.mk (some 20) (AOp.call 47 [Operand.tmp 17, Operand.tmp 18, Operand.tmp 19]) none
                            [3, 4, 5],
                          AOper.mk (some 21) (AOp.un UnOp.not (Operand.tmp 20)) none [6]]
def l71r4 : List AOper :=
  [AOper.mk (some 6) (AOp.mv (Operand.const (Value.bool false))) none []]
def l71r5 : List AOper :=
  [AOper.mk (some 12) (AOp.mv (Operand.tmp 7)) none [],
                      AOper.mk (some 13)
                        (AOp.bin BinOp.add (Operand.tmp 12) (Operand.const (Value.int IntKind.i64 1))) none
                        [0],
                      AOper.mk (some 7) (AOp.mv (Operand.tmp 13)) none [1, 0, 1]]
def l71r6 : List AOper :=
  [AOper.mk (some 6) (AOp.mv (Operand.const (Value.bool true))) none []]
def l71 : AFn :=
  (AFn.mk 22 3
    (ACode.seq (ACode.reg l71r0)
      (ACode.seq
        (ACode.seq
          (ACode.reg l71r1)
          (ACode.block 0
            (ACode.loop
              (ACode.seq
                (ACode.seq
                  (ACode.reg l71r2)
                  (ACode.cond (Operand.tmp 11) ACode.skip (ACode.exit 0)))
                (ACode.seq
                  (ACode.block 1
                    (ACode.seq
                      (ACode.reg l71r3)
                      (ACode.cond (Operand.tmp 21)
                        (ACode.seq (ACode.reg l71r4)
                          ACode.ret)
                        ACode.skip)))
                  (ACode.reg l71r5))))))
        (ACode.seq (ACode.reg l71r6) ACode.ret)))
    [ARes.tmp 6])
theorem l71_eq : lowFn Try.prog 71 = some l71 := by kernel_rfl
end Go.Proofs.Ytjhamlapjiadaaa
