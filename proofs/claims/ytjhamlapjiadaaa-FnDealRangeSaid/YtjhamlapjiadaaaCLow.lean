import Derived.Test.YtjhamlapjiadaaaCVwR
import Derived.Test.YtjhamlapjiadaaaProg
import Derived.KernelRfl
set_option maxRecDepth 100000
namespace Go.Proofs.Ytjhamlapjiadaaa
open Vw Go
def l3r0 : List AOper :=
  [AOper.mk (some 2) (AOp.mv (Operand.const (Value.bool false))) none []]
def l3r1 : List AOper :=
  [AOper.mk (some 12) (AOp.mv (Operand.tmp 0)) none [],
              AOper.mk (some 13) (AOp.len (Operand.tmp 12)) none [0],
              AOper.mk (some 14)
                (AOp.bin BinOp.gtr (Operand.tmp 13) (Operand.const (Value.int IntKind.i64 1048576))) none
                [1]]
def l3r2 : List AOper :=
  [AOper.mk (some 2) (AOp.mv (Operand.const (Value.bool true))) none []]
def l3r3 : List AOper :=
  [AOper.mk (some 16) (AOp.mv (Operand.tmp 0)) none [],
              AOper.mk (some 17) (AOp.call 10 [Operand.tmp 16]) none [0],
              AOper.mk (some 15) (AOp.mv (Operand.tmp 17)) none [1],
              AOper.mk (some 18) (AOp.extract (Operand.tmp 15) 0) none [2],
              AOper.mk (some 19) (AOp.extract (Operand.tmp 15) 1) none [2],
              AOper.mk (some 3)
                (AOp.alloc
                  [Value.int IntKind.i64 0, Value.int IntKind.i64 0,
                    Value.int IntKind.i64 0])
                none [],
              AOper.mk none (AOp.store 3 (Operand.tmp 3) (Operand.tmp 18)) none [5, 3, 1, 0, 1, 2, 3, 5],
              AOper.mk (some 4) (AOp.mv (Operand.tmp 19)) none [4, 6, 0, 1, 2, 3, 4, 5, 6]]
def l3r4 : List AOper :=
  [AOper.mk (some 20) (AOp.load true 3 (Operand.tmp 3)) none [],
                AOper.mk (some 21) (AOp.mv (Operand.tmp 4)) none [],
                AOper.mk (some 22) (AOp.call 11 [Operand.tmp 20, Operand.tmp 21]) none [0, 1],
                AOper.mk (some 5) (AOp.mv (Operand.tmp 22)) none [2, 2, 0, 1, 2]]
def l3r5 : List AOper :=
  [AOper.mk (some 23) (AOp.mv (Operand.tmp 5)) none [],
                    AOper.mk (some 24) (AOp.load true 3 (Operand.tmp 3)) none [],
                    AOper.mk (some 25) (AOp.mv (Operand.tmp 4)) none [],
                    AOper.mk (some 26) (AOp.call 13 [Operand.tmp 24, Operand.tmp 25]) none [1, 2],
                    AOper.mk (some 27) (AOp.call 12 [Operand.tmp 23, Operand.tmp 26]) none [0, 3, 3],
                    AOper.mk (some 28) (AOp.un UnOp.not (Operand.tmp 27)) none [4],
                    AOper.mk (some 29) (AOp.mv (Operand.tmp 28)) none [5, 4],
                    AOper.mk (some 30) (AOp.mv (Operand.tmp 5)) (some (29, false)) [6],
                    AOper.mk (some 31) (AOp.len (Operand.tmp 30)) (some (29, false)) [7, 6],
                    AOper.mk (some 32)
                      (AOp.bin BinOp.eql (Operand.tmp 31) (Operand.const (Value.int IntKind.i64 0)))
                      (some (29, false)) [8, 6],
                    AOper.mk (some 33) (AOp.pick (Operand.tmp 29) (Operand.const (Value.bool true)) (Operand.tmp 32))
                      none [6, 9]]
def l3r6 : List AOper :=
  [AOper.mk (some 34) (AOp.mv (Operand.tmp 5)) none [],
                        AOper.mk (some 35) (AOp.load true 3 (Operand.tmp 3)) none [],
                        AOper.mk (some 36) (AOp.mv (Operand.tmp 4)) none [],
                        AOper.mk (some 37) (AOp.call 13 [Operand.tmp 35, Operand.tmp 36]) none [1, 2],
                        AOper.mk (some 38) (AOp.call 12 [Operand.tmp 34, Operand.tmp 37]) none [0, 3, 3],
                        AOper.mk (some 2) (AOp.mv (Operand.tmp 38)) none [4, 4, 0, 1, 2, 3, 4]]
def l3r7 : List AOper :=
  [AOper.mk (some 39) (AOp.load true 3 (Operand.tmp 3)) none [],
                    AOper.mk (some 40) (AOp.call 14 [Operand.tmp 39]) none [0],
                    AOper.mk (some 6) (AOp.mv (Operand.tmp 40)) none [1, 1, 0, 1]]
def l3r8 : List AOper :=
  [AOper.mk (some 7) (AOp.mv (Operand.const (Value.int IntKind.i64 0))) none []]
def l3r9 : List AOper :=
  [AOper.mk (some 8) (AOp.mv (Operand.const (Value.int IntKind.i64 0))) none []]
def l3r10 : List AOper :=
  [AOper.mk (some 41) (AOp.mv (Operand.tmp 8)) none [],
                                  AOper.mk (some 42) (AOp.mv (Operand.tmp 6)) none [],
                                  AOper.mk (some 43) (AOp.len (Operand.tmp 42)) none [1],
                                  AOper.mk (some 44) (AOp.bin BinOp.lss (Operand.tmp 41) (Operand.tmp 43)) none [0, 2]]
def l3r11a : List AOper :=
  [AOper.mk (some 48) (AOp.mv (Operand.tmp 5)) none [], AOper.mk (some 49) (AOp.mv (Operand.tmp 8)) none [], AOper.mk (some 50) (AOp.mv (Operand.tmp 4)) none [], AOper.mk (some 51) (AOp.bin BinOp.rem (Operand.tmp 49) (Operand.tmp 50)) none
                                        [1, 2], AOper.mk (some 52) (AOp.idxA 3 (Operand.tmp 48) (Operand.tmp 51)) none [0, 3], AOper.mk (some 53) (AOp.load true 3 (Operand.tmp 52)) none [4], AOper.mk (some 54) (AOp.mv (Operand.tmp 8)) none [], AOper.mk (some 55) (AOp.mv (Operand.tmp 4)) none [], AOper.mk (some 56) (AOp.bin BinOp.quo (Operand.tmp 54) (Operand.tmp 55)) none
                                        [6, 7], AOper.mk (some 57) (AOp.call 15 [Operand.tmp 53, Operand.tmp 56]) none [5, 8], AOper.mk (some 47) (AOp.mv (Operand.tmp 57)) none [9], AOper.mk (some 58) (AOp.extract (Operand.tmp 47) 0) none [10], AOper.mk (some 59) (AOp.extract (Operand.tmp 47) 1) none [10], AOper.mk (some 9) (AOp.mv (Operand.tmp 58)) none
                                        [11, 9, 0, 1, 2, 3, 4, 5, 6, 7, 8, 9, 10, 11]]
def l3r11b : List AOper :=
  [AOper.mk (some 10) (AOp.mv (Operand.tmp 59)) none
                                        [12, 13, 0, 1, 2, 3, 4, 5, 6, 7, 8, 9, 10, 11, 12, 13]]
def l3r11 : List AOper := l3r11a ++ l3r11b
def l3r12 : List AOper :=
  [AOper.mk (some 60) (AOp.mv (Operand.tmp 10)) none [],
                                        AOper.mk (some 61) (AOp.un UnOp.not (Operand.tmp 60)) none [0],
                                        AOper.mk (some 62) (AOp.mv (Operand.tmp 61)) none [1],
                                        AOper.mk (some 63) (AOp.mv (Operand.tmp 9)) (some (62, false)) [2],
                                        AOper.mk (some 64) (AOp.mv (Operand.tmp 6)) (some (62, false)) [2],
                                        AOper.mk (some 65) (AOp.mv (Operand.tmp 8)) (some (62, false)) [2],
                                        AOper.mk (some 66) (AOp.idxA 1 (Operand.tmp 64) (Operand.tmp 65))
                                          (some (62, false)) [4, 5, 2],
                                        AOper.mk (some 67) (AOp.load false 1 (Operand.tmp 66)) (some (62, false))
                                          [6, 2],
                                        AOper.mk (some 68) (AOp.bin BinOp.neq (Operand.tmp 63) (Operand.tmp 67))
                                          (some (62, false)) [3, 7, 2],
                                        AOper.mk (some 69)
                                          (AOp.pick (Operand.tmp 62) (Operand.const (Value.bool true)) (Operand.tmp 68))
                                          none [2, 8]]
def l3r13 : List AOper :=
  [AOper.mk (some 2) (AOp.mv (Operand.const (Value.bool false))) none []]
def l3r14 : List AOper :=
  [AOper.mk (some 45) (AOp.mv (Operand.tmp 8)) none [],
                                  AOper.mk (some 46)
                                    (AOp.bin BinOp.add (Operand.tmp 45)
                                      (Operand.const (Value.int IntKind.i64 1)))
                                    none [0],
                                  AOper.mk (some 8) (AOp.mv (Operand.tmp 46)) none [1, 0, 1]]
def l3r15 : List AOper :=
  [AOper.mk (some 11) (AOp.mv (Operand.const (Value.int IntKind.i64 0))) none []]
def l3r16 : List AOper :=
  [AOper.mk (some 70) (AOp.mv (Operand.tmp 11)) none [],
                                    AOper.mk (some 71) (AOp.mv (Operand.tmp 5)) none [],
                                    AOper.mk (some 72) (AOp.len (Operand.tmp 71)) none [1],
                                    AOper.mk (some 73) (AOp.bin BinOp.lss (Operand.tmp 70) (Operand.tmp 72)) none
                                      [0, 2]]
def l3r17 : List AOper :=
  [AOper.mk (some 76) (AOp.mv (Operand.tmp 7)) none [],
                                      AOper.mk (some 77) (AOp.mv (Operand.tmp 5)) none [],
                                      AOper.mk (some 78) (AOp.mv (Operand.tmp 11)) none [],
                                      AOper.mk (some 79) (AOp.idxA 3 (Operand.tmp 77) (Operand.tmp 78)) none [1, 2],
                                      AOper.mk (some 80) (AOp.load true 3 (Operand.tmp 79)) none [3],
                                      AOper.mk (some 81) (AOp.call 16 [Operand.tmp 80]) none [4],
                                      AOper.mk (some 82) (AOp.bin BinOp.add (Operand.tmp 76) (Operand.tmp 81)) none
                                        [0, 5],
                                      AOper.mk (some 7) (AOp.mv (Operand.tmp 82)) none [6, 5, 0, 1, 2, 3, 4, 5, 6]]
def l3r18 : List AOper :=
  [AOper.mk (some 74) (AOp.mv (Operand.tmp 11)) none [],
                                    AOper.mk (some 75)
                                      (AOp.bin BinOp.add (Operand.tmp 74)
                                        (Operand.const (Value.int IntKind.i64 1)))
                                      none [0],
                                    AOper.mk (some 11) (AOp.mv (Operand.tmp 75)) none [1, 0, 1]]
def l3r19 : List AOper :=
  [AOper.mk (some 83) (AOp.mv (Operand.tmp 7)) none [],
                            AOper.mk (some 84) (AOp.mv (Operand.tmp 6)) none [],
                            AOper.mk (some 85) (AOp.len (Operand.tmp 84)) none [1],
                            AOper.mk (some 86) (AOp.bin BinOp.eql (Operand.tmp 83) (Operand.tmp 85)) none [0, 2],
                            AOper.mk (some 87) (AOp.mv (Operand.tmp 86)) none [3],
                            AOper.mk (some 88) (AOp.mv (Operand.tmp 5)) (some (87, true)) [4],
                            AOper.mk (some 89) (AOp.len (Operand.tmp 88)) (some (87, true)) [5, 4],
                            AOper.mk (some 90) (AOp.mv (Operand.tmp 4)) (some (87, true)) [4],
                            AOper.mk (some 91) (AOp.bin BinOp.eql (Operand.tmp 89) (Operand.tmp 90)) (some (87, true))
                              [6, 7, 4],
                            AOper.mk (some 92)
                              (AOp.pick (Operand.tmp 87) (Operand.tmp 91) (Operand.const (Value.bool false))) none
                              [4, 8],
                            AOper.mk (some 2) (AOp.mv (Operand.tmp 92)) none [9, 4, 0, 1, 2, 3, 4, 5, 6, 7, 8, 9]]
def l3 : AFn :=
  (AFn.mk 93 1
    (ACode.seq (ACode.reg l3r0)
      (ACode.seq
        (ACode.seq
          (ACode.reg l3r1)
          (ACode.cond (Operand.tmp 14)
            (ACode.seq (ACode.reg l3r2) ACode.ret)
            ACode.skip))
        (ACode.seq
          (ACode.reg l3r3)
          (ACode.seq
            (ACode.reg l3r4)
            (ACode.seq
              (ACode.seq
                (ACode.reg l3r5)
                (ACode.cond (Operand.tmp 33)
                  (ACode.seq
                    (ACode.reg l3r6)
                    ACode.ret)
                  ACode.skip))
              (ACode.seq
                (ACode.reg l3r7)
                (ACode.seq
                  (ACode.reg l3r8)
                  (ACode.seq
                    (ACode.seq
                      (ACode.reg l3r9)
                      (ACode.block 0
                        (ACode.loop
                          (ACode.seq
                            (ACode.seq
                              (ACode.reg l3r10)
                              (ACode.cond (Operand.tmp 44) ACode.skip (ACode.exit 0)))
                            (ACode.seq
                              (ACode.block 1
                                (ACode.seq
                                  (ACode.draw l3r11)
                                  (ACode.seq
                                    (ACode.reg l3r12)
                                    (ACode.cond (Operand.tmp 69)
                                      (ACode.seq
                                        (ACode.reg l3r13)
                                        ACode.ret)
                                      ACode.skip))))
                              (ACode.reg l3r14))))))
                    (ACode.seq
                      (ACode.seq
                        (ACode.reg l3r15)
                        (ACode.block 2
                          (ACode.loop
                            (ACode.seq
                              (ACode.seq
                                (ACode.reg l3r16)
                                (ACode.cond (Operand.tmp 73) ACode.skip (ACode.exit 2)))
                              (ACode.seq
                                (ACode.block 3
                                  (ACode.reg l3r17))
                                (ACode.reg l3r18))))))
                      (ACode.seq
                        (ACode.reg l3r19)
                        ACode.ret))))))))))
    [ARes.tmp 2])
theorem l3_eq : lowFn Try.prog 3 = some l3 := by kernel_rfl
def l10r0 : List AOper :=
  [AOper.mk (some 2)
            (AOp.alloc
              [Value.int IntKind.i64 0, Value.int IntKind.i64 0,
                Value.int IntKind.i64 0])
            none [],
          AOper.mk (some 3) (AOp.mv (Operand.const (Value.int IntKind.i64 0))) none []]
def l10r1 : List AOper :=
  [AOper.mk (some 5) (AOp.mv (Operand.tmp 0)) none [], AOper.mk (some 6) (AOp.call 40 [Operand.tmp 5]) none [0],
            AOper.mk (some 4) (AOp.mv (Operand.tmp 6)) none [1, 1, 0, 1]]
def l10r2 : List AOper :=
  [AOper.mk (some 7) (AOp.mv (Operand.tmp 4)) none [],
              AOper.mk (some 8) (AOp.call 41 [Operand.tmp 7]) none [0],
              AOper.mk (some 9) (AOp.mv (Operand.tmp 4)) none [],
              AOper.mk (some 10)
                (AOp.bslice 1 [Value.int IntKind.i64 0]
                  [(0, Operand.const (Value.int IntKind.i64 2)),
                    (1, Operand.const (Value.int IntKind.i64 3)),
                    (2, Operand.const (Value.int IntKind.i64 1)),
                    (3, Operand.const (Value.int IntKind.i64 4)),
                    (4, Operand.const (Value.int IntKind.i64 6)),
                    (5, Operand.const (Value.int IntKind.i64 7)),
                    (6, Operand.const (Value.int IntKind.i64 0))]
                  7)
                none [],
              AOper.mk (some 11) (AOp.call 42 [Operand.tmp 9, Operand.tmp 10]) none [2, 3, 1],
              AOper.mk none (AOp.store 3 (Operand.tmp 2) (Operand.tmp 8)) none [1, 4, 0, 1],
              AOper.mk (some 3) (AOp.mv (Operand.tmp 11)) none [4, 5, 0, 1, 2, 3, 4, 5]]
def l10 : AFn :=
  (AFn.mk 12 1
    (ACode.seq
      (ACode.reg l10r0)
      (ACode.seq
        (ACode.reg l10r1)
        (ACode.seq
          (ACode.reg l10r2)
          ACode.ret)))
    [ARes.cell 2 true 3, ARes.tmp 3])
theorem l10_eq : lowFn Try.prog 10 = some l10 := by kernel_rfl
def l11r0 : List AOper :=
  [AOper.mk (some 2) (AOp.box (Operand.tmp 0)) none [],
          AOper.mk (some 4) (AOp.mv (Operand.const (Value.slice none 0 0))) none []]
def l11r1 : List AOper :=
  [AOper.mk (some 7) (AOp.load true 3 (Operand.tmp 2)) none [],
              AOper.mk (some 8) (AOp.call 43 [Operand.tmp 7]) none [0],
              AOper.mk (some 9) (AOp.un UnOp.not (Operand.tmp 8)) none [1],
              AOper.mk (some 10) (AOp.mv (Operand.tmp 9)) none [2, 1],
              AOper.mk (some 11) (AOp.mv (Operand.tmp 1)) (some (10, false)) [3],
              AOper.mk (some 12)
                (AOp.bin BinOp.lss (Operand.tmp 11) (Operand.const (Value.int IntKind.i64 1)))
                (some (10, false)) [4, 3],
              AOper.mk (some 13) (AOp.pick (Operand.tmp 10) (Operand.const (Value.bool true)) (Operand.tmp 12)) none
                [3, 5],
              AOper.mk (some 14) (AOp.mv (Operand.tmp 13)) none [6, 3],
              AOper.mk (some 15) (AOp.mv (Operand.tmp 1)) (some (14, false)) [7],
              AOper.mk (some 16)
                (AOp.bin BinOp.gtr (Operand.tmp 15) (Operand.const (Value.int IntKind.i64 6)))
                (some (14, false)) [8, 7],
              AOper.mk (some 17) (AOp.pick (Operand.tmp 14) (Operand.const (Value.bool true)) (Operand.tmp 16)) none
                [7, 9]]
def l11r2 : List AOper :=
  [AOper.mk (some 4) (AOp.mv (Operand.const (Value.slice none 0 0))) none []]
def l11r3 : List AOper :=
  [AOper.mk (some 18) (AOp.mv (Operand.tmp 1)) none [],
              AOper.mk (some 19)
                (AOp.mkslice 3
                  [Value.int IntKind.i64 0, Value.int IntKind.i64 0,
                    Value.int IntKind.i64 0]
                  (Operand.tmp 18) (Operand.tmp 18))
                none [0, 0],
              AOper.mk (some 5) (AOp.mv (Operand.tmp 19)) none [1, 0, 1]]
def l11r4 : List AOper :=
  [AOper.mk (some 20) (AOp.mv (Operand.tmp 5)) none [],
                  AOper.mk (some 21) (AOp.len (Operand.tmp 20)) none [0],
                  AOper.mk (some 22) (AOp.mv (Operand.const (Value.int IntKind.i64 0))) none []]
def l11r5 : List AOper :=
  [AOper.mk (some 23) (AOp.bin BinOp.lss (Operand.tmp 22) (Operand.tmp 21)) none []]
def l11r6 : List AOper :=
  [AOper.mk (some 24) (AOp.mv (Operand.tmp 22)) none [],
                                AOper.mk (some 6) (AOp.mv (Operand.tmp 24)) none [0, 0]]
def l11r7a : List AOper :=
  [AOper.mk (some 25) (AOp.mv (Operand.tmp 5)) none [], AOper.mk (some 26) (AOp.mv (Operand.tmp 6)) none [], AOper.mk (some 27) (AOp.load true 3 (Operand.tmp 2)) none [], AOper.mk (some 28) (AOp.mv (Operand.tmp 6)) none [], AOper.mk (some 29) (AOp.load true 3 (Operand.tmp 2)) none [], AOper.mk (some 30) (AOp.call 45 [Operand.tmp 29]) none [4], AOper.mk (some 31) (AOp.mv (Operand.tmp 1)) none [], AOper.mk (some 32)
                                  (AOp.build
                                    [Value.int IntKind.i64 0, Value.int IntKind.i64 0,
                                      Value.int IntKind.i64 0]
                                    [(0, 1, Operand.tmp 28), (1, 1, Operand.tmp 30), (2, 1, Operand.tmp 31)])
                                  none [3, 5, 6], AOper.mk (some 33) (AOp.call 44 [Operand.tmp 27, Operand.tmp 32]) none [2, 7, 5]]
def l11r7b : List AOper :=
  [AOper.mk (some 34) (AOp.idxA 3 (Operand.tmp 25) (Operand.tmp 26)) none
                                  [0, 1, 0, 1, 2, 3, 4, 5, 6, 7, 8], AOper.mk none (AOp.store 3 (Operand.tmp 34) (Operand.tmp 33)) none
                                  [9, 8, 8, 0, 1, 2, 3, 4, 5, 6, 7, 8]]
def l11r7 : List AOper := l11r7a ++ l11r7b
def l11r8 : List AOper :=
  [AOper.mk (some 35)
                              (AOp.bin BinOp.add (Operand.tmp 22) (Operand.const (Value.int IntKind.i64 1)))
                              none [],
                            AOper.mk (some 22) (AOp.mv (Operand.tmp 35)) none [0]]
def l11r9 : List AOper :=
  [AOper.mk (some 36) (AOp.mv (Operand.tmp 5)) none [],
                  AOper.mk (some 4) (AOp.mv (Operand.tmp 36)) none [0, 0]]
def l11 : AFn :=
  (AFn.mk 37 2
    (ACode.seq
      (ACode.reg l11r0)
      (ACode.seq
        (ACode.seq
          (ACode.reg l11r1)
          (ACode.cond (Operand.tmp 17)
            (ACode.seq (ACode.reg l11r2)
              ACode.ret)
            ACode.skip))
        (ACode.seq
          (ACode.reg l11r3)
          (ACode.seq
            (ACode.seq
              (ACode.reg l11r4)
              (ACode.block 0
                (ACode.loop
                  (ACode.seq
                    (ACode.reg l11r5)
                    (ACode.seq (ACode.cond (Operand.tmp 23) ACode.skip (ACode.exit 0))
                      (ACode.seq
                        (ACode.block 1
                          (ACode.seq
                            (ACode.reg l11r6)
                            (ACode.draw l11r7)))
                        (ACode.reg l11r8)))))))
            (ACode.seq
              (ACode.reg l11r9)
              ACode.ret)))))
    [ARes.tmp 4])
theorem l11_eq : lowFn Try.prog 11 = some l11 := by kernel_rfl
def l12r0 : List AOper :=
  [AOper.mk (some 4) (AOp.mv (Operand.const (Value.bool false))) none []]
def l12r1 : List AOper :=
  [AOper.mk (some 6) (AOp.mv (Operand.tmp 0)) none [], AOper.mk (some 7) (AOp.len (Operand.tmp 6)) none [0],
              AOper.mk (some 8) (AOp.mv (Operand.tmp 1)) none [], AOper.mk (some 9) (AOp.len (Operand.tmp 8)) none [2],
              AOper.mk (some 10) (AOp.bin BinOp.neq (Operand.tmp 7) (Operand.tmp 9)) none [1, 3]]
def l12r2 : List AOper :=
  [AOper.mk (some 4) (AOp.mv (Operand.const (Value.bool false))) none []]
def l12r3 : List AOper :=
  [AOper.mk (some 5) (AOp.mv (Operand.const (Value.int IntKind.i64 0))) none []]
def l12r4 : List AOper :=
  [AOper.mk (some 11) (AOp.mv (Operand.tmp 5)) none [],
                        AOper.mk (some 12) (AOp.mv (Operand.tmp 0)) none [],
                        AOper.mk (some 13) (AOp.len (Operand.tmp 12)) none [1],
                        AOper.mk (some 14) (AOp.bin BinOp.lss (Operand.tmp 11) (Operand.tmp 13)) none [0, 2]]
def l12r5a : List AOper :=
  [AOper.mk (some 17) (AOp.mv (Operand.tmp 0)) none [], AOper.mk (some 18) (AOp.mv (Operand.tmp 5)) none [], AOper.mk (some 19) (AOp.idxA 3 (Operand.tmp 17) (Operand.tmp 18)) none [0, 1], AOper.mk (some 20) (AOp.load true 3 (Operand.tmp 19)) none [2], AOper.mk (some 21) (AOp.mv (Operand.tmp 1)) none [], AOper.mk (some 22) (AOp.mv (Operand.tmp 5)) none [], AOper.mk (some 23) (AOp.idxA 3 (Operand.tmp 21) (Operand.tmp 22)) none [4, 5], AOper.mk (some 24) (AOp.load true 3 (Operand.tmp 23)) none [6]]
def l12r5b : List AOper :=
  [AOper.mk (some 25)
                              (AOp.eqS true [(0, some IntKind.i64), (1, some IntKind.i64), (2, some IntKind.i64)]
                                (Operand.tmp 20) (Operand.tmp 24))
                              none [3, 7]]
def l12r5 : List AOper := l12r5a ++ l12r5b
def l12r6 : List AOper :=
  [AOper.mk (some 4) (AOp.mv (Operand.const (Value.bool false))) none []]
def l12r7 : List AOper :=
  [AOper.mk (some 15) (AOp.mv (Operand.tmp 5)) none [],
                        AOper.mk (some 16)
                          (AOp.bin BinOp.add (Operand.tmp 15) (Operand.const (Value.int IntKind.i64 1)))
                          none [0],
                        AOper.mk (some 5) (AOp.mv (Operand.tmp 16)) none [1, 0, 1]]
def l12r8 : List AOper :=
  [AOper.mk (some 4) (AOp.mv (Operand.const (Value.bool true))) none []]
def l12 : AFn :=
  (AFn.mk 26 2
    (ACode.seq (ACode.reg l12r0)
      (ACode.seq
        (ACode.seq
          (ACode.reg l12r1)
          (ACode.cond (Operand.tmp 10)
            (ACode.seq (ACode.reg l12r2) ACode.ret)
            ACode.skip))
        (ACode.seq
          (ACode.seq
            (ACode.reg l12r3)
            (ACode.block 0
              (ACode.loop
                (ACode.seq
                  (ACode.seq
                    (ACode.reg l12r4)
                    (ACode.cond (Operand.tmp 14) ACode.skip (ACode.exit 0)))
                  (ACode.seq
                    (ACode.block 1
                      (ACode.seq
                        (ACode.draw l12r5)
                        (ACode.cond (Operand.tmp 25)
                          (ACode.seq (ACode.reg l12r6)
                            ACode.ret)
                          ACode.skip)))
                    (ACode.reg l12r7))))))
          (ACode.seq (ACode.reg l12r8) ACode.ret))))
    [ARes.tmp 4])
theorem l12_eq : lowFn Try.prog 12 = some l12 := by kernel_rfl
def l13r0 : List AOper :=
  [AOper.mk (some 2) (AOp.box (Operand.tmp 0)) none [],
          AOper.mk (some 4) (AOp.mv (Operand.const (Value.slice none 0 0))) none []]
def l13r1 : List AOper :=
  [AOper.mk (some 10) (AOp.load true 3 (Operand.tmp 2)) none [],
              AOper.mk (some 11) (AOp.call 46 [Operand.tmp 10]) none [0],
              AOper.mk (some 12) (AOp.un UnOp.not (Operand.tmp 11)) none [1],
              AOper.mk (some 13) (AOp.mv (Operand.tmp 12)) none [2, 1],
              AOper.mk (some 14) (AOp.mv (Operand.tmp 1)) (some (13, false)) [3],
              AOper.mk (some 15)
                (AOp.call 47
                  [Operand.tmp 14, Operand.const (Value.int IntKind.i64 1),
                    Operand.const (Value.int IntKind.i64 6)])
                (some (13, false)) [4, 3, 3],
              AOper.mk (some 16) (AOp.un UnOp.not (Operand.tmp 15)) (some (13, false)) [5, 3],
              AOper.mk (some 17) (AOp.pick (Operand.tmp 13) (Operand.const (Value.bool true)) (Operand.tmp 16)) none
                [3, 6]]
def l13r2 : List AOper :=
  [AOper.mk (some 4) (AOp.mv (Operand.const (Value.slice none 0 0))) none []]
def l13r3 : List AOper :=
  [AOper.mk (some 18)
                (AOp.bslice 3
                  [Value.int IntKind.i64 0, Value.int IntKind.i64 0,
                    Value.int IntKind.i64 0]
                  [] 0)
                none [],
              AOper.mk (some 5) (AOp.mv (Operand.tmp 18)) none [0, 0]]
def l13r4 : List AOper :=
  [AOper.mk (some 19) (AOp.load true 3 (Operand.tmp 2)) none [],
                AOper.mk (some 20) (AOp.call 48 [Operand.tmp 19]) none [0],
                AOper.mk (some 6) (AOp.mv (Operand.tmp 20)) none [1, 1, 0, 1]]
def l13r5 : List AOper :=
  [AOper.mk (some 7) (AOp.mv (Operand.const (Value.int IntKind.i64 0))) none []]
def l13r6 : List AOper :=
  [AOper.mk (some 21) (AOp.mv (Operand.tmp 7)) none [],
                            AOper.mk (some 22) (AOp.mv (Operand.tmp 1)) none [],
                            AOper.mk (some 23) (AOp.bin BinOp.lss (Operand.tmp 21) (Operand.tmp 22)) none [0, 1]]
def l13r7 : List AOper :=
  [AOper.mk (some 26) (AOp.bslice 1 [Value.int IntKind.i64 0] [] 0) none [],
                                AOper.mk (some 8) (AOp.mv (Operand.tmp 26)) none [0, 0]]
def l13r8 : List AOper :=
  [AOper.mk (some 27) (AOp.mv (Operand.tmp 7)) none [],
                                    AOper.mk (some 9) (AOp.mv (Operand.tmp 27)) none [0, 0]]
def l13r9 : List AOper :=
  [AOper.mk (some 28) (AOp.mv (Operand.tmp 9)) none [],
                                            AOper.mk (some 29) (AOp.mv (Operand.tmp 6)) none [],
                                            AOper.mk (some 30) (AOp.len (Operand.tmp 29)) none [1],
                                            AOper.mk (some 31) (AOp.bin BinOp.lss (Operand.tmp 28) (Operand.tmp 30))
                                              none [0, 2]]
def l13r10 : List AOper :=
  [AOper.mk (some 35) (AOp.mv (Operand.tmp 8)) none [],
                                              AOper.mk (some 36) (AOp.mv (Operand.tmp 6)) none [],
                                              AOper.mk (some 37) (AOp.mv (Operand.tmp 9)) none [],
                                              AOper.mk (some 38) (AOp.idxA 1 (Operand.tmp 36) (Operand.tmp 37)) none
                                                [1, 2],
                                              AOper.mk (some 39) (AOp.load false 1 (Operand.tmp 38)) none [3],
                                              AOper.mk (some 40)
                                                (AOp.bslice 1 [Value.int IntKind.i64 0]
                                                  [(0, Operand.tmp 39)] 1)
                                                none [4],
                                              AOper.mk (some 41) (AOp.append 1 (Operand.tmp 35) (Operand.tmp 40)) none
                                                [0, 5],
                                              AOper.mk (some 8) (AOp.mv (Operand.tmp 41)) none
                                                [6, 6, 0, 1, 2, 3, 4, 5, 6]]
def l13r11 : List AOper :=
  [AOper.mk (some 32) (AOp.mv (Operand.tmp 9)) none [],
                                            AOper.mk (some 33) (AOp.mv (Operand.tmp 1)) none [],
                                            AOper.mk (some 34) (AOp.bin BinOp.add (Operand.tmp 32) (Operand.tmp 33))
                                              none [0, 1],
                                            AOper.mk (some 9) (AOp.mv (Operand.tmp 34)) none [2, 0, 1, 2]]
def l13r12 : List AOper :=
  [AOper.mk (some 42) (AOp.mv (Operand.tmp 5)) none [],
                                  AOper.mk (some 43) (AOp.mv (Operand.tmp 8)) none [],
                                  AOper.mk (some 44) (AOp.call 49 [Operand.tmp 43]) none [1],
                                  AOper.mk (some 45)
                                    (AOp.bslice 3
                                      [Value.int IntKind.i64 0, Value.int IntKind.i64 0,
                                        Value.int IntKind.i64 0]
                                      [(0, Operand.tmp 44)] 1)
                                    none [2],
                                  AOper.mk (some 46) (AOp.append 3 (Operand.tmp 42) (Operand.tmp 45)) none [0, 3, 2],
                                  AOper.mk (some 5) (AOp.mv (Operand.tmp 46)) none [4, 4, 0, 1, 2, 3, 4]]
def l13r13 : List AOper :=
  [AOper.mk (some 24) (AOp.mv (Operand.tmp 7)) none [],
                            AOper.mk (some 25)
                              (AOp.bin BinOp.add (Operand.tmp 24) (Operand.const (Value.int IntKind.i64 1)))
                              none [0],
                            AOper.mk (some 7) (AOp.mv (Operand.tmp 25)) none [1, 0, 1]]
def l13r14 : List AOper :=
  [AOper.mk (some 47) (AOp.mv (Operand.tmp 5)) none [],
                    AOper.mk (some 4) (AOp.mv (Operand.tmp 47)) none [0, 0]]
def l13 : AFn :=
  (AFn.mk 48 2
    (ACode.seq
      (ACode.reg l13r0)
      (ACode.seq
        (ACode.seq
          (ACode.reg l13r1)
          (ACode.cond (Operand.tmp 17)
            (ACode.seq (ACode.reg l13r2)
              ACode.ret)
            ACode.skip))
        (ACode.seq
          (ACode.reg l13r3)
          (ACode.seq
            (ACode.reg l13r4)
            (ACode.seq
              (ACode.seq
                (ACode.reg l13r5)
                (ACode.block 0
                  (ACode.loop
                    (ACode.seq
                      (ACode.seq
                        (ACode.reg l13r6)
                        (ACode.cond (Operand.tmp 23) ACode.skip (ACode.exit 0)))
                      (ACode.seq
                        (ACode.block 1
                          (ACode.seq
                            (ACode.reg l13r7)
                            (ACode.seq
                              (ACode.seq
                                (ACode.reg l13r8)
                                (ACode.block 2
                                  (ACode.loop
                                    (ACode.seq
                                      (ACode.seq
                                        (ACode.reg l13r9)
                                        (ACode.cond (Operand.tmp 31) ACode.skip (ACode.exit 2)))
                                      (ACode.seq
                                        (ACode.block 3
                                          (ACode.reg l13r10))
                                        (ACode.reg l13r11))))))
                              (ACode.reg l13r12))))
                        (ACode.reg l13r13))))))
              (ACode.seq
                (ACode.reg l13r14)
                ACode.ret))))))
    [ARes.tmp 4])
theorem l13_eq : lowFn Try.prog 13 = some l13 := by kernel_rfl
def l14r0 : List AOper :=
  [AOper.mk (some 1) (AOp.box (Operand.tmp 0)) none [],
          AOper.mk (some 2) (AOp.mv (Operand.const (Value.slice none 0 0))) none []]
def l14r1 : List AOper :=
  [AOper.mk (some 3) (AOp.load true 3 (Operand.tmp 1)) none [],
              AOper.mk (some 4) (AOp.call 43 [Operand.tmp 3]) none [0],
              AOper.mk (some 5) (AOp.un UnOp.not (Operand.tmp 4)) none [1]]
def l14r2 : List AOper :=
  [AOper.mk (some 2) (AOp.mv (Operand.const (Value.slice none 0 0))) none []]
def l14r3 : List AOper :=
  [AOper.mk (some 6) (AOp.load true 3 (Operand.tmp 1)) none [],
              AOper.mk (some 7) (AOp.call 50 [Operand.tmp 6]) none [0],
              AOper.mk (some 2) (AOp.mv (Operand.tmp 7)) none [1, 1, 0, 1]]
def l14 : AFn :=
  (AFn.mk 8 1
    (ACode.seq
      (ACode.reg l14r0)
      (ACode.seq
        (ACode.seq
          (ACode.reg l14r1)
          (ACode.cond (Operand.tmp 5)
            (ACode.seq (ACode.reg l14r2)
              ACode.ret)
            ACode.skip))
        (ACode.seq
          (ACode.reg l14r3)
          ACode.ret)))
    [ARes.tmp 2])
theorem l14_eq : lowFn Try.prog 14 = some l14 := by kernel_rfl
def l15r0 : List AOper :=
  [AOper.mk (some 2) (AOp.box (Operand.tmp 0)) none [],
          AOper.mk (some 4) (AOp.mv (Operand.const (Value.int IntKind.i64 0))) none [],
          AOper.mk (some 5) (AOp.mv (Operand.const (Value.bool false))) none [1]]
def l15r1 : List AOper :=
  [AOper.mk (some 7) (AOp.load true 3 (Operand.tmp 2)) none [],
              AOper.mk (some 8) (AOp.call 43 [Operand.tmp 7]) none [0],
              AOper.mk (some 9) (AOp.un UnOp.not (Operand.tmp 8)) none [1]]
def l15r2 : List AOper :=
  [AOper.mk (some 4) (AOp.mv (Operand.const (Value.int IntKind.i64 0))) none [],
                  AOper.mk (some 5) (AOp.mv (Operand.const (Value.bool false))) none [0, 0]]
def l15r3 : List AOper :=
  [AOper.mk (some 10) (AOp.load true 3 (Operand.tmp 2)) none [],
              AOper.mk (some 11) (AOp.call 45 [Operand.tmp 10]) none [0],
              AOper.mk (some 6) (AOp.mv (Operand.tmp 11)) none [1, 1, 0, 1]]
def l15r4 : List AOper :=
  [AOper.mk (some 12) (AOp.mv (Operand.tmp 1)) none [],
                  AOper.mk (some 13)
                    (AOp.bin BinOp.lss (Operand.tmp 12) (Operand.const (Value.int IntKind.i64 0))) none
                    [0]]
def l15r5 : List AOper :=
  [AOper.mk (some 14) (AOp.mv (Operand.tmp 1)) none [],
                    AOper.mk (some 15) (AOp.mv (Operand.tmp 6)) none [],
                    AOper.mk (some 16) (AOp.bin BinOp.add (Operand.tmp 14) (Operand.tmp 15)) none [0, 1],
                    AOper.mk (some 1) (AOp.mv (Operand.tmp 16)) none [2, 0, 1, 2]]
def l15r6 : List AOper :=
  [AOper.mk (some 17) (AOp.mv (Operand.tmp 1)) none [],
                    AOper.mk (some 18)
                      (AOp.bin BinOp.lss (Operand.tmp 17) (Operand.const (Value.int IntKind.i64 0))) none
                      [0],
                    AOper.mk (some 19) (AOp.mv (Operand.tmp 18)) none [1],
                    AOper.mk (some 20) (AOp.mv (Operand.tmp 1)) (some (19, false)) [2],
                    AOper.mk (some 21) (AOp.mv (Operand.tmp 6)) (some (19, false)) [2],
                    AOper.mk (some 22) (AOp.bin BinOp.geq (Operand.tmp 20) (Operand.tmp 21)) (some (19, false))
                      [3, 4, 2],
                    AOper.mk (some 23) (AOp.pick (Operand.tmp 19) (Operand.const (Value.bool true)) (Operand.tmp 22))
                      none [2, 5]]
def l15r7 : List AOper :=
  [AOper.mk (some 4) (AOp.mv (Operand.const (Value.int IntKind.i64 0))) none [],
                        AOper.mk (some 5) (AOp.mv (Operand.const (Value.bool false))) none [0, 0]]
def l15r8 : List AOper :=
  [AOper.mk (some 24) (AOp.load true 3 (Operand.tmp 2)) none [],
                    AOper.mk (some 25) (AOp.mv (Operand.tmp 1)) none [],
                    AOper.mk (some 26) (AOp.call 51 [Operand.tmp 24, Operand.tmp 25]) none [0, 1],
                    AOper.mk (some 4) (AOp.mv (Operand.tmp 26)) none [2, 2, 0, 1, 2],
                    AOper.mk (some 5) (AOp.mv (Operand.const (Value.bool true))) none [3, 0, 1, 2, 3]]
def l15 : AFn :=
  (AFn.mk 27 2
    (ACode.seq
      (ACode.reg l15r0)
      (ACode.seq
        (ACode.seq
          (ACode.reg l15r1)
          (ACode.cond (Operand.tmp 9)
            (ACode.seq
              (ACode.reg l15r2)
              ACode.ret)
            ACode.skip))
        (ACode.seq
          (ACode.reg l15r3)
          (ACode.seq
            (ACode.seq
              (ACode.reg l15r4)
              (ACode.cond (Operand.tmp 13)
                (ACode.reg l15r5)
                ACode.skip))
            (ACode.seq
              (ACode.seq
                (ACode.reg l15r6)
                (ACode.cond (Operand.tmp 23)
                  (ACode.seq
                    (ACode.reg l15r7)
                    ACode.ret)
                  ACode.skip))
              (ACode.seq
                (ACode.reg l15r8)
                ACode.ret))))))
    [ARes.tmp 4, ARes.tmp 5])
theorem l15_eq : lowFn Try.prog 15 = some l15 := by kernel_rfl
def l16r0 : List AOper :=
  [AOper.mk (some 1) (AOp.box (Operand.tmp 0)) none [],
          AOper.mk (some 2) (AOp.mv (Operand.const (Value.int IntKind.i64 0))) none []]
def l16r1 : List AOper :=
  [AOper.mk (some 3) (AOp.load true 3 (Operand.tmp 1)) none [],
              AOper.mk (some 4) (AOp.call 43 [Operand.tmp 3]) none [0],
              AOper.mk (some 5) (AOp.un UnOp.not (Operand.tmp 4)) none [1]]
def l16r2 : List AOper :=
  [AOper.mk (some 2) (AOp.mv (Operand.const (Value.int IntKind.i64 (-1)))) none []]
def l16r3 : List AOper :=
  [AOper.mk (some 6) (AOp.load true 3 (Operand.tmp 1)) none [],
              AOper.mk (some 7) (AOp.call 45 [Operand.tmp 6]) none [0],
              AOper.mk (some 2) (AOp.mv (Operand.tmp 7)) none [1, 1, 0, 1]]
def l16 : AFn :=
  (AFn.mk 8 1
    (ACode.seq
      (ACode.reg l16r0)
      (ACode.seq
        (ACode.seq
          (ACode.reg l16r1)
          (ACode.cond (Operand.tmp 5)
            (ACode.seq
              (ACode.reg l16r2)
              ACode.ret)
            ACode.skip))
        (ACode.seq
          (ACode.reg l16r3)
          ACode.ret)))
    [ARes.tmp 2])
theorem l16_eq : lowFn Try.prog 16 = some l16 := by kernel_rfl
def l40r0 : List AOper :=
  [AOper.mk (some 2) (AOp.mv (Operand.const (Value.pointer none))) none []]
def l40r1 : List AOper :=
  [AOper.mk (some 3) (AOp.mv (Operand.tmp 0)) none [], AOper.mk (some 4) (AOp.len (Operand.tmp 3)) none [0],
              AOper.mk (some 5)
                (AOp.bin BinOp.gtr (Operand.tmp 4) (Operand.const (Value.int IntKind.i64 2000))) none [1]]
def l40r2 : List AOper :=
  [AOper.mk (some 6) (AOp.mv (Operand.tmp 0)) none [],
                AOper.mk (some 7)
                  (AOp.slice 1 (Operand.tmp 6) none (some (Operand.const (Value.int IntKind.i64 2000))))
                  none [0],
                AOper.mk (some 0) (AOp.mv (Operand.tmp 7)) none [1, 0, 1]]
def l40r3 : List AOper :=
  [AOper.mk (some 8) (AOp.mv (Operand.tmp 0)) none [],
              AOper.mk (some 9)
                (AOp.build [Value.slice none 0 0, Value.int IntKind.i64 0] [(0, 1, Operand.tmp 8)]) none
                [0],
              AOper.mk (some 10) (AOp.box (Operand.tmp 9)) none [1],
              AOper.mk (some 2) (AOp.mv (Operand.tmp 10)) none [2, 0, 1, 2]]
def l40 : AFn :=
  (AFn.mk 11 1
    (ACode.seq (ACode.reg l40r0)
      (ACode.seq
        (ACode.seq
          (ACode.reg l40r1)
          (ACode.cond (Operand.tmp 5)
            (ACode.reg l40r2)
            ACode.skip))
        (ACode.seq
          (ACode.reg l40r3)
          ACode.ret)))
    [ARes.tmp 2])
theorem l40_eq : lowFn Try.prog 40 = some l40 := by kernel_rfl
def l41r0 : List AOper :=
  [AOper.mk (some 2)
            (AOp.alloc
              [Value.int IntKind.i64 0, Value.int IntKind.i64 0,
                Value.int IntKind.i64 0])
            none []]
def l41r1 : List AOper :=
  [AOper.mk (some 4) (AOp.mv (Operand.tmp 0)) none [], AOper.mk (some 5) (AOp.mv (Operand.tmp 0)) none [],
            AOper.mk (some 6) (AOp.call 57 [Operand.tmp 5, Operand.const (Value.int IntKind.i64 40)]) none
              [1],
            AOper.mk (some 7) (AOp.bin BinOp.sub (Operand.tmp 6) (Operand.const (Value.int IntKind.i64 20)))
              none [2],
            AOper.mk (some 8)
              (AOp.bslice 1 [Value.int IntKind.i64 0]
                [(0, Operand.const (Value.int IntKind.i64 0)),
                  (1, Operand.const (Value.int IntKind.i64 1)),
                  (2, Operand.const (Value.int IntKind.i64 (-3))),
                  (3, Operand.const (Value.int IntKind.i64 5)), (4, Operand.tmp 7)]
                5)
              none [3],
            AOper.mk (some 9) (AOp.call 42 [Operand.tmp 4, Operand.tmp 8]) none [0, 4, 2],
            AOper.mk (some 10) (AOp.mv (Operand.tmp 0)) none [], AOper.mk (some 11) (AOp.mv (Operand.tmp 0)) none [],
            AOper.mk (some 12) (AOp.call 57 [Operand.tmp 11, Operand.const (Value.int IntKind.i64 60)]) none
              [7, 5],
            AOper.mk (some 13)
              (AOp.bin BinOp.sub (Operand.tmp 12) (Operand.const (Value.int IntKind.i64 30))) none [8],
            AOper.mk (some 14)
              (AOp.bslice 1 [Value.int IntKind.i64 0]
                [(0, Operand.const (Value.int IntKind.i64 10)),
                  (1, Operand.const (Value.int IntKind.i64 7)),
                  (2, Operand.const (Value.int IntKind.i64 20)),
                  (3, Operand.const (Value.int IntKind.i64 (-8))), (4, Operand.tmp 13)]
                5)
              none [9],
            AOper.mk (some 15) (AOp.call 42 [Operand.tmp 10, Operand.tmp 14]) none [6, 10, 8],
            AOper.mk (some 16) (AOp.mv (Operand.tmp 0)) none [],
            AOper.mk (some 17)
              (AOp.bslice 1 [Value.int IntKind.i64 0]
                [(0, Operand.const (Value.int IntKind.i64 1)),
                  (1, Operand.const (Value.int IntKind.i64 2)),
                  (2, Operand.const (Value.int IntKind.i64 3)),
                  (3, Operand.const (Value.int IntKind.i64 (-1))),
                  (4, Operand.const (Value.int IntKind.i64 (-2))),
                  (5, Operand.const (Value.int IntKind.i64 4)),
                  (6, Operand.const (Value.int IntKind.i64 (-5))),
                  (7, Operand.const (Value.int IntKind.i64 6)),
                  (8, Operand.const (Value.int IntKind.i64 9))]
                9)
              none [],
            AOper.mk (some 18) (AOp.call 42 [Operand.tmp 16, Operand.tmp 17]) none [12, 13, 11],
            AOper.mk (some 19)
              (AOp.build
                [Value.int IntKind.i64 0, Value.int IntKind.i64 0,
                  Value.int IntKind.i64 0]
                [(0, 1, Operand.tmp 9), (1, 1, Operand.tmp 15), (2, 1, Operand.tmp 18)])
              none [5, 11, 14],
            AOper.mk (some 3)
              (AOp.alloc
                [Value.int IntKind.i64 0, Value.int IntKind.i64 0,
                  Value.int IntKind.i64 0])
              none [],
            AOper.mk none (AOp.store 3 (Operand.tmp 3) (Operand.tmp 19)) none
              [16, 15, 14, 0, 1, 2, 3, 4, 5, 6, 7, 8, 9, 10, 11, 12, 13, 14, 15, 16]]
def l41r2 : List AOper :=
  [AOper.mk (some 20) (AOp.fld 2 (Operand.tmp 3)) none [],
                AOper.mk (some 21) (AOp.load false 1 (Operand.tmp 20)) none [0],
                AOper.mk (some 22)
                  (AOp.bin BinOp.lss (Operand.tmp 21) (Operand.const (Value.int IntKind.i64 0))) none [1],
                AOper.mk (some 23) (AOp.mv (Operand.tmp 22)) none [2],
                AOper.mk (some 24) (AOp.mv (Operand.tmp 0)) (some (23, true)) [3],
                AOper.mk (some 25) (AOp.call 57 [Operand.tmp 24, Operand.const (Value.int IntKind.i64 3)])
                  (some (23, true)) [4, 3, 3],
                AOper.mk (some 26)
                  (AOp.bin BinOp.gtr (Operand.tmp 25) (Operand.const (Value.int IntKind.i64 0)))
                  (some (23, true)) [5, 3],
                AOper.mk (some 27) (AOp.pick (Operand.tmp 23) (Operand.tmp 26) (Operand.const (Value.bool false))) none
                  [3, 6]]
def l41r3 : List AOper :=
  [AOper.mk (some 28) (AOp.fld 1 (Operand.tmp 3)) none [],
                  AOper.mk (some 29) (AOp.load false 1 (Operand.tmp 28)) none [0],
                  AOper.mk (some 30) (AOp.fld 0 (Operand.tmp 3)) none [],
                  AOper.mk (some 31) (AOp.load false 1 (Operand.tmp 30)) none [2],
                  AOper.mk (some 32) (AOp.fld 2 (Operand.tmp 3)) none [],
                  AOper.mk (some 33) (AOp.load false 1 (Operand.tmp 32)) none [4],
                  AOper.mk (some 34)
                    (AOp.build
                      [Value.int IntKind.i64 0, Value.int IntKind.i64 0,
                        Value.int IntKind.i64 0]
                      [(0, 1, Operand.tmp 29), (1, 1, Operand.tmp 31), (2, 1, Operand.tmp 33)])
                    none [1, 3, 5],
                  AOper.mk none (AOp.store 3 (Operand.tmp 3) (Operand.tmp 34)) none [6, 0, 1, 2, 3, 4, 5, 6]]
def l41r4 : List AOper :=
  [AOper.mk (some 35) (AOp.mv (Operand.tmp 0)) none [],
                  AOper.mk (some 36)
                    (AOp.call 57 [Operand.tmp 35, Operand.const (Value.int IntKind.i64 24)]) none [0]]
def l41r5 : List AOper :=
  [AOper.mk (some 38)
                        (AOp.bin BinOp.eql (Operand.tmp 36) (Operand.const (Value.int IntKind.i64 0))) none
                        [],
                      AOper.mk (some 37) (AOp.mv (Operand.tmp 38)) none [0]]
def l41r6 : List AOper :=
  [AOper.mk (some 39) (AOp.mv (Operand.tmp 0)) none [],
                        AOper.mk (some 40)
                          (AOp.bslice 1 [Value.int IntKind.i64 0]
                            [(0, Operand.const (Value.int IntKind.i64 0)),
                              (1, Operand.const (Value.int IntKind.i64 201)),
                              (2, Operand.const (Value.int IntKind.i64 (-201)))]
                            3)
                          none [],
                        AOper.mk (some 41) (AOp.call 42 [Operand.tmp 39, Operand.tmp 40]) none [0, 1],
                        AOper.mk (some 42) (AOp.fld 2 (Operand.tmp 3)) none [0, 1, 2],
                        AOper.mk none (AOp.store 1 (Operand.tmp 42) (Operand.tmp 41)) none [3, 2, 2, 0, 1, 2]]
def l41r7 : List AOper :=
  [AOper.mk (some 44)
                            (AOp.bin BinOp.eql (Operand.tmp 36) (Operand.const (Value.int IntKind.i64 1)))
                            none [],
                          AOper.mk (some 43) (AOp.mv (Operand.tmp 44)) none [0]]
def l41r8 : List AOper :=
  [AOper.mk (some 45) (AOp.mv (Operand.tmp 0)) none [],
                            AOper.mk (some 46)
                              (AOp.bslice 1 [Value.int IntKind.i64 0]
                                [(0, Operand.const (Value.int IntKind.i64 101)),
                                  (1, Operand.const (Value.int IntKind.i64 (-101))),
                                  (2, Operand.const (Value.int IntKind.i64 100))]
                                3)
                              none [],
                            AOper.mk (some 47) (AOp.call 42 [Operand.tmp 45, Operand.tmp 46]) none [0, 1],
                            AOper.mk (some 48) (AOp.fld 0 (Operand.tmp 3)) none [0, 1, 2],
                            AOper.mk none (AOp.store 1 (Operand.tmp 48) (Operand.tmp 47)) none [3, 2, 2, 0, 1, 2]]
def l41r9 : List AOper :=
  [AOper.mk (some 50)
                                (AOp.bin BinOp.eql (Operand.tmp 36)
                                  (Operand.const (Value.int IntKind.i64 2)))
                                none [],
                              AOper.mk (some 49) (AOp.mv (Operand.tmp 50)) none [0]]
def l41r10 : List AOper :=
  [AOper.mk (some 51) (AOp.mv (Operand.tmp 0)) none [],
                                AOper.mk (some 52)
                                  (AOp.bslice 1 [Value.int IntKind.i64 0]
                                    [(0, Operand.const (Value.int IntKind.i64 102)),
                                      (1, Operand.const (Value.int IntKind.i64 (-102))),
                                      (2, Operand.const (Value.int IntKind.i64 101))]
                                    3)
                                  none [],
                                AOper.mk (some 53) (AOp.call 42 [Operand.tmp 51, Operand.tmp 52]) none [0, 1],
                                AOper.mk (some 54) (AOp.fld 1 (Operand.tmp 3)) none [0, 1, 2],
                                AOper.mk none (AOp.store 1 (Operand.tmp 54) (Operand.tmp 53)) none [3, 2, 2, 0, 1, 2]]
def l41r11 : List AOper :=
  [AOper.mk (some 55) (AOp.load true 3 (Operand.tmp 3)) none [],
                  AOper.mk none (AOp.store 3 (Operand.tmp 2) (Operand.tmp 55)) none [0, 0]]
def l41 : AFn :=
  (AFn.mk 56 1
    (ACode.seq
      (ACode.reg l41r0)
      (ACode.seq
        (ACode.reg l41r1)
        (ACode.seq
          (ACode.seq
            (ACode.reg l41r2)
            (ACode.cond (Operand.tmp 27)
              (ACode.reg l41r3)
              ACode.skip))
          (ACode.seq
            (ACode.seq
              (ACode.reg l41r4)
              (ACode.block 0
                (ACode.seq
                  (ACode.reg l41r5)
                  (ACode.cond (Operand.tmp 37)
                    (ACode.reg l41r6)
                    (ACode.seq
                      (ACode.reg l41r7)
                      (ACode.cond (Operand.tmp 43)
                        (ACode.reg l41r8)
                        (ACode.seq
                          (ACode.reg l41r9)
                          (ACode.cond (Operand.tmp 49)
                            (ACode.reg l41r10)
                            ACode.skip))))))))
            (ACode.seq
              (ACode.reg l41r11)
              ACode.ret)))))
    [ARes.cell 2 true 3])
theorem l41_eq : lowFn Try.prog 41 = some l41 := by kernel_rfl
def l42r0 : List AOper :=
  [AOper.mk (some 4) (AOp.mv (Operand.const (Value.int IntKind.i64 0))) none []]
def l42r1 : List AOper :=
  [AOper.mk (some 5) (AOp.mv (Operand.tmp 1)) none [], AOper.mk (some 6) (AOp.mv (Operand.tmp 0)) none [],
            AOper.mk (some 7) (AOp.mv (Operand.tmp 1)) none [], AOper.mk (some 8) (AOp.len (Operand.tmp 7)) none [2],
            AOper.mk (some 9) (AOp.call 57 [Operand.tmp 6, Operand.tmp 8]) none [1, 3],
            AOper.mk (some 10) (AOp.idxA 1 (Operand.tmp 5) (Operand.tmp 9)) none [0, 4],
            AOper.mk (some 11) (AOp.load false 1 (Operand.tmp 10)) none [5],
            AOper.mk (some 4) (AOp.mv (Operand.tmp 11)) none [6, 4, 0, 1, 2, 3, 4, 5, 6]]
def l42 : AFn :=
  (AFn.mk 12 2
    (ACode.seq (ACode.reg l42r0)
      (ACode.seq
        (ACode.reg l42r1)
        ACode.ret))
    [ARes.tmp 4])
theorem l42_eq : lowFn Try.prog 42 = some l42 := by kernel_rfl
def l43r0 : List AOper :=
  [AOper.mk (some 1) (AOp.box (Operand.tmp 0)) none [],
          AOper.mk (some 2) (AOp.mv (Operand.const (Value.bool false))) none []]
def l43r1 : List AOper :=
  [AOper.mk (some 3) (AOp.fld 0 (Operand.tmp 1)) none [],
            AOper.mk (some 4) (AOp.load false 1 (Operand.tmp 3)) none [0],
            AOper.mk (some 5) (AOp.call 67 [Operand.tmp 4, Operand.const (Value.int IntKind.i64 100)]) none
              [1],
            AOper.mk (some 6) (AOp.mv (Operand.tmp 5)) none [2, 2],
            AOper.mk (some 7) (AOp.fld 1 (Operand.tmp 1)) (some (6, true)) [3],
            AOper.mk (some 8) (AOp.load false 1 (Operand.tmp 7)) (some (6, true)) [4, 3],
            AOper.mk (some 9) (AOp.call 67 [Operand.tmp 8, Operand.const (Value.int IntKind.i64 101)])
              (some (6, true)) [5, 3, 3],
            AOper.mk (some 10) (AOp.pick (Operand.tmp 6) (Operand.tmp 9) (Operand.const (Value.bool false))) none
              [3, 6],
            AOper.mk (some 11) (AOp.mv (Operand.tmp 10)) none [7, 6],
            AOper.mk (some 12) (AOp.fld 2 (Operand.tmp 1)) (some (11, true)) [8],
            AOper.mk (some 13) (AOp.load false 1 (Operand.tmp 12)) (some (11, true)) [9, 8],
            AOper.mk (some 14) (AOp.call 68 [Operand.tmp 13]) (some (11, true)) [10, 8, 8],
            AOper.mk (some 15) (AOp.pick (Operand.tmp 11) (Operand.tmp 14) (Operand.const (Value.bool false))) none
              [8, 11],
            AOper.mk (some 2) (AOp.mv (Operand.tmp 15)) none [12, 11, 0, 1, 2, 3, 4, 5, 6, 7, 8, 9, 10, 11, 12]]
def l43 : AFn :=
  (AFn.mk 16 1
    (ACode.seq
      (ACode.reg l43r0)
      (ACode.seq
        (ACode.reg l43r1)
        ACode.ret))
    [ARes.tmp 2])
theorem l43_eq : lowFn Try.prog 43 = some l43 := by kernel_rfl
def l44r0 : List AOper :=
  [AOper.mk (some 2) (AOp.box (Operand.tmp 0)) none [], AOper.mk (some 3) (AOp.box (Operand.tmp 1)) none [],
          AOper.mk (some 4)
            (AOp.alloc
              [Value.int IntKind.i64 0, Value.int IntKind.i64 0,
                Value.int IntKind.i64 0])
            none []]
def l44r1a : List AOper :=
  [AOper.mk (some 5) (AOp.load true 3 (Operand.tmp 2)) none [], AOper.mk (some 6) (AOp.fld 0 (Operand.tmp 3)) none [], AOper.mk (some 7) (AOp.load false 1 (Operand.tmp 6)) none [1], AOper.mk (some 8) (AOp.call 51 [Operand.tmp 5, Operand.tmp 7]) none [0, 2], AOper.mk (some 9) (AOp.fld 2 (Operand.tmp 2)) none [], AOper.mk (some 10) (AOp.load false 1 (Operand.tmp 9)) none [4], AOper.mk (some 11) (AOp.fld 2 (Operand.tmp 3)) none [], AOper.mk (some 12) (AOp.load false 1 (Operand.tmp 11)) none [6], AOper.mk (some 13) (AOp.bin BinOp.mul (Operand.tmp 10) (Operand.tmp 12)) none [5, 7], AOper.mk (some 14) (AOp.load true 3 (Operand.tmp 3)) none [], AOper.mk (some 15) (AOp.call 45 [Operand.tmp 14]) none [9, 3]]
def l44r1b : List AOper :=
  [AOper.mk (some 16) (AOp.call 69 [Operand.tmp 8, Operand.tmp 13, Operand.tmp 15]) none [3, 8, 10, 10], AOper.mk none (AOp.store 3 (Operand.tmp 4) (Operand.tmp 16)) none
              [11, 11, 0, 1, 2, 3, 4, 5, 6, 7, 8, 9, 10, 11]]
def l44r1 : List AOper := l44r1a ++ l44r1b
def l44 : AFn :=
  (AFn.mk 17 2
    (ACode.seq
      (ACode.reg l44r0)
      (ACode.seq
        (ACode.draw l44r1)
        ACode.ret))
    [ARes.cell 4 true 3])
theorem l44_eq : lowFn Try.prog 44 = some l44 := by kernel_rfl
def l45r0 : List AOper :=
  [AOper.mk (some 1) (AOp.box (Operand.tmp 0)) none [],
          AOper.mk (some 2) (AOp.mv (Operand.const (Value.int IntKind.i64 0))) none []]
def l45r1a : List AOper :=
  [AOper.mk (some 5) (AOp.fld 1 (Operand.tmp 1)) none [], AOper.mk (some 6) (AOp.load false 1 (Operand.tmp 5)) none [0], AOper.mk (some 7) (AOp.fld 0 (Operand.tmp 1)) none [], AOper.mk (some 8) (AOp.load false 1 (Operand.tmp 7)) none [2], AOper.mk (some 9) (AOp.bin BinOp.sub (Operand.tmp 6) (Operand.tmp 8)) none [1, 3], AOper.mk (some 10) (AOp.fld 2 (Operand.tmp 1)) none [], AOper.mk (some 11) (AOp.load false 1 (Operand.tmp 10)) none [5], AOper.mk (some 3) (AOp.mv (Operand.tmp 9)) none [4, 0, 1, 2, 3, 4]]
def l45r1b : List AOper :=
  [AOper.mk (some 4) (AOp.mv (Operand.tmp 11)) none [6, 7, 0, 1, 2, 3, 4, 5, 6, 7]]
def l45r1 : List AOper := l45r1a ++ l45r1b
def l45r2 : List AOper :=
  [AOper.mk (some 12) (AOp.mv (Operand.tmp 4)) none [],
                AOper.mk (some 13)
                  (AOp.bin BinOp.lss (Operand.tmp 12) (Operand.const (Value.int IntKind.i64 0))) none [0]]
def l45r3 : List AOper :=
  [AOper.mk (some 14) (AOp.mv (Operand.tmp 3)) none [],
                  AOper.mk (some 15) (AOp.un UnOp.neg (Operand.tmp 14)) none [0],
                  AOper.mk (some 16) (AOp.mv (Operand.tmp 4)) none [],
                  AOper.mk (some 17) (AOp.un UnOp.neg (Operand.tmp 16)) none [2],
                  AOper.mk (some 3) (AOp.mv (Operand.tmp 15)) none [1, 0, 1],
                  AOper.mk (some 4) (AOp.mv (Operand.tmp 17)) none [3, 4, 0, 1, 2, 3, 4]]
def l45r4 : List AOper :=
  [AOper.mk (some 18) (AOp.mv (Operand.tmp 3)) none [],
                  AOper.mk (some 19)
                    (AOp.bin BinOp.leq (Operand.tmp 18) (Operand.const (Value.int IntKind.i64 0))) none
                    [0]]
def l45r5 : List AOper :=
  [AOper.mk (some 2) (AOp.mv (Operand.const (Value.int IntKind.i64 0))) none []]
def l45r6 : List AOper :=
  [AOper.mk (some 20) (AOp.mv (Operand.tmp 3)) none [],
                  AOper.mk (some 21) (AOp.mv (Operand.tmp 4)) none [],
                  AOper.mk (some 22) (AOp.bin BinOp.add (Operand.tmp 20) (Operand.tmp 21)) none [0, 1],
                  AOper.mk (some 23)
                    (AOp.bin BinOp.sub (Operand.tmp 22) (Operand.const (Value.int IntKind.i64 1))) none [2],
                  AOper.mk (some 24) (AOp.mv (Operand.tmp 4)) none [],
                  AOper.mk (some 25) (AOp.bin BinOp.quo (Operand.tmp 23) (Operand.tmp 24)) none [3, 4],
                  AOper.mk (some 2) (AOp.mv (Operand.tmp 25)) none [5, 0, 1, 2, 3, 4, 5]]
def l45 : AFn :=
  (AFn.mk 26 1
    (ACode.seq
      (ACode.reg l45r0)
      (ACode.seq
        (ACode.draw l45r1)
        (ACode.seq
          (ACode.seq
            (ACode.reg l45r2)
            (ACode.cond (Operand.tmp 13)
              (ACode.reg l45r3)
              ACode.skip))
          (ACode.seq
            (ACode.seq
              (ACode.reg l45r4)
              (ACode.cond (Operand.tmp 19)
                (ACode.seq
                  (ACode.reg l45r5)
                  ACode.ret)
                ACode.skip))
            (ACode.seq
              (ACode.reg l45r6)
              ACode.ret)))))
    [ARes.tmp 2])
theorem l45_eq : lowFn Try.prog 45 = some l45 := by kernel_rfl
def l46r0 : List AOper :=
  [AOper.mk (some 1) (AOp.box (Operand.tmp 0)) none [],
          AOper.mk (some 2) (AOp.mv (Operand.const (Value.bool false))) none []]
def l46r1 : List AOper :=
  [AOper.mk (some 3) (AOp.fld 0 (Operand.tmp 1)) none [],
            AOper.mk (some 4) (AOp.load false 1 (Operand.tmp 3)) none [0],
            AOper.mk (some 5)
              (AOp.call 47
                [Operand.tmp 4, Operand.const (Value.int IntKind.i64 (-100)),
                  Operand.const (Value.int IntKind.i64 100)])
              none [1],
            AOper.mk (some 6) (AOp.mv (Operand.tmp 5)) none [2, 2],
            AOper.mk (some 7) (AOp.fld 1 (Operand.tmp 1)) (some (6, true)) [3],
            AOper.mk (some 8) (AOp.load false 1 (Operand.tmp 7)) (some (6, true)) [4, 3],
            AOper.mk (some 9)
              (AOp.call 47
                [Operand.tmp 8, Operand.const (Value.int IntKind.i64 (-101)),
                  Operand.const (Value.int IntKind.i64 101)])
              (some (6, true)) [5, 3, 3],
            AOper.mk (some 10) (AOp.pick (Operand.tmp 6) (Operand.tmp 9) (Operand.const (Value.bool false))) none
              [3, 6],
            AOper.mk (some 11) (AOp.mv (Operand.tmp 10)) none [7, 6],
            AOper.mk (some 12) (AOp.fld 2 (Operand.tmp 1)) (some (11, true)) [8],
            AOper.mk (some 13) (AOp.load false 1 (Operand.tmp 12)) (some (11, true)) [9, 8],
            AOper.mk (some 14)
              (AOp.call 47
                [Operand.tmp 13, Operand.const (Value.int IntKind.i64 (-200)),
                  Operand.const (Value.int IntKind.i64 200)])
              (some (11, true)) [10, 8, 8],
            AOper.mk (some 15) (AOp.pick (Operand.tmp 11) (Operand.tmp 14) (Operand.const (Value.bool false))) none
              [8, 11],
            AOper.mk (some 16) (AOp.mv (Operand.tmp 15)) none [12, 11],
            AOper.mk (some 17) (AOp.fld 2 (Operand.tmp 1)) (some (16, true)) [13],
            AOper.mk (some 18) (AOp.load false 1 (Operand.tmp 17)) (some (16, true)) [14, 13],
            AOper.mk (some 19)
              (AOp.bin BinOp.neq (Operand.tmp 18) (Operand.const (Value.int IntKind.i64 0)))
              (some (16, true)) [15, 13],
            AOper.mk (some 20) (AOp.pick (Operand.tmp 16) (Operand.tmp 19) (Operand.const (Value.bool false))) none
              [13, 16],
            AOper.mk (some 2) (AOp.mv (Operand.tmp 20)) none
              [17, 13, 0, 1, 2, 3, 4, 5, 6, 7, 8, 9, 10, 11, 12, 13, 14, 15, 16, 17]]
def l46 : AFn :=
  (AFn.mk 21 1
    (ACode.seq
      (ACode.reg l46r0)
      (ACode.seq
        (ACode.reg l46r1)
        ACode.ret))
    [ARes.tmp 2])
theorem l46_eq : lowFn Try.prog 46 = some l46 := by kernel_rfl
def l47r0 : List AOper :=
  [AOper.mk (some 6) (AOp.mv (Operand.const (Value.bool false))) none []]
def l47r1 : List AOper :=
  [AOper.mk (some 7) (AOp.mv (Operand.tmp 1)) none [], AOper.mk (some 8) (AOp.mv (Operand.tmp 0)) none [],
            AOper.mk (some 9) (AOp.bin BinOp.leq (Operand.tmp 7) (Operand.tmp 8)) none [0, 1],
            AOper.mk (some 10) (AOp.mv (Operand.tmp 9)) none [2],
            AOper.mk (some 11) (AOp.mv (Operand.tmp 0)) (some (10, true)) [3],
            AOper.mk (some 12) (AOp.mv (Operand.tmp 2)) (some (10, true)) [3],
            AOper.mk (some 13) (AOp.bin BinOp.leq (Operand.tmp 11) (Operand.tmp 12)) (some (10, true)) [4, 5, 3],
            AOper.mk (some 14) (AOp.pick (Operand.tmp 10) (Operand.tmp 13) (Operand.const (Value.bool false))) none
              [3, 6],
            AOper.mk (some 6) (AOp.mv (Operand.tmp 14)) none [7, 3, 0, 1, 2, 3, 4, 5, 6, 7]]
def l47 : AFn :=
  (AFn.mk 15 3
    (ACode.seq (ACode.reg l47r0)
      (ACode.seq
        (ACode.reg l47r1)
        ACode.ret))
    [ARes.tmp 6])
theorem l47_eq : lowFn Try.prog 47 = some l47 := by kernel_rfl
def l48r0 : List AOper :=
  [AOper.mk (some 1) (AOp.box (Operand.tmp 0)) none [],
          AOper.mk (some 2) (AOp.mv (Operand.const (Value.slice none 0 0))) none []]
def l48r1 : List AOper :=
  [AOper.mk (some 5) (AOp.bslice 1 [Value.int IntKind.i64 0] [] 0) none [],
            AOper.mk (some 3) (AOp.mv (Operand.tmp 5)) none [0, 0]]
def l48r2 : List AOper :=
  [AOper.mk (some 6) (AOp.fld 0 (Operand.tmp 1)) none [],
                AOper.mk (some 7) (AOp.load false 1 (Operand.tmp 6)) none [0],
                AOper.mk (some 4) (AOp.mv (Operand.tmp 7)) none [1, 0, 1]]
def l48r3 : List AOper :=
  [AOper.mk (some 8) (AOp.fld 2 (Operand.tmp 1)) none [],
                        AOper.mk (some 9) (AOp.load false 1 (Operand.tmp 8)) none [0],
                        AOper.mk (some 10)
                          (AOp.bin BinOp.gtr (Operand.tmp 9) (Operand.const (Value.int IntKind.i64 0))) none
                          [1],
                        AOper.mk (some 11) (AOp.mv (Operand.tmp 10)) none [2],
                        AOper.mk (some 12) (AOp.mv (Operand.tmp 4)) (some (11, true)) [3],
                        AOper.mk (some 13) (AOp.fld 1 (Operand.tmp 1)) (some (11, true)) [3],
                        AOper.mk (some 14) (AOp.load false 1 (Operand.tmp 13)) (some (11, true)) [5, 3],
                        AOper.mk (some 15) (AOp.bin BinOp.lss (Operand.tmp 12) (Operand.tmp 14)) (some (11, true))
                          [4, 6, 3],
                        AOper.mk (some 16)
                          (AOp.pick (Operand.tmp 11) (Operand.tmp 15) (Operand.const (Value.bool false))) none [3, 7],
                        AOper.mk (some 17) (AOp.mv (Operand.tmp 16)) none [8, 3],
                        AOper.mk (some 18) (AOp.fld 2 (Operand.tmp 1)) (some (17, false)) [9],
                        AOper.mk (some 19) (AOp.load false 1 (Operand.tmp 18)) (some (17, false)) [10, 9],
                        AOper.mk (some 20)
                          (AOp.bin BinOp.lss (Operand.tmp 19) (Operand.const (Value.int IntKind.i64 0)))
                          (some (17, false)) [11, 9],
                        AOper.mk (some 21) (AOp.mv (Operand.tmp 20)) (some (17, false)) [12, 9, 9],
                        AOper.mk (some 22) (AOp.mv (Operand.tmp 4)) (some (21, true)) [13],
                        AOper.mk (some 23) (AOp.fld 1 (Operand.tmp 1)) (some (21, true)) [13],
                        AOper.mk (some 24) (AOp.load false 1 (Operand.tmp 23)) (some (21, true)) [15, 13],
                        AOper.mk (some 25) (AOp.bin BinOp.gtr (Operand.tmp 22) (Operand.tmp 24)) (some (21, true))
                          [14, 16, 13],
                        AOper.mk (some 26)
                          (AOp.pick (Operand.tmp 21) (Operand.tmp 25) (Operand.const (Value.bool false)))
                          (some (17, false)) [13, 17, 9],
                        AOper.mk (some 27)
                          (AOp.pick (Operand.tmp 17) (Operand.const (Value.bool true)) (Operand.tmp 26)) none [9, 18]]
def l48r4 : List AOper :=
  [AOper.mk (some 32) (AOp.mv (Operand.tmp 3)) none [],
                          AOper.mk (some 33) (AOp.mv (Operand.tmp 4)) none [],
                          AOper.mk (some 34)
                            (AOp.bslice 1 [Value.int IntKind.i64 0] [(0, Operand.tmp 33)] 1) none [1],
                          AOper.mk (some 35) (AOp.append 1 (Operand.tmp 32) (Operand.tmp 34)) none [0, 2],
                          AOper.mk (some 3) (AOp.mv (Operand.tmp 35)) none [3, 3, 0, 1, 2, 3]]
def l48r5 : List AOper :=
  [AOper.mk (some 28) (AOp.mv (Operand.tmp 4)) none [],
                        AOper.mk (some 29) (AOp.fld 2 (Operand.tmp 1)) none [],
                        AOper.mk (some 30) (AOp.load false 1 (Operand.tmp 29)) none [1],
                        AOper.mk (some 31) (AOp.bin BinOp.add (Operand.tmp 28) (Operand.tmp 30)) none [0, 2],
                        AOper.mk (some 4) (AOp.mv (Operand.tmp 31)) none [3, 0, 1, 2, 3]]
def l48r6 : List AOper :=
  [AOper.mk (some 36) (AOp.mv (Operand.tmp 3)) none [],
                AOper.mk (some 2) (AOp.mv (Operand.tmp 36)) none [0, 0]]
def l48 : AFn :=
  (AFn.mk 37 1
    (ACode.seq
      (ACode.reg l48r0)
      (ACode.seq
        (ACode.reg l48r1)
        (ACode.seq
          (ACode.seq
            (ACode.reg l48r2)
            (ACode.block 0
              (ACode.loop
                (ACode.seq
                  (ACode.seq
                    (ACode.reg l48r3)
                    (ACode.cond (Operand.tmp 27) ACode.skip (ACode.exit 0)))
                  (ACode.seq
                    (ACode.block 1
                      (ACode.reg l48r4))
                    (ACode.reg l48r5))))))
          (ACode.seq
            (ACode.reg l48r6)
            ACode.ret))))
    [ARes.tmp 2])
theorem l48_eq : lowFn Try.prog 48 = some l48 := by kernel_rfl
def l49r0 : List AOper :=
  [AOper.mk (some 2)
            (AOp.alloc
              [Value.int IntKind.i64 0, Value.int IntKind.i64 0,
                Value.int IntKind.i64 0])
            none []]
def l49r1 : List AOper :=
  [AOper.mk (some 5) (AOp.mv (Operand.tmp 0)) none [], AOper.mk (some 6) (AOp.len (Operand.tmp 5)) none [0]]
def l49r2 : List AOper :=
  [AOper.mk (some 8)
                    (AOp.bin BinOp.eql (Operand.tmp 6) (Operand.const (Value.int IntKind.i64 0))) none [],
                  AOper.mk (some 7) (AOp.mv (Operand.tmp 8)) none [0]]
def l49r3 : List AOper :=
  [AOper.mk (some 9)
                        (AOp.build
                          [Value.int IntKind.i64 0, Value.int IntKind.i64 0,
                            Value.int IntKind.i64 0]
                          [(0, 1, Operand.const (Value.int IntKind.i64 0)),
                            (1, 1, Operand.const (Value.int IntKind.i64 0)),
                            (2, 1, Operand.const (Value.int IntKind.i64 1))])
                        none [],
                      AOper.mk none (AOp.store 3 (Operand.tmp 2) (Operand.tmp 9)) none [0, 0]]
def l49r4 : List AOper :=
  [AOper.mk (some 11)
                        (AOp.bin BinOp.eql (Operand.tmp 6) (Operand.const (Value.int IntKind.i64 1))) none
                        [],
                      AOper.mk (some 10) (AOp.mv (Operand.tmp 11)) none [0]]
def l49r5a : List AOper :=
  [AOper.mk (some 12) (AOp.mv (Operand.tmp 0)) none [], AOper.mk (some 13)
                            (AOp.idxA 1 (Operand.tmp 12) (Operand.const (Value.int IntKind.i64 0))) none
                            [0], AOper.mk (some 14) (AOp.load false 1 (Operand.tmp 13)) none [1], AOper.mk (some 15) (AOp.mv (Operand.tmp 0)) none [], AOper.mk (some 16)
                            (AOp.idxA 1 (Operand.tmp 15) (Operand.const (Value.int IntKind.i64 0))) none
                            [3], AOper.mk (some 17) (AOp.load false 1 (Operand.tmp 16)) none [4], AOper.mk (some 18)
                            (AOp.bin BinOp.add (Operand.tmp 17) (Operand.const (Value.int IntKind.i64 1)))
                            none [5]]
def l49r5b : List AOper :=
  [AOper.mk (some 19)
                            (AOp.build
                              [Value.int IntKind.i64 0, Value.int IntKind.i64 0,
                                Value.int IntKind.i64 0]
                              [(0, 1, Operand.tmp 14), (1, 1, Operand.tmp 18),
                                (2, 1, Operand.const (Value.int IntKind.i64 1))])
                            none [2, 6], AOper.mk none (AOp.store 3 (Operand.tmp 2) (Operand.tmp 19)) none
                            [7, 0, 1, 2, 3, 4, 5, 6, 7]]
def l49r5 : List AOper := l49r5a ++ l49r5b
def l49r6a : List AOper :=
  [AOper.mk (some 20) (AOp.mv (Operand.tmp 0)) none [], AOper.mk (some 21) (AOp.idxA 1 (Operand.tmp 20) (Operand.const (Value.int IntKind.i64 1)))
                none [0], AOper.mk (some 22) (AOp.load false 1 (Operand.tmp 21)) none [1], AOper.mk (some 23) (AOp.mv (Operand.tmp 0)) none [], AOper.mk (some 24) (AOp.idxA 1 (Operand.tmp 23) (Operand.const (Value.int IntKind.i64 0)))
                none [3], AOper.mk (some 25) (AOp.load false 1 (Operand.tmp 24)) none [4]]
def l49r6b : List AOper :=
  [AOper.mk (some 26) (AOp.bin BinOp.sub (Operand.tmp 22) (Operand.tmp 25)) none [2, 5], AOper.mk (some 3) (AOp.mv (Operand.tmp 26)) none [6, 0, 1, 2, 3, 4, 5, 6]]
def l49r6 : List AOper := l49r6a ++ l49r6b
def l49r7 : List AOper :=
  [AOper.mk (some 27) (AOp.mv (Operand.tmp 0)) none [], AOper.mk (some 28) (AOp.mv (Operand.tmp 0)) none [],
                AOper.mk (some 29) (AOp.len (Operand.tmp 28)) none [1],
                AOper.mk (some 30)
                  (AOp.bin BinOp.sub (Operand.tmp 29) (Operand.const (Value.int IntKind.i64 1))) none [2],
                AOper.mk (some 31) (AOp.idxA 1 (Operand.tmp 27) (Operand.tmp 30)) none [0, 3],
                AOper.mk (some 32) (AOp.load false 1 (Operand.tmp 31)) none [4],
                AOper.mk (some 33)
                  (AOp.bin BinOp.add (Operand.tmp 32) (Operand.const (Value.int IntKind.i64 1))) none [5],
                AOper.mk (some 4) (AOp.mv (Operand.tmp 33)) none [6, 0, 1, 2, 3, 4, 5, 6]]
def l49r8 : List AOper :=
  [AOper.mk (some 34) (AOp.mv (Operand.tmp 3)) none [],
                    AOper.mk (some 35)
                      (AOp.bin BinOp.lss (Operand.tmp 34) (Operand.const (Value.int IntKind.i64 0))) none
                      [0]]
def l49r9 : List AOper :=
  [AOper.mk (some 36) (AOp.mv (Operand.tmp 0)) none [],
                      AOper.mk (some 37) (AOp.mv (Operand.tmp 0)) none [],
                      AOper.mk (some 38) (AOp.len (Operand.tmp 37)) none [1],
                      AOper.mk (some 39)
                        (AOp.bin BinOp.sub (Operand.tmp 38) (Operand.const (Value.int IntKind.i64 1))) none
                        [2],
                      AOper.mk (some 40) (AOp.idxA 1 (Operand.tmp 36) (Operand.tmp 39)) none [0, 3],
                      AOper.mk (some 41) (AOp.load false 1 (Operand.tmp 40)) none [4],
                      AOper.mk (some 42)
                        (AOp.bin BinOp.sub (Operand.tmp 41) (Operand.const (Value.int IntKind.i64 1))) none
                        [5],
                      AOper.mk (some 4) (AOp.mv (Operand.tmp 42)) none [6, 0, 1, 2, 3, 4, 5, 6]]
def l49r10 : List AOper :=
  [AOper.mk (some 43) (AOp.mv (Operand.tmp 0)) none [],
                    AOper.mk (some 44)
                      (AOp.idxA 1 (Operand.tmp 43) (Operand.const (Value.int IntKind.i64 0))) none [0],
                    AOper.mk (some 45) (AOp.load false 1 (Operand.tmp 44)) none [1],
                    AOper.mk (some 46) (AOp.mv (Operand.tmp 4)) none [],
                    AOper.mk (some 47) (AOp.mv (Operand.tmp 3)) none [],
                    AOper.mk (some 48)
                      (AOp.build
                        [Value.int IntKind.i64 0, Value.int IntKind.i64 0,
                          Value.int IntKind.i64 0]
                        [(0, 1, Operand.tmp 45), (1, 1, Operand.tmp 46), (2, 1, Operand.tmp 47)])
                      none [2, 3, 4],
                    AOper.mk none (AOp.store 3 (Operand.tmp 2) (Operand.tmp 48)) none [5, 0, 1, 2, 3, 4, 5]]
def l49 : AFn :=
  (AFn.mk 49 1
    (ACode.seq
      (ACode.reg l49r0)
      (ACode.seq
        (ACode.seq
          (ACode.reg l49r1)
          (ACode.block 0
            (ACode.seq
              (ACode.reg l49r2)
              (ACode.cond (Operand.tmp 7)
                (ACode.seq
                  (ACode.reg l49r3)
                  ACode.ret)
                (ACode.seq
                  (ACode.reg l49r4)
                  (ACode.cond (Operand.tmp 10)
                    (ACode.seq
                      (ACode.draw l49r5)
                      ACode.ret)
                    ACode.skip))))))
        (ACode.seq
          (ACode.draw l49r6)
          (ACode.seq
            (ACode.reg l49r7)
            (ACode.seq
              (ACode.seq
                (ACode.reg l49r8)
                (ACode.cond (Operand.tmp 35)
                  (ACode.reg l49r9)
                  ACode.skip))
              (ACode.seq
                (ACode.reg l49r10)
                ACode.ret))))))
    [ARes.cell 2 true 3])
theorem l49_eq : lowFn Try.prog 49 = some l49 := by kernel_rfl
def l50r0 : List AOper :=
  [AOper.mk (some 1) (AOp.box (Operand.tmp 0)) none [],
          AOper.mk (some 2) (AOp.mv (Operand.const (Value.slice none 0 0))) none []]
def l50r1 : List AOper :=
  [AOper.mk (some 5) (AOp.load true 3 (Operand.tmp 1)) none [],
            AOper.mk (some 6) (AOp.call 45 [Operand.tmp 5]) none [0],
            AOper.mk (some 7) (AOp.mkslice 1 [Value.int IntKind.i64 0] (Operand.tmp 6) (Operand.tmp 6)) none
              [1, 1],
            AOper.mk (some 3) (AOp.mv (Operand.tmp 7)) none [2, 1, 0, 1, 2]]
def l50r2 : List AOper :=
  [AOper.mk (some 8) (AOp.mv (Operand.tmp 3)) none [], AOper.mk (some 9) (AOp.len (Operand.tmp 8)) none [0],
                AOper.mk (some 10) (AOp.mv (Operand.const (Value.int IntKind.i64 0))) none []]
def l50r3 : List AOper :=
  [AOper.mk (some 11) (AOp.bin BinOp.lss (Operand.tmp 10) (Operand.tmp 9)) none []]
def l50r4 : List AOper :=
  [AOper.mk (some 12) (AOp.mv (Operand.tmp 10)) none [],
                              AOper.mk (some 4) (AOp.mv (Operand.tmp 12)) none [0, 0]]
def l50r5 : List AOper :=
  [AOper.mk (some 13) (AOp.mv (Operand.tmp 3)) none [],
                              AOper.mk (some 14) (AOp.mv (Operand.tmp 4)) none [],
                              AOper.mk (some 15) (AOp.load true 3 (Operand.tmp 1)) none [],
                              AOper.mk (some 16) (AOp.mv (Operand.tmp 4)) none [],
                              AOper.mk (some 17) (AOp.call 51 [Operand.tmp 15, Operand.tmp 16]) none [2, 3],
                              AOper.mk (some 18) (AOp.idxA 1 (Operand.tmp 13) (Operand.tmp 14)) none
                                [0, 1, 0, 1, 2, 3, 4],
                              AOper.mk none (AOp.store 1 (Operand.tmp 18) (Operand.tmp 17)) none
                                [5, 4, 4, 0, 1, 2, 3, 4]]
def l50r6 : List AOper :=
  [AOper.mk (some 19)
                            (AOp.bin BinOp.add (Operand.tmp 10) (Operand.const (Value.int IntKind.i64 1)))
                            none [],
                          AOper.mk (some 10) (AOp.mv (Operand.tmp 19)) none [0]]
def l50r7 : List AOper :=
  [AOper.mk (some 20) (AOp.mv (Operand.tmp 3)) none [],
                AOper.mk (some 2) (AOp.mv (Operand.tmp 20)) none [0, 0]]
def l50 : AFn :=
  (AFn.mk 21 1
    (ACode.seq
      (ACode.reg l50r0)
      (ACode.seq
        (ACode.reg l50r1)
        (ACode.seq
          (ACode.seq
            (ACode.reg l50r2)
            (ACode.block 0
              (ACode.loop
                (ACode.seq (ACode.reg l50r3)
                  (ACode.seq (ACode.cond (Operand.tmp 11) ACode.skip (ACode.exit 0))
                    (ACode.seq
                      (ACode.block 1
                        (ACode.seq
                          (ACode.reg l50r4)
                          (ACode.reg l50r5)))
                      (ACode.reg l50r6)))))))
          (ACode.seq
            (ACode.reg l50r7)
            ACode.ret))))
    [ARes.tmp 2])
theorem l50_eq : lowFn Try.prog 50 = some l50 := by kernel_rfl
def l51r0 : List AOper :=
  [AOper.mk (some 2) (AOp.box (Operand.tmp 0)) none [],
          AOper.mk (some 4) (AOp.mv (Operand.const (Value.int IntKind.i64 0))) none []]
def l51r1 : List AOper :=
  [AOper.mk (some 5) (AOp.fld 0 (Operand.tmp 2)) none [],
            AOper.mk (some 6) (AOp.load false 1 (Operand.tmp 5)) none [0],
            AOper.mk (some 7) (AOp.mv (Operand.tmp 1)) none [], AOper.mk (some 8) (AOp.fld 2 (Operand.tmp 2)) none [],
            AOper.mk (some 9) (AOp.load false 1 (Operand.tmp 8)) none [3],
            AOper.mk (some 10) (AOp.bin BinOp.mul (Operand.tmp 7) (Operand.tmp 9)) none [2, 4],
            AOper.mk (some 11) (AOp.bin BinOp.add (Operand.tmp 6) (Operand.tmp 10)) none [1, 5],
            AOper.mk (some 4) (AOp.mv (Operand.tmp 11)) none [6, 0, 1, 2, 3, 4, 5, 6]]
def l51 : AFn :=
  (AFn.mk 12 2
    (ACode.seq
      (ACode.reg l51r0)
      (ACode.seq
        (ACode.reg l51r1)
        ACode.ret))
    [ARes.tmp 4])
theorem l51_eq : lowFn Try.prog 51 = some l51 := by kernel_rfl
def l57r0 : List AOper :=
  [AOper.mk (some 4) (AOp.mv (Operand.const (Value.int IntKind.i64 0))) none []]
def l57r1 : List AOper :=
  [AOper.mk (some 7) (AOp.mv (Operand.tmp 0)) none [], AOper.mk (some 8) (AOp.mv (Operand.tmp 0)) none [],
            AOper.mk (some 9) (AOp.nilck (Operand.tmp 8)) none [1],
            AOper.mk (some 10) (AOp.fld 1 (Operand.tmp 9)) none [2],
            AOper.mk (some 11) (AOp.load false 1 (Operand.tmp 10)) none [3],
            AOper.mk (some 12)
              (AOp.bin BinOp.add (Operand.tmp 11) (Operand.const (Value.int IntKind.i64 1))) none [4],
            AOper.mk (some 13) (AOp.nilck (Operand.tmp 7)) none [0, 0, 1, 2, 3, 4, 5],
            AOper.mk (some 14) (AOp.fld 1 (Operand.tmp 13)) none [6, 0, 1, 2, 3, 4, 5],
            AOper.mk none (AOp.store 1 (Operand.tmp 14) (Operand.tmp 12)) none [7, 5, 0, 1, 2, 3, 4, 5]]
def l57r2 : List AOper :=
  [AOper.mk (some 15) (AOp.mv (Operand.tmp 1)) none [],
                AOper.mk (some 16)
                  (AOp.bin BinOp.lss (Operand.tmp 15) (Operand.const (Value.int IntKind.i64 1))) none [0],
                AOper.mk (some 17) (AOp.mv (Operand.tmp 16)) none [1],
                AOper.mk (some 18) (AOp.mv (Operand.tmp 0)) (some (17, false)) [2],
                AOper.mk (some 19) (AOp.nilck (Operand.tmp 18)) (some (17, false)) [3, 2],
                AOper.mk (some 20) (AOp.fld 0 (Operand.tmp 19)) (some (17, false)) [4, 2],
                AOper.mk (some 21) (AOp.load false 1 (Operand.tmp 20)) (some (17, false)) [5, 2],
                AOper.mk (some 22) (AOp.len (Operand.tmp 21)) (some (17, false)) [6, 2],
                AOper.mk (some 23)
                  (AOp.bin BinOp.eql (Operand.tmp 22) (Operand.const (Value.int IntKind.i64 0)))
                  (some (17, false)) [7, 2],
                AOper.mk (some 24) (AOp.pick (Operand.tmp 17) (Operand.const (Value.bool true)) (Operand.tmp 23)) none
                  [2, 8]]
def l57r3 : List AOper :=
  [AOper.mk (some 4) (AOp.mv (Operand.const (Value.int IntKind.i64 0))) none []]
def l57r4 : List AOper :=
  [AOper.mk (some 25) (AOp.mv (Operand.tmp 0)) none [],
                AOper.mk (some 26) (AOp.nilck (Operand.tmp 25)) none [0],
                AOper.mk (some 27) (AOp.fld 1 (Operand.tmp 26)) none [1],
                AOper.mk (some 28) (AOp.load false 1 (Operand.tmp 27)) none [2],
                AOper.mk (some 29)
                  (AOp.bin BinOp.sub (Operand.tmp 28) (Operand.const (Value.int IntKind.i64 1))) none [3],
                AOper.mk (some 5) (AOp.mv (Operand.tmp 29)) none [4, 0, 1, 2, 3, 4]]
def l57r5 : List AOper :=
  [AOper.mk (some 30) (AOp.mv (Operand.tmp 5)) none [],
                    AOper.mk (some 31) (AOp.mv (Operand.tmp 0)) none [],
                    AOper.mk (some 32) (AOp.nilck (Operand.tmp 31)) none [1],
                    AOper.mk (some 33) (AOp.fld 0 (Operand.tmp 32)) none [2],
                    AOper.mk (some 34) (AOp.load false 1 (Operand.tmp 33)) none [3],
                    AOper.mk (some 35) (AOp.len (Operand.tmp 34)) none [4],
                    AOper.mk (some 36) (AOp.bin BinOp.lss (Operand.tmp 30) (Operand.tmp 35)) none [0, 5]]
def l57r6 : List AOper :=
  [AOper.mk (some 37) (AOp.mv (Operand.tmp 0)) none [],
                        AOper.mk (some 38) (AOp.nilck (Operand.tmp 37)) none [0],
                        AOper.mk (some 39) (AOp.fld 0 (Operand.tmp 38)) none [1],
                        AOper.mk (some 40) (AOp.load false 1 (Operand.tmp 39)) none [2],
                        AOper.mk (some 41) (AOp.mv (Operand.tmp 5)) none [],
                        AOper.mk (some 42) (AOp.idxA 1 (Operand.tmp 40) (Operand.tmp 41)) none [3, 4],
                        AOper.mk (some 43) (AOp.load false 1 (Operand.tmp 42)) none [5],
                        AOper.mk (some 44) (AOp.conv IntKind.i64 (Operand.tmp 43)) none [6],
                        AOper.mk (some 45) (AOp.mv (Operand.tmp 1)) none [],
                        AOper.mk (some 46) (AOp.bin BinOp.rem (Operand.tmp 44) (Operand.tmp 45)) none [7, 8],
                        AOper.mk (some 4) (AOp.mv (Operand.tmp 46)) none [9, 0, 1, 2, 3, 4, 5, 6, 7, 8, 9]]
def l57r7a : List AOper :=
  [AOper.mk (some 47) (AOp.mv (Operand.tmp 0)) none [], AOper.mk (some 48) (AOp.nilck (Operand.tmp 47)) none [0], AOper.mk (some 49) (AOp.fld 0 (Operand.tmp 48)) none [1], AOper.mk (some 50) (AOp.load false 1 (Operand.tmp 49)) none [2], AOper.mk (some 51) (AOp.mv (Operand.tmp 5)) none [], AOper.mk (some 52) (AOp.mv (Operand.tmp 0)) none [], AOper.mk (some 53) (AOp.nilck (Operand.tmp 52)) none [5], AOper.mk (some 54) (AOp.fld 0 (Operand.tmp 53)) none [6], AOper.mk (some 55) (AOp.load false 1 (Operand.tmp 54)) none [7], AOper.mk (some 56) (AOp.len (Operand.tmp 55)) none [8], AOper.mk (some 57) (AOp.bin BinOp.rem (Operand.tmp 51) (Operand.tmp 56)) none [4, 9], AOper.mk (some 58) (AOp.idxA 1 (Operand.tmp 50) (Operand.tmp 57)) none [3, 10], AOper.mk (some 59) (AOp.load false 1 (Operand.tmp 58)) none [11], AOper.mk (some 60) (AOp.conv IntKind.i64 (Operand.tmp 59)) none [12], AOper.mk (some 61)
                      (AOp.bin BinOp.mul (Operand.tmp 60) (Operand.const (Value.int IntKind.i64 131))) none
                      [13], AOper.mk (some 62) (AOp.mv (Operand.tmp 0)) none [], AOper.mk (some 63) (AOp.nilck (Operand.tmp 62)) none [15], AOper.mk (some 64) (AOp.fld 0 (Operand.tmp 63)) none [16], AOper.mk (some 65) (AOp.load false 1 (Operand.tmp 64)) none [17], AOper.mk (some 66) (AOp.mv (Operand.tmp 5)) none [], AOper.mk (some 67)
                      (AOp.bin BinOp.mul (Operand.tmp 66) (Operand.const (Value.int IntKind.i64 7))) none
                      [19], AOper.mk (some 68)
                      (AOp.bin BinOp.add (Operand.tmp 67) (Operand.const (Value.int IntKind.i64 3))) none
                      [20], AOper.mk (some 69) (AOp.mv (Operand.tmp 0)) none [], AOper.mk (some 70) (AOp.nilck (Operand.tmp 69)) none [22], AOper.mk (some 71) (AOp.fld 0 (Operand.tmp 70)) none [23], AOper.mk (some 72) (AOp.load false 1 (Operand.tmp 71)) none [24], AOper.mk (some 73) (AOp.len (Operand.tmp 72)) none [25], AOper.mk (some 74) (AOp.bin BinOp.rem (Operand.tmp 68) (Operand.tmp 73)) none [21, 26], AOper.mk (some 75) (AOp.idxA 1 (Operand.tmp 65) (Operand.tmp 74)) none [18, 27], AOper.mk (some 76) (AOp.load false 1 (Operand.tmp 75)) none [28], AOper.mk (some 77) (AOp.conv IntKind.i64 (Operand.tmp 76)) none [29], AOper.mk (some 78)
                      (AOp.bin BinOp.mul (Operand.tmp 77) (Operand.const (Value.int IntKind.i64 1117))) none
                      [30], AOper.mk (some 79) (AOp.bin BinOp.add (Operand.tmp 61) (Operand.tmp 78)) none [14, 31], AOper.mk (some 80) (AOp.mv (Operand.tmp 5)) none [], AOper.mk (some 81)
                      (AOp.bin BinOp.mul (Operand.tmp 80) (Operand.const (Value.int IntKind.i64 29))) none
                      [33], AOper.mk (some 82) (AOp.bin BinOp.add (Operand.tmp 79) (Operand.tmp 81)) none [32, 34], AOper.mk (some 83) (AOp.mv (Operand.tmp 5)) none [], AOper.mk (some 84) (AOp.mv (Operand.tmp 0)) none [], AOper.mk (some 85) (AOp.nilck (Operand.tmp 84)) none [37], AOper.mk (some 86) (AOp.fld 0 (Operand.tmp 85)) none [38], AOper.mk (some 87) (AOp.load false 1 (Operand.tmp 86)) none [39], AOper.mk (some 88) (AOp.len (Operand.tmp 87)) none [40], AOper.mk (some 89) (AOp.bin BinOp.quo (Operand.tmp 83) (Operand.tmp 88)) none [36, 41], AOper.mk (some 90)
                      (AOp.bin BinOp.mul (Operand.tmp 89) (Operand.const (Value.int IntKind.i64 53))) none
                      [42]]
def l57r7b : List AOper :=
  [AOper.mk (some 91) (AOp.bin BinOp.add (Operand.tmp 82) (Operand.tmp 90)) none [35, 43], AOper.mk (some 6) (AOp.mv (Operand.tmp 91)) none
                      [44, 0, 1, 2, 3, 4, 5, 6, 7, 8, 9, 10, 11, 12, 13, 14, 15, 16, 17, 18, 19, 20, 21, 22, 23, 24, 25,
                        26, 27, 28, 29, 30, 31, 32, 33, 34, 35, 36, 37, 38, 39, 40, 41, 42, 43, 44]]
def l57r7 : List AOper := l57r7a ++ l57r7b
def l57r8 : List AOper :=
  [AOper.mk (some 92) (AOp.mv (Operand.tmp 6)) none [],
                      AOper.mk (some 93) (AOp.mv (Operand.tmp 6)) none [],
                      AOper.mk (some 94)
                        (AOp.bin BinOp.quo (Operand.tmp 93) (Operand.const (Value.int IntKind.i64 64))) none
                        [1],
                      AOper.mk (some 95) (AOp.bin BinOp.xor (Operand.tmp 92) (Operand.tmp 94)) none [0, 2],
                      AOper.mk (some 6) (AOp.mv (Operand.tmp 95)) none [3, 0, 1, 2, 3]]
def l57r9 : List AOper :=
  [AOper.mk (some 96) (AOp.mv (Operand.tmp 6)) none [],
                        AOper.mk (some 97) (AOp.mv (Operand.tmp 1)) none [],
                        AOper.mk (some 98) (AOp.bin BinOp.rem (Operand.tmp 96) (Operand.tmp 97)) none [0, 1],
                        AOper.mk (some 4) (AOp.mv (Operand.tmp 98)) none [2, 0, 1, 2]]
def l57 : AFn :=
  (AFn.mk 99 2
    (ACode.seq (ACode.reg l57r0)
      (ACode.seq
        (ACode.reg l57r1)
        (ACode.seq
          (ACode.seq
            (ACode.reg l57r2)
            (ACode.cond (Operand.tmp 24)
              (ACode.seq
                (ACode.reg l57r3)
                ACode.ret)
              ACode.skip))
          (ACode.seq
            (ACode.reg l57r4)
            (ACode.seq
              (ACode.seq
                (ACode.reg l57r5)
                (ACode.cond (Operand.tmp 36)
                  (ACode.seq
                    (ACode.reg l57r6)
                    ACode.ret)
                  ACode.skip))
              (ACode.seq
                (ACode.draw l57r7)
                (ACode.seq
                  (ACode.reg l57r8)
                  (ACode.seq
                    (ACode.reg l57r9)
                    ACode.ret))))))))
    [ARes.tmp 4])
theorem l57_eq : lowFn Try.prog 57 = some l57 := by kernel_rfl
def l67r0 : List AOper :=
  [AOper.mk (some 4) (AOp.mv (Operand.const (Value.bool false))) none []]
def l67r1 : List AOper :=
  [AOper.mk (some 5) (AOp.mv (Operand.tmp 1)) none [],
            AOper.mk (some 6) (AOp.un UnOp.neg (Operand.tmp 5)) none [0],
            AOper.mk (some 7) (AOp.mv (Operand.tmp 0)) none [],
            AOper.mk (some 8) (AOp.bin BinOp.leq (Operand.tmp 6) (Operand.tmp 7)) none [1, 2],
            AOper.mk (some 9) (AOp.mv (Operand.tmp 8)) none [3],
            AOper.mk (some 10) (AOp.mv (Operand.tmp 0)) (some (9, true)) [4],
            AOper.mk (some 11) (AOp.mv (Operand.tmp 1)) (some (9, true)) [4],
            AOper.mk (some 12) (AOp.bin BinOp.leq (Operand.tmp 10) (Operand.tmp 11)) (some (9, true)) [5, 6, 4],
            AOper.mk (some 13) (AOp.pick (Operand.tmp 9) (Operand.tmp 12) (Operand.const (Value.bool false))) none
              [4, 7],
            AOper.mk (some 4) (AOp.mv (Operand.tmp 13)) none [8, 4, 0, 1, 2, 3, 4, 5, 6, 7, 8]]
def l67 : AFn :=
  (AFn.mk 14 2
    (ACode.seq (ACode.reg l67r0)
      (ACode.seq
        (ACode.reg l67r1)
        ACode.ret))
    [ARes.tmp 4])
theorem l67_eq : lowFn Try.prog 67 = some l67 := by kernel_rfl
def l68r0 : List AOper :=
  [AOper.mk (some 2) (AOp.mv (Operand.const (Value.bool false))) none []]
def l68r1 : List AOper :=
  [AOper.mk (some 3) (AOp.mv (Operand.tmp 0)) none [],
            AOper.mk (some 4) (AOp.call 67 [Operand.tmp 3, Operand.const (Value.int IntKind.i64 200)]) none
              [0],
            AOper.mk (some 5) (AOp.mv (Operand.tmp 4)) none [1, 1],
            AOper.mk (some 6) (AOp.mv (Operand.tmp 0)) (some (5, true)) [2],
            AOper.mk (some 7) (AOp.bin BinOp.neq (Operand.tmp 6) (Operand.const (Value.int IntKind.i64 0)))
              (some (5, true)) [3, 2],
            AOper.mk (some 8) (AOp.pick (Operand.tmp 5) (Operand.tmp 7) (Operand.const (Value.bool false))) none [2, 4],
            AOper.mk (some 2) (AOp.mv (Operand.tmp 8)) none [5, 2, 0, 1, 2, 3, 4, 5]]
def l68 : AFn :=
  (AFn.mk 9 1
    (ACode.seq (ACode.reg l68r0)
      (ACode.seq
        (ACode.reg l68r1)
        ACode.ret))
    [ARes.tmp 2])
theorem l68_eq : lowFn Try.prog 68 = some l68 := by kernel_rfl
def l69r0 : List AOper :=
  [AOper.mk (some 6)
            (AOp.alloc
              [Value.int IntKind.i64 0, Value.int IntKind.i64 0,
                Value.int IntKind.i64 0])
            none []]
def l69r1 : List AOper :=
  [AOper.mk (some 8) (AOp.mv (Operand.tmp 2)) none [],
              AOper.mk (some 9)
                (AOp.bin BinOp.lss (Operand.tmp 8) (Operand.const (Value.int IntKind.i64 1))) none [0]]
def l69r2 : List AOper :=
  [AOper.mk (some 10)
                    (AOp.build
                      [Value.int IntKind.i64 0, Value.int IntKind.i64 0,
                        Value.int IntKind.i64 0]
                      [(0, 1, Operand.const (Value.int IntKind.i64 0)),
                        (1, 1, Operand.const (Value.int IntKind.i64 0)),
                        (2, 1, Operand.const (Value.int IntKind.i64 1))])
                    none [],
                  AOper.mk none (AOp.store 3 (Operand.tmp 6) (Operand.tmp 10)) none [0, 0]]
def l69r3 : List AOper :=
  [AOper.mk (some 11) (AOp.mv (Operand.tmp 2)) none [],
                AOper.mk (some 12)
                  (AOp.bin BinOp.eql (Operand.tmp 11) (Operand.const (Value.int IntKind.i64 1))) none [0]]
def l69r4 : List AOper :=
  [AOper.mk (some 13) (AOp.mv (Operand.tmp 0)) none [],
                    AOper.mk (some 14) (AOp.mv (Operand.tmp 0)) none [],
                    AOper.mk (some 15)
                      (AOp.bin BinOp.add (Operand.tmp 14) (Operand.const (Value.int IntKind.i64 1))) none
                      [1],
                    AOper.mk (some 16)
                      (AOp.build
                        [Value.int IntKind.i64 0, Value.int IntKind.i64 0,
                          Value.int IntKind.i64 0]
                        [(0, 1, Operand.tmp 13), (1, 1, Operand.tmp 15),
                          (2, 1, Operand.const (Value.int IntKind.i64 1))])
                      none [0, 2],
                    AOper.mk none (AOp.store 3 (Operand.tmp 6) (Operand.tmp 16)) none [3, 0, 1, 2, 3]]
def l69r5 : List AOper :=
  [AOper.mk (some 17) (AOp.mv (Operand.tmp 0)) none [], AOper.mk (some 18) (AOp.mv (Operand.tmp 2)) none [],
                AOper.mk (some 19)
                  (AOp.bin BinOp.sub (Operand.tmp 18) (Operand.const (Value.int IntKind.i64 1))) none [1],
                AOper.mk (some 20) (AOp.mv (Operand.tmp 1)) none [],
                AOper.mk (some 21) (AOp.bin BinOp.mul (Operand.tmp 19) (Operand.tmp 20)) none [2, 3],
                AOper.mk (some 22) (AOp.bin BinOp.add (Operand.tmp 17) (Operand.tmp 21)) none [0, 4],
                AOper.mk (some 7) (AOp.mv (Operand.tmp 22)) none [5, 0, 1, 2, 3, 4, 5]]
def l69r6 : List AOper :=
  [AOper.mk (some 23) (AOp.mv (Operand.tmp 1)) none [],
                    AOper.mk (some 24)
                      (AOp.bin BinOp.lss (Operand.tmp 23) (Operand.const (Value.int IntKind.i64 0))) none
                      [0]]
def l69r7 : List AOper :=
  [AOper.mk (some 25) (AOp.mv (Operand.tmp 0)) none [],
                        AOper.mk (some 26) (AOp.mv (Operand.tmp 7)) none [],
                        AOper.mk (some 27)
                          (AOp.bin BinOp.sub (Operand.tmp 26) (Operand.const (Value.int IntKind.i64 1)))
                          none [1],
                        AOper.mk (some 28) (AOp.mv (Operand.tmp 1)) none [],
                        AOper.mk (some 29)
                          (AOp.build
                            [Value.int IntKind.i64 0, Value.int IntKind.i64 0,
                              Value.int IntKind.i64 0]
                            [(0, 1, Operand.tmp 25), (1, 1, Operand.tmp 27), (2, 1, Operand.tmp 28)])
                          none [0, 2, 3],
                        AOper.mk none (AOp.store 3 (Operand.tmp 6) (Operand.tmp 29)) none [4, 0, 1, 2, 3, 4]]
def l69r8 : List AOper :=
  [AOper.mk (some 30) (AOp.mv (Operand.tmp 0)) none [],
                    AOper.mk (some 31) (AOp.mv (Operand.tmp 7)) none [],
                    AOper.mk (some 32)
                      (AOp.bin BinOp.add (Operand.tmp 31) (Operand.const (Value.int IntKind.i64 1))) none
                      [1],
                    AOper.mk (some 33) (AOp.mv (Operand.tmp 1)) none [],
                    AOper.mk (some 34)
                      (AOp.build
                        [Value.int IntKind.i64 0, Value.int IntKind.i64 0,
                          Value.int IntKind.i64 0]
                        [(0, 1, Operand.tmp 30), (1, 1, Operand.tmp 32), (2, 1, Operand.tmp 33)])
                      none [0, 2, 3],
                    AOper.mk none (AOp.store 3 (Operand.tmp 6) (Operand.tmp 34)) none [4, 0, 1, 2, 3, 4]]
def l69 : AFn :=
  (AFn.mk 35 3
    (ACode.seq
      (ACode.reg l69r0)
      (ACode.seq
        (ACode.seq
          (ACode.reg l69r1)
          (ACode.cond (Operand.tmp 9)
            (ACode.seq
              (ACode.reg l69r2)
              ACode.ret)
            ACode.skip))
        (ACode.seq
          (ACode.seq
            (ACode.reg l69r3)
            (ACode.cond (Operand.tmp 12)
              (ACode.seq
                (ACode.reg l69r4)
                ACode.ret)
              ACode.skip))
          (ACode.seq
            (ACode.reg l69r5)
            (ACode.seq
              (ACode.seq
                (ACode.reg l69r6)
                (ACode.cond (Operand.tmp 24)
                  (ACode.seq
                    (ACode.reg l69r7)
                    ACode.ret)
                  ACode.skip))
              (ACode.seq
                (ACode.reg l69r8)
                ACode.ret))))))
    [ARes.cell 6 true 3])
theorem l69_eq : lowFn Try.prog 69 = some l69 := by kernel_rfl
end Go.Proofs.Ytjhamlapjiadaaa
