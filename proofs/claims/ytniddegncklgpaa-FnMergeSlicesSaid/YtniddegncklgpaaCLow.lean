import Derived.Test.YtniddegncklgpaaCVwR
import Derived.Test.YtniddegncklgpaaProg
import Derived.KernelRfl
set_option maxRecDepth 100000
namespace Go.Proofs.Ytniddegncklgpaa
open Vw Go
def l6r0 : List AOper :=
  [AOper.mk (some 2) (AOp.mv (Operand.const (Value.bool false))) none []]
def l6r1 : List AOper :=
  [AOper.mk (some 8) (AOp.mv (Operand.tmp 0)) none [], AOper.mk (some 9) (AOp.len (Operand.tmp 8)) none [0],
              AOper.mk (some 10)
                (AOp.bin BinOp.gtr (Operand.tmp 9) (Operand.const (Value.int IntKind.i64 1048576))) none
                [1]]
def l6r2 : List AOper :=
  [AOper.mk (some 2) (AOp.mv (Operand.const (Value.bool true))) none []]
def l6r3 : List AOper :=
  [AOper.mk (some 12) (AOp.mv (Operand.tmp 0)) none [],
              AOper.mk (some 13) (AOp.call 26 [Operand.tmp 12]) none [0],
              AOper.mk (some 11) (AOp.mv (Operand.tmp 13)) none [1],
              AOper.mk (some 14) (AOp.extract (Operand.tmp 11) 0) none [2],
              AOper.mk (some 15) (AOp.extract (Operand.tmp 11) 1) none [2],
              AOper.mk (some 16) (AOp.extract (Operand.tmp 11) 2) none [2],
              AOper.mk (some 4)
                (AOp.alloc
                  [Value.int IntKind.i64 0, Value.int IntKind.i64 0,
                    Value.int IntKind.i64 0, Value.bool false, Value.bool false])
                none [],
              AOper.mk (some 5)
                (AOp.alloc
                  [Value.int IntKind.i64 0, Value.int IntKind.i64 0,
                    Value.int IntKind.i64 0, Value.bool false, Value.bool false])
                none [],
              AOper.mk (some 3) (AOp.mv (Operand.tmp 14)) none [3, 1, 0, 1, 2, 3, 6, 7],
              AOper.mk none (AOp.store 5 (Operand.tmp 4) (Operand.tmp 15)) none [6, 4, 8, 0, 1, 2, 3, 4, 6, 7, 8],
              AOper.mk none (AOp.store 5 (Operand.tmp 5) (Operand.tmp 16)) none
                [7, 5, 9, 0, 1, 2, 3, 4, 5, 6, 7, 8, 9]]
def l6r4 : List AOper :=
  [AOper.mk (some 17) (AOp.mv (Operand.tmp 3)) none [],
                AOper.mk (some 18) (AOp.load true 5 (Operand.tmp 4)) none [],
                AOper.mk (some 19) (AOp.load true 5 (Operand.tmp 5)) none [],
                AOper.mk (some 20) (AOp.call 27 [Operand.tmp 17, Operand.tmp 18, Operand.tmp 19]) none [0, 1, 2],
                AOper.mk (some 6)
                  (AOp.alloc
                    [Value.int IntKind.i64 0, Value.int IntKind.i64 0,
                      Value.int IntKind.i64 0, Value.bool false, Value.bool false])
                  none [],
                AOper.mk none (AOp.store 5 (Operand.tmp 6) (Operand.tmp 20)) none [4, 3, 3, 0, 1, 2, 3, 4]]
def l6r5a : List AOper :=
  [AOper.mk (some 21) (AOp.load true 5 (Operand.tmp 6)) none [], AOper.mk (some 22) (AOp.mv (Operand.tmp 3)) none [], AOper.mk (some 23) (AOp.load true 5 (Operand.tmp 4)) none [], AOper.mk (some 24) (AOp.load true 5 (Operand.tmp 5)) none [], AOper.mk (some 25) (AOp.call 29 [Operand.tmp 22, Operand.tmp 23, Operand.tmp 24]) none [1, 2, 3]]
def l6r5b : List AOper :=
  [AOper.mk (some 26) (AOp.call 28 [Operand.tmp 21, Operand.tmp 25]) none [0, 4, 4], AOper.mk (some 27) (AOp.un UnOp.not (Operand.tmp 26)) none [5], AOper.mk (some 28) (AOp.mv (Operand.tmp 27)) none [6, 5], AOper.mk (some 29) (AOp.fld 2 (Operand.tmp 6)) (some (28, false)) [7], AOper.mk (some 30) (AOp.load false 1 (Operand.tmp 29)) (some (28, false)) [8, 7], AOper.mk (some 31)
                      (AOp.bin BinOp.eql (Operand.tmp 30) (Operand.const (Value.int IntKind.i64 0)))
                      (some (28, false)) [9, 7], AOper.mk (some 32) (AOp.pick (Operand.tmp 28) (Operand.const (Value.bool true)) (Operand.tmp 31))
                      none [7, 10]]
def l6r5 : List AOper := l6r5a ++ l6r5b
def l6r6a : List AOper :=
  [AOper.mk (some 33) (AOp.load true 5 (Operand.tmp 6)) none [], AOper.mk (some 34) (AOp.mv (Operand.tmp 3)) none [], AOper.mk (some 35) (AOp.load true 5 (Operand.tmp 4)) none [], AOper.mk (some 36) (AOp.load true 5 (Operand.tmp 5)) none [], AOper.mk (some 37) (AOp.call 29 [Operand.tmp 34, Operand.tmp 35, Operand.tmp 36]) none
                          [1, 2, 3]]
def l6r6b : List AOper :=
  [AOper.mk (some 38) (AOp.call 28 [Operand.tmp 33, Operand.tmp 37]) none [0, 4, 4], AOper.mk (some 2) (AOp.mv (Operand.tmp 38)) none [5, 5, 0, 1, 2, 3, 4, 5]]
def l6r6 : List AOper := l6r6a ++ l6r6b
def l6r7 : List AOper :=
  [AOper.mk (some 39) (AOp.mv (Operand.tmp 3)) none [],
                    AOper.mk (some 40) (AOp.load true 5 (Operand.tmp 4)) none [],
                    AOper.mk (some 41) (AOp.call 12 [Operand.tmp 39, Operand.tmp 40]) none [0, 1],
                    AOper.mk (some 7) (AOp.mv (Operand.tmp 41)) none [2, 2, 0, 1, 2]]
def l6r8a : List AOper :=
  [AOper.mk (some 42) (AOp.mv (Operand.tmp 3)) none [], AOper.mk (some 43) (AOp.load true 5 (Operand.tmp 6)) none [], AOper.mk (some 44) (AOp.call 12 [Operand.tmp 42, Operand.tmp 43]) none [0, 1], AOper.mk (some 45) (AOp.mv (Operand.tmp 7)) none [], AOper.mk (some 46) (AOp.mv (Operand.tmp 7)) none [], AOper.mk (some 47) (AOp.len (Operand.tmp 46)) none [4], AOper.mk (some 48) (AOp.load true 5 (Operand.tmp 5)) none [], AOper.mk (some 49) (AOp.call 12 [Operand.tmp 47, Operand.tmp 48]) none [5, 6, 2]]
def l6r8b : List AOper :=
  [AOper.mk (some 50) (AOp.call 23 [Operand.tmp 45, Operand.tmp 49]) none [3, 7, 7], AOper.mk (some 51) (AOp.call 13 [Operand.tmp 44, Operand.tmp 50]) none [2, 8, 8], AOper.mk (some 52) (AOp.mv (Operand.tmp 51)) none [9, 9], AOper.mk (some 53) (AOp.load true 5 (Operand.tmp 6)) (some (52, true)) [10], AOper.mk (some 54) (AOp.call 15 [Operand.tmp 53]) (some (52, true)) [11, 10, 10], AOper.mk (some 55) (AOp.pick (Operand.tmp 52) (Operand.tmp 54) (Operand.const (Value.bool false)))
                        none [10, 12], AOper.mk (some 2) (AOp.mv (Operand.tmp 55)) none
                        [13, 12, 0, 1, 2, 3, 4, 5, 6, 7, 8, 9, 10, 11, 12, 13]]
def l6r8 : List AOper := l6r8a ++ l6r8b
def l6 : AFn :=
  (AFn.mk 56 1
    (ACode.seq (ACode.reg l6r0)
      (ACode.seq
        (ACode.seq
          (ACode.reg l6r1)
          (ACode.cond (Operand.tmp 10)
            (ACode.seq (ACode.reg l6r2) ACode.ret)
            ACode.skip))
        (ACode.seq
          (ACode.reg l6r3)
          (ACode.seq
            (ACode.reg l6r4)
            (ACode.seq
              (ACode.seq
                (ACode.draw l6r5)
                (ACode.cond (Operand.tmp 32)
                  (ACode.seq
                    (ACode.draw l6r6)
                    ACode.ret)
                  ACode.skip))
              (ACode.seq
                (ACode.reg l6r7)
                (ACode.seq
                  (ACode.draw l6r8)
                  ACode.ret)))))))
    [ARes.tmp 2])
theorem l6_eq : lowFn Try.prog 6 = some l6 := by kernel_rfl
def l12r0 : List AOper :=
  [AOper.mk (some 3) (AOp.box (Operand.tmp 1)) none [],
          AOper.mk (some 4) (AOp.mv (Operand.const (Value.slice none 0 0))) none []]
def l12r1 : List AOper :=
  [AOper.mk (some 5) (AOp.mv (Operand.tmp 0)) none [],
              AOper.mk (some 6) (AOp.call 48 [Operand.tmp 5]) none [0],
              AOper.mk (some 7) (AOp.un UnOp.not (Operand.tmp 6)) none [1],
              AOper.mk (some 8) (AOp.mv (Operand.tmp 7)) none [2, 1],
              AOper.mk (some 9) (AOp.load true 5 (Operand.tmp 3)) (some (8, false)) [3],
              AOper.mk (some 10) (AOp.call 15 [Operand.tmp 9]) (some (8, false)) [4, 3, 3],
              AOper.mk (some 11) (AOp.un UnOp.not (Operand.tmp 10)) (some (8, false)) [5, 3],
              AOper.mk (some 12) (AOp.pick (Operand.tmp 8) (Operand.const (Value.bool true)) (Operand.tmp 11)) none
                [3, 6]]
def l12r2 : List AOper :=
  [AOper.mk (some 4) (AOp.mv (Operand.const (Value.slice none 0 0))) none []]
def l12r3 : List AOper :=
  [AOper.mk (some 13) (AOp.load true 5 (Operand.tmp 3)) none [],
              AOper.mk (some 14) (AOp.mv (Operand.tmp 0)) none [],
              AOper.mk (some 15) (AOp.call 49 [Operand.tmp 13, Operand.tmp 14]) none [0, 1],
              AOper.mk (some 16) (AOp.call 50 [Operand.tmp 15]) none [2, 2],
              AOper.mk (some 4) (AOp.mv (Operand.tmp 16)) none [3, 3, 0, 1, 2, 3]]
def l12 : AFn :=
  (AFn.mk 17 2
    (ACode.seq
      (ACode.reg l12r0)
      (ACode.seq
        (ACode.seq
          (ACode.reg l12r1)
          (ACode.cond (Operand.tmp 12)
            (ACode.seq (ACode.reg l12r2)
              ACode.ret)
            ACode.skip))
        (ACode.seq
          (ACode.reg l12r3)
          ACode.ret)))
    [ARes.tmp 4])
theorem l12_eq : lowFn Try.prog 12 = some l12 := by kernel_rfl
def l13r0 : List AOper :=
  [AOper.mk (some 4) (AOp.mv (Operand.const (Value.bool false))) none []]
def l13r1 : List AOper :=
  [AOper.mk (some 6) (AOp.mv (Operand.tmp 0)) none [], AOper.mk (some 7) (AOp.len (Operand.tmp 6)) none [0],
              AOper.mk (some 8) (AOp.mv (Operand.tmp 1)) none [], AOper.mk (some 9) (AOp.len (Operand.tmp 8)) none [2],
              AOper.mk (some 10) (AOp.bin BinOp.neq (Operand.tmp 7) (Operand.tmp 9)) none [1, 3]]
def l13r2 : List AOper :=
  [AOper.mk (some 4) (AOp.mv (Operand.const (Value.bool false))) none []]
def l13r3 : List AOper :=
  [AOper.mk (some 5) (AOp.mv (Operand.const (Value.int IntKind.i64 0))) none []]
def l13r4 : List AOper :=
  [AOper.mk (some 11) (AOp.mv (Operand.tmp 5)) none [],
                        AOper.mk (some 12) (AOp.mv (Operand.tmp 0)) none [],
                        AOper.mk (some 13) (AOp.len (Operand.tmp 12)) none [1],
                        AOper.mk (some 14) (AOp.bin BinOp.lss (Operand.tmp 11) (Operand.tmp 13)) none [0, 2]]
def l13r5a : List AOper :=
  [AOper.mk (some 17) (AOp.mv (Operand.tmp 0)) none [], AOper.mk (some 18) (AOp.mv (Operand.tmp 5)) none [], AOper.mk (some 19) (AOp.idxA 1 (Operand.tmp 17) (Operand.tmp 18)) none [0, 1], AOper.mk (some 20) (AOp.load false 1 (Operand.tmp 19)) none [2], AOper.mk (some 21) (AOp.mv (Operand.tmp 1)) none [], AOper.mk (some 22) (AOp.mv (Operand.tmp 5)) none [], AOper.mk (some 23) (AOp.idxA 1 (Operand.tmp 21) (Operand.tmp 22)) none [4, 5], AOper.mk (some 24) (AOp.load false 1 (Operand.tmp 23)) none [6]]
def l13r5b : List AOper :=
  [AOper.mk (some 25) (AOp.bin BinOp.neq (Operand.tmp 20) (Operand.tmp 24)) none [3, 7]]
def l13r5 : List AOper := l13r5a ++ l13r5b
def l13r6 : List AOper :=
  [AOper.mk (some 4) (AOp.mv (Operand.const (Value.bool false))) none []]
def l13r7 : List AOper :=
  [AOper.mk (some 15) (AOp.mv (Operand.tmp 5)) none [],
                        AOper.mk (some 16)
                          (AOp.bin BinOp.add (Operand.tmp 15) (Operand.const (Value.int IntKind.i64 1)))
                          none [0],
                        AOper.mk (some 5) (AOp.mv (Operand.tmp 16)) none [1, 0, 1]]
def l13r8 : List AOper :=
  [AOper.mk (some 4) (AOp.mv (Operand.const (Value.bool true))) none []]
def l13 : AFn :=
  (AFn.mk 26 2
    (ACode.seq (ACode.reg l13r0)
      (ACode.seq
        (ACode.seq
          (ACode.reg l13r1)
          (ACode.cond (Operand.tmp 10)
            (ACode.seq (ACode.reg l13r2) ACode.ret)
            ACode.skip))
        (ACode.seq
          (ACode.seq
            (ACode.reg l13r3)
            (ACode.block 0
              (ACode.loop
                (ACode.seq
                  (ACode.seq
                    (ACode.reg l13r4)
                    (ACode.cond (Operand.tmp 14) ACode.skip (ACode.exit 0)))
                  (ACode.seq
                    (ACode.block 1
                      (ACode.seq
                        (ACode.draw l13r5)
                        (ACode.cond (Operand.tmp 25)
                          (ACode.seq (ACode.reg l13r6)
                            ACode.ret)
                          ACode.skip)))
                    (ACode.reg l13r7))))))
          (ACode.seq (ACode.reg l13r8) ACode.ret))))
    [ARes.tmp 4])
theorem l13_eq : lowFn Try.prog 13 = some l13 := by kernel_rfl
def l15r0 : List AOper :=
  [AOper.mk (some 1) (AOp.box (Operand.tmp 0)) none [],
          AOper.mk (some 2) (AOp.mv (Operand.const (Value.bool false))) none []]
def l15r1 : List AOper :=
  [AOper.mk (some 3) (AOp.fld 0 (Operand.tmp 1)) none [],
            AOper.mk (some 4) (AOp.load false 1 (Operand.tmp 3)) none [0],
            AOper.mk (some 5) (AOp.fld 3 (Operand.tmp 1)) none [],
            AOper.mk (some 6) (AOp.load false 1 (Operand.tmp 5)) none [2],
            AOper.mk (some 7) (AOp.call 54 [Operand.tmp 4, Operand.tmp 6]) none [1, 3],
            AOper.mk (some 8) (AOp.mv (Operand.tmp 7)) none [4, 4],
            AOper.mk (some 9) (AOp.fld 1 (Operand.tmp 1)) (some (8, true)) [5],
            AOper.mk (some 10) (AOp.load false 1 (Operand.tmp 9)) (some (8, true)) [6, 5],
            AOper.mk (some 11) (AOp.fld 4 (Operand.tmp 1)) (some (8, true)) [5],
            AOper.mk (some 12) (AOp.load false 1 (Operand.tmp 11)) (some (8, true)) [8, 5],
            AOper.mk (some 13) (AOp.call 54 [Operand.tmp 10, Operand.tmp 12]) (some (8, true)) [7, 9, 5, 5],
            AOper.mk (some 14) (AOp.pick (Operand.tmp 8) (Operand.tmp 13) (Operand.const (Value.bool false))) none
              [5, 10],
            AOper.mk (some 15) (AOp.mv (Operand.tmp 14)) none [11, 10],
            AOper.mk (some 16) (AOp.fld 2 (Operand.tmp 1)) (some (15, true)) [12],
            AOper.mk (some 17) (AOp.load false 1 (Operand.tmp 16)) (some (15, true)) [13, 12],
            AOper.mk (some 18) (AOp.call 55 [Operand.tmp 17]) (some (15, true)) [14, 12, 12],
            AOper.mk (some 19) (AOp.pick (Operand.tmp 15) (Operand.tmp 18) (Operand.const (Value.bool false))) none
              [12, 15],
            AOper.mk (some 2) (AOp.mv (Operand.tmp 19)) none
              [16, 15, 0, 1, 2, 3, 4, 5, 6, 7, 8, 9, 10, 11, 12, 13, 14, 15, 16]]
def l15 : AFn :=
  (AFn.mk 20 1
    (ACode.seq
      (ACode.reg l15r0)
      (ACode.seq
        (ACode.reg l15r1)
        ACode.ret))
    [ARes.tmp 2])
theorem l15_eq : lowFn Try.prog 15 = some l15 := by kernel_rfl
def l23r0 : List AOper :=
  [AOper.mk (some 4) (AOp.mv (Operand.const (Value.slice none 0 0))) none []]
def l23r1 : List AOper :=
  [AOper.mk (some 7) (AOp.bslice 1 [Value.int IntKind.i64 0] [] 0) none [],
            AOper.mk (some 5) (AOp.mv (Operand.tmp 7)) none [0, 0]]
def l23r2 : List AOper :=
  [AOper.mk (some 6) (AOp.mv (Operand.const (Value.int IntKind.i64 0))) none []]
def l23r3 : List AOper :=
  [AOper.mk (some 8) (AOp.mv (Operand.tmp 6)) none [],
                        AOper.mk (some 9) (AOp.mv (Operand.tmp 1)) none [],
                        AOper.mk (some 10) (AOp.len (Operand.tmp 9)) none [1],
                        AOper.mk (some 11) (AOp.bin BinOp.lss (Operand.tmp 8) (Operand.tmp 10)) none [0, 2]]
def l23r4 : List AOper :=
  [AOper.mk (some 14) (AOp.mv (Operand.tmp 5)) none [],
                          AOper.mk (some 15) (AOp.mv (Operand.tmp 0)) none [],
                          AOper.mk (some 16) (AOp.mv (Operand.tmp 1)) none [],
                          AOper.mk (some 17) (AOp.mv (Operand.tmp 6)) none [],
                          AOper.mk (some 18) (AOp.idxA 1 (Operand.tmp 16) (Operand.tmp 17)) none [2, 3],
                          AOper.mk (some 19) (AOp.load false 1 (Operand.tmp 18)) none [4],
                          AOper.mk (some 20) (AOp.idxA 1 (Operand.tmp 15) (Operand.tmp 19)) none [1, 5],
                          AOper.mk (some 21) (AOp.load false 1 (Operand.tmp 20)) none [6],
                          AOper.mk (some 22)
                            (AOp.bslice 1 [Value.int IntKind.i64 0] [(0, Operand.tmp 21)] 1) none [7],
                          AOper.mk (some 23) (AOp.append 1 (Operand.tmp 14) (Operand.tmp 22)) none [0, 8],
                          AOper.mk (some 5) (AOp.mv (Operand.tmp 23)) none [9, 9, 0, 1, 2, 3, 4, 5, 6, 7, 8, 9]]
def l23r5 : List AOper :=
  [AOper.mk (some 12) (AOp.mv (Operand.tmp 6)) none [],
                        AOper.mk (some 13)
                          (AOp.bin BinOp.add (Operand.tmp 12) (Operand.const (Value.int IntKind.i64 1)))
                          none [0],
                        AOper.mk (some 6) (AOp.mv (Operand.tmp 13)) none [1, 0, 1]]
def l23r6 : List AOper :=
  [AOper.mk (some 24) (AOp.mv (Operand.tmp 5)) none [],
                AOper.mk (some 4) (AOp.mv (Operand.tmp 24)) none [0, 0]]
def l23 : AFn :=
  (AFn.mk 25 2
    (ACode.seq (ACode.reg l23r0)
      (ACode.seq
        (ACode.reg l23r1)
        (ACode.seq
          (ACode.seq
            (ACode.reg l23r2)
            (ACode.block 0
              (ACode.loop
                (ACode.seq
                  (ACode.seq
                    (ACode.reg l23r3)
                    (ACode.cond (Operand.tmp 11) ACode.skip (ACode.exit 0)))
                  (ACode.seq
                    (ACode.block 1
                      (ACode.reg l23r4))
                    (ACode.reg l23r5))))))
          (ACode.seq
            (ACode.reg l23r6)
            ACode.ret))))
    [ARes.tmp 4])
theorem l23_eq : lowFn Try.prog 23 = some l23 := by kernel_rfl
def l26r0 : List AOper :=
  [AOper.mk (some 2) (AOp.mv (Operand.const (Value.int IntKind.i64 0))) none [],
          AOper.mk (some 3)
            (AOp.alloc
              [Value.int IntKind.i64 0, Value.int IntKind.i64 0,
                Value.int IntKind.i64 0, Value.bool false, Value.bool false])
            none [],
          AOper.mk (some 4)
            (AOp.alloc
              [Value.int IntKind.i64 0, Value.int IntKind.i64 0,
                Value.int IntKind.i64 0, Value.bool false, Value.bool false])
            none []]
def l26r1 : List AOper :=
  [AOper.mk (some 6) (AOp.mv (Operand.tmp 0)) none [], AOper.mk (some 7) (AOp.call 44 [Operand.tmp 6]) none [0],
            AOper.mk (some 5) (AOp.mv (Operand.tmp 7)) none [1, 1, 0, 1]]
def l26r2 : List AOper :=
  [AOper.mk (some 8) (AOp.mv (Operand.tmp 5)) none [], AOper.mk (some 9) (AOp.mv (Operand.tmp 5)) none [],
              AOper.mk (some 10) (AOp.call 46 [Operand.tmp 9, Operand.const (Value.int IntKind.i64 20)])
                none [1],
              AOper.mk (some 11)
                (AOp.bslice 1 [Value.int IntKind.i64 0]
                  [(0, Operand.const (Value.int IntKind.i64 10)),
                    (1, Operand.const (Value.int IntKind.i64 6)),
                    (2, Operand.const (Value.int IntKind.i64 15)), (3, Operand.tmp 10),
                    (4, Operand.const (Value.int IntKind.i64 0)),
                    (5, Operand.const (Value.int IntKind.i64 1)),
                    (6, Operand.const (Value.int IntKind.i64 61))]
                  7)
                none [2],
              AOper.mk (some 12) (AOp.call 45 [Operand.tmp 8, Operand.tmp 11]) none [0, 3, 2],
              AOper.mk (some 13) (AOp.mv (Operand.tmp 5)) none [],
              AOper.mk (some 14) (AOp.call 47 [Operand.tmp 13]) none [5, 4],
              AOper.mk (some 15) (AOp.mv (Operand.tmp 5)) none [],
              AOper.mk (some 16) (AOp.call 47 [Operand.tmp 15]) none [7, 6],
              AOper.mk (some 2) (AOp.mv (Operand.tmp 12)) none [4, 8, 0, 1, 2, 3, 4],
              AOper.mk none (AOp.store 5 (Operand.tmp 3) (Operand.tmp 14)) none [6, 9, 0, 1, 2, 3, 4, 5, 6, 9],
              AOper.mk none (AOp.store 5 (Operand.tmp 4) (Operand.tmp 16)) none
                [8, 10, 0, 1, 2, 3, 4, 5, 6, 7, 8, 9, 10]]
def l26 : AFn :=
  (AFn.mk 17 1
    (ACode.seq
      (ACode.reg l26r0)
      (ACode.seq
        (ACode.reg l26r1)
        (ACode.seq
          (ACode.reg l26r2)
          ACode.ret)))
    [ARes.tmp 2, ARes.cell 3 true 5, ARes.cell 4 true 5])
theorem l26_eq : lowFn Try.prog 26 = some l26 := by kernel_rfl
def l27r0 : List AOper :=
  [AOper.mk (some 4) (AOp.box (Operand.tmp 1)) none [], AOper.mk (some 5) (AOp.box (Operand.tmp 2)) none [],
          AOper.mk (some 6)
            (AOp.alloc
              [Value.int IntKind.i64 0, Value.int IntKind.i64 0,
                Value.int IntKind.i64 0, Value.bool false, Value.bool false])
            none []]
def l27r1 : List AOper :=
  [AOper.mk (some 10) (AOp.mv (Operand.tmp 0)) none [],
              AOper.mk (some 11) (AOp.call 48 [Operand.tmp 10]) none [0],
              AOper.mk (some 12) (AOp.un UnOp.not (Operand.tmp 11)) none [1],
              AOper.mk (some 13) (AOp.mv (Operand.tmp 12)) none [2, 1],
              AOper.mk (some 14) (AOp.load true 5 (Operand.tmp 4)) (some (13, false)) [3],
              AOper.mk (some 15) (AOp.call 15 [Operand.tmp 14]) (some (13, false)) [4, 3, 3],
              AOper.mk (some 16) (AOp.un UnOp.not (Operand.tmp 15)) (some (13, false)) [5, 3],
              AOper.mk (some 17) (AOp.pick (Operand.tmp 13) (Operand.const (Value.bool true)) (Operand.tmp 16)) none
                [3, 6],
              AOper.mk (some 18) (AOp.mv (Operand.tmp 17)) none [7, 5],
              AOper.mk (some 19) (AOp.load true 5 (Operand.tmp 5)) (some (18, false)) [8],
              AOper.mk (some 20) (AOp.call 15 [Operand.tmp 19]) (some (18, false)) [9, 8, 8],
              AOper.mk (some 21) (AOp.un UnOp.not (Operand.tmp 20)) (some (18, false)) [10, 8],
              AOper.mk (some 22) (AOp.pick (Operand.tmp 18) (Operand.const (Value.bool true)) (Operand.tmp 21)) none
                [8, 11]]
def l27r2 : List AOper :=
  [AOper.mk (some 23)
                    (AOp.build
                      [Value.int IntKind.i64 0, Value.int IntKind.i64 0,
                        Value.int IntKind.i64 0, Value.bool false, Value.bool false]
                      [])
                    none [],
                  AOper.mk none (AOp.store 5 (Operand.tmp 6) (Operand.tmp 23)) none [0, 0]]
def l27r3 : List AOper :=
  [AOper.mk (some 24) (AOp.load true 5 (Operand.tmp 4)) none [],
              AOper.mk (some 25) (AOp.mv (Operand.tmp 0)) none [],
              AOper.mk (some 26) (AOp.call 49 [Operand.tmp 24, Operand.tmp 25]) none [0, 1],
              AOper.mk (some 7)
                (AOp.alloc
                  [Value.int IntKind.i64 0, Value.int IntKind.i64 0,
                    Value.int IntKind.i64 0])
                none [],
              AOper.mk none (AOp.store 3 (Operand.tmp 7) (Operand.tmp 26)) none [3, 2, 2, 0, 1, 2, 3]]
def l27r4a : List AOper :=
  [AOper.mk (some 27) (AOp.load true 3 (Operand.tmp 7)) none [], AOper.mk (some 28) (AOp.load true 5 (Operand.tmp 5)) none [], AOper.mk (some 29) (AOp.load true 3 (Operand.tmp 7)) none [], AOper.mk (some 30) (AOp.call 57 [Operand.tmp 29]) none [2], AOper.mk (some 31) (AOp.call 49 [Operand.tmp 28, Operand.tmp 30]) none [1, 3, 3], AOper.mk (some 32) (AOp.call 58 [Operand.tmp 27, Operand.tmp 31]) none [0, 4, 4], AOper.mk (some 8)
                  (AOp.alloc
                    [Value.int IntKind.i64 0, Value.int IntKind.i64 0,
                      Value.int IntKind.i64 0])
                  none []]
def l27r4b : List AOper :=
  [AOper.mk none (AOp.store 3 (Operand.tmp 8) (Operand.tmp 32)) none [6, 5, 5, 0, 1, 2, 3, 4, 5, 6]]
def l27r4 : List AOper := l27r4a ++ l27r4b
def l27r5 : List AOper :=
  [AOper.mk (some 33) (AOp.fld 0 (Operand.tmp 8)) none [],
                  AOper.mk (some 34) (AOp.load false 1 (Operand.tmp 33)) none [0],
                  AOper.mk (some 35) (AOp.fld 1 (Operand.tmp 8)) none [],
                  AOper.mk (some 36) (AOp.load false 1 (Operand.tmp 35)) none [2],
                  AOper.mk (some 37) (AOp.fld 2 (Operand.tmp 8)) none [],
                  AOper.mk (some 38) (AOp.load false 1 (Operand.tmp 37)) none [4],
                  AOper.mk (some 39)
                    (AOp.build
                      [Value.int IntKind.i64 0, Value.int IntKind.i64 0,
                        Value.int IntKind.i64 0, Value.bool false, Value.bool false]
                      [(0, 1, Operand.tmp 34), (1, 1, Operand.tmp 36), (2, 1, Operand.tmp 38),
                        (3, 1, Operand.const (Value.bool true)), (4, 1, Operand.const (Value.bool true))])
                    none [1, 3, 5],
                  AOper.mk (some 9)
                    (AOp.alloc
                      [Value.int IntKind.i64 0, Value.int IntKind.i64 0,
                        Value.int IntKind.i64 0, Value.bool false, Value.bool false])
                    none [],
                  AOper.mk none (AOp.store 5 (Operand.tmp 9) (Operand.tmp 39)) none [7, 6, 0, 1, 2, 3, 4, 5, 6, 7]]
def l27r6 : List AOper :=
  [AOper.mk (some 40) (AOp.fld 1 (Operand.tmp 8)) none [],
                      AOper.mk (some 41) (AOp.load false 1 (Operand.tmp 40)) none [0],
                      AOper.mk (some 42)
                        (AOp.bin BinOp.eql (Operand.tmp 41) (Operand.const (Value.int IntKind.i64 (-1))))
                        none [1]]
def l27r7 : List AOper :=
  [AOper.mk (some 43) (AOp.fld 1 (Operand.tmp 9)) none [],
                        AOper.mk none
                          (AOp.store 1 (Operand.tmp 43) (Operand.const (Value.int IntKind.i64 0))) none [0],
                        AOper.mk (some 44) (AOp.fld 4 (Operand.tmp 9)) none [0, 1],
                        AOper.mk none (AOp.store 1 (Operand.tmp 44) (Operand.const (Value.bool false))) none
                          [2, 1, 0, 1]]
def l27r8 : List AOper :=
  [AOper.mk (some 45) (AOp.load true 5 (Operand.tmp 9)) none [],
                      AOper.mk none (AOp.store 5 (Operand.tmp 6) (Operand.tmp 45)) none [0, 0]]
def l27 : AFn :=
  (AFn.mk 46 3
    (ACode.seq
      (ACode.reg l27r0)
      (ACode.seq
        (ACode.seq
          (ACode.reg l27r1)
          (ACode.cond (Operand.tmp 22)
            (ACode.seq
              (ACode.reg l27r2)
              ACode.ret)
            ACode.skip))
        (ACode.seq
          (ACode.reg l27r3)
          (ACode.seq
            (ACode.draw l27r4)
            (ACode.seq
              (ACode.reg l27r5)
              (ACode.seq
                (ACode.seq
                  (ACode.reg l27r6)
                  (ACode.cond (Operand.tmp 42)
                    (ACode.reg l27r7)
                    ACode.skip))
                (ACode.seq
                  (ACode.reg l27r8)
                  ACode.ret)))))))
    [ARes.cell 6 true 5])
theorem l27_eq : lowFn Try.prog 27 = some l27 := by kernel_rfl
def l28r0 : List AOper :=
  [AOper.mk (some 2) (AOp.box (Operand.tmp 0)) none [], AOper.mk (some 3) (AOp.box (Operand.tmp 1)) none [],
          AOper.mk (some 4) (AOp.mv (Operand.const (Value.bool false))) none []]
def l28r1 : List AOper :=
  [AOper.mk (some 5) (AOp.load true 5 (Operand.tmp 2)) none [],
            AOper.mk (some 6) (AOp.load true 5 (Operand.tmp 3)) none [],
            AOper.mk (some 7)
              (AOp.eqS false [(0, some IntKind.i64), (1, some IntKind.i64), (2, some IntKind.i64), (3, none), (4, none)]
                (Operand.tmp 5) (Operand.tmp 6))
              none [0, 1],
            AOper.mk (some 4) (AOp.mv (Operand.tmp 7)) none [2, 0, 1, 2]]
def l28 : AFn :=
  (AFn.mk 8 2
    (ACode.seq
      (ACode.reg l28r0)
      (ACode.seq
        (ACode.reg l28r1)
        ACode.ret))
    [ARes.tmp 4])
theorem l28_eq : lowFn Try.prog 28 = some l28 := by kernel_rfl
def l29r0 : List AOper :=
  [AOper.mk (some 4) (AOp.box (Operand.tmp 1)) none [], AOper.mk (some 5) (AOp.box (Operand.tmp 2)) none [],
          AOper.mk (some 6)
            (AOp.alloc
              [Value.int IntKind.i64 0, Value.int IntKind.i64 0,
                Value.int IntKind.i64 0, Value.bool false, Value.bool false])
            none []]
def l29r1 : List AOper :=
  [AOper.mk (some 11) (AOp.mv (Operand.tmp 0)) none [],
              AOper.mk (some 12)
                (AOp.call 51
                  [Operand.tmp 11, Operand.const (Value.int IntKind.i64 0),
                    Operand.const (Value.int IntKind.i64 60)])
                none [0],
              AOper.mk (some 13) (AOp.un UnOp.not (Operand.tmp 12)) none [1],
              AOper.mk (some 14) (AOp.mv (Operand.tmp 13)) none [2, 1],
              AOper.mk (some 15) (AOp.load true 5 (Operand.tmp 4)) (some (14, false)) [3],
              AOper.mk (some 16) (AOp.call 52 [Operand.tmp 15]) (some (14, false)) [4, 3, 3],
              AOper.mk (some 17) (AOp.un UnOp.not (Operand.tmp 16)) (some (14, false)) [5, 3],
              AOper.mk (some 18) (AOp.pick (Operand.tmp 14) (Operand.const (Value.bool true)) (Operand.tmp 17)) none
                [3, 6],
              AOper.mk (some 19) (AOp.mv (Operand.tmp 18)) none [7, 5],
              AOper.mk (some 20) (AOp.load true 5 (Operand.tmp 5)) (some (19, false)) [8],
              AOper.mk (some 21) (AOp.call 52 [Operand.tmp 20]) (some (19, false)) [9, 8, 8],
              AOper.mk (some 22) (AOp.un UnOp.not (Operand.tmp 21)) (some (19, false)) [10, 8],
              AOper.mk (some 23) (AOp.pick (Operand.tmp 19) (Operand.const (Value.bool true)) (Operand.tmp 22)) none
                [8, 11]]
def l29r2 : List AOper :=
  [AOper.mk (some 24)
                    (AOp.build
                      [Value.int IntKind.i64 0, Value.int IntKind.i64 0,
                        Value.int IntKind.i64 0, Value.bool false, Value.bool false]
                      [])
                    none [],
                  AOper.mk none (AOp.store 5 (Operand.tmp 6) (Operand.tmp 24)) none [0, 0]]
def l29r3 : List AOper :=
  [AOper.mk (some 25) (AOp.mv (Operand.tmp 0)) none [],
              AOper.mk (some 26) (AOp.load true 5 (Operand.tmp 4)) none [],
              AOper.mk (some 27) (AOp.call 53 [Operand.tmp 25, Operand.tmp 26]) none [0, 1],
              AOper.mk (some 7) (AOp.mv (Operand.tmp 27)) none [2, 2, 0, 1, 2]]
def l29r4 : List AOper :=
  [AOper.mk (some 28) (AOp.mv (Operand.tmp 7)) none [],
                AOper.mk (some 29) (AOp.len (Operand.tmp 28)) none [0],
                AOper.mk (some 30) (AOp.load true 5 (Operand.tmp 5)) none [],
                AOper.mk (some 31) (AOp.call 53 [Operand.tmp 29, Operand.tmp 30]) none [1, 2],
                AOper.mk (some 8) (AOp.mv (Operand.tmp 31)) none [3, 3, 0, 1, 2, 3]]
def l29r5 : List AOper :=
  [AOper.mk (some 32) (AOp.bslice 1 [Value.int IntKind.i64 0] [] 0) none [],
                  AOper.mk (some 9) (AOp.mv (Operand.tmp 32)) none [0, 0]]
def l29r6 : List AOper :=
  [AOper.mk (some 10) (AOp.mv (Operand.const (Value.int IntKind.i64 0))) none []]
def l29r7 : List AOper :=
  [AOper.mk (some 33) (AOp.mv (Operand.tmp 10)) none [],
                              AOper.mk (some 34) (AOp.mv (Operand.tmp 8)) none [],
                              AOper.mk (some 35) (AOp.len (Operand.tmp 34)) none [1],
                              AOper.mk (some 36) (AOp.bin BinOp.lss (Operand.tmp 33) (Operand.tmp 35)) none [0, 2]]
def l29r8 : List AOper :=
  [AOper.mk (some 39) (AOp.mv (Operand.tmp 9)) none [],
                                AOper.mk (some 40) (AOp.mv (Operand.tmp 7)) none [],
                                AOper.mk (some 41) (AOp.mv (Operand.tmp 8)) none [],
                                AOper.mk (some 42) (AOp.mv (Operand.tmp 10)) none [],
                                AOper.mk (some 43) (AOp.idxA 1 (Operand.tmp 41) (Operand.tmp 42)) none [2, 3],
                                AOper.mk (some 44) (AOp.load false 1 (Operand.tmp 43)) none [4],
                                AOper.mk (some 45) (AOp.idxA 1 (Operand.tmp 40) (Operand.tmp 44)) none [1, 5],
                                AOper.mk (some 46) (AOp.load false 1 (Operand.tmp 45)) none [6],
                                AOper.mk (some 47)
                                  (AOp.bslice 1 [Value.int IntKind.i64 0] [(0, Operand.tmp 46)] 1) none [7],
                                AOper.mk (some 48) (AOp.append 1 (Operand.tmp 39) (Operand.tmp 47)) none [0, 8],
                                AOper.mk (some 9) (AOp.mv (Operand.tmp 48)) none [9, 9, 0, 1, 2, 3, 4, 5, 6, 7, 8, 9]]
def l29r9 : List AOper :=
  [AOper.mk (some 37) (AOp.mv (Operand.tmp 10)) none [],
                              AOper.mk (some 38)
                                (AOp.bin BinOp.add (Operand.tmp 37)
                                  (Operand.const (Value.int IntKind.i64 1)))
                                none [0],
                              AOper.mk (some 10) (AOp.mv (Operand.tmp 38)) none [1, 0, 1]]
def l29r10 : List AOper :=
  [AOper.mk (some 49) (AOp.mv (Operand.tmp 9)) none [],
                      AOper.mk (some 50) (AOp.call 61 [Operand.tmp 49]) none [0],
                      AOper.mk (some 51) (AOp.call 64 [Operand.tmp 50]) none [1, 1],
                      AOper.mk none (AOp.store 5 (Operand.tmp 6) (Operand.tmp 51)) none [2, 2, 0, 1, 2]]
def l29 : AFn :=
  (AFn.mk 52 3
    (ACode.seq
      (ACode.reg l29r0)
      (ACode.seq
        (ACode.seq
          (ACode.reg l29r1)
          (ACode.cond (Operand.tmp 23)
            (ACode.seq
              (ACode.reg l29r2)
              ACode.ret)
            ACode.skip))
        (ACode.seq
          (ACode.reg l29r3)
          (ACode.seq
            (ACode.reg l29r4)
            (ACode.seq
              (ACode.reg l29r5)
              (ACode.seq
                (ACode.seq
                  (ACode.reg l29r6)
                  (ACode.block 0
                    (ACode.loop
                      (ACode.seq
                        (ACode.seq
                          (ACode.reg l29r7)
                          (ACode.cond (Operand.tmp 36) ACode.skip (ACode.exit 0)))
                        (ACode.seq
                          (ACode.block 1
                            (ACode.reg l29r8))
                          (ACode.reg l29r9))))))
                (ACode.seq
                  (ACode.reg l29r10)
                  ACode.ret)))))))
    [ARes.cell 6 true 5])
theorem l29_eq : lowFn Try.prog 29 = some l29 := by kernel_rfl
def l44r0 : List AOper :=
  [AOper.mk (some 2) (AOp.mv (Operand.const (Value.pointer none))) none []]
def l44r1 : List AOper :=
  [AOper.mk (some 3) (AOp.mv (Operand.tmp 0)) none [], AOper.mk (some 4) (AOp.len (Operand.tmp 3)) none [0],
              AOper.mk (some 5)
                (AOp.bin BinOp.gtr (Operand.tmp 4) (Operand.const (Value.int IntKind.i64 2000))) none [1]]
def l44r2 : List AOper :=
  [AOper.mk (some 6) (AOp.mv (Operand.tmp 0)) none [],
                AOper.mk (some 7)
                  (AOp.slice 1 (Operand.tmp 6) none (some (Operand.const (Value.int IntKind.i64 2000))))
                  none [0],
                AOper.mk (some 0) (AOp.mv (Operand.tmp 7)) none [1, 0, 1]]
def l44r3 : List AOper :=
  [AOper.mk (some 8) (AOp.mv (Operand.tmp 0)) none [],
              AOper.mk (some 9)
                (AOp.build [Value.slice none 0 0, Value.int IntKind.i64 0] [(0, 1, Operand.tmp 8)]) none
                [0],
              AOper.mk (some 10) (AOp.box (Operand.tmp 9)) none [1],
              AOper.mk (some 2) (AOp.mv (Operand.tmp 10)) none [2, 0, 1, 2]]
def l44 : AFn :=
  (AFn.mk 11 1
    (ACode.seq (ACode.reg l44r0)
      (ACode.seq
        (ACode.seq
          (ACode.reg l44r1)
          (ACode.cond (Operand.tmp 5)
            (ACode.reg l44r2)
            ACode.skip))
        (ACode.seq
          (ACode.reg l44r3)
          ACode.ret)))
    [ARes.tmp 2])
theorem l44_eq : lowFn Try.prog 44 = some l44 := by kernel_rfl
def l45r0 : List AOper :=
  [AOper.mk (some 4) (AOp.mv (Operand.const (Value.int IntKind.i64 0))) none []]
def l45r1 : List AOper :=
  [AOper.mk (some 5) (AOp.mv (Operand.tmp 1)) none [], AOper.mk (some 6) (AOp.mv (Operand.tmp 0)) none [],
            AOper.mk (some 7) (AOp.mv (Operand.tmp 1)) none [], AOper.mk (some 8) (AOp.len (Operand.tmp 7)) none [2],
            AOper.mk (some 9) (AOp.call 46 [Operand.tmp 6, Operand.tmp 8]) none [1, 3],
            AOper.mk (some 10) (AOp.idxA 1 (Operand.tmp 5) (Operand.tmp 9)) none [0, 4],
            AOper.mk (some 11) (AOp.load false 1 (Operand.tmp 10)) none [5],
            AOper.mk (some 4) (AOp.mv (Operand.tmp 11)) none [6, 4, 0, 1, 2, 3, 4, 5, 6]]
def l45 : AFn :=
  (AFn.mk 12 2
    (ACode.seq (ACode.reg l45r0)
      (ACode.seq
        (ACode.reg l45r1)
        ACode.ret))
    [ARes.tmp 4])
theorem l45_eq : lowFn Try.prog 45 = some l45 := by kernel_rfl
def l46r0 : List AOper :=
  [AOper.mk (some 4) (AOp.mv (Operand.const (Value.int IntKind.i64 0))) none []]
def l46r1 : List AOper :=
  [AOper.mk (some 7) (AOp.mv (Operand.tmp 0)) none [], AOper.mk (some 8) (AOp.mv (Operand.tmp 0)) none [],
            AOper.mk (some 9) (AOp.nilck (Operand.tmp 8)) none [1],
            AOper.mk (some 10) (AOp.fld 1 (Operand.tmp 9)) none [2],
            AOper.mk (some 11) (AOp.load false 1 (Operand.tmp 10)) none [3],
            AOper.mk (some 12)
              (AOp.bin BinOp.add (Operand.tmp 11) (Operand.const (Value.int IntKind.i64 1))) none [4],
            AOper.mk (some 13) (AOp.nilck (Operand.tmp 7)) none [0, 0, 1, 2, 3, 4, 5],
            AOper.mk (some 14) (AOp.fld 1 (Operand.tmp 13)) none [6, 0, 1, 2, 3, 4, 5],
            AOper.mk none (AOp.store 1 (Operand.tmp 14) (Operand.tmp 12)) none [7, 5, 0, 1, 2, 3, 4, 5]]
def l46r2 : List AOper :=
  [AOper.mk (some 15) (AOp.mv (Operand.tmp 1)) none [],
                AOper.mk (some 16)
                  (AOp.bin BinOp.lss (Operand.tmp 15) (Operand.const (Value.int IntKind.i64 1))) none [0],
                AOper.mk (some 17) (AOp.mv (Operand.tmp 16)) none [1],
                AOper.mk (some 18) (AOp.mv (Operand.tmp 0)) (some (17, false)) [2],
                AOper.mk (some 19) (AOp.nilck (Operand.tmp 18)) (some (17, false)) [3, 2],
                AOper.mk (some 20) (AOp.fld 0 (Operand.tmp 19)) (some (17, false)) [4, 2],
                AOper.mk (some 21) (AOp.load false 1 (Operand.tmp 20)) (some (17, false)) [5, 2],
                AOper.mk (some 22) (AOp.len (Operand.tmp 21)) (some (17, false)) [6, 2],
                AOper.mk (some 23)
                  (AOp.bin BinOp.eql (Operand.tmp 22) (Operand.const (Value.int IntKind.i64 0)))
                  (some (17, false)) [7, 2],
                AOper.mk (some 24) (AOp.pick (Operand.tmp 17) (Operand.const (Value.bool true)) (Operand.tmp 23)) none
                  [2, 8]]
def l46r3 : List AOper :=
  [AOper.mk (some 4) (AOp.mv (Operand.const (Value.int IntKind.i64 0))) none []]
def l46r4 : List AOper :=
  [AOper.mk (some 25) (AOp.mv (Operand.tmp 0)) none [],
                AOper.mk (some 26) (AOp.nilck (Operand.tmp 25)) none [0],
                AOper.mk (some 27) (AOp.fld 1 (Operand.tmp 26)) none [1],
                AOper.mk (some 28) (AOp.load false 1 (Operand.tmp 27)) none [2],
                AOper.mk (some 29)
                  (AOp.bin BinOp.sub (Operand.tmp 28) (Operand.const (Value.int IntKind.i64 1))) none [3],
                AOper.mk (some 5) (AOp.mv (Operand.tmp 29)) none [4, 0, 1, 2, 3, 4]]
def l46r5 : List AOper :=
  [AOper.mk (some 30) (AOp.mv (Operand.tmp 5)) none [],
                    AOper.mk (some 31) (AOp.mv (Operand.tmp 0)) none [],
                    AOper.mk (some 32) (AOp.nilck (Operand.tmp 31)) none [1],
                    AOper.mk (some 33) (AOp.fld 0 (Operand.tmp 32)) none [2],
                    AOper.mk (some 34) (AOp.load false 1 (Operand.tmp 33)) none [3],
                    AOper.mk (some 35) (AOp.len (Operand.tmp 34)) none [4],
                    AOper.mk (some 36) (AOp.bin BinOp.lss (Operand.tmp 30) (Operand.tmp 35)) none [0, 5]]
def l46r6 : List AOper :=
  [AOper.mk (some 37) (AOp.mv (Operand.tmp 0)) none [],
                        AOper.mk (some 38) (AOp.nilck (Operand.tmp 37)) none [0],
                        AOper.mk (some 39) (AOp.fld 0 (Operand.tmp 38)) none [1],
                        AOper.mk (some 40) (AOp.load false 1 (Operand.tmp 39)) none [2],
                        AOper.mk (some 41) (AOp.mv (Operand.tmp 5)) none [],
                        AOper.mk (some 42) (AOp.idxA 1 (Operand.tmp 40) (Operand.tmp 41)) none [3, 4],
                        AOper.mk (some 43) (AOp.load false 1 (Operand.tmp 42)) none [5],
                        AOper.mk (some 44) (AOp.conv IntKind.i64 (Operand.tmp 43)) none [6],
                        AOper.mk (some 45) (AOp.mv (Operand.tmp 1)) none [],
                        AOper.mk (some 46) (AOp.bin BinOp.rem (Operand.tmp 44) (Operand.tmp 45)) none [7, 8],
                        AOper.mk (some 4) (AOp.mv (Operand.tmp 46)) none [9, 0, 1, 2, 3, 4, 5, 6, 7, 8, 9]]
def l46r7a : List AOper :=
  [AOper.mk (some 47) (AOp.mv (Operand.tmp 0)) none [], AOper.mk (some 48) (AOp.nilck (Operand.tmp 47)) none [0], AOper.mk (some 49) (AOp.fld 0 (Operand.tmp 48)) none [1], AOper.mk (some 50) (AOp.load false 1 (Operand.tmp 49)) none [2], AOper.mk (some 51) (AOp.mv (Operand.tmp 5)) none [], AOper.mk (some 52) (AOp.mv (Operand.tmp 0)) none [], AOper.mk (some 53) (AOp.nilck (Operand.tmp 52)) none [5], AOper.mk (some 54) (AOp.fld 0 (Operand.tmp 53)) none [6], AOper.mk (some 55) (AOp.load false 1 (Operand.tmp 54)) none [7], AOper.mk (some 56) (AOp.len (Operand.tmp 55)) none [8], AOper.mk (some 57) (AOp.bin BinOp.rem (Operand.tmp 51) (Operand.tmp 56)) none [4, 9], AOper.mk (some 58) (AOp.idxA 1 (Operand.tmp 50) (Operand.tmp 57)) none [3, 10], AOper.mk (some 59) (AOp.load false 1 (Operand.tmp 58)) none [11], AOper.mk (some 60) (AOp.conv IntKind.i64 (Operand.tmp 59)) none [12], AOper.mk (some 61)
                      (AOp.bin BinOp.mul (Operand.tmp 60) (Operand.const (Value.int IntKind.i64 131))) none
                      [13], AOper.mk (some 62) (AOp.mv (Operand.tmp 0)) none [], AOper.mk (some 63) (AOp.nilck (Operand.tmp 62)) none [15], AOper.mk (some 64) (AOp.fld 0 (Operand.tmp 63)) none [16], AOper.mk (some 65) (AOp.load false 1 (Operand.tmp 64)) none [17], AOper.mk (some 66) (AOp.mv (Operand.tmp 5)) none [], AOper.mk (some 67)
                      (AOp.bin BinOp.mul (Operand.tmp 66) (Operand.const (Value.int IntKind.i64 7))) none
                      [19], AOper.mk (some 68)
                      (AOp.bin BinOp.add (Operand.tmp 67) (Operand.const (Value.int IntKind.i64 3))) none
                      [20], AOper.mk (some 69) (AOp.mv (Operand.tmp 0)) none [], AOper.mk (some 70) (AOp.nilck (Operand.tmp 69)) none [22], AOper.mk (some 71) (AOp.fld 0 (Operand.tmp 70)) none [23], AOper.mk (some 72) (AOp.load false 1 (Operand.tmp 71)) none [24], AOper.mk (some 73) (AOp.len (Operand.tmp 72)) none [25], AOper.mk (some 74) (AOp.bin BinOp.rem (Operand.tmp 68) (Operand.tmp 73)) none [21, 26], AOper.mk (some 75) (AOp.idxA 1 (Operand.tmp 65) (Operand.tmp 74)) none [18, 27], AOper.mk (some 76) (AOp.load false 1 (Operand.tmp 75)) none [28], AOper.mk (some 77) (AOp.conv IntKind.i64 (Operand.tmp 76)) none [29], AOper.mk (some 78)
                      (AOp.bin BinOp.mul (Operand.tmp 77) (Operand.const (Value.int IntKind.i64 1117))) none
                      [30], AOper.mk (some 79) (AOp.bin BinOp.add (Operand.tmp 61) (Operand.tmp 78)) none [14, 31], AOper.mk (some 80) (AOp.mv (Operand.tmp 5)) none [], AOper.mk (some 81)
                      (AOp.bin BinOp.mul (Operand.tmp 80) (Operand.const (Value.int IntKind.i64 29))) none
                      [33], AOper.mk (some 82) (AOp.bin BinOp.add (Operand.tmp 79) (Operand.tmp 81)) none [32, 34], AOper.mk (some 83) (AOp.mv (Operand.tmp 5)) none [], AOper.mk (some 84) (AOp.mv (Operand.tmp 0)) none [], AOper.mk (some 85) (AOp.nilck (Operand.tmp 84)) none [37], AOper.mk (some 86) (AOp.fld 0 (Operand.tmp 85)) none [38], AOper.mk (some 87) (AOp.load false 1 (Operand.tmp 86)) none [39], AOper.mk (some 88) (AOp.len (Operand.tmp 87)) none [40], AOper.mk (some 89) (AOp.bin BinOp.quo (Operand.tmp 83) (Operand.tmp 88)) none [36, 41], AOper.mk (some 90)
                      (AOp.bin BinOp.mul (Operand.tmp 89) (Operand.const (Value.int IntKind.i64 53))) none
                      [42]]
def l46r7b : List AOper :=
  [AOper.mk (some 91) (AOp.bin BinOp.add (Operand.tmp 82) (Operand.tmp 90)) none [35, 43], AOper.mk (some 6) (AOp.mv (Operand.tmp 91)) none
                      [44, 0, 1, 2, 3, 4, 5, 6, 7, 8, 9, 10, 11, 12, 13, 14, 15, 16, 17, 18, 19, 20, 21, 22, 23, 24, 25,
                        26, 27, 28, 29, 30, 31, 32, 33, 34, 35, 36, 37, 38, 39, 40, 41, 42, 43, 44]]
def l46r7 : List AOper := l46r7a ++ l46r7b
def l46r8 : List AOper :=
  [AOper.mk (some 92) (AOp.mv (Operand.tmp 6)) none [],
                      AOper.mk (some 93) (AOp.mv (Operand.tmp 6)) none [],
                      AOper.mk (some 94)
                        (AOp.bin BinOp.quo (Operand.tmp 93) (Operand.const (Value.int IntKind.i64 64))) none
                        [1],
                      AOper.mk (some 95) (AOp.bin BinOp.xor (Operand.tmp 92) (Operand.tmp 94)) none [0, 2],
                      AOper.mk (some 6) (AOp.mv (Operand.tmp 95)) none [3, 0, 1, 2, 3]]
def l46r9 : List AOper :=
  [AOper.mk (some 96) (AOp.mv (Operand.tmp 6)) none [],
                        AOper.mk (some 97) (AOp.mv (Operand.tmp 1)) none [],
                        AOper.mk (some 98) (AOp.bin BinOp.rem (Operand.tmp 96) (Operand.tmp 97)) none [0, 1],
                        AOper.mk (some 4) (AOp.mv (Operand.tmp 98)) none [2, 0, 1, 2]]
def l46 : AFn :=
  (AFn.mk 99 2
    (ACode.seq (ACode.reg l46r0)
      (ACode.seq
        (ACode.reg l46r1)
        (ACode.seq
          (ACode.seq
            (ACode.reg l46r2)
            (ACode.cond (Operand.tmp 24)
              (ACode.seq
                (ACode.reg l46r3)
                ACode.ret)
              ACode.skip))
          (ACode.seq
            (ACode.reg l46r4)
            (ACode.seq
              (ACode.seq
                (ACode.reg l46r5)
                (ACode.cond (Operand.tmp 36)
                  (ACode.seq
                    (ACode.reg l46r6)
                    ACode.ret)
                  ACode.skip))
              (ACode.seq
                (ACode.draw l46r7)
                (ACode.seq
                  (ACode.reg l46r8)
                  (ACode.seq
                    (ACode.reg l46r9)
                    ACode.ret))))))))
    [ARes.tmp 4])
theorem l46_eq : lowFn Try.prog 46 = some l46 := by kernel_rfl
def l47r0 : List AOper :=
  [AOper.mk (some 2)
            (AOp.alloc
              [Value.int IntKind.i64 0, Value.int IntKind.i64 0,
                Value.int IntKind.i64 0, Value.bool false, Value.bool false])
            none []]
def l47r1 : List AOper :=
  [AOper.mk (some 4) (AOp.mv (Operand.tmp 0)) none [],
            AOper.mk (some 5)
              (AOp.bslice 1 [Value.int IntKind.i64 0]
                [(0, Operand.const (Value.int IntKind.i64 1)),
                  (1, Operand.const (Value.int IntKind.i64 2)),
                  (2, Operand.const (Value.int IntKind.i64 (-1))),
                  (3, Operand.const (Value.int IntKind.i64 3)),
                  (4, Operand.const (Value.int IntKind.i64 (-2))),
                  (5, Operand.const (Value.int IntKind.i64 1)),
                  (6, Operand.const (Value.int IntKind.i64 5))]
                7)
              none [],
            AOper.mk (some 6) (AOp.call 45 [Operand.tmp 4, Operand.tmp 5]) none [0, 1],
            AOper.mk (some 7)
              (AOp.build
                [Value.int IntKind.i64 0, Value.int IntKind.i64 0,
                  Value.int IntKind.i64 0, Value.bool false, Value.bool false]
                [(2, 1, Operand.tmp 6)])
              none [2],
            AOper.mk (some 3)
              (AOp.alloc
                [Value.int IntKind.i64 0, Value.int IntKind.i64 0,
                  Value.int IntKind.i64 0, Value.bool false, Value.bool false])
              none [],
            AOper.mk none (AOp.store 5 (Operand.tmp 3) (Operand.tmp 7)) none [4, 3, 2, 0, 1, 2, 3, 4]]
def l47r2 : List AOper :=
  [AOper.mk (some 8) (AOp.mv (Operand.tmp 0)) none [],
                AOper.mk (some 9) (AOp.call 46 [Operand.tmp 8, Operand.const (Value.int IntKind.i64 2)])
                  none [0],
                AOper.mk (some 10)
                  (AOp.bin BinOp.eql (Operand.tmp 9) (Operand.const (Value.int IntKind.i64 0))) none [1]]
def l47r3 : List AOper :=
  [AOper.mk (some 11) (AOp.fld 3 (Operand.tmp 3)) none [],
                    AOper.mk none (AOp.store 1 (Operand.tmp 11) (Operand.const (Value.bool true))) none [0]]
def l47r4 : List AOper :=
  [AOper.mk (some 12) (AOp.mv (Operand.tmp 0)) none [],
                    AOper.mk (some 13) (AOp.mv (Operand.tmp 0)) none [],
                    AOper.mk (some 14)
                      (AOp.call 46 [Operand.tmp 13, Operand.const (Value.int IntKind.i64 12)]) none [1],
                    AOper.mk (some 15)
                      (AOp.bslice 1 [Value.int IntKind.i64 0]
                        [(0, Operand.const (Value.int IntKind.i64 1)),
                          (1, Operand.const (Value.int IntKind.i64 2)),
                          (2, Operand.const (Value.int IntKind.i64 0)),
                          (3, Operand.const (Value.int IntKind.i64 (-1))),
                          (4, Operand.const (Value.int IntKind.i64 (-3))), (5, Operand.tmp 14),
                          (6, Operand.const (Value.int IntKind.i64 30)),
                          (7, Operand.const (Value.int IntKind.i64 (-30)))]
                        8)
                      none [2],
                    AOper.mk (some 16) (AOp.call 45 [Operand.tmp 12, Operand.tmp 15]) none [0, 3, 2],
                    AOper.mk (some 17) (AOp.fld 0 (Operand.tmp 3)) none [0, 1, 2, 3, 4],
                    AOper.mk none (AOp.store 1 (Operand.tmp 17) (Operand.tmp 16)) none [5, 4, 4, 0, 1, 2, 3, 4]]
def l47r5 : List AOper :=
  [AOper.mk (some 18) (AOp.mv (Operand.tmp 0)) none [],
                  AOper.mk (some 19) (AOp.call 46 [Operand.tmp 18, Operand.const (Value.int IntKind.i64 2)])
                    none [0],
                  AOper.mk (some 20)
                    (AOp.bin BinOp.eql (Operand.tmp 19) (Operand.const (Value.int IntKind.i64 0))) none
                    [1]]
def l47r6 : List AOper :=
  [AOper.mk (some 21) (AOp.fld 4 (Operand.tmp 3)) none [],
                      AOper.mk none (AOp.store 1 (Operand.tmp 21) (Operand.const (Value.bool true))) none [0]]
def l47r7 : List AOper :=
  [AOper.mk (some 22) (AOp.mv (Operand.tmp 0)) none [],
                      AOper.mk (some 23) (AOp.mv (Operand.tmp 0)) none [],
                      AOper.mk (some 24)
                        (AOp.call 46 [Operand.tmp 23, Operand.const (Value.int IntKind.i64 12)]) none [1],
                      AOper.mk (some 25)
                        (AOp.bslice 1 [Value.int IntKind.i64 0]
                          [(0, Operand.const (Value.int IntKind.i64 4)),
                            (1, Operand.const (Value.int IntKind.i64 3)),
                            (2, Operand.const (Value.int IntKind.i64 (-1))),
                            (3, Operand.const (Value.int IntKind.i64 (-2))),
                            (4, Operand.const (Value.int IntKind.i64 0)), (5, Operand.tmp 24),
                            (6, Operand.const (Value.int IntKind.i64 30)),
                            (7, Operand.const (Value.int IntKind.i64 (-30)))]
                          8)
                        none [2],
                      AOper.mk (some 26) (AOp.call 45 [Operand.tmp 22, Operand.tmp 25]) none [0, 3, 2],
                      AOper.mk (some 27) (AOp.fld 1 (Operand.tmp 3)) none [0, 1, 2, 3, 4],
                      AOper.mk none (AOp.store 1 (Operand.tmp 27) (Operand.tmp 26)) none [5, 4, 4, 0, 1, 2, 3, 4]]
def l47r8 : List AOper :=
  [AOper.mk (some 28) (AOp.mv (Operand.tmp 0)) none [],
                    AOper.mk (some 29)
                      (AOp.call 46 [Operand.tmp 28, Operand.const (Value.int IntKind.i64 24)]) none [0]]
def l47r9 : List AOper :=
  [AOper.mk (some 31)
                          (AOp.bin BinOp.eql (Operand.tmp 29) (Operand.const (Value.int IntKind.i64 0)))
                          none [],
                        AOper.mk (some 30) (AOp.mv (Operand.tmp 31)) none [0]]
def l47r10 : List AOper :=
  [AOper.mk (some 32) (AOp.mv (Operand.tmp 0)) none [],
                          AOper.mk (some 33)
                            (AOp.bslice 1 [Value.int IntKind.i64 0]
                              [(0, Operand.const (Value.int IntKind.i64 0)),
                                (1, Operand.const (Value.int IntKind.i64 201))]
                              2)
                            none [],
                          AOper.mk (some 34) (AOp.call 45 [Operand.tmp 32, Operand.tmp 33]) none [0, 1],
                          AOper.mk (some 35) (AOp.fld 2 (Operand.tmp 3)) none [0, 1, 2],
                          AOper.mk none (AOp.store 1 (Operand.tmp 35) (Operand.tmp 34)) none [3, 2, 2, 0, 1, 2]]
def l47r11 : List AOper :=
  [AOper.mk (some 37)
                              (AOp.bin BinOp.eql (Operand.tmp 29) (Operand.const (Value.int IntKind.i64 1)))
                              none [],
                            AOper.mk (some 36) (AOp.mv (Operand.tmp 37)) none [0]]
def l47r12 : List AOper :=
  [AOper.mk (some 38) (AOp.fld 0 (Operand.tmp 3)) none [],
                              AOper.mk none
                                (AOp.store 1 (Operand.tmp 38) (Operand.const (Value.int IntKind.i64 101)))
                                none [0]]
def l47r13 : List AOper :=
  [AOper.mk (some 40)
                                  (AOp.bin BinOp.eql (Operand.tmp 29)
                                    (Operand.const (Value.int IntKind.i64 2)))
                                  none [],
                                AOper.mk (some 39) (AOp.mv (Operand.tmp 40)) none [0]]
def l47r14 : List AOper :=
  [AOper.mk (some 41) (AOp.mv (Operand.tmp 0)) none [],
                                  AOper.mk (some 42)
                                    (AOp.bslice 1 [Value.int IntKind.i64 0]
                                      [(0, Operand.const (Value.int IntKind.i64 1)),
                                        (1, Operand.const (Value.int IntKind.i64 (-101)))]
                                      2)
                                    none [],
                                  AOper.mk (some 43) (AOp.call 45 [Operand.tmp 41, Operand.tmp 42]) none [0, 1],
                                  AOper.mk (some 44) (AOp.fld 1 (Operand.tmp 3)) none [0, 1, 2],
                                  AOper.mk none (AOp.store 1 (Operand.tmp 44) (Operand.tmp 43)) none
                                    [3, 2, 2, 0, 1, 2]]
def l47r15 : List AOper :=
  [AOper.mk (some 45) (AOp.load true 5 (Operand.tmp 3)) none [],
                    AOper.mk none (AOp.store 5 (Operand.tmp 2) (Operand.tmp 45)) none [0, 0]]
def l47 : AFn :=
  (AFn.mk 46 1
    (ACode.seq
      (ACode.reg l47r0)
      (ACode.seq
        (ACode.reg l47r1)
        (ACode.seq
          (ACode.seq
            (ACode.reg l47r2)
            (ACode.cond (Operand.tmp 10)
              (ACode.seq
                (ACode.reg l47r3)
                (ACode.reg l47r4))
              ACode.skip))
          (ACode.seq
            (ACode.seq
              (ACode.reg l47r5)
              (ACode.cond (Operand.tmp 20)
                (ACode.seq
                  (ACode.reg l47r6)
                  (ACode.reg l47r7))
                ACode.skip))
            (ACode.seq
              (ACode.seq
                (ACode.reg l47r8)
                (ACode.block 0
                  (ACode.seq
                    (ACode.reg l47r9)
                    (ACode.cond (Operand.tmp 30)
                      (ACode.reg l47r10)
                      (ACode.seq
                        (ACode.reg l47r11)
                        (ACode.cond (Operand.tmp 36)
                          (ACode.reg l47r12)
                          (ACode.seq
                            (ACode.reg l47r13)
                            (ACode.cond (Operand.tmp 39)
                              (ACode.reg l47r14)
                              ACode.skip))))))))
              (ACode.seq
                (ACode.reg l47r15)
                ACode.ret))))))
    [ARes.cell 2 true 5])
theorem l47_eq : lowFn Try.prog 47 = some l47 := by kernel_rfl
def l48r0 : List AOper :=
  [AOper.mk (some 2) (AOp.mv (Operand.const (Value.bool false))) none []]
def l48r1 : List AOper :=
  [AOper.mk (some 3) (AOp.mv (Operand.tmp 0)) none [],
            AOper.mk (some 4) (AOp.bin BinOp.leq (Operand.const (Value.int IntKind.i64 0)) (Operand.tmp 3))
              none [0],
            AOper.mk (some 5) (AOp.mv (Operand.tmp 4)) none [1],
            AOper.mk (some 6) (AOp.mv (Operand.tmp 0)) (some (5, true)) [2],
            AOper.mk (some 7) (AOp.bin BinOp.leq (Operand.tmp 6) (Operand.const (Value.int IntKind.i64 60)))
              (some (5, true)) [3, 2],
            AOper.mk (some 8) (AOp.pick (Operand.tmp 5) (Operand.tmp 7) (Operand.const (Value.bool false))) none [2, 4],
            AOper.mk (some 2) (AOp.mv (Operand.tmp 8)) none [5, 2, 0, 1, 2, 3, 4, 5]]
def l48 : AFn :=
  (AFn.mk 9 1
    (ACode.seq (ACode.reg l48r0)
      (ACode.seq
        (ACode.reg l48r1)
        ACode.ret))
    [ARes.tmp 2])
theorem l48_eq : lowFn Try.prog 48 = some l48 := by kernel_rfl
def l49r0 : List AOper :=
  [AOper.mk (some 2) (AOp.box (Operand.tmp 0)) none [],
          AOper.mk (some 4)
            (AOp.alloc
              [Value.int IntKind.i64 0, Value.int IntKind.i64 0,
                Value.int IntKind.i64 0])
            none []]
def l49r1 : List AOper :=
  [AOper.mk (some 8) (AOp.mv (Operand.tmp 1)) none [],
            AOper.mk (some 5) (AOp.mv (Operand.const (Value.int IntKind.i64 0))) none [],
            AOper.mk (some 6) (AOp.mv (Operand.tmp 8)) none [0, 1, 0, 1]]
def l49r2 : List AOper :=
  [AOper.mk (some 9) (AOp.mv (Operand.tmp 5)) none [], AOper.mk (some 10) (AOp.mv (Operand.tmp 6)) none [],
              AOper.mk (some 11) (AOp.fld 2 (Operand.tmp 2)) none [],
              AOper.mk (some 12) (AOp.load false 1 (Operand.tmp 11)) none [2],
              AOper.mk (some 13)
                (AOp.build
                  [Value.int IntKind.i64 0, Value.int IntKind.i64 0,
                    Value.int IntKind.i64 0]
                  [(0, 1, Operand.tmp 9), (1, 1, Operand.tmp 10), (2, 1, Operand.tmp 12)])
                none [0, 1, 3],
              AOper.mk (some 7)
                (AOp.alloc
                  [Value.int IntKind.i64 0, Value.int IntKind.i64 0,
                    Value.int IntKind.i64 0])
                none [],
              AOper.mk none (AOp.store 3 (Operand.tmp 7) (Operand.tmp 13)) none [5, 4, 0, 1, 2, 3, 4, 5]]
def l49r3 : List AOper :=
  [AOper.mk (some 14) (AOp.fld 2 (Operand.tmp 2)) none [],
                  AOper.mk (some 15) (AOp.load false 1 (Operand.tmp 14)) none [0],
                  AOper.mk (some 16)
                    (AOp.bin BinOp.lss (Operand.tmp 15) (Operand.const (Value.int IntKind.i64 0))) none
                    [1]]
def l49r4 : List AOper :=
  [AOper.mk (some 17) (AOp.mv (Operand.tmp 1)) none [],
                      AOper.mk (some 18)
                        (AOp.bin BinOp.sub (Operand.tmp 17) (Operand.const (Value.int IntKind.i64 1))) none
                        [0],
                      AOper.mk (some 5) (AOp.mv (Operand.const (Value.int IntKind.i64 (-1)))) none [],
                      AOper.mk (some 6) (AOp.mv (Operand.tmp 18)) none [1, 2, 0, 1, 2]]
def l49r5 : List AOper :=
  [AOper.mk (some 19) (AOp.mv (Operand.tmp 6)) none [],
                      AOper.mk (some 20) (AOp.mv (Operand.tmp 5)) none [],
                      AOper.mk (some 21) (AOp.fld 0 (Operand.tmp 7)) none [0],
                      AOper.mk none (AOp.store 1 (Operand.tmp 21) (Operand.tmp 19)) none [2, 0, 0],
                      AOper.mk (some 22) (AOp.fld 1 (Operand.tmp 7)) none [0, 1, 2, 3],
                      AOper.mk none (AOp.store 1 (Operand.tmp 22) (Operand.tmp 20)) none [4, 1, 3, 0, 1, 2, 3]]
def l49r6 : List AOper :=
  [AOper.mk (some 23) (AOp.fld 3 (Operand.tmp 2)) none [],
                    AOper.mk (some 24) (AOp.load false 1 (Operand.tmp 23)) none [0]]
def l49r7 : List AOper :=
  [AOper.mk (some 25) (AOp.fld 0 (Operand.tmp 2)) none [],
                      AOper.mk (some 26) (AOp.load false 1 (Operand.tmp 25)) none [0],
                      AOper.mk (some 27) (AOp.mv (Operand.tmp 1)) none [],
                      AOper.mk (some 28) (AOp.mv (Operand.tmp 5)) none [],
                      AOper.mk (some 29) (AOp.mv (Operand.tmp 6)) none [],
                      AOper.mk (some 30) (AOp.call 72 [Operand.tmp 26, Operand.tmp 27, Operand.tmp 28, Operand.tmp 29])
                        none [1, 2, 3, 4],
                      AOper.mk (some 31) (AOp.fld 0 (Operand.tmp 7)) none [0, 1, 2, 3, 4, 5],
                      AOper.mk none (AOp.store 1 (Operand.tmp 31) (Operand.tmp 30)) none [6, 5, 5, 0, 1, 2, 3, 4, 5]]
def l49r8 : List AOper :=
  [AOper.mk (some 32) (AOp.fld 4 (Operand.tmp 2)) none [],
                      AOper.mk (some 33) (AOp.load false 1 (Operand.tmp 32)) none [0]]
def l49r9 : List AOper :=
  [AOper.mk (some 34) (AOp.fld 1 (Operand.tmp 2)) none [],
                        AOper.mk (some 35) (AOp.load false 1 (Operand.tmp 34)) none [0],
                        AOper.mk (some 36) (AOp.mv (Operand.tmp 1)) none [],
                        AOper.mk (some 37) (AOp.mv (Operand.tmp 5)) none [],
                        AOper.mk (some 38) (AOp.mv (Operand.tmp 6)) none [],
                        AOper.mk (some 39)
                          (AOp.call 72 [Operand.tmp 35, Operand.tmp 36, Operand.tmp 37, Operand.tmp 38]) none
                          [1, 2, 3, 4],
                        AOper.mk (some 40) (AOp.fld 1 (Operand.tmp 7)) none [0, 1, 2, 3, 4, 5],
                        AOper.mk none (AOp.store 1 (Operand.tmp 40) (Operand.tmp 39)) none [6, 5, 5, 0, 1, 2, 3, 4, 5]]
def l49r10 : List AOper :=
  [AOper.mk (some 41) (AOp.load true 3 (Operand.tmp 7)) none [],
                      AOper.mk none (AOp.store 3 (Operand.tmp 4) (Operand.tmp 41)) none [0, 0]]
def l49 : AFn :=
  (AFn.mk 42 2
    (ACode.seq
      (ACode.reg l49r0)
      (ACode.seq
        (ACode.reg l49r1)
        (ACode.seq
          (ACode.reg l49r2)
          (ACode.seq
            (ACode.seq
              (ACode.reg l49r3)
              (ACode.cond (Operand.tmp 16)
                (ACode.seq
                  (ACode.reg l49r4)
                  (ACode.reg l49r5))
                ACode.skip))
            (ACode.seq
              (ACode.seq
                (ACode.reg l49r6)
                (ACode.cond (Operand.tmp 24)
                  (ACode.reg l49r7)
                  ACode.skip))
              (ACode.seq
                (ACode.seq
                  (ACode.reg l49r8)
                  (ACode.cond (Operand.tmp 33)
                    (ACode.reg l49r9)
                    ACode.skip))
                (ACode.seq
                  (ACode.reg l49r10)
                  ACode.ret)))))))
    [ARes.cell 4 true 3])
theorem l49_eq : lowFn Try.prog 49 = some l49 := by kernel_rfl
def l50r0 : List AOper :=
  [AOper.mk (some 1) (AOp.box (Operand.tmp 0)) none [],
          AOper.mk (some 2) (AOp.mv (Operand.const (Value.slice none 0 0))) none []]
def l50r1 : List AOper :=
  [AOper.mk (some 5) (AOp.load true 3 (Operand.tmp 1)) none [],
            AOper.mk (some 6) (AOp.call 57 [Operand.tmp 5]) none [0],
            AOper.mk (some 7) (AOp.mkslice 1 [Value.int IntKind.i64 0] (Operand.tmp 6) (Operand.tmp 6)) none
              [1, 1],
            AOper.mk (some 3) (AOp.mv (Operand.tmp 7)) none [2, 1, 0, 1, 2]]
def l50r2 : List AOper :=
  [AOper.mk (some 8) (AOp.mv (Operand.tmp 3)) none [], AOper.mk (some 9) (AOp.len (Operand.tmp 8)) none [0],
                AOper.mk (some 10) (AOp.mv (Operand.const (Value.int IntKind.i64 0))) none []]
def l50r3 : List AOper :=
  [AOper.mk (some 11) (AOp.bin BinOp.lss (Operand.tmp 10) (Operand.tmp 9)) none []]
def l50r4 : List AOper :=
  [AOper.mk (some 12) (AOp.mv (Operand.tmp 10)) none [],
                              AOper.mk (some 4) (AOp.mv (Operand.tmp 12)) none [0, 0]]
def l50r5 : List AOper :=
  [AOper.mk (some 13) (AOp.mv (Operand.tmp 3)) none [],
                              AOper.mk (some 14) (AOp.mv (Operand.tmp 4)) none [],
                              AOper.mk (some 15) (AOp.load true 3 (Operand.tmp 1)) none [],
                              AOper.mk (some 16) (AOp.mv (Operand.tmp 4)) none [],
                              AOper.mk (some 17) (AOp.call 70 [Operand.tmp 15, Operand.tmp 16]) none [2, 3],
                              AOper.mk (some 18) (AOp.idxA 1 (Operand.tmp 13) (Operand.tmp 14)) none
                                [0, 1, 0, 1, 2, 3, 4],
                              AOper.mk none (AOp.store 1 (Operand.tmp 18) (Operand.tmp 17)) none
                                [5, 4, 4, 0, 1, 2, 3, 4]]
def l50r6 : List AOper :=
  [AOper.mk (some 19)
                            (AOp.bin BinOp.add (Operand.tmp 10) (Operand.const (Value.int IntKind.i64 1)))
                            none [],
                          AOper.mk (some 10) (AOp.mv (Operand.tmp 19)) none [0]]
def l50r7 : List AOper :=
  [AOper.mk (some 20) (AOp.mv (Operand.tmp 3)) none [],
                AOper.mk (some 2) (AOp.mv (Operand.tmp 20)) none [0, 0]]
def l50 : AFn :=
  (AFn.mk 21 1
    (ACode.seq
      (ACode.reg l50r0)
      (ACode.seq
        (ACode.reg l50r1)
        (ACode.seq
          (ACode.seq
            (ACode.reg l50r2)
            (ACode.block 0
              (ACode.loop
                (ACode.seq (ACode.reg l50r3)
                  (ACode.seq (ACode.cond (Operand.tmp 11) ACode.skip (ACode.exit 0))
                    (ACode.seq
                      (ACode.block 1
                        (ACode.seq
                          (ACode.reg l50r4)
                          (ACode.reg l50r5)))
                      (ACode.reg l50r6)))))))
          (ACode.seq
            (ACode.reg l50r7)
            ACode.ret))))
    [ARes.tmp 2])
theorem l50_eq : lowFn Try.prog 50 = some l50 := by kernel_rfl
def l51r0 : List AOper :=
  [AOper.mk (some 6) (AOp.mv (Operand.const (Value.bool false))) none []]
def l51r1 : List AOper :=
  [AOper.mk (some 7) (AOp.mv (Operand.tmp 1)) none [], AOper.mk (some 8) (AOp.mv (Operand.tmp 0)) none [],
            AOper.mk (some 9) (AOp.bin BinOp.leq (Operand.tmp 7) (Operand.tmp 8)) none [0, 1],
            AOper.mk (some 10) (AOp.mv (Operand.tmp 9)) none [2],
            AOper.mk (some 11) (AOp.mv (Operand.tmp 0)) (some (10, true)) [3],
            AOper.mk (some 12) (AOp.mv (Operand.tmp 2)) (some (10, true)) [3],
            AOper.mk (some 13) (AOp.bin BinOp.leq (Operand.tmp 11) (Operand.tmp 12)) (some (10, true)) [4, 5, 3],
            AOper.mk (some 14) (AOp.pick (Operand.tmp 10) (Operand.tmp 13) (Operand.const (Value.bool false))) none
              [3, 6],
            AOper.mk (some 6) (AOp.mv (Operand.tmp 14)) none [7, 3, 0, 1, 2, 3, 4, 5, 6, 7]]
def l51 : AFn :=
  (AFn.mk 15 3
    (ACode.seq (ACode.reg l51r0)
      (ACode.seq
        (ACode.reg l51r1)
        ACode.ret))
    [ARes.tmp 6])
theorem l51_eq : lowFn Try.prog 51 = some l51 := by kernel_rfl
def l52r0 : List AOper :=
  [AOper.mk (some 1) (AOp.box (Operand.tmp 0)) none [],
          AOper.mk (some 2) (AOp.mv (Operand.const (Value.bool false))) none []]
def l52r1 : List AOper :=
  [AOper.mk (some 3) (AOp.fld 0 (Operand.tmp 1)) none [],
            AOper.mk (some 4) (AOp.load false 1 (Operand.tmp 3)) none [0],
            AOper.mk (some 5)
              (AOp.call 51
                [Operand.tmp 4, Operand.const (Value.int IntKind.i64 (-100)),
                  Operand.const (Value.int IntKind.i64 100)])
              none [1],
            AOper.mk (some 6) (AOp.mv (Operand.tmp 5)) none [2, 2],
            AOper.mk (some 7) (AOp.fld 1 (Operand.tmp 1)) (some (6, true)) [3],
            AOper.mk (some 8) (AOp.load false 1 (Operand.tmp 7)) (some (6, true)) [4, 3],
            AOper.mk (some 9)
              (AOp.call 51
                [Operand.tmp 8, Operand.const (Value.int IntKind.i64 (-100)),
                  Operand.const (Value.int IntKind.i64 100)])
              (some (6, true)) [5, 3, 3],
            AOper.mk (some 10) (AOp.pick (Operand.tmp 6) (Operand.tmp 9) (Operand.const (Value.bool false))) none
              [3, 6],
            AOper.mk (some 11) (AOp.mv (Operand.tmp 10)) none [7, 6],
            AOper.mk (some 12) (AOp.fld 2 (Operand.tmp 1)) (some (11, true)) [8],
            AOper.mk (some 13) (AOp.load false 1 (Operand.tmp 12)) (some (11, true)) [9, 8],
            AOper.mk (some 14)
              (AOp.call 51
                [Operand.tmp 13, Operand.const (Value.int IntKind.i64 (-200)),
                  Operand.const (Value.int IntKind.i64 200)])
              (some (11, true)) [10, 8, 8],
            AOper.mk (some 15) (AOp.pick (Operand.tmp 11) (Operand.tmp 14) (Operand.const (Value.bool false))) none
              [8, 11],
            AOper.mk (some 16) (AOp.mv (Operand.tmp 15)) none [12, 11],
            AOper.mk (some 17) (AOp.fld 2 (Operand.tmp 1)) (some (16, true)) [13],
            AOper.mk (some 18) (AOp.load false 1 (Operand.tmp 17)) (some (16, true)) [14, 13],
            AOper.mk (some 19)
              (AOp.bin BinOp.neq (Operand.tmp 18) (Operand.const (Value.int IntKind.i64 0)))
              (some (16, true)) [15, 13],
            AOper.mk (some 20) (AOp.pick (Operand.tmp 16) (Operand.tmp 19) (Operand.const (Value.bool false))) none
              [13, 16],
            AOper.mk (some 21) (AOp.mv (Operand.tmp 20)) none [17, 13],
            AOper.mk (some 22) (AOp.fld 3 (Operand.tmp 1)) (some (21, true)) [18],
            AOper.mk (some 23) (AOp.load false 1 (Operand.tmp 22)) (some (21, true)) [19, 18],
            AOper.mk (some 24) (AOp.mv (Operand.tmp 23)) (some (21, true)) [20, 18, 18],
            AOper.mk (some 25) (AOp.fld 0 (Operand.tmp 1)) (some (24, false)) [21],
            AOper.mk (some 26) (AOp.load false 1 (Operand.tmp 25)) (some (24, false)) [22, 21],
            AOper.mk (some 27)
              (AOp.bin BinOp.eql (Operand.tmp 26) (Operand.const (Value.int IntKind.i64 0)))
              (some (24, false)) [23, 21],
            AOper.mk (some 28) (AOp.pick (Operand.tmp 24) (Operand.const (Value.bool true)) (Operand.tmp 27))
              (some (21, true)) [21, 24, 18],
            AOper.mk (some 29) (AOp.pick (Operand.tmp 21) (Operand.tmp 28) (Operand.const (Value.bool false))) none
              [18, 25],
            AOper.mk (some 30) (AOp.mv (Operand.tmp 29)) none [26, 21],
            AOper.mk (some 31) (AOp.fld 4 (Operand.tmp 1)) (some (30, true)) [27],
            AOper.mk (some 32) (AOp.load false 1 (Operand.tmp 31)) (some (30, true)) [28, 27],
            AOper.mk (some 33) (AOp.mv (Operand.tmp 32)) (some (30, true)) [29, 27, 27],
            AOper.mk (some 34) (AOp.fld 1 (Operand.tmp 1)) (some (33, false)) [30],
            AOper.mk (some 35) (AOp.load false 1 (Operand.tmp 34)) (some (33, false)) [31, 30],
            AOper.mk (some 36)
              (AOp.bin BinOp.eql (Operand.tmp 35) (Operand.const (Value.int IntKind.i64 0)))
              (some (33, false)) [32, 30],
            AOper.mk (some 37) (AOp.pick (Operand.tmp 33) (Operand.const (Value.bool true)) (Operand.tmp 36))
              (some (30, true)) [30, 33, 27],
            AOper.mk (some 38) (AOp.pick (Operand.tmp 30) (Operand.tmp 37) (Operand.const (Value.bool false))) none
              [27, 34],
            AOper.mk (some 2) (AOp.mv (Operand.tmp 38)) none
              [35, 30, 0, 1, 2, 3, 4, 5, 6, 7, 8, 9, 10, 11, 12, 13, 14, 15, 16, 17, 18, 19, 20, 21, 22, 23, 24, 25, 26,
                27, 28, 29, 30, 31, 32, 33, 34, 35]]
def l52 : AFn :=
  (AFn.mk 39 1
    (ACode.seq
      (ACode.reg l52r0)
      (ACode.seq
        (ACode.reg l52r1)
        ACode.ret))
    [ARes.tmp 2])
theorem l52_eq : lowFn Try.prog 52 = some l52 := by kernel_rfl
def l53r0 : List AOper :=
  [AOper.mk (some 3) (AOp.box (Operand.tmp 1)) none [],
          AOper.mk (some 4) (AOp.mv (Operand.const (Value.slice none 0 0))) none []]
def l53r1 : List AOper :=
  [AOper.mk (some 5) (AOp.mv (Operand.const (Value.int IntKind.i64 0))) none []]
def l53r2 : List AOper :=
  [AOper.mk (some 7) (AOp.mv (Operand.tmp 0)) none [],
              AOper.mk (some 6) (AOp.mv (Operand.tmp 7)) none [0, 0]]
def l53r3 : List AOper :=
  [AOper.mk (some 8) (AOp.fld 2 (Operand.tmp 3)) none [],
                  AOper.mk (some 9) (AOp.load false 1 (Operand.tmp 8)) none [0],
                  AOper.mk (some 10)
                    (AOp.bin BinOp.lss (Operand.tmp 9) (Operand.const (Value.int IntKind.i64 0))) none [1]]
def l53r4 : List AOper :=
  [AOper.mk (some 11) (AOp.mv (Operand.tmp 0)) none [],
                      AOper.mk (some 12)
                        (AOp.bin BinOp.sub (Operand.tmp 11) (Operand.const (Value.int IntKind.i64 1))) none
                        [0],
                      AOper.mk (some 5) (AOp.mv (Operand.tmp 12)) none [1, 0, 1]]
def l53r5 : List AOper :=
  [AOper.mk (some 6) (AOp.mv (Operand.const (Value.int IntKind.i64 (-1)))) none []]
def l53r6 : List AOper :=
  [AOper.mk (some 13) (AOp.fld 3 (Operand.tmp 3)) none [],
                    AOper.mk (some 14) (AOp.load false 1 (Operand.tmp 13)) none [0]]
def l53r7 : List AOper :=
  [AOper.mk (some 15) (AOp.mv (Operand.tmp 0)) none [],
                      AOper.mk (some 16) (AOp.fld 0 (Operand.tmp 3)) none [],
                      AOper.mk (some 17) (AOp.load false 1 (Operand.tmp 16)) none [1],
                      AOper.mk (some 18) (AOp.fld 2 (Operand.tmp 3)) none [],
                      AOper.mk (some 19) (AOp.load false 1 (Operand.tmp 18)) none [3],
                      AOper.mk (some 20) (AOp.call 73 [Operand.tmp 15, Operand.tmp 17, Operand.tmp 19]) none [0, 2, 4],
                      AOper.mk (some 5) (AOp.mv (Operand.tmp 20)) none [5, 5, 0, 1, 2, 3, 4, 5]]
def l53r8 : List AOper :=
  [AOper.mk (some 21) (AOp.fld 4 (Operand.tmp 3)) none [],
                      AOper.mk (some 22) (AOp.load false 1 (Operand.tmp 21)) none [0]]
def l53r9 : List AOper :=
  [AOper.mk (some 23) (AOp.mv (Operand.tmp 0)) none [],
                        AOper.mk (some 24) (AOp.fld 1 (Operand.tmp 3)) none [],
                        AOper.mk (some 25) (AOp.load false 1 (Operand.tmp 24)) none [1],
                        AOper.mk (some 26) (AOp.fld 2 (Operand.tmp 3)) none [],
                        AOper.mk (some 27) (AOp.load false 1 (Operand.tmp 26)) none [3],
                        AOper.mk (some 28) (AOp.call 73 [Operand.tmp 23, Operand.tmp 25, Operand.tmp 27]) none
                          [0, 2, 4],
                        AOper.mk (some 6) (AOp.mv (Operand.tmp 28)) none [5, 5, 0, 1, 2, 3, 4, 5]]
def l53r10 : List AOper :=
  [AOper.mk (some 29) (AOp.mv (Operand.tmp 5)) none [],
                      AOper.mk (some 30) (AOp.mv (Operand.tmp 6)) none [],
                      AOper.mk (some 31) (AOp.fld 2 (Operand.tmp 3)) none [],
                      AOper.mk (some 32) (AOp.load false 1 (Operand.tmp 31)) none [2],
                      AOper.mk (some 33)
                        (AOp.build
                          [Value.int IntKind.i64 0, Value.int IntKind.i64 0,
                            Value.int IntKind.i64 0]
                          [(0, 1, Operand.tmp 29), (1, 1, Operand.tmp 30), (2, 1, Operand.tmp 32)])
                        none [0, 1, 3],
                      AOper.mk (some 34) (AOp.call 60 [Operand.tmp 33]) none [4],
                      AOper.mk (some 4) (AOp.mv (Operand.tmp 34)) none [5, 5, 0, 1, 2, 3, 4, 5]]
def l53 : AFn :=
  (AFn.mk 35 2
    (ACode.seq
      (ACode.reg l53r0)
      (ACode.seq (ACode.reg l53r1)
        (ACode.seq
          (ACode.reg l53r2)
          (ACode.seq
            (ACode.seq
              (ACode.reg l53r3)
              (ACode.cond (Operand.tmp 10)
                (ACode.seq
                  (ACode.reg l53r4)
                  (ACode.reg l53r5))
                ACode.skip))
            (ACode.seq
              (ACode.seq
                (ACode.reg l53r6)
                (ACode.cond (Operand.tmp 14)
                  (ACode.reg l53r7)
                  ACode.skip))
              (ACode.seq
                (ACode.seq
                  (ACode.reg l53r8)
                  (ACode.cond (Operand.tmp 22)
                    (ACode.reg l53r9)
                    ACode.skip))
                (ACode.seq
                  (ACode.reg l53r10)
                  ACode.ret)))))))
    [ARes.tmp 4])
theorem l53_eq : lowFn Try.prog 53 = some l53 := by kernel_rfl
def l54r0 : List AOper :=
  [AOper.mk (some 4) (AOp.mv (Operand.const (Value.bool false))) none []]
def l54r1 : List AOper :=
  [AOper.mk (some 5) (AOp.mv (Operand.tmp 0)) none [],
            AOper.mk (some 6) (AOp.call 69 [Operand.tmp 5, Operand.const (Value.int IntKind.i64 100)]) none
              [0],
            AOper.mk (some 7) (AOp.mv (Operand.tmp 6)) none [1, 1],
            AOper.mk (some 8) (AOp.mv (Operand.tmp 1)) (some (7, true)) [2],
            AOper.mk (some 9) (AOp.mv (Operand.tmp 8)) (some (7, true)) [3, 2, 2],
            AOper.mk (some 10) (AOp.mv (Operand.tmp 0)) (some (9, false)) [4],
            AOper.mk (some 11)
              (AOp.bin BinOp.eql (Operand.tmp 10) (Operand.const (Value.int IntKind.i64 0)))
              (some (9, false)) [5, 4],
            AOper.mk (some 12) (AOp.pick (Operand.tmp 9) (Operand.const (Value.bool true)) (Operand.tmp 11))
              (some (7, true)) [4, 6, 2],
            AOper.mk (some 13) (AOp.pick (Operand.tmp 7) (Operand.tmp 12) (Operand.const (Value.bool false))) none
              [2, 7],
            AOper.mk (some 4) (AOp.mv (Operand.tmp 13)) none [8, 4, 0, 1, 2, 3, 4, 5, 6, 7, 8]]
def l54 : AFn :=
  (AFn.mk 14 2
    (ACode.seq (ACode.reg l54r0)
      (ACode.seq
        (ACode.reg l54r1)
        ACode.ret))
    [ARes.tmp 4])
theorem l54_eq : lowFn Try.prog 54 = some l54 := by kernel_rfl
def l55r0 : List AOper :=
  [AOper.mk (some 2) (AOp.mv (Operand.const (Value.bool false))) none []]
def l55r1 : List AOper :=
  [AOper.mk (some 3) (AOp.mv (Operand.tmp 0)) none [],
            AOper.mk (some 4) (AOp.call 69 [Operand.tmp 3, Operand.const (Value.int IntKind.i64 200)]) none
              [0],
            AOper.mk (some 5) (AOp.mv (Operand.tmp 4)) none [1, 1],
            AOper.mk (some 6) (AOp.mv (Operand.tmp 0)) (some (5, true)) [2],
            AOper.mk (some 7) (AOp.bin BinOp.neq (Operand.tmp 6) (Operand.const (Value.int IntKind.i64 0)))
              (some (5, true)) [3, 2],
            AOper.mk (some 8) (AOp.pick (Operand.tmp 5) (Operand.tmp 7) (Operand.const (Value.bool false))) none [2, 4],
            AOper.mk (some 2) (AOp.mv (Operand.tmp 8)) none [5, 2, 0, 1, 2, 3, 4, 5]]
def l55 : AFn :=
  (AFn.mk 9 1
    (ACode.seq (ACode.reg l55r0)
      (ACode.seq
        (ACode.reg l55r1)
        ACode.ret))
    [ARes.tmp 2])
theorem l55_eq : lowFn Try.prog 55 = some l55 := by kernel_rfl
def l57r0 : List AOper :=
  [AOper.mk (some 1) (AOp.box (Operand.tmp 0)) none [],
          AOper.mk (some 2) (AOp.mv (Operand.const (Value.int IntKind.i64 0))) none []]
def l57r1a : List AOper :=
  [AOper.mk (some 5) (AOp.fld 1 (Operand.tmp 1)) none [], AOper.mk (some 6) (AOp.load false 1 (Operand.tmp 5)) none [0], AOper.mk (some 7) (AOp.fld 0 (Operand.tmp 1)) none [], AOper.mk (some 8) (AOp.load false 1 (Operand.tmp 7)) none [2], AOper.mk (some 9) (AOp.bin BinOp.sub (Operand.tmp 6) (Operand.tmp 8)) none [1, 3], AOper.mk (some 10) (AOp.fld 2 (Operand.tmp 1)) none [], AOper.mk (some 11) (AOp.load false 1 (Operand.tmp 10)) none [5], AOper.mk (some 3) (AOp.mv (Operand.tmp 9)) none [4, 0, 1, 2, 3, 4]]
def l57r1b : List AOper :=
  [AOper.mk (some 4) (AOp.mv (Operand.tmp 11)) none [6, 7, 0, 1, 2, 3, 4, 5, 6, 7]]
def l57r1 : List AOper := l57r1a ++ l57r1b
def l57r2 : List AOper :=
  [AOper.mk (some 12) (AOp.mv (Operand.tmp 4)) none [],
                AOper.mk (some 13)
                  (AOp.bin BinOp.lss (Operand.tmp 12) (Operand.const (Value.int IntKind.i64 0))) none [0]]
def l57r3 : List AOper :=
  [AOper.mk (some 14) (AOp.mv (Operand.tmp 3)) none [],
                  AOper.mk (some 15) (AOp.un UnOp.neg (Operand.tmp 14)) none [0],
                  AOper.mk (some 16) (AOp.mv (Operand.tmp 4)) none [],
                  AOper.mk (some 17) (AOp.un UnOp.neg (Operand.tmp 16)) none [2],
                  AOper.mk (some 3) (AOp.mv (Operand.tmp 15)) none [1, 0, 1],
                  AOper.mk (some 4) (AOp.mv (Operand.tmp 17)) none [3, 4, 0, 1, 2, 3, 4]]
def l57r4 : List AOper :=
  [AOper.mk (some 18) (AOp.mv (Operand.tmp 3)) none [],
                  AOper.mk (some 19)
                    (AOp.bin BinOp.leq (Operand.tmp 18) (Operand.const (Value.int IntKind.i64 0))) none
                    [0]]
def l57r5 : List AOper :=
  [AOper.mk (some 2) (AOp.mv (Operand.const (Value.int IntKind.i64 0))) none []]
def l57r6 : List AOper :=
  [AOper.mk (some 20) (AOp.mv (Operand.tmp 3)) none [],
                  AOper.mk (some 21) (AOp.mv (Operand.tmp 4)) none [],
                  AOper.mk (some 22) (AOp.bin BinOp.add (Operand.tmp 20) (Operand.tmp 21)) none [0, 1],
                  AOper.mk (some 23)
                    (AOp.bin BinOp.sub (Operand.tmp 22) (Operand.const (Value.int IntKind.i64 1))) none [2],
                  AOper.mk (some 24) (AOp.mv (Operand.tmp 4)) none [],
                  AOper.mk (some 25) (AOp.bin BinOp.quo (Operand.tmp 23) (Operand.tmp 24)) none [3, 4],
                  AOper.mk (some 2) (AOp.mv (Operand.tmp 25)) none [5, 0, 1, 2, 3, 4, 5]]
def l57 : AFn :=
  (AFn.mk 26 1
    (ACode.seq
      (ACode.reg l57r0)
      (ACode.seq
        (ACode.draw l57r1)
        (ACode.seq
          (ACode.seq
            (ACode.reg l57r2)
            (ACode.cond (Operand.tmp 13)
              (ACode.reg l57r3)
              ACode.skip))
          (ACode.seq
            (ACode.seq
              (ACode.reg l57r4)
              (ACode.cond (Operand.tmp 19)
                (ACode.seq
                  (ACode.reg l57r5)
                  ACode.ret)
                ACode.skip))
            (ACode.seq
              (ACode.reg l57r6)
              ACode.ret)))))
    [ARes.tmp 2])
theorem l57_eq : lowFn Try.prog 57 = some l57 := by kernel_rfl
def l58r0 : List AOper :=
  [AOper.mk (some 2) (AOp.box (Operand.tmp 0)) none [], AOper.mk (some 3) (AOp.box (Operand.tmp 1)) none [],
          AOper.mk (some 4)
            (AOp.alloc
              [Value.int IntKind.i64 0, Value.int IntKind.i64 0,
                Value.int IntKind.i64 0])
            none []]
def l58r1a : List AOper :=
  [AOper.mk (some 5) (AOp.load true 3 (Operand.tmp 2)) none [], AOper.mk (some 6) (AOp.fld 0 (Operand.tmp 3)) none [], AOper.mk (some 7) (AOp.load false 1 (Operand.tmp 6)) none [1], AOper.mk (some 8) (AOp.call 70 [Operand.tmp 5, Operand.tmp 7]) none [0, 2], AOper.mk (some 9) (AOp.fld 2 (Operand.tmp 2)) none [], AOper.mk (some 10) (AOp.load false 1 (Operand.tmp 9)) none [4], AOper.mk (some 11) (AOp.fld 2 (Operand.tmp 3)) none [], AOper.mk (some 12) (AOp.load false 1 (Operand.tmp 11)) none [6], AOper.mk (some 13) (AOp.bin BinOp.mul (Operand.tmp 10) (Operand.tmp 12)) none [5, 7], AOper.mk (some 14) (AOp.load true 3 (Operand.tmp 3)) none [], AOper.mk (some 15) (AOp.call 57 [Operand.tmp 14]) none [9, 3]]
def l58r1b : List AOper :=
  [AOper.mk (some 16) (AOp.call 74 [Operand.tmp 8, Operand.tmp 13, Operand.tmp 15]) none [3, 8, 10, 10], AOper.mk none (AOp.store 3 (Operand.tmp 4) (Operand.tmp 16)) none
              [11, 11, 0, 1, 2, 3, 4, 5, 6, 7, 8, 9, 10, 11]]
def l58r1 : List AOper := l58r1a ++ l58r1b
def l58 : AFn :=
  (AFn.mk 17 2
    (ACode.seq
      (ACode.reg l58r0)
      (ACode.seq
        (ACode.draw l58r1)
        ACode.ret))
    [ARes.cell 4 true 3])
theorem l58_eq : lowFn Try.prog 58 = some l58 := by kernel_rfl
def l60r0 : List AOper :=
  [AOper.mk (some 1) (AOp.box (Operand.tmp 0)) none [],
          AOper.mk (some 2) (AOp.mv (Operand.const (Value.slice none 0 0))) none []]
def l60r1 : List AOper :=
  [AOper.mk (some 5) (AOp.bslice 1 [Value.int IntKind.i64 0] [] 0) none [],
            AOper.mk (some 3) (AOp.mv (Operand.tmp 5)) none [0, 0]]
def l60r2 : List AOper :=
  [AOper.mk (some 6) (AOp.fld 0 (Operand.tmp 1)) none [],
                AOper.mk (some 7) (AOp.load false 1 (Operand.tmp 6)) none [0],
                AOper.mk (some 4) (AOp.mv (Operand.tmp 7)) none [1, 0, 1]]
def l60r3 : List AOper :=
  [AOper.mk (some 8) (AOp.fld 2 (Operand.tmp 1)) none [],
                        AOper.mk (some 9) (AOp.load false 1 (Operand.tmp 8)) none [0],
                        AOper.mk (some 10)
                          (AOp.bin BinOp.gtr (Operand.tmp 9) (Operand.const (Value.int IntKind.i64 0))) none
                          [1],
                        AOper.mk (some 11) (AOp.mv (Operand.tmp 10)) none [2],
                        AOper.mk (some 12) (AOp.mv (Operand.tmp 4)) (some (11, true)) [3],
                        AOper.mk (some 13) (AOp.fld 1 (Operand.tmp 1)) (some (11, true)) [3],
                        AOper.mk (some 14) (AOp.load false 1 (Operand.tmp 13)) (some (11, true)) [5, 3],
                        AOper.mk (some 15) (AOp.bin BinOp.lss (Operand.tmp 12) (Operand.tmp 14)) (some (11, true))
                          [4, 6, 3],
                        AOper.mk (some 16)
                          (AOp.pick (Operand.tmp 11) (Operand.tmp 15) (Operand.const (Value.bool false))) none [3, 7],
                        AOper.mk (some 17) (AOp.mv (Operand.tmp 16)) none [8, 3],
                        AOper.mk (some 18) (AOp.fld 2 (Operand.tmp 1)) (some (17, false)) [9],
                        AOper.mk (some 19) (AOp.load false 1 (Operand.tmp 18)) (some (17, false)) [10, 9],
                        AOper.mk (some 20)
                          (AOp.bin BinOp.lss (Operand.tmp 19) (Operand.const (Value.int IntKind.i64 0)))
                          (some (17, false)) [11, 9],
                        AOper.mk (some 21) (AOp.mv (Operand.tmp 20)) (some (17, false)) [12, 9, 9],
                        AOper.mk (some 22) (AOp.mv (Operand.tmp 4)) (some (21, true)) [13],
                        AOper.mk (some 23) (AOp.fld 1 (Operand.tmp 1)) (some (21, true)) [13],
                        AOper.mk (some 24) (AOp.load false 1 (Operand.tmp 23)) (some (21, true)) [15, 13],
                        AOper.mk (some 25) (AOp.bin BinOp.gtr (Operand.tmp 22) (Operand.tmp 24)) (some (21, true))
                          [14, 16, 13],
                        AOper.mk (some 26)
                          (AOp.pick (Operand.tmp 21) (Operand.tmp 25) (Operand.const (Value.bool false)))
                          (some (17, false)) [13, 17, 9],
                        AOper.mk (some 27)
                          (AOp.pick (Operand.tmp 17) (Operand.const (Value.bool true)) (Operand.tmp 26)) none [9, 18]]
def l60r4 : List AOper :=
  [AOper.mk (some 32) (AOp.mv (Operand.tmp 3)) none [],
                          AOper.mk (some 33) (AOp.mv (Operand.tmp 4)) none [],
                          AOper.mk (some 34)
                            (AOp.bslice 1 [Value.int IntKind.i64 0] [(0, Operand.tmp 33)] 1) none [1],
                          AOper.mk (some 35) (AOp.append 1 (Operand.tmp 32) (Operand.tmp 34)) none [0, 2],
                          AOper.mk (some 3) (AOp.mv (Operand.tmp 35)) none [3, 3, 0, 1, 2, 3]]
def l60r5 : List AOper :=
  [AOper.mk (some 28) (AOp.mv (Operand.tmp 4)) none [],
                        AOper.mk (some 29) (AOp.fld 2 (Operand.tmp 1)) none [],
                        AOper.mk (some 30) (AOp.load false 1 (Operand.tmp 29)) none [1],
                        AOper.mk (some 31) (AOp.bin BinOp.add (Operand.tmp 28) (Operand.tmp 30)) none [0, 2],
                        AOper.mk (some 4) (AOp.mv (Operand.tmp 31)) none [3, 0, 1, 2, 3]]
def l60r6 : List AOper :=
  [AOper.mk (some 36) (AOp.mv (Operand.tmp 3)) none [],
                AOper.mk (some 2) (AOp.mv (Operand.tmp 36)) none [0, 0]]
def l60 : AFn :=
  (AFn.mk 37 1
    (ACode.seq
      (ACode.reg l60r0)
      (ACode.seq
        (ACode.reg l60r1)
        (ACode.seq
          (ACode.seq
            (ACode.reg l60r2)
            (ACode.block 0
              (ACode.loop
                (ACode.seq
                  (ACode.seq
                    (ACode.reg l60r3)
                    (ACode.cond (Operand.tmp 27) ACode.skip (ACode.exit 0)))
                  (ACode.seq
                    (ACode.block 1
                      (ACode.reg l60r4))
                    (ACode.reg l60r5))))))
          (ACode.seq
            (ACode.reg l60r6)
            ACode.ret))))
    [ARes.tmp 2])
theorem l60_eq : lowFn Try.prog 60 = some l60 := by kernel_rfl
def l61r0 : List AOper :=
  [AOper.mk (some 2)
            (AOp.alloc
              [Value.int IntKind.i64 0, Value.int IntKind.i64 0,
                Value.int IntKind.i64 0])
            none []]
def l61r1 : List AOper :=
  [AOper.mk (some 5) (AOp.mv (Operand.tmp 0)) none [], AOper.mk (some 6) (AOp.len (Operand.tmp 5)) none [0]]
def l61r2 : List AOper :=
  [AOper.mk (some 8)
                    (AOp.bin BinOp.eql (Operand.tmp 6) (Operand.const (Value.int IntKind.i64 0))) none [],
                  AOper.mk (some 7) (AOp.mv (Operand.tmp 8)) none [0]]
def l61r3 : List AOper :=
  [AOper.mk (some 9)
                        (AOp.build
                          [Value.int IntKind.i64 0, Value.int IntKind.i64 0,
                            Value.int IntKind.i64 0]
                          [(0, 1, Operand.const (Value.int IntKind.i64 0)),
                            (1, 1, Operand.const (Value.int IntKind.i64 0)),
                            (2, 1, Operand.const (Value.int IntKind.i64 1))])
                        none [],
                      AOper.mk none (AOp.store 3 (Operand.tmp 2) (Operand.tmp 9)) none [0, 0]]
def l61r4 : List AOper :=
  [AOper.mk (some 11)
                        (AOp.bin BinOp.eql (Operand.tmp 6) (Operand.const (Value.int IntKind.i64 1))) none
                        [],
                      AOper.mk (some 10) (AOp.mv (Operand.tmp 11)) none [0]]
def l61r5a : List AOper :=
  [AOper.mk (some 12) (AOp.mv (Operand.tmp 0)) none [], AOper.mk (some 13)
                            (AOp.idxA 1 (Operand.tmp 12) (Operand.const (Value.int IntKind.i64 0))) none
                            [0], AOper.mk (some 14) (AOp.load false 1 (Operand.tmp 13)) none [1], AOper.mk (some 15) (AOp.mv (Operand.tmp 0)) none [], AOper.mk (some 16)
                            (AOp.idxA 1 (Operand.tmp 15) (Operand.const (Value.int IntKind.i64 0))) none
                            [3], AOper.mk (some 17) (AOp.load false 1 (Operand.tmp 16)) none [4], AOper.mk (some 18)
                            (AOp.bin BinOp.add (Operand.tmp 17) (Operand.const (Value.int IntKind.i64 1)))
                            none [5]]
def l61r5b : List AOper :=
  [AOper.mk (some 19)
                            (AOp.build
                              [Value.int IntKind.i64 0, Value.int IntKind.i64 0,
                                Value.int IntKind.i64 0]
                              [(0, 1, Operand.tmp 14), (1, 1, Operand.tmp 18),
                                (2, 1, Operand.const (Value.int IntKind.i64 1))])
                            none [2, 6], AOper.mk none (AOp.store 3 (Operand.tmp 2) (Operand.tmp 19)) none
                            [7, 0, 1, 2, 3, 4, 5, 6, 7]]
def l61r5 : List AOper := l61r5a ++ l61r5b
def l61r6a : List AOper :=
  [AOper.mk (some 20) (AOp.mv (Operand.tmp 0)) none [], AOper.mk (some 21) (AOp.idxA 1 (Operand.tmp 20) (Operand.const (Value.int IntKind.i64 1)))
                none [0], AOper.mk (some 22) (AOp.load false 1 (Operand.tmp 21)) none [1], AOper.mk (some 23) (AOp.mv (Operand.tmp 0)) none [], AOper.mk (some 24) (AOp.idxA 1 (Operand.tmp 23) (Operand.const (Value.int IntKind.i64 0)))
                none [3], AOper.mk (some 25) (AOp.load false 1 (Operand.tmp 24)) none [4]]
def l61r6b : List AOper :=
  [AOper.mk (some 26) (AOp.bin BinOp.sub (Operand.tmp 22) (Operand.tmp 25)) none [2, 5], AOper.mk (some 3) (AOp.mv (Operand.tmp 26)) none [6, 0, 1, 2, 3, 4, 5, 6]]
def l61r6 : List AOper := l61r6a ++ l61r6b
def l61r7 : List AOper :=
  [AOper.mk (some 27) (AOp.mv (Operand.tmp 0)) none [], AOper.mk (some 28) (AOp.mv (Operand.tmp 0)) none [],
                AOper.mk (some 29) (AOp.len (Operand.tmp 28)) none [1],
                AOper.mk (some 30)
                  (AOp.bin BinOp.sub (Operand.tmp 29) (Operand.const (Value.int IntKind.i64 1))) none [2],
                AOper.mk (some 31) (AOp.idxA 1 (Operand.tmp 27) (Operand.tmp 30)) none [0, 3],
                AOper.mk (some 32) (AOp.load false 1 (Operand.tmp 31)) none [4],
                AOper.mk (some 33)
                  (AOp.bin BinOp.add (Operand.tmp 32) (Operand.const (Value.int IntKind.i64 1))) none [5],
                AOper.mk (some 4) (AOp.mv (Operand.tmp 33)) none [6, 0, 1, 2, 3, 4, 5, 6]]
def l61r8 : List AOper :=
  [AOper.mk (some 34) (AOp.mv (Operand.tmp 3)) none [],
                    AOper.mk (some 35)
                      (AOp.bin BinOp.lss (Operand.tmp 34) (Operand.const (Value.int IntKind.i64 0))) none
                      [0]]
def l61r9 : List AOper :=
  [AOper.mk (some 36) (AOp.mv (Operand.tmp 0)) none [],
                      AOper.mk (some 37) (AOp.mv (Operand.tmp 0)) none [],
                      AOper.mk (some 38) (AOp.len (Operand.tmp 37)) none [1],
                      AOper.mk (some 39)
                        (AOp.bin BinOp.sub (Operand.tmp 38) (Operand.const (Value.int IntKind.i64 1))) none
                        [2],
                      AOper.mk (some 40) (AOp.idxA 1 (Operand.tmp 36) (Operand.tmp 39)) none [0, 3],
                      AOper.mk (some 41) (AOp.load false 1 (Operand.tmp 40)) none [4],
                      AOper.mk (some 42)
                        (AOp.bin BinOp.sub (Operand.tmp 41) (Operand.const (Value.int IntKind.i64 1))) none
                        [5],
                      AOper.mk (some 4) (AOp.mv (Operand.tmp 42)) none [6, 0, 1, 2, 3, 4, 5, 6]]
def l61r10 : List AOper :=
  [AOper.mk (some 43) (AOp.mv (Operand.tmp 0)) none [],
                    AOper.mk (some 44)
                      (AOp.idxA 1 (Operand.tmp 43) (Operand.const (Value.int IntKind.i64 0))) none [0],
                    AOper.mk (some 45) (AOp.load false 1 (Operand.tmp 44)) none [1],
                    AOper.mk (some 46) (AOp.mv (Operand.tmp 4)) none [],
                    AOper.mk (some 47) (AOp.mv (Operand.tmp 3)) none [],
                    AOper.mk (some 48)
                      (AOp.build
                        [Value.int IntKind.i64 0, Value.int IntKind.i64 0,
                          Value.int IntKind.i64 0]
                        [(0, 1, Operand.tmp 45), (1, 1, Operand.tmp 46), (2, 1, Operand.tmp 47)])
                      none [2, 3, 4],
                    AOper.mk none (AOp.store 3 (Operand.tmp 2) (Operand.tmp 48)) none [5, 0, 1, 2, 3, 4, 5]]
def l61 : AFn :=
  (AFn.mk 49 1
    (ACode.seq
      (ACode.reg l61r0)
      (ACode.seq
        (ACode.seq
          (ACode.reg l61r1)
          (ACode.block 0
            (ACode.seq
              (ACode.reg l61r2)
              (ACode.cond (Operand.tmp 7)
                (ACode.seq
                  (ACode.reg l61r3)
                  ACode.ret)
                (ACode.seq
                  (ACode.reg l61r4)
                  (ACode.cond (Operand.tmp 10)
                    (ACode.seq
                      (ACode.draw l61r5)
                      ACode.ret)
                    ACode.skip))))))
        (ACode.seq
          (ACode.draw l61r6)
          (ACode.seq
            (ACode.reg l61r7)
            (ACode.seq
              (ACode.seq
                (ACode.reg l61r8)
                (ACode.cond (Operand.tmp 35)
                  (ACode.reg l61r9)
                  ACode.skip))
              (ACode.seq
                (ACode.reg l61r10)
                ACode.ret))))))
    [ARes.cell 2 true 3])
theorem l61_eq : lowFn Try.prog 61 = some l61 := by kernel_rfl
def l64r0 : List AOper :=
  [AOper.mk (some 1) (AOp.box (Operand.tmp 0)) none [],
          AOper.mk (some 2)
            (AOp.alloc
              [Value.int IntKind.i64 0, Value.int IntKind.i64 0,
                Value.int IntKind.i64 0, Value.bool false, Value.bool false])
            none []]
def l64r1 : List AOper :=
  [AOper.mk (some 4) (AOp.fld 0 (Operand.tmp 1)) none [],
            AOper.mk (some 5) (AOp.load false 1 (Operand.tmp 4)) none [0],
            AOper.mk (some 6) (AOp.fld 1 (Operand.tmp 1)) none [],
            AOper.mk (some 7) (AOp.load false 1 (Operand.tmp 6)) none [2],
            AOper.mk (some 8) (AOp.fld 2 (Operand.tmp 1)) none [],
            AOper.mk (some 9) (AOp.load false 1 (Operand.tmp 8)) none [4],
            AOper.mk (some 10)
              (AOp.build
                [Value.int IntKind.i64 0, Value.int IntKind.i64 0,
                  Value.int IntKind.i64 0, Value.bool false, Value.bool false]
                [(0, 1, Operand.tmp 5), (1, 1, Operand.tmp 7), (2, 1, Operand.tmp 9),
                  (3, 1, Operand.const (Value.bool true)), (4, 1, Operand.const (Value.bool true))])
              none [1, 3, 5],
            AOper.mk (some 3)
              (AOp.alloc
                [Value.int IntKind.i64 0, Value.int IntKind.i64 0,
                  Value.int IntKind.i64 0, Value.bool false, Value.bool false])
              none [],
            AOper.mk none (AOp.store 5 (Operand.tmp 3) (Operand.tmp 10)) none [7, 6, 0, 1, 2, 3, 4, 5, 6, 7]]
def l64r2 : List AOper :=
  [AOper.mk (some 11) (AOp.fld 1 (Operand.tmp 1)) none [],
                AOper.mk (some 12) (AOp.load false 1 (Operand.tmp 11)) none [0],
                AOper.mk (some 13)
                  (AOp.bin BinOp.lss (Operand.tmp 12) (Operand.const (Value.int IntKind.i64 0))) none [1]]
def l64r3 : List AOper :=
  [AOper.mk (some 14) (AOp.fld 1 (Operand.tmp 3)) none [],
                    AOper.mk none (AOp.store 1 (Operand.tmp 14) (Operand.const (Value.int IntKind.i64 0)))
                      none [0]]
def l64r4 : List AOper :=
  [AOper.mk (some 15) (AOp.fld 4 (Operand.tmp 3)) none [],
                    AOper.mk none (AOp.store 1 (Operand.tmp 15) (Operand.const (Value.bool false))) none [0]]
def l64r5 : List AOper :=
  [AOper.mk (some 16) (AOp.load true 5 (Operand.tmp 3)) none [],
                AOper.mk none (AOp.store 5 (Operand.tmp 2) (Operand.tmp 16)) none [0, 0]]
def l64 : AFn :=
  (AFn.mk 17 1
    (ACode.seq
      (ACode.reg l64r0)
      (ACode.seq
        (ACode.reg l64r1)
        (ACode.seq
          (ACode.seq
            (ACode.reg l64r2)
            (ACode.cond (Operand.tmp 13)
              (ACode.seq
                (ACode.reg l64r3)
                (ACode.reg l64r4))
              ACode.skip))
          (ACode.seq
            (ACode.reg l64r5)
            ACode.ret))))
    [ARes.cell 2 true 5])
theorem l64_eq : lowFn Try.prog 64 = some l64 := by kernel_rfl
def l69r0 : List AOper :=
  [AOper.mk (some 4) (AOp.mv (Operand.const (Value.bool false))) none []]
def l69r1 : List AOper :=
  [AOper.mk (some 5) (AOp.mv (Operand.tmp 1)) none [],
            AOper.mk (some 6) (AOp.un UnOp.neg (Operand.tmp 5)) none [0],
            AOper.mk (some 7) (AOp.mv (Operand.tmp 0)) none [],
            AOper.mk (some 8) (AOp.bin BinOp.leq (Operand.tmp 6) (Operand.tmp 7)) none [1, 2],
            AOper.mk (some 9) (AOp.mv (Operand.tmp 8)) none [3],
            AOper.mk (some 10) (AOp.mv (Operand.tmp 0)) (some (9, true)) [4],
            AOper.mk (some 11) (AOp.mv (Operand.tmp 1)) (some (9, true)) [4],
            AOper.mk (some 12) (AOp.bin BinOp.leq (Operand.tmp 10) (Operand.tmp 11)) (some (9, true)) [5, 6, 4],
            AOper.mk (some 13) (AOp.pick (Operand.tmp 9) (Operand.tmp 12) (Operand.const (Value.bool false))) none
              [4, 7],
            AOper.mk (some 4) (AOp.mv (Operand.tmp 13)) none [8, 4, 0, 1, 2, 3, 4, 5, 6, 7, 8]]
def l69 : AFn :=
  (AFn.mk 14 2
    (ACode.seq (ACode.reg l69r0)
      (ACode.seq
        (ACode.reg l69r1)
        ACode.ret))
    [ARes.tmp 4])
theorem l69_eq : lowFn Try.prog 69 = some l69 := by kernel_rfl
def l70r0 : List AOper :=
  [AOper.mk (some 2) (AOp.box (Operand.tmp 0)) none [],
          AOper.mk (some 4) (AOp.mv (Operand.const (Value.int IntKind.i64 0))) none []]
def l70r1 : List AOper :=
  [AOper.mk (some 5) (AOp.fld 0 (Operand.tmp 2)) none [],
            AOper.mk (some 6) (AOp.load false 1 (Operand.tmp 5)) none [0],
            AOper.mk (some 7) (AOp.mv (Operand.tmp 1)) none [], AOper.mk (some 8) (AOp.fld 2 (Operand.tmp 2)) none [],
            AOper.mk (some 9) (AOp.load false 1 (Operand.tmp 8)) none [3],
            AOper.mk (some 10) (AOp.bin BinOp.mul (Operand.tmp 7) (Operand.tmp 9)) none [2, 4],
            AOper.mk (some 11) (AOp.bin BinOp.add (Operand.tmp 6) (Operand.tmp 10)) none [1, 5],
            AOper.mk (some 4) (AOp.mv (Operand.tmp 11)) none [6, 0, 1, 2, 3, 4, 5, 6]]
def l70 : AFn :=
  (AFn.mk 12 2
    (ACode.seq
      (ACode.reg l70r0)
      (ACode.seq
        (ACode.reg l70r1)
        ACode.ret))
    [ARes.tmp 4])
theorem l70_eq : lowFn Try.prog 70 = some l70 := by kernel_rfl
def l72r0 : List AOper :=
  [AOper.mk (some 8) (AOp.mv (Operand.const (Value.int IntKind.i64 0))) none []]
def l72r1 : List AOper :=
  [AOper.mk (some 9) (AOp.mv (Operand.tmp 0)) none [],
              AOper.mk (some 10)
                (AOp.bin BinOp.lss (Operand.tmp 9) (Operand.const (Value.int IntKind.i64 0))) none [0]]
def l72r2 : List AOper :=
  [AOper.mk (some 11) (AOp.mv (Operand.tmp 0)) none [], AOper.mk (some 12) (AOp.mv (Operand.tmp 1)) none [],
                AOper.mk (some 13) (AOp.bin BinOp.add (Operand.tmp 11) (Operand.tmp 12)) none [0, 1],
                AOper.mk (some 0) (AOp.mv (Operand.tmp 13)) none [2, 0, 1, 2]]
def l72r3 : List AOper :=
  [AOper.mk (some 14) (AOp.mv (Operand.tmp 0)) none [], AOper.mk (some 15) (AOp.mv (Operand.tmp 2)) none [],
              AOper.mk (some 16) (AOp.minmax true (Operand.tmp 14) (Operand.tmp 15)) none [0, 1],
              AOper.mk (some 17) (AOp.mv (Operand.tmp 3)) none [],
              AOper.mk (some 18) (AOp.minmax false (Operand.tmp 16) (Operand.tmp 17)) none [2, 3],
              AOper.mk (some 8) (AOp.mv (Operand.tmp 18)) none [4, 0, 1, 2, 3, 4]]
def l72 : AFn :=
  (AFn.mk 19 4
    (ACode.seq (ACode.reg l72r0)
      (ACode.seq
        (ACode.seq
          (ACode.reg l72r1)
          (ACode.cond (Operand.tmp 10)
            (ACode.reg l72r2)
            ACode.skip))
        (ACode.seq
          (ACode.reg l72r3)
          ACode.ret)))
    [ARes.tmp 8])
theorem l72_eq : lowFn Try.prog 72 = some l72 := by kernel_rfl
def l73r0 : List AOper :=
  [AOper.mk (some 6) (AOp.mv (Operand.const (Value.int IntKind.i64 0))) none []]
def l73r1 : List AOper :=
  [AOper.mk (some 7) (AOp.mv (Operand.const (Value.int IntKind.i64 0))) none []]
def l73r2 : List AOper :=
  [AOper.mk (some 9) (AOp.mv (Operand.tmp 0)) none [],
              AOper.mk (some 8) (AOp.mv (Operand.tmp 9)) none [0, 0]]
def l73r3 : List AOper :=
  [AOper.mk (some 10) (AOp.mv (Operand.tmp 2)) none [],
                  AOper.mk (some 11)
                    (AOp.bin BinOp.lss (Operand.tmp 10) (Operand.const (Value.int IntKind.i64 0))) none
                    [0]]
def l73r4 : List AOper :=
  [AOper.mk (some 7) (AOp.mv (Operand.const (Value.int IntKind.i64 (-1)))) none []]
def l73r5 : List AOper :=
  [AOper.mk (some 12) (AOp.mv (Operand.tmp 0)) none [],
                      AOper.mk (some 13)
                        (AOp.bin BinOp.sub (Operand.tmp 12) (Operand.const (Value.int IntKind.i64 1))) none
                        [0],
                      AOper.mk (some 8) (AOp.mv (Operand.tmp 13)) none [1, 0, 1]]
def l73r6 : List AOper :=
  [AOper.mk (some 14) (AOp.mv (Operand.tmp 1)) none [],
                    AOper.mk (some 15)
                      (AOp.bin BinOp.lss (Operand.tmp 14) (Operand.const (Value.int IntKind.i64 0))) none
                      [0]]
def l73r7 : List AOper :=
  [AOper.mk (some 16) (AOp.mv (Operand.tmp 1)) none [],
                      AOper.mk (some 17) (AOp.mv (Operand.tmp 0)) none [],
                      AOper.mk (some 18) (AOp.bin BinOp.add (Operand.tmp 16) (Operand.tmp 17)) none [0, 1],
                      AOper.mk (some 1) (AOp.mv (Operand.tmp 18)) none [2, 0, 1, 2]]
def l73r8 : List AOper :=
  [AOper.mk (some 19) (AOp.mv (Operand.tmp 8)) none [],
                    AOper.mk (some 20) (AOp.mv (Operand.tmp 7)) none [],
                    AOper.mk (some 21) (AOp.mv (Operand.tmp 1)) none [],
                    AOper.mk (some 22) (AOp.minmax true (Operand.tmp 20) (Operand.tmp 21)) none [1, 2],
                    AOper.mk (some 23) (AOp.minmax false (Operand.tmp 19) (Operand.tmp 22)) none [0, 3],
                    AOper.mk (some 6) (AOp.mv (Operand.tmp 23)) none [4, 0, 1, 2, 3, 4]]
def l73 : AFn :=
  (AFn.mk 24 3
    (ACode.seq (ACode.reg l73r0)
      (ACode.seq (ACode.reg l73r1)
        (ACode.seq
          (ACode.reg l73r2)
          (ACode.seq
            (ACode.seq
              (ACode.reg l73r3)
              (ACode.cond (Operand.tmp 11)
                (ACode.seq
                  (ACode.reg l73r4)
                  (ACode.reg l73r5))
                ACode.skip))
            (ACode.seq
              (ACode.seq
                (ACode.reg l73r6)
                (ACode.cond (Operand.tmp 15)
                  (ACode.reg l73r7)
                  ACode.skip))
              (ACode.seq
                (ACode.reg l73r8)
                ACode.ret))))))
    [ARes.tmp 6])
theorem l73_eq : lowFn Try.prog 73 = some l73 := by kernel_rfl
def l74r0 : List AOper :=
  [AOper.mk (some 6)
            (AOp.alloc
              [Value.int IntKind.i64 0, Value.int IntKind.i64 0,
                Value.int IntKind.i64 0])
            none []]
def l74r1 : List AOper :=
  [AOper.mk (some 8) (AOp.mv (Operand.tmp 2)) none [],
              AOper.mk (some 9)
                (AOp.bin BinOp.lss (Operand.tmp 8) (Operand.const (Value.int IntKind.i64 1))) none [0]]
def l74r2 : List AOper :=
  [AOper.mk (some 10)
                    (AOp.build
                      [Value.int IntKind.i64 0, Value.int IntKind.i64 0,
                        Value.int IntKind.i64 0]
                      [(0, 1, Operand.const (Value.int IntKind.i64 0)),
                        (1, 1, Operand.const (Value.int IntKind.i64 0)),
                        (2, 1, Operand.const (Value.int IntKind.i64 1))])
                    none [],
                  AOper.mk none (AOp.store 3 (Operand.tmp 6) (Operand.tmp 10)) none [0, 0]]
def l74r3 : List AOper :=
  [AOper.mk (some 11) (AOp.mv (Operand.tmp 2)) none [],
                AOper.mk (some 12)
                  (AOp.bin BinOp.eql (Operand.tmp 11) (Operand.const (Value.int IntKind.i64 1))) none [0]]
def l74r4 : List AOper :=
  [AOper.mk (some 13) (AOp.mv (Operand.tmp 0)) none [],
                    AOper.mk (some 14) (AOp.mv (Operand.tmp 0)) none [],
                    AOper.mk (some 15)
                      (AOp.bin BinOp.add (Operand.tmp 14) (Operand.const (Value.int IntKind.i64 1))) none
                      [1],
                    AOper.mk (some 16)
                      (AOp.build
                        [Value.int IntKind.i64 0, Value.int IntKind.i64 0,
                          Value.int IntKind.i64 0]
                        [(0, 1, Operand.tmp 13), (1, 1, Operand.tmp 15),
                          (2, 1, Operand.const (Value.int IntKind.i64 1))])
                      none [0, 2],
                    AOper.mk none (AOp.store 3 (Operand.tmp 6) (Operand.tmp 16)) none [3, 0, 1, 2, 3]]
def l74r5 : List AOper :=
  [AOper.mk (some 17) (AOp.mv (Operand.tmp 0)) none [], AOper.mk (some 18) (AOp.mv (Operand.tmp 2)) none [],
                AOper.mk (some 19)
                  (AOp.bin BinOp.sub (Operand.tmp 18) (Operand.const (Value.int IntKind.i64 1))) none [1],
                AOper.mk (some 20) (AOp.mv (Operand.tmp 1)) none [],
                AOper.mk (some 21) (AOp.bin BinOp.mul (Operand.tmp 19) (Operand.tmp 20)) none [2, 3],
                AOper.mk (some 22) (AOp.bin BinOp.add (Operand.tmp 17) (Operand.tmp 21)) none [0, 4],
                AOper.mk (some 7) (AOp.mv (Operand.tmp 22)) none [5, 0, 1, 2, 3, 4, 5]]
def l74r6 : List AOper :=
  [AOper.mk (some 23) (AOp.mv (Operand.tmp 1)) none [],
                    AOper.mk (some 24)
                      (AOp.bin BinOp.lss (Operand.tmp 23) (Operand.const (Value.int IntKind.i64 0))) none
                      [0]]
def l74r7 : List AOper :=
  [AOper.mk (some 25) (AOp.mv (Operand.tmp 0)) none [],
                        AOper.mk (some 26) (AOp.mv (Operand.tmp 7)) none [],
                        AOper.mk (some 27)
                          (AOp.bin BinOp.sub (Operand.tmp 26) (Operand.const (Value.int IntKind.i64 1)))
                          none [1],
                        AOper.mk (some 28) (AOp.mv (Operand.tmp 1)) none [],
                        AOper.mk (some 29)
                          (AOp.build
                            [Value.int IntKind.i64 0, Value.int IntKind.i64 0,
                              Value.int IntKind.i64 0]
                            [(0, 1, Operand.tmp 25), (1, 1, Operand.tmp 27), (2, 1, Operand.tmp 28)])
                          none [0, 2, 3],
                        AOper.mk none (AOp.store 3 (Operand.tmp 6) (Operand.tmp 29)) none [4, 0, 1, 2, 3, 4]]
def l74r8 : List AOper :=
  [AOper.mk (some 30) (AOp.mv (Operand.tmp 0)) none [],
                    AOper.mk (some 31) (AOp.mv (Operand.tmp 7)) none [],
                    AOper.mk (some 32)
                      (AOp.bin BinOp.add (Operand.tmp 31) (Operand.const (Value.int IntKind.i64 1))) none
                      [1],
                    AOper.mk (some 33) (AOp.mv (Operand.tmp 1)) none [],
                    AOper.mk (some 34)
                      (AOp.build
                        [Value.int IntKind.i64 0, Value.int IntKind.i64 0,
                          Value.int IntKind.i64 0]
                        [(0, 1, Operand.tmp 30), (1, 1, Operand.tmp 32), (2, 1, Operand.tmp 33)])
                      none [0, 2, 3],
                    AOper.mk none (AOp.store 3 (Operand.tmp 6) (Operand.tmp 34)) none [4, 0, 1, 2, 3, 4]]
def l74 : AFn :=
  (AFn.mk 35 3
    (ACode.seq
      (ACode.reg l74r0)
      (ACode.seq
        (ACode.seq
          (ACode.reg l74r1)
          (ACode.cond (Operand.tmp 9)
            (ACode.seq
              (ACode.reg l74r2)
              ACode.ret)
            ACode.skip))
        (ACode.seq
          (ACode.seq
            (ACode.reg l74r3)
            (ACode.cond (Operand.tmp 12)
              (ACode.seq
                (ACode.reg l74r4)
                ACode.ret)
              ACode.skip))
          (ACode.seq
            (ACode.reg l74r5)
            (ACode.seq
              (ACode.seq
                (ACode.reg l74r6)
                (ACode.cond (Operand.tmp 24)
                  (ACode.seq
                    (ACode.reg l74r7)
                    ACode.ret)
                  ACode.skip))
              (ACode.seq
                (ACode.reg l74r8)
                ACode.ret))))))
    [ARes.cell 6 true 3])
theorem l74_eq : lowFn Try.prog 74 = some l74 := by kernel_rfl
end Go.Proofs.Ytniddegncklgpaa
