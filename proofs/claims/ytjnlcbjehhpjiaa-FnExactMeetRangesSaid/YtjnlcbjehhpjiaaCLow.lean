import Derived.Test.YtjnlcbjehhpjiaaCVwR
import Derived.Test.YtjnlcbjehhpjiaaProg
import Derived.KernelRfl
set_option maxRecDepth 100000
namespace Go.Proofs.Ytjnlcbjehhpjiaa
open Vw Go
def l3r0 : List AOper :=
  [AOper.mk (some 2) (AOp.box (Operand.tmp 0)) none [], AOper.mk (some 3) (AOp.box (Operand.tmp 1)) none [],
          AOper.mk (some 4) (AOp.mv (Operand.const (Value.bool false))) none []]
def l3r1a : List AOper :=
  [AOper.mk (some 7) (AOp.load true 3 (Operand.tmp 2)) none [], AOper.mk (some 8) (AOp.call 12 [Operand.tmp 7]) none [0], AOper.mk (some 9) (AOp.load true 3 (Operand.tmp 3)) none [], AOper.mk (some 10) (AOp.call 12 [Operand.tmp 9]) none [2, 1], AOper.mk (some 11) (AOp.call 11 [Operand.tmp 8, Operand.tmp 10]) none [1, 3, 3], AOper.mk (some 5)
              (AOp.alloc
                [Value.int IntKind.i64 0, Value.int IntKind.i64 0,
                  Value.int IntKind.i64 0])
              none []]
def l3r1b : List AOper :=
  [AOper.mk none (AOp.store 3 (Operand.tmp 5) (Operand.tmp 11)) none [5, 4, 4, 0, 1, 2, 3, 4, 5]]
def l3r1 : List AOper := l3r1a ++ l3r1b
def l3r2a : List AOper :=
  [AOper.mk (some 12) (AOp.load true 3 (Operand.tmp 2)) none [], AOper.mk (some 13) (AOp.call 12 [Operand.tmp 12]) none [0], AOper.mk (some 14) (AOp.load true 3 (Operand.tmp 3)) none [], AOper.mk (some 15) (AOp.call 12 [Operand.tmp 14]) none [2, 1], AOper.mk (some 16) (AOp.call 13 [Operand.tmp 13, Operand.tmp 15]) none [1, 3, 3], AOper.mk (some 6)
                (AOp.alloc
                  [Value.int IntKind.i64 0, Value.int IntKind.i64 0,
                    Value.int IntKind.i64 0])
                none []]
def l3r2b : List AOper :=
  [AOper.mk none (AOp.store 3 (Operand.tmp 6) (Operand.tmp 16)) none [5, 4, 4, 0, 1, 2, 3, 4, 5]]
def l3r2 : List AOper := l3r2a ++ l3r2b
def l3r3 : List AOper :=
  [AOper.mk (some 17) (AOp.load true 3 (Operand.tmp 6)) none [],
                  AOper.mk (some 18) (AOp.load true 3 (Operand.tmp 5)) none [],
                  AOper.mk (some 19) (AOp.call 14 [Operand.tmp 17, Operand.tmp 18]) none [0, 1],
                  AOper.mk (some 20) (AOp.un UnOp.not (Operand.tmp 19)) none [2]]
def l3r4 : List AOper :=
  [AOper.mk (some 4) (AOp.mv (Operand.const (Value.bool false))) none []]
def l3r5 : List AOper :=
  [AOper.mk (some 4) (AOp.mv (Operand.const (Value.bool true))) none []]
def l3 : AFn :=
  (AFn.mk 21 2
    (ACode.seq
      (ACode.reg l3r0)
      (ACode.seq
        (ACode.draw l3r1)
        (ACode.seq
          (ACode.draw l3r2)
          (ACode.seq
            (ACode.seq
              (ACode.reg l3r3)
              (ACode.cond (Operand.tmp 20)
                (ACode.seq (ACode.reg l3r4)
                  ACode.ret)
                ACode.skip))
            (ACode.seq (ACode.reg l3r5) ACode.ret)))))
    [ARes.tmp 4])
theorem l3_eq : lowFn Try.prog 3 = some l3 := by kernel_rfl
def l11r0 : List AOper :=
  [AOper.mk (some 2) (AOp.box (Operand.tmp 0)) none [], AOper.mk (some 3) (AOp.box (Operand.tmp 1)) none [],
          AOper.mk (some 4)
            (AOp.alloc
              [Value.int IntKind.i64 0, Value.int IntKind.i64 0,
                Value.int IntKind.i64 0])
            none []]
def l11r1 : List AOper :=
  [AOper.mk (some 5) (AOp.load true 3 (Operand.tmp 2)) none [],
              AOper.mk (some 6) (AOp.call 40 [Operand.tmp 5]) none [0],
              AOper.mk (some 7) (AOp.un UnOp.not (Operand.tmp 6)) none [1],
              AOper.mk (some 8) (AOp.mv (Operand.tmp 7)) none [2, 1],
              AOper.mk (some 9) (AOp.load true 3 (Operand.tmp 3)) (some (8, false)) [3],
              AOper.mk (some 10) (AOp.call 40 [Operand.tmp 9]) (some (8, false)) [4, 3, 3],
              AOper.mk (some 11) (AOp.un UnOp.not (Operand.tmp 10)) (some (8, false)) [5, 3],
              AOper.mk (some 12) (AOp.pick (Operand.tmp 8) (Operand.const (Value.bool true)) (Operand.tmp 11)) none
                [3, 6]]
def l11r2 : List AOper :=
  [AOper.mk (some 13)
                    (AOp.build
                      [Value.int IntKind.i64 0, Value.int IntKind.i64 0,
                        Value.int IntKind.i64 0]
                      [])
                    none [],
                  AOper.mk none (AOp.store 3 (Operand.tmp 4) (Operand.tmp 13)) none [0, 0]]
def l11r3a : List AOper :=
  [AOper.mk (some 14) (AOp.load true 3 (Operand.tmp 2)) none [], AOper.mk (some 15) (AOp.call 44 [Operand.tmp 14]) none [0], AOper.mk (some 16) (AOp.call 43 [Operand.tmp 15]) none [1, 1], AOper.mk (some 17) (AOp.load true 3 (Operand.tmp 3)) none []]
def l11r3b : List AOper :=
  [AOper.mk (some 18) (AOp.call 44 [Operand.tmp 17]) none [3, 2], AOper.mk (some 19) (AOp.call 42 [Operand.tmp 16, Operand.tmp 18]) none [2, 4, 4], AOper.mk (some 20) (AOp.call 41 [Operand.tmp 19]) none [5, 5], AOper.mk none (AOp.store 3 (Operand.tmp 4) (Operand.tmp 20)) none [6, 6, 0, 1, 2, 3, 4, 5, 6]]
def l11r3 : List AOper := l11r3a ++ l11r3b
def l11 : AFn :=
  (AFn.mk 21 2
    (ACode.seq
      (ACode.reg l11r0)
      (ACode.seq
        (ACode.seq
          (ACode.reg l11r1)
          (ACode.cond (Operand.tmp 12)
            (ACode.seq
              (ACode.reg l11r2)
              ACode.ret)
            ACode.skip))
        (ACode.seq
          (ACode.draw l11r3)
          ACode.ret)))
    [ARes.cell 4 true 3])
theorem l11_eq : lowFn Try.prog 11 = some l11 := by kernel_rfl
def l12r0 : List AOper :=
  [AOper.mk (some 1) (AOp.box (Operand.tmp 0)) none [],
          AOper.mk (some 2)
            (AOp.alloc
              [Value.int IntKind.i64 0, Value.int IntKind.i64 0,
                Value.int IntKind.i64 0])
            none []]
def l12r1 : List AOper :=
  [AOper.mk (some 3)
              (AOp.alloc
                [Value.int IntKind.i64 0, Value.int IntKind.i64 0,
                  Value.int IntKind.i64 0])
              none []]
def l12r2 : List AOper :=
  [AOper.mk (some 4) (AOp.fld 0 (Operand.tmp 1)) none [],
              AOper.mk (some 5) (AOp.load false 1 (Operand.tmp 4)) none [0],
              AOper.mk (some 6) (AOp.fld 0 (Operand.tmp 3)) none [0, 1],
              AOper.mk none (AOp.store 1 (Operand.tmp 6) (Operand.tmp 5)) none [2, 1, 0, 1]]
def l12r3 : List AOper :=
  [AOper.mk (some 7) (AOp.fld 1 (Operand.tmp 1)) none [],
                AOper.mk (some 8) (AOp.load false 1 (Operand.tmp 7)) none [0],
                AOper.mk (some 9) (AOp.fld 1 (Operand.tmp 3)) none [0, 1],
                AOper.mk none (AOp.store 1 (Operand.tmp 9) (Operand.tmp 8)) none [2, 1, 0, 1]]
def l12r4 : List AOper :=
  [AOper.mk (some 10) (AOp.fld 2 (Operand.tmp 1)) none [],
                  AOper.mk (some 11) (AOp.load false 1 (Operand.tmp 10)) none [0],
                  AOper.mk (some 12) (AOp.fld 2 (Operand.tmp 3)) none [0, 1],
                  AOper.mk none (AOp.store 1 (Operand.tmp 12) (Operand.tmp 11)) none [2, 1, 0, 1]]
def l12r5 : List AOper :=
  [AOper.mk (some 13) (AOp.load true 3 (Operand.tmp 3)) none [],
                    AOper.mk none (AOp.store 3 (Operand.tmp 2) (Operand.tmp 13)) none [0, 0]]
def l12 : AFn :=
  (AFn.mk 14 1
    (ACode.seq
      (ACode.reg l12r0)
      (ACode.seq
        (ACode.reg l12r1)
        (ACode.seq
          (ACode.reg l12r2)
          (ACode.seq
            (ACode.reg l12r3)
            (ACode.seq
              (ACode.reg l12r4)
              (ACode.seq
                (ACode.reg l12r5)
                ACode.ret))))))
    [ARes.cell 2 true 3])
theorem l12_eq : lowFn Try.prog 12 = some l12 := by kernel_rfl
def l13r0 : List AOper :=
  [AOper.mk (some 2) (AOp.box (Operand.tmp 0)) none [], AOper.mk (some 3) (AOp.box (Operand.tmp 1)) none [],
          AOper.mk (some 4)
            (AOp.alloc
              [Value.int IntKind.i64 0, Value.int IntKind.i64 0,
                Value.int IntKind.i64 0])
            none []]
def l13r1 : List AOper :=
  [AOper.mk (some 5) (AOp.load true 3 (Operand.tmp 2)) none [],
              AOper.mk (some 6) (AOp.call 45 [Operand.tmp 5]) none [0],
              AOper.mk (some 7) (AOp.un UnOp.not (Operand.tmp 6)) none [1],
              AOper.mk (some 8) (AOp.mv (Operand.tmp 7)) none [2, 1],
              AOper.mk (some 9) (AOp.load true 3 (Operand.tmp 3)) (some (8, false)) [3],
              AOper.mk (some 10) (AOp.call 45 [Operand.tmp 9]) (some (8, false)) [4, 3, 3],
              AOper.mk (some 11) (AOp.un UnOp.not (Operand.tmp 10)) (some (8, false)) [5, 3],
              AOper.mk (some 12) (AOp.pick (Operand.tmp 8) (Operand.const (Value.bool true)) (Operand.tmp 11)) none
                [3, 6]]
def l13r2 : List AOper :=
  [AOper.mk (some 13)
                    (AOp.build
                      [Value.int IntKind.i64 0, Value.int IntKind.i64 0,
                        Value.int IntKind.i64 0]
                      [])
                    none [],
                  AOper.mk none (AOp.store 3 (Operand.tmp 4) (Operand.tmp 13)) none [0, 0]]
def l13r3a : List AOper :=
  [AOper.mk (some 14) (AOp.load true 3 (Operand.tmp 2)) none [], AOper.mk (some 15) (AOp.call 46 [Operand.tmp 14]) none [0], AOper.mk (some 16) (AOp.load true 3 (Operand.tmp 3)) none []]
def l13r3b : List AOper :=
  [AOper.mk (some 17) (AOp.call 46 [Operand.tmp 16]) none [2, 1], AOper.mk (some 18) (AOp.call 47 [Operand.tmp 15, Operand.tmp 17]) none [1, 3, 3], AOper.mk none (AOp.store 3 (Operand.tmp 4) (Operand.tmp 18)) none [4, 4, 0, 1, 2, 3, 4]]
def l13r3 : List AOper := l13r3a ++ l13r3b
def l13 : AFn :=
  (AFn.mk 19 2
    (ACode.seq
      (ACode.reg l13r0)
      (ACode.seq
        (ACode.seq
          (ACode.reg l13r1)
          (ACode.cond (Operand.tmp 12)
            (ACode.seq
              (ACode.reg l13r2)
              ACode.ret)
            ACode.skip))
        (ACode.seq
          (ACode.draw l13r3)
          ACode.ret)))
    [ARes.cell 4 true 3])
theorem l13_eq : lowFn Try.prog 13 = some l13 := by kernel_rfl
def l14r0 : List AOper :=
  [AOper.mk (some 2) (AOp.box (Operand.tmp 0)) none [], AOper.mk (some 3) (AOp.box (Operand.tmp 1)) none [],
          AOper.mk (some 4) (AOp.mv (Operand.const (Value.bool false))) none []]
def l14r1 : List AOper :=
  [AOper.mk (some 5) (AOp.fld 0 (Operand.tmp 2)) none [],
              AOper.mk (some 6) (AOp.load false 1 (Operand.tmp 5)) none [0],
              AOper.mk (some 7) (AOp.fld 0 (Operand.tmp 3)) none [],
              AOper.mk (some 8) (AOp.load false 1 (Operand.tmp 7)) none [2],
              AOper.mk (some 9) (AOp.bin BinOp.neq (Operand.tmp 6) (Operand.tmp 8)) none [1, 3]]
def l14r2 : List AOper :=
  [AOper.mk (some 4) (AOp.mv (Operand.const (Value.bool false))) none []]
def l14r3 : List AOper :=
  [AOper.mk (some 10) (AOp.fld 1 (Operand.tmp 2)) none [],
                AOper.mk (some 11) (AOp.load false 1 (Operand.tmp 10)) none [0],
                AOper.mk (some 12) (AOp.fld 1 (Operand.tmp 3)) none [],
                AOper.mk (some 13) (AOp.load false 1 (Operand.tmp 12)) none [2],
                AOper.mk (some 14) (AOp.bin BinOp.neq (Operand.tmp 11) (Operand.tmp 13)) none [1, 3]]
def l14r4 : List AOper :=
  [AOper.mk (some 4) (AOp.mv (Operand.const (Value.bool false))) none []]
def l14r5 : List AOper :=
  [AOper.mk (some 15) (AOp.fld 2 (Operand.tmp 2)) none [],
                  AOper.mk (some 16) (AOp.load false 1 (Operand.tmp 15)) none [0],
                  AOper.mk (some 17) (AOp.fld 2 (Operand.tmp 3)) none [],
                  AOper.mk (some 18) (AOp.load false 1 (Operand.tmp 17)) none [2],
                  AOper.mk (some 19) (AOp.bin BinOp.neq (Operand.tmp 16) (Operand.tmp 18)) none [1, 3]]
def l14r6 : List AOper :=
  [AOper.mk (some 4) (AOp.mv (Operand.const (Value.bool false))) none []]
def l14r7 : List AOper :=
  [AOper.mk (some 4) (AOp.mv (Operand.const (Value.bool true))) none []]
def l14 : AFn :=
  (AFn.mk 20 2
    (ACode.seq
      (ACode.reg l14r0)
      (ACode.seq
        (ACode.seq
          (ACode.reg l14r1)
          (ACode.cond (Operand.tmp 9)
            (ACode.seq (ACode.reg l14r2) ACode.ret)
            ACode.skip))
        (ACode.seq
          (ACode.seq
            (ACode.reg l14r3)
            (ACode.cond (Operand.tmp 14)
              (ACode.seq (ACode.reg l14r4) ACode.ret)
              ACode.skip))
          (ACode.seq
            (ACode.seq
              (ACode.reg l14r5)
              (ACode.cond (Operand.tmp 19)
                (ACode.seq (ACode.reg l14r6)
                  ACode.ret)
                ACode.skip))
            (ACode.seq (ACode.reg l14r7) ACode.ret)))))
    [ARes.tmp 4])
theorem l14_eq : lowFn Try.prog 14 = some l14 := by kernel_rfl
def l40r0 : List AOper :=
  [AOper.mk (some 1) (AOp.box (Operand.tmp 0)) none [],
          AOper.mk (some 2) (AOp.mv (Operand.const (Value.bool false))) none []]
def l40r1 : List AOper :=
  [AOper.mk (some 3) (AOp.fld 0 (Operand.tmp 1)) none [],
            AOper.mk (some 4) (AOp.load false 1 (Operand.tmp 3)) none [0],
            AOper.mk (some 5)
              (AOp.call 48
                [Operand.tmp 4, Operand.const (Value.int IntKind.i64 (-100)),
                  Operand.const (Value.int IntKind.i64 100)])
              none [1],
            AOper.mk (some 6) (AOp.mv (Operand.tmp 5)) none [2, 2],
            AOper.mk (some 7) (AOp.fld 1 (Operand.tmp 1)) (some (6, true)) [3],
            AOper.mk (some 8) (AOp.load false 1 (Operand.tmp 7)) (some (6, true)) [4, 3],
            AOper.mk (some 9)
              (AOp.call 48
                [Operand.tmp 8, Operand.const (Value.int IntKind.i64 (-101)),
                  Operand.const (Value.int IntKind.i64 101)])
              (some (6, true)) [5, 3, 3],
            AOper.mk (some 10) (AOp.pick (Operand.tmp 6) (Operand.tmp 9) (Operand.const (Value.bool false))) none
              [3, 6],
            AOper.mk (some 11) (AOp.mv (Operand.tmp 10)) none [7, 6],
            AOper.mk (some 12) (AOp.fld 2 (Operand.tmp 1)) (some (11, true)) [8],
            AOper.mk (some 13) (AOp.load false 1 (Operand.tmp 12)) (some (11, true)) [9, 8],
            AOper.mk (some 14)
              (AOp.call 48
                [Operand.tmp 13, Operand.const (Value.int IntKind.i64 (-200)),
                  Operand.const (Value.int IntKind.i64 200)])
              (some (11, true)) [10, 8, 8],
            AOper.mk (some 15) (AOp.pick (Operand.tmp 11) (Operand.tmp 14) (Operand.const (Value.bool false))) none
              [8, 11],
            AOper.mk (some 16) (AOp.mv (Operand.tmp 15)) none [12, 11],
            AOper.mk (some 17) (AOp.fld 2 (Operand.tmp 1)) (some (16, true)) [13],
            AOper.mk (some 18) (AOp.load false 1 (Operand.tmp 17)) (some (16, true)) [14, 13],
            AOper.mk (some 19)
              (AOp.bin BinOp.neq (Operand.tmp 18) (Operand.const (Value.int IntKind.i64 0)))
              (some (16, true)) [15, 13],
            AOper.mk (some 20) (AOp.pick (Operand.tmp 16) (Operand.tmp 19) (Operand.const (Value.bool false))) none
              [13, 16],
            AOper.mk (some 2) (AOp.mv (Operand.tmp 20)) none
              [17, 13, 0, 1, 2, 3, 4, 5, 6, 7, 8, 9, 10, 11, 12, 13, 14, 15, 16, 17]]
def l40 : AFn :=
  (AFn.mk 21 1
    (ACode.seq
      (ACode.reg l40r0)
      (ACode.seq
        (ACode.reg l40r1)
        ACode.ret))
    [ARes.tmp 2])
theorem l40_eq : lowFn Try.prog 40 = some l40 := by kernel_rfl
def l41r0 : List AOper :=
  [AOper.mk (some 2)
            (AOp.alloc
              [Value.int IntKind.i64 0, Value.int IntKind.i64 0,
                Value.int IntKind.i64 0])
            none []]
def l41r1 : List AOper :=
  [AOper.mk (some 5) (AOp.mv (Operand.tmp 0)) none [], AOper.mk (some 6) (AOp.len (Operand.tmp 5)) none [0]]
def l41r2 : List AOper :=
  [AOper.mk (some 8)
                    (AOp.bin BinOp.eql (Operand.tmp 6) (Operand.const (Value.int IntKind.i64 0))) none [],
                  AOper.mk (some 7) (AOp.mv (Operand.tmp 8)) none [0]]
def l41r3 : List AOper :=
  [AOper.mk (some 9)
                        (AOp.build
                          [Value.int IntKind.i64 0, Value.int IntKind.i64 0,
                            Value.int IntKind.i64 0]
                          [(0, 1, Operand.const (Value.int IntKind.i64 0)),
                            (1, 1, Operand.const (Value.int IntKind.i64 0)),
                            (2, 1, Operand.const (Value.int IntKind.i64 1))])
                        none [],
                      AOper.mk none (AOp.store 3 (Operand.tmp 2) (Operand.tmp 9)) none [0, 0]]
def l41r4 : List AOper :=
  [AOper.mk (some 11)
                        (AOp.bin BinOp.eql (Operand.tmp 6) (Operand.const (Value.int IntKind.i64 1))) none
                        [],
                      AOper.mk (some 10) (AOp.mv (Operand.tmp 11)) none [0]]
def l41r5a : List AOper :=
  [AOper.mk (some 12) (AOp.mv (Operand.tmp 0)) none [], AOper.mk (some 13)
                            (AOp.idxA 1 (Operand.tmp 12) (Operand.const (Value.int IntKind.i64 0))) none
                            [0], AOper.mk (some 14) (AOp.load false 1 (Operand.tmp 13)) none [1], AOper.mk (some 15) (AOp.mv (Operand.tmp 0)) none [], AOper.mk (some 16)
                            (AOp.idxA 1 (Operand.tmp 15) (Operand.const (Value.int IntKind.i64 0))) none
                            [3], AOper.mk (some 17) (AOp.load false 1 (Operand.tmp 16)) none [4], AOper.mk (some 18)
                            (AOp.bin BinOp.add (Operand.tmp 17) (Operand.const (Value.int IntKind.i64 1)))
                            none [5]]
def l41r5b : List AOper :=
  [AOper.mk (some 19)
                            (AOp.build
                              [Value.int IntKind.i64 0, Value.int IntKind.i64 0,
                                Value.int IntKind.i64 0]
                              [(0, 1, Operand.tmp 14), (1, 1, Operand.tmp 18),
                                (2, 1, Operand.const (Value.int IntKind.i64 1))])
                            none [2, 6], AOper.mk none (AOp.store 3 (Operand.tmp 2) (Operand.tmp 19)) none
                            [7, 0, 1, 2, 3, 4, 5, 6, 7]]
def l41r5 : List AOper := l41r5a ++ l41r5b
def l41r6a : List AOper :=
  [AOper.mk (some 20) (AOp.mv (Operand.tmp 0)) none [], AOper.mk (some 21) (AOp.idxA 1 (Operand.tmp 20) (Operand.const (Value.int IntKind.i64 1)))
                none [0], AOper.mk (some 22) (AOp.load false 1 (Operand.tmp 21)) none [1], AOper.mk (some 23) (AOp.mv (Operand.tmp 0)) none [], AOper.mk (some 24) (AOp.idxA 1 (Operand.tmp 23) (Operand.const (Value.int IntKind.i64 0)))
                none [3], AOper.mk (some 25) (AOp.load false 1 (Operand.tmp 24)) none [4]]
def l41r6b : List AOper :=
  [AOper.mk (some 26) (AOp.bin BinOp.sub (Operand.tmp 22) (Operand.tmp 25)) none [2, 5], AOper.mk (some 3) (AOp.mv (Operand.tmp 26)) none [6, 0, 1, 2, 3, 4, 5, 6]]
def l41r6 : List AOper := l41r6a ++ l41r6b
def l41r7 : List AOper :=
  [AOper.mk (some 27) (AOp.mv (Operand.tmp 0)) none [], AOper.mk (some 28) (AOp.mv (Operand.tmp 0)) none [],
                AOper.mk (some 29) (AOp.len (Operand.tmp 28)) none [1],
                AOper.mk (some 30)
                  (AOp.bin BinOp.sub (Operand.tmp 29) (Operand.const (Value.int IntKind.i64 1))) none [2],
                AOper.mk (some 31) (AOp.idxA 1 (Operand.tmp 27) (Operand.tmp 30)) none [0, 3],
                AOper.mk (some 32) (AOp.load false 1 (Operand.tmp 31)) none [4],
                AOper.mk (some 33)
                  (AOp.bin BinOp.add (Operand.tmp 32) (Operand.const (Value.int IntKind.i64 1))) none [5],
                AOper.mk (some 4) (AOp.mv (Operand.tmp 33)) none [6, 0, 1, 2, 3, 4, 5, 6]]
def l41r8 : List AOper :=
  [AOper.mk (some 34) (AOp.mv (Operand.tmp 3)) none [],
                    AOper.mk (some 35)
                      (AOp.bin BinOp.lss (Operand.tmp 34) (Operand.const (Value.int IntKind.i64 0))) none
                      [0]]
def l41r9 : List AOper :=
  [AOper.mk (some 36) (AOp.mv (Operand.tmp 0)) none [],
                      AOper.mk (some 37) (AOp.mv (Operand.tmp 0)) none [],
                      AOper.mk (some 38) (AOp.len (Operand.tmp 37)) none [1],
                      AOper.mk (some 39)
                        (AOp.bin BinOp.sub (Operand.tmp 38) (Operand.const (Value.int IntKind.i64 1))) none
                        [2],
                      AOper.mk (some 40) (AOp.idxA 1 (Operand.tmp 36) (Operand.tmp 39)) none [0, 3],
                      AOper.mk (some 41) (AOp.load false 1 (Operand.tmp 40)) none [4],
                      AOper.mk (some 42)
                        (AOp.bin BinOp.sub (Operand.tmp 41) (Operand.const (Value.int IntKind.i64 1))) none
                        [5],
                      AOper.mk (some 4) (AOp.mv (Operand.tmp 42)) none [6, 0, 1, 2, 3, 4, 5, 6]]
def l41r10 : List AOper :=
  [AOper.mk (some 43) (AOp.mv (Operand.tmp 0)) none [],
                    AOper.mk (some 44)
                      (AOp.idxA 1 (Operand.tmp 43) (Operand.const (Value.int IntKind.i64 0))) none [0],
                    AOper.mk (some 45) (AOp.load false 1 (Operand.tmp 44)) none [1],
                    AOper.mk (some 46) (AOp.mv (Operand.tmp 4)) none [],
                    AOper.mk (some 47) (AOp.mv (Operand.tmp 3)) none [],
                    AOper.mk (some 48)
                      (AOp.build
                        [Value.int IntKind.i64 0, Value.int IntKind.i64 0,
                          Value.int IntKind.i64 0]
                        [(0, 1, Operand.tmp 45), (1, 1, Operand.tmp 46), (2, 1, Operand.tmp 47)])
                      none [2, 3, 4],
                    AOper.mk none (AOp.store 3 (Operand.tmp 2) (Operand.tmp 48)) none [5, 0, 1, 2, 3, 4, 5]]
def l41 : AFn :=
  (AFn.mk 49 1
    (ACode.seq
      (ACode.reg l41r0)
      (ACode.seq
        (ACode.seq
          (ACode.reg l41r1)
          (ACode.block 0
            (ACode.seq
              (ACode.reg l41r2)
              (ACode.cond (Operand.tmp 7)
                (ACode.seq
                  (ACode.reg l41r3)
                  ACode.ret)
                (ACode.seq
                  (ACode.reg l41r4)
                  (ACode.cond (Operand.tmp 10)
                    (ACode.seq
                      (ACode.draw l41r5)
                      ACode.ret)
                    ACode.skip))))))
        (ACode.seq
          (ACode.draw l41r6)
          (ACode.seq
            (ACode.reg l41r7)
            (ACode.seq
              (ACode.seq
                (ACode.reg l41r8)
                (ACode.cond (Operand.tmp 35)
                  (ACode.reg l41r9)
                  ACode.skip))
              (ACode.seq
                (ACode.reg l41r10)
                ACode.ret))))))
    [ARes.cell 2 true 3])
theorem l41_eq : lowFn Try.prog 41 = some l41 := by kernel_rfl
def l42r0 : List AOper :=
  [AOper.mk (some 4) (AOp.mv (Operand.const (Value.slice none 0 0))) none []]
def l42r1 : List AOper :=
  [AOper.mk (some 7) (AOp.bslice 1 [Value.int IntKind.i64 0] [] 0) none [],
            AOper.mk (some 5) (AOp.mv (Operand.tmp 7)) none [0, 0]]
def l42r2 : List AOper :=
  [AOper.mk (some 6) (AOp.mv (Operand.const (Value.int IntKind.i64 0))) none []]
def l42r3 : List AOper :=
  [AOper.mk (some 8) (AOp.mv (Operand.tmp 6)) none [],
                        AOper.mk (some 9) (AOp.mv (Operand.tmp 0)) none [],
                        AOper.mk (some 10) (AOp.len (Operand.tmp 9)) none [1],
                        AOper.mk (some 11) (AOp.bin BinOp.lss (Operand.tmp 8) (Operand.tmp 10)) none [0, 2]]
def l42r4 : List AOper :=
  [AOper.mk (some 14) (AOp.mv (Operand.tmp 1)) none [],
                            AOper.mk (some 15) (AOp.mv (Operand.tmp 0)) none [],
                            AOper.mk (some 16) (AOp.mv (Operand.tmp 6)) none [],
                            AOper.mk (some 17) (AOp.idxA 1 (Operand.tmp 15) (Operand.tmp 16)) none [1, 2],
                            AOper.mk (some 18) (AOp.load false 1 (Operand.tmp 17)) none [3],
                            AOper.mk (some 19) (AOp.call 66 [Operand.tmp 14, Operand.tmp 18]) none [0, 4],
                            AOper.mk (some 20)
                              (AOp.bin BinOp.geq (Operand.tmp 19) (Operand.const (Value.int IntKind.i64 0)))
                              none [5]]
def l42r5 : List AOper :=
  [AOper.mk (some 21) (AOp.mv (Operand.tmp 5)) none [],
                              AOper.mk (some 22) (AOp.mv (Operand.tmp 0)) none [],
                              AOper.mk (some 23) (AOp.mv (Operand.tmp 6)) none [],
                              AOper.mk (some 24) (AOp.idxA 1 (Operand.tmp 22) (Operand.tmp 23)) none [1, 2],
                              AOper.mk (some 25) (AOp.load false 1 (Operand.tmp 24)) none [3],
                              AOper.mk (some 26)
                                (AOp.bslice 1 [Value.int IntKind.i64 0] [(0, Operand.tmp 25)] 1) none [4],
                              AOper.mk (some 27) (AOp.append 1 (Operand.tmp 21) (Operand.tmp 26)) none [0, 5],
                              AOper.mk (some 5) (AOp.mv (Operand.tmp 27)) none [6, 6, 0, 1, 2, 3, 4, 5, 6]]
def l42r6 : List AOper :=
  [AOper.mk (some 12) (AOp.mv (Operand.tmp 6)) none [],
                        AOper.mk (some 13)
                          (AOp.bin BinOp.add (Operand.tmp 12) (Operand.const (Value.int IntKind.i64 1)))
                          none [0],
                        AOper.mk (some 6) (AOp.mv (Operand.tmp 13)) none [1, 0, 1]]
def l42r7 : List AOper :=
  [AOper.mk (some 28) (AOp.mv (Operand.tmp 5)) none [],
                AOper.mk (some 4) (AOp.mv (Operand.tmp 28)) none [0, 0]]
def l42 : AFn :=
  (AFn.mk 29 2
    (ACode.seq (ACode.reg l42r0)
      (ACode.seq
        (ACode.reg l42r1)
        (ACode.seq
          (ACode.seq
            (ACode.reg l42r2)
            (ACode.block 0
              (ACode.loop
                (ACode.seq
                  (ACode.seq
                    (ACode.reg l42r3)
                    (ACode.cond (Operand.tmp 11) ACode.skip (ACode.exit 0)))
                  (ACode.seq
                    (ACode.block 1
                      (ACode.seq
                        (ACode.reg l42r4)
                        (ACode.cond (Operand.tmp 20)
                          (ACode.reg l42r5)
                          ACode.skip)))
                    (ACode.reg l42r6))))))
          (ACode.seq
            (ACode.reg l42r7)
            ACode.ret))))
    [ARes.tmp 4])
theorem l42_eq : lowFn Try.prog 42 = some l42 := by kernel_rfl
def l43r0 : List AOper :=
  [AOper.mk (some 2) (AOp.mv (Operand.const (Value.slice none 0 0))) none []]
def l43r1a : List AOper :=
  [AOper.mk (some 3) (AOp.mv (Operand.tmp 0)) none [], AOper.mk (some 4) (AOp.len (Operand.tmp 3)) none [0], AOper.mk (some 5)
                (AOp.bin BinOp.gtr (Operand.tmp 4) (Operand.const (Value.int IntKind.i64 1))) none [1], AOper.mk (some 6) (AOp.mv (Operand.tmp 5)) none [2], AOper.mk (some 7) (AOp.mv (Operand.tmp 0)) (some (6, true)) [3], AOper.mk (some 8) (AOp.idxA 1 (Operand.tmp 7) (Operand.const (Value.int IntKind.i64 0)))
                (some (6, true)) [4, 3], AOper.mk (some 9) (AOp.load false 1 (Operand.tmp 8)) (some (6, true)) [5, 3], AOper.mk (some 10) (AOp.mv (Operand.tmp 0)) (some (6, true)) [3], AOper.mk (some 11) (AOp.idxA 1 (Operand.tmp 10) (Operand.const (Value.int IntKind.i64 1)))
                (some (6, true)) [7, 3], AOper.mk (some 12) (AOp.load false 1 (Operand.tmp 11)) (some (6, true)) [8, 3]]
def l43r1b : List AOper :=
  [AOper.mk (some 13) (AOp.bin BinOp.gtr (Operand.tmp 9) (Operand.tmp 12)) (some (6, true)) [6, 9, 3], AOper.mk (some 14) (AOp.pick (Operand.tmp 6) (Operand.tmp 13) (Operand.const (Value.bool false))) none
                [3, 10]]
def l43r1 : List AOper := l43r1a ++ l43r1b
def l43r2 : List AOper :=
  [AOper.mk (some 15) (AOp.mv (Operand.tmp 0)) none [],
                  AOper.mk (some 16) (AOp.call 67 [Operand.tmp 15]) none [0],
                  AOper.mk (some 2) (AOp.mv (Operand.tmp 16)) none [1, 1, 0, 1]]
def l43r3 : List AOper :=
  [AOper.mk (some 17) (AOp.mv (Operand.tmp 0)) none [],
              AOper.mk (some 18) (AOp.call 68 [Operand.tmp 17]) none [0],
              AOper.mk (some 2) (AOp.mv (Operand.tmp 18)) none [1, 1, 0, 1]]
def l43 : AFn :=
  (AFn.mk 19 1
    (ACode.seq (ACode.reg l43r0)
      (ACode.seq
        (ACode.seq
          (ACode.draw l43r1)
          (ACode.cond (Operand.tmp 14)
            (ACode.seq
              (ACode.reg l43r2)
              ACode.ret)
            ACode.skip))
        (ACode.seq
          (ACode.reg l43r3)
          ACode.ret)))
    [ARes.tmp 2])
theorem l43_eq : lowFn Try.prog 43 = some l43 := by kernel_rfl
def l44r0 : List AOper :=
  [AOper.mk (some 1) (AOp.box (Operand.tmp 0)) none [],
          AOper.mk (some 2) (AOp.mv (Operand.const (Value.slice none 0 0))) none []]
def l44r1 : List AOper :=
  [AOper.mk (some 5) (AOp.bslice 1 [Value.int IntKind.i64 0] [] 0) none [],
            AOper.mk (some 3) (AOp.mv (Operand.tmp 5)) none [0, 0]]
def l44r2 : List AOper :=
  [AOper.mk (some 6) (AOp.fld 0 (Operand.tmp 1)) none [],
                AOper.mk (some 7) (AOp.load false 1 (Operand.tmp 6)) none [0],
                AOper.mk (some 4) (AOp.mv (Operand.tmp 7)) none [1, 0, 1]]
def l44r3 : List AOper :=
  [AOper.mk (some 8) (AOp.fld 2 (Operand.tmp 1)) none [],
                        AOper.mk (some 9) (AOp.load false 1 (Operand.tmp 8)) none [0],
                        AOper.mk (some 10)
                          (AOp.bin BinOp.gtr (Operand.tmp 9) (Operand.const (Value.int IntKind.i64 0))) none
                          [1],
                        AOper.mk (some 11) (AOp.mv (Operand.tmp 10)) none [2],
                        AOper.mk (some 12) (AOp.mv (Operand.tmp 4)) (some (11, true)) [3],
                        AOper.mk (some 13) (AOp.fld 1 (Operand.tmp 1)) (some (11, true)) [3],
                        AOper.mk (some 14) (AOp.load false 1 (Operand.tmp 13)) (some (11, true)) [5, 3],
                        AOper.mk (some 15) (AOp.bin BinOp.lss (Operand.tmp 12) (Operand.tmp 14)) (some (11, true))
                          [4, 6, 3],
                        AOper.mk (some 16)
                          (AOp.pick (Operand.tmp 11) (Operand.tmp 15) (Operand.const (Value.bool false))) none [3, 7],
                        AOper.mk (some 17) (AOp.mv (Operand.tmp 16)) none [8, 3],
                        AOper.mk (some 18) (AOp.fld 2 (Operand.tmp 1)) (some (17, false)) [9],
                        AOper.mk (some 19) (AOp.load false 1 (Operand.tmp 18)) (some (17, false)) [10, 9],
                        AOper.mk (some 20)
                          (AOp.bin BinOp.lss (Operand.tmp 19) (Operand.const (Value.int IntKind.i64 0)))
                          (some (17, false)) [11, 9],
                        AOper.mk (some 21) (AOp.mv (Operand.tmp 20)) (some (17, false)) [12, 9, 9],
                        AOper.mk (some 22) (AOp.mv (Operand.tmp 4)) (some (21, true)) [13],
                        AOper.mk (some 23) (AOp.fld 1 (Operand.tmp 1)) (some (21, true)) [13],
                        AOper.mk (some 24) (AOp.load false 1 (Operand.tmp 23)) (some (21, true)) [15, 13],
                        AOper.mk (some 25) (AOp.bin BinOp.gtr (Operand.tmp 22) (Operand.tmp 24)) (some (21, true))
                          [14, 16, 13],
                        AOper.mk (some 26)
                          (AOp.pick (Operand.tmp 21) (Operand.tmp 25) (Operand.const (Value.bool false)))
                          (some (17, false)) [13, 17, 9],
                        AOper.mk (some 27)
                          (AOp.pick (Operand.tmp 17) (Operand.const (Value.bool true)) (Operand.tmp 26)) none [9, 18]]
def l44r4 : List AOper :=
  [AOper.mk (some 32) (AOp.mv (Operand.tmp 3)) none [],
                          AOper.mk (some 33) (AOp.mv (Operand.tmp 4)) none [],
                          AOper.mk (some 34)
                            (AOp.bslice 1 [Value.int IntKind.i64 0] [(0, Operand.tmp 33)] 1) none [1],
                          AOper.mk (some 35) (AOp.append 1 (Operand.tmp 32) (Operand.tmp 34)) none [0, 2],
                          AOper.mk (some 3) (AOp.mv (Operand.tmp 35)) none [3, 3, 0, 1, 2, 3]]
def l44r5 : List AOper :=
  [AOper.mk (some 28) (AOp.mv (Operand.tmp 4)) none [],
                        AOper.mk (some 29) (AOp.fld 2 (Operand.tmp 1)) none [],
                        AOper.mk (some 30) (AOp.load false 1 (Operand.tmp 29)) none [1],
                        AOper.mk (some 31) (AOp.bin BinOp.add (Operand.tmp 28) (Operand.tmp 30)) none [0, 2],
                        AOper.mk (some 4) (AOp.mv (Operand.tmp 31)) none [3, 0, 1, 2, 3]]
def l44r6 : List AOper :=
  [AOper.mk (some 36) (AOp.mv (Operand.tmp 3)) none [],
                AOper.mk (some 2) (AOp.mv (Operand.tmp 36)) none [0, 0]]
def l44 : AFn :=
  (AFn.mk 37 1
    (ACode.seq
      (ACode.reg l44r0)
      (ACode.seq
        (ACode.reg l44r1)
        (ACode.seq
          (ACode.seq
            (ACode.reg l44r2)
            (ACode.block 0
              (ACode.loop
                (ACode.seq
                  (ACode.seq
                    (ACode.reg l44r3)
                    (ACode.cond (Operand.tmp 27) ACode.skip (ACode.exit 0)))
                  (ACode.seq
                    (ACode.block 1
                      (ACode.reg l44r4))
                    (ACode.reg l44r5))))))
          (ACode.seq
            (ACode.reg l44r6)
            ACode.ret))))
    [ARes.tmp 2])
theorem l44_eq : lowFn Try.prog 44 = some l44 := by kernel_rfl
def l45r0 : List AOper :=
  [AOper.mk (some 1) (AOp.box (Operand.tmp 0)) none [],
          AOper.mk (some 2) (AOp.mv (Operand.const (Value.bool false))) none []]
def l45r1 : List AOper :=
  [AOper.mk (some 3) (AOp.fld 0 (Operand.tmp 1)) none [],
            AOper.mk (some 4) (AOp.load false 1 (Operand.tmp 3)) none [0],
            AOper.mk (some 5) (AOp.call 69 [Operand.tmp 4, Operand.const (Value.int IntKind.i64 100)]) none
              [1],
            AOper.mk (some 6) (AOp.mv (Operand.tmp 5)) none [2, 2],
            AOper.mk (some 7) (AOp.fld 1 (Operand.tmp 1)) (some (6, true)) [3],
            AOper.mk (some 8) (AOp.load false 1 (Operand.tmp 7)) (some (6, true)) [4, 3],
            AOper.mk (some 9) (AOp.call 69 [Operand.tmp 8, Operand.const (Value.int IntKind.i64 101)])
              (some (6, true)) [5, 3, 3],
            AOper.mk (some 10) (AOp.pick (Operand.tmp 6) (Operand.tmp 9) (Operand.const (Value.bool false))) none
              [3, 6],
            AOper.mk (some 11) (AOp.mv (Operand.tmp 10)) none [7, 6],
            AOper.mk (some 12) (AOp.fld 2 (Operand.tmp 1)) (some (11, true)) [8],
            AOper.mk (some 13) (AOp.load false 1 (Operand.tmp 12)) (some (11, true)) [9, 8],
            AOper.mk (some 14) (AOp.call 70 [Operand.tmp 13]) (some (11, true)) [10, 8, 8],
            AOper.mk (some 15) (AOp.pick (Operand.tmp 11) (Operand.tmp 14) (Operand.const (Value.bool false))) none
              [8, 11],
            AOper.mk (some 2) (AOp.mv (Operand.tmp 15)) none [12, 11, 0, 1, 2, 3, 4, 5, 6, 7, 8, 9, 10, 11, 12]]
def l45 : AFn :=
  (AFn.mk 16 1
    (ACode.seq
      (ACode.reg l45r0)
      (ACode.seq
        (ACode.reg l45r1)
        ACode.ret))
    [ARes.tmp 2])
theorem l45_eq : lowFn Try.prog 45 = some l45 := by kernel_rfl
def l46r0 : List AOper :=
  [AOper.mk (some 1) (AOp.box (Operand.tmp 0)) none [],
          AOper.mk (some 2)
            (AOp.alloc
              [Value.int IntKind.i64 0, Value.int IntKind.i64 0,
                Value.int IntKind.i64 0])
            none []]
def l46r1 : List AOper :=
  [AOper.mk (some 3) (AOp.fld 2 (Operand.tmp 1)) none [],
              AOper.mk (some 4) (AOp.load false 1 (Operand.tmp 3)) none [0],
              AOper.mk (some 5)
                (AOp.bin BinOp.lss (Operand.tmp 4) (Operand.const (Value.int IntKind.i64 0))) none [1]]
def l46r2 : List AOper :=
  [AOper.mk (some 6) (AOp.load true 3 (Operand.tmp 1)) none [],
                  AOper.mk (some 7) (AOp.call 71 [Operand.tmp 6]) none [0],
                  AOper.mk none (AOp.store 3 (Operand.tmp 2) (Operand.tmp 7)) none [1, 1, 0, 1]]
def l46r3 : List AOper :=
  [AOper.mk (some 8) (AOp.load true 3 (Operand.tmp 1)) none [],
              AOper.mk (some 9) (AOp.call 72 [Operand.tmp 8]) none [0],
              AOper.mk none (AOp.store 3 (Operand.tmp 2) (Operand.tmp 9)) none [1, 1, 0, 1]]
def l46 : AFn :=
  (AFn.mk 10 1
    (ACode.seq
      (ACode.reg l46r0)
      (ACode.seq
        (ACode.seq
          (ACode.reg l46r1)
          (ACode.cond (Operand.tmp 5)
            (ACode.seq
              (ACode.reg l46r2)
              ACode.ret)
            ACode.skip))
        (ACode.seq
          (ACode.reg l46r3)
          ACode.ret)))
    [ARes.cell 2 true 3])
theorem l46_eq : lowFn Try.prog 46 = some l46 := by kernel_rfl
def l47r0 : List AOper :=
  [AOper.mk (some 2) (AOp.box (Operand.tmp 0)) none [], AOper.mk (some 3) (AOp.box (Operand.tmp 1)) none [],
          AOper.mk (some 4)
            (AOp.alloc
              [Value.int IntKind.i64 0, Value.int IntKind.i64 0,
                Value.int IntKind.i64 0])
            none []]
def l47r1 : List AOper :=
  [AOper.mk (some 9) (AOp.load true 3 (Operand.tmp 2)) none [],
              AOper.mk (some 10) (AOp.call 50 [Operand.tmp 9]) none [0],
              AOper.mk (some 11) (AOp.mv (Operand.const (Value.int IntKind.i64 0))) none []]
def l47r2 : List AOper :=
  [AOper.mk (some 12) (AOp.bin BinOp.lss (Operand.tmp 11) (Operand.tmp 10)) none []]
def l47r3 : List AOper :=
  [AOper.mk (some 13) (AOp.mv (Operand.tmp 11)) none [],
                            AOper.mk (some 5) (AOp.mv (Operand.tmp 13)) none [0, 0]]
def l47r4 : List AOper :=
  [AOper.mk (some 14) (AOp.load true 3 (Operand.tmp 2)) none [],
                              AOper.mk (some 15) (AOp.mv (Operand.tmp 5)) none [],
                              AOper.mk (some 16) (AOp.call 73 [Operand.tmp 14, Operand.tmp 15]) none [0, 1],
                              AOper.mk (some 6) (AOp.mv (Operand.tmp 16)) none [2, 2, 0, 1, 2]]
def l47r5 : List AOper :=
  [AOper.mk (some 17) (AOp.load true 3 (Operand.tmp 3)) none [],
                                  AOper.mk (some 18) (AOp.mv (Operand.tmp 6)) none [],
                                  AOper.mk (some 19) (AOp.call 74 [Operand.tmp 17, Operand.tmp 18]) none [0, 1],
                                  AOper.mk (some 20)
                                    (AOp.bin BinOp.lss (Operand.tmp 19)
                                      (Operand.const (Value.int IntKind.i64 0)))
                                    none [2]]
def l47r6 : List AOper :=
  [AOper.mk (some 21) (AOp.fld 2 (Operand.tmp 2)) none [],
                                  AOper.mk (some 22) (AOp.load false 1 (Operand.tmp 21)) none [0],
                                  AOper.mk (some 23) (AOp.fld 2 (Operand.tmp 3)) none [],
                                  AOper.mk (some 24) (AOp.load false 1 (Operand.tmp 23)) none [2],
                                  AOper.mk (some 25) (AOp.call 75 [Operand.tmp 22, Operand.tmp 24]) none [1, 3],
                                  AOper.mk (some 7) (AOp.mv (Operand.tmp 25)) none [4, 4, 0, 1, 2, 3, 4]]
def l47r7 : List AOper :=
  [AOper.mk (some 26) (AOp.fld 1 (Operand.tmp 2)) none [],
                                    AOper.mk (some 27) (AOp.load false 1 (Operand.tmp 26)) none [0],
                                    AOper.mk (some 28) (AOp.fld 1 (Operand.tmp 3)) none [],
                                    AOper.mk (some 29) (AOp.load false 1 (Operand.tmp 28)) none [2],
                                    AOper.mk (some 30) (AOp.minmax false (Operand.tmp 27) (Operand.tmp 29)) none [1, 3],
                                    AOper.mk (some 31)
                                      (AOp.bin BinOp.sub (Operand.tmp 30)
                                        (Operand.const (Value.int IntKind.i64 1)))
                                      none [4],
                                    AOper.mk (some 32) (AOp.mv (Operand.tmp 6)) none [],
                                    AOper.mk (some 33) (AOp.bin BinOp.sub (Operand.tmp 31) (Operand.tmp 32)) none
                                      [5, 6],
                                    AOper.mk (some 8) (AOp.mv (Operand.tmp 33)) none [7, 0, 1, 2, 3, 4, 5, 6, 7]]
def l47r8 : List AOper :=
  [AOper.mk (some 34) (AOp.mv (Operand.tmp 6)) none [],
                                      AOper.mk (some 35) (AOp.mv (Operand.tmp 7)) none [],
                                      AOper.mk (some 36) (AOp.mv (Operand.tmp 8)) none [],
                                      AOper.mk (some 37) (AOp.mv (Operand.tmp 7)) none [],
                                      AOper.mk (some 38) (AOp.bin BinOp.quo (Operand.tmp 36) (Operand.tmp 37)) none
                                        [2, 3],
                                      AOper.mk (some 39)
                                        (AOp.bin BinOp.add (Operand.tmp 38)
                                          (Operand.const (Value.int IntKind.i64 1)))
                                        none [4],
                                      AOper.mk (some 40) (AOp.call 76 [Operand.tmp 34, Operand.tmp 35, Operand.tmp 39])
                                        none [0, 1, 5],
                                      AOper.mk none (AOp.store 3 (Operand.tmp 4) (Operand.tmp 40)) none
                                        [6, 6, 0, 1, 2, 3, 4, 5, 6]]
def l47r9 : List AOper :=
  [AOper.mk (some 41)
                          (AOp.bin BinOp.add (Operand.tmp 11) (Operand.const (Value.int IntKind.i64 1)))
                          none [],
                        AOper.mk (some 11) (AOp.mv (Operand.tmp 41)) none [0]]
def l47r10 : List AOper :=
  [AOper.mk (some 42)
                (AOp.call 76
                  [Operand.const (Value.int IntKind.i64 0),
                    Operand.const (Value.int IntKind.i64 1),
                    Operand.const (Value.int IntKind.i64 0)])
                none [],
              AOper.mk none (AOp.store 3 (Operand.tmp 4) (Operand.tmp 42)) none [0, 0, 0]]
def l47 : AFn :=
  (AFn.mk 43 2
    (ACode.seq
      (ACode.reg l47r0)
      (ACode.seq
        (ACode.seq
          (ACode.reg l47r1)
          (ACode.block 0
            (ACode.loop
              (ACode.seq (ACode.reg l47r2)
                (ACode.seq (ACode.cond (Operand.tmp 12) ACode.skip (ACode.exit 0))
                  (ACode.seq
                    (ACode.block 1
                      (ACode.seq
                        (ACode.reg l47r3)
                        (ACode.seq
                          (ACode.reg l47r4)
                          (ACode.seq
                            (ACode.seq
                              (ACode.reg l47r5)
                              (ACode.cond (Operand.tmp 20) (ACode.exit 1) ACode.skip))
                            (ACode.seq
                              (ACode.reg l47r6)
                              (ACode.seq
                                (ACode.reg l47r7)
                                (ACode.seq
                                  (ACode.reg l47r8)
                                  ACode.ret)))))))
                    (ACode.reg l47r9)))))))
        (ACode.seq
          (ACode.reg l47r10)
          ACode.ret)))
    [ARes.cell 4 true 3])
theorem l47_eq : lowFn Try.prog 47 = some l47 := by kernel_rfl
def l48r0 : List AOper :=
  [AOper.mk (some 6) (AOp.mv (Operand.const (Value.bool false))) none []]
def l48r1 : List AOper :=
  [AOper.mk (some 7) (AOp.mv (Operand.tmp 1)) none [], AOper.mk (some 8) (AOp.mv (Operand.tmp 0)) none [],
            AOper.mk (some 9) (AOp.bin BinOp.leq (Operand.tmp 7) (Operand.tmp 8)) none [0, 1],
            AOper.mk (some 10) (AOp.mv (Operand.tmp 9)) none [2],
            AOper.mk (some 11) (AOp.mv (Operand.tmp 0)) (some (10, true)) [3],
            AOper.mk (some 12) (AOp.mv (Operand.tmp 2)) (some (10, true)) [3],
            AOper.mk (some 13) (AOp.bin BinOp.leq (Operand.tmp 11) (Operand.tmp 12)) (some (10, true)) [4, 5, 3],
            AOper.mk (some 14) (AOp.pick (Operand.tmp 10) (Operand.tmp 13) (Operand.const (Value.bool false))) none
              [3, 6],
            AOper.mk (some 6) (AOp.mv (Operand.tmp 14)) none [7, 3, 0, 1, 2, 3, 4, 5, 6, 7]]
def l48 : AFn :=
  (AFn.mk 15 3
    (ACode.seq (ACode.reg l48r0)
      (ACode.seq
        (ACode.reg l48r1)
        ACode.ret))
    [ARes.tmp 6])
theorem l48_eq : lowFn Try.prog 48 = some l48 := by kernel_rfl
def l50r0 : List AOper :=
  [AOper.mk (some 1) (AOp.box (Operand.tmp 0)) none [],
          AOper.mk (some 2) (AOp.mv (Operand.const (Value.int IntKind.i64 0))) none []]
def l50r1a : List AOper :=
  [AOper.mk (some 5) (AOp.fld 1 (Operand.tmp 1)) none [], AOper.mk (some 6) (AOp.load false 1 (Operand.tmp 5)) none [0], AOper.mk (some 7) (AOp.fld 0 (Operand.tmp 1)) none [], AOper.mk (some 8) (AOp.load false 1 (Operand.tmp 7)) none [2], AOper.mk (some 9) (AOp.bin BinOp.sub (Operand.tmp 6) (Operand.tmp 8)) none [1, 3], AOper.mk (some 10) (AOp.fld 2 (Operand.tmp 1)) none [], AOper.mk (some 11) (AOp.load false 1 (Operand.tmp 10)) none [5], AOper.mk (some 3) (AOp.mv (Operand.tmp 9)) none [4, 0, 1, 2, 3, 4]]
def l50r1b : List AOper :=
  [AOper.mk (some 4) (AOp.mv (Operand.tmp 11)) none [6, 7, 0, 1, 2, 3, 4, 5, 6, 7]]
def l50r1 : List AOper := l50r1a ++ l50r1b
def l50r2 : List AOper :=
  [AOper.mk (some 12) (AOp.mv (Operand.tmp 4)) none [],
                AOper.mk (some 13)
                  (AOp.bin BinOp.lss (Operand.tmp 12) (Operand.const (Value.int IntKind.i64 0))) none [0]]
def l50r3 : List AOper :=
  [AOper.mk (some 14) (AOp.mv (Operand.tmp 3)) none [],
                  AOper.mk (some 15) (AOp.un UnOp.neg (Operand.tmp 14)) none [0],
                  AOper.mk (some 16) (AOp.mv (Operand.tmp 4)) none [],
                  AOper.mk (some 17) (AOp.un UnOp.neg (Operand.tmp 16)) none [2],
                  AOper.mk (some 3) (AOp.mv (Operand.tmp 15)) none [1, 0, 1],
                  AOper.mk (some 4) (AOp.mv (Operand.tmp 17)) none [3, 4, 0, 1, 2, 3, 4]]
def l50r4 : List AOper :=
  [AOper.mk (some 18) (AOp.mv (Operand.tmp 3)) none [],
                  AOper.mk (some 19)
                    (AOp.bin BinOp.leq (Operand.tmp 18) (Operand.const (Value.int IntKind.i64 0))) none
                    [0]]
def l50r5 : List AOper :=
  [AOper.mk (some 2) (AOp.mv (Operand.const (Value.int IntKind.i64 0))) none []]
def l50r6 : List AOper :=
  [AOper.mk (some 20) (AOp.mv (Operand.tmp 3)) none [],
                  AOper.mk (some 21) (AOp.mv (Operand.tmp 4)) none [],
                  AOper.mk (some 22) (AOp.bin BinOp.add (Operand.tmp 20) (Operand.tmp 21)) none [0, 1],
                  AOper.mk (some 23)
                    (AOp.bin BinOp.sub (Operand.tmp 22) (Operand.const (Value.int IntKind.i64 1))) none [2],
                  AOper.mk (some 24) (AOp.mv (Operand.tmp 4)) none [],
                  AOper.mk (some 25) (AOp.bin BinOp.quo (Operand.tmp 23) (Operand.tmp 24)) none [3, 4],
                  AOper.mk (some 2) (AOp.mv (Operand.tmp 25)) none [5, 0, 1, 2, 3, 4, 5]]
def l50 : AFn :=
  (AFn.mk 26 1
    (ACode.seq
      (ACode.reg l50r0)
      (ACode.seq
        (ACode.draw l50r1)
        (ACode.seq
          (ACode.seq
            (ACode.reg l50r2)
            (ACode.cond (Operand.tmp 13)
              (ACode.reg l50r3)
              ACode.skip))
          (ACode.seq
            (ACode.seq
              (ACode.reg l50r4)
              (ACode.cond (Operand.tmp 19)
                (ACode.seq
                  (ACode.reg l50r5)
                  ACode.ret)
                ACode.skip))
            (ACode.seq
              (ACode.reg l50r6)
              ACode.ret)))))
    [ARes.tmp 2])
theorem l50_eq : lowFn Try.prog 50 = some l50 := by kernel_rfl
def l66r0 : List AOper :=
  [AOper.mk (some 4) (AOp.mv (Operand.const (Value.int IntKind.i64 0))) none []]
def l66r1 : List AOper :=
  [AOper.mk (some 5) (AOp.mv (Operand.const (Value.int IntKind.i64 0))) none []]
def l66r2 : List AOper :=
  [AOper.mk (some 6) (AOp.mv (Operand.tmp 5)) none [],
                      AOper.mk (some 7) (AOp.mv (Operand.tmp 0)) none [],
                      AOper.mk (some 8) (AOp.len (Operand.tmp 7)) none [1],
                      AOper.mk (some 9) (AOp.bin BinOp.lss (Operand.tmp 6) (Operand.tmp 8)) none [0, 2]]
def l66r3 : List AOper :=
  [AOper.mk (some 12) (AOp.mv (Operand.tmp 0)) none [],
                          AOper.mk (some 13) (AOp.mv (Operand.tmp 5)) none [],
                          AOper.mk (some 14) (AOp.idxA 1 (Operand.tmp 12) (Operand.tmp 13)) none [0, 1],
                          AOper.mk (some 15) (AOp.load false 1 (Operand.tmp 14)) none [2],
                          AOper.mk (some 16) (AOp.mv (Operand.tmp 1)) none [],
                          AOper.mk (some 17) (AOp.bin BinOp.eql (Operand.tmp 15) (Operand.tmp 16)) none [3, 4]]
def l66r4 : List AOper :=
  [AOper.mk (some 18) (AOp.mv (Operand.tmp 5)) none [],
                              AOper.mk (some 4) (AOp.mv (Operand.tmp 18)) none [0, 0]]
def l66r5 : List AOper :=
  [AOper.mk (some 10) (AOp.mv (Operand.tmp 5)) none [],
                      AOper.mk (some 11)
                        (AOp.bin BinOp.add (Operand.tmp 10) (Operand.const (Value.int IntKind.i64 1))) none
                        [0],
                      AOper.mk (some 5) (AOp.mv (Operand.tmp 11)) none [1, 0, 1]]
def l66r6 : List AOper :=
  [AOper.mk (some 4) (AOp.mv (Operand.const (Value.int IntKind.i64 (-1)))) none []]
def l66 : AFn :=
  (AFn.mk 19 2
    (ACode.seq (ACode.reg l66r0)
      (ACode.seq
        (ACode.seq
          (ACode.reg l66r1)
          (ACode.block 0
            (ACode.loop
              (ACode.seq
                (ACode.seq
                  (ACode.reg l66r2)
                  (ACode.cond (Operand.tmp 9) ACode.skip (ACode.exit 0)))
                (ACode.seq
                  (ACode.block 1
                    (ACode.seq
                      (ACode.reg l66r3)
                      (ACode.cond (Operand.tmp 17)
                        (ACode.seq
                          (ACode.reg l66r4)
                          ACode.ret)
                        ACode.skip)))
                  (ACode.reg l66r5))))))
        (ACode.seq
          (ACode.reg l66r6)
          ACode.ret)))
    [ARes.tmp 4])
theorem l66_eq : lowFn Try.prog 66 = some l66 := by kernel_rfl
def l67r0 : List AOper :=
  [AOper.mk (some 2) (AOp.mv (Operand.const (Value.slice none 0 0))) none []]
def l67r1 : List AOper :=
  [AOper.mk (some 5) (AOp.bslice 1 [Value.int IntKind.i64 0] [] 0) none [],
            AOper.mk (some 3) (AOp.mv (Operand.tmp 5)) none [0, 0]]
def l67r2 : List AOper :=
  [AOper.mk (some 6) (AOp.mv (Operand.tmp 0)) none [], AOper.mk (some 7) (AOp.len (Operand.tmp 6)) none [0],
                AOper.mk (some 8)
                  (AOp.bin BinOp.sub (Operand.tmp 7) (Operand.const (Value.int IntKind.i64 1))) none [1],
                AOper.mk (some 4) (AOp.mv (Operand.tmp 8)) none [2, 0, 1, 2]]
def l67r3 : List AOper :=
  [AOper.mk (some 9) (AOp.mv (Operand.tmp 4)) none [],
                        AOper.mk (some 10)
                          (AOp.bin BinOp.geq (Operand.tmp 9) (Operand.const (Value.int IntKind.i64 0))) none
                          [0]]
def l67r4 : List AOper :=
  [AOper.mk (some 13) (AOp.mv (Operand.tmp 3)) none [],
                          AOper.mk (some 14) (AOp.mv (Operand.tmp 0)) none [],
                          AOper.mk (some 15) (AOp.mv (Operand.tmp 4)) none [],
                          AOper.mk (some 16) (AOp.idxA 1 (Operand.tmp 14) (Operand.tmp 15)) none [1, 2],
                          AOper.mk (some 17) (AOp.load false 1 (Operand.tmp 16)) none [3],
                          AOper.mk (some 18)
                            (AOp.bslice 1 [Value.int IntKind.i64 0] [(0, Operand.tmp 17)] 1) none [4],
                          AOper.mk (some 19) (AOp.append 1 (Operand.tmp 13) (Operand.tmp 18)) none [0, 5],
                          AOper.mk (some 3) (AOp.mv (Operand.tmp 19)) none [6, 6, 0, 1, 2, 3, 4, 5, 6]]
def l67r5 : List AOper :=
  [AOper.mk (some 11) (AOp.mv (Operand.tmp 4)) none [],
                        AOper.mk (some 12)
                          (AOp.bin BinOp.sub (Operand.tmp 11) (Operand.const (Value.int IntKind.i64 1)))
                          none [0],
                        AOper.mk (some 4) (AOp.mv (Operand.tmp 12)) none [1, 0, 1]]
def l67r6 : List AOper :=
  [AOper.mk (some 20) (AOp.mv (Operand.tmp 3)) none [],
                AOper.mk (some 2) (AOp.mv (Operand.tmp 20)) none [0, 0]]
def l67 : AFn :=
  (AFn.mk 21 1
    (ACode.seq (ACode.reg l67r0)
      (ACode.seq
        (ACode.reg l67r1)
        (ACode.seq
          (ACode.seq
            (ACode.reg l67r2)
            (ACode.block 0
              (ACode.loop
                (ACode.seq
                  (ACode.seq
                    (ACode.reg l67r3)
                    (ACode.cond (Operand.tmp 10) ACode.skip (ACode.exit 0)))
                  (ACode.seq
                    (ACode.block 1
                      (ACode.reg l67r4))
                    (ACode.reg l67r5))))))
          (ACode.seq
            (ACode.reg l67r6)
            ACode.ret))))
    [ARes.tmp 2])
theorem l67_eq : lowFn Try.prog 67 = some l67 := by kernel_rfl
def l68r0 : List AOper :=
  [AOper.mk (some 2) (AOp.mv (Operand.const (Value.slice none 0 0))) none []]
def l68r1 : List AOper :=
  [AOper.mk (some 3) (AOp.bslice 1 [Value.int IntKind.i64 0] [] 0) none [],
            AOper.mk (some 4) (AOp.mv (Operand.tmp 0)) none [],
            AOper.mk (some 5) (AOp.append 1 (Operand.tmp 3) (Operand.tmp 4)) none [0, 1],
            AOper.mk (some 2) (AOp.mv (Operand.tmp 5)) none [2, 2, 0, 1, 2]]
def l68 : AFn :=
  (AFn.mk 6 1
    (ACode.seq (ACode.reg l68r0)
      (ACode.seq
        (ACode.reg l68r1)
        ACode.ret))
    [ARes.tmp 2])
theorem l68_eq : lowFn Try.prog 68 = some l68 := by kernel_rfl
def l69r0 : List AOper :=
  [AOper.mk (some 4) (AOp.mv (Operand.const (Value.bool false))) none []]
def l69r1 : List AOper :=
  [AOper.mk (some 5) (AOp.mv (Operand.tmp 1)) none [],
            AOper.mk (some 6) (AOp.un UnOp.neg (Operand.tmp 5)) none [0],
            AOper.mk (some 7) (AOp.mv (Operand.tmp 0)) none [],
            AOper.mk (some 8) (AOp.bin BinOp.leq (Operand.tmp 6) (Operand.tmp 7)) none [1, 2],
            AOper.mk (some 9) (AOp.mv (Operand.tmp 8)) none [3],
            AOper.mk (some 10) (AOp.mv (Operand.tmp 0)) (some (9, true)) [4],
            AOper.mk (some 11) (AOp.mv (Operand.tmp 1)) (some (9, true)) [4],
            AOper.mk (some 12) (AOp.bin BinOp.leq (Operand.tmp 10) (Operand.tmp 11)) (some (9, true)) [5, 6, 4],
            AOper.mk (some 13) (AOp.pick (Operand.tmp 9) (Operand.tmp 12) (Operand.const (Value.bool false))) none
              [4, 7],
            AOper.mk (some 4) (AOp.mv (Operand.tmp 13)) none [8, 4, 0, 1, 2, 3, 4, 5, 6, 7, 8]]
def l69 : AFn :=
  (AFn.mk 14 2
    (ACode.seq (ACode.reg l69r0)
      (ACode.seq
        (ACode.reg l69r1)
        ACode.ret))
    [ARes.tmp 4])
theorem l69_eq : lowFn Try.prog 69 = some l69 := by kernel_rfl
def l70r0 : List AOper :=
  [AOper.mk (some 2) (AOp.mv (Operand.const (Value.bool false))) none []]
def l70r1 : List AOper :=
  [AOper.mk (some 3) (AOp.mv (Operand.tmp 0)) none [],
            AOper.mk (some 4) (AOp.call 69 [Operand.tmp 3, Operand.const (Value.int IntKind.i64 200)]) none
              [0],
            AOper.mk (some 5) (AOp.mv (Operand.tmp 4)) none [1, 1],
            AOper.mk (some 6) (AOp.mv (Operand.tmp 0)) (some (5, true)) [2],
            AOper.mk (some 7) (AOp.bin BinOp.neq (Operand.tmp 6) (Operand.const (Value.int IntKind.i64 0)))
              (some (5, true)) [3, 2],
            AOper.mk (some 8) (AOp.pick (Operand.tmp 5) (Operand.tmp 7) (Operand.const (Value.bool false))) none [2, 4],
            AOper.mk (some 2) (AOp.mv (Operand.tmp 8)) none [5, 2, 0, 1, 2, 3, 4, 5]]
def l70 : AFn :=
  (AFn.mk 9 1
    (ACode.seq (ACode.reg l70r0)
      (ACode.seq
        (ACode.reg l70r1)
        ACode.ret))
    [ARes.tmp 2])
theorem l70_eq : lowFn Try.prog 70 = some l70 := by kernel_rfl
def l71r0 : List AOper :=
  [AOper.mk (some 1) (AOp.box (Operand.tmp 0)) none [],
          AOper.mk (some 2)
            (AOp.alloc
              [Value.int IntKind.i64 0, Value.int IntKind.i64 0,
                Value.int IntKind.i64 0])
            none []]
def l71r1 : List AOper :=
  [AOper.mk (some 4) (AOp.load true 3 (Operand.tmp 1)) none [],
            AOper.mk (some 5) (AOp.call 50 [Operand.tmp 4]) none [0],
            AOper.mk (some 3) (AOp.mv (Operand.tmp 5)) none [1, 1, 0, 1]]
def l71r2a : List AOper :=
  [AOper.mk (some 6) (AOp.load true 3 (Operand.tmp 1)) none [], AOper.mk (some 7) (AOp.mv (Operand.tmp 3)) none [], AOper.mk (some 8)
                (AOp.bin BinOp.sub (Operand.tmp 7) (Operand.const (Value.int IntKind.i64 1))) none [1], AOper.mk (some 9) (AOp.call 73 [Operand.tmp 6, Operand.tmp 8]) none [0, 2], AOper.mk (some 10) (AOp.fld 2 (Operand.tmp 1)) none [], AOper.mk (some 11) (AOp.load false 1 (Operand.tmp 10)) none [4], AOper.mk (some 12) (AOp.un UnOp.neg (Operand.tmp 11)) none [5], AOper.mk (some 13) (AOp.mv (Operand.tmp 3)) none []]
def l71r2b : List AOper :=
  [AOper.mk (some 14) (AOp.call 76 [Operand.tmp 9, Operand.tmp 12, Operand.tmp 13]) none [3, 6, 7, 3], AOper.mk none (AOp.store 3 (Operand.tmp 2) (Operand.tmp 14)) none [8, 8, 0, 1, 2, 3, 4, 5, 6, 7, 8]]
def l71r2 : List AOper := l71r2a ++ l71r2b
def l71 : AFn :=
  (AFn.mk 15 1
    (ACode.seq
      (ACode.reg l71r0)
      (ACode.seq
        (ACode.reg l71r1)
        (ACode.seq
          (ACode.draw l71r2)
          ACode.ret)))
    [ARes.cell 2 true 3])
theorem l71_eq : lowFn Try.prog 71 = some l71 := by kernel_rfl
def l72r0 : List AOper :=
  [AOper.mk (some 1) (AOp.box (Operand.tmp 0)) none [],
          AOper.mk (some 2)
            (AOp.alloc
              [Value.int IntKind.i64 0, Value.int IntKind.i64 0,
                Value.int IntKind.i64 0])
            none []]
def l72r1a : List AOper :=
  [AOper.mk (some 3) (AOp.fld 0 (Operand.tmp 1)) none [], AOper.mk (some 4) (AOp.load false 1 (Operand.tmp 3)) none [0], AOper.mk (some 5) (AOp.fld 2 (Operand.tmp 1)) none [], AOper.mk (some 6) (AOp.load false 1 (Operand.tmp 5)) none [2], AOper.mk (some 7) (AOp.load true 3 (Operand.tmp 1)) none [], AOper.mk (some 8) (AOp.call 50 [Operand.tmp 7]) none [4]]
def l72r1b : List AOper :=
  [AOper.mk (some 9) (AOp.call 76 [Operand.tmp 4, Operand.tmp 6, Operand.tmp 8]) none [1, 3, 5, 5], AOper.mk none (AOp.store 3 (Operand.tmp 2) (Operand.tmp 9)) none [6, 6, 0, 1, 2, 3, 4, 5, 6]]
def l72r1 : List AOper := l72r1a ++ l72r1b
def l72 : AFn :=
  (AFn.mk 10 1
    (ACode.seq
      (ACode.reg l72r0)
      (ACode.seq
        (ACode.draw l72r1)
        ACode.ret))
    [ARes.cell 2 true 3])
theorem l72_eq : lowFn Try.prog 72 = some l72 := by kernel_rfl
def l73r0 : List AOper :=
  [AOper.mk (some 2) (AOp.box (Operand.tmp 0)) none [],
          AOper.mk (some 4) (AOp.mv (Operand.const (Value.int IntKind.i64 0))) none []]
def l73r1 : List AOper :=
  [AOper.mk (some 5) (AOp.fld 0 (Operand.tmp 2)) none [],
            AOper.mk (some 6) (AOp.load false 1 (Operand.tmp 5)) none [0],
            AOper.mk (some 7) (AOp.mv (Operand.tmp 1)) none [], AOper.mk (some 8) (AOp.fld 2 (Operand.tmp 2)) none [],
            AOper.mk (some 9) (AOp.load false 1 (Operand.tmp 8)) none [3],
            AOper.mk (some 10) (AOp.bin BinOp.mul (Operand.tmp 7) (Operand.tmp 9)) none [2, 4],
            AOper.mk (some 11) (AOp.bin BinOp.add (Operand.tmp 6) (Operand.tmp 10)) none [1, 5],
            AOper.mk (some 4) (AOp.mv (Operand.tmp 11)) none [6, 0, 1, 2, 3, 4, 5, 6]]
def l73 : AFn :=
  (AFn.mk 12 2
    (ACode.seq
      (ACode.reg l73r0)
      (ACode.seq
        (ACode.reg l73r1)
        ACode.ret))
    [ARes.tmp 4])
theorem l73_eq : lowFn Try.prog 73 = some l73 := by kernel_rfl
def l74r0 : List AOper :=
  [AOper.mk (some 2) (AOp.box (Operand.tmp 0)) none [],
          AOper.mk (some 4) (AOp.mv (Operand.const (Value.int IntKind.i64 0))) none []]
def l74r1 : List AOper :=
  [AOper.mk (some 6) (AOp.mv (Operand.tmp 1)) none [],
              AOper.mk (some 7) (AOp.call 69 [Operand.tmp 6, Operand.const (Value.int IntKind.i64 100)])
                none [0],
              AOper.mk (some 8) (AOp.un UnOp.not (Operand.tmp 7)) none [1],
              AOper.mk (some 9) (AOp.mv (Operand.tmp 8)) none [2, 1],
              AOper.mk (some 10) (AOp.mv (Operand.tmp 1)) (some (9, false)) [3],
              AOper.mk (some 11) (AOp.fld 0 (Operand.tmp 2)) (some (9, false)) [3],
              AOper.mk (some 12) (AOp.load false 1 (Operand.tmp 11)) (some (9, false)) [5, 3],
              AOper.mk (some 13) (AOp.bin BinOp.sub (Operand.tmp 10) (Operand.tmp 12)) (some (9, false)) [4, 6, 3],
              AOper.mk (some 14) (AOp.fld 2 (Operand.tmp 2)) (some (9, false)) [3],
              AOper.mk (some 15) (AOp.load false 1 (Operand.tmp 14)) (some (9, false)) [8, 3],
              AOper.mk (some 16) (AOp.bin BinOp.rem (Operand.tmp 13) (Operand.tmp 15)) (some (9, false)) [7, 9, 3],
              AOper.mk (some 17)
                (AOp.bin BinOp.neq (Operand.tmp 16) (Operand.const (Value.int IntKind.i64 0)))
                (some (9, false)) [10, 3],
              AOper.mk (some 18) (AOp.pick (Operand.tmp 9) (Operand.const (Value.bool true)) (Operand.tmp 17)) none
                [3, 11]]
def l74r2 : List AOper :=
  [AOper.mk (some 4) (AOp.mv (Operand.const (Value.int IntKind.i64 (-1)))) none []]
def l74r3 : List AOper :=
  [AOper.mk (some 19) (AOp.mv (Operand.tmp 1)) none [],
              AOper.mk (some 20) (AOp.fld 0 (Operand.tmp 2)) none [],
              AOper.mk (some 21) (AOp.load false 1 (Operand.tmp 20)) none [1],
              AOper.mk (some 22) (AOp.bin BinOp.sub (Operand.tmp 19) (Operand.tmp 21)) none [0, 2],
              AOper.mk (some 23) (AOp.fld 2 (Operand.tmp 2)) none [],
              AOper.mk (some 24) (AOp.load false 1 (Operand.tmp 23)) none [4],
              AOper.mk (some 25) (AOp.bin BinOp.quo (Operand.tmp 22) (Operand.tmp 24)) none [3, 5],
              AOper.mk (some 5) (AOp.mv (Operand.tmp 25)) none [6, 0, 1, 2, 3, 4, 5, 6]]
def l74r4 : List AOper :=
  [AOper.mk (some 26) (AOp.mv (Operand.tmp 5)) none [],
                  AOper.mk (some 27)
                    (AOp.bin BinOp.lss (Operand.tmp 26) (Operand.const (Value.int IntKind.i64 0))) none [0],
                  AOper.mk (some 28) (AOp.mv (Operand.tmp 27)) none [1],
                  AOper.mk (some 29) (AOp.mv (Operand.tmp 5)) (some (28, false)) [2],
                  AOper.mk (some 30) (AOp.load true 3 (Operand.tmp 2)) (some (28, false)) [2],
                  AOper.mk (some 31) (AOp.call 50 [Operand.tmp 30]) (some (28, false)) [4, 2, 2],
                  AOper.mk (some 32) (AOp.bin BinOp.geq (Operand.tmp 29) (Operand.tmp 31)) (some (28, false)) [3, 5, 2],
                  AOper.mk (some 33) (AOp.pick (Operand.tmp 28) (Operand.const (Value.bool true)) (Operand.tmp 32)) none
                    [2, 6]]
def l74r5 : List AOper :=
  [AOper.mk (some 4) (AOp.mv (Operand.const (Value.int IntKind.i64 (-1)))) none []]
def l74r6 : List AOper :=
  [AOper.mk (some 34) (AOp.mv (Operand.tmp 5)) none [],
                  AOper.mk (some 4) (AOp.mv (Operand.tmp 34)) none [0, 0]]
def l74 : AFn :=
  (AFn.mk 35 2
    (ACode.seq
      (ACode.reg l74r0)
      (ACode.seq
        (ACode.seq
          (ACode.reg l74r1)
          (ACode.cond (Operand.tmp 18)
            (ACode.seq
              (ACode.reg l74r2)
              ACode.ret)
            ACode.skip))
        (ACode.seq
          (ACode.reg l74r3)
          (ACode.seq
            (ACode.seq
              (ACode.reg l74r4)
              (ACode.cond (Operand.tmp 33)
                (ACode.seq
                  (ACode.reg l74r5)
                  ACode.ret)
                ACode.skip))
            (ACode.seq
              (ACode.reg l74r6)
              ACode.ret)))))
    [ARes.tmp 4])
theorem l74_eq : lowFn Try.prog 74 = some l74 := by kernel_rfl
def l75r0 : List AOper :=
  [AOper.mk (some 4) (AOp.mv (Operand.const (Value.int IntKind.i64 0))) none []]
def l75r1 : List AOper :=
  [AOper.mk (some 7) (AOp.mv (Operand.tmp 0)) none [], AOper.mk (some 8) (AOp.mv (Operand.tmp 1)) none [],
            AOper.mk (some 5) (AOp.mv (Operand.tmp 7)) none [0, 0],
            AOper.mk (some 6) (AOp.mv (Operand.tmp 8)) none [1, 2, 0, 1, 2]]
def l75r2 : List AOper :=
  [AOper.mk (some 9) (AOp.mv (Operand.tmp 6)) none [],
                      AOper.mk (some 10)
                        (AOp.bin BinOp.gtr (Operand.tmp 9) (Operand.const (Value.int IntKind.i64 0))) none
                        [0]]
def l75r3a : List AOper :=
  [AOper.mk (some 11) (AOp.mv (Operand.tmp 6)) none [], AOper.mk (some 12) (AOp.mv (Operand.tmp 5)) none [], AOper.mk (some 13) (AOp.mv (Operand.tmp 6)) none [], AOper.mk (some 14) (AOp.bin BinOp.rem (Operand.tmp 12) (Operand.tmp 13)) none [1, 2], AOper.mk (some 5) (AOp.mv (Operand.tmp 11)) none [0, 0, 1]]
def l75r3b : List AOper :=
  [AOper.mk (some 6) (AOp.mv (Operand.tmp 14)) none [3, 4, 0, 1, 2, 3, 4]]
def l75r3 : List AOper := l75r3a ++ l75r3b
def l75r4 : List AOper :=
  [AOper.mk (some 15) (AOp.mv (Operand.tmp 0)) none [], AOper.mk (some 16) (AOp.mv (Operand.tmp 5)) none [],
                AOper.mk (some 17) (AOp.bin BinOp.quo (Operand.tmp 15) (Operand.tmp 16)) none [0, 1],
                AOper.mk (some 18) (AOp.mv (Operand.tmp 1)) none [],
                AOper.mk (some 19) (AOp.bin BinOp.mul (Operand.tmp 17) (Operand.tmp 18)) none [2, 3],
                AOper.mk (some 4) (AOp.mv (Operand.tmp 19)) none [4, 0, 1, 2, 3, 4]]
def l75 : AFn :=
  (AFn.mk 20 2
    (ACode.seq (ACode.reg l75r0)
      (ACode.seq
        (ACode.reg l75r1)
        (ACode.seq
          (ACode.block 0
            (ACode.loop
              (ACode.seq
                (ACode.seq
                  (ACode.reg l75r2)
                  (ACode.cond (Operand.tmp 10) ACode.skip (ACode.exit 0)))
                (ACode.block 1
                  (ACode.draw l75r3)))))
          (ACode.seq
            (ACode.reg l75r4)
            ACode.ret))))
    [ARes.tmp 4])
theorem l75_eq : lowFn Try.prog 75 = some l75 := by kernel_rfl
def l76r0 : List AOper :=
  [AOper.mk (some 6)
            (AOp.alloc
              [Value.int IntKind.i64 0, Value.int IntKind.i64 0,
                Value.int IntKind.i64 0])
            none []]
def l76r1 : List AOper :=
  [AOper.mk (some 8) (AOp.mv (Operand.tmp 2)) none [],
              AOper.mk (some 9)
                (AOp.bin BinOp.lss (Operand.tmp 8) (Operand.const (Value.int IntKind.i64 1))) none [0]]
def l76r2 : List AOper :=
  [AOper.mk (some 10)
                    (AOp.build
                      [Value.int IntKind.i64 0, Value.int IntKind.i64 0,
                        Value.int IntKind.i64 0]
                      [(0, 1, Operand.const (Value.int IntKind.i64 0)),
                        (1, 1, Operand.const (Value.int IntKind.i64 0)),
                        (2, 1, Operand.const (Value.int IntKind.i64 1))])
                    none [],
                  AOper.mk none (AOp.store 3 (Operand.tmp 6) (Operand.tmp 10)) none [0, 0]]
def l76r3 : List AOper :=
  [AOper.mk (some 11) (AOp.mv (Operand.tmp 2)) none [],
                AOper.mk (some 12)
                  (AOp.bin BinOp.eql (Operand.tmp 11) (Operand.const (Value.int IntKind.i64 1))) none [0]]
def l76r4 : List AOper :=
  [AOper.mk (some 13) (AOp.mv (Operand.tmp 0)) none [],
                    AOper.mk (some 14) (AOp.mv (Operand.tmp 0)) none [],
                    AOper.mk (some 15)
                      (AOp.bin BinOp.add (Operand.tmp 14) (Operand.const (Value.int IntKind.i64 1))) none
                      [1],
                    AOper.mk (some 16)
                      (AOp.build
                        [Value.int IntKind.i64 0, Value.int IntKind.i64 0,
                          Value.int IntKind.i64 0]
                        [(0, 1, Operand.tmp 13), (1, 1, Operand.tmp 15),
                          (2, 1, Operand.const (Value.int IntKind.i64 1))])
                      none [0, 2],
                    AOper.mk none (AOp.store 3 (Operand.tmp 6) (Operand.tmp 16)) none [3, 0, 1, 2, 3]]
def l76r5 : List AOper :=
  [AOper.mk (some 17) (AOp.mv (Operand.tmp 0)) none [], AOper.mk (some 18) (AOp.mv (Operand.tmp 2)) none [],
                AOper.mk (some 19)
                  (AOp.bin BinOp.sub (Operand.tmp 18) (Operand.const (Value.int IntKind.i64 1))) none [1],
                AOper.mk (some 20) (AOp.mv (Operand.tmp 1)) none [],
                AOper.mk (some 21) (AOp.bin BinOp.mul (Operand.tmp 19) (Operand.tmp 20)) none [2, 3],
                AOper.mk (some 22) (AOp.bin BinOp.add (Operand.tmp 17) (Operand.tmp 21)) none [0, 4],
                AOper.mk (some 7) (AOp.mv (Operand.tmp 22)) none [5, 0, 1, 2, 3, 4, 5]]
def l76r6 : List AOper :=
  [AOper.mk (some 23) (AOp.mv (Operand.tmp 1)) none [],
                    AOper.mk (some 24)
                      (AOp.bin BinOp.lss (Operand.tmp 23) (Operand.const (Value.int IntKind.i64 0))) none
                      [0]]
def l76r7 : List AOper :=
  [AOper.mk (some 25) (AOp.mv (Operand.tmp 0)) none [],
                        AOper.mk (some 26) (AOp.mv (Operand.tmp 7)) none [],
                        AOper.mk (some 27)
                          (AOp.bin BinOp.sub (Operand.tmp 26) (Operand.const (Value.int IntKind.i64 1)))
                          none [1],
                        AOper.mk (some 28) (AOp.mv (Operand.tmp 1)) none [],
                        AOper.mk (some 29)
                          (AOp.build
                            [Value.int IntKind.i64 0, Value.int IntKind.i64 0,
                              Value.int IntKind.i64 0]
                            [(0, 1, Operand.tmp 25), (1, 1, Operand.tmp 27), (2, 1, Operand.tmp 28)])
                          none [0, 2, 3],
                        AOper.mk none (AOp.store 3 (Operand.tmp 6) (Operand.tmp 29)) none [4, 0, 1, 2, 3, 4]]
def l76r8 : List AOper :=
  [AOper.mk (some 30) (AOp.mv (Operand.tmp 0)) none [],
                    AOper.mk (some 31) (AOp.mv (Operand.tmp 7)) none [],
                    AOper.mk (some 32)
                      (AOp.bin BinOp.add (Operand.tmp 31) (Operand.const (Value.int IntKind.i64 1))) none
                      [1],
                    AOper.mk (some 33) (AOp.mv (Operand.tmp 1)) none [],
                    AOper.mk (some 34)
                      (AOp.build
                        [Value.int IntKind.i64 0, Value.int IntKind.i64 0,
                          Value.int IntKind.i64 0]
                        [(0, 1, Operand.tmp 30), (1, 1, Operand.tmp 32), (2, 1, Operand.tmp 33)])
                      none [0, 2, 3],
                    AOper.mk none (AOp.store 3 (Operand.tmp 6) (Operand.tmp 34)) none [4, 0, 1, 2, 3, 4]]
def l76 : AFn :=
  (AFn.mk 35 3
    (ACode.seq
      (ACode.reg l76r0)
      (ACode.seq
        (ACode.seq
          (ACode.reg l76r1)
          (ACode.cond (Operand.tmp 9)
            (ACode.seq
              (ACode.reg l76r2)
              ACode.ret)
            ACode.skip))
        (ACode.seq
          (ACode.seq
            (ACode.reg l76r3)
            (ACode.cond (Operand.tmp 12)
              (ACode.seq
                (ACode.reg l76r4)
                ACode.ret)
              ACode.skip))
          (ACode.seq
            (ACode.reg l76r5)
            (ACode.seq
              (ACode.seq
                (ACode.reg l76r6)
                (ACode.cond (Operand.tmp 24)
                  (ACode.seq
                    (ACode.reg l76r7)
                    ACode.ret)
                  ACode.skip))
              (ACode.seq
                (ACode.reg l76r8)
                ACode.ret))))))
    [ARes.cell 6 true 3])
theorem l76_eq : lowFn Try.prog 76 = some l76 := by kernel_rfl
end Go.Proofs.Ytjnlcbjehhpjiaa
