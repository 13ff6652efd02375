import Derived.Test.YtigcjdblggjmjaaVwK
import Derived.Test.YtigcjdblggjmjaaProg
import Derived.KernelRfl
set_option maxRecDepth 100000
namespace Go.Proofs.Ytigcjdblggjmjaa
open Vw Go
def l3r0 : List AOper :=
  [AOper.mk (some 1) (AOp.box (Operand.tmp 0)) none [],
          AOper.mk (some 2) (AOp.mv (Operand.const (Value.bool false))) none []]
def l3r1 : List AOper :=
  [AOper.mk (some 5) (AOp.load true 3 (Operand.tmp 1)) none [],
            AOper.mk (some 6) (AOp.call 12 [Operand.tmp 5]) none [0],
            AOper.mk (some 7) (AOp.call 11 [Operand.tmp 6]) none [1, 1],
            AOper.mk (some 3) (AOp.mv (Operand.tmp 7)) none [2, 2, 0, 1, 2]]
def l3r2 : List AOper :=
  [AOper.mk (some 8) (AOp.load true 3 (Operand.tmp 1)) none [],
              AOper.mk (some 9) (AOp.call 12 [Operand.tmp 8]) none [0],
              AOper.mk (some 10) (AOp.call 13 [Operand.tmp 9]) none [1, 1],
              AOper.mk (some 4) (AOp.mv (Operand.tmp 10)) none [2, 2, 0, 1, 2]]
def l3r3 : List AOper :=
  [AOper.mk (some 11) (AOp.mv (Operand.tmp 4)) none [],
                  AOper.mk (some 12) (AOp.mv (Operand.tmp 3)) none [],
                  AOper.mk (some 13) (AOp.binB BinOp.neq (Operand.tmp 11) (Operand.tmp 12)) none [0, 1]]
def l3r4 : List AOper :=
  [AOper.mk (some 2) (AOp.mv (Operand.const (Value.bool false))) none []]
def l3r5 : List AOper :=
  [AOper.mk (some 2) (AOp.mv (Operand.const (Value.bool true))) none []]
def l3 : AFn :=
  (AFn.mk 14 1
    (ACode.seq
      (ACode.reg l3r0)
      (ACode.seq
        (ACode.reg l3r1)
        (ACode.seq
          (ACode.reg l3r2)
          (ACode.seq
            (ACode.seq
              (ACode.reg l3r3)
              (ACode.cond (Operand.tmp 13)
                (ACode.seq (ACode.reg l3r4)
                  ACode.ret)
                ACode.skip))
            (ACode.seq (ACode.reg l3r5) ACode.ret)))))
    [ARes.tmp 2])
theorem l3_eq : lowFn Try.prog 3 = some l3 := by kernel_rfl
def l11r0 : List AOper :=
  [AOper.mk (some 1) (AOp.box (Operand.tmp 0)) none [],
          AOper.mk (some 2) (AOp.mv (Operand.const (Value.bool false))) none []]
def l11r1 : List AOper :=
  [AOper.mk (some 3) (AOp.load true 3 (Operand.tmp 1)) none [],
            AOper.mk (some 4) (AOp.call 32 [Operand.tmp 3]) none [0],
            AOper.mk (some 2) (AOp.mv (Operand.tmp 4)) none [1, 1, 0, 1]]
def l11 : AFn :=
  (AFn.mk 5 1
    (ACode.seq
      (ACode.reg l11r0)
      (ACode.seq
        (ACode.reg l11r1)
        ACode.ret))
    [ARes.tmp 2])
theorem l11_eq : lowFn Try.prog 11 = some l11 := by kernel_rfl
def l12r0 : List AOper :=
  [AOper.mk (some 1) (AOp.box (Operand.tmp 0)) none [],
          AOper.mk (some 2)
            (AOp.alloc
              [Value.int IntKind.i64 (Int.ofNat 0), Value.int IntKind.i64 (Int.ofNat 0),
                Value.int IntKind.i64 (Int.ofNat 0)])
            none []]
def l12r1 : List AOper :=
  [AOper.mk (some 3)
              (AOp.alloc
                [Value.int IntKind.i64 (Int.ofNat 0), Value.int IntKind.i64 (Int.ofNat 0),
                  Value.int IntKind.i64 (Int.ofNat 0)])
              none []]
def l12r2 : List AOper :=
  [AOper.mk (some 4) (AOp.fld 0 (Operand.tmp 1)) none [],
              AOper.mk (some 5) (AOp.load false 1 (Operand.tmp 4)) none [0],
              AOper.mk (some 6) (AOp.fld 0 (Operand.tmp 3)) none [0, 1],
              AOper.mk none (AOp.store 1 (Operand.tmp 6) (Operand.tmp 5)) none [2, 1, 0, 1]]
def l12r3 : List AOper :=
  [AOper.mk (some 7) (AOp.fld 1 (Operand.tmp 1)) none [],
                AOper.mk (some 8) (AOp.load false 1 (Operand.tmp 7)) none [0],
                AOper.mk (some 9) (AOp.fld 1 (Operand.tmp 3)) none [0, 1],
                AOper.mk none (AOp.store 1 (Operand.tmp 9) (Operand.tmp 8)) none [2, 1, 0, 1]]
def l12r4 : List AOper :=
  [AOper.mk (some 10) (AOp.fld 2 (Operand.tmp 1)) none [],
                  AOper.mk (some 11) (AOp.load false 1 (Operand.tmp 10)) none [0],
                  AOper.mk (some 12) (AOp.fld 2 (Operand.tmp 3)) none [0, 1],
                  AOper.mk none (AOp.store 1 (Operand.tmp 12) (Operand.tmp 11)) none [2, 1, 0, 1]]
def l12r5 : List AOper :=
  [AOper.mk (some 13) (AOp.load true 3 (Operand.tmp 3)) none [],
                    AOper.mk none (AOp.store 3 (Operand.tmp 2) (Operand.tmp 13)) none [0, 0]]
def l12 : AFn :=
  (AFn.mk 14 1
    (ACode.seq
      (ACode.reg l12r0)
      (ACode.seq
        (ACode.reg l12r1)
        (ACode.seq
          (ACode.reg l12r2)
          (ACode.seq
            (ACode.reg l12r3)
            (ACode.seq
              (ACode.reg l12r4)
              (ACode.seq
                (ACode.reg l12r5)
                ACode.ret))))))
    [ARes.cell 2 true 3])
theorem l12_eq : lowFn Try.prog 12 = some l12 := by kernel_rfl
def l13r0 : List AOper :=
  [AOper.mk (some 1) (AOp.box (Operand.tmp 0)) none [],
          AOper.mk (some 2) (AOp.mv (Operand.const (Value.bool false))) none []]
def l13r1 : List AOper :=
  [AOper.mk (some 3) (AOp.fld 0 (Operand.tmp 1)) none [],
            AOper.mk (some 4) (AOp.load false 1 (Operand.tmp 3)) none [0],
            AOper.mk (some 5) (AOp.call 33 [Operand.tmp 4, Operand.const (Value.int IntKind.i64 (Int.ofNat 100))]) none
              [1],
            AOper.mk (some 6) (AOp.mv (Operand.tmp 5)) none [2, 2],
            AOper.mk (some 7) (AOp.fld 1 (Operand.tmp 1)) (some (6, true)) [3],
            AOper.mk (some 8) (AOp.load false 1 (Operand.tmp 7)) (some (6, true)) [4, 3],
            AOper.mk (some 9) (AOp.call 33 [Operand.tmp 8, Operand.const (Value.int IntKind.i64 (Int.ofNat 101))])
              (some (6, true)) [5, 3, 3],
            AOper.mk (some 10) (AOp.pick (Operand.tmp 6) (Operand.tmp 9) (Operand.const (Value.bool false))) none
              [3, 6],
            AOper.mk (some 11) (AOp.mv (Operand.tmp 10)) none [7, 6],
            AOper.mk (some 12) (AOp.fld 2 (Operand.tmp 1)) (some (11, true)) [8],
            AOper.mk (some 13) (AOp.load false 1 (Operand.tmp 12)) (some (11, true)) [9, 8],
            AOper.mk (some 14) (AOp.call 34 [Operand.tmp 13]) (some (11, true)) [10, 8, 8],
            AOper.mk (some 15) (AOp.pick (Operand.tmp 11) (Operand.tmp 14) (Operand.const (Value.bool false))) none
              [8, 11],
            AOper.mk (some 2) (AOp.mv (Operand.tmp 15)) none [12, 11, 0, 1, 2, 3, 4, 5, 6, 7, 8, 9, 10, 11, 12]]
def l13 : AFn :=
  (AFn.mk 16 1
    (ACode.seq
      (ACode.reg l13r0)
      (ACode.seq
        (ACode.reg l13r1)
        ACode.ret))
    [ARes.tmp 2])
theorem l13_eq : lowFn Try.prog 13 = some l13 := by kernel_rfl
def l32r0 : List AOper :=
  [AOper.mk (some 1) (AOp.box (Operand.tmp 0)) none [],
          AOper.mk (some 2) (AOp.mv (Operand.const (Value.bool false))) none []]
def l32r1 : List AOper :=
  [AOper.mk (some 3) (AOp.fld 0 (Operand.tmp 1)) none [],
            AOper.mk (some 4) (AOp.load false 1 (Operand.tmp 3)) none [0],
            AOper.mk (some 5)
              (AOp.call 38
                [Operand.tmp 4, Operand.const (Value.int IntKind.i64 (Int.negSucc 99)),
                  Operand.const (Value.int IntKind.i64 (Int.ofNat 100))])
              none [1],
            AOper.mk (some 6) (AOp.mv (Operand.tmp 5)) none [2, 2],
            AOper.mk (some 7) (AOp.fld 1 (Operand.tmp 1)) (some (6, true)) [3],
            AOper.mk (some 8) (AOp.load false 1 (Operand.tmp 7)) (some (6, true)) [4, 3],
            AOper.mk (some 9)
              (AOp.call 38
                [Operand.tmp 8, Operand.const (Value.int IntKind.i64 (Int.negSucc 100)),
                  Operand.const (Value.int IntKind.i64 (Int.ofNat 101))])
              (some (6, true)) [5, 3, 3],
            AOper.mk (some 10) (AOp.pick (Operand.tmp 6) (Operand.tmp 9) (Operand.const (Value.bool false))) none
              [3, 6],
            AOper.mk (some 11) (AOp.mv (Operand.tmp 10)) none [7, 6],
            AOper.mk (some 12) (AOp.fld 2 (Operand.tmp 1)) (some (11, true)) [8],
            AOper.mk (some 13) (AOp.load false 1 (Operand.tmp 12)) (some (11, true)) [9, 8],
            AOper.mk (some 14)
              (AOp.call 38
                [Operand.tmp 13, Operand.const (Value.int IntKind.i64 (Int.negSucc 199)),
                  Operand.const (Value.int IntKind.i64 (Int.ofNat 200))])
              (some (11, true)) [10, 8, 8],
            AOper.mk (some 15) (AOp.pick (Operand.tmp 11) (Operand.tmp 14) (Operand.const (Value.bool false))) none
              [8, 11],
            AOper.mk (some 16) (AOp.mv (Operand.tmp 15)) none [12, 11],
            AOper.mk (some 17) (AOp.fld 2 (Operand.tmp 1)) (some (16, true)) [13],
            AOper.mk (some 18) (AOp.load false 1 (Operand.tmp 17)) (some (16, true)) [14, 13],
            AOper.mk (some 19)
              (AOp.bin BinOp.neq (Operand.tmp 18) (Operand.const (Value.int IntKind.i64 (Int.ofNat 0))))
              (some (16, true)) [15, 13],
            AOper.mk (some 20) (AOp.pick (Operand.tmp 16) (Operand.tmp 19) (Operand.const (Value.bool false))) none
              [13, 16],
            AOper.mk (some 2) (AOp.mv (Operand.tmp 20)) none
              [17, 13, 0, 1, 2, 3, 4, 5, 6, 7, 8, 9, 10, 11, 12, 13, 14, 15, 16, 17]]
def l32 : AFn :=
  (AFn.mk 21 1
    (ACode.seq
      (ACode.reg l32r0)
      (ACode.seq
        (ACode.reg l32r1)
        ACode.ret))
    [ARes.tmp 2])
theorem l32_eq : lowFn Try.prog 32 = some l32 := by kernel_rfl
def l33r0 : List AOper :=
  [AOper.mk (some 4) (AOp.mv (Operand.const (Value.bool false))) none []]
def l33r1 : List AOper :=
  [AOper.mk (some 5) (AOp.mv (Operand.tmp 1)) none [],
            AOper.mk (some 6) (AOp.un UnOp.neg (Operand.tmp 5)) none [0],
            AOper.mk (some 7) (AOp.mv (Operand.tmp 0)) none [],
            AOper.mk (some 8) (AOp.bin BinOp.leq (Operand.tmp 6) (Operand.tmp 7)) none [1, 2],
            AOper.mk (some 9) (AOp.mv (Operand.tmp 8)) none [3],
            AOper.mk (some 10) (AOp.mv (Operand.tmp 0)) (some (9, true)) [4],
            AOper.mk (some 11) (AOp.mv (Operand.tmp 1)) (some (9, true)) [4],
            AOper.mk (some 12) (AOp.bin BinOp.leq (Operand.tmp 10) (Operand.tmp 11)) (some (9, true)) [5, 6, 4],
            AOper.mk (some 13) (AOp.pick (Operand.tmp 9) (Operand.tmp 12) (Operand.const (Value.bool false))) none
              [4, 7],
            AOper.mk (some 4) (AOp.mv (Operand.tmp 13)) none [8, 4, 0, 1, 2, 3, 4, 5, 6, 7, 8]]
def l33 : AFn :=
  (AFn.mk 14 2
    (ACode.seq (ACode.reg l33r0)
      (ACode.seq
        (ACode.reg l33r1)
        ACode.ret))
    [ARes.tmp 4])
theorem l33_eq : lowFn Try.prog 33 = some l33 := by kernel_rfl
def l34r0 : List AOper :=
  [AOper.mk (some 2) (AOp.mv (Operand.const (Value.bool false))) none []]
def l34r1 : List AOper :=
  [AOper.mk (some 3) (AOp.mv (Operand.tmp 0)) none [],
            AOper.mk (some 4) (AOp.call 33 [Operand.tmp 3, Operand.const (Value.int IntKind.i64 (Int.ofNat 200))]) none
              [0],
            AOper.mk (some 5) (AOp.mv (Operand.tmp 4)) none [1, 1],
            AOper.mk (some 6) (AOp.mv (Operand.tmp 0)) (some (5, true)) [2],
            AOper.mk (some 7) (AOp.bin BinOp.neq (Operand.tmp 6) (Operand.const (Value.int IntKind.i64 (Int.ofNat 0))))
              (some (5, true)) [3, 2],
            AOper.mk (some 8) (AOp.pick (Operand.tmp 5) (Operand.tmp 7) (Operand.const (Value.bool false))) none [2, 4],
            AOper.mk (some 2) (AOp.mv (Operand.tmp 8)) none [5, 2, 0, 1, 2, 3, 4, 5]]
def l34 : AFn :=
  (AFn.mk 9 1
    (ACode.seq (ACode.reg l34r0)
      (ACode.seq
        (ACode.reg l34r1)
        ACode.ret))
    [ARes.tmp 2])
theorem l34_eq : lowFn Try.prog 34 = some l34 := by kernel_rfl
def l38r0 : List AOper :=
  [AOper.mk (some 6) (AOp.mv (Operand.const (Value.bool false))) none []]
def l38r1 : List AOper :=
  [AOper.mk (some 7) (AOp.mv (Operand.tmp 1)) none [], AOper.mk (some 8) (AOp.mv (Operand.tmp 0)) none [],
            AOper.mk (some 9) (AOp.bin BinOp.leq (Operand.tmp 7) (Operand.tmp 8)) none [0, 1],
            AOper.mk (some 10) (AOp.mv (Operand.tmp 9)) none [2],
            AOper.mk (some 11) (AOp.mv (Operand.tmp 0)) (some (10, true)) [3],
            AOper.mk (some 12) (AOp.mv (Operand.tmp 2)) (some (10, true)) [3],
            AOper.mk (some 13) (AOp.bin BinOp.leq (Operand.tmp 11) (Operand.tmp 12)) (some (10, true)) [4, 5, 3],
            AOper.mk (some 14) (AOp.pick (Operand.tmp 10) (Operand.tmp 13) (Operand.const (Value.bool false))) none
              [3, 6],
            AOper.mk (some 6) (AOp.mv (Operand.tmp 14)) none [7, 3, 0, 1, 2, 3, 4, 5, 6, 7]]
def l38 : AFn :=
  (AFn.mk 15 3
    (ACode.seq (ACode.reg l38r0)
      (ACode.seq
        (ACode.reg l38r1)
        ACode.ret))
    [ARes.tmp 6])
theorem l38_eq : lowFn Try.prog 38 = some l38 := by kernel_rfl
end Go.Proofs.Ytigcjdblggjmjaa
