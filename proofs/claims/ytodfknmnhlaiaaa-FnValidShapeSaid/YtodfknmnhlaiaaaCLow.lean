import Derived.Test.YtodfknmnhlaiaaaCVwR
import Derived.Test.YtodfknmnhlaiaaaProg
import Derived.KernelRfl
set_option maxRecDepth 100000
namespace Go.Proofs.Ytodfknmnhlaiaaa
open Vw Go
def l3r0 : List AOper :=
  [AOper.mk (some 2) (AOp.mv (Operand.const (Value.bool false))) none []]
def l3r1 : List AOper :=
  [AOper.mk (some 6) (AOp.mv (Operand.tmp 0)) none [], AOper.mk (some 7) (AOp.len (Operand.tmp 6)) none [0],
              AOper.mk (some 8)
                (AOp.bin BinOp.gtr (Operand.tmp 7) (Operand.const (Value.int IntKind.i64 1048576))) none
                [1]]
def l3r2 : List AOper :=
  [AOper.mk (some 2) (AOp.mv (Operand.const (Value.bool true))) none []]
def l3r3 : List AOper :=
  [AOper.mk (some 9) (AOp.mv (Operand.tmp 0)) none [],
              AOper.mk (some 10) (AOp.call 4 [Operand.tmp 9]) none [0],
              AOper.mk (some 3) (AOp.mv (Operand.tmp 10)) none [1, 1, 0, 1]]
def l3r4 : List AOper :=
  [AOper.mk (some 11) (AOp.mv (Operand.tmp 3)) none [],
                AOper.mk (some 12) (AOp.call 5 [Operand.tmp 11]) none [0],
                AOper.mk (some 4) (AOp.mv (Operand.tmp 12)) none [1, 1, 0, 1]]
def l3r5 : List AOper :=
  [AOper.mk (some 13) (AOp.mv (Operand.tmp 4)) none [],
                    AOper.mk (some 14) (AOp.mv (Operand.tmp 3)) none [],
                    AOper.mk (some 15) (AOp.call 6 [Operand.tmp 14]) none [1],
                    AOper.mk (some 16) (AOp.binB BinOp.neq (Operand.tmp 13) (Operand.tmp 15)) none [0, 2],
                    AOper.mk (some 17) (AOp.mv (Operand.tmp 16)) none [3, 2],
                    AOper.mk (some 18) (AOp.mv (Operand.tmp 4)) (some (17, false)) [4],
                    AOper.mk (some 19) (AOp.un UnOp.not (Operand.tmp 18)) (some (17, false)) [5, 4],
                    AOper.mk (some 20) (AOp.pick (Operand.tmp 17) (Operand.const (Value.bool true)) (Operand.tmp 19))
                      none [4, 6],
                    AOper.mk (some 21) (AOp.mv (Operand.tmp 20)) none [7, 4],
                    AOper.mk (some 22) (AOp.mv (Operand.tmp 3)) (some (21, false)) [8],
                    AOper.mk (some 23) (AOp.call 7 [Operand.tmp 22]) (some (21, false)) [9, 8, 8],
                    AOper.mk (some 24)
                      (AOp.bin BinOp.eql (Operand.tmp 23) (Operand.const (Value.int IntKind.i64 0)))
                      (some (21, false)) [10, 8],
                    AOper.mk (some 25) (AOp.pick (Operand.tmp 21) (Operand.const (Value.bool true)) (Operand.tmp 24))
                      none [8, 11]]
def l3r6 : List AOper :=
  [AOper.mk (some 26) (AOp.mv (Operand.tmp 4)) none [],
                        AOper.mk (some 27) (AOp.mv (Operand.tmp 3)) none [],
                        AOper.mk (some 28) (AOp.call 6 [Operand.tmp 27]) none [1],
                        AOper.mk (some 29) (AOp.binB BinOp.eql (Operand.tmp 26) (Operand.tmp 28)) none [0, 2],
                        AOper.mk (some 2) (AOp.mv (Operand.tmp 29)) none [3, 2, 0, 1, 2, 3]]
def l3r7 : List AOper :=
  [AOper.mk (some 5) (AOp.mv (Operand.const (Value.int IntKind.i64 0))) none []]
def l3r8 : List AOper :=
  [AOper.mk (some 30) (AOp.mv (Operand.tmp 5)) none [],
                              AOper.mk (some 31) (AOp.mv (Operand.tmp 3)) none [],
                              AOper.mk (some 32) (AOp.len (Operand.tmp 31)) none [1],
                              AOper.mk (some 33) (AOp.bin BinOp.lss (Operand.tmp 30) (Operand.tmp 32)) none [0, 2]]
def l3r9 : List AOper :=
  [AOper.mk (some 36) (AOp.mv (Operand.tmp 3)) none [],
                                  AOper.mk (some 37) (AOp.mv (Operand.tmp 5)) none [],
                                  AOper.mk (some 38) (AOp.call 8 [Operand.tmp 36, Operand.tmp 37]) none [0, 1],
                                  AOper.mk (some 39) (AOp.call 5 [Operand.tmp 38]) none [2, 2],
                                  AOper.mk (some 40) (AOp.un UnOp.not (Operand.tmp 39)) none [3]]
def l3r10 : List AOper :=
  [AOper.mk (some 2) (AOp.mv (Operand.const (Value.bool false))) none []]
def l3r11 : List AOper :=
  [AOper.mk (some 34) (AOp.mv (Operand.tmp 5)) none [],
                              AOper.mk (some 35)
                                (AOp.bin BinOp.add (Operand.tmp 34)
                                  (Operand.const (Value.int IntKind.i64 1)))
                                none [0],
                              AOper.mk (some 5) (AOp.mv (Operand.tmp 35)) none [1, 0, 1]]
def l3r12 : List AOper :=
  [AOper.mk (some 2) (AOp.mv (Operand.const (Value.bool true))) none []]
def l3 : AFn :=
  (AFn.mk 41 1
    (ACode.seq (ACode.reg l3r0)
      (ACode.seq
        (ACode.seq
          (ACode.reg l3r1)
          (ACode.cond (Operand.tmp 8)
            (ACode.seq (ACode.reg l3r2) ACode.ret)
            ACode.skip))
        (ACode.seq
          (ACode.reg l3r3)
          (ACode.seq
            (ACode.reg l3r4)
            (ACode.seq
              (ACode.seq
                (ACode.reg l3r5)
                (ACode.cond (Operand.tmp 25)
                  (ACode.seq
                    (ACode.reg l3r6)
                    ACode.ret)
                  ACode.skip))
              (ACode.seq
                (ACode.seq
                  (ACode.reg l3r7)
                  (ACode.block 0
                    (ACode.loop
                      (ACode.seq
                        (ACode.seq
                          (ACode.reg l3r8)
                          (ACode.cond (Operand.tmp 33) ACode.skip (ACode.exit 0)))
                        (ACode.seq
                          (ACode.block 1
                            (ACode.seq
                              (ACode.reg l3r9)
                              (ACode.cond (Operand.tmp 40)
                                (ACode.seq
                                  (ACode.reg l3r10)
                                  ACode.ret)
                                ACode.skip)))
                          (ACode.reg l3r11))))))
                (ACode.seq (ACode.reg l3r12)
                  ACode.ret)))))))
    [ARes.tmp 2])
theorem l3_eq : lowFn Try.prog 3 = some l3 := by kernel_rfl
def l4r0 : List AOper :=
  [AOper.mk (some 2) (AOp.mv (Operand.const (Value.slice none 0 0))) none []]
def l4r1 : List AOper :=
  [AOper.mk (some 3) (AOp.mv (Operand.tmp 0)) none [], AOper.mk (some 4) (AOp.call 10 [Operand.tmp 3]) none [0],
            AOper.mk (some 5) (AOp.call 9 [Operand.tmp 4]) none [1, 1],
            AOper.mk (some 2) (AOp.mv (Operand.tmp 5)) none [2, 2, 0, 1, 2]]
def l4 : AFn :=
  (AFn.mk 6 1
    (ACode.seq (ACode.reg l4r0)
      (ACode.seq
        (ACode.reg l4r1)
        ACode.ret))
    [ARes.tmp 2])
theorem l4_eq : lowFn Try.prog 4 = some l4 := by kernel_rfl
def l5r0 : List AOper :=
  [AOper.mk (some 2) (AOp.mv (Operand.const (Value.bool false))) none []]
def l5r1 : List AOper :=
  [AOper.mk (some 5) (AOp.mv (Operand.tmp 0)) none [], AOper.mk (some 6) (AOp.len (Operand.tmp 5)) none [0],
              AOper.mk (some 7)
                (AOp.bin BinOp.gtr (Operand.tmp 6) (Operand.const (Value.int IntKind.i64 4))) none [1]]
def l5r2 : List AOper :=
  [AOper.mk (some 2) (AOp.mv (Operand.const (Value.bool false))) none []]
def l5r3 : List AOper :=
  [AOper.mk (some 8) (AOp.mv (Operand.tmp 0)) none [], AOper.mk (some 9) (AOp.len (Operand.tmp 8)) none [0],
                AOper.mk (some 10) (AOp.mv (Operand.const (Value.int IntKind.i64 0))) none []]
def l5r4 : List AOper :=
  [AOper.mk (some 11) (AOp.bin BinOp.lss (Operand.tmp 10) (Operand.tmp 9)) none []]
def l5r5 : List AOper :=
  [AOper.mk (some 12) (AOp.idxA 1 (Operand.tmp 8) (Operand.tmp 10)) none [],
                              AOper.mk (some 13) (AOp.load false 1 (Operand.tmp 12)) none [0],
                              AOper.mk (some 4) (AOp.mv (Operand.tmp 13)) none [1, 0, 1]]
def l5r6 : List AOper :=
  [AOper.mk (some 14) (AOp.mv (Operand.tmp 4)) none [],
                                AOper.mk (some 15)
                                  (AOp.call 11 [Operand.tmp 14, Operand.const (Value.int IntKind.i64 60)])
                                  none [0],
                                AOper.mk (some 16) (AOp.un UnOp.not (Operand.tmp 15)) none [1]]
def l5r7 : List AOper :=
  [AOper.mk (some 2) (AOp.mv (Operand.const (Value.bool false))) none []]
def l5r8 : List AOper :=
  [AOper.mk (some 17)
                            (AOp.bin BinOp.add (Operand.tmp 10) (Operand.const (Value.int IntKind.i64 1)))
                            none [],
                          AOper.mk (some 10) (AOp.mv (Operand.tmp 17)) none [0]]
def l5r9 : List AOper :=
  [AOper.mk (some 18) (AOp.mv (Operand.tmp 0)) none [],
                AOper.mk (some 19) (AOp.call 12 [Operand.tmp 18]) none [0],
                AOper.mk (some 20)
                  (AOp.bin BinOp.leq (Operand.tmp 19) (Operand.const (Value.int IntKind.i64 60))) none [1],
                AOper.mk (some 2) (AOp.mv (Operand.tmp 20)) none [2, 1, 0, 1, 2]]
def l5 : AFn :=
  (AFn.mk 21 1
    (ACode.seq (ACode.reg l5r0)
      (ACode.seq
        (ACode.seq
          (ACode.reg l5r1)
          (ACode.cond (Operand.tmp 7)
            (ACode.seq (ACode.reg l5r2) ACode.ret)
            ACode.skip))
        (ACode.seq
          (ACode.seq
            (ACode.reg l5r3)
            (ACode.block 0
              (ACode.loop
                (ACode.seq (ACode.reg l5r4)
                  (ACode.seq (ACode.cond (Operand.tmp 11) ACode.skip (ACode.exit 0))
                    (ACode.seq
                      (ACode.block 1
                        (ACode.seq
                          (ACode.reg l5r5)
                          (ACode.seq
                            (ACode.reg l5r6)
                            (ACode.cond (Operand.tmp 16)
                              (ACode.seq
                                (ACode.reg l5r7)
                                ACode.ret)
                              ACode.skip))))
                      (ACode.reg l5r8)))))))
          (ACode.seq
            (ACode.reg l5r9)
            ACode.ret))))
    [ARes.tmp 2])
theorem l5_eq : lowFn Try.prog 5 = some l5 := by kernel_rfl
def l6r0 : List AOper :=
  [AOper.mk (some 2) (AOp.mv (Operand.const (Value.bool false))) none []]
def l6r1 : List AOper :=
  [AOper.mk (some 3) (AOp.mv (Operand.tmp 0)) none [], AOper.mk (some 4) (AOp.call 13 [Operand.tmp 3]) none [0],
            AOper.mk (some 2) (AOp.mv (Operand.tmp 4)) none [1, 1, 0, 1]]
def l6 : AFn :=
  (AFn.mk 5 1
    (ACode.seq (ACode.reg l6r0)
      (ACode.seq
        (ACode.reg l6r1)
        ACode.ret))
    [ARes.tmp 2])
theorem l6_eq : lowFn Try.prog 6 = some l6 := by kernel_rfl
def l7r0 : List AOper :=
  [AOper.mk (some 2) (AOp.mv (Operand.const (Value.int IntKind.i64 0))) none []]
def l7r1 : List AOper :=
  [AOper.mk (some 3) (AOp.mv (Operand.tmp 0)) none [],
              AOper.mk (some 4) (AOp.call 5 [Operand.tmp 3]) none [0],
              AOper.mk (some 5) (AOp.un UnOp.not (Operand.tmp 4)) none [1]]
def l7r2 : List AOper :=
  [AOper.mk (some 2) (AOp.mv (Operand.const (Value.int IntKind.i64 (-1)))) none []]
def l7r3 : List AOper :=
  [AOper.mk (some 6) (AOp.mv (Operand.tmp 0)) none [],
              AOper.mk (some 7) (AOp.call 12 [Operand.tmp 6]) none [0],
              AOper.mk (some 2) (AOp.mv (Operand.tmp 7)) none [1, 1, 0, 1]]
def l7 : AFn :=
  (AFn.mk 8 1
    (ACode.seq (ACode.reg l7r0)
      (ACode.seq
        (ACode.seq
          (ACode.reg l7r1)
          (ACode.cond (Operand.tmp 5)
            (ACode.seq
              (ACode.reg l7r2)
              ACode.ret)
            ACode.skip))
        (ACode.seq
          (ACode.reg l7r3)
          ACode.ret)))
    [ARes.tmp 2])
theorem l7_eq : lowFn Try.prog 7 = some l7 := by kernel_rfl
def l8r0 : List AOper :=
  [AOper.mk (some 4) (AOp.mv (Operand.const (Value.slice none 0 0))) none []]
def l8r1a : List AOper :=
  [AOper.mk (some 5) (AOp.bslice 1 [Value.int IntKind.i64 0] [] 0) none [], AOper.mk (some 6) (AOp.mv (Operand.tmp 0)) none [], AOper.mk (some 7) (AOp.mv (Operand.tmp 1)) none [], AOper.mk (some 8) (AOp.slice 1 (Operand.tmp 6) none (some (Operand.tmp 7))) none [1, 2], AOper.mk (some 9) (AOp.append 1 (Operand.tmp 5) (Operand.tmp 8)) none [0, 3], AOper.mk (some 10) (AOp.mv (Operand.tmp 0)) none [], AOper.mk (some 11) (AOp.mv (Operand.tmp 1)) none [], AOper.mk (some 12)
              (AOp.bin BinOp.add (Operand.tmp 11) (Operand.const (Value.int IntKind.i64 1))) none [6], AOper.mk (some 13) (AOp.slice 1 (Operand.tmp 10) (some (Operand.tmp 12)) none) none [5, 7]]
def l8r1b : List AOper :=
  [AOper.mk (some 14) (AOp.append 1 (Operand.tmp 9) (Operand.tmp 13)) none [4, 8, 4], AOper.mk (some 4) (AOp.mv (Operand.tmp 14)) none [9, 9, 0, 1, 2, 3, 4, 5, 6, 7, 8, 9]]
def l8r1 : List AOper := l8r1a ++ l8r1b
def l8 : AFn :=
  (AFn.mk 15 2
    (ACode.seq (ACode.reg l8r0)
      (ACode.seq
        (ACode.draw l8r1)
        ACode.ret))
    [ARes.tmp 4])
theorem l8_eq : lowFn Try.prog 8 = some l8 := by kernel_rfl
def l9r0 : List AOper :=
  [AOper.mk (some 2) (AOp.mv (Operand.const (Value.slice none 0 0))) none []]
def l9r1 : List AOper :=
  [AOper.mk (some 4) (AOp.mv (Operand.tmp 0)) none [], AOper.mk (some 5) (AOp.call 14 [Operand.tmp 4]) none [0],
            AOper.mk (some 3) (AOp.mv (Operand.tmp 5)) none [1, 1, 0, 1]]
def l9r2 : List AOper :=
  [AOper.mk (some 6) (AOp.mv (Operand.tmp 0)) none [],
                AOper.mk (some 7) (AOp.call 15 [Operand.tmp 6, Operand.const (Value.int IntKind.i64 24)])
                  none [0]]
def l9r3 : List AOper :=
  [AOper.mk (some 9)
                      (AOp.bin BinOp.eql (Operand.tmp 7) (Operand.const (Value.int IntKind.i64 0))) none [],
                    AOper.mk (some 8) (AOp.mv (Operand.tmp 9)) none [0]]
def l9r4 : List AOper :=
  [AOper.mk (some 10) (AOp.mv (Operand.tmp 3)) none [],
                        AOper.mk (some 11) (AOp.mv (Operand.tmp 0)) none [],
                        AOper.mk (some 12)
                          (AOp.bslice 1 [Value.int IntKind.i64 0]
                            [(0, Operand.const (Value.int IntKind.i64 (-1))),
                              (1, Operand.const (Value.int IntKind.i64 61)),
                              (2, Operand.const (Value.int IntKind.i64 40))]
                            3)
                          none [],
                        AOper.mk (some 13) (AOp.call 16 [Operand.tmp 11, Operand.tmp 12]) none [1, 2],
                        AOper.mk (some 14) (AOp.bslice 1 [Value.int IntKind.i64 0] [(0, Operand.tmp 13)] 1)
                          none [3],
                        AOper.mk (some 15) (AOp.append 1 (Operand.tmp 10) (Operand.tmp 14)) none [0, 4, 3],
                        AOper.mk (some 2) (AOp.mv (Operand.tmp 15)) none [5, 5, 0, 1, 2, 3, 4, 5]]
def l9r5 : List AOper :=
  [AOper.mk (some 17)
                          (AOp.bin BinOp.eql (Operand.tmp 7) (Operand.const (Value.int IntKind.i64 1))) none
                          [],
                        AOper.mk (some 16) (AOp.mv (Operand.tmp 17)) none [0]]
def l9r6 : List AOper :=
  [AOper.mk (some 18)
                              (AOp.bslice 1 [Value.int IntKind.i64 0]
                                [(0, Operand.const (Value.int IntKind.i64 1)),
                                  (1, Operand.const (Value.int IntKind.i64 1)),
                                  (2, Operand.const (Value.int IntKind.i64 1)),
                                  (3, Operand.const (Value.int IntKind.i64 1)),
                                  (4, Operand.const (Value.int IntKind.i64 1))]
                                5)
                              none [],
                            AOper.mk (some 2) (AOp.mv (Operand.tmp 18)) none [0, 0]]
def l9r7 : List AOper :=
  [AOper.mk (some 19) (AOp.mv (Operand.tmp 3)) none [],
                AOper.mk (some 2) (AOp.mv (Operand.tmp 19)) none [0, 0]]
def l9 : AFn :=
  (AFn.mk 20 1
    (ACode.seq (ACode.reg l9r0)
      (ACode.seq
        (ACode.reg l9r1)
        (ACode.seq
          (ACode.seq
            (ACode.reg l9r2)
            (ACode.block 0
              (ACode.seq
                (ACode.reg l9r3)
                (ACode.cond (Operand.tmp 8)
                  (ACode.seq
                    (ACode.reg l9r4)
                    ACode.ret)
                  (ACode.seq
                    (ACode.reg l9r5)
                    (ACode.cond (Operand.tmp 16)
                      (ACode.seq
                        (ACode.reg l9r6)
                        ACode.ret)
                      ACode.skip))))))
          (ACode.seq
            (ACode.reg l9r7)
            ACode.ret))))
    [ARes.tmp 2])
theorem l9_eq : lowFn Try.prog 9 = some l9 := by kernel_rfl
def l10r0 : List AOper :=
  [AOper.mk (some 2) (AOp.mv (Operand.const (Value.pointer none))) none []]
def l10r1 : List AOper :=
  [AOper.mk (some 3) (AOp.mv (Operand.tmp 0)) none [], AOper.mk (some 4) (AOp.len (Operand.tmp 3)) none [0],
              AOper.mk (some 5)
                (AOp.bin BinOp.gtr (Operand.tmp 4) (Operand.const (Value.int IntKind.i64 2000))) none [1]]
def l10r2 : List AOper :=
  [AOper.mk (some 6) (AOp.mv (Operand.tmp 0)) none [],
                AOper.mk (some 7)
                  (AOp.slice 1 (Operand.tmp 6) none (some (Operand.const (Value.int IntKind.i64 2000))))
                  none [0],
                AOper.mk (some 0) (AOp.mv (Operand.tmp 7)) none [1, 0, 1]]
def l10r3 : List AOper :=
  [AOper.mk (some 8) (AOp.mv (Operand.tmp 0)) none [],
              AOper.mk (some 9)
                (AOp.build [Value.slice none 0 0, Value.int IntKind.i64 0] [(0, 1, Operand.tmp 8)]) none
                [0],
              AOper.mk (some 10) (AOp.box (Operand.tmp 9)) none [1],
              AOper.mk (some 2) (AOp.mv (Operand.tmp 10)) none [2, 0, 1, 2]]
def l10 : AFn :=
  (AFn.mk 11 1
    (ACode.seq (ACode.reg l10r0)
      (ACode.seq
        (ACode.seq
          (ACode.reg l10r1)
          (ACode.cond (Operand.tmp 5)
            (ACode.reg l10r2)
            ACode.skip))
        (ACode.seq
          (ACode.reg l10r3)
          ACode.ret)))
    [ARes.tmp 2])
theorem l10_eq : lowFn Try.prog 10 = some l10 := by kernel_rfl
def l11r0 : List AOper :=
  [AOper.mk (some 4) (AOp.mv (Operand.const (Value.bool false))) none []]
def l11r1 : List AOper :=
  [AOper.mk (some 5) (AOp.mv (Operand.tmp 0)) none [],
            AOper.mk (some 6) (AOp.bin BinOp.leq (Operand.const (Value.int IntKind.i64 0)) (Operand.tmp 5))
              none [0],
            AOper.mk (some 7) (AOp.mv (Operand.tmp 6)) none [1],
            AOper.mk (some 8) (AOp.mv (Operand.tmp 0)) (some (7, true)) [2],
            AOper.mk (some 9) (AOp.mv (Operand.tmp 1)) (some (7, true)) [2],
            AOper.mk (some 10) (AOp.bin BinOp.leq (Operand.tmp 8) (Operand.tmp 9)) (some (7, true)) [3, 4, 2],
            AOper.mk (some 11) (AOp.pick (Operand.tmp 7) (Operand.tmp 10) (Operand.const (Value.bool false))) none
              [2, 5],
            AOper.mk (some 4) (AOp.mv (Operand.tmp 11)) none [6, 2, 0, 1, 2, 3, 4, 5, 6]]
def l11 : AFn :=
  (AFn.mk 12 2
    (ACode.seq (ACode.reg l11r0)
      (ACode.seq
        (ACode.reg l11r1)
        ACode.ret))
    [ARes.tmp 4])
theorem l11_eq : lowFn Try.prog 11 = some l11 := by kernel_rfl
def l12r0 : List AOper :=
  [AOper.mk (some 2) (AOp.mv (Operand.const (Value.int IntKind.i64 0))) none []]
def l12r1 : List AOper :=
  [AOper.mk (some 3) (AOp.mv (Operand.const (Value.int IntKind.i64 1))) none []]
def l12r2 : List AOper :=
  [AOper.mk (some 6) (AOp.mv (Operand.tmp 0)) none [], AOper.mk (some 7) (AOp.len (Operand.tmp 6)) none [0],
                AOper.mk (some 8) (AOp.mv (Operand.const (Value.int IntKind.i64 0))) none []]
def l12r3 : List AOper :=
  [AOper.mk (some 9) (AOp.bin BinOp.lss (Operand.tmp 8) (Operand.tmp 7)) none []]
def l12r4 : List AOper :=
  [AOper.mk (some 10) (AOp.idxA 1 (Operand.tmp 6) (Operand.tmp 8)) none [],
                              AOper.mk (some 11) (AOp.load false 1 (Operand.tmp 10)) none [0],
                              AOper.mk (some 5) (AOp.mv (Operand.tmp 11)) none [1, 0, 1]]
def l12r5 : List AOper :=
  [AOper.mk (some 12) (AOp.mv (Operand.tmp 3)) none [],
                              AOper.mk (some 13) (AOp.mv (Operand.tmp 5)) none [],
                              AOper.mk (some 14) (AOp.bin BinOp.mul (Operand.tmp 12) (Operand.tmp 13)) none [0, 1],
                              AOper.mk (some 3) (AOp.mv (Operand.tmp 14)) none [2, 0, 1, 2]]
def l12r6 : List AOper :=
  [AOper.mk (some 15)
                            (AOp.bin BinOp.add (Operand.tmp 8) (Operand.const (Value.int IntKind.i64 1)))
                            none [],
                          AOper.mk (some 8) (AOp.mv (Operand.tmp 15)) none [0]]
def l12r7 : List AOper :=
  [AOper.mk (some 16) (AOp.mv (Operand.tmp 3)) none [],
                AOper.mk (some 2) (AOp.mv (Operand.tmp 16)) none [0, 0]]
def l12 : AFn :=
  (AFn.mk 17 1
    (ACode.seq (ACode.reg l12r0)
      (ACode.seq (ACode.reg l12r1)
        (ACode.seq
          (ACode.seq
            (ACode.reg l12r2)
            (ACode.block 0
              (ACode.loop
                (ACode.seq (ACode.reg l12r3)
                  (ACode.seq (ACode.cond (Operand.tmp 9) ACode.skip (ACode.exit 0))
                    (ACode.seq
                      (ACode.block 1
                        (ACode.seq
                          (ACode.reg l12r4)
                          (ACode.reg l12r5)))
                      (ACode.reg l12r6)))))))
          (ACode.seq
            (ACode.reg l12r7)
            ACode.ret))))
    [ARes.tmp 2])
theorem l12_eq : lowFn Try.prog 12 = some l12 := by kernel_rfl
def l13r0 : List AOper :=
  [AOper.mk (some 2) (AOp.mv (Operand.const (Value.bool false))) none []]
def l13r1 : List AOper :=
  [AOper.mk (some 3) (AOp.mv (Operand.tmp 0)) none [], AOper.mk (some 4) (AOp.len (Operand.tmp 3)) none [0],
            AOper.mk (some 5) (AOp.bin BinOp.leq (Operand.tmp 4) (Operand.const (Value.int IntKind.i64 4)))
              none [1],
            AOper.mk (some 6) (AOp.mv (Operand.tmp 5)) none [2],
            AOper.mk (some 7) (AOp.mv (Operand.tmp 0)) (some (6, true)) [3],
            AOper.mk (some 8)
              (AOp.call 17
                [Operand.tmp 7, Operand.const (Value.int IntKind.i64 0),
                  Operand.const (Value.int IntKind.i64 60)])
              (some (6, true)) [4, 3, 3],
            AOper.mk (some 9) (AOp.pick (Operand.tmp 6) (Operand.tmp 8) (Operand.const (Value.bool false))) none [3, 5],
            AOper.mk (some 10) (AOp.mv (Operand.tmp 9)) none [6, 5],
            AOper.mk (some 11) (AOp.mv (Operand.tmp 0)) (some (10, true)) [7],
            AOper.mk (some 12) (AOp.call 18 [Operand.tmp 11]) (some (10, true)) [8, 7, 7],
            AOper.mk (some 13)
              (AOp.bin BinOp.leq (Operand.tmp 12) (Operand.const (Value.int IntKind.i64 60)))
              (some (10, true)) [9, 7],
            AOper.mk (some 14) (AOp.pick (Operand.tmp 10) (Operand.tmp 13) (Operand.const (Value.bool false))) none
              [7, 10],
            AOper.mk (some 2) (AOp.mv (Operand.tmp 14)) none [11, 9, 0, 1, 2, 3, 4, 5, 6, 7, 8, 9, 10, 11]]
def l13 : AFn :=
  (AFn.mk 15 1
    (ACode.seq (ACode.reg l13r0)
      (ACode.seq
        (ACode.reg l13r1)
        ACode.ret))
    [ARes.tmp 2])
theorem l13_eq : lowFn Try.prog 13 = some l13 := by kernel_rfl
def l14r0 : List AOper :=
  [AOper.mk (some 2) (AOp.mv (Operand.const (Value.slice none 0 0))) none []]
def l14r1 : List AOper :=
  [AOper.mk (some 6) (AOp.bslice 1 [Value.int IntKind.i64 0] [] 0) none [],
            AOper.mk (some 3) (AOp.mv (Operand.tmp 6)) none [0, 0]]
def l14r2 : List AOper :=
  [AOper.mk (some 7) (AOp.mv (Operand.tmp 0)) none [],
                AOper.mk (some 8)
                  (AOp.bslice 1 [Value.int IntKind.i64 0]
                    [(0, Operand.const (Value.int IntKind.i64 2)),
                      (1, Operand.const (Value.int IntKind.i64 1)),
                      (2, Operand.const (Value.int IntKind.i64 3)),
                      (3, Operand.const (Value.int IntKind.i64 2)),
                      (4, Operand.const (Value.int IntKind.i64 0)),
                      (5, Operand.const (Value.int IntKind.i64 4))]
                    6)
                  none [],
                AOper.mk (some 9) (AOp.call 16 [Operand.tmp 7, Operand.tmp 8]) none [0, 1],
                AOper.mk (some 4) (AOp.mv (Operand.tmp 9)) none [2, 2, 0, 1, 2]]
def l14r3 : List AOper :=
  [AOper.mk (some 10) (AOp.mv (Operand.tmp 4)) none [],
                        AOper.mk (some 11)
                          (AOp.bin BinOp.gtr (Operand.tmp 10) (Operand.const (Value.int IntKind.i64 0)))
                          none [0]]
def l14r4 : List AOper :=
  [AOper.mk (some 14) (AOp.mv (Operand.tmp 0)) none [],
                            AOper.mk (some 15)
                              (AOp.bslice 1 [Value.int IntKind.i64 0]
                                [(0, Operand.const (Value.int IntKind.i64 2)),
                                  (1, Operand.const (Value.int IntKind.i64 3)),
                                  (2, Operand.const (Value.int IntKind.i64 1)),
                                  (3, Operand.const (Value.int IntKind.i64 4)),
                                  (4, Operand.const (Value.int IntKind.i64 2)),
                                  (5, Operand.const (Value.int IntKind.i64 3)),
                                  (6, Operand.const (Value.int IntKind.i64 5)),
                                  (7, Operand.const (Value.int IntKind.i64 0))]
                                8)
                              none [],
                            AOper.mk (some 16) (AOp.call 16 [Operand.tmp 14, Operand.tmp 15]) none [0, 1],
                            AOper.mk (some 5) (AOp.mv (Operand.tmp 16)) none [2, 2, 0, 1, 2]]
def l14r5 : List AOper :=
  [AOper.mk (some 17) (AOp.mv (Operand.tmp 3)) none [],
                              AOper.mk (some 18) (AOp.call 18 [Operand.tmp 17]) none [0],
                              AOper.mk (some 19) (AOp.mv (Operand.tmp 5)) none [],
                              AOper.mk (some 20) (AOp.bin BinOp.mul (Operand.tmp 18) (Operand.tmp 19)) none [1, 2],
                              AOper.mk (some 21)
                                (AOp.bin BinOp.leq (Operand.tmp 20)
                                  (Operand.const (Value.int IntKind.i64 60)))
                                none [3]]
def l14r6 : List AOper :=
  [AOper.mk (some 22) (AOp.mv (Operand.tmp 3)) none [],
                                AOper.mk (some 23) (AOp.mv (Operand.tmp 5)) none [],
                                AOper.mk (some 24)
                                  (AOp.bslice 1 [Value.int IntKind.i64 0] [(0, Operand.tmp 23)] 1) none [1],
                                AOper.mk (some 25) (AOp.append 1 (Operand.tmp 22) (Operand.tmp 24)) none [0, 2],
                                AOper.mk (some 3) (AOp.mv (Operand.tmp 25)) none [3, 3, 0, 1, 2, 3]]
def l14r7 : List AOper :=
  [AOper.mk (some 12) (AOp.mv (Operand.tmp 4)) none [],
                        AOper.mk (some 13)
                          (AOp.bin BinOp.sub (Operand.tmp 12) (Operand.const (Value.int IntKind.i64 1)))
                          none [0],
                        AOper.mk (some 4) (AOp.mv (Operand.tmp 13)) none [1, 0, 1]]
def l14r8 : List AOper :=
  [AOper.mk (some 26) (AOp.mv (Operand.tmp 3)) none [],
                AOper.mk (some 2) (AOp.mv (Operand.tmp 26)) none [0, 0]]
def l14 : AFn :=
  (AFn.mk 27 1
    (ACode.seq (ACode.reg l14r0)
      (ACode.seq
        (ACode.reg l14r1)
        (ACode.seq
          (ACode.seq
            (ACode.reg l14r2)
            (ACode.block 0
              (ACode.loop
                (ACode.seq
                  (ACode.seq
                    (ACode.reg l14r3)
                    (ACode.cond (Operand.tmp 11) ACode.skip (ACode.exit 0)))
                  (ACode.seq
                    (ACode.block 1
                      (ACode.seq
                        (ACode.reg l14r4)
                        (ACode.seq
                          (ACode.reg l14r5)
                          (ACode.cond (Operand.tmp 21)
                            (ACode.reg l14r6)
                            ACode.skip))))
                    (ACode.reg l14r7))))))
          (ACode.seq
            (ACode.reg l14r8)
            ACode.ret))))
    [ARes.tmp 2])
theorem l14_eq : lowFn Try.prog 14 = some l14 := by kernel_rfl
def l15r0 : List AOper :=
  [AOper.mk (some 4) (AOp.mv (Operand.const (Value.int IntKind.i64 0))) none []]
def l15r1 : List AOper :=
  [AOper.mk (some 7) (AOp.mv (Operand.tmp 0)) none [], AOper.mk (some 8) (AOp.mv (Operand.tmp 0)) none [],
            AOper.mk (some 9) (AOp.nilck (Operand.tmp 8)) none [1],
            AOper.mk (some 10) (AOp.fld 1 (Operand.tmp 9)) none [2],
            AOper.mk (some 11) (AOp.load false 1 (Operand.tmp 10)) none [3],
            AOper.mk (some 12)
              (AOp.bin BinOp.add (Operand.tmp 11) (Operand.const (Value.int IntKind.i64 1))) none [4],
            AOper.mk (some 13) (AOp.nilck (Operand.tmp 7)) none [0, 0, 1, 2, 3, 4, 5],
            AOper.mk (some 14) (AOp.fld 1 (Operand.tmp 13)) none [6, 0, 1, 2, 3, 4, 5],
            AOper.mk none (AOp.store 1 (Operand.tmp 14) (Operand.tmp 12)) none [7, 5, 0, 1, 2, 3, 4, 5]]
def l15r2 : List AOper :=
  [AOper.mk (some 15) (AOp.mv (Operand.tmp 1)) none [],
                AOper.mk (some 16)
                  (AOp.bin BinOp.lss (Operand.tmp 15) (Operand.const (Value.int IntKind.i64 1))) none [0],
                AOper.mk (some 17) (AOp.mv (Operand.tmp 16)) none [1],
                AOper.mk (some 18) (AOp.mv (Operand.tmp 0)) (some (17, false)) [2],
                AOper.mk (some 19) (AOp.nilck (Operand.tmp 18)) (some (17, false)) [3, 2],
                AOper.mk (some 20) (AOp.fld 0 (Operand.tmp 19)) (some (17, false)) [4, 2],
                AOper.mk (some 21) (AOp.load false 1 (Operand.tmp 20)) (some (17, false)) [5, 2],
                AOper.mk (some 22) (AOp.len (Operand.tmp 21)) (some (17, false)) [6, 2],
                AOper.mk (some 23)
                  (AOp.bin BinOp.eql (Operand.tmp 22) (Operand.const (Value.int IntKind.i64 0)))
                  (some (17, false)) [7, 2],
                AOper.mk (some 24) (AOp.pick (Operand.tmp 17) (Operand.const (Value.bool true)) (Operand.tmp 23)) none
                  [2, 8]]
def l15r3 : List AOper :=
  [AOper.mk (some 4) (AOp.mv (Operand.const (Value.int IntKind.i64 0))) none []]
def l15r4 : List AOper :=
  [AOper.mk (some 25) (AOp.mv (Operand.tmp 0)) none [],
                AOper.mk (some 26) (AOp.nilck (Operand.tmp 25)) none [0],
                AOper.mk (some 27) (AOp.fld 1 (Operand.tmp 26)) none [1],
                AOper.mk (some 28) (AOp.load false 1 (Operand.tmp 27)) none [2],
                AOper.mk (some 29)
                  (AOp.bin BinOp.sub (Operand.tmp 28) (Operand.const (Value.int IntKind.i64 1))) none [3],
                AOper.mk (some 5) (AOp.mv (Operand.tmp 29)) none [4, 0, 1, 2, 3, 4]]
def l15r5 : List AOper :=
  [AOper.mk (some 30) (AOp.mv (Operand.tmp 5)) none [],
                    AOper.mk (some 31) (AOp.mv (Operand.tmp 0)) none [],
                    AOper.mk (some 32) (AOp.nilck (Operand.tmp 31)) none [1],
                    AOper.mk (some 33) (AOp.fld 0 (Operand.tmp 32)) none [2],
                    AOper.mk (some 34) (AOp.load false 1 (Operand.tmp 33)) none [3],
                    AOper.mk (some 35) (AOp.len (Operand.tmp 34)) none [4],
                    AOper.mk (some 36) (AOp.bin BinOp.lss (Operand.tmp 30) (Operand.tmp 35)) none [0, 5]]
def l15r6 : List AOper :=
  [AOper.mk (some 37) (AOp.mv (Operand.tmp 0)) none [],
                        AOper.mk (some 38) (AOp.nilck (Operand.tmp 37)) none [0],
                        AOper.mk (some 39) (AOp.fld 0 (Operand.tmp 38)) none [1],
                        AOper.mk (some 40) (AOp.load false 1 (Operand.tmp 39)) none [2],
                        AOper.mk (some 41) (AOp.mv (Operand.tmp 5)) none [],
                        AOper.mk (some 42) (AOp.idxA 1 (Operand.tmp 40) (Operand.tmp 41)) none [3, 4],
                        AOper.mk (some 43) (AOp.load false 1 (Operand.tmp 42)) none [5],
                        AOper.mk (some 44) (AOp.conv IntKind.i64 (Operand.tmp 43)) none [6],
                        AOper.mk (some 45) (AOp.mv (Operand.tmp 1)) none [],
                        AOper.mk (some 46) (AOp.bin BinOp.rem (Operand.tmp 44) (Operand.tmp 45)) none [7, 8],
                        AOper.mk (some 4) (AOp.mv (Operand.tmp 46)) none [9, 0, 1, 2, 3, 4, 5, 6, 7, 8, 9]]
def l15r7a : List AOper :=
  [AOper.mk (some 47) (AOp.mv (Operand.tmp 0)) none [], AOper.mk (some 48) (AOp.nilck (Operand.tmp 47)) none [0], AOper.mk (some 49) (AOp.fld 0 (Operand.tmp 48)) none [1], AOper.mk (some 50) (AOp.load false 1 (Operand.tmp 49)) none [2], AOper.mk (some 51) (AOp.mv (Operand.tmp 5)) none [], AOper.mk (some 52) (AOp.mv (Operand.tmp 0)) none [], AOper.mk (some 53) (AOp.nilck (Operand.tmp 52)) none [5], AOper.mk (some 54) (AOp.fld 0 (Operand.tmp 53)) none [6], AOper.mk (some 55) (AOp.load false 1 (Operand.tmp 54)) none [7], AOper.mk (some 56) (AOp.len (Operand.tmp 55)) none [8], AOper.mk (some 57) (AOp.bin BinOp.rem (Operand.tmp 51) (Operand.tmp 56)) none [4, 9], AOper.mk (some 58) (AOp.idxA 1 (Operand.tmp 50) (Operand.tmp 57)) none [3, 10], AOper.mk (some 59) (AOp.load false 1 (Operand.tmp 58)) none [11], AOper.mk (some 60) (AOp.conv IntKind.i64 (Operand.tmp 59)) none [12], AOper.mk (some 61)
                      (AOp.bin BinOp.mul (Operand.tmp 60) (Operand.const (Value.int IntKind.i64 131))) none
                      [13], AOper.mk (some 62) (AOp.mv (Operand.tmp 0)) none [], AOper.mk (some 63) (AOp.nilck (Operand.tmp 62)) none [15], AOper.mk (some 64) (AOp.fld 0 (Operand.tmp 63)) none [16], AOper.mk (some 65) (AOp.load false 1 (Operand.tmp 64)) none [17], AOper.mk (some 66) (AOp.mv (Operand.tmp 5)) none [], AOper.mk (some 67)
                      (AOp.bin BinOp.mul (Operand.tmp 66) (Operand.const (Value.int IntKind.i64 7))) none
                      [19], AOper.mk (some 68)
                      (AOp.bin BinOp.add (Operand.tmp 67) (Operand.const (Value.int IntKind.i64 3))) none
                      [20], AOper.mk (some 69) (AOp.mv (Operand.tmp 0)) none [], AOper.mk (some 70) (AOp.nilck (Operand.tmp 69)) none [22], AOper.mk (some 71) (AOp.fld 0 (Operand.tmp 70)) none [23], AOper.mk (some 72) (AOp.load false 1 (Operand.tmp 71)) none [24], AOper.mk (some 73) (AOp.len (Operand.tmp 72)) none [25], AOper.mk (some 74) (AOp.bin BinOp.rem (Operand.tmp 68) (Operand.tmp 73)) none [21, 26], AOper.mk (some 75) (AOp.idxA 1 (Operand.tmp 65) (Operand.tmp 74)) none [18, 27], AOper.mk (some 76) (AOp.load false 1 (Operand.tmp 75)) none [28], AOper.mk (some 77) (AOp.conv IntKind.i64 (Operand.tmp 76)) none [29], AOper.mk (some 78)
                      (AOp.bin BinOp.mul (Operand.tmp 77) (Operand.const (Value.int IntKind.i64 1117))) none
                      [30], AOper.mk (some 79) (AOp.bin BinOp.add (Operand.tmp 61) (Operand.tmp 78)) none [14, 31], AOper.mk (some 80) (AOp.mv (Operand.tmp 5)) none [], AOper.mk (some 81)
                      (AOp.bin BinOp.mul (Operand.tmp 80) (Operand.const (Value.int IntKind.i64 29))) none
                      [33], AOper.mk (some 82) (AOp.bin BinOp.add (Operand.tmp 79) (Operand.tmp 81)) none [32, 34], AOper.mk (some 83) (AOp.mv (Operand.tmp 5)) none [], AOper.mk (some 84) (AOp.mv (Operand.tmp 0)) none [], AOper.mk (some 85) (AOp.nilck (Operand.tmp 84)) none [37], AOper.mk (some 86) (AOp.fld 0 (Operand.tmp 85)) none [38], AOper.mk (some 87) (AOp.load false 1 (Operand.tmp 86)) none [39], AOper.mk (some 88) (AOp.len (Operand.tmp 87)) none [40], AOper.mk (some 89) (AOp.bin BinOp.quo (Operand.tmp 83) (Operand.tmp 88)) none [36, 41], AOper.mk (some 90)
                      (AOp.bin BinOp.mul (Operand.tmp 89) (Operand.const (Value.int IntKind.i64 53))) none
                      [42]]
def l15r7b : List AOper :=
  [AOper.mk (some 91) (AOp.bin BinOp.add (Operand.tmp 82) (Operand.tmp 90)) none [35, 43], AOper.mk (some 6) (AOp.mv (Operand.tmp 91)) none
                      [44, 0, 1, 2, 3, 4, 5, 6, 7, 8, 9, 10, 11, 12, 13, 14, 15, 16, 17, 18, 19, 20, 21, 22, 23, 24, 25,
                        26, 27, 28, 29, 30, 31, 32, 33, 34, 35, 36, 37, 38, 39, 40, 41, 42, 43, 44]]
def l15r7 : List AOper := l15r7a ++ l15r7b
def l15r8 : List AOper :=
  [AOper.mk (some 92) (AOp.mv (Operand.tmp 6)) none [],
                      AOper.mk (some 93) (AOp.mv (Operand.tmp 6)) none [],
                      AOper.mk (some 94)
                        (AOp.bin BinOp.quo (Operand.tmp 93) (Operand.const (Value.int IntKind.i64 64))) none
                        [1],
                      AOper.mk (some 95) (AOp.bin BinOp.xor (Operand.tmp 92) (Operand.tmp 94)) none [0, 2],
                      AOper.mk (some 6) (AOp.mv (Operand.tmp 95)) none [3, 0, 1, 2, 3]]
def l15r9 : List AOper :=
  [AOper.mk (some 96) (AOp.mv (Operand.tmp 6)) none [],
                        AOper.mk (some 97) (AOp.mv (Operand.tmp 1)) none [],
                        AOper.mk (some 98) (AOp.bin BinOp.rem (Operand.tmp 96) (Operand.tmp 97)) none [0, 1],
                        AOper.mk (some 4) (AOp.mv (Operand.tmp 98)) none [2, 0, 1, 2]]
def l15 : AFn :=
  (AFn.mk 99 2
    (ACode.seq (ACode.reg l15r0)
      (ACode.seq
        (ACode.reg l15r1)
        (ACode.seq
          (ACode.seq
            (ACode.reg l15r2)
            (ACode.cond (Operand.tmp 24)
              (ACode.seq
                (ACode.reg l15r3)
                ACode.ret)
              ACode.skip))
          (ACode.seq
            (ACode.reg l15r4)
            (ACode.seq
              (ACode.seq
                (ACode.reg l15r5)
                (ACode.cond (Operand.tmp 36)
                  (ACode.seq
                    (ACode.reg l15r6)
                    ACode.ret)
                  ACode.skip))
              (ACode.seq
                (ACode.draw l15r7)
                (ACode.seq
                  (ACode.reg l15r8)
                  (ACode.seq
                    (ACode.reg l15r9)
                    ACode.ret))))))))
    [ARes.tmp 4])
theorem l15_eq : lowFn Try.prog 15 = some l15 := by kernel_rfl
def l16r0 : List AOper :=
  [AOper.mk (some 4) (AOp.mv (Operand.const (Value.int IntKind.i64 0))) none []]
def l16r1 : List AOper :=
  [AOper.mk (some 5) (AOp.mv (Operand.tmp 1)) none [], AOper.mk (some 6) (AOp.mv (Operand.tmp 0)) none [],
            AOper.mk (some 7) (AOp.mv (Operand.tmp 1)) none [], AOper.mk (some 8) (AOp.len (Operand.tmp 7)) none [2],
            AOper.mk (some 9) (AOp.call 15 [Operand.tmp 6, Operand.tmp 8]) none [1, 3],
            AOper.mk (some 10) (AOp.idxA 1 (Operand.tmp 5) (Operand.tmp 9)) none [0, 4],
            AOper.mk (some 11) (AOp.load false 1 (Operand.tmp 10)) none [5],
            AOper.mk (some 4) (AOp.mv (Operand.tmp 11)) none [6, 4, 0, 1, 2, 3, 4, 5, 6]]
def l16 : AFn :=
  (AFn.mk 12 2
    (ACode.seq (ACode.reg l16r0)
      (ACode.seq
        (ACode.reg l16r1)
        ACode.ret))
    [ARes.tmp 4])
theorem l16_eq : lowFn Try.prog 16 = some l16 := by kernel_rfl
def l17r0 : List AOper :=
  [AOper.mk (some 6) (AOp.mv (Operand.const (Value.bool false))) none []]
def l17r1 : List AOper :=
  [AOper.mk (some 7) (AOp.mv (Operand.const (Value.int IntKind.i64 0))) none []]
def l17r2 : List AOper :=
  [AOper.mk (some 8) (AOp.mv (Operand.tmp 7)) none [],
                      AOper.mk (some 9) (AOp.mv (Operand.tmp 0)) none [],
                      AOper.mk (some 10) (AOp.len (Operand.tmp 9)) none [1],
                      AOper.mk (some 11) (AOp.bin BinOp.lss (Operand.tmp 8) (Operand.tmp 10)) none [0, 2]]
def l17r3 : List AOper :=
  [AOper.mk (some 14) (AOp.mv (Operand.tmp 0)) none [],
                          AOper.mk (some 15) (AOp.mv (Operand.tmp 7)) none [],
                          AOper.mk (some 16) (AOp.idxA 1 (Operand.tmp 14) (Operand.tmp 15)) none [0, 1],
                          AOper.mk (some 17) (AOp.load false 1 (Operand.tmp 16)) none [2],
                          AOper.mk (some 18) (AOp.mv (Operand.tmp 1)) none [],
                          AOper.mk (some 19) (AOp.mv (Operand.tmp 2)) none [],
                          AOper.mk (some 20) (AOp.call 19 [Operand.tmp 17, Operand.tmp 18, Operand.tmp 19]) none
                            [3, 4, 5],
                          AOper.mk (some 21) (AOp.un UnOp.not (Operand.tmp 20)) none [6]]
def l17r4 : List AOper :=
  [AOper.mk (some 6) (AOp.mv (Operand.const (Value.bool false))) none []]
def l17r5 : List AOper :=
  [AOper.mk (some 12) (AOp.mv (Operand.tmp 7)) none [],
                      AOper.mk (some 13)
                        (AOp.bin BinOp.add (Operand.tmp 12) (Operand.const (Value.int IntKind.i64 1))) none
                        [0],
                      AOper.mk (some 7) (AOp.mv (Operand.tmp 13)) none [1, 0, 1]]
def l17r6 : List AOper :=
  [AOper.mk (some 6) (AOp.mv (Operand.const (Value.bool true))) none []]
def l17 : AFn :=
  (AFn.mk 22 3
    (ACode.seq (ACode.reg l17r0)
      (ACode.seq
        (ACode.seq
          (ACode.reg l17r1)
          (ACode.block 0
            (ACode.loop
              (ACode.seq
                (ACode.seq
                  (ACode.reg l17r2)
                  (ACode.cond (Operand.tmp 11) ACode.skip (ACode.exit 0)))
                (ACode.seq
                  (ACode.block 1
                    (ACode.seq
                      (ACode.reg l17r3)
                      (ACode.cond (Operand.tmp 21)
                        (ACode.seq (ACode.reg l17r4)
                          ACode.ret)
                        ACode.skip)))
                  (ACode.reg l17r5))))))
        (ACode.seq (ACode.reg l17r6) ACode.ret)))
    [ARes.tmp 6])
theorem l17_eq : lowFn Try.prog 17 = some l17 := by kernel_rfl
def l18r0 : List AOper :=
  [AOper.mk (some 2) (AOp.mv (Operand.const (Value.int IntKind.i64 0))) none []]
def l18r1 : List AOper :=
  [AOper.mk (some 3) (AOp.mv (Operand.const (Value.int IntKind.i64 1))) none []]
def l18r2 : List AOper :=
  [AOper.mk (some 4) (AOp.mv (Operand.const (Value.int IntKind.i64 0))) none []]
def l18r3 : List AOper :=
  [AOper.mk (some 5) (AOp.mv (Operand.tmp 4)) none [],
                        AOper.mk (some 6) (AOp.mv (Operand.tmp 0)) none [],
                        AOper.mk (some 7) (AOp.len (Operand.tmp 6)) none [1],
                        AOper.mk (some 8) (AOp.bin BinOp.lss (Operand.tmp 5) (Operand.tmp 7)) none [0, 2]]
def l18r4 : List AOper :=
  [AOper.mk (some 11) (AOp.mv (Operand.tmp 3)) none [],
                          AOper.mk (some 12) (AOp.mv (Operand.tmp 0)) none [],
                          AOper.mk (some 13) (AOp.mv (Operand.tmp 4)) none [],
                          AOper.mk (some 14) (AOp.idxA 1 (Operand.tmp 12) (Operand.tmp 13)) none [1, 2],
                          AOper.mk (some 15) (AOp.load false 1 (Operand.tmp 14)) none [3],
                          AOper.mk (some 16) (AOp.bin BinOp.mul (Operand.tmp 11) (Operand.tmp 15)) none [0, 4],
                          AOper.mk (some 3) (AOp.mv (Operand.tmp 16)) none [5, 0, 1, 2, 3, 4, 5]]
def l18r5 : List AOper :=
  [AOper.mk (some 9) (AOp.mv (Operand.tmp 4)) none [],
                        AOper.mk (some 10)
                          (AOp.bin BinOp.add (Operand.tmp 9) (Operand.const (Value.int IntKind.i64 1))) none
                          [0],
                        AOper.mk (some 4) (AOp.mv (Operand.tmp 10)) none [1, 0, 1]]
def l18r6 : List AOper :=
  [AOper.mk (some 17) (AOp.mv (Operand.tmp 3)) none [],
                AOper.mk (some 2) (AOp.mv (Operand.tmp 17)) none [0, 0]]
def l18 : AFn :=
  (AFn.mk 18 1
    (ACode.seq (ACode.reg l18r0)
      (ACode.seq (ACode.reg l18r1)
        (ACode.seq
          (ACode.seq
            (ACode.reg l18r2)
            (ACode.block 0
              (ACode.loop
                (ACode.seq
                  (ACode.seq
                    (ACode.reg l18r3)
                    (ACode.cond (Operand.tmp 8) ACode.skip (ACode.exit 0)))
                  (ACode.seq
                    (ACode.block 1
                      (ACode.reg l18r4))
                    (ACode.reg l18r5))))))
          (ACode.seq
            (ACode.reg l18r6)
            ACode.ret))))
    [ARes.tmp 2])
theorem l18_eq : lowFn Try.prog 18 = some l18 := by kernel_rfl
def l19r0 : List AOper :=
  [AOper.mk (some 6) (AOp.mv (Operand.const (Value.bool false))) none []]
def l19r1 : List AOper :=
  [AOper.mk (some 7) (AOp.mv (Operand.tmp 1)) none [], AOper.mk (some 8) (AOp.mv (Operand.tmp 0)) none [],
            AOper.mk (some 9) (AOp.bin BinOp.leq (Operand.tmp 7) (Operand.tmp 8)) none [0, 1],
            AOper.mk (some 10) (AOp.mv (Operand.tmp 9)) none [2],
            AOper.mk (some 11) (AOp.mv (Operand.tmp 0)) (some (10, true)) [3],
            AOper.mk (some 12) (AOp.mv (Operand.tmp 2)) (some (10, true)) [3],
            AOper.mk (some 13) (AOp.bin BinOp.leq (Operand.tmp 11) (Operand.tmp 12)) (some (10, true)) [4, 5, 3],
            AOper.mk (some 14) (AOp.pick (Operand.tmp 10) (Operand.tmp 13) (Operand.const (Value.bool false))) none
              [3, 6],
            AOper.mk (some 6) (AOp.mv (Operand.tmp 14)) none [7, 3, 0, 1, 2, 3, 4, 5, 6, 7]]
def l19 : AFn :=
  (AFn.mk 15 3
    (ACode.seq (ACode.reg l19r0)
      (ACode.seq
        (ACode.reg l19r1)
        ACode.ret))
    [ARes.tmp 6])
theorem l19_eq : lowFn Try.prog 19 = some l19 := by kernel_rfl
end Go.Proofs.Ytodfknmnhlaiaaa
