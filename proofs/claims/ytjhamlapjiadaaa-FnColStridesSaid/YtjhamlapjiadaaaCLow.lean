import Derived.Test.YtjhamlapjiadaaaCVwR
import Derived.Test.YtjhamlapjiadaaaProg
import Derived.KernelRfl
set_option maxRecDepth 100000
namespace Go.Proofs.Ytjhamlapjiadaaa
open Vw Go
def l9r0 : List AOper :=
  [AOper.mk (some 2) (AOp.mv (Operand.const (Value.bool false))) none []]
def l9r1 : List AOper :=
  [AOper.mk (some 5) (AOp.mv (Operand.tmp 0)) none [], AOper.mk (some 6) (AOp.len (Operand.tmp 5)) none [0],
              AOper.mk (some 7)
                (AOp.bin BinOp.gtr (Operand.tmp 6) (Operand.const (Value.int IntKind.i64 1048576))) none
                [1]]
def l9r2 : List AOper :=
  [AOper.mk (some 2) (AOp.mv (Operand.const (Value.bool true))) none []]
def l9r3 : List AOper :=
  [AOper.mk (some 8) (AOp.mv (Operand.tmp 0)) none [],
              AOper.mk (some 9) (AOp.call 36 [Operand.tmp 8]) none [0],
              AOper.mk (some 3) (AOp.mv (Operand.tmp 9)) none [1, 1, 0, 1]]
def l9r4 : List AOper :=
  [AOper.mk (some 10) (AOp.mv (Operand.tmp 3)) none [],
                AOper.mk (some 11) (AOp.call 37 [Operand.tmp 10]) none [0],
                AOper.mk (some 4) (AOp.mv (Operand.tmp 11)) none [1, 1, 0, 1]]
def l9r5 : List AOper :=
  [AOper.mk (some 12) (AOp.mv (Operand.tmp 4)) none [],
                    AOper.mk (some 13) (AOp.mv (Operand.tmp 3)) none [],
                    AOper.mk (some 14) (AOp.call 38 [Operand.tmp 13]) none [1],
                    AOper.mk (some 15) (AOp.call 28 [Operand.tmp 12, Operand.tmp 14]) none [0, 2, 2],
                    AOper.mk (some 16) (AOp.un UnOp.not (Operand.tmp 15)) none [3],
                    AOper.mk (some 17) (AOp.mv (Operand.tmp 16)) none [4, 3],
                    AOper.mk (some 18) (AOp.mv (Operand.tmp 3)) (some (17, false)) [5],
                    AOper.mk (some 19) (AOp.call 18 [Operand.tmp 18]) (some (17, false)) [6, 5, 5],
                    AOper.mk (some 20) (AOp.un UnOp.not (Operand.tmp 19)) (some (17, false)) [7, 5],
                    AOper.mk (some 21) (AOp.pick (Operand.tmp 17) (Operand.const (Value.bool true)) (Operand.tmp 20))
                      none [5, 8]]
def l9r6 : List AOper :=
  [AOper.mk (some 22) (AOp.mv (Operand.tmp 4)) none [],
                        AOper.mk (some 23) (AOp.mv (Operand.tmp 3)) none [],
                        AOper.mk (some 24) (AOp.call 38 [Operand.tmp 23]) none [1],
                        AOper.mk (some 25) (AOp.call 28 [Operand.tmp 22, Operand.tmp 24]) none [0, 2, 2],
                        AOper.mk (some 2) (AOp.mv (Operand.tmp 25)) none [3, 3, 0, 1, 2, 3]]
def l9r7 : List AOper :=
  [AOper.mk (some 26) (AOp.mv (Operand.tmp 3)) none [],
                    AOper.mk (some 27) (AOp.call 39 [Operand.tmp 26]) none [0],
                    AOper.mk (some 28) (AOp.call 33 [Operand.tmp 27]) none [1, 1],
                    AOper.mk (some 29) (AOp.call 39 [Operand.tmp 28]) none [2, 2],
                    AOper.mk (some 30) (AOp.mv (Operand.tmp 4)) none [],
                    AOper.mk (some 31) (AOp.call 28 [Operand.tmp 29, Operand.tmp 30]) none [3, 4, 3],
                    AOper.mk (some 2) (AOp.mv (Operand.tmp 31)) none [5, 5, 0, 1, 2, 3, 4, 5]]
def l9 : AFn :=
  (AFn.mk 32 1
    (ACode.seq (ACode.reg l9r0)
      (ACode.seq
        (ACode.seq
          (ACode.reg l9r1)
          (ACode.cond (Operand.tmp 7)
            (ACode.seq (ACode.reg l9r2) ACode.ret)
            ACode.skip))
        (ACode.seq
          (ACode.reg l9r3)
          (ACode.seq
            (ACode.reg l9r4)
            (ACode.seq
              (ACode.seq
                (ACode.reg l9r5)
                (ACode.cond (Operand.tmp 21)
                  (ACode.seq
                    (ACode.reg l9r6)
                    ACode.ret)
                  ACode.skip))
              (ACode.seq
                (ACode.reg l9r7)
                ACode.ret))))))
    [ARes.tmp 2])
theorem l9_eq : lowFn Try.prog 9 = some l9 := by kernel_rfl
def l18r0 : List AOper :=
  [AOper.mk (some 2) (AOp.mv (Operand.const (Value.bool false))) none []]
def l18r1 : List AOper :=
  [AOper.mk (some 5) (AOp.mv (Operand.tmp 0)) none [], AOper.mk (some 6) (AOp.len (Operand.tmp 5)) none [0],
              AOper.mk (some 7)
                (AOp.bin BinOp.gtr (Operand.tmp 6) (Operand.const (Value.int IntKind.i64 4))) none [1]]
def l18r2 : List AOper :=
  [AOper.mk (some 2) (AOp.mv (Operand.const (Value.bool false))) none []]
def l18r3 : List AOper :=
  [AOper.mk (some 8) (AOp.mv (Operand.tmp 0)) none [], AOper.mk (some 9) (AOp.len (Operand.tmp 8)) none [0],
                AOper.mk (some 10) (AOp.mv (Operand.const (Value.int IntKind.i64 0))) none []]
def l18r4 : List AOper :=
  [AOper.mk (some 11) (AOp.bin BinOp.lss (Operand.tmp 10) (Operand.tmp 9)) none []]
def l18r5 : List AOper :=
  [AOper.mk (some 12) (AOp.idxA 1 (Operand.tmp 8) (Operand.tmp 10)) none [],
                              AOper.mk (some 13) (AOp.load false 1 (Operand.tmp 12)) none [0],
                              AOper.mk (some 4) (AOp.mv (Operand.tmp 13)) none [1, 0, 1]]
def l18r6 : List AOper :=
  [AOper.mk (some 14) (AOp.mv (Operand.tmp 4)) none [],
                                AOper.mk (some 15)
                                  (AOp.call 53 [Operand.tmp 14, Operand.const (Value.int IntKind.i64 60)])
                                  none [0],
                                AOper.mk (some 16) (AOp.un UnOp.not (Operand.tmp 15)) none [1]]
def l18r7 : List AOper :=
  [AOper.mk (some 2) (AOp.mv (Operand.const (Value.bool false))) none []]
def l18r8 : List AOper :=
  [AOper.mk (some 17)
                            (AOp.bin BinOp.add (Operand.tmp 10) (Operand.const (Value.int IntKind.i64 1)))
                            none [],
                          AOper.mk (some 10) (AOp.mv (Operand.tmp 17)) none [0]]
def l18r9 : List AOper :=
  [AOper.mk (some 18) (AOp.mv (Operand.tmp 0)) none [],
                AOper.mk (some 19) (AOp.call 54 [Operand.tmp 18]) none [0],
                AOper.mk (some 20)
                  (AOp.bin BinOp.leq (Operand.tmp 19) (Operand.const (Value.int IntKind.i64 60))) none [1],
                AOper.mk (some 2) (AOp.mv (Operand.tmp 20)) none [2, 1, 0, 1, 2]]
def l18 : AFn :=
  (AFn.mk 21 1
    (ACode.seq (ACode.reg l18r0)
      (ACode.seq
        (ACode.seq
          (ACode.reg l18r1)
          (ACode.cond (Operand.tmp 7)
            (ACode.seq (ACode.reg l18r2) ACode.ret)
            ACode.skip))
        (ACode.seq
          (ACode.seq
            (ACode.reg l18r3)
            (ACode.block 0
              (ACode.loop
                (ACode.seq (ACode.reg l18r4)
                  (ACode.seq (ACode.cond (Operand.tmp 11) ACode.skip (ACode.exit 0))
                    (ACode.seq
                      (ACode.block 1
                        (ACode.seq
                          (ACode.reg l18r5)
                          (ACode.seq
                            (ACode.reg l18r6)
                            (ACode.cond (Operand.tmp 16)
                              (ACode.seq
                                (ACode.reg l18r7)
                                ACode.ret)
                              ACode.skip))))
                      (ACode.reg l18r8)))))))
          (ACode.seq
            (ACode.reg l18r9)
            ACode.ret))))
    [ARes.tmp 2])
theorem l18_eq : lowFn Try.prog 18 = some l18 := by kernel_rfl
def l28r0 : List AOper :=
  [AOper.mk (some 4) (AOp.mv (Operand.const (Value.bool false))) none []]
def l28r1 : List AOper :=
  [AOper.mk (some 6) (AOp.mv (Operand.tmp 0)) none [], AOper.mk (some 7) (AOp.len (Operand.tmp 6)) none [0],
              AOper.mk (some 8) (AOp.mv (Operand.tmp 1)) none [], AOper.mk (some 9) (AOp.len (Operand.tmp 8)) none [2],
              AOper.mk (some 10) (AOp.bin BinOp.neq (Operand.tmp 7) (Operand.tmp 9)) none [1, 3]]
def l28r2 : List AOper :=
  [AOper.mk (some 4) (AOp.mv (Operand.const (Value.bool false))) none []]
def l28r3 : List AOper :=
  [AOper.mk (some 5) (AOp.mv (Operand.const (Value.int IntKind.i64 0))) none []]
def l28r4 : List AOper :=
  [AOper.mk (some 11) (AOp.mv (Operand.tmp 5)) none [],
                        AOper.mk (some 12) (AOp.mv (Operand.tmp 0)) none [],
                        AOper.mk (some 13) (AOp.len (Operand.tmp 12)) none [1],
                        AOper.mk (some 14) (AOp.bin BinOp.lss (Operand.tmp 11) (Operand.tmp 13)) none [0, 2]]
def l28r5a : List AOper :=
  [AOper.mk (some 17) (AOp.mv (Operand.tmp 0)) none [], AOper.mk (some 18) (AOp.mv (Operand.tmp 5)) none [], AOper.mk (some 19) (AOp.idxA 1 (Operand.tmp 17) (Operand.tmp 18)) none [0, 1], AOper.mk (some 20) (AOp.load false 1 (Operand.tmp 19)) none [2], AOper.mk (some 21) (AOp.mv (Operand.tmp 1)) none [], AOper.mk (some 22) (AOp.mv (Operand.tmp 5)) none [], AOper.mk (some 23) (AOp.idxA 1 (Operand.tmp 21) (Operand.tmp 22)) none [4, 5], AOper.mk (some 24) (AOp.load false 1 (Operand.tmp 23)) none [6]]
def l28r5b : List AOper :=
  [AOper.mk (some 25) (AOp.bin BinOp.neq (Operand.tmp 20) (Operand.tmp 24)) none [3, 7]]
def l28r5 : List AOper := l28r5a ++ l28r5b
def l28r6 : List AOper :=
  [AOper.mk (some 4) (AOp.mv (Operand.const (Value.bool false))) none []]
def l28r7 : List AOper :=
  [AOper.mk (some 15) (AOp.mv (Operand.tmp 5)) none [],
                        AOper.mk (some 16)
                          (AOp.bin BinOp.add (Operand.tmp 15) (Operand.const (Value.int IntKind.i64 1)))
                          none [0],
                        AOper.mk (some 5) (AOp.mv (Operand.tmp 16)) none [1, 0, 1]]
def l28r8 : List AOper :=
  [AOper.mk (some 4) (AOp.mv (Operand.const (Value.bool true))) none []]
def l28 : AFn :=
  (AFn.mk 26 2
    (ACode.seq (ACode.reg l28r0)
      (ACode.seq
        (ACode.seq
          (ACode.reg l28r1)
          (ACode.cond (Operand.tmp 10)
            (ACode.seq (ACode.reg l28r2) ACode.ret)
            ACode.skip))
        (ACode.seq
          (ACode.seq
            (ACode.reg l28r3)
            (ACode.block 0
              (ACode.loop
                (ACode.seq
                  (ACode.seq
                    (ACode.reg l28r4)
                    (ACode.cond (Operand.tmp 14) ACode.skip (ACode.exit 0)))
                  (ACode.seq
                    (ACode.block 1
                      (ACode.seq
                        (ACode.draw l28r5)
                        (ACode.cond (Operand.tmp 25)
                          (ACode.seq (ACode.reg l28r6)
                            ACode.ret)
                          ACode.skip)))
                    (ACode.reg l28r7))))))
          (ACode.seq (ACode.reg l28r8) ACode.ret))))
    [ARes.tmp 4])
theorem l28_eq : lowFn Try.prog 28 = some l28 := by kernel_rfl
def l33r0 : List AOper :=
  [AOper.mk (some 2) (AOp.mv (Operand.const (Value.slice none 0 0))) none []]
def l33r1 : List AOper :=
  [AOper.mk (some 5) (AOp.mv (Operand.tmp 0)) none [],
              AOper.mk (some 6) (AOp.call 18 [Operand.tmp 5]) none [0],
              AOper.mk (some 7) (AOp.un UnOp.not (Operand.tmp 6)) none [1]]
def l33r2 : List AOper :=
  [AOper.mk (some 2) (AOp.mv (Operand.const (Value.slice none 0 0))) none []]
def l33r3 : List AOper :=
  [AOper.mk (some 8) (AOp.mv (Operand.tmp 0)) none [], AOper.mk (some 9) (AOp.len (Operand.tmp 8)) none [0],
              AOper.mk (some 10) (AOp.mkslice 1 [Value.int IntKind.i64 0] (Operand.tmp 9) (Operand.tmp 9))
                none [1, 1],
              AOper.mk (some 3) (AOp.mv (Operand.tmp 10)) none [2, 0, 1, 2]]
def l33r4 : List AOper :=
  [AOper.mk (some 11) (AOp.mv (Operand.tmp 3)) none [],
                  AOper.mk (some 12) (AOp.len (Operand.tmp 11)) none [0],
                  AOper.mk (some 13) (AOp.mv (Operand.const (Value.int IntKind.i64 0))) none []]
def l33r5 : List AOper :=
  [AOper.mk (some 14) (AOp.bin BinOp.lss (Operand.tmp 13) (Operand.tmp 12)) none []]
def l33r6 : List AOper :=
  [AOper.mk (some 15) (AOp.mv (Operand.tmp 13)) none [],
                                AOper.mk (some 4) (AOp.mv (Operand.tmp 15)) none [0, 0]]
def l33r7 : List AOper :=
  [AOper.mk (some 16) (AOp.mv (Operand.tmp 3)) none [],
                                AOper.mk (some 17) (AOp.mv (Operand.tmp 4)) none [],
                                AOper.mk (some 18) (AOp.mv (Operand.tmp 0)) none [],
                                AOper.mk (some 19) (AOp.mv (Operand.tmp 4)) none [],
                                AOper.mk (some 20)
                                  (AOp.bin BinOp.add (Operand.tmp 19)
                                    (Operand.const (Value.int IntKind.i64 1)))
                                  none [3],
                                AOper.mk (some 21) (AOp.slice 1 (Operand.tmp 18) (some (Operand.tmp 20)) none) none
                                  [2, 4],
                                AOper.mk (some 22) (AOp.call 54 [Operand.tmp 21]) none [5],
                                AOper.mk (some 23) (AOp.idxA 1 (Operand.tmp 16) (Operand.tmp 17)) none
                                  [0, 1, 0, 1, 2, 3, 4, 5, 6],
                                AOper.mk none (AOp.store 1 (Operand.tmp 23) (Operand.tmp 22)) none
                                  [7, 6, 6, 0, 1, 2, 3, 4, 5, 6]]
def l33r8 : List AOper :=
  [AOper.mk (some 24)
                              (AOp.bin BinOp.add (Operand.tmp 13) (Operand.const (Value.int IntKind.i64 1)))
                              none [],
                            AOper.mk (some 13) (AOp.mv (Operand.tmp 24)) none [0]]
def l33r9 : List AOper :=
  [AOper.mk (some 25) (AOp.mv (Operand.tmp 3)) none [],
                  AOper.mk (some 2) (AOp.mv (Operand.tmp 25)) none [0, 0]]
def l33 : AFn :=
  (AFn.mk 26 1
    (ACode.seq (ACode.reg l33r0)
      (ACode.seq
        (ACode.seq
          (ACode.reg l33r1)
          (ACode.cond (Operand.tmp 7)
            (ACode.seq (ACode.reg l33r2)
              ACode.ret)
            ACode.skip))
        (ACode.seq
          (ACode.reg l33r3)
          (ACode.seq
            (ACode.seq
              (ACode.reg l33r4)
              (ACode.block 0
                (ACode.loop
                  (ACode.seq
                    (ACode.reg l33r5)
                    (ACode.seq (ACode.cond (Operand.tmp 14) ACode.skip (ACode.exit 0))
                      (ACode.seq
                        (ACode.block 1
                          (ACode.seq
                            (ACode.reg l33r6)
                            (ACode.reg l33r7)))
                        (ACode.reg l33r8)))))))
            (ACode.seq
              (ACode.reg l33r9)
              ACode.ret)))))
    [ARes.tmp 2])
theorem l33_eq : lowFn Try.prog 33 = some l33 := by kernel_rfl
def l36r0 : List AOper :=
  [AOper.mk (some 2) (AOp.mv (Operand.const (Value.slice none 0 0))) none []]
def l36r1 : List AOper :=
  [AOper.mk (some 3) (AOp.mv (Operand.tmp 0)) none [], AOper.mk (some 4) (AOp.call 40 [Operand.tmp 3]) none [0],
            AOper.mk (some 5) (AOp.call 52 [Operand.tmp 4]) none [1, 1],
            AOper.mk (some 2) (AOp.mv (Operand.tmp 5)) none [2, 2, 0, 1, 2]]
def l36 : AFn :=
  (AFn.mk 6 1
    (ACode.seq (ACode.reg l36r0)
      (ACode.seq
        (ACode.reg l36r1)
        ACode.ret))
    [ARes.tmp 2])
theorem l36_eq : lowFn Try.prog 36 = some l36 := by kernel_rfl
def l37r0 : List AOper :=
  [AOper.mk (some 2) (AOp.mv (Operand.const (Value.slice none 0 0))) none []]
def l37r1 : List AOper :=
  [AOper.mk (some 5) (AOp.mv (Operand.tmp 0)) none [],
              AOper.mk (some 6) (AOp.call 18 [Operand.tmp 5]) none [0],
              AOper.mk (some 7) (AOp.un UnOp.not (Operand.tmp 6)) none [1]]
def l37r2 : List AOper :=
  [AOper.mk (some 2) (AOp.mv (Operand.const (Value.slice none 0 0))) none []]
def l37r3 : List AOper :=
  [AOper.mk (some 8) (AOp.mv (Operand.tmp 0)) none [], AOper.mk (some 9) (AOp.len (Operand.tmp 8)) none [0],
              AOper.mk (some 10) (AOp.mkslice 1 [Value.int IntKind.i64 0] (Operand.tmp 9) (Operand.tmp 9))
                none [1, 1],
              AOper.mk (some 3) (AOp.mv (Operand.tmp 10)) none [2, 0, 1, 2]]
def l37r4 : List AOper :=
  [AOper.mk (some 11) (AOp.mv (Operand.tmp 3)) none [],
                  AOper.mk (some 12) (AOp.len (Operand.tmp 11)) none [0],
                  AOper.mk (some 13) (AOp.mv (Operand.const (Value.int IntKind.i64 0))) none []]
def l37r5 : List AOper :=
  [AOper.mk (some 14) (AOp.bin BinOp.lss (Operand.tmp 13) (Operand.tmp 12)) none []]
def l37r6 : List AOper :=
  [AOper.mk (some 15) (AOp.mv (Operand.tmp 13)) none [],
                                AOper.mk (some 4) (AOp.mv (Operand.tmp 15)) none [0, 0]]
def l37r7 : List AOper :=
  [AOper.mk (some 16) (AOp.mv (Operand.tmp 3)) none [],
                                AOper.mk (some 17) (AOp.mv (Operand.tmp 4)) none [],
                                AOper.mk (some 18) (AOp.mv (Operand.tmp 0)) none [],
                                AOper.mk (some 19) (AOp.mv (Operand.tmp 4)) none [],
                                AOper.mk (some 20) (AOp.slice 1 (Operand.tmp 18) none (some (Operand.tmp 19))) none
                                  [2, 3],
                                AOper.mk (some 21) (AOp.call 54 [Operand.tmp 20]) none [4],
                                AOper.mk (some 22) (AOp.idxA 1 (Operand.tmp 16) (Operand.tmp 17)) none
                                  [0, 1, 0, 1, 2, 3, 4, 5],
                                AOper.mk none (AOp.store 1 (Operand.tmp 22) (Operand.tmp 21)) none
                                  [6, 5, 5, 0, 1, 2, 3, 4, 5]]
def l37r8 : List AOper :=
  [AOper.mk (some 23)
                              (AOp.bin BinOp.add (Operand.tmp 13) (Operand.const (Value.int IntKind.i64 1)))
                              none [],
                            AOper.mk (some 13) (AOp.mv (Operand.tmp 23)) none [0]]
def l37r9 : List AOper :=
  [AOper.mk (some 24) (AOp.mv (Operand.tmp 3)) none [],
                  AOper.mk (some 2) (AOp.mv (Operand.tmp 24)) none [0, 0]]
def l37 : AFn :=
  (AFn.mk 25 1
    (ACode.seq (ACode.reg l37r0)
      (ACode.seq
        (ACode.seq
          (ACode.reg l37r1)
          (ACode.cond (Operand.tmp 7)
            (ACode.seq (ACode.reg l37r2)
              ACode.ret)
            ACode.skip))
        (ACode.seq
          (ACode.reg l37r3)
          (ACode.seq
            (ACode.seq
              (ACode.reg l37r4)
              (ACode.block 0
                (ACode.loop
                  (ACode.seq
                    (ACode.reg l37r5)
                    (ACode.seq (ACode.cond (Operand.tmp 14) ACode.skip (ACode.exit 0))
                      (ACode.seq
                        (ACode.block 1
                          (ACode.seq
                            (ACode.reg l37r6)
                            (ACode.reg l37r7)))
                        (ACode.reg l37r8)))))))
            (ACode.seq
              (ACode.reg l37r9)
              ACode.ret)))))
    [ARes.tmp 2])
theorem l37_eq : lowFn Try.prog 37 = some l37 := by kernel_rfl
def l38r0 : List AOper :=
  [AOper.mk (some 2) (AOp.mv (Operand.const (Value.slice none 0 0))) none []]
def l38r1 : List AOper :=
  [AOper.mk (some 3) (AOp.mv (Operand.tmp 0)) none [],
              AOper.mk (some 4) (AOp.call 55 [Operand.tmp 3]) none [0],
              AOper.mk (some 5) (AOp.un UnOp.not (Operand.tmp 4)) none [1]]
def l38r2 : List AOper :=
  [AOper.mk (some 2) (AOp.mv (Operand.const (Value.slice none 0 0))) none []]
def l38r3 : List AOper :=
  [AOper.mk (some 6) (AOp.mv (Operand.tmp 0)) none [],
              AOper.mk (some 7) (AOp.call 66 [Operand.tmp 6]) none [0],
              AOper.mk (some 2) (AOp.mv (Operand.tmp 7)) none [1, 1, 0, 1]]
def l38 : AFn :=
  (AFn.mk 8 1
    (ACode.seq (ACode.reg l38r0)
      (ACode.seq
        (ACode.seq
          (ACode.reg l38r1)
          (ACode.cond (Operand.tmp 5)
            (ACode.seq (ACode.reg l38r2)
              ACode.ret)
            ACode.skip))
        (ACode.seq
          (ACode.reg l38r3)
          ACode.ret)))
    [ARes.tmp 2])
theorem l38_eq : lowFn Try.prog 38 = some l38 := by kernel_rfl
def l39r0 : List AOper :=
  [AOper.mk (some 2) (AOp.mv (Operand.const (Value.slice none 0 0))) none []]
def l39r1 : List AOper :=
  [AOper.mk (some 5) (AOp.bslice 1 [Value.int IntKind.i64 0] [] 0) none [],
            AOper.mk (some 3) (AOp.mv (Operand.tmp 5)) none [0, 0]]
def l39r2 : List AOper :=
  [AOper.mk (some 6) (AOp.mv (Operand.tmp 0)) none [], AOper.mk (some 7) (AOp.len (Operand.tmp 6)) none [0],
                AOper.mk (some 8)
                  (AOp.bin BinOp.sub (Operand.tmp 7) (Operand.const (Value.int IntKind.i64 1))) none [1],
                AOper.mk (some 4) (AOp.mv (Operand.tmp 8)) none [2, 0, 1, 2]]
def l39r3 : List AOper :=
  [AOper.mk (some 9) (AOp.mv (Operand.tmp 4)) none [],
                        AOper.mk (some 10)
                          (AOp.bin BinOp.geq (Operand.tmp 9) (Operand.const (Value.int IntKind.i64 0))) none
                          [0]]
def l39r4 : List AOper :=
  [AOper.mk (some 13) (AOp.mv (Operand.tmp 3)) none [],
                          AOper.mk (some 14) (AOp.mv (Operand.tmp 0)) none [],
                          AOper.mk (some 15) (AOp.mv (Operand.tmp 4)) none [],
                          AOper.mk (some 16) (AOp.idxA 1 (Operand.tmp 14) (Operand.tmp 15)) none [1, 2],
                          AOper.mk (some 17) (AOp.load false 1 (Operand.tmp 16)) none [3],
                          AOper.mk (some 18)
                            (AOp.bslice 1 [Value.int IntKind.i64 0] [(0, Operand.tmp 17)] 1) none [4],
                          AOper.mk (some 19) (AOp.append 1 (Operand.tmp 13) (Operand.tmp 18)) none [0, 5],
                          AOper.mk (some 3) (AOp.mv (Operand.tmp 19)) none [6, 6, 0, 1, 2, 3, 4, 5, 6]]
def l39r5 : List AOper :=
  [AOper.mk (some 11) (AOp.mv (Operand.tmp 4)) none [],
                        AOper.mk (some 12)
                          (AOp.bin BinOp.sub (Operand.tmp 11) (Operand.const (Value.int IntKind.i64 1)))
                          none [0],
                        AOper.mk (some 4) (AOp.mv (Operand.tmp 12)) none [1, 0, 1]]
def l39r6 : List AOper :=
  [AOper.mk (some 20) (AOp.mv (Operand.tmp 3)) none [],
                AOper.mk (some 2) (AOp.mv (Operand.tmp 20)) none [0, 0]]
def l39 : AFn :=
  (AFn.mk 21 1
    (ACode.seq (ACode.reg l39r0)
      (ACode.seq
        (ACode.reg l39r1)
        (ACode.seq
          (ACode.seq
            (ACode.reg l39r2)
            (ACode.block 0
              (ACode.loop
                (ACode.seq
                  (ACode.seq
                    (ACode.reg l39r3)
                    (ACode.cond (Operand.tmp 10) ACode.skip (ACode.exit 0)))
                  (ACode.seq
                    (ACode.block 1
                      (ACode.reg l39r4))
                    (ACode.reg l39r5))))))
          (ACode.seq
            (ACode.reg l39r6)
            ACode.ret))))
    [ARes.tmp 2])
theorem l39_eq : lowFn Try.prog 39 = some l39 := by kernel_rfl
def l40r0 : List AOper :=
  [AOper.mk (some 2) (AOp.mv (Operand.const (Value.pointer none))) none []]
def l40r1 : List AOper :=
  [AOper.mk (some 3) (AOp.mv (Operand.tmp 0)) none [], AOper.mk (some 4) (AOp.len (Operand.tmp 3)) none [0],
              AOper.mk (some 5)
                (AOp.bin BinOp.gtr (Operand.tmp 4) (Operand.const (Value.int IntKind.i64 2000))) none [1]]
def l40r2 : List AOper :=
  [AOper.mk (some 6) (AOp.mv (Operand.tmp 0)) none [],
                AOper.mk (some 7)
                  (AOp.slice 1 (Operand.tmp 6) none (some (Operand.const (Value.int IntKind.i64 2000))))
                  none [0],
                AOper.mk (some 0) (AOp.mv (Operand.tmp 7)) none [1, 0, 1]]
def l40r3 : List AOper :=
  [AOper.mk (some 8) (AOp.mv (Operand.tmp 0)) none [],
              AOper.mk (some 9)
                (AOp.build [Value.slice none 0 0, Value.int IntKind.i64 0] [(0, 1, Operand.tmp 8)]) none
                [0],
              AOper.mk (some 10) (AOp.box (Operand.tmp 9)) none [1],
              AOper.mk (some 2) (AOp.mv (Operand.tmp 10)) none [2, 0, 1, 2]]
def l40 : AFn :=
  (AFn.mk 11 1
    (ACode.seq (ACode.reg l40r0)
      (ACode.seq
        (ACode.seq
          (ACode.reg l40r1)
          (ACode.cond (Operand.tmp 5)
            (ACode.reg l40r2)
            ACode.skip))
        (ACode.seq
          (ACode.reg l40r3)
          ACode.ret)))
    [ARes.tmp 2])
theorem l40_eq : lowFn Try.prog 40 = some l40 := by kernel_rfl
def l42r0 : List AOper :=
  [AOper.mk (some 4) (AOp.mv (Operand.const (Value.int IntKind.i64 0))) none []]
def l42r1 : List AOper :=
  [AOper.mk (some 5) (AOp.mv (Operand.tmp 1)) none [], AOper.mk (some 6) (AOp.mv (Operand.tmp 0)) none [],
            AOper.mk (some 7) (AOp.mv (Operand.tmp 1)) none [], AOper.mk (some 8) (AOp.len (Operand.tmp 7)) none [2],
            AOper.mk (some 9) (AOp.call 57 [Operand.tmp 6, Operand.tmp 8]) none [1, 3],
            AOper.mk (some 10) (AOp.idxA 1 (Operand.tmp 5) (Operand.tmp 9)) none [0, 4],
            AOper.mk (some 11) (AOp.load false 1 (Operand.tmp 10)) none [5],
            AOper.mk (some 4) (AOp.mv (Operand.tmp 11)) none [6, 4, 0, 1, 2, 3, 4, 5, 6]]
def l42 : AFn :=
  (AFn.mk 12 2
    (ACode.seq (ACode.reg l42r0)
      (ACode.seq
        (ACode.reg l42r1)
        ACode.ret))
    [ARes.tmp 4])
theorem l42_eq : lowFn Try.prog 42 = some l42 := by kernel_rfl
def l47r0 : List AOper :=
  [AOper.mk (some 6) (AOp.mv (Operand.const (Value.bool false))) none []]
def l47r1 : List AOper :=
  [AOper.mk (some 7) (AOp.mv (Operand.tmp 1)) none [], AOper.mk (some 8) (AOp.mv (Operand.tmp 0)) none [],
            AOper.mk (some 9) (AOp.bin BinOp.leq (Operand.tmp 7) (Operand.tmp 8)) none [0, 1],
            AOper.mk (some 10) (AOp.mv (Operand.tmp 9)) none [2],
            AOper.mk (some 11) (AOp.mv (Operand.tmp 0)) (some (10, true)) [3],
            AOper.mk (some 12) (AOp.mv (Operand.tmp 2)) (some (10, true)) [3],
            AOper.mk (some 13) (AOp.bin BinOp.leq (Operand.tmp 11) (Operand.tmp 12)) (some (10, true)) [4, 5, 3],
            AOper.mk (some 14) (AOp.pick (Operand.tmp 10) (Operand.tmp 13) (Operand.const (Value.bool false))) none
              [3, 6],
            AOper.mk (some 6) (AOp.mv (Operand.tmp 14)) none [7, 3, 0, 1, 2, 3, 4, 5, 6, 7]]
def l47 : AFn :=
  (AFn.mk 15 3
    (ACode.seq (ACode.reg l47r0)
      (ACode.seq
        (ACode.reg l47r1)
        ACode.ret))
    [ARes.tmp 6])
theorem l47_eq : lowFn Try.prog 47 = some l47 := by kernel_rfl
def l52r0 : List AOper :=
  [AOper.mk (some 2) (AOp.mv (Operand.const (Value.slice none 0 0))) none []]
def l52r1 : List AOper :=
  [AOper.mk (some 4) (AOp.mv (Operand.tmp 0)) none [], AOper.mk (some 5) (AOp.call 70 [Operand.tmp 4]) none [0],
            AOper.mk (some 3) (AOp.mv (Operand.tmp 5)) none [1, 1, 0, 1]]
def l52r2 : List AOper :=
  [AOper.mk (some 6) (AOp.mv (Operand.tmp 0)) none [],
                AOper.mk (some 7) (AOp.call 57 [Operand.tmp 6, Operand.const (Value.int IntKind.i64 24)])
                  none [0]]
def l52r3 : List AOper :=
  [AOper.mk (some 9)
                      (AOp.bin BinOp.eql (Operand.tmp 7) (Operand.const (Value.int IntKind.i64 0))) none [],
                    AOper.mk (some 8) (AOp.mv (Operand.tmp 9)) none [0]]
def l52r4 : List AOper :=
  [AOper.mk (some 10) (AOp.mv (Operand.tmp 3)) none [],
                        AOper.mk (some 11) (AOp.mv (Operand.tmp 0)) none [],
                        AOper.mk (some 12)
                          (AOp.bslice 1 [Value.int IntKind.i64 0]
                            [(0, Operand.const (Value.int IntKind.i64 (-1))),
                              (1, Operand.const (Value.int IntKind.i64 61)),
                              (2, Operand.const (Value.int IntKind.i64 40))]
                            3)
                          none [],
                        AOper.mk (some 13) (AOp.call 42 [Operand.tmp 11, Operand.tmp 12]) none [1, 2],
                        AOper.mk (some 14) (AOp.bslice 1 [Value.int IntKind.i64 0] [(0, Operand.tmp 13)] 1)
                          none [3],
                        AOper.mk (some 15) (AOp.append 1 (Operand.tmp 10) (Operand.tmp 14)) none [0, 4, 3],
                        AOper.mk (some 2) (AOp.mv (Operand.tmp 15)) none [5, 5, 0, 1, 2, 3, 4, 5]]
def l52r5 : List AOper :=
  [AOper.mk (some 17)
                          (AOp.bin BinOp.eql (Operand.tmp 7) (Operand.const (Value.int IntKind.i64 1))) none
                          [],
                        AOper.mk (some 16) (AOp.mv (Operand.tmp 17)) none [0]]
def l52r6 : List AOper :=
  [AOper.mk (some 18)
                              (AOp.bslice 1 [Value.int IntKind.i64 0]
                                [(0, Operand.const (Value.int IntKind.i64 1)),
                                  (1, Operand.const (Value.int IntKind.i64 1)),
                                  (2, Operand.const (Value.int IntKind.i64 1)),
                                  (3, Operand.const (Value.int IntKind.i64 1)),
                                  (4, Operand.const (Value.int IntKind.i64 1))]
                                5)
                              none [],
                            AOper.mk (some 2) (AOp.mv (Operand.tmp 18)) none [0, 0]]
def l52r7 : List AOper :=
  [AOper.mk (some 19) (AOp.mv (Operand.tmp 3)) none [],
                AOper.mk (some 2) (AOp.mv (Operand.tmp 19)) none [0, 0]]
def l52 : AFn :=
  (AFn.mk 20 1
    (ACode.seq (ACode.reg l52r0)
      (ACode.seq
        (ACode.reg l52r1)
        (ACode.seq
          (ACode.seq
            (ACode.reg l52r2)
            (ACode.block 0
              (ACode.seq
                (ACode.reg l52r3)
                (ACode.cond (Operand.tmp 8)
                  (ACode.seq
                    (ACode.reg l52r4)
                    ACode.ret)
                  (ACode.seq
                    (ACode.reg l52r5)
                    (ACode.cond (Operand.tmp 16)
                      (ACode.seq
                        (ACode.reg l52r6)
                        ACode.ret)
                      ACode.skip))))))
          (ACode.seq
            (ACode.reg l52r7)
            ACode.ret))))
    [ARes.tmp 2])
theorem l52_eq : lowFn Try.prog 52 = some l52 := by kernel_rfl
def l53r0 : List AOper :=
  [AOper.mk (some 4) (AOp.mv (Operand.const (Value.bool false))) none []]
def l53r1 : List AOper :=
  [AOper.mk (some 5) (AOp.mv (Operand.tmp 0)) none [],
            AOper.mk (some 6) (AOp.bin BinOp.leq (Operand.const (Value.int IntKind.i64 0)) (Operand.tmp 5))
              none [0],
            AOper.mk (some 7) (AOp.mv (Operand.tmp 6)) none [1],
            AOper.mk (some 8) (AOp.mv (Operand.tmp 0)) (some (7, true)) [2],
            AOper.mk (some 9) (AOp.mv (Operand.tmp 1)) (some (7, true)) [2],
            AOper.mk (some 10) (AOp.bin BinOp.leq (Operand.tmp 8) (Operand.tmp 9)) (some (7, true)) [3, 4, 2],
            AOper.mk (some 11) (AOp.pick (Operand.tmp 7) (Operand.tmp 10) (Operand.const (Value.bool false))) none
              [2, 5],
            AOper.mk (some 4) (AOp.mv (Operand.tmp 11)) none [6, 2, 0, 1, 2, 3, 4, 5, 6]]
def l53 : AFn :=
  (AFn.mk 12 2
    (ACode.seq (ACode.reg l53r0)
      (ACode.seq
        (ACode.reg l53r1)
        ACode.ret))
    [ARes.tmp 4])
theorem l53_eq : lowFn Try.prog 53 = some l53 := by kernel_rfl
def l54r0 : List AOper :=
  [AOper.mk (some 2) (AOp.mv (Operand.const (Value.int IntKind.i64 0))) none []]
def l54r1 : List AOper :=
  [AOper.mk (some 3) (AOp.mv (Operand.const (Value.int IntKind.i64 1))) none []]
def l54r2 : List AOper :=
  [AOper.mk (some 6) (AOp.mv (Operand.tmp 0)) none [], AOper.mk (some 7) (AOp.len (Operand.tmp 6)) none [0],
                AOper.mk (some 8) (AOp.mv (Operand.const (Value.int IntKind.i64 0))) none []]
def l54r3 : List AOper :=
  [AOper.mk (some 9) (AOp.bin BinOp.lss (Operand.tmp 8) (Operand.tmp 7)) none []]
def l54r4 : List AOper :=
  [AOper.mk (some 10) (AOp.idxA 1 (Operand.tmp 6) (Operand.tmp 8)) none [],
                              AOper.mk (some 11) (AOp.load false 1 (Operand.tmp 10)) none [0],
                              AOper.mk (some 5) (AOp.mv (Operand.tmp 11)) none [1, 0, 1]]
def l54r5 : List AOper :=
  [AOper.mk (some 12) (AOp.mv (Operand.tmp 3)) none [],
                              AOper.mk (some 13) (AOp.mv (Operand.tmp 5)) none [],
                              AOper.mk (some 14) (AOp.bin BinOp.mul (Operand.tmp 12) (Operand.tmp 13)) none [0, 1],
                              AOper.mk (some 3) (AOp.mv (Operand.tmp 14)) none [2, 0, 1, 2]]
def l54r6 : List AOper :=
  [AOper.mk (some 15)
                            (AOp.bin BinOp.add (Operand.tmp 8) (Operand.const (Value.int IntKind.i64 1)))
                            none [],
                          AOper.mk (some 8) (AOp.mv (Operand.tmp 15)) none [0]]
def l54r7 : List AOper :=
  [AOper.mk (some 16) (AOp.mv (Operand.tmp 3)) none [],
                AOper.mk (some 2) (AOp.mv (Operand.tmp 16)) none [0, 0]]
def l54 : AFn :=
  (AFn.mk 17 1
    (ACode.seq (ACode.reg l54r0)
      (ACode.seq (ACode.reg l54r1)
        (ACode.seq
          (ACode.seq
            (ACode.reg l54r2)
            (ACode.block 0
              (ACode.loop
                (ACode.seq (ACode.reg l54r3)
                  (ACode.seq (ACode.cond (Operand.tmp 9) ACode.skip (ACode.exit 0))
                    (ACode.seq
                      (ACode.block 1
                        (ACode.seq
                          (ACode.reg l54r4)
                          (ACode.reg l54r5)))
                      (ACode.reg l54r6)))))))
          (ACode.seq
            (ACode.reg l54r7)
            ACode.ret))))
    [ARes.tmp 2])
theorem l54_eq : lowFn Try.prog 54 = some l54 := by kernel_rfl
def l55r0 : List AOper :=
  [AOper.mk (some 2) (AOp.mv (Operand.const (Value.bool false))) none []]
def l55r1 : List AOper :=
  [AOper.mk (some 3) (AOp.mv (Operand.tmp 0)) none [], AOper.mk (some 4) (AOp.len (Operand.tmp 3)) none [0],
            AOper.mk (some 5) (AOp.bin BinOp.leq (Operand.tmp 4) (Operand.const (Value.int IntKind.i64 4)))
              none [1],
            AOper.mk (some 6) (AOp.mv (Operand.tmp 5)) none [2],
            AOper.mk (some 7) (AOp.mv (Operand.tmp 0)) (some (6, true)) [3],
            AOper.mk (some 8)
              (AOp.call 71
                [Operand.tmp 7, Operand.const (Value.int IntKind.i64 0),
                  Operand.const (Value.int IntKind.i64 60)])
              (some (6, true)) [4, 3, 3],
            AOper.mk (some 9) (AOp.pick (Operand.tmp 6) (Operand.tmp 8) (Operand.const (Value.bool false))) none [3, 5],
            AOper.mk (some 10) (AOp.mv (Operand.tmp 9)) none [6, 5],
            AOper.mk (some 11) (AOp.mv (Operand.tmp 0)) (some (10, true)) [7],
            AOper.mk (some 12) (AOp.call 56 [Operand.tmp 11]) (some (10, true)) [8, 7, 7],
            AOper.mk (some 13)
              (AOp.bin BinOp.leq (Operand.tmp 12) (Operand.const (Value.int IntKind.i64 60)))
              (some (10, true)) [9, 7],
            AOper.mk (some 14) (AOp.pick (Operand.tmp 10) (Operand.tmp 13) (Operand.const (Value.bool false))) none
              [7, 10],
            AOper.mk (some 2) (AOp.mv (Operand.tmp 14)) none [11, 9, 0, 1, 2, 3, 4, 5, 6, 7, 8, 9, 10, 11]]
def l55 : AFn :=
  (AFn.mk 15 1
    (ACode.seq (ACode.reg l55r0)
      (ACode.seq
        (ACode.reg l55r1)
        ACode.ret))
    [ARes.tmp 2])
theorem l55_eq : lowFn Try.prog 55 = some l55 := by kernel_rfl
def l56r0 : List AOper :=
  [AOper.mk (some 2) (AOp.mv (Operand.const (Value.int IntKind.i64 0))) none []]
def l56r1 : List AOper :=
  [AOper.mk (some 3) (AOp.mv (Operand.const (Value.int IntKind.i64 1))) none []]
def l56r2 : List AOper :=
  [AOper.mk (some 4) (AOp.mv (Operand.const (Value.int IntKind.i64 0))) none []]
def l56r3 : List AOper :=
  [AOper.mk (some 5) (AOp.mv (Operand.tmp 4)) none [],
                        AOper.mk (some 6) (AOp.mv (Operand.tmp 0)) none [],
                        AOper.mk (some 7) (AOp.len (Operand.tmp 6)) none [1],
                        AOper.mk (some 8) (AOp.bin BinOp.lss (Operand.tmp 5) (Operand.tmp 7)) none [0, 2]]
def l56r4 : List AOper :=
  [AOper.mk (some 11) (AOp.mv (Operand.tmp 3)) none [],
                          AOper.mk (some 12) (AOp.mv (Operand.tmp 0)) none [],
                          AOper.mk (some 13) (AOp.mv (Operand.tmp 4)) none [],
                          AOper.mk (some 14) (AOp.idxA 1 (Operand.tmp 12) (Operand.tmp 13)) none [1, 2],
                          AOper.mk (some 15) (AOp.load false 1 (Operand.tmp 14)) none [3],
                          AOper.mk (some 16) (AOp.bin BinOp.mul (Operand.tmp 11) (Operand.tmp 15)) none [0, 4],
                          AOper.mk (some 3) (AOp.mv (Operand.tmp 16)) none [5, 0, 1, 2, 3, 4, 5]]
def l56r5 : List AOper :=
  [AOper.mk (some 9) (AOp.mv (Operand.tmp 4)) none [],
                        AOper.mk (some 10)
                          (AOp.bin BinOp.add (Operand.tmp 9) (Operand.const (Value.int IntKind.i64 1))) none
                          [0],
                        AOper.mk (some 4) (AOp.mv (Operand.tmp 10)) none [1, 0, 1]]
def l56r6 : List AOper :=
  [AOper.mk (some 17) (AOp.mv (Operand.tmp 3)) none [],
                AOper.mk (some 2) (AOp.mv (Operand.tmp 17)) none [0, 0]]
def l56 : AFn :=
  (AFn.mk 18 1
    (ACode.seq (ACode.reg l56r0)
      (ACode.seq (ACode.reg l56r1)
        (ACode.seq
          (ACode.seq
            (ACode.reg l56r2)
            (ACode.block 0
              (ACode.loop
                (ACode.seq
                  (ACode.seq
                    (ACode.reg l56r3)
                    (ACode.cond (Operand.tmp 8) ACode.skip (ACode.exit 0)))
                  (ACode.seq
                    (ACode.block 1
                      (ACode.reg l56r4))
                    (ACode.reg l56r5))))))
          (ACode.seq
            (ACode.reg l56r6)
            ACode.ret))))
    [ARes.tmp 2])
theorem l56_eq : lowFn Try.prog 56 = some l56 := by kernel_rfl
def l57r0 : List AOper :=
  [AOper.mk (some 4) (AOp.mv (Operand.const (Value.int IntKind.i64 0))) none []]
def l57r1 : List AOper :=
  [AOper.mk (some 7) (AOp.mv (Operand.tmp 0)) none [], AOper.mk (some 8) (AOp.mv (Operand.tmp 0)) none [],
            AOper.mk (some 9) (AOp.nilck (Operand.tmp 8)) none [1],
            AOper.mk (some 10) (AOp.fld 1 (Operand.tmp 9)) none [2],
            AOper.mk (some 11) (AOp.load false 1 (Operand.tmp 10)) none [3],
            AOper.mk (some 12)
              (AOp.bin BinOp.add (Operand.tmp 11) (Operand.const (Value.int IntKind.i64 1))) none [4],
            AOper.mk (some 13) (AOp.nilck (Operand.tmp 7)) none [0, 0, 1, 2, 3, 4, 5],
            AOper.mk (some 14) (AOp.fld 1 (Operand.tmp 13)) none [6, 0, 1, 2, 3, 4, 5],
            AOper.mk none (AOp.store 1 (Operand.tmp 14) (Operand.tmp 12)) none [7, 5, 0, 1, 2, 3, 4, 5]]
def l57r2 : List AOper :=
  [AOper.mk (some 15) (AOp.mv (Operand.tmp 1)) none [],
                AOper.mk (some 16)
                  (AOp.bin BinOp.lss (Operand.tmp 15) (Operand.const (Value.int IntKind.i64 1))) none [0],
                AOper.mk (some 17) (AOp.mv (Operand.tmp 16)) none [1],
                AOper.mk (some 18) (AOp.mv (Operand.tmp 0)) (some (17, false)) [2],
                AOper.mk (some 19) (AOp.nilck (Operand.tmp 18)) (some (17, false)) [3, 2],
                AOper.mk (some 20) (AOp.fld 0 (Operand.tmp 19)) (some (17, false)) [4, 2],
                AOper.mk (some 21) (AOp.load false 1 (Operand.tmp 20)) (some (17, false)) [5, 2],
                AOper.mk (some 22) (AOp.len (Operand.tmp 21)) (some (17, false)) [6, 2],
                AOper.mk (some 23)
                  (AOp.bin BinOp.eql (Operand.tmp 22) (Operand.const (Value.int IntKind.i64 0)))
                  (some (17, false)) [7, 2],
                AOper.mk (some 24) (AOp.pick (Operand.tmp 17) (Operand.const (Value.bool true)) (Operand.tmp 23)) none
                  [2, 8]]
def l57r3 : List AOper :=
  [AOper.mk (some 4) (AOp.mv (Operand.const (Value.int IntKind.i64 0))) none []]
def l57r4 : List AOper :=
  [AOper.mk (some 25) (AOp.mv (Operand.tmp 0)) none [],
                AOper.mk (some 26) (AOp.nilck (Operand.tmp 25)) none [0],
                AOper.mk (some 27) (AOp.fld 1 (Operand.tmp 26)) none [1],
                AOper.mk (some 28) (AOp.load false 1 (Operand.tmp 27)) none [2],
                AOper.mk (some 29)
                  (AOp.bin BinOp.sub (Operand.tmp 28) (Operand.const (Value.int IntKind.i64 1))) none [3],
                AOper.mk (some 5) (AOp.mv (Operand.tmp 29)) none [4, 0, 1, 2, 3, 4]]
def l57r5 : List AOper :=
  [AOper.mk (some 30) (AOp.mv (Operand.tmp 5)) none [],
                    AOper.mk (some 31) (AOp.mv (Operand.tmp 0)) none [],
                    AOper.mk (some 32) (AOp.nilck (Operand.tmp 31)) none [1],
                    AOper.mk (some 33) (AOp.fld 0 (Operand.tmp 32)) none [2],
                    AOper.mk (some 34) (AOp.load false 1 (Operand.tmp 33)) none [3],
                    AOper.mk (some 35) (AOp.len (Operand.tmp 34)) none [4],
                    AOper.mk (some 36) (AOp.bin BinOp.lss (Operand.tmp 30) (Operand.tmp 35)) none [0, 5]]
def l57r6 : List AOper :=
  [AOper.mk (some 37) (AOp.mv (Operand.tmp 0)) none [],
                        AOper.mk (some 38) (AOp.nilck (Operand.tmp 37)) none [0],
                        AOper.mk (some 39) (AOp.fld 0 (Operand.tmp 38)) none [1],
                        AOper.mk (some 40) (AOp.load false 1 (Operand.tmp 39)) none [2],
                        AOper.mk (some 41) (AOp.mv (Operand.tmp 5)) none [],
                        AOper.mk (some 42) (AOp.idxA 1 (Operand.tmp 40) (Operand.tmp 41)) none [3, 4],
                        AOper.mk (some 43) (AOp.load false 1 (Operand.tmp 42)) none [5],
                        AOper.mk (some 44) (AOp.conv IntKind.i64 (Operand.tmp 43)) none [6],
                        AOper.mk (some 45) (AOp.mv (Operand.tmp 1)) none [],
                        AOper.mk (some 46) (AOp.bin BinOp.rem (Operand.tmp 44) (Operand.tmp 45)) none [7, 8],
                        AOper.mk (some 4) (AOp.mv (Operand.tmp 46)) none [9, 0, 1, 2, 3, 4, 5, 6, 7, 8, 9]]
def l57r7a : List AOper :=
  [AOper.mk (some 47) (AOp.mv (Operand.tmp 0)) none [], AOper.mk (some 48) (AOp.nilck (Operand.tmp 47)) none [0], AOper.mk (some 49) (AOp.fld 0 (Operand.tmp 48)) none [1], AOper.mk (some 50) (AOp.load false 1 (Operand.tmp 49)) none [2], AOper.mk (some 51) (AOp.mv (Operand.tmp 5)) none [], AOper.mk (some 52) (AOp.mv (Operand.tmp 0)) none [], AOper.mk (some 53) (AOp.nilck (Operand.tmp 52)) none [5], AOper.mk (some 54) (AOp.fld 0 (Operand.tmp 53)) none [6], AOper.mk (some 55) (AOp.load false 1 (Operand.tmp 54)) none [7], AOper.mk (some 56) (AOp.len (Operand.tmp 55)) none [8], AOper.mk (some 57) (AOp.bin BinOp.rem (Operand.tmp 51) (Operand.tmp 56)) none [4, 9], AOper.mk (some 58) (AOp.idxA 1 (Operand.tmp 50) (Operand.tmp 57)) none [3, 10], AOper.mk (some 59) (AOp.load false 1 (Operand.tmp 58)) none [11], AOper.mk (some 60) (AOp.conv IntKind.i64 (Operand.tmp 59)) none [12], AOper.mk (some 61)
                      (AOp.bin BinOp.mul (Operand.tmp 60) (Operand.const (Value.int IntKind.i64 131))) none
                      [13], AOper.mk (some 62) (AOp.mv (Operand.tmp 0)) none [], AOper.mk (some 63) (AOp.nilck (Operand.tmp 62)) none [15], AOper.mk (some 64) (AOp.fld 0 (Operand.tmp 63)) none [16], AOper.mk (some 65) (AOp.load false 1 (Operand.tmp 64)) none [17], AOper.mk (some 66) (AOp.mv (Operand.tmp 5)) none [], AOper.mk (some 67)
                      (AOp.bin BinOp.mul (Operand.tmp 66) (Operand.const (Value.int IntKind.i64 7))) none
                      [19], AOper.mk (some 68)
                      (AOp.bin BinOp.add (Operand.tmp 67) (Operand.const (Value.int IntKind.i64 3))) none
                      [20], AOper.mk (some 69) (AOp.mv (Operand.tmp 0)) none [], AOper.mk (some 70) (AOp.nilck (Operand.tmp 69)) none [22], AOper.mk (some 71) (AOp.fld 0 (Operand.tmp 70)) none [23], AOper.mk (some 72) (AOp.load false 1 (Operand.tmp 71)) none [24], AOper.mk (some 73) (AOp.len (Operand.tmp 72)) none [25], AOper.mk (some 74) (AOp.bin BinOp.rem (Operand.tmp 68) (Operand.tmp 73)) none [21, 26], AOper.mk (some 75) (AOp.idxA 1 (Operand.tmp 65) (Operand.tmp 74)) none [18, 27], AOper.mk (some 76) (AOp.load false 1 (Operand.tmp 75)) none [28], AOper.mk (some 77) (AOp.conv IntKind.i64 (Operand.tmp 76)) none [29], AOper.mk (some 78)
                      (AOp.bin BinOp.mul (Operand.tmp 77) (Operand.const (Value.int IntKind.i64 1117))) none
                      [30], AOper.mk (some 79) (AOp.bin BinOp.add (Operand.tmp 61) (Operand.tmp 78)) none [14, 31], AOper.mk (some 80) (AOp.mv (Operand.tmp 5)) none [], AOper.mk (some 81)
                      (AOp.bin BinOp.mul (Operand.tmp 80) (Operand.const (Value.int IntKind.i64 29))) none
                      [33], AOper.mk (some 82) (AOp.bin BinOp.add (Operand.tmp 79) (Operand.tmp 81)) none [32, 34], AOper.mk (some 83) (AOp.mv (Operand.tmp 5)) none [], AOper.mk (some 84) (AOp.mv (Operand.tmp 0)) none [], AOper.mk (some 85) (AOp.nilck (Operand.tmp 84)) none [37], AOper.mk (some 86) (AOp.fld 0 (Operand.tmp 85)) none [38], AOper.mk (some 87) (AOp.load false 1 (Operand.tmp 86)) none [39], AOper.mk (some 88) (AOp.len (Operand.tmp 87)) none [40], AOper.mk (some 89) (AOp.bin BinOp.quo (Operand.tmp 83) (Operand.tmp 88)) none [36, 41], AOper.mk (some 90)
                      (AOp.bin BinOp.mul (Operand.tmp 89) (Operand.const (Value.int IntKind.i64 53))) none
                      [42]]
def l57r7b : List AOper :=
  [AOper.mk (some 91) (AOp.bin BinOp.add (Operand.tmp 82) (Operand.tmp 90)) none [35, 43], AOper.mk (some 6) (AOp.mv (Operand.tmp 91)) none
                      [44, 0, 1, 2, 3, 4, 5, 6, 7, 8, 9, 10, 11, 12, 13, 14, 15, 16, 17, 18, 19, 20, 21, 22, 23, 24, 25,
                        26, 27, 28, 29, 30, 31, 32, 33, 34, 35, 36, 37, 38, 39, 40, 41, 42, 43, 44]]
def l57r7 : List AOper := l57r7a ++ l57r7b
def l57r8 : List AOper :=
  [AOper.mk (some 92) (AOp.mv (Operand.tmp 6)) none [],
                      AOper.mk (some 93) (AOp.mv (Operand.tmp 6)) none [],
                      AOper.mk (some 94)
                        (AOp.bin BinOp.quo (Operand.tmp 93) (Operand.const (Value.int IntKind.i64 64))) none
                        [1],
                      AOper.mk (some 95) (AOp.bin BinOp.xor (Operand.tmp 92) (Operand.tmp 94)) none [0, 2],
                      AOper.mk (some 6) (AOp.mv (Operand.tmp 95)) none [3, 0, 1, 2, 3]]
def l57r9 : List AOper :=
  [AOper.mk (some 96) (AOp.mv (Operand.tmp 6)) none [],
                        AOper.mk (some 97) (AOp.mv (Operand.tmp 1)) none [],
                        AOper.mk (some 98) (AOp.bin BinOp.rem (Operand.tmp 96) (Operand.tmp 97)) none [0, 1],
                        AOper.mk (some 4) (AOp.mv (Operand.tmp 98)) none [2, 0, 1, 2]]
def l57 : AFn :=
  (AFn.mk 99 2
    (ACode.seq (ACode.reg l57r0)
      (ACode.seq
        (ACode.reg l57r1)
        (ACode.seq
          (ACode.seq
            (ACode.reg l57r2)
            (ACode.cond (Operand.tmp 24)
              (ACode.seq
                (ACode.reg l57r3)
                ACode.ret)
              ACode.skip))
          (ACode.seq
            (ACode.reg l57r4)
            (ACode.seq
              (ACode.seq
                (ACode.reg l57r5)
                (ACode.cond (Operand.tmp 36)
                  (ACode.seq
                    (ACode.reg l57r6)
                    ACode.ret)
                  ACode.skip))
              (ACode.seq
                (ACode.draw l57r7)
                (ACode.seq
                  (ACode.reg l57r8)
                  (ACode.seq
                    (ACode.reg l57r9)
                    ACode.ret))))))))
    [ARes.tmp 4])
theorem l57_eq : lowFn Try.prog 57 = some l57 := by kernel_rfl
def l66r0 : List AOper :=
  [AOper.mk (some 2) (AOp.mv (Operand.const (Value.slice none 0 0))) none []]
def l66r1 : List AOper :=
  [AOper.mk (some 6) (AOp.mv (Operand.tmp 0)) none [], AOper.mk (some 7) (AOp.len (Operand.tmp 6)) none [0],
            AOper.mk (some 8) (AOp.mkslice 1 [Value.int IntKind.i64 0] (Operand.tmp 7) (Operand.tmp 7)) none
              [1, 1],
            AOper.mk (some 3) (AOp.mv (Operand.tmp 8)) none [2, 0, 1, 2]]
def l66r2 : List AOper :=
  [AOper.mk (some 4) (AOp.mv (Operand.const (Value.int IntKind.i64 1))) none []]
def l66r3 : List AOper :=
  [AOper.mk (some 5) (AOp.mv (Operand.const (Value.int IntKind.i64 0))) none []]
def l66r4 : List AOper :=
  [AOper.mk (some 9) (AOp.mv (Operand.tmp 5)) none [],
                          AOper.mk (some 10) (AOp.mv (Operand.tmp 0)) none [],
                          AOper.mk (some 11) (AOp.len (Operand.tmp 10)) none [1],
                          AOper.mk (some 12) (AOp.bin BinOp.lss (Operand.tmp 9) (Operand.tmp 11)) none [0, 2]]
def l66r5 : List AOper :=
  [AOper.mk (some 15) (AOp.mv (Operand.tmp 3)) none [],
                              AOper.mk (some 16) (AOp.mv (Operand.tmp 5)) none [],
                              AOper.mk (some 17) (AOp.mv (Operand.tmp 4)) none [],
                              AOper.mk (some 18) (AOp.idxA 1 (Operand.tmp 15) (Operand.tmp 16)) none [0, 1, 0, 1, 2],
                              AOper.mk none (AOp.store 1 (Operand.tmp 18) (Operand.tmp 17)) none [3, 2, 0, 1, 2]]
def l66r6 : List AOper :=
  [AOper.mk (some 19) (AOp.mv (Operand.tmp 4)) none [],
                              AOper.mk (some 20) (AOp.mv (Operand.tmp 0)) none [],
                              AOper.mk (some 21) (AOp.mv (Operand.tmp 5)) none [],
                              AOper.mk (some 22) (AOp.idxA 1 (Operand.tmp 20) (Operand.tmp 21)) none [1, 2],
                              AOper.mk (some 23) (AOp.load false 1 (Operand.tmp 22)) none [3],
                              AOper.mk (some 24) (AOp.bin BinOp.mul (Operand.tmp 19) (Operand.tmp 23)) none [0, 4],
                              AOper.mk (some 4) (AOp.mv (Operand.tmp 24)) none [5, 0, 1, 2, 3, 4, 5]]
def l66r7 : List AOper :=
  [AOper.mk (some 13) (AOp.mv (Operand.tmp 5)) none [],
                          AOper.mk (some 14)
                            (AOp.bin BinOp.add (Operand.tmp 13) (Operand.const (Value.int IntKind.i64 1)))
                            none [0],
                          AOper.mk (some 5) (AOp.mv (Operand.tmp 14)) none [1, 0, 1]]
def l66r8 : List AOper :=
  [AOper.mk (some 25) (AOp.mv (Operand.tmp 3)) none [],
                  AOper.mk (some 2) (AOp.mv (Operand.tmp 25)) none [0, 0]]
def l66 : AFn :=
  (AFn.mk 26 1
    (ACode.seq (ACode.reg l66r0)
      (ACode.seq
        (ACode.reg l66r1)
        (ACode.seq
          (ACode.reg l66r2)
          (ACode.seq
            (ACode.seq
              (ACode.reg l66r3)
              (ACode.block 0
                (ACode.loop
                  (ACode.seq
                    (ACode.seq
                      (ACode.reg l66r4)
                      (ACode.cond (Operand.tmp 12) ACode.skip (ACode.exit 0)))
                    (ACode.seq
                      (ACode.block 1
                        (ACode.seq
                          (ACode.reg l66r5)
                          (ACode.reg l66r6)))
                      (ACode.reg l66r7))))))
            (ACode.seq
              (ACode.reg l66r8)
              ACode.ret)))))
    [ARes.tmp 2])
theorem l66_eq : lowFn Try.prog 66 = some l66 := by kernel_rfl
def l70r0 : List AOper :=
  [AOper.mk (some 2) (AOp.mv (Operand.const (Value.slice none 0 0))) none []]
def l70r1 : List AOper :=
  [AOper.mk (some 6) (AOp.bslice 1 [Value.int IntKind.i64 0] [] 0) none [],
            AOper.mk (some 3) (AOp.mv (Operand.tmp 6)) none [0, 0]]
def l70r2 : List AOper :=
  [AOper.mk (some 7) (AOp.mv (Operand.tmp 0)) none [],
                AOper.mk (some 8)
                  (AOp.bslice 1 [Value.int IntKind.i64 0]
                    [(0, Operand.const (Value.int IntKind.i64 2)),
                      (1, Operand.const (Value.int IntKind.i64 1)),
                      (2, Operand.const (Value.int IntKind.i64 3)),
                      (3, Operand.const (Value.int IntKind.i64 2)),
                      (4, Operand.const (Value.int IntKind.i64 0)),
                      (5, Operand.const (Value.int IntKind.i64 4))]
                    6)
                  none [],
                AOper.mk (some 9) (AOp.call 42 [Operand.tmp 7, Operand.tmp 8]) none [0, 1],
                AOper.mk (some 4) (AOp.mv (Operand.tmp 9)) none [2, 2, 0, 1, 2]]
def l70r3 : List AOper :=
  [AOper.mk (some 10) (AOp.mv (Operand.tmp 4)) none [],
                        AOper.mk (some 11)
                          (AOp.bin BinOp.gtr (Operand.tmp 10) (Operand.const (Value.int IntKind.i64 0)))
                          none [0]]
def l70r4 : List AOper :=
  [AOper.mk (some 14) (AOp.mv (Operand.tmp 0)) none [],
                            AOper.mk (some 15)
                              (AOp.bslice 1 [Value.int IntKind.i64 0]
                                [(0, Operand.const (Value.int IntKind.i64 2)),
                                  (1, Operand.const (Value.int IntKind.i64 3)),
                                  (2, Operand.const (Value.int IntKind.i64 1)),
                                  (3, Operand.const (Value.int IntKind.i64 4)),
                                  (4, Operand.const (Value.int IntKind.i64 2)),
                                  (5, Operand.const (Value.int IntKind.i64 3)),
                                  (6, Operand.const (Value.int IntKind.i64 5)),
                                  (7, Operand.const (Value.int IntKind.i64 0))]
                                8)
                              none [],
                            AOper.mk (some 16) (AOp.call 42 [Operand.tmp 14, Operand.tmp 15]) none [0, 1],
                            AOper.mk (some 5) (AOp.mv (Operand.tmp 16)) none [2, 2, 0, 1, 2]]
def l70r5 : List AOper :=
  [AOper.mk (some 17) (AOp.mv (Operand.tmp 3)) none [],
                              AOper.mk (some 18) (AOp.call 56 [Operand.tmp 17]) none [0],
                              AOper.mk (some 19) (AOp.mv (Operand.tmp 5)) none [],
                              AOper.mk (some 20) (AOp.bin BinOp.mul (Operand.tmp 18) (Operand.tmp 19)) none [1, 2],
                              AOper.mk (some 21)
                                (AOp.bin BinOp.leq (Operand.tmp 20)
                                  (Operand.const (Value.int IntKind.i64 60)))
                                none [3]]
def l70r6 : List AOper :=
  [AOper.mk (some 22) (AOp.mv (Operand.tmp 3)) none [],
                                AOper.mk (some 23) (AOp.mv (Operand.tmp 5)) none [],
                                AOper.mk (some 24)
                                  (AOp.bslice 1 [Value.int IntKind.i64 0] [(0, Operand.tmp 23)] 1) none [1],
                                AOper.mk (some 25) (AOp.append 1 (Operand.tmp 22) (Operand.tmp 24)) none [0, 2],
                                AOper.mk (some 3) (AOp.mv (Operand.tmp 25)) none [3, 3, 0, 1, 2, 3]]
def l70r7 : List AOper :=
  [AOper.mk (some 12) (AOp.mv (Operand.tmp 4)) none [],
                        AOper.mk (some 13)
                          (AOp.bin BinOp.sub (Operand.tmp 12) (Operand.const (Value.int IntKind.i64 1)))
                          none [0],
                        AOper.mk (some 4) (AOp.mv (Operand.tmp 13)) none [1, 0, 1]]
def l70r8 : List AOper :=
  [AOper.mk (some 26) (AOp.mv (Operand.tmp 3)) none [],
                AOper.mk (some 2) (AOp.mv (Operand.tmp 26)) none [0, 0]]
def l70 : AFn :=
  (AFn.mk 27 1
    (ACode.seq (ACode.reg l70r0)
      (ACode.seq
        (ACode.reg l70r1)
        (ACode.seq
          (ACode.seq
            (ACode.reg l70r2)
            (ACode.block 0
              (ACode.loop
                (ACode.seq
                  (ACode.seq
                    (ACode.reg l70r3)
                    (ACode.cond (Operand.tmp 11) ACode.skip (ACode.exit 0)))
                  (ACode.seq
                    (ACode.block 1
                      (ACode.seq
                        (ACode.reg l70r4)
                        (ACode.seq
                          (ACode.reg l70r5)
                          (ACode.cond (Operand.tmp 21)
                            (ACode.reg l70r6)
                            ACode.skip))))
                    (ACode.reg l70r7))))))
          (ACode.seq
            (ACode.reg l70r8)
            ACode.ret))))
    [ARes.tmp 2])
theorem l70_eq : lowFn Try.prog 70 = some l70 := by kernel_rfl
def l71r0 : List AOper :=
  [AOper.mk (some 6) (AOp.mv (Operand.const (Value.bool false))) none []]
def l71r1 : List AOper :=
  [AOper.mk (some 7) (AOp.mv (Operand.const (Value.int IntKind.i64 0))) none []]
def l71r2 : List AOper :=
  [AOper.mk (some 8) (AOp.mv (Operand.tmp 7)) none [],
                      AOper.mk (some 9) (AOp.mv (Operand.tmp 0)) none [],
                      AOper.mk (some 10) (AOp.len (Operand.tmp 9)) none [1],
                      AOper.mk (some 11) (AOp.bin BinOp.lss (Operand.tmp 8) (Operand.tmp 10)) none [0, 2]]
def l71r3 : List AOper :=
  [AOper.mk (some 14) (AOp.mv (Operand.tmp 0)) none [],
                          AOper.mk (some 15) (AOp.mv (Operand.tmp 7)) none [],
                          AOper.mk (some 16) (AOp.idxA 1 (Operand.tmp 14) (Operand.tmp 15)) none [0, 1],
                          AOper.mk (some 17) (AOp.load false 1 (Operand.tmp 16)) none [2],
                          AOper.mk (some 18) (AOp.mv (Operand.tmp 1)) none [],
                          AOper.mk (some 19) (AOp.mv (Operand.tmp 2)) none [],
                          AOper.mk (some 20) (AOp.call 47 [Operand.tmp 17, Operand.tmp 18, Operand.tmp 19]) none
                            [3, 4, 5],
                          AOper.mk (some 21) (AOp.un UnOp.not (Operand.tmp 20)) none [6]]
def l71r4 : List AOper :=
  [AOper.mk (some 6) (AOp.mv (Operand.const (Value.bool false))) none []]
def l71r5 : List AOper :=
  [AOper.mk (some 12) (AOp.mv (Operand.tmp 7)) none [],
                      AOper.mk (some 13)
                        (AOp.bin BinOp.add (Operand.tmp 12) (Operand.const (Value.int IntKind.i64 1))) none
                        [0],
                      AOper.mk (some 7) (AOp.mv (Operand.tmp 13)) none [1, 0, 1]]
def l71r6 : List AOper :=
  [AOper.mk (some 6) (AOp.mv (Operand.const (Value.bool true))) none []]
def l71 : AFn :=
  (AFn.mk 22 3
    (ACode.seq (ACode.reg l71r0)
      (ACode.seq
        (ACode.seq
          (ACode.reg l71r1)
          (ACode.block 0
            (ACode.loop
              (ACode.seq
                (ACode.seq
                  (ACode.reg l71r2)
                  (ACode.cond (Operand.tmp 11) ACode.skip (ACode.exit 0)))
                (ACode.seq
                  (ACode.block 1
                    (ACode.seq
                      (ACode.reg l71r3)
                      (ACode.cond (Operand.tmp 21)
                        (ACode.seq (ACode.reg l71r4)
                          ACode.ret)
                        ACode.skip)))
                  (ACode.reg l71r5))))))
        (ACode.seq (ACode.reg l71r6) ACode.ret)))
    [ARes.tmp 6])
theorem l71_eq : lowFn Try.prog 71 = some l71 := by kernel_rfl
end Go.Proofs.Ytjhamlapjiadaaa
