/- The walks of the document's Writes, and of Safe of both. -/
import Derived.Test.YtkgicalkcbagaaaInT
namespace Go.Proofs.Ytkgicalkcbagaaa
open Go.RowKit

/-- An instruction. -/
structure Ins where
  o : Int
  a : Int
  b : Int
  c : Int
def Ins.v (i : Ins) : Value := .agg #[.int .i64 i.o, .int .i64 i.a, .int .i64 i.b, .int .i64 i.c]

def wrB (op : Int) : Bool := (ro op).1 == 3

def sfB (op : Int) : Bool := op == 13 || op == 21 || op == 9 || op == 10 || op == 28 || op == 22
end Go.Proofs.Ytkgicalkcbagaaa
