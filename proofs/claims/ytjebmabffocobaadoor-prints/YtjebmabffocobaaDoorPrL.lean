/-
  The text of resources, as a function of them.
-/
import Derived.Test.YtjebmabffocobaaDoorBase
import Derived.Lib.ItoaNum
import Derived.Lib.Join
namespace Go.Proofs.YtjebmabffocobaaDoor
open Go.RowKit

/-- A byte within quotes. -/
def escL (c : UInt8) : List UInt8 := if c = 92 ∨ c = 34 then [92, c] else if c = 10 then [92, 110] else [c]
def quoteL (l : List UInt8) : List UInt8 := 34 :: (l.flatMap escL ++ [34])
/-- A value as text. -/
def valueL (x : Attrd) : List UInt8 := if x.isText then quoteL x.text.data.toList else Lib.itoa x.number
/-- Refs, as they stand in brackets. -/
def refL (x : IDd) : ByteArray := ⟨(x.kind.data.toList ++ 46 :: x.name.data.toList).toArray⟩
def refsL (l : List IDd) : List UInt8 := Lib.join (l.map fun x => (refL x).data.toList) [44, 32]
def resW : List UInt8 := [114, 101, 115, 111, 117, 114, 99, 101, 32]
def attrP (a : Attrd) : List UInt8 := [32, 32] ++ a.name.data.toList ++ [32, 61, 32] ++ valueL a ++ [10]
def afterP (l : List IDd) : List UInt8 := if l.isEmpty then [] else [32, 32, 97, 102, 116, 101, 114, 32, 61, 32, 91] ++ refsL l ++ [93, 10]
def headL (x : IDd) : List UInt8 := resW ++ x.kind.data.toList ++ [32] ++ x.name.data.toList ++ [32, 123, 10]
def resL (x : Resd) : List UInt8 := headL x.id ++ x.attrs.flatMap attrP ++ afterP x.after ++ [125, 10]
def printL (l : List Resd) : List UInt8 := l.flatMap resL
end Go.Proofs.YtjebmabffocobaaDoor
