/- The contracts of record's small functions, of the document's, and of the ranges over lists that they call. -/
import Derived.Test.YtleikbpikmineaaLib
import Derived.Test.YtleikbpikmineaaReg
namespace Go.Proofs.Ytleikbpikmineaa.Record
open Go.RowKit Go.Sort

def beyB (n a b : Int) : Bool := decide (n < a) || decide (b < n)
def bigB (n : Int) : Bool := beyB n (-268435456) 268435456

def sideB (k s : Int) : Bool := if k = 2 then decide (s = 1) || decide (s = 2) else decide (s = 0)

def leastH (k : Int) : Int := if k = 5 then 0 else -1
def leastW (k : Int) : Int := if k = 2 then 0 else leastH k

def openB (k : Int) : Bool := decide (k = 2) || decide (k = 3)
def holdsB (k : Int) : Bool := decide (k = 1) || openB k
def fitsB (p c : Int) : Bool :=
  if c = 1 ∨ c = 3 ∨ c = 4 then holdsB p else if c = 2 then holdsB p || decide (p = 4) else if c = 5 then decide (p = 4) else false

end Go.Proofs.Ytleikbpikmineaa.Record
