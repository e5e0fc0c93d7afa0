/-
  Log
-/
import Derived.Test.YtmikbkggjlbbnaaGreatRows
import Derived.WalkKit
import Derived.ProofKit
import Derived.OpenShut
import Derived.BigQuiet
import Derived.Deep.QuietTactic
import Derived.Lib.Hide
import Derived.Lib.Mul64
import Derived.Lib.BitFns
import Derived.Lib.Strings
import Derived.Lib.Slices
import Derived.Lib.Small
import Derived.Lib.Walk
import Derived.Laws.Bits64b
import Derived.Lib.ItoaNum
import Derived.Deep.Light
namespace Go.Proofs.YtmikbkggjlbbnaaGreat
open Go.ChangeShapes Go.WideShapes Go.ChangeAt Go.RowKit
open Lib (hid)
set_option linter.unusedVariables false
namespace Num
def lenF (n:Nat):Nat:=Lib.bitLen n
theorem lenF_bounds (n:Nat) (h:n<18446744073709551616) (h0:n≠0):1≤lenF n∧2 ^ (lenF n-1)≤n∧n<2 ^ lenF n :=
 Lib.bitLenAux_bounds 64 n h h0
theorem lenF_le (n k:Nat) (hk:k≤64) (h:n<2 ^ k):lenF n≤k:=Lib.bitLen_le n k hk h

def logF (n:Int):Int:=if n<2 then 0 else (lenF (n-1).toNat:Int)
theorem pc (k:Nat):(((2:Nat) ^ k:Nat):Int)=(2:Int) ^ k:=Int.natCast_pow 2 k
theorem logF_spec (n:Int) (h0:2≤n) (h1:n≤9223372036854775807):∃ k:Nat,logF n=k∧1≤k∧k≤63∧n≤2 ^ k∧2 ^ (k-1)<n:=by
 refine ⟨lenF (n-1).toNat,by unfold logF;rw [if_neg (by omega)],?_⟩
 obtain ⟨b1,b2,b3⟩:=lenF_bounds (n-1).toNat (by omega) (by omega)
 have b4:=lenF_le (n-1).toNat 63 (by omega) (by omega)
 generalize lenF (n-1).toNat=L at *
 have e1:=pc L
 have e2:=pc (L-1)
 generalize (2:Nat) ^ L=p1 at *
 generalize (2:Nat) ^ (L-1)=p2 at *
 refine ⟨b1,b4,by omega,by omega⟩
end Num
end Go.Proofs.YtmikbkggjlbbnaaGreat
