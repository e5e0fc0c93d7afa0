/-
  Add
-/
import Derived.Test.YtmikbkggjlbbnaaGreatRows
import Derived.WalkKit
import Derived.ProofKit
import Derived.OpenShut
import Derived.BigQuiet
import Derived.Deep.QuietTactic
import Derived.Lib.Hide
import Derived.Lib.Mul64
import Derived.Lib.BitFns
import Derived.Lib.Strings
import Derived.Lib.Slices
import Derived.Lib.Small
import Derived.Lib.Walk
import Derived.Laws.Bits64b
namespace Go.Proofs.YtmikbkggjlbbnaaGreat
open Go.ChangeShapes Go.WideShapes Go.ChangeAt Go.RowKit
open Lib (hid)
set_option linter.unusedVariables false
namespace Num

def inB (a:Int):Bool:=decide (-9223372036854775808≤a∧a≤9223372036854775807)
def valV (x:Int):Int:=if inB x then x else 0
def valE (x:Int):Int:=if inB x then 0 else 3

theorem valV_in {x:Int} (h0:-9223372036854775808≤x) (h1:x≤9223372036854775807):valV x=x:=by
 unfold valV inB;rw [if_pos (decide_eq_true ⟨h0,h1⟩)]
theorem valE_in {x:Int} (h0:-9223372036854775808≤x) (h1:x≤9223372036854775807):valE x=0:=by
 unfold valE inB;rw [if_pos (decide_eq_true ⟨h0,h1⟩)]
theorem valV_out {x:Int} (h:x < -9223372036854775808∨9223372036854775807<x):valV x=0:=by
 unfold valV inB;rw [if_neg (by simp;omega)]
theorem valE_out {x:Int} (h:x < -9223372036854775808∨9223372036854775807<x):valE x=3:=by
 unfold valE inB;rw [if_neg (by simp;omega)]
theorem ret2 {a b c d:Int} (h1:a=c) (h2:b=d):Ending.returned (.tuple #[.int .i64 a,.int .i64 b])=.returned (.tuple #[.int .i64 c,.int .i64 d]):=by rw [h1,h2]

theorem add_any (a b:Int) (w:World) (ha:-9223372036854775808≤a) (ha':a≤9223372036854775807) (hb:-9223372036854775808≤b) (hb':b≤9223372036854775807) :
  Calls Tryz.prog 69 #[.int .i64 a,.int .i64 b] w fun e w'=>e=.returned (.tuple #[.int .i64 (valV (a+b)),.int .i64 (valE (a+b))])∧w=w':=by
 by_cases hi:-9223372036854775808≤a+b∧a+b≤9223372036854775807
 ·obtain ⟨h0,h1⟩:=hi
  by_cases c:b<0
  ·have c2:a+b<a:=by omega
   go_enter Tryz.func69,Tryz.ntmps69
   go_wp2
   go_ret2
   exact ⟨ret2 (valV_in h0 h1).symm (valE_in h0 h1).symm,rfl⟩
  ·have c2:¬ a+b<a:=by omega
   go_enter Tryz.func69,Tryz.ntmps69
   go_wp2
   go_ret2
   exact ⟨ret2 (valV_in h0 h1).symm (valE_in h0 h1).symm,rfl⟩
 ·have ho:a+b < -9223372036854775808∨9223372036854775807<a+b:=by omega
  have hw:(decide (wrap64 (a+b)<a) == decide (b<0))=false:=by unfold wrap64;simp;omega
  have e1:=valV_out ho
  have e2:=valE_out ho
  have E1:=hid e1
  have E2:=hid e2
  clear e1 e2 hi
  go_enter Tryz.func69,Tryz.ntmps69
  go_wp2
  go_ret2
  exact ⟨ret2 E1.out.symm E2.out.symm,rfl⟩

end Num
end Go.Proofs.YtmikbkggjlbbnaaGreat
