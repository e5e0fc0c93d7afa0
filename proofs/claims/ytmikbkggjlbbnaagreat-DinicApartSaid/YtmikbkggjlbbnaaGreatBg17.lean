/-
  Log
-/
import Derived.Test.YtmikbkggjlbbnaaGreatRows
import Derived.WalkKit
import Derived.ProofKit
import Derived.OpenShut
import Derived.BigQuiet
import Derived.Deep.QuietTactic
import Derived.Lib.Hide
import Derived.Lib.Mul64
import Derived.Lib.BitFns
import Derived.Lib.Strings
import Derived.Lib.Slices
import Derived.Lib.Small
import Derived.Lib.Walk
import Derived.Laws.Bits64b
import Derived.Lib.ItoaNum
import Derived.Deep.Light
namespace Go.Proofs.YtmikbkggjlbbnaaGreat
open Go.ChangeShapes Go.WideShapes Go.ChangeAt Go.RowKit
open Lib (hid)
set_option linter.unusedVariables false
namespace Num
theorem retL {k:IntKind} {a b:Int} (h:a=b):Ending.returned (.int k a)=.returned (.int k b):=by rw [h]
def lenF (n:Nat):Nat:=Lib.bitLen n
theorem lenF_bounds (n:Nat) (h:n<18446744073709551616) (h0:n≠0):1≤lenF n∧2 ^ (lenF n-1)≤n∧n<2 ^ lenF n :=
 Lib.bitLenAux_bounds 64 n h h0
theorem lenF_le (n k:Nat) (hk:k≤64) (h:n<2 ^ k):lenF n≤k:=Lib.bitLen_le n k hk h

set_option maxRecDepth 100000 in
theorem tab_size:(Lib.len8tab.size:Int)=256:=by
 have:Lib.len8tab.size=256:=by decide
 omega
theorem wrap_add (k a b:Nat) (hk:k≤56) (ha:a≤8) (hb:b=k+a):wrap64 ((k:Int)+wrap64 (a:Int))=(b:Int):=by
 unfold wrap64
 omega
theorem wrap_wrap (a:Nat) (ha:a≤8):wrap64 (wrap64 (a:Int))=(a:Int):=by
 unfold wrap64
 omega
theorem len8_get (y:Int) (h:y.toNat<Lib.len8tab.size):((Lib.len8tab[y.toNat]'h).toNat:Int)=Lib.len8 y:=by
 unfold Lib.len8
 rw [getElem?_pos Lib.len8tab y.toNat h]
 rfl
set_option maxHeartbeats 32000000 in
set_option maxRecDepth 1000000 in
theorem len64_any (x:Int) (w:World) (h0:0≤x) (h1:x≤18446744073709551615) :
  Calls Tryz.prog 47 #[.int .u64 x] w fun e w'=>e=.returned (.int .i64 (lenF x.toNat))∧w=w':=by
 unfold lenF
 go_enter Tryz.func47,Tryz.ntmps47
 go_wp2
 all_goals first
  | (go_ret;refine ⟨congrArg Ending.returned (congrArg (Value.int IntKind.i64) ?_),rfl⟩;go_light)
  | (exfalso
     go_light
     have hs:=tab_size
     omega)
 all_goals first
  | (rw [len8_get (x / 4294967296 / 65536 / 256) _,Lib.len8_of (x / 4294967296 / 65536 / 256) (by omega) (by omega)]
     have e:(x / 4294967296 / 65536 / 256).toNat=x.toNat / 72057594037927936:=by omega
     have l:=Lib.bitLen_le8' (x / 4294967296 / 65536 / 256) (by omega) (by omega)
     have s:=Lib.bitLen_shift56 x.toNat (by omega) (by omega)
     rw [e] at l ⊢
     exact wrap_add 56 _ _ (by decide) l s)
  | (rw [len8_get (x / 4294967296 / 65536) _,Lib.len8_of (x / 4294967296 / 65536) (by omega) (by omega)]
     have e:(x / 4294967296 / 65536).toNat=x.toNat / 281474976710656:=by omega
     have l:=Lib.bitLen_le8' (x / 4294967296 / 65536) (by omega) (by omega)
     have s:=Lib.bitLen_shift48 x.toNat (by omega) (by omega)
     rw [e] at l ⊢
     exact wrap_add 48 _ _ (by decide) l s)
  | (rw [len8_get (x / 4294967296 / 256) _,Lib.len8_of (x / 4294967296 / 256) (by omega) (by omega)]
     have e:(x / 4294967296 / 256).toNat=x.toNat / 1099511627776:=by omega
     have l:=Lib.bitLen_le8' (x / 4294967296 / 256) (by omega) (by omega)
     have s:=Lib.bitLen_shift40 x.toNat (by omega) (by omega)
     rw [e] at l ⊢
     exact wrap_add 40 _ _ (by decide) l s)
  | (rw [len8_get (x / 4294967296) _,Lib.len8_of (x / 4294967296) (by omega) (by omega)]
     have e:(x / 4294967296).toNat=x.toNat / 4294967296:=by omega
     have l:=Lib.bitLen_le8' (x / 4294967296) (by omega) (by omega)
     have s:=Lib.bitLen_shift32 x.toNat (by omega) (by omega)
     rw [e] at l ⊢
     exact wrap_add 32 _ _ (by decide) l s)
  | (rw [len8_get (x / 65536 / 256) _,Lib.len8_of (x / 65536 / 256) (by omega) (by omega)]
     have e:(x / 65536 / 256).toNat=x.toNat / 16777216:=by omega
     have l:=Lib.bitLen_le8' (x / 65536 / 256) (by omega) (by omega)
     have s:=Lib.bitLen_shift24 x.toNat (by omega) (by omega)
     rw [e] at l ⊢
     exact wrap_add 24 _ _ (by decide) l s)
  | (rw [len8_get (x / 65536) _,Lib.len8_of (x / 65536) (by omega) (by omega)]
     have e:(x / 65536).toNat=x.toNat / 65536:=by omega
     have l:=Lib.bitLen_le8' (x / 65536) (by omega) (by omega)
     have s:=Lib.bitLen_shift16 x.toNat (by omega) (by omega)
     rw [e] at l ⊢
     exact wrap_add 16 _ _ (by decide) l s)
  | (rw [len8_get (x / 256) _,Lib.len8_of (x / 256) (by omega) (by omega)]
     have e:(x / 256).toNat=x.toNat / 256:=by omega
     have l:=Lib.bitLen_le8' (x / 256) (by omega) (by omega)
     have s:=Lib.bitLen_shift8 x.toNat (by omega) (by omega)
     rw [e] at l ⊢
     exact wrap_add 8 _ _ (by decide) l s)
  | (rw [len8_get x _,Lib.len8_of x (by omega) (by omega)]
     have l:=Lib.bitLen_le8' x (by omega) (by omega)
     exact wrap_wrap _ l)

def logF (n:Int):Int:=if n<2 then 0 else (lenF (n-1).toNat:Int)
theorem logF_lo {n:Int} (h:n<2):logF n=0:=by unfold logF;rw [if_pos h]
theorem pc (k:Nat):(((2:Nat) ^ k:Nat):Int)=(2:Int) ^ k:=Int.natCast_pow 2 k
theorem logF_spec (n:Int) (h0:2≤n) (h1:n≤9223372036854775807):∃ k:Nat,logF n=k∧1≤k∧k≤63∧n≤2 ^ k∧2 ^ (k-1)<n:=by
 refine ⟨lenF (n-1).toNat,by unfold logF;rw [if_neg (by omega)],?_⟩
 obtain ⟨b1,b2,b3⟩:=lenF_bounds (n-1).toNat (by omega) (by omega)
 have b4:=lenF_le (n-1).toNat 63 (by omega) (by omega)
 generalize lenF (n-1).toNat=L at *
 have e1:=pc L
 have e2:=pc (L-1)
 generalize (2:Nat) ^ L=p1 at *
 generalize (2:Nat) ^ (L-1)=p2 at *
 refine ⟨b1,b4,by omega,by omega⟩
theorem log_any (n:Int) (w:World) (h0:-9223372036854775808≤n) (h1:n≤9223372036854775807) :
  Calls Tryz.prog 35 #[.int .i64 n] w fun e w'=>e=.returned (.int .i64 (logF n))∧w=w':=by
 by_cases c:n<2
 ·have E:=hid (logF_lo c)
  go_enter Tryz.func35,Tryz.ntmps35
  go_wp2
  go_ret
  exact ⟨retL E.out.symm,rfl⟩
 ·have E:=hid (show logF n=(lenF (n.toNat-1):Int) by unfold logF;rw [if_neg c];congr 2;omega)
  go_enter Tryz.func35,Tryz.ntmps35
  go_wp2_with (go_at_call 47;refine (len64_any _ _ (by omega) (by omega)).mono ?_;rintro e w' ⟨rfl,rfl⟩)
  go_ret
  exact ⟨retL E.out.symm,rfl⟩

end Num
end Go.Proofs.YtmikbkggjlbbnaaGreat
