/-
  Log, Pw2, Nfl, Scl, Scm, Scq, Rgi
-/
import Derived.Test.YtoadkckceladgaaGreatRows
import Derived.WalkKit
import Derived.ProofKit
import Derived.OpenShut
import Derived.BigQuiet
import Derived.Deep.QuietTactic
import Derived.Lib.Hide
import Derived.Lib.Mul64
import Derived.Lib.BitFns
import Derived.Lib.Strings
import Derived.Lib.Slices
import Derived.Lib.Small
import Derived.Lib.Walk
import Derived.Laws.Bits64b
import Derived.Lib.ItoaNum
import Derived.Deep.Light
import Derived.Test.YtoadkckceladgaaGreatBb18
import Derived.Test.YtoadkckceladgaaGreatBb7
import Derived.RangeFuncWrites
import Derived.RangeFuncNested
import Derived.RangeFuncBound
import Derived.RangeFuncCalls
import Derived.RangeFuncBox
import Derived.RangeFuncLeaves
import Derived.Shelf.Abstract
import Derived.Shelf.RegionOpen
import Derived.OwnWalkIn
import Derived.TacticsInMore
import Derived.LoopNIn
import Derived.LoopIn
import Derived.Maps.AppendAt
import Derived.OrdersIn
import Derived.Test.YtoadkckceladgaaGreatBb1
set_option linter.unusedVariables false
set_option linter.unusedSimpArgs false
set_option maxRecDepth 100000
set_option maxHeartbeats 4000000
namespace Go.Proofs.YtoadkckceladgaaGreat
open Go.ChangeShapes Go.WideShapes Go.ChangeAt Go.RowKit
open Lib (hid)
namespace Num
theorem retL {k:IntKind} {a b:Int} (h:a=b):Ending.returned (.int k a)=.returned (.int k b):=by rw [h]
def lenF (n:Nat):Nat:=Lib.bitLen n
theorem lenF_bounds (n:Nat) (h:n<18446744073709551616) (h0:n≠0):1≤lenF n∧2 ^ (lenF n-1)≤n∧n<2 ^ lenF n :=
 Lib.bitLenAux_bounds 64 n h h0
theorem lenF_le (n k:Nat) (hk:k≤64) (h:n<2 ^ k):lenF n≤k:=Lib.bitLen_le n k hk h

theorem tab_size:(Lib.len8tab.size:Int)=256:=by
 have:Lib.len8tab.size=256:=by decide
 omega
theorem wrap_add (k a b:Nat) (hk:k≤56) (ha:a≤8) (hb:b=k+a):wrap64 ((k:Int)+wrap64 (a:Int))=(b:Int):=by
 unfold wrap64
 omega
theorem wrap_wrap (a:Nat) (ha:a≤8):wrap64 (wrap64 (a:Int))=(a:Int):=by
 unfold wrap64
 omega
theorem len8_get (y:Int) (h:y.toNat<Lib.len8tab.size):((Lib.len8tab[y.toNat]'h).toNat:Int)=Lib.len8 y:=by
 unfold Lib.len8
 rw [getElem?_pos Lib.len8tab y.toNat h]
 rfl
set_option maxHeartbeats 32000000 in
set_option maxRecDepth 1000000 in
theorem len64_any (x:Int) (w:World) (h0:0≤x) (h1:x≤18446744073709551615) :
  Calls Tryz.prog 39 #[.int .u64 x] w fun e w'=>e=.returned (.int .i64 (lenF x.toNat))∧w=w':=by
 unfold lenF
 go_enter Tryz.func39,Tryz.ntmps39
 go_wp2
 all_goals first
  | (go_ret;refine ⟨congrArg Ending.returned (congrArg (Value.int IntKind.i64) ?_),rfl⟩;go_light)
  | (exfalso
     go_light
     have hs:=tab_size
     omega)
 all_goals first
  | (rw [len8_get (x / 4294967296 / 65536 / 256) _,Lib.len8_of (x / 4294967296 / 65536 / 256) (by omega) (by omega)]
     have e:(x / 4294967296 / 65536 / 256).toNat=x.toNat / 72057594037927936:=by omega
     have l:=Lib.bitLen_le8' (x / 4294967296 / 65536 / 256) (by omega) (by omega)
     have s:=Lib.bitLen_shift56 x.toNat (by omega) (by omega)
     rw [e] at l ⊢
     exact wrap_add 56 _ _ (by decide) l s)
  | (rw [len8_get (x / 4294967296 / 65536) _,Lib.len8_of (x / 4294967296 / 65536) (by omega) (by omega)]
     have e:(x / 4294967296 / 65536).toNat=x.toNat / 281474976710656:=by omega
     have l:=Lib.bitLen_le8' (x / 4294967296 / 65536) (by omega) (by omega)
     have s:=Lib.bitLen_shift48 x.toNat (by omega) (by omega)
     rw [e] at l ⊢
     exact wrap_add 48 _ _ (by decide) l s)
  | (rw [len8_get (x / 4294967296 / 256) _,Lib.len8_of (x / 4294967296 / 256) (by omega) (by omega)]
     have e:(x / 4294967296 / 256).toNat=x.toNat / 1099511627776:=by omega
     have l:=Lib.bitLen_le8' (x / 4294967296 / 256) (by omega) (by omega)
     have s:=Lib.bitLen_shift40 x.toNat (by omega) (by omega)
     rw [e] at l ⊢
     exact wrap_add 40 _ _ (by decide) l s)
  | (rw [len8_get (x / 4294967296) _,Lib.len8_of (x / 4294967296) (by omega) (by omega)]
     have e:(x / 4294967296).toNat=x.toNat / 4294967296:=by omega
     have l:=Lib.bitLen_le8' (x / 4294967296) (by omega) (by omega)
     have s:=Lib.bitLen_shift32 x.toNat (by omega) (by omega)
     rw [e] at l ⊢
     exact wrap_add 32 _ _ (by decide) l s)
  | (rw [len8_get (x / 65536 / 256) _,Lib.len8_of (x / 65536 / 256) (by omega) (by omega)]
     have e:(x / 65536 / 256).toNat=x.toNat / 16777216:=by omega
     have l:=Lib.bitLen_le8' (x / 65536 / 256) (by omega) (by omega)
     have s:=Lib.bitLen_shift24 x.toNat (by omega) (by omega)
     rw [e] at l ⊢
     exact wrap_add 24 _ _ (by decide) l s)
  | (rw [len8_get (x / 65536) _,Lib.len8_of (x / 65536) (by omega) (by omega)]
     have e:(x / 65536).toNat=x.toNat / 65536:=by omega
     have l:=Lib.bitLen_le8' (x / 65536) (by omega) (by omega)
     have s:=Lib.bitLen_shift16 x.toNat (by omega) (by omega)
     rw [e] at l ⊢
     exact wrap_add 16 _ _ (by decide) l s)
  | (rw [len8_get (x / 256) _,Lib.len8_of (x / 256) (by omega) (by omega)]
     have e:(x / 256).toNat=x.toNat / 256:=by omega
     have l:=Lib.bitLen_le8' (x / 256) (by omega) (by omega)
     have s:=Lib.bitLen_shift8 x.toNat (by omega) (by omega)
     rw [e] at l ⊢
     exact wrap_add 8 _ _ (by decide) l s)
  | (rw [len8_get x _,Lib.len8_of x (by omega) (by omega)]
     have l:=Lib.bitLen_le8' x (by omega) (by omega)
     exact wrap_wrap _ l)

def logF (n:Int):Int:=if n<2 then 0 else (lenF (n-1).toNat:Int)
theorem pc (k:Nat):(((2:Nat) ^ k:Nat):Int)=(2:Int) ^ k:=Int.natCast_pow 2 k
theorem logF_spec (n:Int) (h0:2≤n) (h1:n≤9223372036854775807):∃ k:Nat,logF n=k∧1≤k∧k≤63∧n≤2 ^ k∧2 ^ (k-1)<n:=by
 refine ⟨lenF (n-1).toNat,by unfold logF;rw [if_neg (by omega)],?_⟩
 obtain ⟨b1,b2,b3⟩:=lenF_bounds (n-1).toNat (by omega) (by omega)
 have b4:=lenF_le (n-1).toNat 63 (by omega) (by omega)
 generalize lenF (n-1).toNat=L at *
 have e1:=pc L
 have e2:=pc (L-1)
 generalize (2:Nat) ^ L=p1 at *
 generalize (2:Nat) ^ (L-1)=p2 at *
 refine ⟨b1,b4,by omega,by omega⟩
end Num
end Go.Proofs.YtoadkckceladgaaGreat
namespace Go.Proofs.YtoadkckceladgaaGreat
namespace Num
theorem pow_le62 (k:Nat) (h:k≤62):(1:Int)≤2 ^ k∧(2:Int) ^ k≤4611686018427387904:=by
 have h1:(2:Nat) ^ k≤2 ^ 62:=Nat.pow_le_pow_right (by omega) h
 have h2:1≤(2:Nat) ^ k:=Nat.one_le_two_pow
 have h3:(((2:Nat) ^ k:Nat):Int)=(2:Int) ^ k:=Int.natCast_pow 2 k
 omega

theorem pow_mono {a b:Nat} (h:a≤b):(2:Int) ^ a≤2 ^ b:=by
 have:=Nat.pow_le_pow_right (n:=2) (by omega) h
 have e1:=pc a
 have e2:=pc b
 generalize (2:Nat) ^ a=p1 at *
 generalize (2:Nat) ^ b=p2 at *
 omega
theorem pow_lt {a b:Nat} (h:(2:Int) ^ a<2 ^ b):a<b:=by
 by_cases c:a<b
 ·exact c
 ·have:=pow_mono (a:=b) (b:=a) (by omega);omega
end Num
end Go.Proofs.YtoadkckceladgaaGreat
namespace Go.Proofs.YtoadkckceladgaaGreat
open Go.ChangeShapes Go.WideShapes Go.ChangeAt Go.RowKit
open Lib (hid)
namespace Num
def floorF (n:Int):Int:=if n<1 then 0 else 2 ^ (lenF n.toNat-1)

theorem floorF_lo {n:Int} (h:n<1):floorF n=0:=by unfold floorF;rw [if_pos h]
theorem floorF_spec (n:Int) (h0:1≤n) (h1:n≤9223372036854775807):∃ k:Nat,floorF n=2 ^ k∧lenF n.toNat=k+1∧k≤62∧(2:Int) ^ k≤n∧n<2 ^ (k+1):=by
 obtain ⟨b1,b2,b3⟩:=lenF_bounds n.toNat (by omega) (by omega)
 have b4:=lenF_le n.toNat 63 (by omega) (by omega)
 refine ⟨lenF n.toNat-1,by unfold floorF;rw [if_neg (by omega)],by omega,by omega,?_⟩
 obtain ⟨L,hL⟩:∃ L,lenF n.toNat=L+1:=⟨lenF n.toNat-1,by omega⟩
 rw [hL] at b1 b2 b3 b4 ⊢
 rw [Nat.add_sub_cancel] at b2 ⊢
 have e1:=pc L
 have e2:=pc (L+1)
 generalize (2:Nat) ^ L=p1 at *
 generalize (2:Nat) ^ (L+1)=p2 at *
 refine ⟨by omega,by omega⟩
theorem floor_any (n:Int) (w:World) (h0:-9223372036854775808≤n) (h1:n≤9223372036854775807) :
  Calls Tryz.prog 26 #[.int .i64 n] w fun e w'=>e=.returned (.int .i64 (floorF n))∧w=w':=by
 by_cases c:n<1
 ·have E:=hid (floorF_lo c)
  go_enter Tryz.func26,Tryz.ntmps26
  go_wp2
  go_ret
  exact ⟨retL E.out.symm,rfl⟩
 ·obtain ⟨k,k1,k2,k3,k4,k5⟩:=floorF_spec n (by omega) h1
  obtain ⟨p1,p2⟩:=pow_le62 k k3
  have ct:=len64_any n w (by omega) (by omega)
  rw [k2] at ct
  have CT:=hid ct
  have E:=hid k1
  clear ct k1 k2 k4 k5
  go_enter Tryz.func26,Tryz.ntmps26
  go_wp2_with (go_at_call 39;refine CT.out.mono ?_;rintro e w' ⟨rfl,rfl⟩)
  go_ret
  exact ⟨retL E.out.symm,rfl⟩
end Num
end Go.Proofs.YtoadkckceladgaaGreat
namespace Go.Proofs.YtoadkckceladgaaGreat
namespace Ne
def mxC (l:List Arc):Nat→Int
 | 0=>0
 | k+1=>max (mxC l k) (arcAt l k).cap
theorem mxC_nn (l:List Arc):∀ k,0≤mxC l k
 | 0=>Int.le_refl 0
 | k+1=>by have:=mxC_nn l k;show 0≤max (mxC l k) _;omega
theorem mxC_le {l:List Arc}:∀ {k i:Nat},i<k→(arcAt l i).cap≤mxC l k
 | 0,i,h=>absurd h (by omega)
 | k+1,i,h=>by
  show _≤max (mxC l k) (arcAt l k).cap
  by_cases c:i=k
  ·subst c;omega
  ·have:=mxC_le (l:=l) (k:=k) (i:=i) (by omega);omega
theorem mxC_is (l:List Arc):∀ k,mxC l k=0∨∃ i,i<k∧(arcAt l i).cap=mxC l k
 | 0=>.inl rfl
 | k+1=>by
  show max (mxC l k) (arcAt l k).cap=0∨∃ i,i<k+1∧(arcAt l i).cap=max (mxC l k) (arcAt l k).cap
  by_cases c:mxC l k≤(arcAt l k).cap
  ·exact .inr ⟨k,by omega,by omega⟩
  ·rcases mxC_is l k with e | ⟨i,hi,e⟩
   ·left;omega
   ·exact .inr ⟨i,by omega,by omega⟩
theorem mxC_in (l:List Arc) {k:Nat} {B:Int} (h0:0≤B) (h:∀ i,i<k→(arcAt l i).cap≤B):mxC l k≤B:=by
 rcases mxC_is l k with e | ⟨i,hi,e⟩
 ·omega
 ·have:=h i hi;omega
theorem mxC_right {n:Net} (hR:Right n):mxC n.l n.l.length≤4611686018427387903:=mxC_in _ (by omega) fun i hi=>by
 have e:capS n.l (i+1)≤capS n.l n.l.length:=sumTo_mono hR.cap0 (by omega)
 have e2:0≤capS n.l i:=sumTo_nn fun j hj=>hR.cap0 j (by omega)
 have e3:capS n.l (i+1)=capS n.l i+(arcAt n.l i).cap:=rfl
 have:=hR.sum
 omega
def fstR:Nat→Int
 | 0=>0
 | k+1=>2 ^ k
def rms:Nat→List Int
 | 0=>[]
 | k+1=>2 ^ k :: rms k
theorem fst_pos (k:Nat):(1:Int)≤fstR (k+1):=by
 have h2:1≤(2:Nat) ^ k:=Nat.one_le_two_pow
 have h3:=Num.pc k
 show (1:Int)≤2 ^ k
 omega
theorem fst_succ (k:Nat):fstR (k+2)=2*fstR (k+1):=by
 show (2:Int) ^ (k+1)=2*2 ^ k
 rw [Int.pow_succ];omega
theorem fst_half (k:Nat):fstR (k+1) / 2=fstR k:=by
 cases k with
 | zero=>rfl
 | succ k=>rw [fst_succ];omega
theorem fst_le {k:Nat} (h:k≤63):fstR k≤4611686018427387904:=by
 cases k with
 | zero=>show (0:Int)≤_;omega
 | succ k=>exact (Num.pow_le62 k (by omega)).2
theorem rms_len:∀ k,(rms k).length=k
 | 0=>rfl
 | k+1=>by show (rms k).length+1=_;rw [rms_len k]
theorem rms_succ (k:Nat):rms (k+1)=fstR (k+1) :: rms k:=rfl
def staN (l:List Arc):Int:=Num.floorF (mxC l l.length)
theorem sta_is {l:List Arc} (h:mxC l l.length≤9223372036854775807):∃ K,staN l=fstR K∧K≤63∧(K=0↔mxC l l.length<1)∧mxC l l.length<fstR (K+1)∧(0<K→fstR K≤mxC l l.length):=by
 have h0:=mxC_nn l l.length
 by_cases c:mxC l l.length<1
 ·refine ⟨0,Num.floorF_lo c,by omega,⟨fun _=>c,fun _=>rfl⟩,by show _<(2:Int) ^ 0;omega,fun h=>absurd h (by omega)⟩
 ·obtain ⟨k,h1,_,h2,h3,h4⟩:=Num.floorF_spec _ (by omega) h
  exact ⟨k+1,h1,by omega,⟨fun e=>absurd e (by omega),fun e=>absurd e c⟩,h4,fun _=>h3⟩
structure Tn where
 x:Int
 p:Nat
 k:Nat
 v:Int
instance:Inhabited Tn:=⟨⟨0,0,0,0⟩⟩
def tnAt (l:List Tn) (i:Nat):Tn:=l.getD i default
inductive Sqs (n:Net):List Int→List Int→List Int→List Tn→Prop
 | nil (f:List Int):Sqs n [] f f []
 | cons {x:Int} {xs f g h:List Int} {p k:Nat} {ts:List Tn}:Phs n x f g p k→Sqs n xs g h ts→Sqs n (x :: xs) f h (⟨x,p,k,exc n.l g n.t⟩ :: ts)
section
variable {n:Net} {xs f g h:List Int} {ts:List Tn}
theorem sqs_snoc (a:Sqs n xs f g ts) {x:Int} {p k:Nat} (b:Phs n x g h p k):Sqs n (xs ++ [x]) f h (ts ++ [⟨x,p,k,exc n.l h n.t⟩]):=by
 induction a with
 | nil f=>exact .cons b (.nil _)
 | cons c _ ih=>exact .cons c (ih b)
theorem sqs_len (a:Sqs n xs f g ts):ts.length=xs.length:=by
 induction a with
 | nil=>rfl
 | cons _ _ ih=>simp [ih]
theorem sqs_flow (hR:Right n) (hx:∀ x∈xs,1≤x) (a:Sqs n xs f g ts) (hF:Flow n f):Flow n g:=by
 induction a with
 | nil=>exact hF
 | cons c _ ih=>exact ih (fun x hm=>hx x (List.mem_cons_of_mem _ hm)) (phs_flow hR (hx _ List.mem_cons_self) c hF)
theorem sqs_exists (hR:Right n):∀ (xs f:List Int),(∀ x∈xs,1≤x)→Flow n f→∃ h ts,Sqs n xs f h ts
 | [],f,_,_=>⟨f,[],.nil f⟩
 | x :: xs,f,hx,hF=>by
  have h1:=hx x List.mem_cons_self
  obtain ⟨g,p,k,P⟩:=phs_exists hR h1 hF.okf
  obtain ⟨h,ts,q⟩:=sqs_exists hR xs g (fun x hm=>hx x (List.mem_cons_of_mem _ hm)) (phs_flow hR h1 P hF)
  exact ⟨h,_,.cons P q⟩
theorem sqs_one (hR:Right n) {h2:List Int} {ts2:List Tn} (a:Sqs n xs f g ts) (b:Sqs n xs f h2 ts2):g=h2∧ts=ts2:=by
 induction a generalizing h2 ts2 with
 | nil=>cases b;exact ⟨rfl,rfl⟩
 | cons c _ ih =>
  cases b with
  | cons c2 q =>
   obtain ⟨rfl,rfl,rfl⟩:=phs_one hR c c2
   obtain ⟨rfl,rfl⟩:=ih q
   exact ⟨rfl,rfl⟩
theorem rms_pos:∀ {K:Nat},∀ x∈rms K,1≤x
 | 0,x,h=>by cases h
 | K+1,x,h=>by
  rcases List.mem_cons.1 h with e | h
  ·subst e;exact fst_pos K
  ·exact rms_pos x h
theorem phs_far_room (hR:Right n) (hF:Flow n f) {x:Int} (hx:∀ r,r<2*n.l.length→roomN n.l f r<x):Phs n x f f 0 0:=by
 obtain ⟨L,hL⟩:=lev_exists hR f x
 refine .done hL ?_
 by_cases c:amt L n.t.toNat<0
 ·exact c
 ·have ht0:=hR.t0;have ht1:=hR.t1
  obtain ⟨k,e,hd⟩:=lev_node hL (i:=n.t.toNat) (by omega) (by omega)
  rw [show ((n.t.toNat:Nat):Int)=n.t by omega] at hd
  have key:∀ {k:Nat} {v:Int},Dst n f x k v→v=n.s∨∃ r,r<2*n.l.length∧x≤roomN n.l f r:=fun hd=>by
   cases hd with
   | base=>exact .inl rfl
   | step hr h1 _=>exact .inr ⟨_,hr,h1⟩
  rcases key hd with e | ⟨r,hr,h1⟩
  ·exact absurd e.symm hR.ne
  ·have:=hx _ hr;omega
theorem phs_max (hR:Right n):Phs n 9223372036854775807 (List.replicate n.l.length 0) (List.replicate n.l.length 0) 0 0 :=
 phs_far_room hR (flow_nought hR) fun r hr=>by have:=room_far hR (flow_nought hR).wi r hr;omega
theorem blk_gain {n:Net} {TL:List Nat} {f g:List Int} {x:Int} {W:List (List Nat × Int)} {s t:Int} (hx:1≤x) (b:BlkW n.l TL x s t f W g):x*(W.length:Int)≤(W.map (·.2)).sum∧(W=[]↔(W.map (·.2)).sum=0):=by
 induction b with
 | nil f=>simp
 | @cons f g h R a W h1 h2 h3 _ ih =>
  have ha:x≤a:=by
   obtain ⟨r,hr,e⟩:=h2.one
   have:=(wlk_mem (firstW_wlk h1) r hr).2
   omega
  have h0:0≤x*(W.length:Int):=Int.mul_nonneg (by omega) (by omega)
  have e:x*((W.length+1:Nat):Int)=x*(W.length:Int)+x:=by rw [Int.natCast_add,Int.mul_add];simp
  rw [List.map_cons,List.sum_cons,List.length_cons,e]
  have h4:=ih.1
  refine ⟨by simp only;omega,?_⟩
  constructor
  ·intro h;cases h
  ·intro h;simp only at h;omega
theorem phs_gain (hR:Right n) {x:Int} (hx:1≤x) {p k:Nat} (a:Phs n x f g p k) (hF:Flow n f):x*(k:Int)≤exc n.l g n.t-exc n.l f n.t∧(k=0↔exc n.l g n.t=exc n.l f n.t)∧p≤k:=by
 induction a with
 | done=>simp
 | @step f g h L W p k hL hd hB q ih =>
  obtain ⟨hG,e⟩:=blkW_flow hR (lds_of n.l f x L) hx hF hB.1
  obtain ⟨h1,h2,h3⟩:=ih hG
  obtain ⟨s1,s2⟩:=blk_gain hx hB.1
  have hW:=(blk_some hR hL hB).2 hd
  have hW1:1≤W.length:=by
   rcases W with _ | ⟨a,V⟩
   ·exact absurd rfl hW
   ·simp
  have e2:x*((W.length+k:Nat):Int)=x*(W.length:Int)+x*(k:Int):=by rw [Int.natCast_add,Int.mul_add]
  have e3:1≤x*(W.length:Int):=by
   have:(1:Int)*1≤x*(W.length:Int):=Int.mul_le_mul hx (by omega) (by omega) (by omega)
   omega
  have e4:0≤x*(k:Int):=Int.mul_nonneg (by omega) (by omega)
  refine ⟨by omega,⟨fun e=>absurd e (by omega),fun e=>absurd e (by omega)⟩,by omega⟩
theorem phs_left (hR:Right n) {x:Int} (hx:1≤x) {p k:Nat} (a:Phs n x f g p k) (hF:Flow n f) {u:List Int} (hU:Flow n u):exc n.l u n.t-exc n.l g n.t≤(x-1)*(n.l.length:Int):=by
 obtain ⟨_,L,hL,hd⟩:=phs_okf hR hx a hF.okf
 have hG:=phs_flow hR hx a hF
 have hs0:=hR.s0;have hs1:=hR.s1;have ht0:=hR.t0
 obtain ⟨P,hP⟩:∃ P:Int→Bool,P=fun v:Int=>decide (amt L v.toNat<0):=⟨_,rfl⟩
 have hsl:0≤amt L n.s.toNat:=(hL.low 0 n.s .base).1
 have hs:P n.s=false:=by rw [hP];simp;omega
 have ht:P n.t=true:=by rw [hP];simpa using hd
 have h1:=flow_capP hR hU hs ht
 rw [capP_eq] at h1
 have h2:=flow_cut hR hG hs ht
 have hstep:∀ r,r<2*n.l.length→0≤amt L (trF n.l r).toNat→x≤roomN n.l g r→0≤amt L (trT n.l r).toNat:=fun r hr h1 h2=>by
  have:=lev_next hR hL hr h2 h1;omega
 have h3:sumTo (fun i=>capT P (arcAt n.l i)) n.l.length≤sumTo (fun i=>cutA P (arcAt n.l i)*amt g i+(x-1)) n.l.length:=sumTo_le fun i hi=>by
  obtain ⟨w1,w2⟩:=hG.wi i hi
  have g1:=hstep (2*i) (by omega)
  rw [trF_even,trT_even,room_even] at g1
  have g2:=hstep (2*i+1) (by omega)
  rw [trF_odd,trT_odd,room_odd] at g2
  subst hP
  unfold cutA capT
  by_cases c1:amt L (arcAt n.l i).to.toNat<0 <;> by_cases c2:amt L (arcAt n.l i).fr.toNat<0
  ·simp [c1,c2];omega
  ·have:¬ x≤(arcAt n.l i).cap-amt g i:=fun e=>by have:=g1 (by omega) e;omega
   simp [c1,c2]
   omega
  ·have:¬ x≤amt g i:=fun e=>by have:=g2 (by omega) e;omega
   simp [c1,c2]
   omega
  ·simp [c1,c2];omega
 have h4:∀ m:Nat,sumTo (fun _=>x-1) m=(x-1)*(m:Int):=fun m=>by
  induction m with
  | zero=>simp [sumTo]
  | succ m ih =>
   have e:(x-1)*((m+1:Nat):Int)=(x-1)*(m:Int)+(x-1):=by rw [Int.natCast_add,Int.mul_add];simp
   rw [e,← ih];rfl
 rw [sumTo_add,h4] at h3
 unfold excC at h2
 omega
end
end Ne
end Go.Proofs.YtoadkckceladgaaGreat
namespace Go.Proofs.YtoadkckceladgaaGreat
open Go.ChangeShapes Go.WideShapes Go.ChangeAt Go.RowKit
open Lib (hid)
namespace Ne
theorem dstarts_any (n:Net) (ao:Option Addr) (cap:Nat) (w:World) (hr:ARow w ao n.l) (hl:n.l.length≤1000000) (hok:∀ a∈n.l,in64 a.cap) :
  Calls Tryz.prog 14 #[encN n ao cap] w fun e w'=>e=.returned (.int .i64 (staN n.l))∧Below w.heap.size w w':=by
 obtain ⟨nn,ns,nt,l⟩:=n
 simp only at hr hl hok ⊢
 have HMX:=hid (fun k=>mxC_nn l k)
 have HMB:=hid (fun k (hk:k≤l.length)=>mxC_in (k:=k) l (B:=9223372036854775807) (by omega) fun i hi=>by
  have e:arcAt l i=l[i]'(by omega):=by simp [arcAt,List.getElem?_eq_getElem (show i<l.length by omega)]
  rw [e]
  exact (hok _ (List.getElem_mem _)).2)
 have HFL:=hid (fun w'=>Num.floor_any (mxC l l.length) w' (by have:=HMX.out l.length;omega) (HMB.out _ (Nat.le_refl _)))
 have HS:=hid (show Num.floorF (mxC l l.length)=staN l from rfl)
 have HB0:=hid ((Below.refl w.heap.size w).alloc (Nat.le_refl _) (.cells #[.int .i64 nn,.int .i64 ns,.int .i64 nt,.slice ao l.length cap] 24))
 have HR:=hid hr
 clear hr hok
 go_enter Tryz.func14,Tryz.ntmps14
 go_wp2
 generalize (w.alloc (.cells #[.int .i64 nn,.int .i64 ns,.int .i64 nt,.slice ao l.length cap] 24))=W0 at *
 go_loopw [3,9] (fun x i wr=>∃ (k:Nat) (z:Int),x=.int .i64 z∧i=.int .i64 k∧k≤l.length∧Hid (z=mxC l k)∧Hid (Below w.heap.size w wr)) (fun _ i _=>l.length-(intOf i).toNat)
 case atStart=>exact ⟨0,0,rfl,rfl,Nat.zero_le _,hid rfl,HB0⟩
 case round =>
  obtain ⟨k,z,rfl,rfl,hk,HZ,HB⟩:=hrel
  by_cases hlt:k<l.length
  ·obtain ⟨b,off,rfl,hbl,c0,c1,c2⟩:=arow_cell (HR.out.kept HB.out) hlt
   have HZ2:=hid (show max z (arcAt l k).cap=mxC l (k+1) by rw [HZ.out];rfl)
   generalize arcAt l k=a at *
   obtain ⟨fr,tt,ca⟩:=a
   simp only at c0 c1 c2 HZ2
   have hsz:=HB.out.size
   have HB2:=hid (HB.out.alloc hsz (.cells #[.int .i64 fr,.int .i64 tt,.int .i64 ca] 51))
   have hki:(k:Int)<(l.length:Int):=by omega
   have hk0:(0:Int)≤(k:Int):=by omega
   obtain ⟨g0,g1,g2⟩:=arc_new wr rfl fr tt ca
   go_wp2
   go_roundw
   case rel=>exact ⟨k+1,_,rfl,by go_num,by omega,HZ2,HB2⟩
   case measure=>simp [intOf];omega
  ·have ek:k=l.length:=by omega
   subst ek
   obtain rfl:=HZ.out
   go_wp2_with fail
   refine (HFL.out _).mono ?_
   rintro e w1 ⟨rfl,rfl⟩
   go_wp2
   go_ret
   exact ⟨retI HS.out,HB.out⟩
theorem dvalue_any (n:Net) (ao:Option Addr) (cap:Nat) (fo:Option Addr) (fc:Nat) (f:List Int) (w:World) (hr:ARow w ao n.l) (hf:IRow w fo f) (RT:Right n) (hfl:f.length=n.l.length) (hwi:wi n.l f) :
  Calls Tryz.prog 22 #[encN n ao cap,.slice fo n.l.length fc] w fun e w'=>e=.returned (.int .i64 (exc n.l f n.t))∧Below w.heap.size w w':=by
 have TB:=hid (fun k h=>toS_bd RT hwi n.t (k:=k) h)
 have FB:=hid (fun k h=>frS_bd RT hwi n.t (k:=k) h)
 have AB:=hid (fun i h=>amt_bd RT hwi (i:=i) h)
 have hL:=RT.len
 clear RT hwi
 obtain ⟨nn,ns,nt,l⟩:=n
 simp only at hr hfl TB FB AB hL ⊢
 have HEX:=hid (show toS l f nt l.length-frS l f nt l.length=exc l f nt from rfl)
 have HLE:=hid hfl
 have HB0:=hid ((Below.refl w.heap.size w).alloc (Nat.le_refl _) (.cells #[.int .i64 nn,.int .i64 ns,.int .i64 nt,.slice ao l.length cap] 24))
 have HN0:=hid (netBox_new w nn ns nt (.slice ao l.length cap))
 have HR:=hid hr
 have HF:=hid hf
 have hz0:w.heap.size<(w.alloc (.cells #[.int .i64 nn,.int .i64 ns,.int .i64 nt,.slice ao l.length cap] 24)).heap.size:=by simp
 clear hr hf hfl
 go_enter Tryz.func22,Tryz.ntmps22
 go_wp2
 generalize (w.alloc (.cells #[.int .i64 nn,.int .i64 ns,.int .i64 nt,.slice ao l.length cap] 24))=W0 at *
 go_loopw [5,6,7,11] (fun x i6 p7 i wr=>(∃ z,i6=z)∧(∃ z,p7=z)∧∃ (k:Nat) (z:Int),x=.int .i64 z∧i=.int .i64 k∧k≤l.length∧Hid (z=toS l f nt k-frS l f nt k)∧Hid (Below w.heap.size w wr)∧Hid (NetBox wr w.heap.size nn ns nt (.slice ao l.length cap))) (fun _ _ _ i _=>l.length-(intOf i).toNat)
 case atStart=>exact ⟨⟨_,rfl⟩,⟨_,rfl⟩,0,0,rfl,rfl,Nat.zero_le _,hid rfl,HB0,HN0⟩
 case round =>
  obtain ⟨⟨z6,rfl⟩,⟨z7,rfl⟩,k,z,rfl,rfl,hk,HZ,HB,HN⟩:=hrel
  by_cases hlt:k<l.length
  ·obtain ⟨b,off,rfl,hbl,c0,c1,c2⟩:=arow_cell (HR.out.kept HB.out) hlt
   obtain ⟨b2,off2,rfl,hbl2,d0⟩:=irow_cell (HF.out.kept HB.out) (i:=k) (by have:=HLE.out;omega)
   obtain ⟨x0,x1⟩:=AB.out k hlt
   have t1:=TB.out k hk
   have t2:=TB.out (k+1) (by omega)
   have s1:=FB.out k hk
   have s2:=FB.out (k+1) (by omega)
   have eT:=toS_succ l f nt k
   have eF:=frS_succ l f nt k
   have hz:=HZ.out
   have hki:(k:Int)<(l.length:Int):=by omega
   have hk0:(0:Int)≤(k:Int):=by omega
   have HG:=hid (show ∀ z',z' = toS l f nt (k+1)-frS l f nt (k+1)→z' = toS l f nt (k+1)-frS l f nt (k+1) from fun _ h=>h)
   have hnl:=netBox_lt HN.out
   have hsz:=HB.out.size
   by_cases p:(arcAt l k).to=nt
   ·rw [if_pos p] at eT
    have p':((arcAt l k).to == nt)=true:=by simpa using p
    by_cases q:(arcAt l k).fr=nt
    ·rw [if_pos q] at eF
     have q':((arcAt l k).fr == nt)=true:=by simpa using q
     have HQ:=hid (HG.out z (by omega))
     have w1:IntKind.i64.wrap (z+amt f k)=z+amt f k:=by rw [IntKind.wrap_i64];omega
     have w2:IntKind.i64.wrap (z+amt f k-amt f k)=z:=by rw [IntKind.wrap_i64];omega
     have b1:-9223372036854775808≤z+amt f k∧z+amt f k≤9223372036854775807:=by omega
     have b2:-9223372036854775808≤z+amt f k-amt f k∧z+amt f k-amt f k≤9223372036854775807:=by omega
     clear eT eF hz p q t1 t2 s1 s2
     generalize amt f k=y at *
     generalize arcAt l k=a at *
     obtain ⟨fr,tt,ca⟩:=a
     simp only at c0 c1 c2 p' q'
     have HB2:=hid (HB.out.alloc hsz (.cells #[.int .i64 fr,.int .i64 tt,.int .i64 ca] 51))
     obtain ⟨g0,g1,g2⟩:=arc_new wr rfl fr tt ca
     have d1:=held_alloc (o:=.cells #[.int .i64 fr,.int .i64 tt,.int .i64 ca] 51) d0
     have HN2:=hid (netBox_alloc HN.out (.cells #[.int .i64 fr,.int .i64 tt,.int .i64 ca] 51))
     obtain ⟨n0,n1,n2,n3⟩:=netBox_cells HN.out
     obtain ⟨m0,m1,m2,m3⟩:=netBox_cells HN2.out
     go_wp2
     go_roundw
     case rel=>exact ⟨⟨_,rfl⟩,⟨_,rfl⟩,k+1,_,rfl,by go_num,by omega,HQ,HB2,HN2⟩
     case measure=>simp [intOf];omega
    ·rw [if_neg q] at eF
     have q':((arcAt l k).fr == nt)=false:=by simpa using q
     have HQ:=hid (HG.out (z+amt f k) (by omega))
     have w1:IntKind.i64.wrap (z+amt f k)=z+amt f k:=by rw [IntKind.wrap_i64];omega
     have b1:-9223372036854775808≤z+amt f k∧z+amt f k≤9223372036854775807:=by omega
     clear eT eF hz p q t1 t2 s1 s2
     generalize amt f k=y at *
     generalize arcAt l k=a at *
     obtain ⟨fr,tt,ca⟩:=a
     simp only at c0 c1 c2 p' q'
     have HB2:=hid (HB.out.alloc hsz (.cells #[.int .i64 fr,.int .i64 tt,.int .i64 ca] 51))
     obtain ⟨g0,g1,g2⟩:=arc_new wr rfl fr tt ca
     have d1:=held_alloc (o:=.cells #[.int .i64 fr,.int .i64 tt,.int .i64 ca] 51) d0
     have HN2:=hid (netBox_alloc HN.out (.cells #[.int .i64 fr,.int .i64 tt,.int .i64 ca] 51))
     obtain ⟨n0,n1,n2,n3⟩:=netBox_cells HN.out
     obtain ⟨m0,m1,m2,m3⟩:=netBox_cells HN2.out
     go_wp2
     go_roundw
     case rel=>exact ⟨⟨_,rfl⟩,⟨_,rfl⟩,k+1,_,rfl,by go_num,by omega,HQ,HB2,HN2⟩
     case measure=>simp [intOf];omega
   ·rw [if_neg p] at eT
    have p':((arcAt l k).to == nt)=false:=by simpa using p
    by_cases q:(arcAt l k).fr=nt
    ·rw [if_pos q] at eF
     have q':((arcAt l k).fr == nt)=true:=by simpa using q
     have HQ:=hid (HG.out (z-amt f k) (by omega))
     have w1:IntKind.i64.wrap (z-amt f k)=z-amt f k:=by rw [IntKind.wrap_i64];omega
     have b1:-9223372036854775808≤z-amt f k∧z-amt f k≤9223372036854775807:=by omega
     clear eT eF hz p q t1 t2 s1 s2
     generalize amt f k=y at *
     generalize arcAt l k=a at *
     obtain ⟨fr,tt,ca⟩:=a
     simp only at c0 c1 c2 p' q'
     have HB2:=hid (HB.out.alloc hsz (.cells #[.int .i64 fr,.int .i64 tt,.int .i64 ca] 51))
     obtain ⟨g0,g1,g2⟩:=arc_new wr rfl fr tt ca
     have d1:=held_alloc (o:=.cells #[.int .i64 fr,.int .i64 tt,.int .i64 ca] 51) d0
     have HN2:=hid (netBox_alloc HN.out (.cells #[.int .i64 fr,.int .i64 tt,.int .i64 ca] 51))
     obtain ⟨n0,n1,n2,n3⟩:=netBox_cells HN.out
     obtain ⟨m0,m1,m2,m3⟩:=netBox_cells HN2.out
     go_wp2
     go_roundw
     case rel=>exact ⟨⟨_,rfl⟩,⟨_,rfl⟩,k+1,_,rfl,by go_num,by omega,HQ,HB2,HN2⟩
     case measure=>simp [intOf];omega
    ·rw [if_neg q] at eF
     have q':((arcAt l k).fr == nt)=false:=by simpa using q
     have HQ:=hid (HG.out z (by omega))
     clear eT eF hz p q t1 t2 s1 s2
     generalize amt f k=y at *
     generalize arcAt l k=a at *
     obtain ⟨fr,tt,ca⟩:=a
     simp only at c0 c1 c2 p' q'
     have HB2:=hid (HB.out.alloc hsz (.cells #[.int .i64 fr,.int .i64 tt,.int .i64 ca] 51))
     obtain ⟨g0,g1,g2⟩:=arc_new wr rfl fr tt ca
     have d1:=held_alloc (o:=.cells #[.int .i64 fr,.int .i64 tt,.int .i64 ca] 51) d0
     have HN2:=hid (netBox_alloc HN.out (.cells #[.int .i64 fr,.int .i64 tt,.int .i64 ca] 51))
     obtain ⟨n0,n1,n2,n3⟩:=netBox_cells HN.out
     obtain ⟨m0,m1,m2,m3⟩:=netBox_cells HN2.out
     go_wp2
     go_roundw
     case rel=>exact ⟨⟨_,rfl⟩,⟨_,rfl⟩,k+1,_,rfl,by go_num,by omega,HQ,HB2,HN2⟩
     case measure=>simp [intOf];omega
  ·have ek:k=l.length:=by omega
   subst ek
   obtain ⟨n0,n1,n2,n3⟩:=netBox_cells HN.out
   go_wp2
   go_ret
   exact ⟨retI (by rw [HZ.out,HEX.out]),HB.out⟩
end Ne
end Go.Proofs.YtoadkckceladgaaGreat
namespace Go.Proofs.YtoadkckceladgaaGreat
open Go.ChangeShapes Go.WideShapes Go.ChangeAt Go.RowKit Go.Shelf
open Lib (hid)
attribute [local go_sem] Oper.semAt_some
namespace Ne
abbrev Rm:={ x:Int // 1≤x∧x≤4611686018427387904 }
abbrev encR (x:Rm):Array Value:=#[.int .i64 x.1]
theorem rooms1_in {K:Nat} (hK:K≤63) (m l b:Nat) (J Jx:List Rm→World→Prop)
  (hY:∀ pre x W,J pre W→pre.length<K→YieldAt Fence.wide (m-1) Tryz.prog l (encR x) W fun e W' =>
   (e=.returned (.bool true)∧J (pre ++ [x]) W'∧True)∨(e=.returned (.bool false)∧Jx (pre ++ [x]) W'))
  (W:World) (hb:W.cell? ⟨b,0,none⟩=some (.int .i64 (fstR K))) (h0:J [] W) :
  CallsIn Fence.wide m Tryz.prog 34 #[.func (.yield l) #[] #[],.pointer (some ⟨b,0,none⟩)] W fun e W'=>(∃ v,e=.returned v) ∧
   ((∃ ys,ys.map (·.1)=rms K∧J ys W')∨(∃ pre,True∧Jx pre W')):=by
 refine callsIn_of_wp Tryz.func34 rfl trivial ?_ rfl
 simp only [Tryz.ntmps34,List.size_toArray,List.length_cons,List.length_nil,Nat.reduceAdd,Nat.reduceSub,Array.replicate_succ,Array.replicate_zero,List.push_toArray,List.append_toArray,List.nil_append,List.cons_append]
 gi_wp2
 gi_loopw [3] (fun p wr=>∃ (pre:List Rm) (k:Nat),p=.int .i64 (fstR k)∧Hid (pre.length+k=K)∧Hid (pre.map (·.1) ++ rms k=rms K)∧J pre wr) (fun p _=>(intOf p).toNat)
 case atStart=>exact ⟨[],K,rfl,hid (by simp),hid (by simp),h0⟩
 case round =>
  obtain ⟨pre,k,rfl,HL,HM,hJs⟩:=hrel
  cases k with
  | zero =>
   have HM2:=hid (show pre.map (·.1)=rms K by have h:=HM.out;rwa [show rms 0=[] from rfl,List.append_nil] at h)
   rw [show fstR 0=0 from rfl]
   gi_wp2
   refine ⟨fun _ h=>(by cases h),?_⟩
   gi_wp2
   go_end0
   exact ⟨⟨_,rfl⟩,.inl ⟨pre,HM2.out,hJs⟩⟩
  | succ k =>
   have h1:=fst_pos k
   have h2:=fst_le (k:=k+1) (by have:=HL.out;omega)
   obtain ⟨fn,tmps,assign,body,hy,hR⟩:=hY pre ⟨fstR (k+1),h1,h2⟩ wr hJs (by have:=HL.out;omega)
   have HM2:=hid (show (pre ++ [(⟨fstR (k+1),h1,h2⟩:Rm)]).map (·.1) ++ rms k=rms K by have h:=HM.out;rw [rms_succ] at h;simpa using h)
   have HL2:=hid (show (pre ++ [(⟨fstR (k+1),h1,h2⟩:Rm)]).length+k=K by have h:=HL.out;simp;omega)
   have hh:=fst_half k
   have hlt:fstR k<fstR (k+1):=by omega
   dsimp only [encR] at hy
   generalize (⟨fstR (k+1),h1,h2⟩:Rm)=xr at *
   generalize fstR (k+1)=F1 at *
   obtain ⟨F0,hF0⟩:∃ F0,F0=fstR k:=⟨_,rfl⟩
   rw [← hF0] at hh hlt
   have HF0:=hid hF0
   clear hF0
   have hp:decide (0<F1)=true:=by simp;omega
   gi_wp2
   refine ⟨fun h=>(by cases h),?_⟩
   refine hR.mono ?_
   rintro e W3 (⟨rfl,hJ3,_⟩ | ⟨rfl,hJx3⟩)
   ·gi_wp2
    go_roundw
    case rel=>exact ⟨pre ++ [xr],k,by rw [← HF0.out,hh],HL2,HM2,hJ3⟩
    case measure=>simp [intOf];omega
   ·gi_wp2
    go_end0
    exact ⟨⟨_,rfl⟩,.inr ⟨pre ++ [xr],trivial,hJx3⟩⟩
theorem rooms_stops {K:Nat} (hK:K≤63) (m b:Nat) (w:World) (hb:b<w.heap.size) (h:w.cell? ⟨b,0,none⟩=some (.int .i64 (fstR K))) :
  SeqStopsK Fence.wide m Tryz.prog 34 #[.pointer (some ⟨b,0,none⟩)] encR (fun _ _=>True) (fun ys=>ys.map (·.1)=rms K) (fun _=>True) K w:=fun l J Jx W hW hJ _ hY h0 =>
 rooms1_in hK m l b J Jx hY W ((hW.cell (p:=⟨b,0,none⟩) hb).trans h) h0
theorem rooms_any (x:Int) (w:World) :
  Calls Tryz.prog 21 #[.int .i64 x] w fun e w'=>e=.returned (.func (.func 34) #[] #[.pointer (some ⟨w.heap.size,0,none⟩)]) ∧
   Below w.heap.size w w'∧w'.heap.size=w.heap.size+1∧w'.cell? ⟨w.heap.size,0,none⟩=some (.int .i64 x):=by
 have HB:=hid ((Below.refl w.heap.size w).alloc (Nat.le_refl _) (.cells #[.int .i64 x] 2))
 have HX:=hid (Boxed.new w 2 (.int .i64 x))
 have HZ:=hid (show (w.alloc (.cells #[.int .i64 x] 2)).heap.size=w.heap.size+1 by show (w.heap.push _).size=_;simp)
 go_enter Tryz.func21,Tryz.ntmps21
 go_wp2
 go_ret
 exact ⟨rfl,HB.out,HZ.out,HX.out.cell⟩
end Ne
end Go.Proofs.YtoadkckceladgaaGreat
namespace Go.Proofs.YtoadkckceladgaaGreat
namespace Rg
section
variable {P:Program} {ops:Array Oper} {Q:Exit→Act→World→Prop} {md:Region.Mode} {S:World→Prop} {last:Nat}
def noDefer (ops:Array Oper):Bool:=ops.all fun o=>match o.op with | .defer _=>false | _=>true
theorem noDefer_spec (h:noDefer ops=true) {i:Nat} {o:Oper} (ho:ops[i]? = some o):∀ c,o.op≠.defer c:=fun c e=>by
 unfold noDefer at h
 rw [Array.all_eq_true] at h
 obtain ⟨hi,rfl⟩:=Array.getElem?_eq_some_iff.1 ho
 have:=h i hi
 rw [e] at this
 cases this
theorem oper_in (l n:Nat) {o:Oper} (ho:∀ c,o.op≠.defer c) {a:Act} {w:World} {K:Act→World→Prop} (h:o.wp P a w K Q):o.wpIn (Fence.wide.inRound l) n P a w K Q:=by
 refine ⟨fun _ _=>trivial,?_⟩
 rw [Oper.semAt_eq _ _ _ ho]
 unfold Oper.wp at h
 have hd:(Fence.wide.inRound l).depth.isSome=true→1≤n:=fun e=>by cases e
 generalize (execOp a.eval o).run P w=r at *
 cases r with
 | ok x w' =>
  cases x <;> simp only [Oper.upon,Oper.uponIn] at h ⊢ <;>
   first
    | exact h
    | exact ⟨hd,CallsIn.inRound l (callsIn_wide.2 h)⟩
    | exact ⟨hd,fun c cs _=>let ⟨v,w',r,s⟩:=h c cs;⟨v,w',r,stepsIn_wide.2 s⟩⟩
 | halt x w'=>cases x <;> simp only [Oper.upon,Oper.uponIn] at h ⊢ <;> exact h
theorem any_in (l n:Nat) (hd:noDefer ops=true) (hQ:¬ LetsOut Q):∀ (fuel:Nat) (listed:Array Bool) (a:Act) (w:World),wpAny P md ops Q fuel listed a w→wpAnyIn (Fence.wide.inRound l) n P md ops Q fuel listed a w
 | 0,_,_,_,h=>h
 | fuel+1,listed,a,w,h=>by
  refine ⟨h.1,fun i hi=>?_⟩
  have h2:=wpOp_mono (any_in l n hd hQ fuel (listed.setIfInBounds i true)) (h.2 i hi)
  unfold wpOp at h2
  unfold wpOpIn
  cases ho:ops[i]? with
  | none=>simp only [ho] at h2 ⊢;exact h2
  | some o =>
   simp only [ho] at h2 ⊢
   by_cases hw:Region.wanted o (yielded ops a.tmps)=true
   ·rw [if_pos hw] at h2 ⊢
    rcases h2 with h2 | h2
    ·exact oper_in l n (noDefer_spec hd ho) h2
    ·exact absurd h2.2 hQ
   ·rw [if_neg hw] at h2 ⊢
    exact ⟨fun _ _=>trivial,h2⟩
theorem startIn {l n id:Nat} {a:Act} {w:World} (hm:P.follows .mixedOrders=true) (hd:noDefer ops=true) (hQ:¬ LetsOut Q)
  (h:St P .any ops Q S last ops.size (Array.replicate ops.size false) a w.drew):(Code.region id ops true).wpIn (Fence.wide.inRound l) n P Q a w :=
 wpIn_region_any hm (any_in l n hd hQ _ _ _ _ (wpAny_of_E _ _ _ _ (h (closed_start _))))
end
end Rg
end Go.Proofs.YtoadkckceladgaaGreat
