/-
  Trw, Net13, ShownS, Slw, Opg, Open, Openc, Dlw, Dne
-/
import Derived.Test.YtoadkckceladgaaGreatBb42
import Derived.Test.YtoadkckceladgaaGreatBb19
import Derived.Test.YtoadkckceladgaaGreatBb4
import Derived.Test.YtoadkckceladgaaGreatRows
import Derived.WalkKit
import Derived.ProofKit
import Derived.OpenShut
import Derived.Deep.Slices
import Derived.Deep.Fields
import Derived.ChangeSame
import Derived.Lib.SmallJoins
import Derived.Test.YtoadkckceladgaaGreatBb2
import Derived.Test.YtoadkckceladgaaGreatBb18
import Derived.Test.YtoadkckceladgaaGreatBb41
import Derived.RegionTactic
import Derived.BigRegion
set_option linter.unusedVariables false
set_option linter.unusedSimpArgs false
set_option maxRecDepth 100000
set_option maxHeartbeats 4000000
namespace Go.Proofs.YtoadkckceladgaaGreat
open Go.ChangeShapes Go.WideShapes Go.ChangeAt Go.RowKit
open Lib (hid)
namespace Ne
theorem trow_cell {w:World} {ao:Option Addr} {l:List Tn} (h:Rw.Row 4 encT w ao l) {i:Nat} (hi:i<l.length):∃ b off,ao=some ⟨b,off,none⟩∧b<w.heap.size∧w.cell? ⟨b,off+i*4,none⟩=some (.int .i64 (tnAt l i).x)∧w.cell? ⟨b,off+i*4+1,none⟩=some (.int .i64 ((tnAt l i).p:Int))∧w.cell? ⟨b,off+i*4+2,none⟩=some (.int .i64 ((tnAt l i).k:Int))∧w.cell? ⟨b,off+i*4+3,none⟩=some (.int .i64 (tnAt l i).v):=by
 rcases h with h | ⟨b,off,rfl,hlt,hc⟩
 ·subst h;simp at hi
 ·have e:l[i]? = some (tnAt l i):=by simp [tnAt,List.getElem?_eq_getElem hi]
  exact ⟨b,off,rfl,hlt,by have:=hc i _ e 0 _ rfl;simpa using this,by have:=hc i _ e 1 _ rfl;rwa [← Nat.add_assoc] at this,by have:=hc i _ e 2 _ rfl;rwa [← Nat.add_assoc] at this,by have:=hc i _ e 3 _ rfl;rwa [← Nat.add_assoc] at this⟩
theorem ownt_row {w:World} {B:Nat} {e:TypeId} {o:Option Addr} {m c:Nat} {l:List Tn} (h:Rw.Own e 4 encT w B (.slice o m c) l):Rw.Row 4 encT w o l:=by
 obtain ⟨o2,c2,e2,_,_,_,hr,_,_⟩:=Rw.own_row encT_len h
 simp only [Value.slice.injEq] at e2
 rw [e2.1];exact hr
theorem turn_new (w:World) {b:Nat} (hb:b=w.heap.size) (x p k v:Int):(w.alloc (.cells #[.int .i64 x,.int .i64 p,.int .i64 k,.int .i64 v] 47)).cell? ⟨b,0,none⟩=some (.int .i64 x)∧(w.alloc (.cells #[.int .i64 x,.int .i64 p,.int .i64 k,.int .i64 v] 47)).cell? ⟨b,1,none⟩=some (.int .i64 p) ∧
  (w.alloc (.cells #[.int .i64 x,.int .i64 p,.int .i64 k,.int .i64 v] 47)).cell? ⟨b,2,none⟩=some (.int .i64 k)∧(w.alloc (.cells #[.int .i64 x,.int .i64 p,.int .i64 k,.int .i64 v] 47)).cell? ⟨b,3,none⟩=some (.int .i64 v):=by
 subst hb
 exact ⟨World.cell?_alloc_new w _ _ 0,World.cell?_alloc_new w _ _ 1,World.cell?_alloc_new w _ _ 2,World.cell?_alloc_new w _ _ 3⟩
theorem smax_flow (n:Net) (ao:Option Addr) (cap:Nat) (w:World) (ck:checkN n=0) (hr:ARow w ao n.l) {h:List Int} {ts:List Tn} {K:Nat} (hS:Sqs n (rms K) (List.replicate n.l.length 0) h ts) (hK:staN n.l=fstR K) (hK63:K≤63) (q:Bool) :
  Calls Tryz.prog 10 #[encN n ao cap,.int .u8 (engC q)] w fun e w'=>∃ o c ot ct,e=.returned (.tuple #[.slice o n.l.length c,.slice ot K ct,.int .i64 0])∧IRow w' o h∧Rw.Row 4 encT w' ot ts∧Below w.heap.size w w':=by
 have hR:=right_of ck
 have e:scE n (engC q)=0:=by
  have h:=reE_flow ck (flow_nought hR) (show (1:Int)≤9223372036854775807 by omega)
  unfold scE rnE;rw [if_neg (by simpa using h),if_pos (by cases q;exact .inl rfl;exact .inr rfl)]
 have hm:=smax_any n ao cap (engC q) w hr (by have:=hR.len;omega) (cap_64 hR) h ts K (fun _=>hS) hK hK63
 obtain ⟨q1,q2⟩:=sc_ok e h ts
 have hl:=(sqs_flow hR (fun x hx=>rms_pos x hx) hS (flow_nought hR)).len
 have ht:=sqs_len hS
 rw [rms_len] at ht
 rw [q1,q2,e,hl,ht] at hm
 refine hm.mono ?_
 rintro e w' ⟨o,c,ot,ct,h1,h2,h3,h4⟩
 exact ⟨o,c,ot,ct,h1,own_irow h2,ownt_row h3,h4⟩
theorem smax_arg (n:Net) (ao:Option Addr) (cap:Nat) (a:Int) (w:World) (ck:checkN n=0) (hr:ARow w ao n.l) (h1:a≠112) (h2:a≠116) :
  Calls Tryz.prog 10 #[encN n ao cap,.int .u8 a] w fun e w'=>∃ o c ot ct,e=.returned (.tuple #[.slice o 0 c,.slice ot 0 ct,.int .i64 1])∧Below w.heap.size w w':=by
 have hR:=right_of ck
 have e:scE n a=1:=by
  have h:=reE_flow ck (flow_nought hR) (show (1:Int)≤9223372036854775807 by omega)
  unfold scE rnE;rw [if_neg (by simpa using h),if_neg (by omega)]
 obtain ⟨K,hK,hK63,_⟩:=sta_is (l:=n.l) (by have:=mxC_right hR;omega)
 obtain ⟨h,ts,hS⟩:=sqs_exists hR (rms K) _ (fun x hx=>rms_pos x hx) (flow_nought hR)
 have hm:=smax_any n ao cap a w hr (by have:=hR.len;omega) (cap_64 hR) h ts K (fun _=>hS) hK hK63
 obtain ⟨q1,q2⟩:=sc_bad (show scE n a≠0 by rw [e];decide) h ts
 rw [q1,q2,e] at hm
 refine hm.mono ?_
 rintro e w' ⟨o,c,ot,ct,h1,_,_,h4⟩
 exact ⟨o,c,ot,ct,h1,h4⟩
end Ne
end Go.Proofs.YtoadkckceladgaaGreat
namespace Go.Proofs.YtoadkckceladgaaGreat
namespace Ne
def net13:Net:=⟨2,1,2,[⟨1,2,5⟩]⟩
theorem net13_ck:checkN net13=0:=by decide
theorem net13_far {x:Int} (hx:1≤x):Phs net13 x [5] [5] 0 0:=by
 obtain ⟨L,hL⟩:=lev_exists (right_of net13_ck) [5] x
 have key:∀ {k:Nat} {v:Int},Dst net13 [5] x k v→v=1:=fun h=>by
  induction h with
  | base=>rfl
  | @step k r hr h1 _ ih =>
   have hr2:r<2:=hr
   match r,hr2 with
   | 0,_=>exact absurd h1 (by show ¬ x≤0;omega)
   | 1,_=>rfl
 refine .done hL ?_
 rcases hL.val 2 (by decide) with h | ⟨k,_,hd⟩
 ·show amt L 2<0;omega
 ·exact absurd (key hd) (by decide)
theorem net13_lev:IsLev net13 [0] 4 [-1,0,1]:=by
 have h2:Dst net13 [0] 4 1 2:=Dst.step (n:=net13) (r:=0) (by decide) (by decide) .base
 have key:∀ {k:Nat} {v:Int},Dst net13 [0] 4 k v→(k=0∧v=1)∨(k=1∧v=2):=fun h=>by
  induction h with
  | base=>exact .inl ⟨rfl,rfl⟩
  | @step k r hr h1 _ ih =>
   have hr2:r<2:=hr
   match r,hr2 with
   | 0,_ =>
    rcases ih with ⟨rfl,_⟩ | ⟨_,e⟩
    ·exact .inr ⟨rfl,rfl⟩
    ·exact absurd e (by decide)
   | 1,_=>exact absurd h1 (by decide)
 refine ⟨rfl,fun i hi=>?_,fun k v hd=>?_⟩
 ·have hi2:i<3:=hi
  match i,hi2 with
  | 0,_=>exact .inl rfl
  | 1,_=>exact .inr ⟨0,rfl,.base⟩
  | 2,_=>exact .inr ⟨1,rfl,h2⟩
 ·rcases key hd with ⟨rfl,rfl⟩ | ⟨rfl,rfl⟩
  ·exact ⟨by decide,by decide⟩
  ·exact ⟨by decide,by decide⟩
theorem net13_blk:IsBlk net13.l (leadL net13.l [0] 4 [-1,0,1] (2*net13.l.length)) [0] 4 net13.s net13.t [([0],5)] [5]:=by
 rw [show leadL net13.l [0] 4 [-1,0,1] (2*net13.l.length)=[0] by decide]
 refine ⟨.cons (g:=[5]) ?_ ⟨by decide,⟨0,by decide,by decide⟩⟩ (by decide) (.nil _),fun R hW=>?_⟩
 ·exact FirstW.step (l:=net13.l) (TL:=[0]) (f:=[0]) (x:=4) (t:=2) (r:=0) (R:=[]) (by decide) (by decide) (by decide) (show FirstW net13.l [0] [0] 4 2 2 [] from .done) (fun q _ _ _ hlt=>absurd hlt (by omega))
 ·rcases wlk_inv hW with ⟨_,e⟩ | ⟨q,Q,_,_,h1,h2,_⟩
  ·revert e;decide
  ·obtain rfl:q=0:=by simpa using h1
   revert h2;decide
theorem net13_sqs:Sqs net13 (rms 3) (List.replicate net13.l.length 0) [5] [⟨4,1,1,5⟩,⟨2,0,0,5⟩,⟨1,0,0,5⟩] :=
 .cons (.step (W:=[([0],5)]) net13_lev (by decide) net13_blk (net13_far (by decide))) (.cons (net13_far (by decide)) (.cons (net13_far (by decide)) (.nil _)))
theorem net13_sta:staN net13.l=fstR 3:=by
 obtain ⟨K,h1,h2,h3,h4,h5⟩:=sta_is (l:=net13.l) (by decide)
 have e:mxC net13.l net13.l.length=5:=by decide
 rw [e] at h3 h4 h5
 rw [h1]
 have c1:K≤3:=by
  by_cases c:K≤3
  ·exact c
  ·have:=h5 (by omega)
   obtain ⟨j,rfl⟩:∃ j,K=j+1:=⟨K-1,by omega⟩
   have h6:(2:Int) ^ 3≤2 ^ j:=Num.pow_mono (by omega)
   have h7:fstR (j+1)=2 ^ j:=rfl
   omega
 have c2:3≤K:=by
  by_cases c:3≤K
  ·exact c
  ·have h6:(2:Int) ^ K≤2 ^ 2:=Num.pow_mono (by omega)
   have h7:fstR (K+1)=2 ^ K:=rfl
   omega
 rw [show K=3 by omega]
end Ne
end Go.Proofs.YtoadkckceladgaaGreat
namespace Go.Proofs.YtoadkckceladgaaGreat
open Go.ChangeShapes Go.WideShapes Go.ChangeAt Go.RowKit
open Lib (hid)
namespace Ne
theorem shown_any (w:World):Calls Tryz.prog 9 #[] w fun e w'=>e=.returned (.bool true)∧Below w.heap.size w w':=by
 have hA:=arow_at1 w rfl ⟨1,2,5⟩
 have HB:=hid ((Below.refl w.heap.size w).alloc (Nat.le_refl _) (.cells #[.int .i64 1,.int .i64 2,.int .i64 5] 51))
 have C:=hid (smax_flow net13 (some ⟨w.heap.size,0,none⟩) 1 _ net13_ck hA net13_sqs net13_sta (by omega) false)
 rw [show net13.l.length=1 from rfl] at C
 unfold net13 engC at C
 simp only [Bool.false_eq_true,if_false] at C
 clear hA
 go_enter Tryz.func9,Tryz.ntmps9
 go_wp2_with fail
 refine C.out.mono ?_
 rintro e w1 ⟨o,c,ot,ct,rfl,hi,ht,hb⟩
 have HB1:=hid (HB.out.trans (hb.mono (by simp)))
 obtain ⟨b0,o0,rfl,_,d0⟩:=irow_cell hi (i:=0) (by simp)
 obtain ⟨b1,o1,rfl,_,t0,_,_,t3⟩:=trow_cell ht (i:=0) (by simp)
 obtain ⟨b2,o2,he1,_,t4,_,_,_⟩:=trow_cell ht (i:=1) (by simp)
 simp only [Option.some.injEq,Addr.mk.injEq,and_true] at he1
 obtain ⟨rfl,rfl⟩:=he1
 obtain ⟨b3,o3,he1,_,t8,_,_,_⟩:=trow_cell ht (i:=2) (by simp)
 simp only [Option.some.injEq,Addr.mk.injEq,and_true] at he1
 obtain ⟨rfl,rfl⟩:=he1
 simp [amt] at d0
 simp [tnAt] at t0 t3 t4 t8
 clear hb hi ht
 go_wp2
 go_ret
 exact ⟨rfl,HB1.out⟩
end Ne
end Go.Proofs.YtoadkckceladgaaGreat
namespace Go.Proofs.YtoadkckceladgaaGreat
namespace Ne
theorem fst_mono {j k:Nat} (h:j≤k):fstR j≤fstR k:=by
 rcases j with _ | j
 ·rcases k with _ | k
  ·exact Int.le_refl _
  ·have:=fst_pos k;show (0:Int)≤_;omega
 ·obtain ⟨m,rfl⟩:∃ m,k=m+1:=⟨k-1,by omega⟩
  exact Num.pow_mono (by omega)
theorem sta_one {l:List Arc} {K:Nat} (h1:0<K) (h2:fstR K≤mxC l l.length) (h3:mxC l l.length<fstR (K+1)) (h4:mxC l l.length≤9223372036854775807):staN l=fstR K:=by
 obtain ⟨K2,e1,_,e3,e4,e5⟩:=sta_is h4
 have h5:1≤fstR K:=by rw [show K=(K-1)+1 by omega];exact fst_pos _
 have e6:0<K2:=by
  by_cases c:K2=0
  ·have:=e3.1 c;omega
  ·omega
 have e7:=e5 e6
 rw [e1]
 by_cases c:K2=K
 ·rw [c]
 ·by_cases d:K2<K
  ·have:=fst_mono (j:=K2+1) (k:=K) (by omega);omega
  ·have:=fst_mono (j:=K+1) (k:=K2) (by omega);omega
def wasV (ts:List Tn) (i:Nat):Int:=if i=0 then 0 else (tnAt ts (i-1)).v
theorem amt_nought (m i:Nat):amt (List.replicate m 0) i=0:=by
 by_cases h:i<m
 ·simp [amt,h]
 ·simp [amt,List.getElem?_eq_none (show (List.replicate m (0:Int)).length≤i by simpa using h)]
theorem was_zero (ts:List Tn):wasV ts 0=0:=rfl
theorem was_succ (ts:List Tn) (i:Nat):wasV ts (i+1)=(tnAt ts i).v:=rfl
section
variable {n:Net}
theorem sqs_turn (hR:Right n):∀ {K:Nat} {f h:List Int} {ts:List Tn},Sqs n (rms K) f h ts→Flow n f→∀ {i:Nat},i<K →
  ∃ u g p k,Flow n u∧Flow n g∧Phs n (fstR (K-i)) u g p k∧tnAt ts i=⟨fstR (K-i),p,k,exc n.l g n.t⟩∧(i=0→u=f) ∧
   (0<i→exc n.l u n.t=(tnAt ts (i-1)).v∧∃ u0 p0 k0,Flow n u0∧Phs n (fstR (K-i+1)) u0 u p0 k0)∧(i+1=K→g=h)
 | 0,f,h,ts,_,_,i,hi=>absurd hi (by omega)
 | K+1,f,h,ts,a,hF,i,hi=>by
  rw [rms_succ] at a
  cases a with
  | @cons _ _ _ g _ p k ts2 P b =>
   have hG:=phs_flow hR (fst_pos K) P hF
   rcases i with _ | i
   ·refine ⟨f,g,p,k,hF,hG,P,rfl,fun _=>rfl,fun h=>absurd h (by omega),fun e=>?_⟩
    obtain rfl:K=0:=by omega
    cases b;rfl
   ·obtain ⟨u,g2,p2,k2,h1,h2,h3,h4,h5,h6,h7⟩:=sqs_turn hR b hG (i:=i) (by omega)
    refine ⟨u,g2,p2,k2,h1,h2,by rwa [show K+1-(i+1)=K-i by omega],by rw [show K+1-(i+1)=K-i by omega];exact h4,fun h=>absurd h (by omega),fun _=>?_,fun e=>h7 (by omega)⟩
    rcases i with _ | i
    ·obtain rfl:=h5 rfl
     exact ⟨rfl,f,p,k,hF,P⟩
    ·obtain ⟨q1,u0,p0,k0,q2,q3⟩:=h6 (by omega)
     exact ⟨q1,u0,p0,k0,q2,by rwa [show K+1-(i+1+1)+1=K-(i+1)+1 by omega]⟩
variable {K:Nat} {h:List Int} {ts:List Tn}
theorem flow_low {f:List Int} (hR:Right n) (hF:Flow n f):0≤exc n.l f n.t∧exc n.l f n.t≤4611686018427387903:=⟨hF.val,(exc_bd hR hF.wi n.t).2⟩
theorem turn_facts (hR:Right n) (a:Sqs n (rms K) (List.replicate n.l.length 0) h ts) {i:Nat} (hi:i<K) :
  (tnAt ts i).x=fstR (K-i)∧(tnAt ts i).x*((tnAt ts i).k:Int)≤(tnAt ts i).v-wasV ts i∧((tnAt ts i).k=0↔(tnAt ts i).v=wasV ts i)∧(tnAt ts i).p≤(tnAt ts i).k∧((tnAt ts i).p:Int)<n.n ∧
  (∀ u,Flow n u→exc n.l u n.t-(tnAt ts i).v≤((tnAt ts i).x-1)*(n.l.length:Int))∧(0<i→(tnAt ts i).v-wasV ts i≤(2*(tnAt ts i).x-1)*(n.l.length:Int))∧0≤wasV ts i∧wasV ts i≤(tnAt ts i).v∧(tnAt ts i).v≤4611686018427387903:=by
 have hF0:=flow_nought hR
 obtain ⟨u,g,p,k,h1,h2,h3,h4,h5,h6,h7⟩:=sqs_turn hR a hF0 hi
 have hx:1≤fstR (K-i):=by
  rw [show K-i=(K-i-1)+1 by omega];exact fst_pos _
 have hw:wasV ts i=exc n.l u n.t:=by
  rcases i with _ | i
  ·rw [h5 rfl,was_zero,exc_zero (fun i=>amt_nought _ i)]
  ·exact (h6 (by omega)).1.symm
 obtain ⟨g1,g2,g3⟩:=phs_gain hR hx h3 h1
 have hb:=flow_low hR h2
 have hb1:=flow_low hR h1
 rw [h4,hw]
 simp only
 refine ⟨by trivial,g1,g2,g3,(phs_lt hR hx h3 h1.okf).1,fun v hv=>phs_left hR hx h3 h1 hv,fun h0=>?_,hb1.1,?_,hb.2⟩
 ·obtain ⟨_,u0,p0,k0,q2,q3⟩:=h6 h0
  rw [show K-i+1=(K-i-1)+2 by omega,fst_succ,show K-i-1+1=K-i by omega] at q3
  exact phs_left hR (by omega) q3 q2 h2
 ·have:0≤fstR (K-i)*(k:Int):=Int.mul_nonneg (by omega) (by omega)
  omega
theorem turn_end (hR:Right n) (a:Sqs n (rms K) (List.replicate n.l.length 0) h ts):wasV ts K=exc n.l h n.t:=by
 rcases K with _ | K
 ·cases a
  rw [was_zero,exc_zero (fun i=>amt_nought _ i)]
 ·obtain ⟨u,g,p,k,h1,h2,h3,h4,h5,h6,h7⟩:=sqs_turn hR a (flow_nought hR) (i:=K) (by omega)
  rw [was_succ,h4,h7 rfl]
theorem turn_done (hR:Right n) (a:Sqs n (rms K) (List.replicate n.l.length 0) h ts) (hK:staN n.l=fstR K):Flow n h∧Phs n 1 h h 0 0∧Top n (exc n.l h n.t):=by
 have hF0:=flow_nought hR
 have hF:=sqs_flow hR (fun x hx=>rms_pos x hx) a hF0
 have hP:Phs n 1 h h 0 0:=by
  rcases K with _ | K
  ·cases a
   obtain ⟨K2,e1,_,e3,e4,e5⟩:=sta_is (l:=n.l) (by have:=mxC_right hR;omega)
   have hz:K2=0:=by
    rcases K2 with _ | K2
    ·rfl
    ·have:=fst_pos K2
     rw [hK] at e1
     have e6:fstR 0=0:=rfl
     omega
   have hm:=e3.1 hz
   refine phs_far_room hR hF0 fun r hr=>?_
   have hn:=(room_nn hF0.wi hr).2
   have:=mxC_le (l:=n.l) (k:=n.l.length) (i:=r / 2) (by omega)
   omega
  ·obtain ⟨u,g,p,k,h1,h2,h3,h4,h5,h6,h7⟩:=sqs_turn hR a hF0 (i:=K) (by omega)
   obtain rfl:=h7 rfl
   rw [show K+1-K=0+1 by omega,show fstR (0+1)=1 from rfl] at h3
   obtain ⟨h3',p3,k3,q3⟩:=phs_exists hR (Int.le_refl 1) h2.okf
   obtain ⟨rfl,rfl,rfl⟩:=phs_again hR (Int.le_refl 1) h3 h1.okf q3
   exact q3
 exact ⟨hF,hP,phs_top hR hP hF⟩
theorem first_small {N:Int} {l:List Arc} (hf:∀ a∈l,fineA N a) (hK:staN l=fstR K) {i:Nat} (hi:i<K):1≤fstR (K-i)∧fstR (K-i)≤1000000:=by
 have hm:mxC l l.length≤1000000:=mxC_in _ (by omega) fun i hi=>by
  have e:arcAt l i=l[i]:=by simp [arcAt,List.getElem?_eq_getElem hi]
  rw [e];exact (hf _ (List.getElem_mem hi)).2.2.2
 obtain ⟨K2,e1,_,e3,e4,e5⟩:=sta_is (l:=l) (by omega)
 have h1:1≤fstR (K-i):=by
  rw [show K-i=(K-i-1)+1 by omega];exact fst_pos _
 have h2:=fst_mono (j:=K-i) (k:=K) (by omega)
 refine ⟨h1,?_⟩
 rw [hK] at e1
 rcases K2 with _ | K2
 ·have e6:fstR 0=0:=rfl
  omega
 ·have:=e5 (by omega);omega
theorem turn_small {n:Net} {h:List Int} {ts:List Tn} {K:Nat} (hR:Right n) (a:Sqs n (rms K) (List.replicate n.l.length 0) h ts) (hf:∀ a∈n.l,fineA n.n a) (h24:n.l.length≤24) {i:Nat} (hi:i<K):0≤(tnAt ts i).v∧(tnAt ts i).v≤24000000:=by
 obtain ⟨u,g,p,k,_,h2,_,h4,_⟩:=sqs_turn hR a (flow_nought hR) hi
 rw [h4]
 refine ⟨(flow_low hR h2).1,?_⟩
 have h5:=toS_bd hR h2.wi n.t (Nat.le_refl _)
 have h6:=frS_bd hR h2.wi n.t (Nat.le_refl _)
 have h7:∀ m:Nat,m≤n.l.length→toS n.l g n.t m≤1000000*(m:Int):=fun m=>by
  induction m with
  | zero=>intro _;exact Int.le_refl 0
  | succ m ih =>
   intro hm
   have e:arcAt n.l m=n.l[m]'(by omega):=by simp [arcAt,List.getElem?_eq_getElem (show m<n.l.length by omega)]
   have h8:=(hf _ (List.getElem_mem (show m<n.l.length by omega))).2.2.2
   have h9:=h2.wi m (by omega)
   rw [e] at h9
   have:=ih (by omega)
   rw [toS_succ]
   split <;> omega
 have h8:=h7 n.l.length (Nat.le_refl _)
 show exc n.l g n.t≤_
 unfold exc
 omega
theorem arcs_some {l:List Arc} (hK:staN l=fstR K) {i:Nat} (hi:i<K):1≤l.length:=by
 rcases l with _ | ⟨a,l⟩
 ·have e:staN ([]:List Arc)=0:=Num.floorF_lo (by decide)
  rw [e] at hK
  obtain ⟨j,rfl⟩:∃ j,K=j+1:=⟨K-1,by omega⟩
  have:=fst_pos j;omega
 ·simp
end
end Ne
end Go.Proofs.YtoadkckceladgaaGreat
namespace Go.Proofs.YtoadkckceladgaaGreat
open Go.Joins Go.ChangeShapes Go.WideShapes Go.RowKit Go.Deep
namespace Ne
section
variable {H:Type} {enc:TypeId × Value→H} {P:Program} {w:World} {base:Nat} {spare:Nat→Bool} {held:Bool}
theorem open_slice_fields {t e:TypeId} {fs:Array Field} {fuel:Nat} {cs:List Value} {x:DataW H × List MemPlace} (ht:P.underlying t=some (.slice e)) (he:P.underlying e=some (.struct fs))
  (hone:oneCellFields P fs=true) (hC:P.cellsOf e=fs.size) (h:DataW.trod enc P w base spare held fuel t cs=some x) :
  cs=[.slice none 0 0] ∨
  ∃ (a:Addr) (len cap:Nat),cs=[.slice (some a) len cap]∧len≤cap∧cap≤maxLen ∧
   ∀ i,i<len→∀ (j:Nat) (f:Field),fs[j]? = some f→∃ (v:Value) (y:DataW H × List MemPlace) (n:Nat),w.cell? (a.add (i*fs.size+j))=some v∧DataW.trod enc P w base spare held n f.type [v]=some y:=by
 rcases open_slice ht h with h0 | ⟨a,len,cap,m,n,D,Pl,hcs,hb,hl,hm,hmm,hx,hi⟩
 ·exact .inl h0.1
 ·refine .inr ⟨a,len,cap,hcs,hl,hm,fun i him j f hj=>?_⟩
  obtain ⟨cs',hc,ht'⟩:=hi i (by rw [hmm];split <;> omega)
  rw [hC] at hc
  obtain ⟨ys,n',hn',hy,hlen,hyl,hf⟩:=DataW.trod_struct he ht'
  obtain ⟨_,hcl,hat⟩:=World.cells?_some hc
  obtain ⟨ho,hk⟩:=hone_of hone j f hj
  have hjl:j<fs.size:=(Array.getElem?_eq_some_iff.1 hj).1
  have hcell:=hat j hjl
  have hv:cs'[j]? = some (cs'[j]'(by omega)):=List.getElem?_eq_getElem (by omega)
  have h1:=hf j f hj
  rw [ho,hk] at h1
  have hone':(cs'.drop j).take 1=[cs'[j]'(by omega)]:=by
   rw [List.drop_eq_getElem_cons (by omega)]
   rfl
  rw [hone'] at h1
  have hys:ys[j]? = some (ys[j]'(by omega)):=List.getElem?_eq_getElem (by omega)
  refine ⟨_,_,n',?_,h1.trans hys⟩
  rw [← Go.Deep.add_add,hcell,hv]
end
end Ne
namespace Ne
section
variable {H:Type} {enc:TypeId × Value→H} {P:Program} {w:World} {base:Nat} {spare:Nat→Bool} {held:Bool}
theorem open_row3 {t e:TypeId} {f0 f1 f2:Field} {fuel:Nat} {cs:List Value} {x:DataW H × List MemPlace} (ht:P.underlying t=some (.slice e)) (he:P.underlying e=some (.struct #[f0,f1,f2]))
  (hone:oneCellFields P #[f0,f1,f2]=true) (hC:P.cellsOf e=3) (i0:P.underlying f0.type=some (.int .i64)) (i1:P.underlying f1.type=some (.int .i64)) (i2:P.underlying f2.type=some (.int .i64))
  (h:DataW.trod enc P w base spare held fuel t cs=some x) :
  ∃ (ao:Option Addr) (cap:Nat) (l:List Arc),cs=[.slice ao l.length cap]∧l.length≤cap∧cap≤maxLen∧(ao=none→cap=0)∧ARow w ao l∧∀ a∈l,a.ok:=by
 rcases open_slice_fields ht he hone hC h with h0 | ⟨a,len,cap,hcs,hl,hm,hf⟩
 ·exact ⟨none,0,[],h0,by simp,by simp,fun _=>rfl,.inl rfl,by simp⟩
 ·have hel:∀ i,i<len→∃ c:Arc,c.ok∧w.cell? (a.add (i*3))=some (.int .i64 c.fr)∧w.cell? (a.add (i*3+1))=some (.int .i64 c.to)∧w.cell? (a.add (i*3+2))=some (.int .i64 c.cap):=by
   intro i hi
   obtain ⟨v0,y0,n0,h0,t0⟩:=hf i hi 0 f0 rfl
   obtain ⟨v1,y1,n1,h1,t1⟩:=hf i hi 1 f1 rfl
   obtain ⟨v2,y2,n2,h2,t2⟩:=hf i hi 2 f2 rfl
   obtain ⟨z0,e0,_,w0⟩:=DataW.trod_int i0 t0
   obtain ⟨z1,e1,_,w1⟩:=DataW.trod_int i1 t1
   obtain ⟨z2,e2,_,w2⟩:=DataW.trod_int i2 t2
   simp only [List.cons.injEq,and_true] at e0 e1 e2
   subst e0 e1 e2
   refine ⟨⟨z0,z1,z2⟩,⟨bounds_i64 w0,bounds_i64 w1,bounds_i64 w2⟩,h0,h1,h2⟩
  obtain ⟨g,hg⟩:=choose_lt hel
  refine ⟨some a,cap,(List.range len).map g,by simpa using hcs,by simpa using hl,hm,fun h=>by (cases h),?_,?_⟩
  ·by_cases h0:len=0
   ·left;subst h0;rfl
   ·right
    have h1:=(hg 0 (by omega)).2.1
    obtain ⟨b,off,sp⟩:=a
    have hsp:=World.cell?_spot h1
    rw [Nat.zero_mul] at hsp
    simp only [Addr.add,if_true] at hsp
    subst hsp
    refine ⟨b,off,rfl,?_,?_⟩
    ·rw [Nat.zero_mul] at h1
     exact Rw.heap_lt_of_cell (o:=off) (by simpa [Addr.add] using h1)
    ·intro i c hc j v hv
     have hi:i<len:=by have:=(List.getElem?_eq_some_iff.1 hc).1;simpa using this
     have e:((List.range len).map g)[i]? = some (g i):=by simp [hi]
     obtain rfl:=Option.some.inj (e.symm.trans hc)
     obtain ⟨_,q0,q1,q2⟩:=hg i hi
     rw [Rw.add_at] at q0 q1 q2
     match j,hv with
     | 0,hv=>simp [encA] at hv;subst hv;exact q0
     | 1,hv=>simp [encA] at hv;subst hv;exact q1
     | 2,hv=>simp [encA] at hv;subst hv;exact q2
     | (j+3),hv=>simp [encA] at hv
  ·intro c hc
   obtain ⟨i,hi,rfl⟩:=List.mem_map.1 hc
   exact (hg i (by simpa using hi)).1
end
section
variable {H:Type} {enc:TypeId × Value→H} {w:World} {base b0:Nat} {r:Reach} {spare:Nat→Bool} {held:Bool}
end
end Ne
namespace Ne
section
variable {H:Type} {enc:TypeId × Value→H} {w:World} {base b0:Nat} {r:Reach} {spare:Nat→Bool} {held:Bool}
theorem open_cells {v:Value} {d:DataW H} {p:List MemPlace} (hv:Value.okWide Tryz.prog w r b0 38 v) (h:DataW.Trod enc Tryz.prog w base spare held 38 v d p) :
  ∃ (l:List Arc) (ao:Option Addr) (cap:Nat),v=.slice ao l.length cap∧(∀ a∈l,a.ok)∧l.length≤cap∧cap≤maxLen∧(ao=none→cap=0)∧ARow w ao l:=by
 obtain ⟨ao,len,cap,rfl⟩:=okWide_slice Tryz.underlying38 hv
 obtain ⟨fuel,hf⟩:=h
 obtain ⟨ao',cap',l,e,hl,hm,hn,hr,hk⟩:=open_row3 Tryz.underlying38 Tryz.underlying69 (by kernel_rfl) (by kernel_rfl) Tryz.underlying3 Tryz.underlying3 Tryz.underlying3 hf
 simp [Value.cells] at e
 obtain ⟨rfl,rfl,rfl⟩:=e
 exact ⟨l,ao,cap,rfl,hk,hl,hm,hn,hr⟩
end
end Ne
end Go.Proofs.YtoadkckceladgaaGreat
namespace Go.Proofs.YtoadkckceladgaaGreat
namespace Ne
theorem max_facts {n:Net} (hR:Right n):∃ (g L:List Int) (p k:Nat),Phs n 1 (List.replicate n.l.length 0) g p k∧Flow n g∧IsLev n g 1 L∧amt L n.t.toNat<0∧Top n (exc n.l g n.t)∧(p:Int)<n.n∧p≤k:=by
 have hF:=flow_nought hR
 obtain ⟨g,p,k,P⟩:=phs_exists hR (Int.le_refl 1) hF.okf
 obtain ⟨_,L,hL,hd⟩:=phs_okf hR (Int.le_refl 1) P hF.okf
 have h1:=phs_flow hR (Int.le_refl 1) P hF
 have h2:=phs_lt hR (Int.le_refl 1) P hF.okf
 exact ⟨g,L,p,k,P,h1,hL,hd,phs_top hR P hF,h2.1,h2.2⟩
theorem arc_says {N:Nat} {l:List Arc} (h:∀ a∈l,fineA (N:Int) a) {j:Nat} (hj:j<l.length):∃ (u v:Nat) (ca:Int),arcAt l j=⟨(u:Int),(v:Int),ca⟩∧u≤N∧v≤N∧0≤ca∧ca≤1000000:=by
 have ha:arcAt l j∈l:=by
  have:arcAt l j=l[j]:=by simp [arcAt,List.getElem?_eq_getElem hj]
  rw [this];exact List.getElem_mem hj
 obtain ⟨h1,h2,h3,h4⟩:=h _ ha
 rw [isNode_at] at h1 h2
 exact ⟨(arcAt l j).fr.toNat,(arcAt l j).to.toNat,(arcAt l j).cap,by rw [Int.toNat_of_nonneg (by omega),Int.toNat_of_nonneg (by omega)],by omega,by omega,h3,h4⟩
end Ne
end Go.Proofs.YtoadkckceladgaaGreat
namespace Go.Proofs.YtoadkckceladgaaGreat
open Go.ChangeShapes Go.WideShapes Go.ChangeAt Go.RowKit
open Lib (hid)
namespace Ne
section
variable (n:Net) (ao:Option Addr) (cap:Nat) (h:List Int) (a:Int) (p k:Nat) (w:World) (hr:ARow w ao n.l) (hl:n.l.length≤1000000) (hok:∀ a∈n.l,in64 a.cap)
include hr hl hok
theorem max_any (hP:reE n (List.replicate n.l.length 0) 1=0→Phs n 1 (List.replicate n.l.length 0) h p k):Calls Tryz.prog 17 #[encN n ao cap,.int .u8 a] w fun e w'=>∃ o c st,e=.returned (.tuple #[.agg #[.slice o (rnG n (List.replicate n.l.length 0) 1 a h).length c,.int .i64 (rnN n (List.replicate n.l.length 0) 1 a p),.int .i64 (rnN n (List.replicate n.l.length 0) 1 a k),.int .i64 st],.int .i64 (rnE n (List.replicate n.l.length 0) 1 a)])∧OwnL w' w.heap.size (.slice o (rnG n (List.replicate n.l.length 0) 1 a h).length c) (rnG n (List.replicate n.l.length 0) 1 a h)∧StP n (List.replicate n.l.length 0) 1 a p st∧Below w.heap.size w w':=by
 obtain ⟨f,hf⟩:∃ f,f=List.replicate n.l.length (0:Int):=⟨_,rfl⟩
 have hfl:f.length=n.l.length:=by rw [hf];simp
 have HB0:=hid (((Below.refl w.heap.size w).alloc (Nat.le_refl _) (.cells #[.int .i64 n.n,.int .i64 n.s,.int .i64 n.t,.slice ao n.l.length cap] 24)).alloc (by simp) (.cells #[.slice none 0 0,.int .i64 0,.int .i64 0,.int .i64 0] 41))
 have HN0:=hid (netBox_alloc (netBox_new w n.n n.s n.t (.slice ao n.l.length cap)) (.cells #[.slice none 0 0,.int .i64 0,.int .i64 0,.int .i64 0] 41))
 have HX0:=hid (runBox_at (w.alloc (.cells #[.int .i64 n.n,.int .i64 n.s,.int .i64 n.t,.slice ao n.l.length cap] 24)) (b:=w.heap.size+1) (by simp) (.slice none 0 0) 0 0 0)
 have HZ0:=hid (runBox_lt HX0.out)
 generalize hW:((w.alloc (.cells #[.int .i64 n.n,.int .i64 n.s,.int .i64 n.t,.slice ao n.l.length cap] 24)).alloc (.cells #[.slice none 0 0,.int .i64 0,.int .i64 0,.int .i64 0] 41))=W0 at *
 have hmk:=make_l n.l.length hl
 have hm:Below W0.heap.size W0 (W0.drew.alloc (.cells (madeCells #[.int .i64 0] n.l.length) 2)):=(below_drew (Below.refl _ _)).alloc (Nat.le_refl _) _
 have hrow:IRow (W0.drew.alloc (.cells (madeCells #[.int .i64 0] n.l.length) 2)) (some ⟨W0.heap.size,0,none⟩) f:=by rw [hf];exact (lbox_made W0.drew n.l.length rfl).irow
 have HMB:=hid hm
 have FC:=hid (from_any n ao cap (some ⟨W0.heap.size,0,none⟩) n.l.length f h 1 a p k _ (hr.kept (HB0.out.trans (hm.mono HB0.out.size))) hrow hl hok (by rw [hf];exact hP))
 rw [hfl] at FC
 rw [← hf]
 obtain ⟨m0,m1,m2,m3⟩:=netBox_cells (netBox_below HN0.out hm (netBox_lt HN0.out))
 obtain ⟨n0,n1,n2,n3⟩:=netBox_cells HN0.out
 have HW:=hid hW
 have HW0:=HB0
 clear hr hl hok hP hf hfl hm hrow hW
 generalize StP n f 1 a p=SP at *
 generalize rnG n f 1 a h=G at *
 generalize rnN n f 1 a p=PP at *
 generalize rnN n f 1 a k=KK at *
 generalize rnE n f 1 a=E at *
 go_enter Tryz.func17,Tryz.ntmps17
 go_wp2
 rw [HW.out]
 have hS0:=(show (fun w'=>w'.cell? ⟨w.heap.size,0,none⟩=some (.int .i64 n.n)∧w'.cell? ⟨w.heap.size,1,none⟩=some (.int .i64 n.s)∧w'.cell? ⟨w.heap.size,2,none⟩=some (.int .i64 n.t)∧w'.cell? ⟨w.heap.size,3,none⟩=some (.slice ao n.l.length cap)) W0.drew from netBox_cells HN0.out)
 have hS1:=(show (fun w'=>w'.cell? ⟨w.heap.size,0,none⟩=some (.int .i64 n.n)∧w'.cell? ⟨w.heap.size,1,none⟩=some (.int .i64 n.s)∧w'.cell? ⟨w.heap.size,2,none⟩=some (.int .i64 n.t)∧w'.cell? ⟨w.heap.size,3,none⟩=some (.slice ao n.l.length cap)) (W0.drew.alloc (.cells (madeCells #[.int .i64 0] n.l.length) 2)) from ⟨m0,m1,m2,m3⟩)
 refine Rh.start (S:=(fun w'=>w'.cell? ⟨w.heap.size,0,none⟩=some (.int .i64 n.n)∧w'.cell? ⟨w.heap.size,1,none⟩=some (.int .i64 n.s)∧w'.cell? ⟨w.heap.size,2,none⟩=some (.int .i64 n.t)∧w'.cell? ⟨w.heap.size,3,none⟩=some (.slice ao n.l.length cap))) (by kernel_rfl) ?_
 refine Rh.tp 6 0 hS0 ?_
 refine Rh.tp 7 1 hS0 ?_
 refine Rh.tp 8 2 hS0 ?_
 refine Rh.tp 9 3 hS0 ?_
 refine Rh.tp 11 5 hS0 ?_
 refine Rh.step (i:=4) (by kernel_rfl) rfl fun K' hK'=>?_
 have HK:=hid hK'
 clear hK'
 go_simp
 refine HK.out _ _ ⟨hS1,?_⟩
 clear HK K'
 try simp only [Act.put,Rh.q1,Rh.q2,Rh.q3]
 refine Rh.step (i:=6) (by kernel_rfl) rfl fun K' hK'=>?_
 have HK:=hid hK'
 clear hK'
 go_simp
 refine FC.out.mono ?_
 rintro e w2 ⟨o,c,st,rfl,ho,hst,hb⟩
 have HO2:=hid ho
 have HST:=hid hst
 have HB2:=hid (HMB.out.trans (hb.mono HMB.out.size))
 have X2:=runBox_below HX0.out HB2.out HZ0.out
 have HX2:=hid X2
 obtain ⟨y0,y1,y2,y3⟩:=runBox_cells X2
 have f0:=runBox_frozen X2 0
 have f1:=runBox_frozen X2 1
 have f2:=runBox_frozen X2 2
 have f3:=runBox_frozen X2 3
 have hS2:=(show (fun w'=>w'.cell? ⟨w.heap.size,0,none⟩=some (.int .i64 n.n)∧w'.cell? ⟨w.heap.size,1,none⟩=some (.int .i64 n.s)∧w'.cell? ⟨w.heap.size,2,none⟩=some (.int .i64 n.t)∧w'.cell? ⟨w.heap.size,3,none⟩=some (.slice ao n.l.length cap)) w2 from netBox_cells (netBox_below HN0.out HB2.out (netBox_lt HN0.out)))
 have hS3:=(show (fun w'=>w'.cell? ⟨w.heap.size,0,none⟩=some (.int .i64 n.n)∧w'.cell? ⟨w.heap.size,1,none⟩=some (.int .i64 n.s)∧w'.cell? ⟨w.heap.size,2,none⟩=some (.int .i64 n.t)∧w'.cell? ⟨w.heap.size,3,none⟩=some (.slice ao n.l.length cap)) ((((w2.setCell ⟨w.heap.size+1,0,none⟩ (.slice o G.length c)).setCell ⟨w.heap.size+1,1,none⟩ (.int .i64 PP)).setCell ⟨w.heap.size+1,2,none⟩ (.int .i64 KK)).setCell ⟨w.heap.size+1,3,none⟩ (.int .i64 st)) from netBox_cells (netBox_other (netBox_other (netBox_other (netBox_other (netBox_below HN0.out HB2.out (netBox_lt HN0.out)) (by omega)) (by omega)) (by omega)) (by omega)))
 clear hb ho X2 hst
 refine HK.out _ _ ⟨hS2,?_⟩
 clear HK K'
 try simp only [Act.put,Rh.q1,Rh.q2,Rh.q3]
 refine Rh.tp 13 7 hS2 ?_
 refine Rh.tp 14 8 hS2 ?_
 refine Rh.step (i:=9) (by kernel_rfl) rfl fun K' hK'=>?_
 have HK:=hid hK'
 clear hK'
 go_simp
 refine HK.out _ _ ⟨hS3,?_⟩
 clear HK K'
 try simp only [Act.put,Rh.q1,Rh.q2,Rh.q3]
 refine Rh.tp 5 10 hS3 ?_
 refine Rh.done (by kernel_rfl) ?_ _
 go_wp2
 refine bodyPost_ret_by (results_cell_one rfl _ _ (w.heap.size+1) 41 _ (0,0) _ rfl (runBox_all (v2:=.slice o G.length c) (p2:=PP) (k2:=KK) (s2:=st) HX2.out) Tryz.underlying41 rfl (by kernel_rfl)) rfl ?_
 have hz:=HW0.out.size
 exact ⟨o,c,st,rfl,Rw.own_base (runBox_own HX2.out HO2.out (by have:=HMB.out.size;have:=HZ0.out;omega) _ _ _ _) (by have:=HMB.out.size;have:=HZ0.out;omega),HST.out,below_all (HW0.out.trans (HB2.out.mono hz)) (by omega) _ _ _ _⟩
end
section
variable {n:Net} (ao:Option Addr) (cap:Nat) {h:List Int} {p k:Nat} (w:World) (ck:checkN n=0) (hr:ARow w ao n.l) (P:Phs n 1 (List.replicate n.l.length 0) h p k) (q:Bool)
include ck hr P
theorem max_flow:Calls Tryz.prog 17 #[encN n ao cap,.int .u8 (engC q)] w fun e w'=>∃ o c st,e=.returned (.tuple #[.agg #[.slice o n.l.length c,.int .i64 (p:Int),.int .i64 (k:Int),.int .i64 st],.int .i64 0])∧IRow w' o h∧(q=false→st=0)∧0≤st∧st≤(p:Int)*mostV n∧Below w.heap.size w w':=by
 have hR:=right_of ck
 have hF:=flow_nought hR
 have e0:=reE_flow ck hF (Int.le_refl 1)
 have e:rnE n (List.replicate n.l.length 0) 1 (engC q)=0:=by
  unfold rnE;rw [if_neg (by simpa using e0),if_pos (by cases q;exact .inl rfl;exact .inr rfl)]
 have hm:=max_any n ao cap h (engC q) p k w hr (by have:=hR.len;omega) (cap_64 hR) (fun _=>P)
 rw [(rn_ok (h:=h) e p).1,(rn_ok (h:=h) e p).2,(rn_ok (h:=h) e k).2,e,(phs_okf hR (Int.le_refl 1) P hF.okf).1.len] at hm
 refine hm.mono ?_
 rintro e w' ⟨o,c,st,h1,h2,⟨h3,h4,h5⟩,h6⟩
 exact ⟨o,c,st,h1,own_irow h2,fun hq=>h3 (by rw [hq];decide),h4,h5 (by assumption),h6⟩
end
end Ne
end Go.Proofs.YtoadkckceladgaaGreat
