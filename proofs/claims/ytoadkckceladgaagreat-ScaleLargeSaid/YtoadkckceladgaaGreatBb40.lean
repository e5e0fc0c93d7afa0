/-
  Tsw, Lwt, Glv
-/
import Derived.Test.YtoadkckceladgaaGreatBb39
import Derived.Test.YtoadkckceladgaaGreatBb14
import Derived.Test.YtoadkckceladgaaGreatBb17
import Derived.Test.YtoadkckceladgaaGreatBb18
import Derived.Test.YtoadkckceladgaaGreatBb19
import Derived.Deep.LoopGhost
import Derived.Deep.DeepCutAuto
import Derived.WalkMore
import Derived.RegionTactic
import Derived.BigRegion
import Derived.Test.YtoadkckceladgaaGreatBb16
import Derived.Test.YtoadkckceladgaaGreatBb5
set_option linter.unusedVariables false
set_option linter.unusedSimpArgs false
set_option maxRecDepth 100000
set_option maxHeartbeats 4000000
namespace Go.Proofs.YtoadkckceladgaaGreat
open Go.ChangeShapes Go.WideShapes Go.ChangeAt Go.RowKit
open Lib (hid)
namespace Ne
open Sp (Off Ext)
open Fo (Ft FoO fc)
theorem results_tmp4 {fn:Func} {t u v y:Tmp} (h:fn.results = #[.tmp t,.tmp u,.tmp v,.tmp y]) (tmps:Array Value) (P:Program) (w:World) :
  (results fn tmps).run P w=.ok (.tuple #[tmps.getD t undef,tmps.getD u undef,tmps.getD v undef,tmps.getD y undef]) w:=by
 simp [results,h]
def mostV (n:Net):Int:=20000*(n.n+(n.l.length:Int))*(2+Num.logF n.n)*(2+Num.logF n.n)
theorem log_up (N:Nat) (h2:2≤N) (hN:N≤500):∃ k q:Nat,Num.logF (N:Int)=(k:Int)∧1≤k∧k≤9∧Num.logF ((N+1:Nat):Int)=(q:Int)∧q≤k+1∧(N+1).log2≤q:=by
 obtain ⟨k,h1,h3,_,h4,h5⟩:=Num.logF_spec (N:Int) (by omega) (by omega)
 obtain ⟨q,g1,g3,_,g4,g5⟩:=Num.logF_spec ((N+1:Nat):Int) (by omega) (by omega)
 rw [← Num.pc] at h4 h5 g4 g5
 have e4:N≤2 ^ k:=by omega
 have e5:2 ^ (k-1)<N:=by omega
 have e6:2 ^ (q-1)<N+1:=by omega
 refine ⟨k,q,h1,h3,?_,g1,?_,?_⟩
 ·rcases Nat.lt_or_ge 9 k with c | c
  ·have:=Nat.pow_le_pow_right (n:=2) (by omega) (show 9≤k-1 by omega)
   omega
  ·exact c
 ·rcases Nat.lt_or_ge (k+1) q with c | c
  ·have:=Nat.pow_le_pow_right (n:=2) (by omega) (show k+1≤q-1 by omega)
   have:2 ^ (k+1)=2*2 ^ k:=by rw [Nat.pow_succ];omega
   omega
  ·exact c
 ·have:=Sp.log_le (l:=N+1) (n:=N+1) (Nat.le_refl _) (by omega)
  rw [g1] at this
  simpa using this
theorem fc_bound (N:Nat) (h2:2≤N) (hN:N≤500):∃ k:Nat,Num.logF (N:Int)=(k:Int)∧k≤9∧fc (N+1)+1≤1000*((2+k)*(2+k)):=by
 obtain ⟨k,q,h1,h3,h4,h5,h6,h7⟩:=log_up N h2 hN
 refine ⟨k,h1,h4,?_⟩
 have hlg:Sp.lg (N+1)=q:=by unfold Sp.lg;rw [h5];simp
 have e3:fc (N+1)≤(6*(18*q+4)+(60*q+12))*(3*q+3)+12*(18*q+4):=by
  unfold fc Fo.tc Sp.ac Sp.jc
  rw [hlg]
  exact Nat.add_le_add_right (Nat.mul_le_mul_left _ (by omega)) _
 have e4:(6*(18*q+4)+(60*q+12))*(3*q+3)≤(6*(18*(k+1)+4)+(60*(k+1)+12))*(3*(k+1)+3):=Nat.mul_le_mul (by omega) (by omega)
 have e5:∀ k,k≤9→(6*(18*(k+1)+4)+(60*(k+1)+12))*(3*(k+1)+3)+12*(18*(k+1)+4)+1≤1000*((2+k)*(2+k)):=by
  intro k hk
  have:k<10:=by omega
  revert k
  decide
 have:=e5 k h4
 omega
theorem all_le {C N K M k:Nat} (hC:C≤1000*((2+k)*(2+k))) (h1:1≤C) (h2:2≤N) (hK:K≤M):K+(N+1)+C*(15*K+(N+1))+4*(C*(N+1))+K≤20000*(N+M)*((2+k)*(2+k)):=by
 have e1:K+(N+1)+K≤C*(2*K+(N+1)):=by
  have:=Nat.mul_le_mul_right (2*K+(N+1)) h1
  omega
 have e2:C*(2*K+(N+1))+C*(15*K+(N+1))+C*(4*(N+1))≤C*(17*(N+M)):=by
  rw [← Nat.mul_add,← Nat.mul_add]
  exact Nat.mul_le_mul_left C (by omega)
 have e3:C*(17*(N+M))≤(1000*((2+k)*(2+k)))*(17*(N+M)):=Nat.mul_le_mul_right _ hC
 have e4:(1000*((2+k)*(2+k)))*(17*(N+M))=17000*((N+M)*((2+k)*(2+k))):=by
  rw [Nat.mul_comm (1000*_) (17*_),Nat.mul_assoc 17,Nat.mul_left_comm (N+M) 1000,← Nat.mul_assoc 17 1000]
 have e5:20000*(N+M)*((2+k)*(2+k))=20000*((N+M)*((2+k)*(2+k))):=Nat.mul_assoc _ _ _
 have e6:4*(C*(N+1))=C*(4*(N+1)):=Nat.mul_left_comm _ _ _
 omega
theorem leads_few {n:Net} {L:List Int} {TL:List Nat} (hL:Lds n.l L TL):TL.length≤n.l.length:=by
 have h1:=nodup_len (L:=n.l.length) (half_nodup hL) fun i hi=>by
  obtain ⟨r,hr,e2⟩:=List.mem_map.1 hi
  have:=hL.lt r hr
  omega
 rwa [List.length_map] at h1
section
variable {n:Net} {ao:Option Addr} {cap:Nat} {x:Int} {w0 w1:World} {sb lb ab pb cb p:Nat} {rv:Value} {lo hi B b1:Nat} {VA:Nat→Value} {TL:List Nat}
theorem block_start {w:World} {VS:Nat→Value} {c m H:Nat} {f0 L:List Int} (hR:Right n) (hL:Lds n.l L TL) (hF:Okf n f0) (hm:m=n.n.toNat+1) (hm2:m≤3000)
  (M:TsM n ao cap x w0 w1 sb lb ab pb cb p rv lo hi B b1 VA TL w (roomL n.l f0 (2*n.l.length)) VS (fun v=>TL.filter fun r=>decide ((trF n.l r).toNat=v)) (List.replicate (n.n.toNat+1) false) c (Fo.newS (List.replicate (n.n.toNat+1) 4611686018427387904)) 0 0)
  (hH:c+(fc m+1)*(15*TL.length+m)≤H):BlockI n ao cap x w0 w1 sb lb ab pb cb p rv lo hi B b1 VA TL f0 w c m H 0 (H-c) false:=by
 have hg:Fo.Good (Fo.newS (List.replicate (n.n.toNat+1) 4611686018427387904)):=Fo.good_new (top_newE (by omega))
 have hp:=psi_start (n:=n) (TL:=TL) x f0 (List.replicate (n.n.toNat+1) 4611686018427387904)
 have hp2:=Nat.mul_le_mul_left (fc m+1) hp
 rw [← hm] at hp2
 refine ⟨f0,[],_,VS,_,_,c,_,0,0,M,tre_start hR hL hF.wi hg,hF,.nil f0,fun y u hy=>(by cases hy),?_,rfl,by omega,rfl,replB _ _,?_⟩
 ·show (List.replicate (n.n.toNat+1) 4611686018427387904).length=m
  rw [List.length_replicate,hm]
 ·have e:psi n TL f0 x (fun v=>TL.filter fun r=>decide ((trF n.l r).toNat=v)) (Fo.newS (List.replicate (n.n.toNat+1) 4611686018427387904)) (List.replicate (n.n.toNat+1) false) (aheadN n TL)≤15*TL.length+m:=by
   rw [hm];exact hp
  have:=Nat.mul_le_mul_left (fc m+1) e
  omega
theorem block_done {w:World} {c0 m H k:Nat} {f0 g0 L:List Int} {W0:List (List Nat × Int)} (hL:Lds n.l L TL) (hB:IsBlk n.l TL f0 x n.s n.t W0 g0) (h:BlockR n ao cap x w0 w1 sb lb ab pb cb p rv lo hi B b1 VA TL f0 w c0 m H k) :
  k=W0.length∧AmI n ao cap x w0 w1 sb lb ab pb cb p rv lo hi B b1 VA TL g0 w 0 (c0+k) m (H+4*((fc m+1)*m))∧(∃ RL VS U S c f flo fhi,TsM n ao cap x w0 w1 sb lb ab pb cb p rv lo hi B b1 VA TL w RL VS U S c f flo fhi)∧Okf n g0:=by
 obtain ⟨gl,Ws,RL,VS,U,S,c,f,flo,fhi,M,T,hF,hI,hm,hk,hc0,hc⟩:=h
 obtain ⟨rfl,rfl⟩:=blk_one hI hB
 exact ⟨hk.symm,⟨RL,VS,U,S,c,f,flo,fhi,M,T,hm,hc0,fun v hv=>by omega,by rw [Nat.sub_zero];omega⟩,⟨RL,VS,U,S,c,f,flo,fhi,M⟩,hF⟩
end
set_option maxHeartbeats 8000000 in
theorem tblock_own (n:Net) (ao:Option Addr) (cap:Nat) (fo:Option Addr) (fc':Nat) (f:List Int) (x:Int) (L0:List Int) (W0:List (List Nat × Int)) (g0:List Int) (w:World) (hr:ARow w ao n.l) (hf:IRow w fo f) (hl:n.l.length≤1000000) (hok:∀ a∈n.l,in64 a.cap) (hL:reE n f x=0→IsLev n f x L0)
  (hB:reE n f x=0→IsBlk n.l (leadL n.l f x L0 (2*n.l.length)) f x n.s n.t W0 g0) :
  Calls Tryz.prog 103 #[encN n ao cap,.slice fo f.length fc',.int .i64 x] w fun e w'=>∃ o c st,e=.returned (.tuple #[.slice o (blG n f x g0).length c,.int .i64 ((blW n f x W0).length:Int),.int .i64 st,.int .i64 (reE n f x)])∧OwnL w' w.heap.size (.slice o (blG n f x g0).length c) (blG n f x g0)∧(reE n f x≠0→st=0) ∧
   (reE n f x=0→(W0.length:Int)≤st∧n.n<st∧((leadL n.l f x L0 (2*n.l.length)).length:Int)≤st∧st≤mostV n)∧Below w.heap.size w w':=by
 have HB0:=hid ((Below.refl w.heap.size w).alloc (Nat.le_refl _) (.cells #[.int .i64 n.n,.int .i64 n.s,.int .i64 n.t,.slice ao n.l.length cap] 24))
 have HN0:=hid (netBox_new w n.n n.s n.t (.slice ao n.l.length cap))
 obtain ⟨n0,n1,n2,n3⟩:=netBox_cells HN0.out
 have RM:=hid (fun w' h1 h2=>droom_any n ao cap fo fc' f w' h1 h2 hl hok)
 have LD:=hid (fun w' h1 h2=>dleads_own n ao cap fo fc' f x L0 w' h1 h2 hl hok hL)
 have HR:=hid hr
 have HF:=hid hf
 by_cases c0:reE n f x=0
 case neg =>
  have e1:blG n f x g0=[]:=by unfold blG;rw [if_pos c0]
  have e2:blW n f x W0=[]:=by unfold blW;rw [if_pos c0]
  rw [e1,e2]
  by_cases ck:chkF n f=0
  ·have HC0:=hid c0
   have c0':(reE n f x != 0)=true:=by simpa using c0
   have ck':(chkF n f != 0)=false:=by simpa using ck
   generalize roomV n f=RV at *
   generalize chkF n f=CK at *
   clear c0 hL hB hr hf hl hok e1 e2 ck
   generalize ldV n f x L0=LV at *
   generalize reE n f x=re at *
   go_enter Tryz.func103,Tryz.ntmps103
   go_wp2_with fail
   refine (RM.out _ (HR.out.kept HB0.out) (HF.out.kept HB0.out)).mono ?_
   rintro e w2 ⟨rv,rfl,_,hb⟩
   have HB2:=hid (HB0.out.trans (hb.mono HB0.out.size))
   have HN2:=hid (netBox_below HN0.out hb (netBox_lt HN0.out))
   clear hb n0 n1 n2 n3
   obtain ⟨n0,n1,n2,n3⟩:=netBox_cells HN2.out
   go_wp2_with fail
   refine (LD.out _ (HR.out.kept HB2.out) (HF.out.kept HB2.out)).mono ?_
   rintro e w3 ⟨o,c,rfl,_,hb⟩
   have HB3:=hid (HB2.out.trans (hb.mono HB2.out.size))
   clear hb n0 n1 n2 n3
   go_wp2
   (try simp only [Exit.inBlock,Exit.then])
   refine bodyPost_ret (results_tmp4 rfl _ _ _) rfl ?_
   exact ⟨none,0,0,rfl,Rw.own_nil _ _,fun _=>rfl,fun h=>absurd h HC0.out,HB3.out⟩
  ·have hre:reE n f x=chkF n f:=by unfold reE;rw [if_pos ck]
   rw [hre]
   have HC0:=hid ck
   have ck':(chkF n f != 0)=true:=by simpa using ck
   generalize roomV n f=RV at *
   clear c0 hL hB hr hf hl hok e1 e2 LD hre ck
   generalize chkF n f=CK at *
   go_enter Tryz.func103,Tryz.ntmps103
   go_wp2_with fail
   refine (RM.out _ (HR.out.kept HB0.out) (HF.out.kept HB0.out)).mono ?_
   rintro e w2 ⟨rv,rfl,_,hb⟩
   have HB2:=hid (HB0.out.trans (hb.mono HB0.out.size))
   clear hb n0 n1 n2 n3
   go_wp2
   (try simp only [Exit.inBlock,Exit.then])
   refine bodyPost_ret (results_tmp4 rfl _ _ _) rfl ?_
   exact ⟨none,0,0,rfl,Rw.own_nil _ _,fun _=>rfl,fun h=>absurd h HC0.out,HB2.out⟩
 obtain ⟨hck,hx⟩:=reE_ok c0
 obtain ⟨ck,hF⟩:=okf_of hck
 have hR:=right_of ck
 have e1:blG n f x g0=g0:=by unfold blG;rw [if_neg (by simpa using c0)]
 have e2:blW n f x W0=W0:=by unfold blW;rw [if_neg (by simpa using c0)]
 have e3:=(lvV_ok (L:=L0) c0).2.1
 have e4:roomV n f=roomL n.l f (2*n.l.length):=by unfold roomV;rw [if_neg (by simpa using hck)]
 have hLd:=lds_of n.l f x L0
 have hblk:=hB c0
 rw [e1,e2,c0]
 rw [e3,c0] at LD
 rw [e4,hck] at RM
 generalize leadL n.l f x L0 (2*n.l.length)=TL at *
 have hTM:=leads_few hLd
 have hML:=hR.len
 have hN0:=hR.n0
 have hN1:=hR.n1
 have hfl:=hF.len
 obtain ⟨N,hN⟩:∃ N,N=n.n.toNat:=⟨_,rfl⟩
 obtain ⟨lk,hlk,hk9,hfc⟩:=fc_bound N (by omega) (by omega)
 obtain ⟨m,hm⟩:∃ m,m=n.n.toNat+1:=⟨_,rfl⟩
 have hmN:m=N+1:=by omega
 rw [← hmN] at hfc
 have hall:=all_le (N:=N) (K:=TL.length) (M:=n.l.length) (k:=lk) hfc (by omega) (by omega) hTM
 rw [← hmN] at hall
 have hmo:mostV n=((20000*(N+n.l.length)*((2+lk)*(2+lk)):Nat):Int):=by
  unfold mostV
  rw [show n.n=(N:Int) by omega,hlk]
  push_cast
  rw [Int.mul_assoc]
 have hk11:(2+lk)*(2+lk)≤121:=Nat.mul_le_mul (show 2+lk≤11 by omega) (show 2+lk≤11 by omega)
 have hmoB:20000*(N+n.l.length)*((2+lk)*(2+lk))≤20000*2500*121:=Nat.mul_le_mul (Nat.mul_le_mul_left _ (by omega)) hk11
 have hCB:fc m+1≤1000*121:=Nat.le_trans hfc (Nat.mul_le_mul_left _ hk11)
 rw [hmo]
 obtain ⟨MO,hMO⟩:∃ MO,MO=20000*(N+n.l.length)*((2+lk)*(2+lk)):=⟨_,rfl⟩
 rw [← hMO] at hall hmoB ⊢
 clear hMO hmo hfc
 have NS:=hid (fun (w4:World) (rv:Value) (lo':Option Addr) (lc cb:Nat) h1 h2 h3 h4 h5 h6 h7=>tnew_any (cap:=cap) (x:=x) (w:=w4) (rv:=rv) (lo':=lo') (lc:=lc) (cb:=cb) (RL0:=roomL n.l f (2*n.l.length)) hR hLd (by omega) hr h1 h2 h3 0 h4 h5 h6 h7 (by omega))
 have BL:=hid (show ∀ (w5:World) sb lb ab pb cb p rv lo hi B b1 VA VS,TsM n ao cap x w w5 sb lb ab pb cb p rv lo hi B b1 VA TL w5 (roomL n.l f (2*n.l.length)) VS (fun v=>TL.filter fun r=>decide ((trF n.l r).toNat=v)) (List.replicate (n.n.toNat+1) false) (0+(n.n.toNat+1)+TL.length) (Fo.newS (List.replicate (n.n.toNat+1) 4611686018427387904)) 0 0→Calls Tryz.prog 106 #[.pointer (some ⟨sb,0,none⟩)] w5 fun e w6=>e=.returned (.int .i64 (W0.length:Int)) ∧
   AmI n ao cap x w w5 sb lb ab pb cb p rv lo hi B b1 VA TL g0 w6 0 (m+TL.length+W0.length) m (TL.length+m+(fc m+1)*(15*TL.length+m)+4*((fc m+1)*m))∧(∃ RL VS U S c f flo fhi,TsM n ao cap x w w5 sb lb ab pb cb p rv lo hi B b1 VA TL w6 RL VS U S c f flo fhi)∧Okf n g0 from fun w5 sb lb ab pb cb p rv lo hi B b1 VA VS M=>by
  rw [show 0+(n.n.toNat+1)+TL.length=m+TL.length by omega] at M
  refine (block_any (H:=TL.length+m+(fc m+1)*(15*TL.length+m)) hR hLd hx (by omega) (by omega) (block_start hR hLd hF hm (by omega) M (by omega))).mono ?_
  rintro e w6 ⟨k,rfl,h⟩
  obtain ⟨rfl,h1,h2,h3⟩:=block_done hLd hblk h
  exact ⟨rfl,h1,h2,h3⟩)
 have AM:=hid (fun (w5 w6:World) sb lb ab pb cb p rv lo hi B b1 VA lo' lc hF2 h1 h2 (h:AmI n ao cap x w w5 sb lb ab pb cb p rv lo hi B b1 VA TL g0 w6 0 (m+TL.length+W0.length) m (TL.length+m+(fc m+1)*(15*TL.length+m)+4*((fc m+1)*m)))=>amounts_any (fo:=fo) (fcap:=fc') (lo':=lo') (lc:=lc) hR hLd hF2 hm hfl (blkW_facts hLd hx hfl hblk.1).1 hf h1 h2 h (by omega))
 have hg0:g0.length=n.l.length:=((blkW_facts hLd hx hfl hblk.1).1).len
 have HG0:=hid hg0
 have HALL:=hid (show TL.length+m+(fc m+1)*(15*TL.length+m)+4*((fc m+1)*m)+TL.length≤MO∧MO≤6050000000∧n.n<(m:Int) from ⟨hall,by omega,by omega⟩)
 clear hL hB hr hf hl hok e1 e2 e3 e4 hblk hF hck c0 hLd hR hx hTM hML hN0 hN1 hall hmoB hCB hk11 hN hlk hk9 hm hmN ck
 rw [hfl] at RM LD ⊢
 rw [hg0]
 clear hfl hg0
 generalize hTT:fc m+1=C at *
 clear hTT
 generalize TL.length=K at *
 have hmf:∀ (fn:Fn) (first cap:Array Value) (w:World),(Instr.makeFunc fn first cap).run Tryz.prog w=.ok (.func fn first cap) w:=fun _ _ _ _=>rfl
 go_enter Tryz.func103,Tryz.ntmps103
 go_wp2_with fail
 refine (RM.out _ (HR.out.kept HB0.out) (HF.out.kept HB0.out)).mono ?_
 rintro e w2 ⟨rv,rfl,hown,hb⟩
 have HB2:=hid (HB0.out.trans (hb.mono HB0.out.size))
 have HN2:=hid (netBox_below HN0.out hb (netBox_lt HN0.out))
 have HO2:=hid (Rw.own_base hown (B':=w.heap.size) HB0.out.size)
 have HRE:=hid (fun g hg=>Rw.own_lt HO2.out g hg)
 clear hown hb n0 n1 n2 n3
 obtain ⟨n0,n1,n2,n3⟩:=netBox_cells HN2.out
 go_wp2_with fail
 refine (LD.out _ (HR.out.kept HB2.out) (HF.out.kept HB2.out)).mono ?_
 rintro e w3 ⟨lo',lc,rfl,hli,hb⟩
 have HB3:=hid (HB2.out.trans (hb.mono HB2.out.size))
 have HN3:=hid (netBox_below HN2.out hb (netBox_lt HN2.out))
 have HO3:=hid (Rw.own_below HO2.out hb)
 have HLE:=hid (fun g hg=>Rw.own_lt hli g hg)
 have HL3:=hid (Rw.own_base hli (B':=w.heap.size) HB2.out.size)
 have HA4:=hid ((Below.refl w3.heap.size w3).alloc (Nat.le_refl _) (.cells #[.int .i64 0] 157))
 have HB4:=hid (HB3.out.trans (HA4.out.mono HB3.out.size))
 have HN4:=hid (netBox_below HN3.out HA4.out (netBox_lt HN3.out))
 have HNS:=hid (NS.out _ rv lo' lc w3.heap.size HB4.out (Rw.own_below HO3.out HA4.out) (Rw.own_below HL3.out HA4.out) (by show (w3.heap.push _)[w3.heap.size]? = _;simp) HB3.out.size (fun g hg=>by have:=HRE.out g hg;have:=hb.size;omega) (fun g hg=>by
  have h1:=HLE.out g hg
  exact ⟨h1.2,fun h2=>by have:=(HRE.out g h2).2;omega⟩))
 clear hb hli n0 n1 n2 n3
 obtain ⟨n0,n1,n2,n3⟩:=netBox_cells HN4.out
 go_wp2_with fail
 refine HNS.out.mono ?_
 rintro e w5 ⟨sb,lb,ab,pb,p,lo,hi,B,b1,VA,VS,rfl,hM,hl5,hm5⟩
 have HBL:=hid (BL.out _ _ _ _ _ _ _ _ _ _ _ _ _ _ hM)
 have HL5:=hid hl5
 have HM5:=hid hm5
 clear hM hl5 hm5 n0 n1 n2 n3 HNS
 go_wp2_with fail
 refine HBL.out.mono ?_
 rintro e w6 ⟨rfl,hA,_,hF2⟩
 have HAM:=hid (AM.out _ _ _ _ _ _ _ _ _ _ _ _ _ _ _ _ hF2 HL5.out HM5.out hA)
 clear hA hF2
 go_wp2_with fail
 refine HAM.out.mono ?_
 rintro e w7 ⟨o7,lc7,c2,f2,flo2,fhi2,F7,rfl,hrow,hcb,hsb9,hfo,hc0,hcH,hlow⟩
 have HROW:=hid hrow
 have HLOW:=hid hlow
 have HS:=hid (show c2+fhi2≤MO∧MO≤6050000000∧m+K+W0.length≤c2∧n.n<(m:Int) from ⟨by have:=HALL.out;omega,HALL.out.2.1,hc0,HALL.out.2.2⟩)
 have HST:=hid (Fo.fsteps_any (hfo.off (G:=fun _=>False) (.of_below (below_drew (Below.refl w7.heap.size w7))) fun _ _ c=>c) (by have:=HS.out;omega))
 clear hrow hlow hfo hc0 hcH HAM HBL
 go_wp2_with fail
 go_region_with (go_at_call 108;refine HST.out.mono ?_;rintro e w8 ⟨sc,rfl,hs1,hs2,rfl⟩;have HSC:=hid hs2;have hw1:IntKind.i64.wrap ((c2:Int)+(sc:Int))=(c2:Int)+(sc:Int):=(by have:=HS.out;rw [IntKind.wrap_i64];omega);clear hs1 hs2)
 all_goals
  go_wp2
  (try simp only [Exit.inBlock,Exit.then])
  refine bodyPost_ret (results_tmp4 rfl _ _ _) rfl ?_
  refine ⟨o7,lc7,(c2:Int)+(sc:Int),?_,Rw.own_below HROW.out (below_drew (Below.refl _ _)),fun h=>absurd rfl h,fun _=>?_,below_drew HLOW.out⟩
  ·rfl
  ·have h1:=HS.out
   have h2:=HSC.out
   omega
end Ne
namespace Ne
end Ne
namespace Ne
section
variable (n:Net) (ao:Option Addr) (cap:Nat) (fo:Option Addr) (fc:Nat) (f:List Int) (x:Int) (L0:List Int) (w:World) (hr:ARow w ao n.l) (hf:IRow w fo f) (hl:n.l.length≤1000000) (hok:∀ a∈n.l,in64 a.cap) (hL:reE n f x=0→IsLev n f x L0)
include hr hf hl hok hL
theorem dlevels_any:Calls Tryz.prog 41 #[encN n ao cap,.slice fo f.length fc,.int .i64 x] w fun e w'=>∃ o c,e=.returned (.tuple #[.slice o (lvV n f x L0).length c,.int .i64 (reE n f x)])∧IRow w' o (lvV n f x L0)∧Below w.heap.size w w':=by
 have WD:=hid (fun w' (h1:ARow w' ao n.l) (h2:IRow w' fo f)=>wide_any n ao cap fo fc f x w' h1 h2 hl hok)
 by_cases c0:reE n f x=0
 case neg =>
  rw [(lvV_bad (L:=L0) c0).1]
  generalize wideV n f x=WV at *
  generalize reE n f x=E at *
  clear hL
  generalize f.length=fl at *
  obtain ⟨nn,ns,nt,l⟩:=n
  simp only at hr WD ⊢
  have HB0:=hid ((Below.refl w.heap.size w).alloc (Nat.le_refl _) (.cells #[.int .i64 nn,.int .i64 ns,.int .i64 nt,.slice ao l.length cap] 24))
  have HR:=hid (hr.kept HB0.out)
  have HF:=hid (hf.kept HB0.out)
  have c1':(E == 0)=false:=by simpa using c0
  have c1n:(E != 0)=true:=by simpa using c0
  clear hr hf c0
  go_enter Tryz.func41,Tryz.ntmps41
  go_wp2_with fail
  refine (WD.out _ HR.out HF.out).mono ?_
  rintro e w1 ⟨v,rfl,_,hb⟩
  have HB1:=hid (HB0.out.trans (hb.mono (by simp)))
  clear hb
  go_wp2
  go_ret2
  exact ⟨none,0,rfl,.inl rfl,HB1.out⟩
 obtain ⟨hc0,hx1⟩:=reE_ok c0
 have hR:=right_of (chkA_ok (chkF_ok hc0).1).1
 rw [(lvV_ok (L:=L0) c0).1,c0]
 rw [c0,show wideV n f x=wideL n.l f x (2*n.l.length) by unfold wideV;rw [if_neg (by simpa using c0)]] at WD
 have HLL:=hid (hL c0).len
 have HL0:=hid (fun L (h:IsLev n f x L)=>lev_one hR h (hL c0))
 have LV:=hid (fun tk tc w' h1 h2=>levels_any n ao cap tk tc f x w' h1 h2 hR)
 have HTL:=hid (encW_len (wideL n.l f x (2*n.l.length)))
 generalize hIL:IsLev n f x=IL at *
 generalize encW (wideL n.l f x (2*n.l.length))=TW at *
 generalize (wideL n.l f x (2*n.l.length)).length=tl at *
 clear hIL hL c0 hc0 hx1 hR
 generalize f.length=fl at *
 obtain ⟨nn,ns,nt,l⟩:=n
 simp only at hr WD LV HLL ⊢
 have HB0:=hid ((Below.refl w.heap.size w).alloc (Nat.le_refl _) (.cells #[.int .i64 nn,.int .i64 ns,.int .i64 nt,.slice ao l.length cap] 24))
 have HN0:=hid (netBox_new w nn ns nt (.slice ao l.length cap))
 have HR:=hid (hr.kept HB0.out)
 have HF:=hid (hf.kept HB0.out)
 clear hr hf
 go_enter Tryz.func41,Tryz.ntmps41
 go_wp2_with fail
 refine (WD.out _ HR.out HF.out).mono ?_
 rintro e w1 ⟨v,rfl,ho,hb⟩
 have HB1:=hid (HB0.out.trans (hb.mono (by simp)))
 have HN1:=hid (netBox_below HN0.out hb (by simp))
 have HR1:=hid (HR.out.kept hb)
 obtain ⟨to1,tc1,hv,_,_,_,hri,_,_⟩:=Rw.own_row encI_len ho
 rw [HTL.out] at hv
 subst hv
 have HRI:=hid hri
 obtain ⟨n0,n1,n2,n3⟩:=netBox_cells HN1.out
 clear hb ho hri HB0 HN0 HR HF WD
 go_wp2_with fail
 refine (LV.out _ _ _ HR1.out HRI.out).mono ?_
 rintro e w2 ⟨g,L,rfl,hl1,hm,hb⟩
 have HB2:=hid (HB1.out.trans (hb.mono HB1.out.size))
 have HE:=hid (HL0.out L hl1)
 have HM:=hid hm
 clear hb hl1 hm n0 n1 n2 n3
 go_wp2
 go_ret2
 exact ⟨some ⟨g,0,none⟩,nn.toNat+1,by rw [HLL.out];rfl,by rw [← HE.out];exact HM.out.irow,HB2.out⟩
end
section
variable (n:Net) (ao:Option Addr) (cap:Nat) (fo:Option Addr) (fc:Nat) (f:List Int) (x:Int) (L0:List Int) (w:World) (hr:ARow w ao n.l) (hf:IRow w fo f) (hl:n.l.length≤1000000) (hok:∀ a∈n.l,in64 a.cap) (hL:reE n f x=0→IsLev n f x L0)
include hr hf hl hok hL
theorem ddeep_any:Calls Tryz.prog 30 #[encN n ao cap,.slice fo f.length fc,.int .i64 x] w fun e w'=>e=.returned (.tuple #[.int .i64 (dpV n f x L0),.int .i64 (reE n f x)])∧Below w.heap.size w w':=by
 have WD:=hid (fun w' (h1:ARow w' ao n.l) (h2:IRow w' fo f)=>dlevels_any n ao cap fo fc f x L0 w' h1 h2 hl hok hL)
 by_cases c0:reE n f x=0
 case neg =>
  rw [(lvV_bad (L:=L0) c0).2.2]
  generalize lvV n f x L0=WV at *
  generalize reE n f x=E at *
  clear hL
  generalize f.length=fl at *
  obtain ⟨nn,ns,nt,l⟩:=n
  simp only at hr WD ⊢
  have HB0:=hid ((Below.refl w.heap.size w).alloc (Nat.le_refl _) (.cells #[.int .i64 nn,.int .i64 ns,.int .i64 nt,.slice ao l.length cap] 24))
  have HR:=hid (hr.kept HB0.out)
  have HF:=hid (hf.kept HB0.out)
  have c1':(E == 0)=false:=by simpa using c0
  have c1n:(E != 0)=true:=by simpa using c0
  clear hr hf c0
  go_enter Tryz.func30,Tryz.ntmps30
  go_wp2_with fail
  refine (WD.out _ HR.out HF.out).mono ?_
  rintro e w1 ⟨o,c,rfl,_,hb⟩
  have HB1:=hid (HB0.out.trans (hb.mono (by simp)))
  clear hb
  go_wp2
  go_ret2
  exact ⟨rfl,HB1.out⟩
 obtain ⟨hc0,hx1⟩:=reE_ok c0
 have hR:=right_of (chkA_ok (chkF_ok hc0).1).1
 rw [(lvV_ok (L:=L0) c0).2.2,c0]
 rw [c0,(lvV_ok (L:=L0) c0).1] at WD
 have HLL:=hid (hL c0).len
 rw [HLL.out] at WD
 have hN0:=hR.n0
 have hN1:=hR.n1
 have hT0:=hR.t0
 have hT1:=hR.t1
 clear hL c0 hc0 hx1 hR
 generalize f.length=fl at *
 obtain ⟨nn,ns,nt,l⟩:=n
 simp only at hr WD HLL hN0 hN1 hT0 hT1 ⊢
 obtain ⟨N,rfl⟩:∃ N:Nat,nn=(N:Int):=⟨nn.toNat,by omega⟩
 obtain ⟨T,rfl⟩:∃ T:Nat,nt=(T:Int):=⟨nt.toNat,by omega⟩
 simp only [Int.toNat_natCast] at HLL WD ⊢
 have HB0:=hid ((Below.refl w.heap.size w).alloc (Nat.le_refl _) (.cells #[.int .i64 (N:Int),.int .i64 ns,.int .i64 (T:Int),.slice ao l.length cap] 24))
 have HN0:=hid (netBox_new w (N:Int) ns (T:Int) (.slice ao l.length cap))
 have HR:=hid (hr.kept HB0.out)
 have HF:=hid (hf.kept HB0.out)
 clear hr hf
 go_enter Tryz.func30,Tryz.ntmps30
 go_wp2_with fail
 refine (WD.out _ HR.out HF.out).mono ?_
 rintro e w1 ⟨o,c,rfl,hi,hb⟩
 have HB1:=hid (HB0.out.trans (hb.mono (by simp)))
 have HN1:=hid (netBox_below HN0.out hb (by simp))
 obtain ⟨n0,n1,n2,n3⟩:=netBox_cells HN1.out
 obtain ⟨b1,o1,rfl,_,d0⟩:=irow_cell hi (i:=T) (by rw [HLL.out];omega)
 have hti:(T:Int)<(N:Int)+1:=by omega
 have ht0:(0:Int)≤(T:Int):=by omega
 generalize hA:amt L0 T=a at *
 have HA:=hid hA
 clear hA hb hi HB0 HN0 HR HF WD
 go_wp2
 go_ret2
 exact ⟨by rw [HA.out];rfl,HB1.out⟩
end
end Ne
end Go.Proofs.YtoadkckceladgaaGreat
