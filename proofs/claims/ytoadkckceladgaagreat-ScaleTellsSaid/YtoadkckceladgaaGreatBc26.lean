/-
  Tsw, Lwt, Glv, Dnb, Dnc, Dnd
-/
import Derived.Test.YtoadkckceladgaaGreatBc25
import Derived.Test.YtoadkckceladgaaGreatBc8
import Derived.Test.YtoadkckceladgaaGreatBc10
import Derived.Deep.LoopGhost
import Derived.Deep.DeepCutAuto
import Derived.WalkMore
import Derived.RegionTactic
import Derived.BigRegion
import Derived.Test.YtoadkckceladgaaGreatBc9
import Derived.Test.YtoadkckceladgaaGreatBc3
import Derived.Deep.CutBlock
set_option linter.unusedVariables false
set_option linter.unusedSimpArgs false
set_option maxRecDepth 100000
set_option maxHeartbeats 4000000
namespace Go.Proofs.YtoadkckceladgaaGreat
open Go.ChangeShapes Go.WideShapes Go.ChangeAt Go.RowKit
open Lib (hid)
namespace Ne
open Sp (Off Ext)
open Fo (Ft FoO fc)
theorem results_tmp4 {fn:Func} {t u v y:Tmp} (h:fn.results = #[.tmp t,.tmp u,.tmp v,.tmp y]) (tmps:Array Value) (P:Program) (w:World) :
  (results fn tmps).run P w=.ok (.tuple #[tmps.getD t undef,tmps.getD u undef,tmps.getD v undef,tmps.getD y undef]) w:=by
 simp [results,h]
def mostV (n:Net):Int:=20000*(n.n+(n.l.length:Int))*(2+Num.logF n.n)*(2+Num.logF n.n)
theorem log_up (N:Nat) (h2:2≤N) (hN:N≤500):∃ k q:Nat,Num.logF (N:Int)=(k:Int)∧1≤k∧k≤9∧Num.logF ((N+1:Nat):Int)=(q:Int)∧q≤k+1∧(N+1).log2≤q:=by
 obtain ⟨k,h1,h3,_,h4,h5⟩:=Num.logF_spec (N:Int) (by omega) (by omega)
 obtain ⟨q,g1,g3,_,g4,g5⟩:=Num.logF_spec ((N+1:Nat):Int) (by omega) (by omega)
 rw [← Num.pc] at h4 h5 g4 g5
 have e4:N≤2 ^ k:=by omega
 have e5:2 ^ (k-1)<N:=by omega
 have e6:2 ^ (q-1)<N+1:=by omega
 refine ⟨k,q,h1,h3,?_,g1,?_,?_⟩
 ·rcases Nat.lt_or_ge 9 k with c | c
  ·have:=Nat.pow_le_pow_right (n:=2) (by omega) (show 9≤k-1 by omega)
   omega
  ·exact c
 ·rcases Nat.lt_or_ge (k+1) q with c | c
  ·have:=Nat.pow_le_pow_right (n:=2) (by omega) (show k+1≤q-1 by omega)
   have:2 ^ (k+1)=2*2 ^ k:=by rw [Nat.pow_succ];omega
   omega
  ·exact c
 ·have:=Sp.log_le (l:=N+1) (n:=N+1) (Nat.le_refl _) (by omega)
  rw [g1] at this
  simpa using this
theorem fc_bound (N:Nat) (h2:2≤N) (hN:N≤500):∃ k:Nat,Num.logF (N:Int)=(k:Int)∧k≤9∧fc (N+1)+1≤1000*((2+k)*(2+k)):=by
 obtain ⟨k,q,h1,h3,h4,h5,h6,h7⟩:=log_up N h2 hN
 refine ⟨k,h1,h4,?_⟩
 have hlg:Sp.lg (N+1)=q:=by unfold Sp.lg;rw [h5];simp
 have e3:fc (N+1)≤(6*(18*q+4)+(60*q+12))*(3*q+3)+12*(18*q+4):=by
  unfold fc Fo.tc Sp.ac Sp.jc
  rw [hlg]
  exact Nat.add_le_add_right (Nat.mul_le_mul_left _ (by omega)) _
 have e4:(6*(18*q+4)+(60*q+12))*(3*q+3)≤(6*(18*(k+1)+4)+(60*(k+1)+12))*(3*(k+1)+3):=Nat.mul_le_mul (by omega) (by omega)
 have e5:∀ k,k≤9→(6*(18*(k+1)+4)+(60*(k+1)+12))*(3*(k+1)+3)+12*(18*(k+1)+4)+1≤1000*((2+k)*(2+k)):=by
  intro k hk
  have:k<10:=by omega
  revert k
  decide
 have:=e5 k h4
 omega
theorem all_le {C N K M k:Nat} (hC:C≤1000*((2+k)*(2+k))) (h1:1≤C) (h2:2≤N) (hK:K≤M):K+(N+1)+C*(15*K+(N+1))+4*(C*(N+1))+K≤20000*(N+M)*((2+k)*(2+k)):=by
 have e1:K+(N+1)+K≤C*(2*K+(N+1)):=by
  have:=Nat.mul_le_mul_right (2*K+(N+1)) h1
  omega
 have e2:C*(2*K+(N+1))+C*(15*K+(N+1))+C*(4*(N+1))≤C*(17*(N+M)):=by
  rw [← Nat.mul_add,← Nat.mul_add]
  exact Nat.mul_le_mul_left C (by omega)
 have e3:C*(17*(N+M))≤(1000*((2+k)*(2+k)))*(17*(N+M)):=Nat.mul_le_mul_right _ hC
 have e4:(1000*((2+k)*(2+k)))*(17*(N+M))=17000*((N+M)*((2+k)*(2+k))):=by
  rw [Nat.mul_comm (1000*_) (17*_),Nat.mul_assoc 17,Nat.mul_left_comm (N+M) 1000,← Nat.mul_assoc 17 1000]
 have e5:20000*(N+M)*((2+k)*(2+k))=20000*((N+M)*((2+k)*(2+k))):=Nat.mul_assoc _ _ _
 have e6:4*(C*(N+1))=C*(4*(N+1)):=Nat.mul_left_comm _ _ _
 omega
theorem leads_few {n:Net} {L:List Int} {TL:List Nat} (hL:Lds n.l L TL):TL.length≤n.l.length:=by
 have h1:=nodup_len (L:=n.l.length) (half_nodup hL) fun i hi=>by
  obtain ⟨r,hr,e2⟩:=List.mem_map.1 hi
  have:=hL.lt r hr
  omega
 rwa [List.length_map] at h1
section
variable {n:Net} {ao:Option Addr} {cap:Nat} {x:Int} {w0 w1:World} {sb lb ab pb cb p:Nat} {rv:Value} {lo hi B b1:Nat} {VA:Nat→Value} {TL:List Nat}
theorem block_start {w:World} {VS:Nat→Value} {c m H:Nat} {f0 L:List Int} (hR:Right n) (hL:Lds n.l L TL) (hF:Okf n f0) (hm:m=n.n.toNat+1) (hm2:m≤3000)
  (M:TsM n ao cap x w0 w1 sb lb ab pb cb p rv lo hi B b1 VA TL w (roomL n.l f0 (2*n.l.length)) VS (fun v=>TL.filter fun r=>decide ((trF n.l r).toNat=v)) (List.replicate (n.n.toNat+1) false) c (Fo.newS (List.replicate (n.n.toNat+1) 4611686018427387904)) 0 0)
  (hH:c+(fc m+1)*(15*TL.length+m)≤H):BlockI n ao cap x w0 w1 sb lb ab pb cb p rv lo hi B b1 VA TL f0 w c m H 0 (H-c) false:=by
 have hg:Fo.Good (Fo.newS (List.replicate (n.n.toNat+1) 4611686018427387904)):=Fo.good_new (top_newE (by omega))
 have hp:=psi_start (n:=n) (TL:=TL) x f0 (List.replicate (n.n.toNat+1) 4611686018427387904)
 have hp2:=Nat.mul_le_mul_left (fc m+1) hp
 rw [← hm] at hp2
 refine ⟨f0,[],_,VS,_,_,c,_,0,0,M,tre_start hR hL hF.wi hg,hF,.nil f0,fun y u hy=>(by cases hy),?_,rfl,by omega,rfl,replB _ _,?_⟩
 ·show (List.replicate (n.n.toNat+1) 4611686018427387904).length=m
  rw [List.length_replicate,hm]
 ·have e:psi n TL f0 x (fun v=>TL.filter fun r=>decide ((trF n.l r).toNat=v)) (Fo.newS (List.replicate (n.n.toNat+1) 4611686018427387904)) (List.replicate (n.n.toNat+1) false) (aheadN n TL)≤15*TL.length+m:=by
   rw [hm];exact hp
  have:=Nat.mul_le_mul_left (fc m+1) e
  omega
theorem block_done {w:World} {c0 m H k:Nat} {f0 g0 L:List Int} {W0:List (List Nat × Int)} (hL:Lds n.l L TL) (hB:IsBlk n.l TL f0 x n.s n.t W0 g0) (h:BlockR n ao cap x w0 w1 sb lb ab pb cb p rv lo hi B b1 VA TL f0 w c0 m H k) :
  k=W0.length∧AmI n ao cap x w0 w1 sb lb ab pb cb p rv lo hi B b1 VA TL g0 w 0 (c0+k) m (H+4*((fc m+1)*m))∧(∃ RL VS U S c f flo fhi,TsM n ao cap x w0 w1 sb lb ab pb cb p rv lo hi B b1 VA TL w RL VS U S c f flo fhi)∧Okf n g0:=by
 obtain ⟨gl,Ws,RL,VS,U,S,c,f,flo,fhi,M,T,hF,hI,hm,hk,hc0,hc⟩:=h
 obtain ⟨rfl,rfl⟩:=blk_one hI hB
 exact ⟨hk.symm,⟨RL,VS,U,S,c,f,flo,fhi,M,T,hm,hc0,fun v hv=>by omega,by rw [Nat.sub_zero];omega⟩,⟨RL,VS,U,S,c,f,flo,fhi,M⟩,hF⟩
end
set_option maxHeartbeats 8000000 in
theorem tblock_own (n:Net) (ao:Option Addr) (cap:Nat) (fo:Option Addr) (fc':Nat) (f:List Int) (x:Int) (L0:List Int) (W0:List (List Nat × Int)) (g0:List Int) (w:World) (hr:ARow w ao n.l) (hf:IRow w fo f) (hl:n.l.length≤1000000) (hok:∀ a∈n.l,in64 a.cap) (hL:reE n f x=0→IsLev n f x L0)
  (hB:reE n f x=0→IsBlk n.l (leadL n.l f x L0 (2*n.l.length)) f x n.s n.t W0 g0) :
  Calls Tryz.prog 103 #[encN n ao cap,.slice fo f.length fc',.int .i64 x] w fun e w'=>∃ o c st,e=.returned (.tuple #[.slice o (blG n f x g0).length c,.int .i64 ((blW n f x W0).length:Int),.int .i64 st,.int .i64 (reE n f x)])∧OwnL w' w.heap.size (.slice o (blG n f x g0).length c) (blG n f x g0)∧(reE n f x≠0→st=0) ∧
   (reE n f x=0→(W0.length:Int)≤st∧n.n<st∧((leadL n.l f x L0 (2*n.l.length)).length:Int)≤st∧st≤mostV n)∧Below w.heap.size w w':=by
 have HB0:=hid ((Below.refl w.heap.size w).alloc (Nat.le_refl _) (.cells #[.int .i64 n.n,.int .i64 n.s,.int .i64 n.t,.slice ao n.l.length cap] 24))
 have HN0:=hid (nbN w n.n n.s n.t (.slice ao n.l.length cap))
 obtain ⟨n0,n1,n2,n3⟩:=nbC HN0.out
 have RM:=hid (fun w' h1 h2=>droom_any n ao cap fo fc' f w' h1 h2 hl hok)
 have LD:=hid (fun w' h1 h2=>dleads_own n ao cap fo fc' f x L0 w' h1 h2 hl hok hL)
 have HR:=hid hr
 have HF:=hid hf
 by_cases c0:reE n f x=0
 case neg =>
  have e1:blG n f x g0=[]:=by unfold blG;rw [if_pos c0]
  have e2:blW n f x W0=[]:=by unfold blW;rw [if_pos c0]
  rw [e1,e2]
  by_cases ck:chkF n f=0
  ·have HC0:=hid c0
   have c0':(reE n f x != 0)=true:=by simpa using c0
   have ck':(chkF n f != 0)=false:=by simpa using ck
   generalize roomV n f=RV at *
   generalize chkF n f=CK at *
   clear c0 hL hB hr hf hl hok e1 e2 ck
   generalize ldV n f x L0=LV at *
   generalize reE n f x=re at *
   go_enter Tryz.func103,Tryz.ntmps103
   go_wp2_with fail
   refine (RM.out _ (HR.out.kept HB0.out) (HF.out.kept HB0.out)).mono ?_
   rintro e w2 ⟨rv,rfl,_,hb⟩
   have HB2:=hid (HB0.out.trans (hb.mono HB0.out.size))
   have HN2:=hid (nbB HN0.out hb (netBox_lt HN0.out))
   clear hb n0 n1 n2 n3
   obtain ⟨n0,n1,n2,n3⟩:=nbC HN2.out
   go_wp2_with fail
   refine (LD.out _ (HR.out.kept HB2.out) (HF.out.kept HB2.out)).mono ?_
   rintro e w3 ⟨o,c,rfl,_,hb⟩
   have HB3:=hid (HB2.out.trans (hb.mono HB2.out.size))
   clear hb n0 n1 n2 n3
   go_wp2
   (try simp only [Exit.inBlock,Exit.then])
   refine bodyPost_ret (results_tmp4 rfl _ _ _) rfl ?_
   exact ⟨none,0,0,rfl,Rw.owN _ _,fun _=>rfl,fun h=>absurd h HC0.out,HB3.out⟩
  ·have hre:reE n f x=chkF n f:=by unfold reE;rw [if_pos ck]
   rw [hre]
   have HC0:=hid ck
   have ck':(chkF n f != 0)=true:=by simpa using ck
   generalize roomV n f=RV at *
   clear c0 hL hB hr hf hl hok e1 e2 LD hre ck
   generalize chkF n f=CK at *
   go_enter Tryz.func103,Tryz.ntmps103
   go_wp2_with fail
   refine (RM.out _ (HR.out.kept HB0.out) (HF.out.kept HB0.out)).mono ?_
   rintro e w2 ⟨rv,rfl,_,hb⟩
   have HB2:=hid (HB0.out.trans (hb.mono HB0.out.size))
   clear hb n0 n1 n2 n3
   go_wp2
   (try simp only [Exit.inBlock,Exit.then])
   refine bodyPost_ret (results_tmp4 rfl _ _ _) rfl ?_
   exact ⟨none,0,0,rfl,Rw.owN _ _,fun _=>rfl,fun h=>absurd h HC0.out,HB2.out⟩
 obtain ⟨hck,hx⟩:=reE_ok c0
 obtain ⟨ck,hF⟩:=okf_of hck
 have hR:=rgO ck
 have e1:blG n f x g0=g0:=by unfold blG;rw [if_neg (by simpa using c0)]
 have e2:blW n f x W0=W0:=by unfold blW;rw [if_neg (by simpa using c0)]
 have e3:=(lvV_ok (L:=L0) c0).2.1
 have e4:roomV n f=roomL n.l f (2*n.l.length):=by unfold roomV;rw [if_neg (by simpa using hck)]
 have hLd:=lds_of n.l f x L0
 have hblk:=hB c0
 rw [e1,e2,c0]
 rw [e3,c0] at LD
 rw [e4,hck] at RM
 generalize leadL n.l f x L0 (2*n.l.length)=TL at *
 have hTM:=leads_few hLd
 have hML:=hR.len
 have hN0:=hR.n0
 have hN1:=hR.n1
 have hfl:=hF.len
 obtain ⟨N,hN⟩:∃ N,N=n.n.toNat:=⟨_,rfl⟩
 obtain ⟨lk,hlk,hk9,hfc⟩:=fc_bound N (by omega) (by omega)
 obtain ⟨m,hm⟩:∃ m,m=n.n.toNat+1:=⟨_,rfl⟩
 have hmN:m=N+1:=by omega
 rw [← hmN] at hfc
 have hall:=all_le (N:=N) (K:=TL.length) (M:=n.l.length) (k:=lk) hfc (by omega) (by omega) hTM
 rw [← hmN] at hall
 have hmo:mostV n=((20000*(N+n.l.length)*((2+lk)*(2+lk)):Nat):Int):=by
  unfold mostV
  rw [show n.n=(N:Int) by omega,hlk]
  push_cast
  rw [Int.mul_assoc]
 have hk11:(2+lk)*(2+lk)≤121:=Nat.mul_le_mul (show 2+lk≤11 by omega) (show 2+lk≤11 by omega)
 have hmoB:20000*(N+n.l.length)*((2+lk)*(2+lk))≤20000*2500*121:=Nat.mul_le_mul (Nat.mul_le_mul_left _ (by omega)) hk11
 have hCB:fc m+1≤1000*121:=Nat.le_trans hfc (Nat.mul_le_mul_left _ hk11)
 rw [hmo]
 obtain ⟨MO,hMO⟩:∃ MO,MO=20000*(N+n.l.length)*((2+lk)*(2+lk)):=⟨_,rfl⟩
 rw [← hMO] at hall hmoB ⊢
 clear hMO hmo hfc
 have NS:=hid (fun (w4:World) (rv:Value) (lo':Option Addr) (lc cb:Nat) h1 h2 h3 h4 h5 h6 h7=>tnew_any (cap:=cap) (x:=x) (w:=w4) (rv:=rv) (lo':=lo') (lc:=lc) (cb:=cb) (RL0:=roomL n.l f (2*n.l.length)) hR hLd (by omega) hr h1 h2 h3 0 h4 h5 h6 h7 (by omega))
 have BL:=hid (show ∀ (w5:World) sb lb ab pb cb p rv lo hi B b1 VA VS,TsM n ao cap x w w5 sb lb ab pb cb p rv lo hi B b1 VA TL w5 (roomL n.l f (2*n.l.length)) VS (fun v=>TL.filter fun r=>decide ((trF n.l r).toNat=v)) (List.replicate (n.n.toNat+1) false) (0+(n.n.toNat+1)+TL.length) (Fo.newS (List.replicate (n.n.toNat+1) 4611686018427387904)) 0 0→Calls Tryz.prog 106 #[.pointer (some ⟨sb,0,none⟩)] w5 fun e w6=>e=.returned (.int .i64 (W0.length:Int)) ∧
   AmI n ao cap x w w5 sb lb ab pb cb p rv lo hi B b1 VA TL g0 w6 0 (m+TL.length+W0.length) m (TL.length+m+(fc m+1)*(15*TL.length+m)+4*((fc m+1)*m))∧(∃ RL VS U S c f flo fhi,TsM n ao cap x w w5 sb lb ab pb cb p rv lo hi B b1 VA TL w6 RL VS U S c f flo fhi)∧Okf n g0 from fun w5 sb lb ab pb cb p rv lo hi B b1 VA VS M=>by
  rw [show 0+(n.n.toNat+1)+TL.length=m+TL.length by omega] at M
  refine (block_any (H:=TL.length+m+(fc m+1)*(15*TL.length+m)) hR hLd hx (by omega) (by omega) (block_start hR hLd hF hm (by omega) M (by omega))).mono ?_
  rintro e w6 ⟨k,rfl,h⟩
  obtain ⟨rfl,h1,h2,h3⟩:=block_done hLd hblk h
  exact ⟨rfl,h1,h2,h3⟩)
 have AM:=hid (fun (w5 w6:World) sb lb ab pb cb p rv lo hi B b1 VA lo' lc hF2 h1 h2 (h:AmI n ao cap x w w5 sb lb ab pb cb p rv lo hi B b1 VA TL g0 w6 0 (m+TL.length+W0.length) m (TL.length+m+(fc m+1)*(15*TL.length+m)+4*((fc m+1)*m)))=>amounts_any (fo:=fo) (fcap:=fc') (lo':=lo') (lc:=lc) hR hLd hF2 hm hfl (blkW_facts hLd hx hfl hblk.1).1 hf h1 h2 h (by omega))
 have hg0:g0.length=n.l.length:=((blkW_facts hLd hx hfl hblk.1).1).len
 have HG0:=hid hg0
 have HALL:=hid (show TL.length+m+(fc m+1)*(15*TL.length+m)+4*((fc m+1)*m)+TL.length≤MO∧MO≤6050000000∧n.n<(m:Int) from ⟨hall,by omega,by omega⟩)
 clear hL hB hr hf hl hok e1 e2 e3 e4 hblk hF hck c0 hLd hR hx hTM hML hN0 hN1 hall hmoB hCB hk11 hN hlk hk9 hm hmN ck
 rw [hfl] at RM LD ⊢
 rw [hg0]
 clear hfl hg0
 generalize hTT:fc m+1=C at *
 clear hTT
 generalize TL.length=K at *
 have hmf:∀ (fn:Fn) (first cap:Array Value) (w:World),(Instr.makeFunc fn first cap).run Tryz.prog w=.ok (.func fn first cap) w:=fun _ _ _ _=>rfl
 go_enter Tryz.func103,Tryz.ntmps103
 go_wp2_with fail
 refine (RM.out _ (HR.out.kept HB0.out) (HF.out.kept HB0.out)).mono ?_
 rintro e w2 ⟨rv,rfl,hown,hb⟩
 have HB2:=hid (HB0.out.trans (hb.mono HB0.out.size))
 have HN2:=hid (nbB HN0.out hb (netBox_lt HN0.out))
 have HO2:=hid (Rw.own_base hown (B':=w.heap.size) HB0.out.size)
 have HRE:=hid (fun g hg=>Rw.owL HO2.out g hg)
 clear hown hb n0 n1 n2 n3
 obtain ⟨n0,n1,n2,n3⟩:=nbC HN2.out
 go_wp2_with fail
 refine (LD.out _ (HR.out.kept HB2.out) (HF.out.kept HB2.out)).mono ?_
 rintro e w3 ⟨lo',lc,rfl,hli,hb⟩
 have HB3:=hid (HB2.out.trans (hb.mono HB2.out.size))
 have HN3:=hid (nbB HN2.out hb (netBox_lt HN2.out))
 have HO3:=hid (Rw.own_below HO2.out hb)
 have HLE:=hid (fun g hg=>Rw.owL hli g hg)
 have HL3:=hid (Rw.own_base hli (B':=w.heap.size) HB2.out.size)
 have HA4:=hid ((Below.refl w3.heap.size w3).alloc (Nat.le_refl _) (.cells #[.int .i64 0] 157))
 have HB4:=hid (HB3.out.trans (HA4.out.mono HB3.out.size))
 have HN4:=hid (nbB HN3.out HA4.out (netBox_lt HN3.out))
 have HNS:=hid (NS.out _ rv lo' lc w3.heap.size HB4.out (Rw.own_below HO3.out HA4.out) (Rw.own_below HL3.out HA4.out) (by show (w3.heap.push _)[w3.heap.size]? = _;simp) HB3.out.size (fun g hg=>by have:=HRE.out g hg;have:=hb.size;omega) (fun g hg=>by
  have h1:=HLE.out g hg
  exact ⟨h1.2,fun h2=>by have:=(HRE.out g h2).2;omega⟩))
 clear hb hli n0 n1 n2 n3
 obtain ⟨n0,n1,n2,n3⟩:=nbC HN4.out
 go_wp2_with fail
 refine HNS.out.mono ?_
 rintro e w5 ⟨sb,lb,ab,pb,p,lo,hi,B,b1,VA,VS,rfl,hM,hl5,hm5⟩
 have HBL:=hid (BL.out _ _ _ _ _ _ _ _ _ _ _ _ _ _ hM)
 have HL5:=hid hl5
 have HM5:=hid hm5
 clear hM hl5 hm5 n0 n1 n2 n3 HNS
 go_wp2_with fail
 refine HBL.out.mono ?_
 rintro e w6 ⟨rfl,hA,_,hF2⟩
 have HAM:=hid (AM.out _ _ _ _ _ _ _ _ _ _ _ _ _ _ _ _ hF2 HL5.out HM5.out hA)
 clear hA hF2
 go_wp2_with fail
 refine HAM.out.mono ?_
 rintro e w7 ⟨o7,lc7,c2,f2,flo2,fhi2,F7,rfl,hrow,hcb,hsb9,hfo,hc0,hcH,hlow⟩
 have HROW:=hid hrow
 have HLOW:=hid hlow
 have HS:=hid (show c2+fhi2≤MO∧MO≤6050000000∧m+K+W0.length≤c2∧n.n<(m:Int) from ⟨by have:=HALL.out;omega,HALL.out.2.1,hc0,HALL.out.2.2⟩)
 have HST:=hid (Fo.fsteps_any (hfo.off (G:=fun _=>False) (.of_below (bDr (Below.refl w7.heap.size w7))) fun _ _ c=>c) (by have:=HS.out;omega))
 clear hrow hlow hfo hc0 hcH HAM HBL
 go_wp2_with fail
 go_region_with (go_at_call 108;refine HST.out.mono ?_;rintro e w8 ⟨sc,rfl,hs1,hs2,rfl⟩;have HSC:=hid hs2;have hw1:IntKind.i64.wrap ((c2:Int)+(sc:Int))=(c2:Int)+(sc:Int):=(by have:=HS.out;rw [IntKind.wrap_i64];omega);clear hs1 hs2)
 all_goals
  go_wp2
  (try simp only [Exit.inBlock,Exit.then])
  refine bodyPost_ret (results_tmp4 rfl _ _ _) rfl ?_
  refine ⟨o7,lc7,(c2:Int)+(sc:Int),?_,Rw.own_below HROW.out (bDr (Below.refl _ _)),fun h=>absurd rfl h,fun _=>?_,bDr HLOW.out⟩
  ·rfl
  ·have h1:=HS.out
   have h2:=HSC.out
   omega
end Ne
namespace Ne
end Ne
namespace Ne
section
variable (n:Net) (ao:Option Addr) (cap:Nat) (fo:Option Addr) (fc:Nat) (f:List Int) (x:Int) (L0:List Int) (w:World) (hr:ARow w ao n.l) (hf:IRow w fo f) (hl:n.l.length≤1000000) (hok:∀ a∈n.l,in64 a.cap) (hL:reE n f x=0→IsLev n f x L0)
include hr hf hl hok hL
theorem dlevels_any:Calls Tryz.prog 41 #[encN n ao cap,.slice fo f.length fc,.int .i64 x] w fun e w'=>∃ o c,e=.returned (.tuple #[.slice o (lvV n f x L0).length c,.int .i64 (reE n f x)])∧IRow w' o (lvV n f x L0)∧Below w.heap.size w w':=by
 have WD:=hid (fun w' (h1:ARow w' ao n.l) (h2:IRow w' fo f)=>wide_any n ao cap fo fc f x w' h1 h2 hl hok)
 by_cases c0:reE n f x=0
 case neg =>
  rw [(lvV_bad (L:=L0) c0).1]
  generalize wideV n f x=WV at *
  generalize reE n f x=E at *
  clear hL
  generalize f.length=fl at *
  obtain ⟨nn,ns,nt,l⟩:=n
  simp only at hr WD ⊢
  have HB0:=hid ((Below.refl w.heap.size w).alloc (Nat.le_refl _) (.cells #[.int .i64 nn,.int .i64 ns,.int .i64 nt,.slice ao l.length cap] 24))
  have HR:=hid (hr.kept HB0.out)
  have HF:=hid (hf.kept HB0.out)
  have c1':(E == 0)=false:=by simpa using c0
  have c1n:(E != 0)=true:=by simpa using c0
  clear hr hf c0
  go_enter Tryz.func41,Tryz.ntmps41
  go_wp2_with fail
  refine (WD.out _ HR.out HF.out).mono ?_
  rintro e w1 ⟨v,rfl,_,hb⟩
  have HB1:=hid (HB0.out.trans (hb.mono (by simp)))
  clear hb
  go_wp2
  go_ret2
  exact ⟨none,0,rfl,.inl rfl,HB1.out⟩
 obtain ⟨hc0,hx1⟩:=reE_ok c0
 have hR:=rgO (chkA_ok (chkF_ok hc0).1).1
 rw [(lvV_ok (L:=L0) c0).1,c0]
 rw [c0,show wideV n f x=wideL n.l f x (2*n.l.length) by unfold wideV;rw [if_neg (by simpa using c0)]] at WD
 have HLL:=hid (hL c0).len
 have HL0:=hid (fun L (h:IsLev n f x L)=>lev_one hR h (hL c0))
 have LV:=hid (fun tk tc w' h1 h2=>levels_any n ao cap tk tc f x w' h1 h2 hR)
 have HTL:=hid (eWl (wideL n.l f x (2*n.l.length)))
 generalize hIL:IsLev n f x=IL at *
 generalize encW (wideL n.l f x (2*n.l.length))=TW at *
 generalize (wideL n.l f x (2*n.l.length)).length=tl at *
 clear hIL hL c0 hc0 hx1 hR
 generalize f.length=fl at *
 obtain ⟨nn,ns,nt,l⟩:=n
 simp only at hr WD LV HLL ⊢
 have HB0:=hid ((Below.refl w.heap.size w).alloc (Nat.le_refl _) (.cells #[.int .i64 nn,.int .i64 ns,.int .i64 nt,.slice ao l.length cap] 24))
 have HN0:=hid (nbN w nn ns nt (.slice ao l.length cap))
 have HR:=hid (hr.kept HB0.out)
 have HF:=hid (hf.kept HB0.out)
 clear hr hf
 go_enter Tryz.func41,Tryz.ntmps41
 go_wp2_with fail
 refine (WD.out _ HR.out HF.out).mono ?_
 rintro e w1 ⟨v,rfl,ho,hb⟩
 have HB1:=hid (HB0.out.trans (hb.mono (by simp)))
 have HN1:=hid (nbB HN0.out hb (by simp))
 have HR1:=hid (HR.out.kept hb)
 obtain ⟨to1,tc1,hv,_,_,_,hri,_,_⟩:=Rw.owR eIl ho
 rw [HTL.out] at hv
 subst hv
 have HRI:=hid hri
 obtain ⟨n0,n1,n2,n3⟩:=nbC HN1.out
 clear hb ho hri HB0 HN0 HR HF WD
 go_wp2_with fail
 refine (LV.out _ _ _ HR1.out HRI.out).mono ?_
 rintro e w2 ⟨g,L,rfl,hl1,hm,hb⟩
 have HB2:=hid (HB1.out.trans (hb.mono HB1.out.size))
 have HE:=hid (HL0.out L hl1)
 have HM:=hid hm
 clear hb hl1 hm n0 n1 n2 n3
 go_wp2
 go_ret2
 exact ⟨some ⟨g,0,none⟩,nn.toNat+1,by rw [HLL.out];rfl,by rw [← HE.out];exact HM.out.irow,HB2.out⟩
end
section
variable (n:Net) (ao:Option Addr) (cap:Nat) (fo:Option Addr) (fc:Nat) (f:List Int) (x:Int) (L0:List Int) (w:World) (hr:ARow w ao n.l) (hf:IRow w fo f) (hl:n.l.length≤1000000) (hok:∀ a∈n.l,in64 a.cap) (hL:reE n f x=0→IsLev n f x L0)
include hr hf hl hok hL
theorem ddeep_any:Calls Tryz.prog 30 #[encN n ao cap,.slice fo f.length fc,.int .i64 x] w fun e w'=>e=.returned (.tuple #[.int .i64 (dpV n f x L0),.int .i64 (reE n f x)])∧Below w.heap.size w w':=by
 have WD:=hid (fun w' (h1:ARow w' ao n.l) (h2:IRow w' fo f)=>dlevels_any n ao cap fo fc f x L0 w' h1 h2 hl hok hL)
 by_cases c0:reE n f x=0
 case neg =>
  rw [(lvV_bad (L:=L0) c0).2.2]
  generalize lvV n f x L0=WV at *
  generalize reE n f x=E at *
  clear hL
  generalize f.length=fl at *
  obtain ⟨nn,ns,nt,l⟩:=n
  simp only at hr WD ⊢
  have HB0:=hid ((Below.refl w.heap.size w).alloc (Nat.le_refl _) (.cells #[.int .i64 nn,.int .i64 ns,.int .i64 nt,.slice ao l.length cap] 24))
  have HR:=hid (hr.kept HB0.out)
  have HF:=hid (hf.kept HB0.out)
  have c1':(E == 0)=false:=by simpa using c0
  have c1n:(E != 0)=true:=by simpa using c0
  clear hr hf c0
  go_enter Tryz.func30,Tryz.ntmps30
  go_wp2_with fail
  refine (WD.out _ HR.out HF.out).mono ?_
  rintro e w1 ⟨o,c,rfl,_,hb⟩
  have HB1:=hid (HB0.out.trans (hb.mono (by simp)))
  clear hb
  go_wp2
  go_ret2
  exact ⟨rfl,HB1.out⟩
 obtain ⟨hc0,hx1⟩:=reE_ok c0
 have hR:=rgO (chkA_ok (chkF_ok hc0).1).1
 rw [(lvV_ok (L:=L0) c0).2.2,c0]
 rw [c0,(lvV_ok (L:=L0) c0).1] at WD
 have HLL:=hid (hL c0).len
 rw [HLL.out] at WD
 have hN0:=hR.n0
 have hN1:=hR.n1
 have hT0:=hR.t0
 have hT1:=hR.t1
 clear hL c0 hc0 hx1 hR
 generalize f.length=fl at *
 obtain ⟨nn,ns,nt,l⟩:=n
 simp only at hr WD HLL hN0 hN1 hT0 hT1 ⊢
 obtain ⟨N,rfl⟩:∃ N:Nat,nn=(N:Int):=⟨nn.toNat,by omega⟩
 obtain ⟨T,rfl⟩:∃ T:Nat,nt=(T:Int):=⟨nt.toNat,by omega⟩
 simp only [Int.toNat_natCast] at HLL WD ⊢
 have HB0:=hid ((Below.refl w.heap.size w).alloc (Nat.le_refl _) (.cells #[.int .i64 (N:Int),.int .i64 ns,.int .i64 (T:Int),.slice ao l.length cap] 24))
 have HN0:=hid (nbN w (N:Int) ns (T:Int) (.slice ao l.length cap))
 have HR:=hid (hr.kept HB0.out)
 have HF:=hid (hf.kept HB0.out)
 clear hr hf
 go_enter Tryz.func30,Tryz.ntmps30
 go_wp2_with fail
 refine (WD.out _ HR.out HF.out).mono ?_
 rintro e w1 ⟨o,c,rfl,hi,hb⟩
 have HB1:=hid (HB0.out.trans (hb.mono (by simp)))
 have HN1:=hid (nbB HN0.out hb (by simp))
 obtain ⟨n0,n1,n2,n3⟩:=nbC HN1.out
 obtain ⟨b1,o1,rfl,_,d0⟩:=irC hi (i:=T) (by rw [HLL.out];omega)
 have hti:(T:Int)<(N:Int)+1:=by omega
 have ht0:(0:Int)≤(T:Int):=by omega
 generalize hA:amt L0 T=a at *
 have HA:=hid hA
 clear hA hb hi HB0 HN0 HR HF WD
 go_wp2
 go_ret2
 exact ⟨by rw [HA.out];rfl,HB1.out⟩
end
end Ne
namespace Ne
def RunBox (w:World) (b:Nat) (v:Value) (p k s:Int):Prop:=w.heap[b]? = some (.cells #[v,.int .i64 p,.int .i64 k,.int .i64 s] 41 (0,0))
section
variable {w w2:World} {b B:Nat} {v v2:Value} {p k s p2 k2 s2:Int}
theorem rbC (h:RunBox w b v p k s):w.cell? ⟨b,0,none⟩=some v∧w.cell? ⟨b,1,none⟩=some (.int .i64 p)∧w.cell? ⟨b,2,none⟩=some (.int .i64 k)∧w.cell? ⟨b,3,none⟩=some (.int .i64 s):=by
 unfold RunBox at h
 refine ⟨?_,?_,?_,?_⟩ <;> simp [World.cell?,h]
theorem rbF (h:RunBox w b v p k s) (o:Nat):w.frozen? ⟨b,o,none⟩=false:=by
 unfold RunBox at h;simp [World.frozen?,h]
theorem rbL (h:RunBox w b v p k s):b<w.heap.size:=Rw.lt_of_heap h
theorem rbB (h:RunBox w b v p k s) (hb:Below B w w2) (hB:b<B):RunBox w2 b v p k s:=by
 unfold RunBox at *;rw [hb.block b hB];exact h
theorem runBox_alloc (h:RunBox w b v p k s) (o:Obj):RunBox (w.alloc o) b v p k s :=
 rbB h ((Below.refl _ _).alloc (Nat.le_refl _) o) (rbL h)
theorem runBox_at (w:World) (hb:b=w.heap.size) (v:Value) (p k s:Int):RunBox (w.alloc (.cells #[v,.int .i64 p,.int .i64 k,.int .i64 s] 41)) b v p k s:=by
 subst hb;unfold RunBox;show (w.heap.push _)[w.heap.size]? = _;simp
theorem runBox_all (h:RunBox w b v p k s):RunBox ((((w.setCell ⟨b,0,none⟩ v2).setCell ⟨b,1,none⟩ (.int .i64 p2)).setCell ⟨b,2,none⟩ (.int .i64 k2)).setCell ⟨b,3,none⟩ (.int .i64 s2)) b v2 p2 k2 s2:=by
 unfold RunBox at *
 simp only [World.setCell,Array.getElem?_modify,h,if_true,Option.map_some]
 rfl
theorem runBox_own (h:RunBox w b v p k s) {B:Nat} {o:Option Addr} {n c:Nat} {l:List Int} (ho:OwnL w B (.slice o n c) l) (hb:b<B) (v2:Value) (p2 k2 s2:Int) :
  OwnL ((((w.setCell ⟨b,0,none⟩ v2).setCell ⟨b,1,none⟩ (.int .i64 p2)).setCell ⟨b,2,none⟩ (.int .i64 k2)).setCell ⟨b,3,none⟩ (.int .i64 s2)) B (.slice o n c) l:=by
 have hvb:=Rw.owK ho
 exact Rw.own_set (Rw.own_set (Rw.own_set (Rw.own_set ho (p:=⟨b,0,none⟩) (fun h=>by have h2:=hvb _ h;simp only at h2;omega) v2) (p:=⟨b,1,none⟩) (fun h=>by have h2:=hvb _ h;simp only at h2;omega) (.int .i64 p2)) (p:=⟨b,2,none⟩) (fun h=>by have h2:=hvb _ h;simp only at h2;omega) (.int .i64 k2)) (p:=⟨b,3,none⟩) (fun h=>by have h2:=hvb _ h;simp only at h2;omega) (.int .i64 s2)
theorem below_all {B b:Nat} (h:Below B w w2) (hb:B≤b) (v2:Value) (p2 k2 s2:Int):Below B w ((((w2.setCell ⟨b,0,none⟩ v2).setCell ⟨b,1,none⟩ (.int .i64 p2)).setCell ⟨b,2,none⟩ (.int .i64 k2)).setCell ⟨b,3,none⟩ (.int .i64 s2)) :=
 (((h.setCell (p:=⟨b,0,none⟩) hb v2).setCell (p:=⟨b,1,none⟩) hb (.int .i64 p2)).setCell (p:=⟨b,2,none⟩) hb (.int .i64 k2)).setCell (p:=⟨b,3,none⟩) hb (.int .i64 s2)
end
def engV (q:Bool):Value:=.iface (if q then 91 else 90) (.agg #[])
def engB (q:Bool):FuncId:=if q then 102 else 89
theorem results_cell_one {P:Program} {fn:Func} {p u:Tmp} {ty:TypeId} (h:fn.results = #[.cell p ty,.tmp u]) (tmps:Array Value) (w:World) (g:Nat) (t:TypeId) (cs:Array Value) (fr:Nat × Nat) (d:TypeDesc)
  (hp:tmps.getD p undef=.pointer (some ⟨g,0,none⟩)) (hg:w.heap[g]? = some (.cells cs t fr))
  (hu:P.underlying ty=some d) (hd:(match d with | .struct _ | .array _ _=>true | _=>false)=true) (hi:(P.info? ty).map (·.size)=some cs.size) :
  (results fn tmps).run P w=.ok (.tuple #[.agg cs,tmps.getD u undef]) w:=by
 have hp':tmps[p]?.getD undef=.pointer (some ⟨g,0,none⟩):=by simpa using hp
 simp [results,h,hp',asAddr,run_loadVar_row w g t ty cs fr d hg hu hd hi]
theorem most_le {n:Net} (hR:Right n):mostV n≤10000000000:=by
 have h0:=hR.n0;have h1:=hR.n1;have h2:=hR.len
 obtain ⟨N,hN⟩:∃ N:Nat,n.n=(N:Int):=⟨n.n.toNat,by omega⟩
 obtain ⟨k,q,e1,_,h3,_,_,_⟩:=log_up N (by omega) (by omega)
 unfold mostV
 rw [hN,e1]
 obtain ⟨m,hm⟩:∃ m,m=n.l.length:=⟨_,rfl⟩
 rw [← hm] at h2 ⊢
 have a1:(N+m)*((2+k)*(2+k))≤2500*(11*11):=Nat.mul_le_mul (by omega) (Nat.mul_le_mul (by omega) (by omega))
 have e:(20000*((N:Int)+(m:Int))*(2+(k:Int))*(2+(k:Int)))=((20000*((N+m)*((2+k)*(2+k))):Nat):Int):=by
  rw [Int.natCast_mul,Int.natCast_mul,Int.natCast_mul,Int.natCast_add,Int.natCast_add,Int.mul_assoc,Int.mul_assoc];rfl
 rw [e]
 omega
def stM (n:Net) (q:Bool):Int:=if q then mostV n else 0
theorem phase_of (n:Net) (ao:Option Addr) (cap:Nat) (fo:Option Addr) (fc:Nat) (w:World) (x:Int) (q:Bool) (p k s:Int) (f g:List Int) (kW M:Int) (hr:ARow w ao n.l) (hf:IRow w fo f)
  (hp:0≤p∧p≤1000000) (hk:0≤k∧k≤100000000000) (hkW:0≤kW∧kW≤1000000) (hs:0≤s∧s≤1000000000000000) (hM:M≤10000000000)
  (BLK:∀ w',ARow w' ao n.l→IRow w' fo f→Calls Tryz.prog (engB q) #[.agg #[],encN n ao cap,.slice fo n.l.length fc,.int .i64 x] w' fun e w2=>∃ o c st,e=.returned (.tuple #[.slice o n.l.length c,.int .i64 kW,.int .i64 st,.int .i64 0])∧OwnL w2 w'.heap.size (.slice o n.l.length c) g∧0≤st∧st≤M∧Below w'.heap.size w' w2) :
  Calls Tryz.prog 33 #[encN n ao cap,.agg #[.slice fo n.l.length fc,.int .i64 p,.int .i64 k,.int .i64 s],.int .i64 x,engV q] w fun e w'=>∃ o c st,e=.returned (.tuple #[.agg #[.slice o n.l.length c,.int .i64 (p+1),.int .i64 (k+kW),.int .i64 (s+st)],.int .i64 0])∧OwnL w' w.heap.size (.slice o n.l.length c) g∧0≤st∧st≤M∧Below w.heap.size w w':=by
 have HBN:=hid (((Below.refl w.heap.size w).alloc (Nat.le_refl _) (.cells #[.int .i64 n.n,.int .i64 n.s,.int .i64 n.t,.slice ao n.l.length cap] 24)))
 have HB:=hid ((HBN.out.alloc (by simp) (.cells #[.slice fo n.l.length fc,.int .i64 p,.int .i64 k,.int .i64 s] 41)).alloc (by simp;omega) (.cells #[.slice none 0 0,.int .i64 0,.int .i64 0,.int .i64 0] 41))
 have HX:=hid (runBox_alloc (runBox_at (w.alloc (.cells #[.int .i64 n.n,.int .i64 n.s,.int .i64 n.t,.slice ao n.l.length cap] 24)) (b:=w.heap.size+1) (by simp) (.slice fo n.l.length fc) p k s) (.cells #[.slice none 0 0,.int .i64 0,.int .i64 0,.int .i64 0] 41))
 have HY:=hid (runBox_at ((w.alloc (.cells #[.int .i64 n.n,.int .i64 n.s,.int .i64 n.t,.slice ao n.l.length cap] 24)).alloc (.cells #[.slice fo n.l.length fc,.int .i64 p,.int .i64 k,.int .i64 s] 41)) (b:=w.heap.size+1+1) (by simp) (.slice none 0 0) 0 0 0)
 have BL:=hid (BLK _ (hr.kept HB.out) (hf.kept HB.out))
 have hp1:IntKind.i64.wrap (p+1)=p+1:=by rw [IntKind.wrap_i64];omega
 have hk1:IntKind.i64.wrap (k+kW)=k+kW:=by rw [IntKind.wrap_i64];omega
 have hw1:∀ (m:Nat) (w:World),(method (m+1) 90 (.agg #[]) "raceway/dinic.block").run Tryz.prog w=.ok (89,.agg #[]) w:=fun _ _=>by kernel_rfl
 have hw2:∀ (m:Nat) (w:World),(method (m+1) 91 (.agg #[]) "raceway/dinic.block").run Tryz.prog w=.ok (102,.agg #[]) w:=fun _ _=>by kernel_rfl
 clear BLK hr hf
 cases q
 all_goals
  unfold engV engB at *
  simp only [Bool.false_eq_true,if_false,if_true] at *
  go_enter Tryz.func33,Tryz.ntmps33
  go_wp2_with fail
  refine BL.out.mono ?_
  rintro e w1 ⟨o,c,st,rfl,hi,h1,h2,hb⟩
  have hs1:IntKind.i64.wrap (s+st)=s+st:=by rw [IntKind.wrap_i64];omega
  have X1:=rbB HX.out hb (by simp)
  have Y1:=rbB HY.out hb (by simp)
  have HB1:=hid (HB.out.trans (hb.mono (by simp;omega)))
  have HO:=hid hi
  have HY1:=hid Y1
  have HS:=hid (show 0≤st∧st≤M from ⟨h1,h2⟩)
  obtain ⟨x0,x1,x2,x3⟩:=rbC X1
  obtain ⟨y0,y1,y2,y3⟩:=rbC Y1
  have f0:=rbF Y1 0
  have f1:=rbF Y1 1
  have f2:=rbF Y1 2
  have f3:=rbF Y1 3
  clear hb hi h1 h2 X1 Y1
  go_wp2
  refine bodyPost_ret_by (results_cell_one rfl _ _ (w.heap.size+1+1) 41 _ (0,0) _ rfl (runBox_all (v2:=.slice o n.l.length c) (p2:=p+1) (k2:=k+kW) (s2:=s+st) HY1.out) Tryz.underlying41 rfl (by kernel_rfl)) rfl ?_
  exact ⟨o,c,st,rfl,Rw.own_base (runBox_own HY1.out HO.out (by simp) _ _ _ _) (by simp;omega),HS.out.1,HS.out.2,below_all HB1.out (by omega) _ _ _ _⟩
section
variable {n:Net} (ao:Option Addr) (cap:Nat) (fo:Option Addr) (fc:Nat) {f:List Int} (w:World) (ck:checkN n=0) (hr:ARow w ao n.l) (hf:IRow w fo f) (hF:Okf n f) (x:Int) (hx:1≤x) {L:List Int} (hL:IsLev n f x L)
include ck hr hf hF hx hL
theorem deep_okf:Calls Tryz.prog 30 #[encN n ao cap,.slice fo n.l.length fc,.int .i64 x] w fun e w'=>e=.returned (.tuple #[.int .i64 (amt L n.t.toNat),.int .i64 0])∧Below w.heap.size w w':=by
 have e:reE n f x=0:=by unfold reE;rw [if_neg (by simpa using hF.chk ck),if_neg (by omega)]
 have h:=ddeep_any n ao cap fo fc f x L w hr hf (by have:=(rgO ck).len;omega) (cap_64 (rgO ck)) (fun _=>hL)
 rw [hF.len,e,(lvV_ok e).2.2] at h
 exact h
variable {W:List (List Nat × Int)} {g:List Int} (hB:IsBlk n.l (leadL n.l f x L (2*n.l.length)) f x n.s n.t W g)
include hB
theorem pblock_own:Calls Tryz.prog 90 #[encN n ao cap,.slice fo n.l.length fc,.int .i64 x] w fun e w'=>∃ o c v,e=.returned (.tuple #[.slice o n.l.length c,v,.int .i64 0])∧OwnL w' w.heap.size (.slice o n.l.length c) g∧WkR 150 w' w.heap.size v W∧Below w.heap.size w w':=by
 have e:reE n f x=0:=by unfold reE;rw [if_neg (by simpa using hF.chk ck),if_neg (by omega)]
 have h:=dblock_own n ao cap fo fc f x L W g w hr hf (by have:=(rgO ck).len;omega) (cap_64 (rgO ck)) (fun _=>hL) (fun _=>hB)
 have e1:blG n f x g=g:=by unfold blG;rw [if_neg (by simpa using e)]
 have e2:blW n f x W=W:=by unfold blW;rw [if_neg (by simpa using e)]
 rw [hF.len,e1,e2,(blk_len hF hx hB).1,e] at h
 exact h
theorem tblk_own:Calls Tryz.prog 103 #[encN n ao cap,.slice fo n.l.length fc,.int .i64 x] w fun e w'=>∃ o c st,e=.returned (.tuple #[.slice o n.l.length c,.int .i64 (W.length:Int),.int .i64 st,.int .i64 0])∧OwnL w' w.heap.size (.slice o n.l.length c) g∧0≤st∧st≤mostV n∧Below w.heap.size w w':=by
 have e:reE n f x=0:=by unfold reE;rw [if_neg (by simpa using hF.chk ck),if_neg (by omega)]
 have h:=tblock_own n ao cap fo fc f x L W g w hr hf (by have:=(rgO ck).len;omega) (cap_64 (rgO ck)) (fun _=>hL) (fun _=>hB)
 have e1:blG n f x g=g:=by unfold blG;rw [if_neg (by simpa using e)]
 have e2:blW n f x W=W:=by unfold blW;rw [if_neg (by simpa using e)]
 rw [hF.len,e1,e2,(blk_len hF hx hB).1,e] at h
 have hn0:=(rgO ck).n0
 refine h.mono ?_
 rintro e w' ⟨o,c,st,h1,h2,_,h3,h4⟩
 obtain ⟨_,k2,_,k4⟩:=h3 rfl
 exact ⟨o,c,st,h1,h2,by omega,k4,h4⟩
theorem bwalks_own:Calls Tryz.prog 89 #[.agg #[],encN n ao cap,.slice fo n.l.length fc,.int .i64 x] w fun e w'=>∃ o c,e=.returned (.tuple #[.slice o n.l.length c,.int .i64 (W.length:Int),.int .i64 0,.int .i64 0])∧OwnL w' w.heap.size (.slice o n.l.length c) g∧Below w.heap.size w w':=by
 have BC:=hid fun w' h1 h2=>pblock_own (n:=n) (f:=f) ao cap fo fc w' ck h1 h2 hF x hx hL hB
 have HB:=hid (((Below.refl w.heap.size w).alloc (Nat.le_refl _) (.cells #[] 90)).alloc (by simp) (.cells #[.int .i64 n.n,.int .i64 n.s,.int .i64 n.t,.slice ao n.l.length cap] 24))
 have HN:=hid (netBox_at (w.alloc (.cells #[] 90)) (b:=w.heap.size+1) (by simp) n.n n.s n.t (.slice ao n.l.length cap))
 have HR:=hid (hr.kept HB.out)
 have HF:=hid (hf.kept HB.out)
 clear hr hf hF hL hB ck
 obtain ⟨n0,n1,n2,n3⟩:=nbC HN.out
 go_enter Tryz.func89,Tryz.ntmps89
 go_wp2_with fail
 refine (BC.out _ HR.out HF.out).mono ?_
 rintro e w1 ⟨o,c,v,rfl,hi,hv,hb⟩
 have HI:=hid hi
 have HB1:=hid (HB.out.trans (hb.mono (by simp;omega)))
 obtain ⟨o9,c9,rfl,_,_,_⟩:=hv.val
 clear hb hi hv n0 n1 n2 n3
 go_wp2
 refine bodyPost_ret (results_tmp4 rfl _ _ _) rfl ?_
 exact ⟨o,c,rfl,Rw.own_base HI.out (by simp;omega),HB1.out⟩
theorem btrees_own:Calls Tryz.prog 102 #[.agg #[],encN n ao cap,.slice fo n.l.length fc,.int .i64 x] w fun e w'=>∃ o c st,e=.returned (.tuple #[.slice o n.l.length c,.int .i64 (W.length:Int),.int .i64 st,.int .i64 0])∧OwnL w' w.heap.size (.slice o n.l.length c) g∧0≤st∧st≤mostV n∧Below w.heap.size w w':=by
 have BC:=hid fun w' h1 h2=>tblk_own (n:=n) (f:=f) ao cap fo fc w' ck h1 h2 hF x hx hL hB
 have HB:=hid (((Below.refl w.heap.size w).alloc (Nat.le_refl _) (.cells #[] 91)).alloc (by simp) (.cells #[.int .i64 n.n,.int .i64 n.s,.int .i64 n.t,.slice ao n.l.length cap] 24))
 have HN:=hid (netBox_at (w.alloc (.cells #[] 91)) (b:=w.heap.size+1) (by simp) n.n n.s n.t (.slice ao n.l.length cap))
 have HR:=hid (hr.kept HB.out)
 have HF:=hid (hf.kept HB.out)
 clear hr hf hF hL hB ck
 obtain ⟨n0,n1,n2,n3⟩:=nbC HN.out
 go_enter Tryz.func102,Tryz.ntmps102
 go_wp2_with fail
 refine (BC.out _ HR.out HF.out).mono ?_
 rintro e w1 ⟨o,c,st,rfl,hi,s1,s2,hb⟩
 have HI:=hid hi
 have HS:=hid (show 0≤st∧st≤mostV n from ⟨s1,s2⟩)
 have HB1:=hid (HB.out.trans (hb.mono (by simp;omega)))
 clear hb hi n0 n1 n2 n3 s1 s2
 go_wp2
 refine bodyPost_ret (results_tmp4 rfl _ _ _) rfl ?_
 exact ⟨o,c,st,rfl,Rw.own_base HI.out (by simp;omega),HS.out.1,HS.out.2,HB1.out⟩
theorem phase_any (q:Bool) (p k s:Int) (hp:0≤p∧p≤1000000) (hk:0≤k∧k≤100000000000) (hs:0≤s∧s≤1000000000000000) :
  Calls Tryz.prog 33 #[encN n ao cap,.agg #[.slice fo n.l.length fc,.int .i64 p,.int .i64 k,.int .i64 s],.int .i64 x,engV q] w fun e w'=>∃ o c st,e=.returned (.tuple #[.agg #[.slice o n.l.length c,.int .i64 (p+1),.int .i64 (k+(W.length:Int)),.int .i64 (s+st)],.int .i64 0])∧OwnL w' w.heap.size (.slice o n.l.length c) g∧0≤st∧st≤stM n q∧Below w.heap.size w w':=by
 have hR:=rgO ck
 have h1:=(blk_len hF hx hB).2
 have h2:=leadL_len n.l f x L (2*n.l.length)
 have h3:=hR.len
 refine phase_of n ao cap fo fc w x q p k s f g W.length (stM n q) hr hf hp hk ⟨by omega,by omega⟩ hs ?_ fun w' g1 g2=>?_
 ·unfold stM
  have:=most_le hR
  split <;> omega
 ·cases q
  ·refine (bwalks_own ao cap fo fc w' ck g1 g2 hF x hx hL hB).mono ?_
   rintro e w2 ⟨o,c,h,h',h''⟩
   exact ⟨o,c,0,h,h',Int.le_refl _,Int.le_refl _,h''⟩
  ·exact btrees_own ao cap fo fc w' ck g1 g2 hF x hx hL hB
end
end Ne
namespace Ne
def engC (q:Bool):Int:=if q then 116 else 112
theorem most_nn {n:Net} (hR:Right n):0≤mostV n:=by
 unfold mostV
 have:=hR.n0
 have:=hR.n1
 obtain ⟨lk,_,e,_⟩:=log_up n.n.toNat (by omega) (by omega)
 rw [show ((n.n.toNat:Nat):Int)=n.n by omega] at e
 rw [e]
 exact Int.mul_nonneg (Int.mul_nonneg (Int.mul_nonneg (by omega) (by omega)) (by omega)) (by omega)
theorem st_most {n:Net} (hR:Right n) (q:Bool):stM n q≤mostV n:=by
 have:=most_nn hR
 unfold stM
 split <;> omega
theorem named_any (q:Bool) (w:World):Calls Tryz.prog 31 #[.int .u8 (engC q)] w fun e w'=>e=.returned (.tuple #[engV q,.int .i64 0])∧w' = w:=by
 cases q
 all_goals
  unfold engC engV
  go_enter Tryz.func31,Tryz.ntmps31
  go_wp2
  (try simp only [Exit.inBlock,Exit.then])
  go_ret2
  exact ⟨rfl,rfl⟩
theorem named_bad (a:Int) (h1:a≠112) (h2:a≠116) (w:World):Calls Tryz.prog 31 #[.int .u8 a] w fun e w'=>e=.returned (.tuple #[.nilIface,.int .i64 1])∧w' = w:=by
 have e1:(a == 112)=false:=by simpa using h1
 have e2:(a == 116)=false:=by simpa using h2
 clear h1 h2
 go_enter Tryz.func31,Tryz.ntmps31
 go_wp2
 (try simp only [Exit.inBlock,Exit.then])
 go_ret2
 exact ⟨rfl,rfl⟩
theorem phs_next {n:Net} (hR:Right n) {x:Int} (hx:1≤x) {f h L:List Int} {p k:Nat} (hL:IsLev n f x L) (hF:Okf n f) (P:Phs n x f h (p+1) k):0≤amt L n.t.toNat∧∃ (W:List (List Nat × Int)) (g L2:List Int) (k2:Nat),IsBlk n.l (leadL n.l f x L (2*n.l.length)) f x n.s n.t W g∧k=W.length+k2∧Okf n g∧IsLev n g x L2∧Phs n x g h p k2:=by
 cases P with
 | @step f g h L3 W p k2 hL3 hd hB q =>
  have e:=lev_one hR hL hL3
  subst e
  obtain ⟨L2,hl2⟩:=lev_exists hR g x
  exact ⟨hd,W,g,L2,k2,hB,rfl,blkW_okf hR (lds_of n.l f x L) hx hF hB.1,hl2,q⟩
theorem phs_stop {n:Net} (hR:Right n) {x:Int} {f h L:List Int} {k:Nat} (hL:IsLev n f x L) (P:Phs n x f h 0 k):amt L n.t.toNat<0∧h=f∧k=0:=by
 cases P with
 | @done f L3 hL3 hd =>
  have e:=lev_one hR hL hL3
  subst e
  exact ⟨hd,rfl,rfl⟩
section
variable {n:Net} (ao:Option Addr) (cap:Nat) (fo:Option Addr) (fc:Nat) {f h:List Int} (w:World) (ck:checkN n=0) (hr:ARow w ao n.l) (hf:IRow w fo f) (hF:Okf n f) {x:Int} (hx:1≤x) {p k:Nat} (P:Phs n x f h p k)
include ck hr hf hF hx P
theorem from_flow (q:Bool):Calls Tryz.prog 20 #[encN n ao cap,.slice fo n.l.length fc,.int .i64 x,.int .u8 (engC q)] w fun e w'=>∃ o c st,e=.returned (.tuple #[.agg #[.slice o n.l.length c,.int .i64 (p:Int),.int .i64 (k:Int),.int .i64 st],.int .i64 0])∧OwnL w' w.heap.size (.slice o n.l.length c) h∧0≤st∧st≤(p:Int)*stM n q∧Below w.heap.size w w':=by
 have hR:=rgO ck
 have hml:=hR.len
 have hN1:=hR.n1
 have hpk:=(phs_lt hR hx P hF).1
 have hkk:=phs_walks hR hx P hF
 obtain ⟨L0,hl0⟩:=lev_exists hR f x
 have hst0:0≤stM n q∧stM n q≤10000000000:=by
  have h1:=most_le hR
  have h2:=most_nn hR
  unfold stM
  split <;> omega
 have HBN:=hid ((Below.refl w.heap.size w).alloc (Nat.le_refl _) (.cells #[.int .i64 n.n,.int .i64 n.s,.int .i64 n.t,.slice ao n.l.length cap] 24))
 have HB0:=hid (HBN.out.alloc (by simp) (.cells #[.slice none 0 0,.int .i64 0,.int .i64 0,.int .i64 0] 41))
 have HN0:=hid (nbA (nbN w n.n n.s n.t (.slice ao n.l.length cap)) (.cells #[.slice none 0 0,.int .i64 0,.int .i64 0,.int .i64 0] 41))
 have HX0:=hid (runBox_at (w.alloc (.cells #[.int .i64 n.n,.int .i64 n.s,.int .i64 n.t,.slice ao n.l.length cap] 24)) (b:=w.heap.size+1) (by simp) (.slice none 0 0) 0 0 0)
 have hz0:w.heap.size+1<((w.alloc (.cells #[.int .i64 n.n,.int .i64 n.s,.int .i64 n.t,.slice ao n.l.length cap] 24)).alloc (.cells #[.slice none 0 0,.int .i64 0,.int .i64 0,.int .i64 0] 41)).heap.size:=by simp
 have HR:=hid hr
 have HF:=hid hf
 have DP:=hid fun fl fo fc w' L (h3:Okf n fl) (h4:IsLev n fl x L) h1 h2=>deep_okf (n:=n) (f:=fl) ao cap fo fc w' ck h1 h2 h3 x hx h4
 have PH:=hid fun fl fo fc w' L W g (h3:Okf n fl) (h4:IsLev n fl x L) (hB:IsBlk n.l (leadL n.l fl x L (2*n.l.length)) fl x n.s n.t W g) h1 h2 pi ki si b1 b2 b3=>phase_any (n:=n) (f:=fl) ao cap fo fc w' ck h1 h2 h3 x hx h4 hB q pi ki si b1 b2 b3
 have CL:=hid (fun w' h1=>cloneL_any f fo n.l.length fc w' hF.len.symm h1 (by have:=hF.len;omega))
 have NX:=hid fun fl L p k (h1:IsLev n fl x L) (h2:Okf n fl) (P:Phs n x fl h (p+1) k)=>phs_next hR hx h1 h2 P
 have SP:=hid fun fl L k (h1:IsLev n fl x L) (P:Phs n x fl h 0 k)=>phs_stop hR h1 P
 have HP:=hid P
 have HL0:=hid hl0
 have HOK:=hid hF
 have HS0:=hid hst0
 have HPK:=hid (show p≤500∧k≤100000000 from ⟨by omega,by
  have:p*(2*n.l.length)≤500*(2*2000):=Nat.mul_le_mul (by omega) (by omega)
  omega⟩)
 have NM:=hid (fun w'=>named_any q w')
 clear hR hml hN1 hpk hkk hl0 hst0 hr hf hF P ck hx
 generalize stM n q=SM at *
 generalize engC q=qc at *
 generalize engV q=qv at *
 obtain ⟨n0,n1,n2,n3⟩:=nbC HN0.out
 go_enter Tryz.func20,Tryz.ntmps20
 go_wp2_with fail
 refine (DP.out f fo fc _ L0 HOK.out HL0.out (HR.out.kept HB0.out) (HF.out.kept HB0.out)).mono ?_
 rintro e w1 ⟨rfl,hb⟩
 have HB1:=hid (HB0.out.trans (hb.mono HB0.out.size))
 have HN1:=hid (nbB HN0.out hb (by omega))
 have HX1:=hid (rbB HX0.out hb hz0)
 have hz1:w.heap.size+1<w1.heap.size:=rbL HX1.out
 clear hb n0 n1 n2 n3 hz0 HX0 HN0
 obtain ⟨n0,n1,n2,n3⟩:=nbC HN1.out
 go_wp2_with fail
 refine (NM.out _).mono ?_
 rintro e w2 ⟨rfl,rfl⟩
 go_wp2_with fail
 refine (CL.out _ (HF.out.kept HB1.out)).mono ?_
 rintro e w3 ⟨o3,c3,rfl,ho,hb⟩
 have HB3:=hid (HB1.out.trans (hb.mono HB1.out.size))
 have HN3:=hid (nbB HN1.out hb (by omega))
 have HX3:=hid (rbB HX1.out hb hz1)
 have HO3:=hid ho
 have hz3:w.heap.size+1<w3.heap.size:=rbL HX3.out
 clear hb ho n0 n1 n2 n3 HX1 HN1
 obtain ⟨br,hbr⟩:∃ br,br=w3.heap.size:=⟨_,rfl⟩
 have HBA:=hid ((Below.refl w3.heap.size w3).alloc (Nat.le_refl _) (.cells #[.slice o3 n.l.length c3,.int .i64 0,.int .i64 0,.int .i64 0] 41))
 have HXR:=hid (runBox_at w3 hbr (.slice o3 n.l.length c3) 0 0 0)
 have HOR:=hid (Rw.own_base (Rw.own_below HO3.out HBA.out) (B':=w.heap.size+2) (by omega))
 have HBR:=hid hbr
 go_wp2
 rw [← hbr]
 clear hbr HO3
 generalize (w3.alloc (.cells #[.slice o3 n.l.length c3,.int .i64 0,.int .i64 0,.int .i64 0] 41))=w4 at *
 go_loopg [10,11] p (fun gg s10 s11 wr=>∃ (fl L:List Int) (pi ki kr ci:Nat) (oi:Option Addr) (si:Int),s10=.int .i64 (amt L n.t.toNat)∧s11=.int .i64 0∧pi+gg=p∧Hid (ki+kr=k)∧Hid (0≤si∧si≤(pi:Int)*SM)∧Hid (Okf n fl)∧Hid (IsLev n fl x L)∧Hid (Phs n x fl h gg kr)∧Hid (RunBox wr br (.slice oi n.l.length ci) pi ki si)∧Hid (OwnL wr (w.heap.size+2) (.slice oi n.l.length ci) fl)∧Hid (Below w3.heap.size w3 wr))
 case atStart=>exact ⟨f,L0,0,0,k,c3,o3,0,rfl,rfl,by omega,hid (by omega),hid (by omega),HOK,HL0,HP,HXR,HOR,HBA⟩
 case round =>
  obtain ⟨fl,L,pi,ki,kr,ci,oi,si,rfl,rfl,hpg,HKK,HSI,HOF,HLV,HPR,HXI,HOI,HBW⟩:=hrel
  have HNW:=hid (nbB HN3.out HBW.out (by omega))
  have HXW:=hid (rbB HX3.out HBW.out hz3)
  have HRW:=hid (HR.out.kept (HB3.out.trans (HBW.out.mono HB3.out.size)))
  obtain ⟨n0,n1,n2,n3⟩:=nbC HNW.out
  obtain ⟨r0,r1,r2,r3⟩:=rbC HXI.out
  by_cases hg0:gk=0
  ·obtain ⟨hneg,hh,hk0⟩:=SP.out fl L kr HLV.out (by have h:=HPR.out;rwa [hg0] at h)
   have hpp:pi=p:=by omega
   have hkk:ki=k:=by have:=HKK.out;omega
   have hd:decide (0≤amt L n.t.toNat)=false:=by simpa using hneg
   subst hh hpp hkk
   obtain ⟨y0,y1,y2,y3⟩:=rbC HXW.out
   have f0:=rbF HXW.out 0
   have f1:=rbF HXW.out 1
   have f2:=rbF HXW.out 2
   have f3:=rbF HXW.out 3
   have HBE:=hid (HB3.out.trans (HBW.out.mono HB3.out.size))
   clear hneg hk0 hpg
   generalize amt L n.t.toNat=dv at *
   go_wp2
   refine bodyPost_ret_by (results_cell_one rfl _ _ (w.heap.size+1) 41 _ (0,0) _ rfl (runBox_all (v2:=.slice oi n.l.length ci) (p2:=(pi:Int)) (k2:=(ki:Int)) (s2:=si) HXW.out) Tryz.underlying41 rfl (by kernel_rfl)) rfl ?_
   exact ⟨oi,ci,si,rfl,Rw.own_base (runBox_own HXW.out HOI.out (by omega) _ _ _ _) (by omega),HSI.out.1,HSI.out.2,below_all HBE.out (by omega) _ _ _ _⟩
  ·obtain ⟨pr,hpr⟩:∃ pr,gk=pr+1:=⟨gk-1,by omega⟩
   obtain ⟨hpos,W,g,L2,k2,hB,hk2,hG,hl2,hP2⟩:=NX.out fl L pr kr HLV.out HOF.out (by have h:=HPR.out;rwa [hpr] at h)
   have hd:decide (0≤amt L n.t.toNat)=true:=by simpa using hpos
   have hpp:pi<p:=by omega
   have hsi:si≤10000000000000:=by
    have h1:=HSI.out.2
    have h2:(pi:Int)*SM≤500*10000000000:=Int.le_trans (Int.mul_le_mul_of_nonneg_right (by have:=HPK.out;omega) HS0.out.1) (Int.mul_le_mul_of_nonneg_left HS0.out.2 (by omega))
    omega
   have PC:=hid (PH.out fl oi ci wr L W g HOF.out HLV.out hB HRW.out (owI HOI.out) (pi:Int) (ki:Int) si ⟨by omega,by have:=HPK.out;omega⟩ ⟨by omega,by have:=HPK.out;have:=HKK.out;omega⟩ ⟨HSI.out.1,by omega⟩)
   have HG:=hid hG
   have HL2:=hid hl2
   have HP2:=hid hP2
   have HPP:=hid (show pi+1+pr=p∧pr<gk∧ki+W.length+k2=k from ⟨by omega,by omega,by have:=HKK.out;omega⟩)
   clear hpos hB hk2 hG hl2 hP2 hpr hg0 hpg hpp hsi
   generalize amt L n.t.toNat=dv at *
   go_wp2_with fail
   refine PC.out.mono ?_
   rintro e w5 ⟨o5,c5,st,rfl,ho,hst0,hst1,hb⟩
   have HB5:=hid (HBW.out.trans (hb.mono HBW.out.size))
   have hbr5:br<wr.heap.size:=rbL HXI.out
   have hbr3:w3.heap.size≤br:=by have:=HBR.out;omega
   have HX5:=hid (rbB HXI.out hb hbr5)
   have HO5:=hid ho
   have HST:=hid (show 0≤st∧st≤SM from ⟨hst0,hst1⟩)
   have HZ5:=hid hb.size
   obtain ⟨y0,y1,y2,y3⟩:=rbC HX5.out
   have f0:=rbF HX5.out 0
   have f1:=rbF HX5.out 1
   have f2:=rbF HX5.out 2
   have f3:=rbF HX5.out 3
   clear hb ho hst0 hst1 n0 n1 n2 n3 r0 r1 r2 r3
   have HXA:=hid (runBox_all (v2:=.slice o5 n.l.length c5) (p2:=(pi:Int)+1) (k2:=(ki:Int)+(W.length:Int)) (s2:=si+st) HX5.out)
   have HOA:=hid (runBox_own HX5.out HO5.out hbr5 (.slice o5 n.l.length c5) ((pi:Int)+1) ((ki:Int)+(W.length:Int)) (si+st))
   have HBX:=hid (below_all HB5.out hbr3 (.slice o5 n.l.length c5) ((pi:Int)+1) ((ki:Int)+(W.length:Int)) (si+st))
   go_upto_region 12 with fail
   generalize ((((w5.setCell ⟨br,0,none⟩ (.slice o5 n.l.length c5)).setCell ⟨br,1,none⟩ (.int .i64 ((pi:Int)+1))).setCell ⟨br,2,none⟩ (.int .i64 ((ki:Int)+(W.length:Int)))).setCell ⟨br,3,none⟩ (.int .i64 (si+st)))=w6 at *
   clear y0 y1 y2 y3 f0 f1 f2 f3
   have HN6:=hid (nbB HN3.out HBX.out (by omega))
   have HR6:=hid (HR.out.kept (HB3.out.trans (HBX.out.mono HB3.out.size)))
   obtain ⟨n0,n1,n2,n3⟩:=nbC HN6.out
   obtain ⟨r0,r1,r2,r3⟩:=rbC HXA.out
   have DC:=hid (DP.out g o5 c5 w6 L2 HG.out HL2.out HR6.out (owI HOA.out))
   go_wp2_with fail
   refine DC.out.mono ?_
   rintro e w7 ⟨rfl,hb⟩
   have HB7:=hid (HBX.out.trans (hb.mono HBX.out.size))
   have HX7:=hid (rbB HXA.out hb (rbL HXA.out))
   have HO7:=hid (Rw.own_base (Rw.own_below HOA.out hb) (B':=w.heap.size+2) (by have:=HBW.out.size;omega))
   clear hb n0 n1 n2 n3 r0 r1 r2 r3
   go_wp2
   go_roundg pr
   case measure=>have:=HPP.out;omega
   case rel=>exact ⟨g,L2,pi+1,ki+W.length,k2,c5,o5,si+st,rfl,rfl,HPP.out.1,hid HPP.out.2.2,hid ⟨by have:=HSI.out;have:=HST.out;omega,by
    have h1:=HSI.out;have h2:=HST.out
    have e:((pi+1:Nat):Int)*SM=(pi:Int)*SM+SM:=by rw [Int.natCast_add,Int.add_mul];simp
    omega⟩,HG,HL2,HP2,HX7,HO7,HB7⟩
end
end Ne
namespace Ne
def rnE (n:Net) (f:List Int) (x a:Int):Int:=if reE n f x≠0 then reE n f x else if a=112∨a=116 then 0 else 1
def rnG (n:Net) (f:List Int) (x a:Int) (h:List Int):List Int:=if rnE n f x a≠0 then [] else h
def rnN (n:Net) (f:List Int) (x a:Int) (m:Nat):Int:=if rnE n f x a≠0 then 0 else (m:Int)
def StP (n:Net) (f:List Int) (x a:Int) (p:Nat) (st:Int):Prop:=(a≠116→st=0)∧0≤st∧(rnE n f x a=0→st≤(p:Int)*mostV n)
theorem stP_nought {n:Net} {f:List Int} {x a:Int} (p:Nat) (h:rnE n f x a≠0):StP n f x a p 0:=⟨fun _=>rfl,Int.le_refl _,fun e=>absurd e h⟩
theorem rn_bad {n:Net} {f h:List Int} {x a:Int} (e:rnE n f x a≠0) (m:Nat):rnG n f x a h=[]∧rnN n f x a m=0:=by
 unfold rnG rnN;rw [if_pos e,if_pos e];exact ⟨rfl,rfl⟩
theorem rn_ok {n:Net} {f h:List Int} {x a:Int} (e:rnE n f x a=0) (m:Nat):rnG n f x a h=h∧rnN n f x a m=(m:Int):=by
 unfold rnG rnN;rw [if_neg (by simpa using e),if_neg (by simpa using e)];exact ⟨rfl,rfl⟩
section
variable (n:Net) (ao:Option Addr) (cap:Nat) (fo:Option Addr) (fc:Nat) (f h:List Int) (x a:Int) (p k:Nat) (w:World) (hr:ARow w ao n.l) (hf:IRow w fo f) (hl:n.l.length≤1000000) (hok:∀ a∈n.l,in64 a.cap)
include hr hf hl hok
theorem from_bad (hE:reE n f x≠0):Calls Tryz.prog 20 #[encN n ao cap,.slice fo f.length fc,.int .i64 x,.int .u8 a] w fun e w'=>e=.returned (.tuple #[.agg #[.slice none 0 0,.int .i64 0,.int .i64 0,.int .i64 0],.int .i64 (reE n f x)])∧Below w.heap.size w w':=by
 have HB0:=hid (((Below.refl w.heap.size w).alloc (Nat.le_refl _) (.cells #[.int .i64 n.n,.int .i64 n.s,.int .i64 n.t,.slice ao n.l.length cap] 24)).alloc (by simp) (.cells #[.slice none 0 0,.int .i64 0,.int .i64 0,.int .i64 0] 41))
 have HN0:=hid (nbA (nbN w n.n n.s n.t (.slice ao n.l.length cap)) (.cells #[.slice none 0 0,.int .i64 0,.int .i64 0,.int .i64 0] 41))
 have HX0:=hid (runBox_at (w.alloc (.cells #[.int .i64 n.n,.int .i64 n.s,.int .i64 n.t,.slice ao n.l.length cap] 24)) (b:=w.heap.size+1) (by simp) (.slice none 0 0) 0 0 0)
 have HZ0:=hid (rbL HX0.out)
 have HD:=hid (ddeep_any n ao cap fo fc f x [] _ (hr.kept HB0.out) (hf.kept HB0.out) hl hok (fun e=>absurd e hE))
 have hE':(reE n f x != 0)=true:=by simpa using hE
 clear hE hr hf hl hok
 generalize reE n f x=re at *
 generalize dpV n f x []=dv at *
 obtain ⟨n0,n1,n2,n3⟩:=nbC HN0.out
 go_enter Tryz.func20,Tryz.ntmps20
 go_wp2_with fail
 refine HD.out.mono ?_
 rintro e w1 ⟨rfl,hb⟩
 have HB1:=hid (HB0.out.trans (hb.mono HB0.out.size))
 have HX1:=hid (rbB HX0.out hb HZ0.out)
 obtain ⟨y0,y1,y2,y3⟩:=rbC HX1.out
 have f0:=rbF HX1.out 0
 have f1:=rbF HX1.out 1
 have f2:=rbF HX1.out 2
 have f3:=rbF HX1.out 3
 clear hb n0 n1 n2 n3
 go_wp2
 refine bodyPost_ret_by (results_cell_one rfl _ _ (w.heap.size+1) 41 _ (0,0) _ rfl (runBox_all (v2:=.slice none 0 0) (p2:=0) (k2:=0) (s2:=0) HX1.out) Tryz.underlying41 rfl (by kernel_rfl)) rfl ?_
 exact ⟨rfl,below_all HB1.out (by omega) _ _ _ _⟩
theorem from_arg (hE:reE n f x=0) (h1:a≠112) (h2:a≠116):Calls Tryz.prog 20 #[encN n ao cap,.slice fo f.length fc,.int .i64 x,.int .u8 a] w fun e w'=>e=.returned (.tuple #[.agg #[.slice none 0 0,.int .i64 0,.int .i64 0,.int .i64 0],.int .i64 1])∧Below w.heap.size w w':=by
 have HB0:=hid (((Below.refl w.heap.size w).alloc (Nat.le_refl _) (.cells #[.int .i64 n.n,.int .i64 n.s,.int .i64 n.t,.slice ao n.l.length cap] 24)).alloc (by simp) (.cells #[.slice none 0 0,.int .i64 0,.int .i64 0,.int .i64 0] 41))
 have HN0:=hid (nbA (nbN w n.n n.s n.t (.slice ao n.l.length cap)) (.cells #[.slice none 0 0,.int .i64 0,.int .i64 0,.int .i64 0] 41))
 have HX0:=hid (runBox_at (w.alloc (.cells #[.int .i64 n.n,.int .i64 n.s,.int .i64 n.t,.slice ao n.l.length cap] 24)) (b:=w.heap.size+1) (by simp) (.slice none 0 0) 0 0 0)
 have HZ0:=hid (rbL HX0.out)
 have hR:=rgO (okf_of (reE_ok hE).1).1
 obtain ⟨L0,hl0⟩:=lev_exists hR f x
 have HD:=hid (ddeep_any n ao cap fo fc f x L0 _ (hr.kept HB0.out) (hf.kept HB0.out) hl hok (fun _=>hl0))
 have NM:=hid (fun w'=>named_bad a h1 h2 w')
 rw [hE] at HD
 clear hE hr hf hl hok hR hl0 h1 h2
 generalize dpV n f x L0=dv at *
 obtain ⟨n0,n1,n2,n3⟩:=nbC HN0.out
 go_enter Tryz.func20,Tryz.ntmps20
 go_wp2_with fail
 refine HD.out.mono ?_
 rintro e w1 ⟨rfl,hb⟩
 have HB1:=hid (HB0.out.trans (hb.mono HB0.out.size))
 have HX1:=hid (rbB HX0.out hb HZ0.out)
 obtain ⟨y0,y1,y2,y3⟩:=rbC HX1.out
 have f0:=rbF HX1.out 0
 have f1:=rbF HX1.out 1
 have f2:=rbF HX1.out 2
 have f3:=rbF HX1.out 3
 clear hb n0 n1 n2 n3
 go_wp2_with fail
 refine (NM.out _).mono ?_
 rintro e w2 ⟨rfl,rfl⟩
 go_wp2
 refine bodyPost_ret_by (results_cell_one rfl _ _ (w.heap.size+1) 41 _ (0,0) _ rfl (runBox_all (v2:=.slice none 0 0) (p2:=0) (k2:=0) (s2:=0) HX1.out) Tryz.underlying41 rfl (by kernel_rfl)) rfl ?_
 exact ⟨rfl,below_all HB1.out (by omega) _ _ _ _⟩
theorem from_any (hP:reE n f x=0→Phs n x f h p k):Calls Tryz.prog 20 #[encN n ao cap,.slice fo f.length fc,.int .i64 x,.int .u8 a] w fun e w'=>∃ o c st,e=.returned (.tuple #[.agg #[.slice o (rnG n f x a h).length c,.int .i64 (rnN n f x a p),.int .i64 (rnN n f x a k),.int .i64 st],.int .i64 (rnE n f x a)])∧OwnL w' w.heap.size (.slice o (rnG n f x a h).length c) (rnG n f x a h)∧StP n f x a p st∧Below w.heap.size w w':=by
 by_cases c0:reE n f x=0
 ·obtain ⟨hck,hx⟩:=reE_ok c0
  obtain ⟨ck,hF⟩:=okf_of hck
  by_cases c1:a=112∨a=116
  ·have e:rnE n f x a=0:=by unfold rnE;rw [if_neg (by simpa using c0),if_pos c1]
   obtain ⟨q,rfl⟩:∃ q,a=engC q:=by
    rcases c1 with c1 | c1
    ·exact ⟨false,c1⟩
    ·exact ⟨true,c1⟩
   rw [(rn_ok (h:=h) e p).1,(rn_ok (h:=h) e p).2,(rn_ok (h:=h) e k).2,e,(phs_okf (rgO ck) hx (hP c0) hF).1.len,hF.len]
   refine (from_flow ao cap fo fc w ck hr hf hF hx (hP c0) q).mono ?_
   rintro e w' ⟨o,c,st,h1,h2,h3,h4,h5⟩
   refine ⟨o,c,st,h1,h2,⟨fun hq=>?_,h3,fun _=>Int.le_trans h4 (Int.mul_le_mul_of_nonneg_left (st_most (rgO ck) q) (by omega))⟩,h5⟩
   cases q
   ·rw [show stM n false=0 from rfl,Int.mul_zero] at h4;omega
   ·exact absurd rfl hq
  ·have e:rnE n f x a=1:=by unfold rnE;rw [if_neg (by simpa using c0),if_neg c1]
   have e':rnE n f x a≠0:=by rw [e];decide
   rw [(rn_bad (h:=h) e' p).1,(rn_bad (h:=h) e' p).2,(rn_bad (h:=h) e' k).2,e]
   refine (from_arg n ao cap fo fc f x a w hr hf hl hok c0 (fun e=>c1 (.inl e)) (fun e=>c1 (.inr e))).mono ?_
   rintro e w' ⟨h1,h2⟩
   exact ⟨none,0,0,h1,Rw.owN _ _,stP_nought p e',h2⟩
 ·have e:rnE n f x a=reE n f x:=by unfold rnE;rw [if_pos c0]
  have e':rnE n f x a≠0:=by rw [e];exact c0
  rw [(rn_bad (h:=h) e' p).1,(rn_bad (h:=h) e' p).2,(rn_bad (h:=h) e' k).2,e]
  refine (from_bad n ao cap fo fc f x a w hr hf hl hok c0).mono ?_
  rintro e w' ⟨h1,h2⟩
  exact ⟨none,0,0,h1,Rw.owN _ _,stP_nought p e',h2⟩
end
end Ne
end Go.Proofs.YtoadkckceladgaaGreat
