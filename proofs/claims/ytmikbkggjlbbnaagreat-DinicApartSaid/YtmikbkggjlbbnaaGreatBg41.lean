/-
  Tsw, Lw8, Lwt, Mfm, Mcp
-/
import Derived.Test.YtmikbkggjlbbnaaGreatBg36
import Derived.Test.YtmikbkggjlbbnaaGreatBg33
import Derived.Test.YtmikbkggjlbbnaaGreatBg39
import Derived.Test.YtmikbkggjlbbnaaGreatBg40
import Derived.Test.YtmikbkggjlbbnaaGreatBg17
import Derived.Deep.LoopGhost
import Derived.Deep.DeepCutAuto
import Derived.WalkMore
import Derived.RegionTactic
import Derived.BigRegion
import Derived.Test.YtmikbkggjlbbnaaGreatBg6
namespace Go.Proofs.YtmikbkggjlbbnaaGreat
open Go.ChangeShapes Go.WideShapes Go.ChangeAt Go.RowKit
open Lib (hid)
set_option linter.unusedVariables false
set_option linter.unusedSimpArgs false
namespace Ne
open Sp (Off Ext)
open Fo (Ft FoO fc)
theorem results_tmp4 {fn:Func} {t u v y:Tmp} (h:fn.results = #[.tmp t,.tmp u,.tmp v,.tmp y]) (tmps:Array Value) (P:Program) (w:World) :
  (results fn tmps).run P w=.ok (.tuple #[tmps.getD t undef,tmps.getD u undef,tmps.getD v undef,tmps.getD y undef]) w:=by
 simp [results,h]
def mostV (n:Net):Int:=20000*(n.n+(n.l.length:Int))*(2+Num.logF n.n)*(2+Num.logF n.n)
theorem log_up (N:Nat) (h2:2≤N) (hN:N≤500):∃ k q:Nat,Num.logF (N:Int)=(k:Int)∧1≤k∧k≤9∧Num.logF ((N+1:Nat):Int)=(q:Int)∧q≤k+1∧(N+1).log2≤q:=by
 obtain ⟨k,h1,h3,_,h4,h5⟩:=Num.logF_spec (N:Int) (by omega) (by omega)
 obtain ⟨q,g1,g3,_,g4,g5⟩:=Num.logF_spec ((N+1:Nat):Int) (by omega) (by omega)
 rw [← Num.pc] at h4 h5 g4 g5
 have e4:N≤2 ^ k:=by omega
 have e5:2 ^ (k-1)<N:=by omega
 have e6:2 ^ (q-1)<N+1:=by omega
 refine ⟨k,q,h1,h3,?_,g1,?_,?_⟩
 ·rcases Nat.lt_or_ge 9 k with c | c
  ·have:=Nat.pow_le_pow_right (n:=2) (by omega) (show 9≤k-1 by omega)
   omega
  ·exact c
 ·rcases Nat.lt_or_ge (k+1) q with c | c
  ·have:=Nat.pow_le_pow_right (n:=2) (by omega) (show k+1≤q-1 by omega)
   have:2 ^ (k+1)=2*2 ^ k:=by rw [Nat.pow_succ];omega
   omega
  ·exact c
 ·have:=Sp.log_le (l:=N+1) (n:=N+1) (Nat.le_refl _) (by omega)
  rw [g1] at this
  simpa using this
theorem fc_bound (N:Nat) (h2:2≤N) (hN:N≤500):∃ k:Nat,Num.logF (N:Int)=(k:Int)∧k≤9∧fc (N+1)+1≤1000*((2+k)*(2+k)):=by
 obtain ⟨k,q,h1,h3,h4,h5,h6,h7⟩:=log_up N h2 hN
 refine ⟨k,h1,h4,?_⟩
 have hlg:Sp.lg (N+1)=q:=by unfold Sp.lg;rw [h5];simp
 have e3:fc (N+1)≤(6*(18*q+4)+(60*q+12))*(3*q+3)+12*(18*q+4):=by
  unfold fc Fo.tc Sp.ac Sp.jc
  rw [hlg]
  exact Nat.add_le_add_right (Nat.mul_le_mul_left _ (by omega)) _
 have e4:(6*(18*q+4)+(60*q+12))*(3*q+3)≤(6*(18*(k+1)+4)+(60*(k+1)+12))*(3*(k+1)+3):=Nat.mul_le_mul (by omega) (by omega)
 have e5:∀ k,k≤9→(6*(18*(k+1)+4)+(60*(k+1)+12))*(3*(k+1)+3)+12*(18*(k+1)+4)+1≤1000*((2+k)*(2+k)):=by
  intro k hk
  have:k<10:=by omega
  revert k
  decide
 have:=e5 k h4
 omega
theorem all_le {C N K M k:Nat} (hC:C≤1000*((2+k)*(2+k))) (h1:1≤C) (h2:2≤N) (hK:K≤M):K+(N+1)+C*(15*K+(N+1))+4*(C*(N+1))+K≤20000*(N+M)*((2+k)*(2+k)):=by
 have e1:K+(N+1)+K≤C*(2*K+(N+1)):=by
  have:=Nat.mul_le_mul_right (2*K+(N+1)) h1
  omega
 have e2:C*(2*K+(N+1))+C*(15*K+(N+1))+C*(4*(N+1))≤C*(17*(N+M)):=by
  rw [← Nat.mul_add,← Nat.mul_add]
  exact Nat.mul_le_mul_left C (by omega)
 have e3:C*(17*(N+M))≤(1000*((2+k)*(2+k)))*(17*(N+M)):=Nat.mul_le_mul_right _ hC
 have e4:(1000*((2+k)*(2+k)))*(17*(N+M))=17000*((N+M)*((2+k)*(2+k))):=by
  rw [Nat.mul_comm (1000*_) (17*_),Nat.mul_assoc 17,Nat.mul_left_comm (N+M) 1000,← Nat.mul_assoc 17 1000]
 have e5:20000*(N+M)*((2+k)*(2+k))=20000*((N+M)*((2+k)*(2+k))):=Nat.mul_assoc _ _ _
 have e6:4*(C*(N+1))=C*(4*(N+1)):=Nat.mul_left_comm _ _ _
 omega
theorem leads_few {n:Net} {L:List Int} {TL:List Nat} (hL:Lds n.l L TL):TL.length≤n.l.length:=by
 have h1:=nodup_len (L:=n.l.length) (half_nodup hL) fun i hi=>by
  obtain ⟨r,hr,e2⟩:=List.mem_map.1 hi
  have:=hL.lt r hr
  omega
 rwa [List.length_map] at h1
section
variable {n:Net} {ao:Option Addr} {cap:Nat} {x:Int} {w0 w1:World} {sb lb ab pb cb p:Nat} {rv:Value} {lo hi B b1:Nat} {VA:Nat→Value} {TL:List Nat}
theorem block_start {w:World} {VS:Nat→Value} {c m H:Nat} {f0 L:List Int} (hR:Right n) (hL:Lds n.l L TL) (hF:Okf n f0) (hm:m=n.n.toNat+1) (hm2:m≤3000)
  (M:TsM n ao cap x w0 w1 sb lb ab pb cb p rv lo hi B b1 VA TL w (roomL n.l f0 (2*n.l.length)) VS (fun v=>TL.filter fun r=>decide ((trF n.l r).toNat=v)) (List.replicate (n.n.toNat+1) false) c (Fo.newS (List.replicate (n.n.toNat+1) 4611686018427387904)) 0 0)
  (hH:c+(fc m+1)*(15*TL.length+m)≤H):BlockI n ao cap x w0 w1 sb lb ab pb cb p rv lo hi B b1 VA TL f0 w c m H 0 (H-c) false:=by
 have hg:Fo.Good (Fo.newS (List.replicate (n.n.toNat+1) 4611686018427387904)):=Fo.good_new (top_newE (by omega))
 have hp:=psi_start (n:=n) (TL:=TL) x f0 (List.replicate (n.n.toNat+1) 4611686018427387904)
 have hp2:=Nat.mul_le_mul_left (fc m+1) hp
 rw [← hm] at hp2
 refine ⟨f0,[],_,VS,_,_,c,_,0,0,M,tre_start hR hL hF.wi hg,hF,.nil f0,fun y u hy=>(by cases hy),?_,rfl,by omega,rfl,replB _ _,?_⟩
 ·show (List.replicate (n.n.toNat+1) 4611686018427387904).length=m
  rw [List.length_replicate,hm]
 ·have e:psi n TL f0 x (fun v=>TL.filter fun r=>decide ((trF n.l r).toNat=v)) (Fo.newS (List.replicate (n.n.toNat+1) 4611686018427387904)) (List.replicate (n.n.toNat+1) false) (aheadN n TL)≤15*TL.length+m:=by
   rw [hm];exact hp
  have:=Nat.mul_le_mul_left (fc m+1) e
  omega
theorem block_done {w:World} {c0 m H k:Nat} {f0 g0 L:List Int} {W0:List (List Nat × Int)} (hL:Lds n.l L TL) (hB:IsBlk n.l TL f0 x n.s n.t W0 g0) (h:BlockR n ao cap x w0 w1 sb lb ab pb cb p rv lo hi B b1 VA TL f0 w c0 m H k) :
  k=W0.length∧AmI n ao cap x w0 w1 sb lb ab pb cb p rv lo hi B b1 VA TL g0 w 0 (c0+k) m (H+4*((fc m+1)*m))∧(∃ RL VS U S c f flo fhi,TsM n ao cap x w0 w1 sb lb ab pb cb p rv lo hi B b1 VA TL w RL VS U S c f flo fhi)∧Okf n g0:=by
 obtain ⟨gl,Ws,RL,VS,U,S,c,f,flo,fhi,M,T,hF,hI,hm,hk,hc0,hc⟩:=h
 obtain ⟨rfl,rfl⟩:=blk_one hI hB
 exact ⟨hk.symm,⟨RL,VS,U,S,c,f,flo,fhi,M,T,hm,hc0,fun v hv=>by omega,by rw [Nat.sub_zero];omega⟩,⟨RL,VS,U,S,c,f,flo,fhi,M⟩,hF⟩
end
set_option maxRecDepth 100000 in
set_option maxHeartbeats 8000000 in
theorem tblock_own (n:Net) (ao:Option Addr) (cap:Nat) (fo:Option Addr) (fc':Nat) (f:List Int) (x:Int) (L0:List Int) (W0:List (List Nat × Int)) (g0:List Int) (w:World) (hr:ARow w ao n.l) (hf:IRow w fo f) (hl:n.l.length≤1000000) (hok:∀ a∈n.l,in64 a.cap) (hL:reE n f x=0→IsLev n f x L0)
  (hB:reE n f x=0→IsBlk n.l (leadL n.l f x L0 (2*n.l.length)) f x n.s n.t W0 g0) :
  Calls Tryz.prog 102 #[encN n ao cap,.slice fo f.length fc',.int .i64 x] w fun e w'=>∃ o c st,e=.returned (.tuple #[.slice o (blG n f x g0).length c,.int .i64 ((blW n f x W0).length:Int),.int .i64 st,.int .i64 (reE n f x)])∧OwnL w' w.heap.size (.slice o (blG n f x g0).length c) (blG n f x g0)∧(reE n f x≠0→st=0) ∧
   (reE n f x=0→(W0.length:Int)≤st∧n.n<st∧((leadL n.l f x L0 (2*n.l.length)).length:Int)≤st∧st≤mostV n)∧Below w.heap.size w w':=by
 have HB0:=hid ((Below.refl w.heap.size w).alloc (Nat.le_refl _) (.cells #[.int .i64 n.n,.int .i64 n.s,.int .i64 n.t,.slice ao n.l.length cap] 24))
 have HN0:=hid (netBox_new w n.n n.s n.t (.slice ao n.l.length cap))
 obtain ⟨n0,n1,n2,n3⟩:=netBox_cells HN0.out
 have RM:=hid (fun w' h1 h2=>droom_any n ao cap fo fc' f w' h1 h2 hl hok)
 have LD:=hid (fun w' h1 h2=>dleads_own n ao cap fo fc' f x L0 w' h1 h2 hl hok hL)
 have HR:=hid hr
 have HF:=hid hf
 by_cases c0:reE n f x=0
 case neg =>
  have e1:blG n f x g0=[]:=by unfold blG;rw [if_pos c0]
  have e2:blW n f x W0=[]:=by unfold blW;rw [if_pos c0]
  rw [e1,e2]
  by_cases ck:chkF n f=0
  ·have HC0:=hid c0
   have c0':(reE n f x != 0)=true:=by simpa using c0
   have ck':(chkF n f != 0)=false:=by simpa using ck
   generalize roomV n f=RV at *
   generalize chkF n f=CK at *
   clear c0 hL hB hr hf hl hok e1 e2 ck
   generalize ldV n f x L0=LV at *
   generalize reE n f x=re at *
   go_enter Tryz.func102,Tryz.ntmps102
   go_wp2_with fail
   refine (RM.out _ (HR.out.kept HB0.out) (HF.out.kept HB0.out)).mono ?_
   rintro e w2 ⟨rv,rfl,_,hb⟩
   have HB2:=hid (HB0.out.trans (hb.mono HB0.out.size))
   have HN2:=hid (netBox_below HN0.out hb (netBox_lt HN0.out))
   clear hb n0 n1 n2 n3
   obtain ⟨n0,n1,n2,n3⟩:=netBox_cells HN2.out
   go_wp2_with fail
   refine (LD.out _ (HR.out.kept HB2.out) (HF.out.kept HB2.out)).mono ?_
   rintro e w3 ⟨o,c,rfl,_,hb⟩
   have HB3:=hid (HB2.out.trans (hb.mono HB2.out.size))
   clear hb n0 n1 n2 n3
   go_wp2
   (try simp only [Exit.inBlock,Exit.then])
   refine bodyPost_ret (results_tmp4 rfl _ _ _) rfl ?_
   exact ⟨none,0,0,rfl,Rw.own_nil _ _,fun _=>rfl,fun h=>absurd h HC0.out,HB3.out⟩
  ·have hre:reE n f x=chkF n f:=by unfold reE;rw [if_pos ck]
   rw [hre]
   have HC0:=hid ck
   have ck':(chkF n f != 0)=true:=by simpa using ck
   generalize roomV n f=RV at *
   clear c0 hL hB hr hf hl hok e1 e2 LD hre ck
   generalize chkF n f=CK at *
   go_enter Tryz.func102,Tryz.ntmps102
   go_wp2_with fail
   refine (RM.out _ (HR.out.kept HB0.out) (HF.out.kept HB0.out)).mono ?_
   rintro e w2 ⟨rv,rfl,_,hb⟩
   have HB2:=hid (HB0.out.trans (hb.mono HB0.out.size))
   clear hb n0 n1 n2 n3
   go_wp2
   (try simp only [Exit.inBlock,Exit.then])
   refine bodyPost_ret (results_tmp4 rfl _ _ _) rfl ?_
   exact ⟨none,0,0,rfl,Rw.own_nil _ _,fun _=>rfl,fun h=>absurd h HC0.out,HB2.out⟩
 obtain ⟨hck,hx⟩:=reE_ok c0
 obtain ⟨ck,hF⟩:=okf_of hck
 have hR:=right_of ck
 have e1:blG n f x g0=g0:=by unfold blG;rw [if_neg (by simpa using c0)]
 have e2:blW n f x W0=W0:=by unfold blW;rw [if_neg (by simpa using c0)]
 have e3:=(lvV_ok (L:=L0) c0).2.1
 have e4:roomV n f=roomL n.l f (2*n.l.length):=by unfold roomV;rw [if_neg (by simpa using hck)]
 have hLd:=lds_of n.l f x L0
 have hblk:=hB c0
 rw [e1,e2,c0]
 rw [e3,c0] at LD
 rw [e4,hck] at RM
 generalize leadL n.l f x L0 (2*n.l.length)=TL at *
 have hTM:=leads_few hLd
 have hML:=hR.len
 have hN0:=hR.n0
 have hN1:=hR.n1
 have hfl:=hF.len
 obtain ⟨N,hN⟩:∃ N,N=n.n.toNat:=⟨_,rfl⟩
 obtain ⟨lk,hlk,hk9,hfc⟩:=fc_bound N (by omega) (by omega)
 obtain ⟨m,hm⟩:∃ m,m=n.n.toNat+1:=⟨_,rfl⟩
 have hmN:m=N+1:=by omega
 rw [← hmN] at hfc
 have hall:=all_le (N:=N) (K:=TL.length) (M:=n.l.length) (k:=lk) hfc (by omega) (by omega) hTM
 rw [← hmN] at hall
 have hmo:mostV n=((20000*(N+n.l.length)*((2+lk)*(2+lk)):Nat):Int):=by
  unfold mostV
  rw [show n.n=(N:Int) by omega,hlk]
  push_cast
  rw [Int.mul_assoc]
 have hk11:(2+lk)*(2+lk)≤121:=Nat.mul_le_mul (show 2+lk≤11 by omega) (show 2+lk≤11 by omega)
 have hmoB:20000*(N+n.l.length)*((2+lk)*(2+lk))≤20000*2500*121:=Nat.mul_le_mul (Nat.mul_le_mul_left _ (by omega)) hk11
 have hCB:fc m+1≤1000*121:=Nat.le_trans hfc (Nat.mul_le_mul_left _ hk11)
 rw [hmo]
 obtain ⟨MO,hMO⟩:∃ MO,MO=20000*(N+n.l.length)*((2+lk)*(2+lk)):=⟨_,rfl⟩
 rw [← hMO] at hall hmoB ⊢
 clear hMO hmo hfc
 have NS:=hid (fun (w4:World) (rv:Value) (lo':Option Addr) (lc cb:Nat) h1 h2 h3 h4 h5 h6 h7=>tnew_any (cap:=cap) (x:=x) (w:=w4) (rv:=rv) (lo':=lo') (lc:=lc) (cb:=cb) (RL0:=roomL n.l f (2*n.l.length)) hR hLd (by omega) hr h1 h2 h3 0 h4 h5 h6 h7 (by omega))
 have BL:=hid (show ∀ (w5:World) sb lb ab pb cb p rv lo hi B b1 VA VS,TsM n ao cap x w w5 sb lb ab pb cb p rv lo hi B b1 VA TL w5 (roomL n.l f (2*n.l.length)) VS (fun v=>TL.filter fun r=>decide ((trF n.l r).toNat=v)) (List.replicate (n.n.toNat+1) false) (0+(n.n.toNat+1)+TL.length) (Fo.newS (List.replicate (n.n.toNat+1) 4611686018427387904)) 0 0→Calls Tryz.prog 105 #[.pointer (some ⟨sb,0,none⟩)] w5 fun e w6=>e=.returned (.int .i64 (W0.length:Int)) ∧
   AmI n ao cap x w w5 sb lb ab pb cb p rv lo hi B b1 VA TL g0 w6 0 (m+TL.length+W0.length) m (TL.length+m+(fc m+1)*(15*TL.length+m)+4*((fc m+1)*m))∧(∃ RL VS U S c f flo fhi,TsM n ao cap x w w5 sb lb ab pb cb p rv lo hi B b1 VA TL w6 RL VS U S c f flo fhi)∧Okf n g0 from fun w5 sb lb ab pb cb p rv lo hi B b1 VA VS M=>by
  rw [show 0+(n.n.toNat+1)+TL.length=m+TL.length by omega] at M
  refine (block_any (H:=TL.length+m+(fc m+1)*(15*TL.length+m)) hR hLd hx (by omega) (by omega) (block_start hR hLd hF hm (by omega) M (by omega))).mono ?_
  rintro e w6 ⟨k,rfl,h⟩
  obtain ⟨rfl,h1,h2,h3⟩:=block_done hLd hblk h
  exact ⟨rfl,h1,h2,h3⟩)
 have AM:=hid (fun (w5 w6:World) sb lb ab pb cb p rv lo hi B b1 VA lo' lc hF2 h1 h2 (h:AmI n ao cap x w w5 sb lb ab pb cb p rv lo hi B b1 VA TL g0 w6 0 (m+TL.length+W0.length) m (TL.length+m+(fc m+1)*(15*TL.length+m)+4*((fc m+1)*m)))=>amounts_any (fo:=fo) (fcap:=fc') (lo':=lo') (lc:=lc) hR hLd hF2 hm hfl (blkW_facts hLd hx hfl hblk.1).1 hf h1 h2 h (by omega))
 have hg0:g0.length=n.l.length:=((blkW_facts hLd hx hfl hblk.1).1).len
 have HG0:=hid hg0
 have HALL:=hid (show TL.length+m+(fc m+1)*(15*TL.length+m)+4*((fc m+1)*m)+TL.length≤MO∧MO≤6050000000∧n.n<(m:Int) from ⟨hall,by omega,by omega⟩)
 clear hL hB hr hf hl hok e1 e2 e3 e4 hblk hF hck c0 hLd hR hx hTM hML hN0 hN1 hall hmoB hCB hk11 hN hlk hk9 hm hmN ck
 rw [hfl] at RM LD ⊢
 rw [hg0]
 clear hfl hg0
 generalize hTT:fc m+1=C at *
 clear hTT
 generalize TL.length=K at *
 have hmf:∀ (fn:Fn) (first cap:Array Value) (w:World),(Instr.makeFunc fn first cap).run Tryz.prog w=.ok (.func fn first cap) w:=fun _ _ _ _=>rfl
 go_enter Tryz.func102,Tryz.ntmps102
 go_wp2_with fail
 refine (RM.out _ (HR.out.kept HB0.out) (HF.out.kept HB0.out)).mono ?_
 rintro e w2 ⟨rv,rfl,hown,hb⟩
 have HB2:=hid (HB0.out.trans (hb.mono HB0.out.size))
 have HN2:=hid (netBox_below HN0.out hb (netBox_lt HN0.out))
 have HO2:=hid (Rw.own_base hown (B':=w.heap.size) HB0.out.size)
 have HRE:=hid (fun g hg=>Rw.own_lt HO2.out g hg)
 clear hown hb n0 n1 n2 n3
 obtain ⟨n0,n1,n2,n3⟩:=netBox_cells HN2.out
 go_wp2_with fail
 refine (LD.out _ (HR.out.kept HB2.out) (HF.out.kept HB2.out)).mono ?_
 rintro e w3 ⟨lo',lc,rfl,hli,hb⟩
 have HB3:=hid (HB2.out.trans (hb.mono HB2.out.size))
 have HN3:=hid (netBox_below HN2.out hb (netBox_lt HN2.out))
 have HO3:=hid (Rw.own_below HO2.out hb)
 have HLE:=hid (fun g hg=>Rw.own_lt hli g hg)
 have HL3:=hid (Rw.own_base hli (B':=w.heap.size) HB2.out.size)
 have HA4:=hid ((Below.refl w3.heap.size w3).alloc (Nat.le_refl _) (.cells #[.int .i64 0] 150))
 have HB4:=hid (HB3.out.trans (HA4.out.mono HB3.out.size))
 have HN4:=hid (netBox_below HN3.out HA4.out (netBox_lt HN3.out))
 have HNS:=hid (NS.out _ rv lo' lc w3.heap.size HB4.out (Rw.own_below HO3.out HA4.out) (Rw.own_below HL3.out HA4.out) (by show (w3.heap.push _)[w3.heap.size]? = _;simp) HB3.out.size (fun g hg=>by have:=HRE.out g hg;have:=hb.size;omega) (fun g hg=>by
  have h1:=HLE.out g hg
  exact ⟨h1.2,fun h2=>by have:=(HRE.out g h2).2;omega⟩))
 clear hb hli n0 n1 n2 n3
 obtain ⟨n0,n1,n2,n3⟩:=netBox_cells HN4.out
 go_wp2_with fail
 refine HNS.out.mono ?_
 rintro e w5 ⟨sb,lb,ab,pb,p,lo,hi,B,b1,VA,VS,rfl,hM,hl5,hm5⟩
 have HBL:=hid (BL.out _ _ _ _ _ _ _ _ _ _ _ _ _ _ hM)
 have HL5:=hid hl5
 have HM5:=hid hm5
 clear hM hl5 hm5 n0 n1 n2 n3 HNS
 go_wp2_with fail
 refine HBL.out.mono ?_
 rintro e w6 ⟨rfl,hA,_,hF2⟩
 have HAM:=hid (AM.out _ _ _ _ _ _ _ _ _ _ _ _ _ _ _ _ hF2 HL5.out HM5.out hA)
 clear hA hF2
 go_wp2_with fail
 refine HAM.out.mono ?_
 rintro e w7 ⟨o7,lc7,c2,f2,flo2,fhi2,F7,rfl,hrow,hcb,hsb9,hfo,hc0,hcH,hlow⟩
 have HROW:=hid hrow
 have HLOW:=hid hlow
 have HS:=hid (show c2+fhi2≤MO∧MO≤6050000000∧m+K+W0.length≤c2∧n.n<(m:Int) from ⟨by have:=HALL.out;omega,HALL.out.2.1,hc0,HALL.out.2.2⟩)
 have HST:=hid (Fo.fsteps_any (hfo.off (G:=fun _=>False) (.of_below (below_drew (Below.refl w7.heap.size w7))) fun _ _ c=>c) (by have:=HS.out;omega))
 clear hrow hlow hfo hc0 hcH HAM HBL
 go_wp2_with fail
 go_region_with (go_at_call 107;refine HST.out.mono ?_;rintro e w8 ⟨sc,rfl,hs1,hs2,rfl⟩;have HSC:=hid hs2;have hw1:IntKind.i64.wrap ((c2:Int)+(sc:Int))=(c2:Int)+(sc:Int):=(by have:=HS.out;rw [IntKind.wrap_i64];omega);clear hs1 hs2)
 all_goals
  go_wp2
  (try simp only [Exit.inBlock,Exit.then])
  refine bodyPost_ret (results_tmp4 rfl _ _ _) rfl ?_
  refine ⟨o7,lc7,(c2:Int)+(sc:Int),?_,Rw.own_below HROW.out (below_drew (Below.refl _ _)),fun h=>absurd rfl h,fun _=>?_,below_drew HLOW.out⟩
  ·rfl
  ·have h1:=HS.out
   have h2:=HSC.out
   omega
set_option maxRecDepth 100000 in
set_option maxHeartbeats 1000000 in
theorem tmost_any (n:Net) (ao:Option Addr) (cap:Nat) (w:World) (hR:Right n) :
  Calls Tryz.prog 20 #[encN n ao cap] w fun e w'=>e=.returned (.int .i64 (mostV n))∧Below w.heap.size w w':=by
 have hN0:=hR.n0
 have hN1:=hR.n1
 have hML:=hR.len
 obtain ⟨N,hN⟩:∃ N,N=n.n.toNat:=⟨_,rfl⟩
 obtain ⟨lk,hlk,hk9,_⟩:=fc_bound N (by omega) (by omega)
 have hnN:n.n=(N:Int):=by omega
 have LG:=hid (fun w'=>Num.log_any n.n w' (by omega) (by omega))
 have hlk2:Num.logF n.n=(lk:Int):=by rw [hnN];exact hlk
 rw [hlk2] at LG
 have hmv:mostV n=20000*(n.n+(n.l.length:Int))*(2+(lk:Int))*(2+(lk:Int)):=by unfold mostV;rw [hlk2]
 rw [hmv]
 have b1:0≤n.n+(n.l.length:Int)∧n.n+(n.l.length:Int)≤2500:=by omega
 have b2:(0:Int)≤20000*(n.n+(n.l.length:Int))∧20000*(n.n+(n.l.length:Int))≤50000000:=by omega
 have b3:(0:Int)≤2+(lk:Int)∧2+(lk:Int)≤11:=by omega
 have b4:(0:Int)≤20000*(n.n+(n.l.length:Int))*(2+(lk:Int))∧20000*(n.n+(n.l.length:Int))*(2+(lk:Int))≤550000000:=by
  refine ⟨Int.mul_nonneg b2.1 b3.1,?_⟩
  have:=Int.mul_le_mul b2.2 b3.2 b3.1 (by omega)
  omega
 have b5:(0:Int)≤20000*(n.n+(n.l.length:Int))*(2+(lk:Int))*(2+(lk:Int))∧20000*(n.n+(n.l.length:Int))*(2+(lk:Int))*(2+(lk:Int))≤6050000000:=by
  refine ⟨Int.mul_nonneg b4.1 b3.1,?_⟩
  have:=Int.mul_le_mul b4.2 b3.2 b3.1 (by omega)
  omega
 have hw1:IntKind.i64.wrap (n.n+(n.l.length:Int))=n.n+(n.l.length:Int):=by rw [IntKind.wrap_i64];omega
 have hw2:IntKind.i64.wrap (20000*(n.n+(n.l.length:Int)))=20000*(n.n+(n.l.length:Int)):=by rw [IntKind.wrap_i64];omega
 have hw3:IntKind.i64.wrap (20000*(n.n+(n.l.length:Int))*(2+(lk:Int)))=20000*(n.n+(n.l.length:Int))*(2+(lk:Int)):=by rw [IntKind.wrap_i64];omega
 have hw4:IntKind.i64.wrap (20000*(n.n+(n.l.length:Int))*(2+(lk:Int))*(2+(lk:Int)))=20000*(n.n+(n.l.length:Int))*(2+(lk:Int))*(2+(lk:Int)):=by rw [IntKind.wrap_i64];omega
 have hw5:IntKind.i64.wrap (2+(lk:Int))=2+(lk:Int):=by rw [IntKind.wrap_i64];omega
 have hw6:IntKind.i64.wrap (lk:Int)=(lk:Int):=by rw [IntKind.wrap_i64];omega
 have hw7:IntKind.i64.wrap n.n=n.n:=by rw [IntKind.wrap_i64];omega
 have HB0:=hid ((Below.refl w.heap.size w).alloc (Nat.le_refl _) (.cells #[.int .i64 n.n,.int .i64 n.s,.int .i64 n.t,.slice ao n.l.length cap] 24))
 have HN0:=hid (netBox_new w n.n n.s n.t (.slice ao n.l.length cap))
 obtain ⟨n0,n1,n2,n3⟩:=netBox_cells HN0.out
 clear hR hN0 hN1 hML hN hlk hk9 hnN hlk2 hmv b1 b2 b3 b4 b5
 go_enter Tryz.func20,Tryz.ntmps20
 go_wp2_with fail
 refine (LG.out _).mono ?_
 rintro e w1 ⟨rfl,rfl⟩
 go_wp2
 go_ret
 exact ⟨rfl,HB0.out⟩
end Ne
namespace Ne
section
variable {n:Net} {TL:List Nat} {L:List Int} {x:Int} {f g:List Int} {W:List (List Nat × Int)}
theorem least_pos (hx:1≤x) {R:List Nat} {a:Int} {s t:Int} (h1:FirstW n.l TL f x t s R) (h2:Least n.l f R a):x≤a:=by
 obtain ⟨r,hr,e⟩:=h2.one
 have:=(wlk_mem (firstW_wlk h1) r hr).2
 omega
theorem blkW_flow (hR:Right n) (hL:Lds n.l L TL) (hx:1≤x) (hF:Flow n f) (b:BlkW n.l TL x n.s n.t f W g):Flow n g∧exc n.l g n.t=exc n.l f n.t+(W.map (·.2)).sum:=by
 obtain ⟨s,hs⟩:∃ s,s=n.s:=⟨_,rfl⟩
 obtain ⟨t,ht⟩:∃ t,t=n.t:=⟨_,rfl⟩
 rw [← hs,← ht] at b
 induction b with
 | nil f=>exact ⟨hF,by simp⟩
 | @cons f g h R a W h1 h2 h3 _ ih =>
  have ha:=least_pos hx h1 h2
  obtain ⟨k1,k2⟩:=push_flow hR hF (by omega) (first_walk hL (by rw [hs,ht] at h1;exact h1)) h3
  obtain ⟨m1,m2⟩:=ih k1
  refine ⟨m1,?_⟩
  rw [m2,k2,List.map_cons,List.sum_cons]
  omega
theorem blk_of (hR:Right n) (hF:Okf n f) (hx:1≤x) (L:List Int):∃ W g,IsBlk n.l (leadL n.l f x L (2*n.l.length)) f x n.s n.t W g :=
 blk_exists (lds_of n.l f x L) hR.ne hx _ f hF.len (Nat.le_refl _)
theorem blk_some (hR:Right n) (hL:IsLev n f x L) (hB:IsBlk n.l (leadL n.l f x L (2*n.l.length)) f x n.s n.t W g):W≠[]↔0≤amt L n.t.toNat:=by
 rw [sink_walk hR hL]
 rcases blkW_inv hB.1 with ⟨rfl,rfl⟩ | ⟨R,a,V,g1,rfl,h1,_⟩
 ·exact ⟨fun h=>absurd rfl h,fun ⟨R,hW⟩=>absurd hW (hB.2 R)⟩
 ·exact ⟨fun _=>⟨R,firstW_wlk h1⟩,fun _ h=>by cases h⟩
theorem blk_far (hR:Right n) (hF:Okf n f) (hx:1≤x) (hL:IsLev n f x L) (hB:IsBlk n.l (leadL n.l f x L (2*n.l.length)) f x n.s n.t W g) {L2:List Int} (h2:IsLev n g x L2) (h0:0≤amt L2 n.t.toNat):0≤amt L n.t.toNat∧amt L n.t.toNat<amt L2 n.t.toNat :=
 sink_farther hR hL (blkW_facts (lds_of n.l f x L) hx hF.len hB.1).1 hB.2 h2 h0
theorem blk_len (hF:Okf n f) (hx:1≤x) (hB:IsBlk n.l (leadL n.l f x L (2*n.l.length)) f x n.s n.t W g):g.length=n.l.length∧W.length≤(leadL n.l f x L (2*n.l.length)).length:=by
 have h:=blkW_facts (lds_of n.l f x L) hx hF.len hB.1
 have h2:=left_le n.l (leadL n.l f x L (2*n.l.length)) x f
 exact ⟨h.1.len,by omega⟩
end
section
variable {n:Net} (ao:Option Addr) (cap:Nat) (fo:Option Addr) (fc:Nat) {f:List Int} (w:World) (ck:checkN n=0) (hr:ARow w ao n.l) (hf:IRow w fo f) (hF:Okf n f) (x:Int) (hx:1≤x) {L:List Int} (hL:IsLev n f x L)
include ck hr hf hF hx hL
end
end Ne
namespace Ne
end Ne
end Go.Proofs.YtmikbkggjlbbnaaGreat
namespace Go.Proofs.YtmikbkggjlbbnaaGreat
set_option linter.unusedVariables false
set_option linter.unusedSimpArgs false
namespace Ne
theorem excC_plusM (c d:Arc→Int) (l:List Arc) (f:List Int):excC (fun a=>c a+d a) l f=excC c l f+excC d l f:=by
 unfold excC
 rw [← sumTo_add]
 exact sumTo_congr fun i _=>Int.add_mul _ _ _
theorem excC_zero (l:List Arc) (f:List Int):excC (fun _=>0) l f=0:=sumTo_zero fun i _=>Int.zero_mul _
def cutA (P:Int→Bool) (a:Arc):Int:=(if P a.to=true then 1 else 0)-(if P a.fr=true then 1 else 0)
def cutK (P:Int→Bool) (k:Nat) (a:Arc):Int:=(if P a.to=true∧0≤a.to∧a.to<(k:Int) then 1 else 0)-(if P a.fr=true∧0≤a.fr∧a.fr<(k:Int) then 1 else 0)
def nodP (l:List Arc) (f:List Int) (P:Int→Bool) (k:Nat):Int:=sumTo (fun v=>if P (v:Int)=true then exc l f (v:Int) else 0) k
theorem nodP_eq (l:List Arc) (f:List Int) (P:Int→Bool):∀ k,nodP l f P k=excC (cutK P k) l f
 | 0=>by
  have e:cutK P 0=fun _=>0:=by
   funext a
   unfold cutK
   rw [if_neg (by omega),if_neg (by omega)];rfl
  rw [e,excC_zero];rfl
 | k+1=>by
  have h:nodP l f P (k+1)=nodP l f P k+if P (k:Int)=true then exc l f (k:Int) else 0:=rfl
  rw [h,nodP_eq l f P k]
  by_cases c:P (k:Int)=true
  ·rw [if_pos c,exc_eq,← excC_plusM]
   congr 1
   funext a
   unfold cutK dl
   have h1:∀ y:Int,((if P y=true∧0≤y∧y<(k:Int) then (1:Int) else 0)+if y=(k:Int) then 1 else 0)=if P y=true∧0≤y∧y<((k+1:Nat):Int) then 1 else 0:=fun y=>by
    by_cases e:y=(k:Int)
    ·subst e
     rw [if_neg (by omega),if_pos rfl,if_pos ⟨c,by omega,by omega⟩];rfl
    ·rw [if_neg e]
     by_cases e2:P y=true∧0≤y∧y<(k:Int)
     ·rw [if_pos e2,if_pos ⟨e2.1,e2.2.1,by omega⟩];rfl
     ·rw [if_neg e2,if_neg (fun h=>e2 ⟨h.1,h.2.1,by have:=h.2.2;omega⟩)];rfl
   have:=h1 a.to
   have:=h1 a.fr
   omega
  ·rw [if_neg c,Int.add_zero]
   congr 1
   funext a
   unfold cutK
   have h1:∀ y:Int,(if P y=true∧0≤y∧y<(k:Int) then (1:Int) else 0)=if P y=true∧0≤y∧y<((k+1:Nat):Int) then 1 else 0:=fun y=>by
    by_cases e2:P y=true∧0≤y∧y<(k:Int)
    ·rw [if_pos e2,if_pos ⟨e2.1,e2.2.1,by omega⟩]
    ·rw [if_neg e2,if_neg (fun h=>by
      by_cases e:y=(k:Int)
      ·rw [e] at h;exact c h.1
      ·exact e2 ⟨h.1,h.2.1,by have:=h.2.2;omega⟩)]
   rw [h1,h1]
theorem flow_cut {n:Net} (hR:Right n) {f:List Int} (hF:Flow n f) {P:Int→Bool} (hs:P n.s=false) (ht:P n.t=true):exc n.l f n.t=excC (cutA P) n.l f:=by
 have h1:=nodP_eq n.l f P (n.n.toNat+1)
 have ht0:=hR.t0
 have ht1:=hR.t1
 have h2:nodP n.l f P (n.n.toNat+1)=exc n.l f n.t:=by
  have e:=sumTo_one (g:=fun _=>0) (j:=n.t.toNat) (exc n.l f n.t) (k:=n.n.toNat+1) (by omega)
  rw [sumTo_zero fun i _=>rfl,Int.zero_add] at e
  rw [← e]
  refine sumTo_congr fun v hv=>?_
  by_cases c:v=n.t.toNat
  ·subst c
   rw [if_pos rfl,show ((n.t.toNat:Nat):Int)=n.t by omega,if_pos ht]
  ·rw [if_neg c]
   split
   ·rename_i hp
    refine hF.calm _ (fun e=>?_) (fun e=>c (by omega))
    rw [e,hs] at hp;cases hp
   ·rfl
 rw [← h2,h1]
 refine sumTo_congr fun i hi=>?_
 congr 1
 have a1:=hR.fr0 i hi;have a2:=hR.fr1 i hi;have a3:=hR.to0 i hi;have a4:=hR.to1 i hi
 unfold cutK cutA
 by_cases c1:P (arcAt n.l i).to=true <;> by_cases c2:P (arcAt n.l i).fr=true
 ·rw [if_pos c1,if_pos c2,if_pos ⟨c1,by omega,by omega⟩,if_pos ⟨c2,by omega,by omega⟩]
 ·rw [if_pos c1,if_neg c2,if_pos ⟨c1,by omega,by omega⟩,if_neg (fun h=>c2 h.1)]
 ·rw [if_neg c1,if_pos c2,if_neg (fun h=>c1 h.1),if_pos ⟨c2,by omega,by omega⟩]
 ·rw [if_neg c1,if_neg c2,if_neg (fun h=>c1 h.1),if_neg (fun h=>c2 h.1)]
theorem most_one {n:Net} (hR:Right n) {g h L:List Int} (hg:Flow n g) (hh:Flow n h) (hL:IsLev n g 1 L) (hd:amt L n.t.toNat<0):exc n.l h n.t≤exc n.l g n.t:=by
 have hs0:=hR.s0;have hs1:=hR.s1;have ht0:=hR.t0
 have hsl:0≤amt L n.s.toNat:=(hL.low 0 n.s .base).1
 have hs:(fun v:Int=>decide (amt L v.toNat<0)) n.s=false:=by simp;omega
 have ht:(fun v:Int=>decide (amt L v.toNat<0)) n.t=true:=by simpa using hd
 rw [flow_cut hR hh (P:=fun v:Int=>decide (amt L v.toNat<0)) hs ht,flow_cut hR hg (P:=fun v:Int=>decide (amt L v.toNat<0)) hs ht]
 have hstep:∀ r,r<2*n.l.length→0≤amt L (trF n.l r).toNat→1≤roomN n.l g r→0≤amt L (trT n.l r).toNat:=fun r hr h1 h2=>by
  have hb:=trF_bd hR hr
  rcases hL.val (trF n.l r).toNat (by omega) with e | ⟨k,_,hdst⟩
  ·omega
  ·rw [show (((trF n.l r).toNat:Nat):Int)=trF n.l r by omega] at hdst
   exact (hL.low _ _ (.step hr h2 hdst)).1
 refine sumTo_le fun i hi=>?_
 obtain ⟨w1,w2⟩:=hg.wi i hi
 obtain ⟨w3,w4⟩:=hh.wi i hi
 unfold cutA
 by_cases c1:amt L (arcAt n.l i).to.toNat<0 <;> by_cases c2:amt L (arcAt n.l i).fr.toNat<0
 ·simp [c1,c2]
 ·have h1:=hstep (2*i) (by omega)
  rw [trF_even,trT_even,room_even] at h1
  have:¬ 1≤(arcAt n.l i).cap-amt g i:=fun e=>by have:=h1 (by omega) e;omega
  simp only [c1,c2,decide_true,decide_false,if_true,Bool.false_eq_true,if_false]
  omega
 ·have h1:=hstep (2*i+1) (by omega)
  rw [trF_odd,trT_odd,room_odd] at h1
  have:¬ 1≤amt g i:=fun e=>by have:=h1 (by omega) e;omega
  simp only [c1,c2,decide_true,decide_false,if_true,Bool.false_eq_true,if_false]
  omega
 ·simp [c1,c2]
theorem most_same {n:Net} (hR:Right n) {g h L L2:List Int} (hg:Flow n g) (hh:Flow n h) (hL:IsLev n g 1 L) (hd:amt L n.t.toNat<0) (hL2:IsLev n h 1 L2) (hd2:amt L2 n.t.toNat<0):exc n.l g n.t=exc n.l h n.t:=by
 have h1:=most_one hR hg hh hL hd
 have h2:=most_one hR hh hg hL2 hd2
 omega
end Ne
namespace Ne
def capT (P:Int→Bool) (a:Arc):Int:=if P a.fr=false∧P a.to=true then a.cap else 0
def capP (l:List Arc) (P:Int→Bool):Int:=(l.map (capT P)).sum
theorem sum_sumTo (g:Arc→Int):∀ l:List Arc,(l.map g).sum=sumTo (fun i=>g (arcAt l i)) l.length
 | []=>rfl
 | a :: l=>by
  rw [List.map_cons,List.sum_cons,sum_sumTo g l,List.length_cons,sumTo_front]
  rfl
theorem capP_eq (l:List Arc) (P:Int→Bool):capP l P=sumTo (fun i=>capT P (arcAt l i)) l.length:=sum_sumTo _ l
theorem capP_nil (P:Int→Bool):capP [] P=0:=rfl
theorem capP_cons (a:Arc) (l:List Arc) (P:Int→Bool):capP (a :: l) P=capT P a+capP l P:=by simp [capP]
theorem capP_append (l k:List Arc) (P:Int→Bool):capP (l ++ k) P=capP l P+capP k P:=by simp [capP,List.map_append,List.sum_append]
theorem flow_capP {n:Net} (hR:Right n) {f:List Int} (hF:Flow n f) {P:Int→Bool} (hs:P n.s=false) (ht:P n.t=true):exc n.l f n.t≤capP n.l P:=by
 rw [flow_cut hR hF hs ht,capP_eq]
 refine sumTo_le fun i hi=>?_
 obtain ⟨w1,w2⟩:=hF.wi i hi
 unfold cutA capT
 by_cases c1:P (arcAt n.l i).to=true <;> by_cases c2:P (arcAt n.l i).fr=true
 ·simp [c1,c2]
 ·simp [c1,c2];omega
 ·simp [c1,c2];omega
 ·simp [c1,c2]
theorem top_capP {n:Net} (hR:Right n) {g L:List Int} (hg:Flow n g) (hL:IsLev n g 1 L) (hd:amt L n.t.toNat<0) :
  (fun v:Int=>decide (amt L v.toNat<0)) n.s=false∧(fun v:Int=>decide (amt L v.toNat<0)) n.t=true∧exc n.l g n.t=capP n.l (fun v:Int=>decide (amt L v.toNat<0)):=by
 have hs0:=hR.s0;have hs1:=hR.s1;have ht0:=hR.t0
 have hsl:0≤amt L n.s.toNat:=(hL.low 0 n.s .base).1
 have hs:(fun v:Int=>decide (amt L v.toNat<0)) n.s=false:=by simp;omega
 have ht:(fun v:Int=>decide (amt L v.toNat<0)) n.t=true:=by simpa using hd
 refine ⟨hs,ht,?_⟩
 rw [flow_cut hR hg (P:=fun v:Int=>decide (amt L v.toNat<0)) hs ht,capP_eq]
 have hstep:∀ r,r<2*n.l.length→0≤amt L (trF n.l r).toNat→1≤roomN n.l g r→0≤amt L (trT n.l r).toNat:=fun r hr h1 h2=>by
  have hb:=trF_bd hR hr
  rcases hL.val (trF n.l r).toNat (by omega) with e | ⟨k,_,hdst⟩
  ·omega
  ·rw [show (((trF n.l r).toNat:Nat):Int)=trF n.l r by omega] at hdst
   exact (hL.low _ _ (.step hr h2 hdst)).1
 refine sumTo_congr fun i hi=>?_
 obtain ⟨w1,w2⟩:=hg.wi i hi
 unfold cutA capT
 by_cases c1:amt L (arcAt n.l i).to.toNat<0 <;> by_cases c2:amt L (arcAt n.l i).fr.toNat<0
 ·simp [c1,c2]
 ·have h1:=hstep (2*i) (by omega)
  rw [trF_even,trT_even,room_even] at h1
  have:¬ 1≤(arcAt n.l i).cap-amt g i:=fun e=>by have:=h1 (by omega) e;omega
  simp only [c1,c2,decide_true,decide_false,if_true,Bool.false_eq_true,if_false,and_self]
  omega
 ·have h1:=hstep (2*i+1) (by omega)
  rw [trF_odd,trT_odd,room_odd] at h1
  have:¬ 1≤amt g i:=fun e=>by have:=h1 (by omega) e;omega
  have e0:amt g i=0:=by omega
  simp [c1,c2,e0]
 ·simp [c1,c2]
def Top (n:Net) (v:Int):Prop:=∃ g L,Flow n g∧IsLev n g 1 L∧amt L n.t.toNat<0∧v=exc n.l g n.t
theorem Top.cut {n:Net} (hR:Right n) {v:Int} (h:Top n v):∃ P:Int→Bool,P n.s=false∧P n.t=true∧v=capP n.l P:=by
 obtain ⟨g,L,h1,h2,h3,rfl⟩:=h
 obtain ⟨a,b,c⟩:=top_capP hR h1 h2 h3
 exact ⟨_,a,b,c⟩
theorem Top.low {n:Net} (hR:Right n) {v:Int} (h:Top n v) {P:Int→Bool} (hs:P n.s=false) (ht:P n.t=true):v≤capP n.l P:=by
 obtain ⟨g,L,h1,h2,h3,rfl⟩:=h
 exact flow_capP hR h1 hs ht
theorem Top.ge {n:Net} (hR:Right n) {v:Int} (h:Top n v) {f:List Int} (hf:Flow n f):exc n.l f n.t≤v:=by
 obtain ⟨g,L,h1,h2,h3,rfl⟩:=h
 exact most_one hR h1 hf h2 h3
theorem Top.one {n:Net} (hR:Right n) {v w:Int} (h:Top n v) (h2:Top n w):v=w:=by
 obtain ⟨g,L,a1,a2,a3,rfl⟩:=h
 obtain ⟨k,L2,b1,b2,b3,rfl⟩:=h2
 exact most_same hR a1 b1 a2 a3 b2 b3
theorem Top.mono {n m:Net} (hn:Right n) (hm:Right m) {v w x:Int} (h:Top n v) (k:Top m w)
  (hc:∀ P:Int→Bool,P n.s=false→P n.t=true→∃ Q:Int→Bool,Q m.s=false∧Q m.t=true∧capP m.l Q≤capP n.l P+x):w≤v+x:=by
 obtain ⟨P,h1,h2,rfl⟩:=h.cut hn
 obtain ⟨Q,q1,q2,q3⟩:=hc P h1 h2
 exact Int.le_trans (k.low hm q1 q2) q3
theorem Top.same {n m:Net} (hn:Right n) (hm:Right m) {v w:Int} (h:Top n v) (k:Top m w)
  (hc:∀ P:Int→Bool,P n.s=false→P n.t=true→∃ Q:Int→Bool,Q m.s=false∧Q m.t=true∧capP m.l Q≤capP n.l P)
  (hd:∀ P:Int→Bool,P m.s=false→P m.t=true→∃ Q:Int→Bool,Q n.s=false∧Q n.t=true∧capP n.l Q≤capP m.l P):v=w:=by
 have h1:=Top.mono hn hm (x:=0) h k (fun P a b=>by obtain ⟨Q,q1,q2,q3⟩:=hc P a b;exact ⟨Q,q1,q2,by omega⟩)
 have h2:=Top.mono hm hn (x:=0) k h (fun P a b=>by obtain ⟨Q,q1,q2,q3⟩:=hd P a b;exact ⟨Q,q1,q2,by omega⟩)
 omega
theorem capP_turn (l:List Arc) (P:Int→Bool):capP (l.map fun a=>⟨a.to,a.fr,a.cap⟩) (fun v=>!P v)=capP l P:=by
 unfold capP
 rw [List.map_map]
 congr 1
 refine List.map_congr_left fun a _=>?_
 show capT _ _=capT _ _
 unfold capT
 simp only
 by_cases c1:P a.to=true <;> by_cases c2:P a.fr=true <;> simp [c1,c2]
theorem capP_rot (l:List Arc) (k:Nat) (P:Int→Bool):capP (l.drop k ++ l.take k) P=capP l P:=by
 rw [capP_append,Int.add_comm,← capP_append,List.take_append_drop]
theorem capP_set:∀ (l:List Arc) (i:Nat) (a:Arc),i<l.length→∀ P:Int→Bool,capP (l.set i a) P=capP l P+(capT P a-capT P (arcAt l i))
 | [],i,a,h,P=>absurd h (by simp)
 | b :: l,0,a,h,P=>by
  show capP (a :: l) P=_
  rw [capP_cons,capP_cons]
  show _=_+(_-capT P b)
  omega
 | b :: l,i+1,a,h,P=>by
  show capP (b :: l.set i a) P=_
  rw [capP_cons,capP_cons,capP_set l i a (by simpa using h) P]
  show _=_+(_-capT P (arcAt l i))
  omega
theorem capT_cap (P:Int→Bool) (a:Arc) (c d:Int):capT P ⟨a.fr,a.to,c⟩ + capT P ⟨a.fr,a.to,d⟩=capT P ⟨a.fr,a.to,c+d⟩:=by
 unfold capT
 simp only
 split <;> omega
theorem capT_loop (P:Int→Bool) (v c:Int):capT P ⟨v,v,c⟩=0:=by
 unfold capT
 simp only
 by_cases h:P v=true <;> simp [h]
theorem capT_src {P:Int→Bool} {s:Int} (hs:P s=false) (v c:Int):capT P ⟨v,s,c⟩=0:=by unfold capT;simp [hs]
theorem capT_snk {P:Int→Bool} {t:Int} (ht:P t=true) (v c:Int):capT P ⟨t,v,c⟩=0:=by unfold capT;simp [ht]
theorem capT_bd (P:Int→Bool) {a:Arc} (h:0≤a.cap):0≤capT P a∧capT P a≤a.cap:=by unfold capT;split <;> omega
end Ne
end Go.Proofs.YtmikbkggjlbbnaaGreat
