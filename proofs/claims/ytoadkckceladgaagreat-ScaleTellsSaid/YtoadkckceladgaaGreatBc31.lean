/-
  Frxv, Scr, Ssm
-/
import Derived.Test.YtoadkckceladgaaGreatBc28
import Derived.Test.YtoadkckceladgaaGreatBc27
import Derived.Test.YtoadkckceladgaaGreatBc30
import Derived.Deep.LoopGhost
import Derived.Deep.DeepCutAuto
import Derived.RegionTactic
import Derived.BigRegion
set_option linter.unusedVariables false
set_option linter.unusedSimpArgs false
set_option maxRecDepth 100000
set_option maxHeartbeats 4000000
namespace Go.Proofs.YtoadkckceladgaaGreat
open Go.ChangeShapes Go.WideShapes Go.ChangeAt Go.RowKit
open Lib (hid)
namespace Ne
section
variable (n:Net) (ao:Option Addr) (cap:Nat) (fo:Option Addr) (fc:Nat) (f:List Int) (w:World) (hr:ARow w ao n.l) (hf:IRow w fo f) (hl:n.l.length≤1000000)
include hr hf hl
theorem rval_any:Calls Tryz.prog 25 #[encN n ao cap,.slice fo f.length fc] w fun e w'=>e=.returned (.tuple #[.int .i64 (vaV n f),.int .i64 (chkF n f)])∧Below w.heap.size w w':=by
 have AM:=hid (fun w' (h1:ARow w' ao n.l) (h2:IRow w' fo f)=>rchk_any n ao cap fo fc f w' h1 h2 hl)
 by_cases c0:chkF n f=0
 case neg =>
  have HV:=hid (show vaV n f=0 by unfold vaV;rw [if_pos c0])
  generalize vaV n f=R at *
  generalize chkF n f=c at *
  generalize f.length=fl at *
  obtain ⟨nn,ns,nt,l⟩:=n
  simp only at hr AM ⊢
  have HB0:=hid ((Below.refl w.heap.size w).alloc (Nat.le_refl _) (.cells #[.int .i64 nn,.int .i64 ns,.int .i64 nt,.slice ao l.length cap] 24))
  have HN0:=hid (nbN w nn ns nt (.slice ao l.length cap))
  have c1':(c == 0)=false:=by simpa using c0
  have c1n:(c != 0)=true:=by simpa using c0
  have HR:=hid (hr.kept HB0.out)
  have HF:=hid (hf.kept HB0.out)
  clear hr hf c0
  go_enter Tryz.func25,Tryz.ntmps25
  go_wp2_with fail
  refine (AM.out _ HR.out HF.out).mono ?_
  rintro e w1 ⟨rfl,hb⟩
  have HB1:=hid (HB0.out.trans (hb.mono (by simp)))
  obtain ⟨n0,n1,n2,n3⟩:=nbC (nbB HN0.out hb (by simp))
  clear hb
  go_wp2
  go_ret2
  exact ⟨ret2r HV.out.symm rfl,HB1.out⟩
 have HV:=hid (show vaV n f=exc n.l f n.t by unfold vaV;rw [if_neg (by simpa using c0)])
 have c1:=(chkF_ok c0).1
 have XS:=hid (fun w' (h1:ARow w' ao n.l) (h2:IRow w' fo f)=>rexc_any n ao cap fo fc f n.t w' h1 h2 c1)
 rw [c0] at AM ⊢
 clear c0 c1
 generalize vaV n f=R at *
 generalize f.length=fl at *
 obtain ⟨nn,ns,nt,l⟩:=n
 simp only at hr AM XS HV ⊢
 have HB0:=hid ((Below.refl w.heap.size w).alloc (Nat.le_refl _) (.cells #[.int .i64 nn,.int .i64 ns,.int .i64 nt,.slice ao l.length cap] 24))
 have HN0:=hid (nbN w nn ns nt (.slice ao l.length cap))
 have HR:=hid (hr.kept HB0.out)
 have HF:=hid (hf.kept HB0.out)
 clear hr hf
 go_enter Tryz.func25,Tryz.ntmps25
 go_wp2_with fail
 refine (AM.out _ HR.out HF.out).mono ?_
 rintro e w1 ⟨rfl,hb⟩
 have HB1:=hid (HB0.out.trans (hb.mono (by simp)))
 have HR1:=hid (HR.out.kept hb)
 have HF1:=hid (HF.out.kept hb)
 obtain ⟨n0,n1,n2,n3⟩:=nbC (nbB HN0.out hb (by simp))
 clear hb
 go_wp2_with fail
 refine (XS.out _ HR1.out HF1.out).mono ?_
 rintro e w2 ⟨rfl,hb⟩
 have HB2:=hid (HB1.out.trans (hb.mono HB1.out.size))
 clear hb n0 n1 n2 n3
 go_wp2
 go_ret2
 exact ⟨ret2r HV.out.symm rfl,HB2.out⟩
end
end Ne
end Go.Proofs.YtoadkckceladgaaGreat
namespace Go.Proofs.YtoadkckceladgaaGreat
open Go.ChangeShapes Go.WideShapes Go.ChangeAt Go.RowKit Go.Shelf
open Lib (hid)
namespace Ne
theorem rstarts_any (n:Net) (ao:Option Addr) (cap:Nat) (w:World) (hr:ARow w ao n.l) (hl:n.l.length≤1000000) (hok:∀ a∈n.l,in64 a.cap) :
  Calls Tryz.prog 15 #[encN n ao cap] w fun e w'=>e=.returned (.int .i64 (staN n.l))∧Below w.heap.size w w':=by
 obtain ⟨nn,ns,nt,l⟩:=n
 simp only at hr hl hok ⊢
 have HMX:=hid (fun k=>mxC_nn l k)
 have HMB:=hid (fun k (hk:k≤l.length)=>mxC_in (k:=k) l (B:=9223372036854775807) (by omega) fun i hi=>by
  have e:arcAt l i=l[i]'(by omega):=by simp [arcAt,List.getElem?_eq_getElem (show i<l.length by omega)]
  rw [e]
  exact (hok _ (List.getElem_mem _)).2)
 have HFL:=hid (fun w'=>Num.rfloor_any (mxC l l.length) w' (by have:=HMX.out l.length;omega) (HMB.out _ (Nat.le_refl _)))
 have HS:=hid (show Num.floorF (mxC l l.length)=staN l from rfl)
 have HB0:=hid ((Below.refl w.heap.size w).alloc (Nat.le_refl _) (.cells #[.int .i64 nn,.int .i64 ns,.int .i64 nt,.slice ao l.length cap] 24))
 have HN0:=hid (nbN w nn ns nt (.slice ao l.length cap))
 have HR:=hid (hr.kept HB0.out)
 clear hr hok
 go_enter Tryz.func15,Tryz.ntmps15
 go_wp2
 generalize (w.alloc (.cells #[.int .i64 nn,.int .i64 ns,.int .i64 nt,.slice ao l.length cap] 24))=W0 at *
 go_loopw [3,4] (fun x i wr=>∃ (k:Nat) (z:Int),x=.int .i64 z∧i=.int .i64 k∧k≤l.length∧Hid (z=mxC l k)∧wr=W0) (fun _ i _=>l.length-(intOf i).toNat)
 case atStart=>exact ⟨0,0,rfl,rfl,Nat.zero_le _,hid rfl,rfl⟩
 case round =>
  obtain ⟨k,z,rfl,rfl,hk,HZ,rfl⟩:=hrel
  obtain ⟨n0,n1,n2,n3⟩:=nbC HN0.out
  by_cases hlt:k<l.length
  ·obtain ⟨b,off,rfl,hbl,c0,c1,c2⟩:=arC HR.out hlt
   have HZ2:=hid (show max z (arcAt l k).cap=mxC l (k+1) by rw [HZ.out];rfl)
   generalize arcAt l k=a at *
   obtain ⟨fr,tt,ca⟩:=a
   simp only at c0 c1 c2 HZ2
   have hki:(k:Int)<(l.length:Int):=by omega
   have hk0:(0:Int)≤(k:Int):=by omega
   go_wp2
   go_roundw
   case rel=>exact ⟨k+1,_,rfl,by go_num,by omega,HZ2,by trivial⟩
   case measure=>simp [intOf];omega
  ·have ek:k=l.length:=by omega
   subst ek
   obtain rfl:=HZ.out
   go_wp2_with fail
   refine (HFL.out _).mono ?_
   rintro e w1 ⟨rfl,rfl⟩
   go_wp2
   go_ret
   exact ⟨retI HS.out,HB0.out⟩
abbrev OwnTr (w:World) (B:Nat) (v:Value) (l:List Tn):Prop:=Rw.Own 66 4 encT w B v l
theorem elemTr:Rw.Elem 66 31 4 32 (.agg #[.int .i64 0,.int .i64 0,.int .i64 0,.int .i64 0]):=⟨by kernel_rfl,Tryz.underlying31,rfl,by decide,by decide⟩
theorem trow_atr (w:World) (t:Tn):Rw.Row 4 encT (w.alloc (.cells #[.int .i64 t.x,.int .i64 (t.p:Int),.int .i64 (t.k:Int),.int .i64 t.v] 66)) (some ⟨w.heap.size,0,none⟩) [t]:=by
 refine .inr ⟨w.heap.size,0,rfl,by simp,?_⟩
 intro i y hi j v hv
 match i,hi with
 | 0,hi =>
  simp at hi;subst hi
  match j,hv with
  | 0,hv=>simp [encT] at hv;subst hv;exact World.cell?_alloc_new w _ _ 0
  | 1,hv=>simp [encT] at hv;subst hv;exact World.cell?_alloc_new w _ _ 1
  | 2,hv=>simp [encT] at hv;subst hv;exact World.cell?_alloc_new w _ _ 2
  | 3,hv=>simp [encT] at hv;subst hv;exact World.cell?_alloc_new w _ _ 3
  | (j+4),hv=>simp [encT] at hv
 | (i+1),hi=>simp at hi
theorem scE_is (n:Net) (a:Int):scE n a=if checkN n≠0 then checkN n else if a=112∨a=116 then 0 else 1:=by
 unfold scE rnE reE
 by_cases c:checkN n=0
 ·have h:=flow_chkF c (flow_nought (rgO c))
  rw [h];simp [c]
 ·have h:chkF n (List.replicate n.l.length 0)=checkN n:=by
   have h2:chkA n (List.replicate n.l.length 0)=checkN n:=by unfold chkA;rw [if_pos c]
   unfold chkF;rw [h2,if_pos c]
  rw [h];simp [c]
theorem own_ne_net {w:World} {b B:Nat} {n s t:Int} {v v2:Value} {e:TypeId} {α:Type} {kk:Nat} {enc:α→List Value} {xs:List α} (hne:e≠24) (ho:Rw.Own e kk enc w B v2 xs) (h:NetBox w b n s t v):v2.ownBlock≠some b:=by
 intro hg
 obtain ⟨_,h2⟩:=ho
 rcases h2 with ⟨hv,_⟩ | ⟨g,cp,cur,hv,_,hh,_⟩
 ·rw [hv] at hg;simp [Value.ownBlock] at hg
 ·rw [hv] at hg
  obtain rfl:g=b:=by simpa [Value.ownBlock] using hg
  unfold NetBox at h
  rw [hh] at h
  simp at h
  exact hne h.2
theorem sqs_inv {n:Net} {x:Int} {xs f h:List Int} {ts:List Tn} (a:Sqs n (x :: xs) f h ts):∃ g p k ts2,ts=⟨x,p,k,exc n.l g n.t⟩ :: ts2∧Phs n x f g p k∧Sqs n xs g h ts2:=by
 cases a with
 | cons P b=>exact ⟨_,_,_,_,rfl,P,b⟩
section
variable (n:Net) (ao:Option Addr) (cap:Nat) (a:Int) (w:World) (hr:ARow w ao n.l) (hl:n.l.length≤1000000) (hok:∀ a∈n.l,in64 a.cap) (h:List Int) (ts:List Tn) (K:Nat) (hS:checkN n=0→Sqs n (rms K) (List.replicate n.l.length 0) h ts) (hK:staN n.l=fstR K) (hK63:K≤63)
include hr hl hok hS hK hK63
theorem rsmax_any:Calls Tryz.prog 11 #[encN n ao cap,.int .u8 a] w fun e w'=>∃ o c ot ct,e=.returned (.tuple #[.slice o (scG n a h).length c,.slice ot (scT n a ts).length ct,.int .i64 (scE n a)])∧IRow w' o (scG n a h)∧OwnTr w' w.heap.size (.slice ot (scT n a ts).length ct) (scT n a ts)∧Below w.heap.size w w':=by
 have CK:=hid fun w' h1=>rcheck_any n ao cap w' h1 hl
 have HB0:=hid ((Below.refl w.heap.size w).alloc (Nat.le_refl _) (.cells #[.int .i64 n.n,.int .i64 n.s,.int .i64 n.t,.slice ao n.l.length cap] 24))
 have HN0:=hid (nbN w n.n n.s n.t (.slice ao n.l.length cap))
 have HR:=hid hr
 have hE:=scE_is n a
 by_cases c0:checkN n=0
 case neg =>
  have e1:scE n a=checkN n:=by rw [hE,if_pos c0]
  have HQ:=hid (sc_bad (show scE n a≠0 by rw [e1];exact c0) h ts)
  have HE1:=hid e1
  generalize checkN n=R at *
  have c1:(R == 0)=false:=by simpa using c0
  have c2:(R != 0)=true:=by simpa using c0
  clear hr hl hok hS hK hK63 hE c0 e1
  obtain ⟨n0,n1,n2,n3⟩:=nbC HN0.out
  go_enter Tryz.func11,Tryz.ntmps11
  go_wp2_with fail
  refine (CK.out _ (HR.out.kept HB0.out)).mono ?_
  rintro e w1 ⟨rfl,hb⟩
  have HB1:=hid (HB0.out.trans (hb.mono HB0.out.size))
  clear hb n0 n1 n2 n3
  go_wp2
  refine bodyPost_ret (results_tmp3 rfl _ _ _) rfl ?_
  exact ⟨none,0,none,0,by rw [HE1.out,HQ.out.1,HQ.out.2];rfl,by rw [HQ.out.1];exact .inl rfl,by rw [HQ.out.2];exact Rw.owN _ _,HB1.out⟩
 rw [if_neg (by simpa using c0)] at hE
 rw [c0] at CK
 by_cases c1:a=112∨a=116
 case neg =>
  have e1:scE n a=1:=by rw [hE,if_neg c1]
  have HQ:=hid (sc_bad (show scE n a≠0 by rw [e1];decide) h ts)
  have HE1:=hid e1
  have d1:(a != 112)=true:=by simp;omega
  have d2:(a != 116)=true:=by simp;omega
  clear hr hl hok hS hK hK63 hE c0 e1 c1
  obtain ⟨n0,n1,n2,n3⟩:=nbC HN0.out
  go_enter Tryz.func11,Tryz.ntmps11
  go_wp2_with fail
  refine (CK.out _ (HR.out.kept HB0.out)).mono ?_
  rintro e w1 ⟨rfl,hb⟩
  have HB1:=hid (HB0.out.trans (hb.mono HB0.out.size))
  clear hb n0 n1 n2 n3
  go_wp2
  refine bodyPost_ret (results_tmp3 rfl _ _ _) rfl ?_
  exact ⟨none,0,none,0,by rw [HE1.out,HQ.out.1,HQ.out.2];rfl,by rw [HQ.out.1];exact .inl rfl,by rw [HQ.out.2];exact Rw.owN _ _,HB1.out⟩
 have e1:scE n a=0:=by rw [hE,if_pos c1]
 obtain ⟨ck,q,rfl⟩:=sc_eng e1
 obtain ⟨q1,q2⟩:=sc_ok e1 h ts
 rw [q1,q2,e1]
 clear hE e1 q1 q2 c0 c1
 have RT:=hid (rgO ck)
 have SQ:=hid (hS ck)
 have ST:=hid fun w' h1=>rstarts_any n ao cap w' h1 hl hok
 rw [hK] at ST
 have FFL:=hid fun w' fo fc fl x p k g (hx:1≤x) (hF:Flow n fl) (P:Phs n x fl g p k) h1 h2 hfn=>rfrom_flow ao cap fo fc w' ck h1 h2 hfn hF.okf hx P q
 have DV:=hid fun w' fo fc fl (hF:Flow n fl) h1 h2=>show Calls Tryz.prog 25 #[encN n ao cap,.slice fo n.l.length fc] w' fun e w2=>e=.returned (.tuple #[.int .i64 (exc n.l fl n.t),.int .i64 0])∧Below w'.heap.size w' w2 from by
  have h:=rval_any n ao cap fo fc fl w' h1 h2 hl
  rw [hF.len,flow_vaV ck hF,flow_chkF ck hF] at h
  exact h
 have HF0:=hid (flow_nought (rgO ck))
 have HLH:=hid (show h.length=n.l.length from (sqs_flow (rgO ck) (fun y hy=>rms_pos y hy) SQ.out HF0.out).len)
 have HLT:=hid (show ts.length=K by have:=sqs_len SQ.out;rw [rms_len] at this;exact this)
 have HKK:=hid hK63
 have hmk:=make_l n.l.length hl
 have hd1:(engC q != 112 && engC q != 116)=false:=by cases q <;> decide
 have HEN:=hid (show (engC q != 112)=true→(engC q != 116)=false by cases q <;> decide)
 rw [HLH.out]
 clear hS hK hK63 hr hok hl ck
 obtain ⟨n0,n1,n2,n3⟩:=nbC HN0.out
 have hen:(engC q != 112)=true∨(engC q != 112)=false:=by cases q <;> decide
 generalize engC q=a at *
 go_enter Tryz.func11,Tryz.ntmps11
 go_wp2_with fail
 refine (CK.out _ (HR.out.kept HB0.out)).mono ?_
 rintro e w1 ⟨rfl,hb⟩
 have HB1:=hid (HB0.out.trans (hb.mono HB0.out.size))
 have HN1:=hid (nbB HN0.out hb (netBox_lt HN0.out))
 clear hb n0 n1 n2 n3
 obtain ⟨n0,n1,n2,n3⟩:=nbC HN1.out
 go_upto_region 2 with fail
 go_cut [26] (fun s wc=>s=.bool false∧wc=w1)
 case first =>
  rcases hen with he | he
  ·have he2:=HEN.out he
   go_wp2_with fail
   go_meet
   case rel=>exact ⟨rfl,rfl⟩
  ·go_wp2_with fail
   go_meet
   case rel=>exact ⟨rfl,rfl⟩
 case rest =>
  obtain ⟨rfl,rfl⟩:=hcut
  clear hen hd1 HEN
  have hal:Below wc.heap.size wc (wc.alloc (.cells (madeCells #[.int .i64 0] n.l.length) 2)):=(Below.refl _ _).alloc (Nat.le_refl _) _
  have HO2:=hid (lbox_made wc n.l.length rfl).irow
  have HB2:=hid (HB1.out.trans (hal.mono HB1.out.size))
  have HN2:=hid (nbB HN1.out hal (netBox_lt HN1.out))
  go_upto_region 8 with fail
  generalize hW2:(wc.alloc (.cells (madeCells #[.int .i64 0] n.l.length) 2))=W2 at *
  clear hal n0 n1 n2 n3 hW2
  obtain ⟨n0,n1,n2,n3⟩:=nbC HN2.out
  generalize wc.heap.size=bz at *
  go_wp2_with fail
  refine (ST.out _ (HR.out.kept HB2.out)).mono ?_
  rintro e w3 ⟨rfl,hb⟩
  have HB3:=hid (HB2.out.trans (hb.mono HB2.out.size))
  have HN3:=hid (nbB HN2.out hb (netBox_lt HN2.out))
  have HO3:=hid (HO2.out.kept hb)
  clear hb n0 n1 n2 n3 HN2 HO2 HB2 HN1 HB1 HN0 HB0
  go_wp2
  go_loopg [8,9,10,11,12,13,14] K (fun gg s8 s9 s10 s11 s12 s13 s14 wr=>((∃ z,s11=z)∧(∃ z,s12=z)∧(∃ z,s13=z)∧∃ z,s14=z)∧∃ (fl:List Int) (tl tr:List Tn) (o ot:Option Addr) (c ct:Nat),s8=.slice o n.l.length c∧s9=.slice ot tl.length ct∧s10=.int .i64 (fstR gg)∧gg≤K∧Hid (Sqs n (rms gg) fl h tr)∧Hid (tl ++ tr=ts)∧Hid (Flow n fl)∧Hid (o=none→c=0)∧Hid (IRow wr o fl)∧Hid (OwnTr wr w.heap.size (.slice ot tl.length ct) tl)∧Hid (Below w.heap.size w wr)∧Hid (NetBox wr w.heap.size n.n n.s n.t (.slice ao n.l.length cap)))
  case atStart=>exact ⟨⟨⟨_,rfl⟩,⟨_,rfl⟩,⟨_,rfl⟩,⟨_,rfl⟩⟩,_,[],ts,some ⟨bz,0,none⟩,none,n.l.length,0,rfl,rfl,rfl,Nat.le_refl _,SQ,hid rfl,HF0,hid (fun h=>by cases h),HO3,hid (Rw.owN _ _),HB3,HN3⟩
  case round =>
   obtain ⟨⟨⟨z11,rfl⟩,⟨z12,rfl⟩,⟨z13,rfl⟩,⟨z14,rfl⟩⟩,fl,tl,tr,o,ot,c,ct,rfl,rfl,rfl,hgK,HS,HT,HFL,HNN,HO,HOT,HB,HN⟩:=hrel
   obtain ⟨n0,n1,n2,n3⟩:=nbC HN.out
   by_cases hg0:gk=0
   ·subst hg0
    have h0:=HS.out
    rw [show rms 0=[] from rfl] at h0
    cases h0
    have HT2:=hid (show tl=ts by have h:=HT.out;rwa [List.append_nil] at h)
    rw [show fstR 0=0 from rfl]
    go_wp2
    refine bodyPost_ret (results_tmp3 rfl _ _ _) rfl ?_
    exact ⟨o,c,ot,ct,by rw [HT2.out];rfl,HO.out,by rw [← HT2.out];exact HOT.out,HB.out⟩
   ·obtain ⟨pr,rfl⟩:∃ pr,gk=pr+1:=⟨gk-1,by omega⟩
    have hS:=HS.out
    rw [rms_succ] at hS
    have hx1:=fst_pos pr
    have HWD:=hid (show wrap64 ((fstR (pr+1)).tdiv 2)=fstR pr by
     have h1:=fst_half pr
     have h2:=fst_le (k:=pr+1) (by have:=HKK.out;omega)
     rw [Int.tdiv_eq_ediv_of_nonneg (by omega),h1]
     unfold wrap64;omega)
    have hKB:ts.length≤63:=by have:=HLT.out;have:=HKK.out;omega
    generalize fstR (pr+1)=X at *
    obtain ⟨g,p,k,tr2,rfl,P,hS2⟩:=sqs_inv hS
    have HFG:=hid (phs_flow RT.out hx1 P HFL.out)
    have FF:=hid (FFL.out wr o c fl X p k g hx1 HFL.out P (HR.out.kept HB.out) HO.out HNN.out)
    have HS2:=hid hS2
    have hpx:decide (0<X)=true:=by simp;omega
    obtain ⟨ex,hex⟩:∃ z,z=exc n.l g n.t:=⟨_,rfl⟩
    rw [← hex] at HT
    have DX:=hid fun w' fo fc h1 h2=>DV.out w' fo fc g HFG.out h1 h2
    rw [← hex] at DX
    have HT2:=hid (show (tl ++ [(⟨X,p,k,ex⟩:Tn)]) ++ tr2=ts by have h:=HT.out;simpa using h)
    have HTL:=hid (show tl.length+1≤63 by have h:=congrArg List.length HT.out;simp at h;omega)
    clear hS hS2 P hex HT HS hKB hx1
    go_wp2_with fail
    refine FF.out.mono ?_
    rintro e w6 ⟨o6,c6,rfl,ho,hb⟩
    have HN6:=hid (show o6=none→c6=0 by
     obtain ⟨_,_,ev3,_,_,hnn,_⟩:=Rw.owR eIl ho
     simp only [Value.slice.injEq] at ev3
     obtain ⟨e1,_,e2⟩:=ev3
     rw [e1,e2];exact hnn)
    have hal:=(Below.refl w6.heap.size w6).alloc (Nat.le_refl _) (.cells #[.slice o6 n.l.length c6,.int .i64 (p:Int),.int .i64 (k:Int)] 63)
    have HX6:=hid (rrBox_at w6 rfl (.slice o6 n.l.length c6) (p:Int) (k:Int))
    have HI6:=hid (Rw.own_base (Rw.own_below ho hal) (Nat.zero_le _))
    replace hb:=hb.trans (hal.mono hb.size)
    have HB6:=hid (HB.out.trans (hb.mono HB.out.size))
    have HNB6:=hid (nbB HN.out hb (netBox_lt HN.out))
    have HT6:=hid (Rw.own_below HOT.out hb)
    clear hb ho hal n0 n1 n2 n3
    obtain ⟨n0,n1,n2,n3⟩:=nbC HNB6.out
    obtain ⟨y0,y1,y2⟩:=rrBox_cells HX6.out
    go_wp2_with fail
    refine (DX.out _ o6 c6 (HR.out.kept HB6.out) (owI HI6.out)).mono ?_
    rintro e w7 ⟨rfl,hb⟩
    have HX7:=hid (rrBox_below HX6.out hb (rrBox_lt HX6.out))
    have HI7:=hid (Rw.own_below HI6.out hb)
    have HB7:=hid (HB6.out.trans (hb.mono HB6.out.size))
    have HNB7:=hid (nbB HNB6.out hb (netBox_lt HNB6.out))
    have HT7:=hid (Rw.own_below HT6.out hb)
    clear hb n0 n1 n2 n3 y0 y1 y2
    obtain ⟨y0,y1,y2⟩:=rrBox_cells HX7.out
    have hal:=(Below.refl w7.heap.size w7).alloc (Nat.le_refl _) (.cells #[.int .i64 X,.int .i64 (p:Int),.int .i64 (k:Int),.int .i64 ex] 66)
    have HB8:=hid (HB7.out.trans (hal.mono HB7.out.size))
    have HNB8:=hid (nbB HNB7.out hal (netBox_lt HNB7.out))
    have HI8:=hid (Rw.own_below HI7.out hal)
    have HT8:=hid (Rw.own_below HT7.out hal)
    have HZ8:=hid HB8.out.size
    have HRW:=hid (trow_atr w7 (⟨X,p,k,ex⟩:Tn))
    have HSG:=hid (show ((tl ++ [(⟨X,p,k,ex⟩:Tn)]).length=tl.length+1) by simp)
    clear hal
    go_wp2_with (at_builtin;refine Rw.app elemTr encT_len encT_one rfl (.tmp 56) (.tmp 64) rfl w.heap.size _ tl rfl HT8.out (some ⟨w7.heap.size,0,none⟩) 1 [(⟨X,p,k,ex⟩:Tn)] rfl (fun h=>by cases h) HRW.out (by have:=HTL.out;simp;omega) HZ8.out ?_;intro vv w9 hown hgr;have HO9:=hid hown;have HG9:=hid hgr;obtain ⟨o9,c9,hva,_⟩:=Rw.owR encT_len hown;subst hva;clear hown hgr)
    rw [HWD.out]
    go_roundg pr
    case measure=>omega
    case rel=>exact ⟨⟨⟨_,rfl⟩,⟨_,rfl⟩,⟨_,rfl⟩,⟨_,rfl⟩⟩,g,_,tr2,o6,o9,c6,c9,rfl,by rw [HSG.out],rfl,by omega,HS2,HT2,HFG,HN6,hid (owI (owM HI8.out fun b hb=>HG9.out.block b (Rw.owL HI8.out b hb).2 fun e=>own_types (by decide) HI8.out HT8.out b hb e.symm)),HO9,hid (HB8.out.grown HG9.out HZ8.out fun b e=>Rw.owK HT8.out b e),hid (netBox_grown HNB8.out HG9.out fun e=>own_ne_net (by decide) HT8.out HNB8.out e.symm)⟩
end
end Ne
end Go.Proofs.YtoadkckceladgaaGreat
namespace Go.Proofs.YtoadkckceladgaaGreat
open Go.ChangeShapes Go.WideShapes Go.ChangeAt Go.RowKit
open Lib (hid)
namespace Ne
theorem same_turns (o1 o2:Option Addr) (c1 c2:Nat) (ts:List Tn) (K:Nat) (hK:ts.length=K) (hK63:K≤63) (w:World) (h1:Rw.Row 4 encT w o1 ts) (h2:Rw.Row 4 encT w o2 ts) :
  Calls Tryz.prog 13 #[.slice o1 K c1,.slice o2 K c2] w fun e w'=>e=.returned (.bool true)∧Below w.heap.size w w':=by
 have HT:=hid h1
 have HU:=hid h2
 have TL:=hid hK
 have hll:((K:Int) != (K:Int))=false:=by simp
 clear h1 h2 hK
 go_enter Tryz.func13,Tryz.ntmps13
 go_wp2
 go_loopg [5] K (fun gg s5 wr=>∃ j:Nat,s5=.int .i64 (j:Int)∧j+gg=K∧Hid (Below w.heap.size w wr))
 case atStart=>exact ⟨0,rfl,by omega,hid (Below.refl _ _)⟩
 case round =>
  obtain ⟨j,rfl,hjg,HBW⟩:=hrel
  by_cases hlt:j<K
  ·have hji:(j:Int)<(K:Int):=by omega
   have hj0:(0:Int)≤(j:Int):=by omega
   have hw1:IntKind.i64.wrap ((j:Int)+1)=((j+1:Nat):Int):=by rw [IntKind.wrap_i64];omega
   have hbd:=bDr (Below.refl wr.heap.size wr)
   obtain ⟨tb,toff,e9,htb,d0,d1,d2,d3⟩:=trow_cell ((HT.out.kept HBW.out).kept hbd) (i:=j) (by rw [TL.out];exact hlt)
   subst e9
   obtain ⟨ub,uoff,e9,hub,u0,u1,u2,u3⟩:=trow_cell ((HU.out.kept HBW.out).kept hbd) (i:=j) (by rw [TL.out];exact hlt)
   subst e9
   rcases htn:tnAt ts j with ⟨tx,tp,tk,tv⟩
   rw [htn] at d0 d1 d2 d3 u0 u1 u2 u3
   simp only at d0 d1 d2 d3 u0 u1 u2 u3
   have HB2:=hid (HBW.out.trans (hbd.mono HBW.out.size))
   have HGG:=hid (show j+1+(gk-1)=K∧gk-1<gk by omega)
   have e1:(tx != tx)=false:=by simp
   have e2:((tp:Int) != (tp:Int))=false:=by simp
   have e3:((tk:Int) != (tk:Int))=false:=by simp
   have e4:(tv != tv)=false:=by simp
   have hS0:=(show (fun w':World=>w'.cell? ⟨tb,toff+j*4,none⟩=some (.int .i64 tx)∧w'.cell? ⟨tb,toff+j*4+1,none⟩=some (.int .i64 (tp:Int))∧w'.cell? ⟨tb,toff+j*4+2,none⟩=some (.int .i64 (tk:Int))∧w'.cell? ⟨tb,toff+j*4+3,none⟩=some (.int .i64 tv)∧w'.cell? ⟨ub,uoff+j*4,none⟩=some (.int .i64 tx)∧w'.cell? ⟨ub,uoff+j*4+1,none⟩=some (.int .i64 (tp:Int))∧w'.cell? ⟨ub,uoff+j*4+2,none⟩=some (.int .i64 (tk:Int))∧w'.cell? ⟨ub,uoff+j*4+3,none⟩=some (.int .i64 tv)) wr.drew from ⟨d0,d1,d2,d3,u0,u1,u2,u3⟩)
   clear hbd htn d0 d1 d2 d3 u0 u1 u2 u3
   go_wp2
   refine Rh.start (S:=(fun w':World=>w'.cell? ⟨tb,toff+j*4,none⟩=some (.int .i64 tx)∧w'.cell? ⟨tb,toff+j*4+1,none⟩=some (.int .i64 (tp:Int))∧w'.cell? ⟨tb,toff+j*4+2,none⟩=some (.int .i64 (tk:Int))∧w'.cell? ⟨tb,toff+j*4+3,none⟩=some (.int .i64 tv)∧w'.cell? ⟨ub,uoff+j*4,none⟩=some (.int .i64 tx)∧w'.cell? ⟨ub,uoff+j*4+1,none⟩=some (.int .i64 (tp:Int))∧w'.cell? ⟨ub,uoff+j*4+2,none⟩=some (.int .i64 (tk:Int))∧w'.cell? ⟨ub,uoff+j*4+3,none⟩=some (.int .i64 tv))) (by kernel_rfl) ?_
   refine Rh.tp 17 0 hS0 ?_
   refine Rh.tp 18 1 hS0 ?_
   refine Rh.tp 19 2 hS0 ?_
   refine Rh.tp 20 3 hS0 ?_
   refine Rh.tp 21 4 hS0 ?_
   refine Rh.tp 22 5 hS0 ?_
   refine Rh.tp 23 6 hS0 ?_
   refine Rh.tp 24 7 hS0 ?_
   refine Rh.tp 25 8 hS0 ?_
   refine Rh.tp 26 9 hS0 ?_
   refine Rh.tp 27 10 hS0 ?_
   refine Rh.tp 28 11 hS0 ?_
   refine Rh.tp 29 12 hS0 ?_
   refine Rh.tp 30 13 hS0 ?_
   refine Rh.tp 31 14 hS0 ?_
   refine Rh.tp 32 15 hS0 ?_
   refine Rh.tp 33 16 hS0 ?_
   refine Rh.tp 34 17 hS0 ?_
   refine Rh.tp 35 18 hS0 ?_
   refine Rh.tp 36 19 hS0 ?_
   refine Rh.tp 37 20 hS0 ?_
   refine Rh.tp 38 21 hS0 ?_
   refine Rh.tp 39 22 hS0 ?_
   refine Rh.tp 40 23 hS0 ?_
   refine Rh.tp 41 24 hS0 ?_
   refine Rh.tp 42 25 hS0 ?_
   refine Rh.tp 43 26 hS0 ?_
   refine Rh.tp 44 27 hS0 ?_
   refine Rh.tp 45 28 hS0 ?_
   refine Rh.tp 46 29 hS0 ?_
   refine Rh.tp 47 30 hS0 ?_
   refine Rh.tp 48 31 hS0 ?_
   refine Rh.tp 49 32 hS0 ?_
   refine Rh.tp 50 33 hS0 ?_
   refine Rh.tp 51 34 hS0 ?_
   refine Rh.tp 52 35 hS0 ?_
   refine Rh.tp 53 36 hS0 ?_
   refine Rh.tp 54 37 hS0 ?_
   refine Rh.tp 55 38 hS0 ?_
   refine Rh.tp 56 39 hS0 ?_
   refine Rh.tp 57 40 hS0 ?_
   refine Rh.tp 58 41 hS0 ?_
   refine Rh.tp 59 42 hS0 ?_
   refine Rh.tp 60 43 hS0 ?_
   refine Rh.tp 61 44 hS0 ?_
   refine Rh.tp 62 45 hS0 ?_
   refine Rh.tp 63 46 hS0 ?_
   refine Rh.tp 64 47 hS0 ?_
   refine Rh.tp 65 48 hS0 ?_
   refine Rh.tp 66 49 hS0 ?_
   refine Rh.done (by kernel_rfl) ?_ _
   go_wp2
   go_roundg (gk-1)
   case measure=>exact HGG.out.2
   case rel=>exact ⟨j+1,rfl,HGG.out.1,HB2⟩
  ·have ek:j=K:=by omega
   subst ek
   have hji:decide ((j:Int)<(j:Int))=false:=by simp
   go_wp2
   go_ret
   exact ⟨rfl,HBW.out⟩
end Ne
end Go.Proofs.YtoadkckceladgaaGreat
