/-
  Gwd, Routed, Flv
-/
import Derived.Test.YthhlfphnokdfaaaGreatBc9
import Derived.Test.YthhlfphnokdfaaaGreatBc8
import Derived.Test.YthhlfphnokdfaaaGreatBc5
import Derived.Test.YthhlfphnokdfaaaGreatBc2
import Derived.Test.YthhlfphnokdfaaaGreatBc14
set_option linter.unusedVariables false
set_option linter.unusedSimpArgs false
set_option maxRecDepth 100000
set_option maxHeartbeats 4000000
namespace Go.Proofs.YthhlfphnokdfaaaGreat
open Go.ChangeShapes Go.WideShapes Go.ChangeAt Go.RowKit
open Lib (hid)
namespace Ne
theorem walked_any (n:Net) (ao:Option Addr) (cap:Nat) (fo:Option Addr) (fc:Nat) (f:List Int) (raw:Int) (w:World) (hr:ARow w ao n.l) (hf:IRow w fo f) (hc:checkN n=0) (hfl:f.length=n.l.length) (hraw:in64 raw) :
  Calls Tryz.prog 32 #[encN n ao cap,.slice fo f.length fc,.int .i64 raw] w fun e w'=>∃ v,e=.returned v∧OwnI w' w.heap.size v (encW (walkN n f raw))∧Below w.heap.size w w':=by
 have RT:=right_of hc
 have A1:=hid RT.fr0
 have A2:=hid RT.fr1
 have A3:=hid RT.to0
 have A4:=hid RT.to1
 have hN0:=RT.n0
 have hN1:=RT.n1
 have hL:=RT.len
 have hs0:=RT.s0
 have hs1:=RT.s1
 have HWN:=hid (show walkN n f raw=goN n.l f raw n.t (n.n.toNat+2) ((List.replicate (n.n.toNat+1) false).set n.s.toNat true) n.s [] from rfl)
 generalize walkN n f raw=R at *
 clear RT hc
 obtain ⟨nn,ns,nt,l⟩:=n
 simp only at hr hfl A1 A2 A3 A4 hN0 hN1 hL hs0 hs1 HWN ⊢
 obtain ⟨N,rfl⟩:∃ N:Nat,nn=(N:Int):=⟨nn.toNat,by omega⟩
 obtain ⟨sn,rfl⟩:∃ s:Nat,ns=(s:Int):=⟨ns.toNat,by omega⟩
 rw [Int.toNat_natCast,Int.toNat_natCast] at HWN
 have HLE:=hid hfl
 rw [hfl]
 have HR:=hid hr
 have HF:=hid hf
 have HRW:=hid hraw
 obtain ⟨hraw0,hraw1⟩:=hraw
 clear hr hf hfl
 have hmk:=make_b (N+1) (by omega)
 rw [show ((N+1:Nat):Int)=(N:Int)+1 by omega] at hmk
 have hsl:sn<N+1:=by omega
 have hsI:(sn:Int)<(N:Int)+1:=by omega
 have HN0:=hid (netBox_new w N sn nt (.slice ao l.length cap))
 have HB0:=hid ((Below.refl w.heap.size w).alloc (Nat.le_refl _) (.cells #[.int .i64 (N:Int),.int .i64 (sn:Int),.int .i64 nt,.slice ao l.length cap] 27))
 have HZ0:(w.alloc (.cells #[.int .i64 (N:Int),.int .i64 (sn:Int),.int .i64 nt,.slice ao l.length cap] 27)).heap.size=w.heap.size+1:=by simp
 have HM0:=hid (bbox_made (w.alloc (.cells #[.int .i64 (N:Int),.int .i64 (sn:Int),.int .i64 nt,.slice ao l.length cap] 27)) (N+1) (b:=w.heap.size+1) HZ0.symm)
 obtain ⟨n0,n1,n2,n3⟩:=netBox_cells HN0.out
 obtain ⟨m0,m1,m2,m3⟩:=netBox_cells (netBox_alloc HN0.out (.cells (madeCells #[.bool false] (N+1)) 4))
 have e0:=HM0.out.cell (i:=sn) (by simp;omega)
 rw [replB_false] at e0
 have z0:=HM0.out.frozen sn
 have HM1:=hid (HM0.out.set (i:=sn) (by simp;omega) true)
 have HN1:=hid (netBox_other (netBox_alloc HN0.out (.cells (madeCells #[.bool false] (N+1)) 4)) (b2:=w.heap.size+1) (o:=sn) (v2:=.bool true) (by omega))
 have HB1:=hid ((HB0.out.alloc (by omega) (.cells (madeCells #[.bool false] (N+1)) 4)).setCell (p:=⟨w.heap.size+1,sn,none⟩) (by simp) (.bool true))
 have HZ1:=hid (show w.heap.size+2≤(((w.alloc (.cells #[.int .i64 (N:Int),.int .i64 (sn:Int),.int .i64 nt,.slice ao l.length cap] 27)).alloc (.cells (madeCells #[.bool false] (N+1)) 4)).setCell ⟨w.heap.size+1,sn,none⟩ (.bool true)).heap.size by simp [World.setCell])
 have HML:=hid (show ((List.replicate (N+1) false).set sn true).length=N+1 by simp)
 have HUN:=hid (show unmet ((List.replicate (N+1) false).set sn true)≤N by
  have:=unmet_set (met:=List.replicate (N+1) false) (i:=sn) (by simp;omega) (replB_false _ _)
  have h2:unmet (List.replicate (N+1) false)=N+1:=by unfold unmet;rw [List.countP_replicate];simp
  omega)
 generalize (List.replicate (N+1) false).set sn true=met0 at *
 rw [World.setCell_alloc_at (w:=w.alloc (.cells #[.int .i64 (N:Int),.int .i64 (sn:Int),.int .i64 nt,.slice ao l.length cap] 27)) (madeCells #[.bool false] (N+1)) 4 (w.heap.size+1) sn (.bool true) HZ0.symm] at HM1 HN1 HB1 HZ1
 clear HM0 HN0 HB0
 go_enter Tryz.func32,Tryz.ntmps32
 go_wp2
 generalize ((w.alloc (.cells #[.int .i64 (N:Int),.int .i64 (sn:Int),.int .i64 nt,.slice ao l.length cap] 27)).alloc (.cells ((madeCells #[.bool false] (N+1)).setIfInBounds sn (.bool true)) 4))=W1 at *
 clear n0 n1 n2 n3 m0 m1 m2 m3 e0 z0 HZ0 hmk
 obtain ⟨bm,hbm⟩:∃ b,b=w.heap.size+1:=⟨_,rfl⟩
 rw [← hbm] at HM1 ⊢
 have hbm0:w.heap.size<bm:=by omega
 have HZM:Hid (bm<W1.heap.size):=hid (by have:=HZ1.out;omega)
 clear hbm HZ1
 go_loopw [8,9] (fun su sv wr=>∃ (u:Int) (wk:List Nat) (met:List Bool) (fuel:Nat) (v:Value),su=.int .i64 u∧v=sv∧1≤u∧u≤N∧met.length=N+1∧unmet met<fuel∧wk.length+unmet met≤N+1 ∧
  Hid (OwnI wr (bm+1) v (encW wk))∧Hid (BBox wr bm met)∧Hid (NetBox wr w.heap.size N sn nt (.slice ao l.length cap))∧Hid (Below w.heap.size w wr)∧Hid (bm<wr.heap.size)∧Hid (R=goN l f raw nt fuel met u wk)) (fun _ sv _=>N+1-lenOf sv)
 case atStart=>exact ⟨(sn:Int),[],met0,N+2,_,rfl,rfl,hs0,hs1,HML.out,by have:=HUN.out;omega,by have:=HUN.out;simp;omega,hid (Rw.own_nil _ _),HM1,HN1,HB1,HZM,HWN⟩
 case round =>
  obtain ⟨u,wk,met,fuel,v,rfl,rfl,hu0,hu1,hml,hun,hwl,HO,HM,HN,HB,HZ,HG⟩:=hrel
  clear HM1 HN1 HB1 HZM HWN HML HUN hs0 hs1
  obtain ⟨ow,cw,hv,_,_,_,_⟩:=Rw.own_row encI_len HO.out
  rw [encW_len] at hv
  subst hv
  have HMLN:=hid hml
  have HUM:=hid hun
  have HWL:=hid hwl
  have hwN:wk.length≤N+1:=by omega
  clear hml hun hwl
  obtain ⟨n0,n1,n2,n3⟩:=netBox_cells HN.out
  by_cases c:u=nt
  ·have c':(u == nt)=true:=by simpa using c
   have cn:(u != nt)=false:=by simpa using c
   have HE:=hid (show R=wk by
    rw [HG.out]
    obtain ⟨fu,rfl⟩:∃ k,fuel=k+1:=⟨fuel-1,by have:=HUM.out;omega⟩
    unfold goN;rw [if_pos c])
   have HOE:=hid (Rw.own_base HO.out (B':=w.heap.size) (by omega))
   clear c
   go_wp2
   go_ret
   exact ⟨_,rfl,by rw [HE.out];exact HOE.out,HB.out⟩
  have c':(u == nt)=false:=by simpa using c
  have cn:(u != nt)=true:=by simpa using c
  obtain ⟨WX,hWX⟩:∃ x,x=wr:=⟨_,rfl⟩
  have HOX:=hid (show OwnI WX (bm+1) (.slice ow wk.length cw) (encW wk) from hWX▸HO.out)
  have HMX:=hid (show BBox WX bm met from hWX▸HM.out)
  have HNX:=hid (show NetBox WX w.heap.size N sn nt (.slice ao l.length cap) from hWX▸HN.out)
  have HBX:=hid (show Below w.heap.size w WX from hWX▸HB.out)
  have HZX:=hid (show bm<WX.heap.size from hWX▸HZ.out)
  have HST0:=hid (show Below WX.heap.size WX wr from hWX▸Below.refl _ _)
  have HC:=hid c
  clear hWX HO HM HN HB HZ c
  go_wp2
  clear n0 n1 n2 n3
  go_loopw [10,11] (fun sf si wr=>∃ (j:Nat) (v:Value),si=.int .i64 j∧v=sf∧j≤l.length∧Hid (OwnI wr WX.heap.size v (encW (fitL l f met u j)))∧Hid (Below WX.heap.size WX wr)) (fun _ si _=>l.length-(intOf si).toNat)
  case atStart=>exact ⟨0,_,rfl,rfl,Nat.zero_le _,hid (by rw [fitL_zero];exact Rw.own_nil _ _),HST0⟩
  case round =>
   obtain ⟨j,v,rfl,rfl,hj,HOF,HBW⟩:=hrel
   clear HST0
   have HNJ:=hid (netBox_below HNX.out HBW.out (netBox_lt HNX.out))
   obtain ⟨n0,n1,n2,n3⟩:=netBox_cells HNJ.out
   have hszx:=HBW.out.size
   have hzx:=HZX.out
   by_cases hlt:j<l.length
   ·have HRJ:=hid ((HR.out.kept HBX.out).kept HBW.out)
    have HFJ:=hid ((HF.out.kept HBX.out).kept HBW.out)
    obtain ⟨b,off,rfl,hbl,c0,c1,c2⟩:=arow_cell HRJ.out hlt
    obtain ⟨b2,off2,rfl,hbl2,d0⟩:=irow_cell HFJ.out (i:=j) (by have:=HLE.out;omega)
    have q3:=A3.out j hlt
    have q4:=A4.out j hlt
    obtain ⟨tn,htn⟩:∃ t:Nat,(arcAt l j).to=(t:Int):=⟨(arcAt l j).to.toNat,by omega⟩
    have htl:tn<met.length:=by have:=HMLN.out;omega
    have htI:(tn:Int)<(N:Int)+1:=by omega
    have e0:=(HMX.out.kept HBW.out).cell htl
    have HFS:=hid (fitL_succ l f met u j)
    rw [htn,Int.toNat_natCast] at HFS
    rw [htn] at c1
    have hji:(j:Int)<(l.length:Int):=by omega
    have hj0:(0:Int)≤(j:Int):=by omega
    have HFL:=hid (fitL_len l f met u j)
    generalize met.getD tn false=mb at *
    generalize amt f j=x at *
    generalize (arcAt l j).cap=ca at *
    generalize (arcAt l j).fr=fr at *
    clear q3 q4 htn
    by_cases p1:fr=u
    case neg =>
     have p1':(fr == u)=false:=by simpa using p1
     have HS2:=hid (show fitL l f met u (j+1)=fitL l f met u j by rw [HFS.out];simp [p1])
     clear p1
     go_wp2
     go_quiet (fail)
     go_wp2
     go_roundw
     case rel=>exact ⟨j+1,_,by go_num,rfl,by omega,hid (by rw [HS2.out];exact Rw.own_drewN HOF.out _),hid (below_dn HBW.out _)⟩
     case measure=>simp [intOf];omega
    have p1':(fr == u)=true:=by simpa using p1
    have HP1:=hid p1
    clear p1
    cases mb
    case true =>
     have HS2:=hid (show fitL l f met u (j+1)=fitL l f met u j by rw [HFS.out];simp)
     go_wp2
     go_quiet (fail)
     go_wp2
     go_roundw
     case rel=>exact ⟨j+1,_,by go_num,rfl,by omega,hid (by rw [HS2.out];exact Rw.own_drewN HOF.out _),hid (below_dn HBW.out _)⟩
     case measure=>simp [intOf];omega
    by_cases p2:x<ca
    case neg =>
     have p2':decide (x<ca)=false:=by simpa using p2
     have HS2:=hid (show fitL l f met u (j+1)=fitL l f met u j by rw [HFS.out];simp [p2])
     go_wp2
     go_quiet (fail)
     go_wp2
     go_roundw
     case rel=>exact ⟨j+1,_,by go_num,rfl,by omega,hid (by rw [HS2.out];exact Rw.own_drewN HOF.out _),hid (below_dn HBW.out _)⟩
     case measure=>simp [intOf];omega
    have p2':decide (x<ca)=true:=by simpa using p2
    have HS2:=hid (show encW (fitL l f met u (j+1))=encW (fitL l f met u j) ++ [(j:Int)] by rw [HFS.out,← encW_snoc];simp [p2,HP1.out])
    go_wp2
    go_quiet (fail)
    have HO3:=hid (Rw.own_alloc (Rw.own_drewN HOF.out nq) (.cells #[.int .i64 (j:Int)] 3))
    have HR3:=hid (irow_one' (wr.drewN nq) rfl (j:Int) 3)
    have HLN3:=hid (show (encW (fitL l f met u j)).length+([(j:Int)]:List Int).length≤1099511627776 by rw [encW_len];have:=HFL.out;simp;omega)
    have HB3:=hid (show Below WX.heap.size WX ((wr.drewN nq).alloc (.cells #[.int .i64 (j:Int)] 3)) from (below_dn HBW.out nq).alloc hszx _)
    have hvb:=Rw.own_block HOF.out
    go_wp2_with (at_builtin;refine Rw.app elemI encI_len encI_one rfl (.tmp 66) (.tmp 68) rfl WX.heap.size _ (encW (fitL l f met u j)) rfl HO3.out (some ⟨wr.heap.size,0,none⟩) 1 [(j:Int)] rfl ?hnn HR3.out HLN3.out ?hB ?_;(case hnn=>(intro h;cases h));(case hB=>(simp;omega));intro v4 w4 hown4 hgr4;rw [← HS2.out] at hown4;have HB4:=hid (HB3.out.grown hgr4 (by simp;omega) hvb);have HO4:=hid hown4;clear hown4 hgr4)
    go_roundw
    case rel=>exact ⟨j+1,_,by go_num,rfl,by omega,HO4,HB4⟩
    case measure=>simp [intOf];omega
   ·have ej:j=l.length:=by omega
    subst ej
    obtain ⟨of,cf,hv,_,_,_,hrf,_⟩:=Rw.own_row encI_len HOF.out
    rw [encW_len] at hv
    subst hv
    have HRF:=hid hrf
    have HBE:=hid (HBX.out.trans (HBW.out.mono HBX.out.size))
    clear hrf hlt
    by_cases d:fitL l f met u l.length=[]
    ·have HE:=hid (show R=[] by
      rw [HG.out]
      obtain ⟨fu,rfl⟩:∃ k,fuel=k+1:=⟨fuel-1,by have:=HUM.out;omega⟩
      unfold goN;rw [if_neg HC.out,if_pos d])
     have d0:(fitL l f met u l.length).length=0:=by rw [d];rfl
     generalize (fitL l f met u l.length).length=fl at *
     subst d0
     clear d
     go_wp2
     go_ret
     exact ⟨_,rfl,by rw [HE.out];exact Rw.own_nil _ _,HBE.out⟩
    have hfl0:0<(fitL l f met u l.length).length:=List.length_pos_iff.2 d
    have hfl1:=fitL_len l f met u l.length
    have hix:=pickIx_lt raw wk.length hfl0
    have hmem:=next_arc (raw:=raw) (w:=wk.length) d
    obtain ⟨K,hK⟩:∃ k,(fitL l f met u l.length).getD (pickIx raw wk.length (fitL l f met u l.length).length) 0=k:=⟨_,rfl⟩
    rw [hK] at hmem
    obtain ⟨k1,k2,k3,k4⟩:=fitL_mem hmem
    have q3:=A3.out K k1
    have q4:=A4.out K k1
    obtain ⟨tn,htn⟩:∃ t:Nat,(arcAt l K).to=(t:Int):=⟨(arcAt l K).to.toNat,by omega⟩
    rw [htn] at q3 q4 k3
    rw [Int.toNat_natCast] at k3
    have htl:tn<met.length:=by have:=HMLN.out;omega
    have htI:(tn:Int)<(N:Int)+1:=by omega
    have HUS:=hid (unmet_set htl k3)
    have HG2:=hid (show R=goN l f raw nt (fuel-1) (met.set tn true) (tn:Int) (wk ++ [K]) by
     rw [HG.out]
     obtain ⟨fu,rfl⟩:∃ k,fuel=k+1:=⟨fuel-1,by have:=HUM.out;omega⟩
     rw [goN_step HC.out d hK,htn,Int.toNat_natCast,Nat.add_sub_cancel])
    obtain ⟨bf,offf,rfl,hbf,f0⟩:=irow_cell HRF.out (i:=pickIx raw wk.length (fitL l f met u l.length).length) (by rw [encW_len];exact hix)
    rw [encW_at hix,hK] at f0
    obtain ⟨b,off,rfl,hbl,c0,c1,c2⟩:=arow_cell ((HR.out.kept HBX.out).kept HBW.out) k1
    rw [htn] at c1
    have hpk:pickN (raw.tdiv ((wk.length:Int)+1)) ((fitL l f met u l.length).length:Int)=((pickIx raw wk.length (fitL l f met u l.length).length:Nat):Int):=by
     unfold pickIx
     have:=pickN_bd (c:=raw.tdiv ((wk.length:Int)+1)) (n:=((fitL l f met u l.length).length:Int)) (by omega)
     omega
    obtain ⟨q,hq⟩:∃ q,raw.tdiv ((wk.length:Int)+1)=q:=⟨_,rfl⟩
    have hq64:in64 q:=by rw [← hq];exact in64_tdiv HRW.out (by omega)
    obtain ⟨hq0,hq1⟩:=hq64
    have hwq:IntKind.i64.wrap q=q:=by rw [IntKind.wrap_i64];omega
    have hd0:¬ ((wk.length:Int)+1=0):=by omega
    have hd1:(((wk.length:Int)+1) == 0)=false:=by simp;omega
    have hww:IntKind.i64.wrap ((wk.length:Int)+1)=(wk.length:Int)+1:=by rw [IntKind.wrap_i64];omega
    rw [hq] at hpk
    have PK:=hid fun w'=>pick_any q ((fitL l f met u l.length).length:Int) w' hq0 hq1 (by omega) (by omega)
    rw [hpk] at PK
    generalize (fitL l f met u l.length).length=fl at *
    generalize pickIx raw wk.length fl=ix at *
    have hixI:(ix:Int)<(fl:Int):=by omega
    have hix0:(0:Int)≤(ix:Int):=by omega
    have hKI:(K:Int)<(l.length:Int):=by omega
    have hK0:(0:Int)≤(K:Int):=by omega
    clear k2 k3 k4 hmem hK d hpk
    have HOW:=hid (Rw.own_below HOX.out HBW.out)
    have HO3:=hid (Rw.own_alloc HOW.out (.cells #[.int .i64 (K:Int)] 3))
    have HR3:=hid (irow_one' wr rfl (K:Int) 3)
    have HLN3:=hid (show (encW wk).length+([(K:Int)]:List Int).length≤1099511627776 by rw [encW_len];simp;omega)
    have HVB:=hid (Rw.own_block HOW.out)
    have HMJ:=hid ((HMX.out.kept HBW.out).alloc (.cells #[.int .i64 (K:Int)] 3))
    have HNA:=hid (netBox_alloc HNJ.out (.cells #[.int .i64 (K:Int)] 3))
    have HBA:=hid (HBE.out.alloc HBE.out.size (.cells #[.int .i64 (K:Int)] 3))
    have HZA:=hid (show bm<(wr.alloc (.cells #[.int .i64 (K:Int)] 3)).heap.size by simp;omega)
    have HK1:=hid k1
    have HTN:=hid htl
    have HT1:=hid (show (arcAt l K).to=(tn:Int) from htn)
    clear htn
    go_wp2_with fail
    refine (PK.out _).mono ?_
    rintro e w' ⟨rfl,rfl⟩
    go_wp2_with (at_builtin;refine Rw.app elemI encI_len encI_one rfl (.tmp 84) (.tmp 86) rfl (bm+1) _ (encW wk) rfl HO3.out (some ⟨wr.heap.size,0,none⟩) 1 [(K:Int)] rfl ?hnn HR3.out HLN3.out ?hB ?_;(case hnn=>(intro h;cases h));(case hB=>(exact HZA.out));intro v4 w4 hown4 hgr4;rw [← encW_snoc] at hown4;have HM4:=hid (HMJ.out.grown hgr4 (fun h=>by have:=HVB.out _ h.symm;omega));have HN4:=hid (netBox_grown HNA.out hgr4 (fun h=>by have:=HVB.out _ h.symm;omega));have HB4:=hid (HBA.out.grown hgr4 (Nat.le_trans HBE.out.size (by simp)) (fun b hb=>by have:=HVB.out _ hb;omega));have HZ4:=hid (Nat.lt_of_lt_of_le HZA.out hgr4.size);have HO4:=hid hown4;clear hown4 hgr4;obtain ⟨n0,n1,n2,n3⟩:=netBox_cells HN4.out;obtain ⟨_,_,e4,_,g0,g1,g2⟩:=arow_cell (HR.out.kept HB4.out) HK1.out;cases e4;rw [HT1.out] at g1;have m0:=HM4.out.cell HTN.out;have z0:=HM4.out.frozen tn)
    have HM5:=hid (HM4.out.set HTN.out true)
    have HN5:=hid (netBox_other HN4.out (b2:=bm) (o:=tn) (v2:=.bool true) (by omega))
    have HB5:=hid (HB4.out.setCell (p:=⟨bm,tn,none⟩) (by show w.heap.size≤bm;omega) (.bool true))
    have HO5:=hid (Rw.own_set HO4.out (p:=⟨bm,tn,none⟩) (fun h=>by have:=Rw.own_block HO4.out _ h;simp only at this;omega) (.bool true))
    have HZ5:=hid (show bm<(w4.setCell ⟨bm,tn,none⟩ (.bool true)).heap.size by have:=HZ4.out;simpa [World.setCell] using this)
    have hlen5:lenOf v4=wk.length+1:=by
     obtain ⟨_,_,hv4,_⟩:=Rw.own_row encI_len HO4.out
     rw [hv4];simp [lenOf,encW_len]
    have HU5:=hid (show unmet (met.set tn true)<fuel-1 by have:=HUS.out;have:=HUM.out;omega)
    have HW5:=hid (show (wk ++ [K]).length+unmet (met.set tn true)≤N+1 by have:=HUS.out;have:=HWL.out;simp;omega)
    have HL5:=hid (show (met.set tn true).length=N+1 by simpa using HMLN.out)
    have hw6:wk.length+1≤N+1:=by have:=HUS.out;have:=HWL.out;omega
    clear m0 z0 g0 g1 g2 n0 n1 n2 n3
    go_roundw
    case rel=>exact ⟨(tn:Int),wk ++ [K],met.set tn true,fuel-1,v4,rfl,rfl,by omega,by omega,HL5.out,HU5.out,HW5.out,HO5,HM5,HN5,HB5,HZ5,HG2⟩
    case measure=>simp only [lenOf] at hlen5 ⊢;omega
end Ne
namespace Ne
theorem cap_top' {n:Net} (hR:Right n) {i:Nat} (hi:i<n.l.length):(arcAt n.l i).cap≤4611686018427387903:=by
 have e:capS n.l (i+1)≤capS n.l n.l.length:=sumTo_mono hR.cap0 (by omega)
 have e2:0≤capS n.l i:=sumTo_nn fun j hj=>hR.cap0 j (by omega)
 have e3:capS n.l (i+1)=capS n.l i+(arcAt n.l i).cap:=rfl
 have:=hR.sum
 omega
theorem irow_ofI {w:World} {B n c:Nat} {o:Option Addr} {l:List Int} (h:OwnI w B (.slice o n c) l):IRow w o l:=by
 obtain ⟨ao,cap,h1,_,_,_,h5,_⟩:=Rw.own_row encI_len h
 simp only [Value.slice.injEq] at h1
 obtain ⟨rfl,_,rfl⟩:=h1
 exact h5
theorem routed_any (n:Net) (ao:Option Addr) (cap:Nat) (ko:Option Addr) (kc:Nat) (ks:List Int) (w:World) (hr:ARow w ao n.l) (hk:IRow w ko ks) (hc:checkN n=0) (hks:∀ x∈ks,-9223372036854775808≤x∧x≤9223372036854775807) :
  Calls Tryz.prog 16 #[encN n ao cap,.slice ko ks.length kc] w fun e w'=>∃ b,e=.returned (.slice (some ⟨b,0,none⟩) n.l.length n.l.length)∧w.heap.size≤b∧LBox w' b (routeN n ks)∧Below w.heap.size w w':=by
 have RT:=right_of hc
 have hL:=RT.len
 have hN0:=RT.n0
 have HCAP:=hid (fun i h=>cap_top' RT (i:=i) h)
 have HFL:=hid (fun j=>routeJ_flow RT ks j)
 have HJS:=hid (fun j x h=>routeJ_succ n (ks:=ks) (j:=j) (x:=x) h)
 have HJA:=hid (fun j h=>routeJ_all (n:=n) (ks:=ks) (j:=j) h)
 have HJ0:=hid (show routeJ n ks 0=List.replicate n.l.length 0 from rfl)
 have WD0:=hid (fun (F:List Int) hF (x:Int) w' h1 o2 c2 h2 h3=>walked_any n ao cap o2 c2 F x w' h1 h2 hc hF h3)
 have HLD:=hid (fun (j:Nat) raw m0 hm=>led RT (routeJ_flow RT ks j) raw m0 hm)
 have HSR:=hid (fun (F:List Int) raw=>show stepR n F raw=addN (mostN n.l F (pickN raw 30+1) (walkN n F raw)) F (walkN n F raw) from rfl)
 have HLEN:=hid (fun (j:Nat)=>(routeJ_flow RT ks j).len)
 generalize routeJ n ks=RJ at *
 generalize routeN n ks=RN at *
 have HM:=hid (show ∃ W:List Int→Int→List Nat,W=walkN n from ⟨_,rfl⟩)
 obtain ⟨WK,hWK⟩:=HM.out
 rw [← hWK] at WD0 HLD HSR
 obtain ⟨ST,hST⟩:∃ S:List Int→Int→List Int,S=stepR n:=⟨_,rfl⟩
 rw [← hST] at HJS HSR
 clear hWK HM hST RT hc HFL
 obtain ⟨nn,ns,nt,l⟩:=n
 simp only at hr hL hN0 HCAP HJS HJA HJ0 WD0 HSR HLEN ⊢
 obtain ⟨N,rfl⟩:∃ N:Nat,nn=(N:Int):=⟨nn.toNat,by omega⟩
 have HR:=hid hr
 have HK:=hid hk
 have HKS:=hid hks
 clear hr hk hks
 have hmk:=make_l l.length (by omega)
 have HN0:=hid (netBox_new w N ns nt (.slice ao l.length cap))
 have HB0:=hid ((Below.refl w.heap.size w).alloc (Nat.le_refl _) (.cells #[.int .i64 (N:Int),.int .i64 ns,.int .i64 nt,.slice ao l.length cap] 27))
 have HZ0:(w.alloc (.cells #[.int .i64 (N:Int),.int .i64 ns,.int .i64 nt,.slice ao l.length cap] 27)).heap.size=w.heap.size+1:=by simp
 have HL1:=hid (lbox_made (w.alloc (.cells #[.int .i64 (N:Int),.int .i64 ns,.int .i64 nt,.slice ao l.length cap] 27)) l.length (b:=w.heap.size+1) HZ0.symm)
 have HN1:=hid (netBox_alloc HN0.out (.cells (madeCells #[.int .i64 0] l.length) 2))
 have HB1:=hid (HB0.out.alloc (by omega) (.cells (madeCells #[.int .i64 0] l.length) 2))
 rw [← HJ0.out] at HL1
 have HZ1:=hid (show w.heap.size+2≤((w.alloc (.cells #[.int .i64 (N:Int),.int .i64 ns,.int .i64 nt,.slice ao l.length cap] 27)).alloc (.cells (madeCells #[.int .i64 0] l.length) 2)).heap.size by simp)
 obtain ⟨n0,n1,n2,n3⟩:=netBox_cells HN0.out
 clear HN0 HB0
 go_enter Tryz.func16,Tryz.ntmps16
 go_wp2
 generalize ((w.alloc (.cells #[.int .i64 (N:Int),.int .i64 ns,.int .i64 nt,.slice ao l.length cap] 27)).alloc (.cells (madeCells #[.int .i64 0] l.length) 2))=W1 at *
 clear n0 n1 n2 n3 HZ0 hmk
 obtain ⟨bf,hbf⟩:∃ b,b=w.heap.size+1:=⟨_,rfl⟩
 rw [← hbf] at HL1 ⊢
 have hbf0:w.heap.size<bf:=by omega
 clear hbf HZ1
 go_loopw [6] (fun si wr=>∃ j:Nat,si=.int .i64 j∧j≤8∧j≤ks.length∧Hid (LBox wr bf (RJ j))∧Hid (NetBox wr w.heap.size N ns nt (.slice ao l.length cap))∧Hid (Below w.heap.size w wr)) (fun si _=>8-(intOf si).toNat)
 case atStart=>exact ⟨0,rfl,by omega,by omega,HL1,HN1,HB1⟩
 case round =>
  obtain ⟨j,rfl,hj8,hjk,HLB,HN,HB⟩:=hrel
  clear HL1 HN1 HB1
  by_cases c:j<8∧j<ks.length
  case neg =>
   have HE:=hid (show RJ j=RN from HJA.out j (by omega))
   rw [HE.out] at HLB
   have hcs:¬ (j:Int)<(ks.length:Int)∨((j:Int)<(ks.length:Int)∧¬ (j:Int)<8):=by omega
   clear c
   rcases hcs with h1 | ⟨h1,h2⟩
   ·go_wp2
    go_ret
    exact ⟨bf,rfl,by omega,HLB.out,HB.out⟩
   ·go_wp2
    go_ret
    exact ⟨bf,rfl,by omega,HLB.out,HB.out⟩
  obtain ⟨cj8,cjk⟩:=c
  have hj1:(j:Int)<(ks.length:Int):=by omega
  have hj2:(j:Int)<8:=by omega
  have hj0:(0:Int)≤(j:Int):=by omega
  obtain ⟨x,hx⟩:∃ x,ks[j]? = some x:=⟨_,List.getElem?_eq_getElem cjk⟩
  have hxb:=HKS.out x (List.mem_of_getElem? hx)
  have HX64:=hid (show in64 x from hxb)
  have HJ1:=hid (HJS.out j x hx)
  obtain ⟨bk,offk,rfl,hbk,d0⟩:=irow_cell HK.out cjk
  rw [amt_of hx] at d0
  replace d0:=(HB.out.cell (p:=⟨bk,offk+j,none⟩) hbk).trans d0
  have hbk2:bk<wr.drew.heap.size:=Nat.lt_of_lt_of_le hbk HB.out.size
  have hbl:w.heap.size<wr.drew.heap.size:=netBox_lt HN.out
  have hbfl:bf<wr.drew.heap.size:=HLB.out.lt
  have HRJ:=hid (show ARow wr.drew ao l from (HR.out.kept (below_drew HB.out)))
  have HLJ:=hid (show LBox wr.drew bf (RJ j) from HLB.out)
  have hln:=HLEN.out j
  have bp:=pickN_bd (c:=x) (n:=30) (by omega)
  have HLDJ:=hid (HLD.out j x (pickN x 30+1) (by omega))
  have HSRJ:=hid (HSR.out (RJ j) x)
  have WD:=hid (fun w' h1 h2=>WD0.out (RJ j) hln x w' h1 (some ⟨bf,0,none⟩) l.length h2 HX64.out)
  rw [hln] at WD
  have P30:=hid fun w'=>pick_any x 30 w' hxb.1 hxb.2 (by omega) (by omega)
  generalize pickN x 30=px at *
  have HLNJ:=hid hln
  clear hx hln hxb HJS HJA HSR HLEN HLD WD0 HJ0
  obtain ⟨n0,n1,n2,n3⟩:=netBox_cells HN.out
  generalize WK (RJ j) x=R at *
  go_wp2
  have hS0:=(show (fun w'=>w'.cell? ⟨w.heap.size,0,none⟩=some (.int .i64 (N:Int))∧w'.cell? ⟨w.heap.size,1,none⟩=some (.int .i64 ns)∧w'.cell? ⟨w.heap.size,2,none⟩=some (.int .i64 nt)∧w'.cell? ⟨w.heap.size,3,none⟩=some (.slice ao l.length cap)∧w'.cell? ⟨bk,offk+j,none⟩=some (.int .i64 x)) wr.drew from ⟨n0,n1,n2,n3,d0⟩)
  refine Rh.start (S:=(fun w'=>w'.cell? ⟨w.heap.size,0,none⟩=some (.int .i64 (N:Int))∧w'.cell? ⟨w.heap.size,1,none⟩=some (.int .i64 ns)∧w'.cell? ⟨w.heap.size,2,none⟩=some (.int .i64 nt)∧w'.cell? ⟨w.heap.size,3,none⟩=some (.slice ao l.length cap)∧w'.cell? ⟨bk,offk+j,none⟩=some (.int .i64 x))) (by kernel_rfl) ?_
  refine Rh.tp 25 0 hS0 ?_
  refine Rh.tp 26 1 hS0 ?_
  refine Rh.tp 27 2 hS0 ?_
  refine Rh.tp 28 3 hS0 ?_
  refine Rh.tp 29 4 hS0 ?_
  refine Rh.tp 30 5 hS0 ?_
  refine Rh.step (i:=6) (by kernel_rfl) rfl fun K' hK'=>?_
  have HK:=hid hK'
  clear hK'
  go_simp
  refine (WD.out wr.drew HRJ.out HLJ.out.irow).mono ?_
  rintro e w2 ⟨v,rfl,hov,hb⟩
  have hS1:=(show (fun w'=>w'.cell? ⟨w.heap.size,0,none⟩=some (.int .i64 (N:Int))∧w'.cell? ⟨w.heap.size,1,none⟩=some (.int .i64 ns)∧w'.cell? ⟨w.heap.size,2,none⟩=some (.int .i64 nt)∧w'.cell? ⟨w.heap.size,3,none⟩=some (.slice ao l.length cap)∧w'.cell? ⟨bk,offk+j,none⟩=some (.int .i64 x)) w2 from ⟨(hb.cell (p:=⟨w.heap.size,0,none⟩) hbl).trans n0,(hb.cell (p:=⟨w.heap.size,1,none⟩) hbl).trans n1,(hb.cell (p:=⟨w.heap.size,2,none⟩) hbl).trans n2,(hb.cell (p:=⟨w.heap.size,3,none⟩) hbl).trans n3,(hb.cell (p:=⟨bk,offk+j,none⟩) hbk2).trans d0⟩)
  obtain ⟨ow,cw,hv,_,_,_,_⟩:=Rw.own_row encI_len hov
  rw [encW_len] at hv
  subst hv
  refine HK.out _ _ ⟨hS1,?_⟩
  clear HK K'
  try simp only [Act.put,Rh.q1,Rh.q2,Rh.q3]
  refine Rh.tp 7 7 hS1 ?_
  refine Rh.done (by kernel_rfl) ?_ _
  have HB2:=hid ((below_drew HB.out).trans (hb.mono HB.out.size))
  have HL2:=hid (HLJ.out.kept hb)
  have HN2:=hid (netBox_below (w:=wr.drew) HN.out hb hbl)
  have HO2:=hid (Rw.own_base hov (B':=bf+1) (by omega))
  have d2:=hS1.2.2.2.2
  clear hS0 hS1 hb hov n0 n1 n2 n3 d0
  go_wp2_with fail
  refine (P30.out _).mono ?_
  rintro e w' ⟨rfl,rfl⟩
  obtain ⟨m0,hm0⟩:∃ m,px+1=m:=⟨_,rfl⟩
  rw [hm0] at HLDJ HSRJ
  have hwm:IntKind.i64.wrap (px+1)=m0:=by rw [IntKind.wrap_i64];omega
  have hm30:m0≤30:=by omega
  have hm00:0≤m0:=by omega
  go_wp2
  have HRW:=hid (show ARow w ao l from HR.out)
  have HXM0:=hid (show m0=mostN l (RJ j) m0 (R.take 0) from rfl)
  have HQ1:=hid HLDJ.out.arc
  have HQ2:=hid HLDJ.out.amt0
  have HQ3:=hid HLDJ.out.most
  have HQ4:=hid HLDJ.out.room
  have HQ5:=hid HLDJ.out.now
  have hRl:=HLDJ.out.len
  simp only at HQ1 HQ2 HQ3 HQ4 hRl
  clear HLDJ P30 WD hwm hm0 HRJ HLJ HN HLB HB hbk hbk2 hbl d2 bp
  generalize RJ j=F at *
  go_loopw [8,9] (fun sm sq wr=>∃ (q:Nat) (m:Int),sm=.int .i64 m∧sq=.int .i64 q∧q≤R.length∧0≤m∧m≤30∧Hid (m=mostN l F m0 (R.take q))∧Hid (LBox wr bf F)∧Hid (NetBox wr w.heap.size N ns nt (.slice ao l.length cap))∧Hid (OwnI wr (bf+1) (.slice ow R.length cw) (encW R))∧Hid (Below w.heap.size w wr)) (fun _ sq _=>R.length-(intOf sq).toNat)
  case atStart=>exact ⟨0,m0,rfl,rfl,Nat.zero_le _,by omega,by omega,HXM0,HL2,HN2,HO2,HB2⟩
  case round =>
   obtain ⟨q,m,rfl,rfl,hq,hm0,hm1,HMQ,HL,HN,HO,HB⟩:=hrel
   clear HXM0 HL2 HN2 HO2 HB2
   by_cases hlt:q<R.length
   ·have hK:=HQ1.out q hlt
    obtain ⟨hF0,hF1⟩:=HQ2.out q hlt
    have HTK:=hid (take_getD hlt)
    have HMS:=hid (mostN_snoc l F m0 (R.take q) (R.getD q 0))
    have HM3:=HQ3.out (q+1) hlt
    rw [HTK.out,HMS.out,← HMQ.out] at HM3
    have hrw:=irow_ofI HO.out
    obtain ⟨bw,offw,rfl,hbw,w0⟩:=irow_cell hrw (i:=q) (by rw [encW_len];exact hlt)
    rw [encW_at hlt] at w0
    obtain ⟨b,off,rfl,hba,c0,c1,c2⟩:=arow_cell (HR.out.kept HB.out) hK
    have hlf:R.getD q 0<F.length:=by have:=HLNJ.out;omega
    have f0:=HL.out.cell hlf
    obtain ⟨n0,n1,n2,n3⟩:=netBox_cells HN.out
    have cs:=HCAP.out _ hK
    generalize R.getD q 0=K at *
    generalize amt F K=x at *
    generalize (arcAt l K).cap=ca at *
    have hmin:min m (ca-x)=if ca-x<m then ca-x else m:=by
     rw [Int.min_def]
     by_cases c:ca-x<m
     ·rw [if_pos c];by_cases d:m≤ca-x
      ·omega
      ·rw [if_neg d]
     ·rw [if_neg c,if_pos (by omega)]
    have hb0:0≤min m (ca-x)∧min m (ca-x)≤30:=by rw [hmin];omega
    have HNX:=hid (show min m (ca-x)=mostN l F m0 (R.take (q+1)) by rw [hmin,HTK.out,HMS.out,← HMQ.out])
    clear hmin HM3
    have hKI:(K:Int)<(l.length:Int):=by omega
    have hK0:(0:Int)≤(K:Int):=by omega
    have hqI:(q:Int)<(R.length:Int):=by omega
    have hq0:(0:Int)≤(q:Int):=by omega
    go_wp2
    go_region
    generalize min m (ca-x)=m2 at *
    obtain ⟨hb00,hb01⟩:=hb0
    go_wp2
    go_roundw
    case rel=>exact ⟨q+1,_,rfl,by go_num,by omega,by omega,by omega,HNX,HL,HN,HO,hid (below_drew HB.out)⟩
    case measure=>simp [intOf];omega
   ·have eq:R.take q=R:=List.take_of_length_le (by omega)
    rw [eq] at HMQ
    have hqN:¬ (q:Int)<(R.length:Int):=by omega
    clear eq hlt HQ3
    have HQ4':=hid (show ∀ q,q<R.length→amt F (R.getD q 0)+m≤(arcAt l (R.getD q 0)).cap from fun q h=>by rw [HMQ.out];exact HQ4.out q h)
    rw [← HMQ.out] at HSRJ
    have HXA:=hid (show F=addN m F (R.take 0) from rfl)
    have HAL:=hid (fun k=>addN_len m (R.take k) F)
    clear HQ4
    have HL':Hid (LBox wr bf (addN m F (R.take 0))):=HL
    clear HL HXA
    go_wp2
    clear hqN hq
    go_loopw [10] (fun sq wr=>∃ (q:Nat),sq=.int .i64 q∧q≤R.length∧Hid (LBox wr bf (addN m F (R.take q)))∧Hid (NetBox wr w.heap.size N ns nt (.slice ao l.length cap))∧Hid (OwnI wr (bf+1) (.slice ow R.length cw) (encW R))∧Hid (Below w.heap.size w wr)) (fun sq _=>R.length-(intOf sq).toNat)
    case atStart=>exact ⟨0,rfl,Nat.zero_le _,HL',HN,HO,HB⟩
    case round =>
     obtain ⟨q,rfl,hq,HL,HN,HO,HB⟩:=hrel
     by_cases hlt:q<R.length
     ·have hK:=HQ1.out q hlt
      obtain ⟨hF0,hF1⟩:=HQ2.out q hlt
      have hF2:=HQ4'.out q hlt
      have cs:=HCAP.out _ hK
      have HTK:=hid (take_getD hlt)
      have HAS:=hid (addN_snoc m F (R.take q) (R.getD q 0))
      have HNW:=hid (HQ5.out m q hlt)
      have hrw:=irow_ofI HO.out
      obtain ⟨bw,offw,rfl,hbw,w0⟩:=irow_cell hrw (i:=q) (by rw [encW_len];exact hlt)
      rw [encW_at hlt] at w0
      have hlf:R.getD q 0<(addN m F (R.take q)).length:=by rw [HAL.out];have:=HLNJ.out;omega
      have f0:=HL.out.cell hlf
      have z0:=HL.out.frozen (R.getD q 0)
      rw [HNW.out] at f0
      have HL3:=hid (HL.out.set hlf (amt F (R.getD q 0)+m))
      have HLE:=hid (show (addN m F (R.take q)).set (R.getD q 0) (amt F (R.getD q 0)+m)=addN m F (R.take (q+1)) by rw [HTK.out,HAS.out,HNW.out])
      rw [HLE.out] at HL3
      have hvb:=Rw.own_block HO.out
      have HO3:=hid (Rw.own_set HO.out (p:=⟨bf,R.getD q 0,none⟩) (fun h=>by have:=hvb _ h;simp only at this;omega) (.int .i64 (amt F (R.getD q 0)+m)))
      have HN3:=hid (netBox_other HN.out (b2:=bf) (o:=R.getD q 0) (v2:=.int .i64 (amt F (R.getD q 0)+m)) (by omega))
      have HB3:=hid (below_drew (HB.out.setCell (p:=⟨bf,R.getD q 0,none⟩) (by show w.heap.size≤bf;omega) (.int .i64 (amt F (R.getD q 0)+m))))
      generalize R.getD q 0=K at *
      generalize amt F K=x at *
      generalize (arcAt l K).cap=ca at *
      have hKI:(K:Int)<(l.length:Int):=by omega
      have hK0:(0:Int)≤(K:Int):=by omega
      have hqI:(q:Int)<(R.length:Int):=by omega
      have hq0:(0:Int)≤(q:Int):=by omega
      clear hvb hlf HL HN HO HB
      go_wp2
      go_region
      go_wp2
      go_roundw
      case rel=>exact ⟨q+1,by go_num,by omega,HL3,HN3,HO3,HB3⟩
      case measure=>simp [intOf];omega
     ·have eq:R.take q=R:=List.take_of_length_le (by omega)
      rw [eq,← HSRJ.out,← HJ1.out] at HL
      have hqN:¬ (q:Int)<(R.length:Int):=by omega
      clear eq hlt
      go_wp2
      go_roundw
      case rel=>exact ⟨j+1,by go_num,by omega,by omega,HL,HN,HB⟩
      case measure=>simp [intOf];omega
end Ne
namespace Ne
section
variable {n:Net} (ao:Option Addr) (cap:Nat) (fo:Option Addr) (fc:Nat) {f:List Int} (w:World) (ck:checkN n=0) (hr:ARow w ao n.l) (hf:IRow w fo f)
include ck hr hf
theorem val_ok (hl:f.length=n.l.length):Calls Tryz.prog 9 #[encN n ao cap,.slice fo n.l.length fc] w fun e w'=>e=.returned (.tuple #[.int .i64 (vaV n f),.int .i64 (chkF n f)])∧Below w.heap.size w w':=by
 have h:=fval_any n ao cap fo fc f w hr hf (by have:=(right_of ck).len;omega) (cap_64 (right_of ck))
 rw [hl] at h;exact h
theorem val_flow (hF:Flow n f):Calls Tryz.prog 9 #[encN n ao cap,.slice fo n.l.length fc] w fun e w'=>e=.returned (.tuple #[.int .i64 (exc n.l f n.t),.int .i64 0])∧Below w.heap.size w w':=by
 have h:=val_ok ao cap fo fc w ck hr hf hF.len
 rw [flow_vaV ck hF,flow_chkF ck hF] at h;exact h
end
end Ne
end Go.Proofs.YthhlfphnokdfaaaGreat
