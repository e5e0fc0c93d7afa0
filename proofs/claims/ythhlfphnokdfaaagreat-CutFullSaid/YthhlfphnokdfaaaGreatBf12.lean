/-
  Cbk, Nds, Cfp, Res7
-/
import Derived.Test.YthhlfphnokdfaaaGreatBf2
import Derived.Test.YthhlfphnokdfaaaGreatBf10
import Derived.Test.YthhlfphnokdfaaaGreatBf11
import Derived.Test.YthhlfphnokdfaaaGreatBf6
import Derived.Test.YthhlfphnokdfaaaGreatBf9
set_option linter.unusedVariables false
set_option linter.unusedSimpArgs false
set_option maxRecDepth 100000
set_option maxHeartbeats 4000000
namespace Go.Proofs.YthhlfphnokdfaaaGreat
open Go.ChangeShapes Go.WideShapes Go.ChangeAt Go.RowKit
open Lib (hid)
namespace Ne
theorem cbegin_any (n:Net) (ao:Option Addr) (cap:Nat) (ro:Option Addr) (rc:Nat) (f:List Int) (w:World) (hr:ARow w ao n.l) (hrm:IRow w ro (roomL n.l f (2*n.l.length))) (hR:Right n) :
  Calls Tryz.prog 43 #[encN n ao cap,.slice ro (2*n.l.length) rc] w fun e w'=>∃ lb VS,e=.returned (.slice (some ⟨lb,0,none⟩) (n.n.toNat+1) (n.n.toNat+1))∧GBox w' lb (n.n.toNat+1) VS (fun v=>behL n.l f v (2*n.l.length))∧w.heap.size≤lb∧Below w.heap.size w w':=by
 have hl:n.l.length≤1000000:=by have:=hR.len;omega
 have hLL:=hR.len
 have hN0:=hR.n0
 have hN1:=hR.n1
 have HEN:=hid (fun (j:Nat) (h:j<2*n.l.length) w' h1=>show Calls Tryz.prog 49 #[encN n ao cap,.int .i64 (j:Int)] w' fun e w2=>e=.returned (.tuple #[.int .i64 (((trF n.l j).toNat:Nat):Int),.int .i64 (((trT n.l j).toNat:Nat):Int)])∧Below w'.heap.size w' w2 by
  have:=ends_any n ao cap (j:Int) w' h1 hl (by unfold in64;omega)
  rw [enF_in h,enT_in h] at this
  have hb:=trF_bd hR h
  have hb2:=trT_bd hR h
  rwa [show (((trF n.l j).toNat:Nat):Int)=trF n.l j by omega,show (((trT n.l j).toNat:Nat):Int)=trT n.l j by omega])
 have HTB:=hid (fun (j:Nat) (h:j<2*n.l.length)=>show (trT n.l j).toNat<n.n.toNat+1 by have:=trT_bd hR h;omega)
 have HRM:=hid (fun (j:Nat) (h:j<2*n.l.length)=>roomL_at n.l f h)
 have HLR:=hid (roomL_len n.l f (2*n.l.length))
 have HST:=hid (fun (j:Nat) (h:0<roomN n.l f j) (v:Nat)=>show (if v=(trT n.l j).toNat then behL n.l f (trT n.l j).toNat j ++ [(trF n.l j).toNat] else behL n.l f v j)=behL n.l f v (j+1) by
  by_cases e:v=(trT n.l j).toNat
  ·subst e;rw [if_pos rfl,behL_hit h rfl]
  ·rw [if_neg e,behL_miss (fun h2=>e h2.2.symm)])
 have HSM:=hid (fun (j:Nat) (h:¬ 0<roomN n.l f j) (v:Nat)=>show behL n.l f v j=behL n.l f v (j+1) from (behL_miss (fun h2=>h h2.1)).symm)
 have HFL:=hid (fun (v k:Nat)=>behL_len n.l f v k)
 have HF0:=hid (fun (v:Nat)=>behL_zero n.l f v)
 generalize behL n.l f=FL at *
 generalize roomL n.l f (2*n.l.length)=RL at *
 generalize roomN n.l f=RO at *
 generalize hTT:(fun j=>(trT n.l j).toNat)=TT at *
 generalize hTF:(fun j=>(trF n.l j).toNat)=TF at *
 have HTE:=hid (show ∀ j,(trF n.l j).toNat=TF j from fun j=>by rw [← hTF])
 have HTD:=hid (show ∀ j,(trT n.l j).toNat=TT j from fun j=>by rw [← hTT])
 clear hTF hTT
 simp only [HTE.out,HTD.out] at HEN HTB HST
 clear HTE HTD hR
 obtain ⟨nn,ns,nt,l⟩:=n
 simp only at hr hrm hl hLL hN0 hN1 HEN HTB HRM HLR ⊢
 obtain ⟨N,rfl⟩:∃ N:Nat,nn=(N:Int):=⟨nn.toNat,by omega⟩
 simp only [Int.toNat_natCast] at HTB ⊢
 have hmk:=make_r (N+1) (by omega)
 simp only [Int.natCast_add,Int.natCast_one] at hmk
 have HB0:=hid ((Below.refl w.heap.size w).alloc (Nat.le_refl _) (.cells #[.int .i64 (N:Int),.int .i64 ns,.int .i64 nt,.slice ao l.length cap] 27))
 have HN0:=hid (netBox_new w (N:Int) ns nt (.slice ao l.length cap))
 have HR:=hid hr
 have HRL:=hid hrm
 clear hr hrm
 obtain ⟨n0,n1,n2,n3⟩:=netBox_cells HN0.out
 have HZ:=hid (show (w.alloc (.cells #[.int .i64 (N:Int),.int .i64 ns,.int .i64 nt,.slice ao l.length cap] 27)).heap.size=w.heap.size+1 by simp)
 go_enter Tryz.func43,Tryz.ntmps43
 go_wp2_with fail
 have HG0:=hid (gbox_made (w.alloc (.cells #[.int .i64 (N:Int),.int .i64 ns,.int .i64 nt,.slice ao l.length cap] 27)) (N+1) (b:=w.heap.size+1) HZ.out.symm)
 have HBG:=hid (HB0.out.alloc (by rw [HZ.out];omega) (.cells (madeCells #[.slice none 0 0] (N+1)) 23))
 have HNG:=hid (netBox_alloc HN0.out (.cells (madeCells #[.slice none 0 0] (N+1)) 23))
 clear hmk n0 n1 n2 n3 HB0 HN0
 have HGX:=hid (gbox_same HG0.out (U':=fun v=>FL v 0) (fun v _=>(HF0.out _).symm))
 generalize ((w.alloc (.cells #[.int .i64 (N:Int),.int .i64 ns,.int .i64 nt,.slice ao l.length cap] 27)).alloc (.cells (madeCells #[.slice none 0 0] (N+1)) 23))=W1 at *
 obtain ⟨lb,hlb⟩:∃ lb,lb=w.heap.size+1:=⟨_,rfl⟩
 rw [← hlb] at HGX ⊢
 have HLB:=hid hlb
 clear hlb HG0 HF0 HZ
 go_loopw [16] (fun i wr=>∃ (j:Nat) (VS:Nat→Value),i=.int .i64 j∧j≤2*l.length∧Hid (GBox wr lb (N+1) VS (fun v=>FL v j))∧Hid (Below w.heap.size w wr)∧Hid (NetBox wr w.heap.size (N:Int) ns nt (.slice ao l.length cap))) (fun i _=>2*l.length-(intOf i).toNat)
 case atStart=>exact ⟨0,_,rfl,Nat.zero_le _,HGX,HBG,HNG⟩
 case round =>
  obtain ⟨j,VS,rfl,hj,HGW,HBW,HNW⟩:=hrel
  by_cases hlt:j<2*l.length
  ·obtain ⟨n0,n1,n2,n3⟩:=netBox_cells HNW.out
   have hji:(j:Int)<2*(l.length:Int):=by omega
   have hj0:(0:Int)≤(j:Int):=by omega
   obtain ⟨b9,off,rfl,hb9,d0⟩:=irow_cell (HRL.out.kept HBW.out) (show j<RL.length by rw [HLR.out];exact hlt)
   rw [HRM.out j hlt] at d0
   have EN:=hid (fun w'=>HEN.out j hlt w')
   have htb:=HTB.out j hlt
   have HSJ:=hid (HST.out j)
   have HSN:=hid (HSM.out j)
   generalize TF j=y at *
   generalize TT j=t at *
   generalize RO j=ro0 at *
   by_cases hro:0<ro0
   case neg =>
    have hro':decide (0<ro0)=false:=by simpa using hro
    have HG6:=hid (gbox_same HGW.out (U':=fun v=>FL v (j+1)) (fun v hv=>HSN.out (by omega) v))
    clear HST HSM HSJ HSN hro
    go_wp2
    go_roundw
    case rel=>exact ⟨j+1,_,by go_num,by omega,HG6,HBW,HNW⟩
    case measure=>simp [intOf];omega
   have hro':decide (0<ro0)=true:=by simpa using hro
   have HSE:=hid (HSJ.out hro)
   clear HST HSM HSJ HSN
   have hti:(t:Int)<(N:Int)+1:=by omega
   have ht0:(0:Int)≤(t:Int):=by omega
   go_wp2_with fail
   refine (EN.out _ (HR.out.kept HBW.out)).mono ?_
   rintro e w2 ⟨rfl,hb⟩
   have HB2:=hid (HBW.out.trans (hb.mono HBW.out.size))
   have HN2:=hid (netBox_below HNW.out hb (netBox_lt HNW.out))
   have HG2:=hid (HGW.out.below hb)
   have c0:=HG2.out.cell htb
   have HO3:=hid (Rw.own_alloc (HG2.out.own t htb) (.cells #[.int .i64 (y:Int)] 3))
   have HG3:=hid (HG2.out.alloc (.cells #[.int .i64 (y:Int)] 3))
   have HR3:=hid (irow_one' w2 rfl (y:Int) 3)
   have HLN:=hid (show (encW (FL t j)).length+([(y:Int)]:List Int).length≤1099511627776 by have:=HFL.out t j;rw [encW_len];simp;omega)
   have HB3:=hid (HB2.out.alloc HB2.out.size (.cells #[.int .i64 (y:Int)] 3))
   have HN3:=hid (netBox_alloc HN2.out (.cells #[.int .i64 (y:Int)] 3))
   have HL3:=hid (show lb+1≤(w2.alloc (.cells #[.int .i64 (y:Int)] 3)).heap.size by have:=HG3.out.lt;omega)
   have HVB:=hid (Rw.own_lt HO3.out)
   have hlbw:w.heap.size<lb:=by have:=HLB.out;omega
   clear hb n0 n1 n2 n3 d0
   obtain ⟨VT,hVT⟩:∃ VT,VT=VS t:=⟨_,rfl⟩
   have HVT:=hid hVT
   rw [← hVT] at c0 HO3 HVB
   clear hVT
   obtain ⟨at_,ct,hat,_,_,hnt,_,_,hat2⟩:=Rw.own_row encI_len HO3.out
   subst hat
   go_wp2_with (at_builtin;refine Rw.appAt elemI encI_len encI_one rfl (.tmp 34) (.tmp 36) rfl (lb+1) _ (encW (FL t j)) rfl HO3.out ⟨w2.heap.size,0,none⟩ 1 [(y:Int)] rfl HR3.out HLN.out ?hB ?_;(case hB=>(exact HL3.out));intro v4 w4 hown4 hgr4 hat4;rw [← encW_snoc] at hown4;obtain ⟨o4,c4v,hv4,_,_,_,_⟩:=Rw.own_row encI_len hown4;rw [encW_len,List.length_append,List.length_singleton] at hv4;subst hv4;have HO4:=hid hown4;have HGR:=hid hgr4;have HA4:=hid hat4;have f4:w4.frozen? ⟨lb,t,none⟩=false:=World.rowIs.frozen (World.rowIs.of_block HG3.out.row (hgr4.block lb HG3.out.lt (fun e=>by have:=(HVB.out lb e.symm).1;omega))) t;have c4:=World.rowIs.cell (World.rowIs.of_block HG3.out.row (hgr4.block lb HG3.out.lt (fun e=>by have:=(HVB.out lb e.symm).1;omega))) htb;clear hown4 hgr4 hat4)
   have HG5:=hid (GBox.put HG3.out htb (u:=FL t j ++ [y]) (by rw [← HVT.out];exact HGR.out) HO4.out (by rw [← HVT.out];exact HA4.out))
   have HG6:=hid (gbox_same HG5.out (U':=fun v=>FL v (j+1)) (fun v hv=>HSE.out v))
   have HB4:=hid (HB3.out.grown HGR.out HB3.out.size (fun b hb=>by have:=(HVB.out b hb).1;omega))
   have HN4:=hid (netBox_grown HN3.out HGR.out (fun e=>by have:=(HVB.out _ e.symm).1;omega))
   have HB5:=hid (HB4.out.setCell (p:=⟨lb,t,none⟩) (by show w.heap.size≤lb;omega) (.slice o4 ((FL t j).length+1) c4v))
   have HN5:=hid (netBox_other HN4.out (b2:=lb) (o:=t) (v2:=.slice o4 ((FL t j).length+1) c4v) (by omega))
   go_roundw
   case rel=>exact ⟨j+1,_,by go_num,by omega,HG6,HB5,HN5⟩
   case measure=>simp [intOf];omega
  ·have ej:j=2*l.length:=by omega
   subst ej
   clear hlt hj
   go_wp2
   go_ret
   exact ⟨lb,VS,rfl,HGW.out,by have:=HLB.out;omega,HBW.out⟩
theorem drop_cons' {l:List Nat} {k:Nat} (h:k<l.length):l.drop k=l.getD k 0 :: l.drop (k+1):=by
 rw [List.drop_eq_getElem_cons h];simp [h]
set_option maxHeartbeats 8000000 in
theorem tosink_any (n:Net) (ao:Option Addr) (cap:Nat) (ro:Option Addr) (rc:Nat) (f:List Int) (w:World) (hr:ARow w ao n.l) (hrm:IRow w ro (roomL n.l f (2*n.l.length))) (hR:Right n) :
  Calls Tryz.prog 29 #[encN n ao cap,.slice ro (2*n.l.length) rc] w fun e w'=>∃ b k B,e=.returned (.map (some b))∧IsReach (turnN n) f 1 B∧MkBox w' b k (fun v=>B.getD v false)∧w.heap.size≤b∧Below w.heap.size w w':=by
 have hl:n.l.length≤1000000:=by have:=hR.len;omega
 have hLL:=hR.len
 have hN0:=hR.n0
 have hN1:=hR.n1
 have hT0:=hR.t0
 have hT1:=hR.t1
 have BG:=hid (fun w' h1 h2=>cbegin_any n ao cap ro rc f w' h1 h2 hR)
 have HD0:=hid (bk_start hR f)
 have HPO:=hid (fun B W0 (u:Nat) (h:Bk n f B (W0 ++ [u]) 0 [])=>bk_pop h)
 have HSK:=hid (fun B way (u v:Nat) D (h:Bk n f B way u (v :: D)) hv=>bk_skip h hv)
 have HPU:=hid (fun B way (u v:Nat) D (h:Bk n f B way u (v :: D)) h1 h2 h3=>bk_put hR h h1 h2 h3)
 have HDN:=hid (fun B way (u:Nat) (h:Bk n f B way u [])=>bk_done h)
 have HEND:=hid (fun B (h:Bk n f B [] 0 [])=>bk_end h)
 have HSUB:=hid (fun B way (u:Nat) D (h:Bk n f B way u D)=>show B.length=n.n.toNat+1∧way.length+unmet B≤n.n.toNat+1∧(∀ v∈way,B.getD v false=true∧v<n.n.toNat+1) from
  ⟨h.len,h.few,fun v hv=>⟨h.wayB v hv,bk_lt h (h.wayB v hv)⟩⟩)
 have HUB:=hid (show ∀ u v,v∈behL n.l f u (2*n.l.length)→v<n.n.toNat+1 from fun u v h=>by
  obtain ⟨r,h1,_,_,h4⟩:=behL_mem.1 h
  have:=trF_bd hR h1;omega)
 have HUL:=hid (show ∀ u,(behL n.l f u (2*n.l.length)).length≤1000000 from fun u=>by have:=behL_len n.l f u (2*n.l.length);omega)
 generalize hBK:Bk n f=BK at *
 generalize hIR:IsReach (turnN n) f 1=IR at *
 obtain ⟨U,hU⟩:∃ U:Nat→List Nat,U=fun u=>behL n.l f u (2*n.l.length):=⟨_,rfl⟩
 have HUE:=hid (show ∀ u,behL n.l f u (2*n.l.length)=U u from fun u=>by rw [hU])
 rw [← hU] at BG
 simp only [HUE.out] at HPO HPU HUB HUL
 clear HUE hU hBK hIR hR
 generalize roomL n.l f (2*n.l.length)=RL at *
 obtain ⟨nn,ns,nt,l⟩:=n
 simp only at hr hrm hl hLL hN0 hN1 hT0 hT1 BG HD0 HSUB HUB ⊢
 obtain ⟨N,rfl⟩:∃ N:Nat,nn=(N:Int):=⟨nn.toNat,by omega⟩
 obtain ⟨T,rfl⟩:∃ T:Nat,nt=(T:Int):=⟨nt.toNat,by omega⟩
 simp only [Int.toNat_natCast] at BG HD0 HSUB HUB ⊢
 have hmm:=@run_makeMap Tryz.prog
 have HB0:=hid (((Below.refl w.heap.size w).alloc (Nat.le_refl _) (.cells #[.int .i64 (N:Int),.int .i64 ns,.int .i64 (T:Int),.slice ao l.length cap] 27)).alloc (by simp) (.map #[] 0))
 have HN0:=hid (netBox_new w (N:Int) ns (T:Int) (.slice ao l.length cap))
 have HN1:=hid (netBox_alloc HN0.out (.map #[] 0))
 have HM0:=hid (mkbox_new (w.alloc (.cells #[.int .i64 (N:Int),.int .i64 ns,.int .i64 (T:Int),.slice ao l.length cap] 27)) (b:=w.heap.size+1) (by simp))
 have HR:=hid (hr.kept HB0.out)
 have HRL:=hid (hrm.kept HB0.out)
 have HZ:=hid (show ((w.alloc (.cells #[.int .i64 (N:Int),.int .i64 ns,.int .i64 (T:Int),.slice ao l.length cap] 27)).alloc (.map #[] 0)).heap.size=w.heap.size+2 by simp)
 clear hr hrm
 obtain ⟨n0,n1,n2,n3⟩:=netBox_cells HN1.out
 obtain ⟨m0,m1,m2,m3⟩:=netBox_cells HN0.out
 go_enter Tryz.func29,Tryz.ntmps29
 go_wp2_with fail
 refine (BG.out _ HR.out HRL.out).mono ?_
 rintro e w2 ⟨lb,VS,rfl,hg,hlb,hb⟩
 have HB2:=hid (HB0.out.trans (hb.mono HB0.out.size))
 have HN2:=hid (netBox_below HN1.out hb (netBox_lt HN1.out))
 have HM2:=hid (HM0.out.below hb)
 have HX2:=hid (RBox.of_g hg)
 have HLB:=hid (show w.heap.size+2≤lb∧lb<w2.heap.size by rw [HZ.out] at hlb;exact ⟨hlb,hg.lt⟩)
 clear hb hg hlb n0 n1 n2 n3 m0 m1 m2 m3 HN0 HN1 HM0 HB0 BG HR HRL HZ hmm
 obtain ⟨n0,n1,n2,n3⟩:=netBox_cells HN2.out
 have HP2:=hid (put_any w2 (w.heap.size+1) 0 _ T HM2.out (by omega) (by omega))
 obtain ⟨b,hbq⟩:∃ b,b=w.heap.size+1:=⟨_,rfl⟩
 rw [← hbq] at HP2 ⊢
 have HBQ:=hid hbq
 clear hbq HM2
 go_wp2_with fail
 refine HP2.out.mono ?_
 rintro e w3 ⟨rfl,hm,hg⟩
 have hb1:=HBQ.out
 have hb2:=HLB.out
 have HB3:=hid (HB2.out.grown hg HB2.out.size (fun q e=>by cases e;omega))
 have HN3:=hid (netBox_grown HN2.out hg (fun e=>by have h:w.heap.size=b:=(by simpa using e);omega))
 have HX3:=hid (HX2.out.grown hg (fun q e=>by cases e;omega))
 have HZ3:=hid hg.size
 have HM3:=hid (hm.same (T:=fun v=>((List.replicate (N+1) false).set T true).getD v false) fun v _=>by
  rw [getD_set _ _ _ (by simp;omega)]
  by_cases e:v=T
  ·rw [if_pos e,e,beq_self_eq_true,Bool.true_or]
  ·rw [if_neg e,beq_false_of_ne e,Bool.false_or,List.getD_eq_getElem?_getD,List.getElem?_replicate];split <;> rfl)
 clear hm hg n0 n1 n2 n3 HP2 hb1 hb2 HN2 HB2 HX2
 obtain ⟨n0,n1,n2,n3⟩:=netBox_cells HN3.out
 have HO4:=hid (own_oneI w3 (b:=w3.heap.size) rfl (T:Int))
 have HX4:=hid (HX3.out.alloc (.cells #[.int .i64 (T:Int)] 3))
 have HM4:=hid (HM3.out.alloc (.cells #[.int .i64 (T:Int)] 3))
 have HB4:=hid (HB3.out.alloc HB3.out.size (.cells #[.int .i64 (T:Int)] 3))
 have HQ4:=hid (show w.heap.size<b∧b<lb∧lb<w2.heap.size∧w2.heap.size≤w3.heap.size from ⟨by have:=HBQ.out;omega,by have:=HBQ.out;have:=HLB.out;omega,HLB.out.2,HZ3.out⟩)
 obtain ⟨hi,hhi⟩:∃ hi,hi=w2.heap.size:=⟨_,rfl⟩
 rw [← hhi] at HX4 HQ4
 go_wp2
 clear n0 n1 n2 n3 hhi HX3 HM3 HB3 HN3 HZ3 HBQ HLB
 obtain ⟨B0,hB0⟩:∃ B0,B0=w3.heap.size:=⟨_,rfl⟩
 rw [← hB0] at HO4 HQ4 ⊢
 have HZ4:=hid (show B0<(w3.alloc (.cells #[.int .i64 (T:Int)] 3)).heap.size by simp [hB0])
 clear hB0
 generalize w3.alloc (.cells #[.int .i64 (T:Int)] 3)=W4 at *
 have HU0:=hid (show 1+unmet ((List.replicate (N+1) false).set T true)≤N+1 from (HSUB.out _ _ _ _ HD0.out).2.1)
 go_loopg [7] (2*unmet ((List.replicate (N+1) false).set T true)+1) (fun g s wr=>∃ (v:Value) (way:List Nat) (B:List Bool) (kk:Nat),v=s∧g=2*unmet B+way.length∧kk+unmet B≤N+1∧Hid (BK B way 0 [])∧Hid (OwnI wr B0 v (encW way))∧Hid (MkBox wr b kk fun v=>B.getD v false)∧Hid (RBox wr lb (lb+1) hi (N+1) VS U)∧Hid (Below w.heap.size w wr)∧Hid (B0<wr.heap.size))
 case atStart=>exact ⟨_,[T],_,1,rfl,by simp,HU0.out,HD0,HO4,HM4,HX4,HB4,HZ4⟩
 case round =>
  obtain ⟨v,way,B,kk,rfl,hgk,hkk,HD,HOW,HMW,HXW,HBW,HZW⟩:=hrel
  obtain ⟨hbl,hfw,hwn⟩:=HSUB.out B way 0 [] HD.out
  have HGK:=hid hgk
  have HKK:=hid hkk
  have HWN:=hid hwn
  clear hgk hkk hwn hbl
  by_cases hway:way=[]
  ·subst hway
   obtain ⟨o9,c9,hv9,_⟩:=Rw.own_row encI_len HOW.out
   have HE:=hid (HEND.out B HD.out)
   have hv9':v=.slice o9 0 c9:=hv9
   subst hv9'
   clear hv9
   go_wp2
   go_ret
   exact ⟨b,kk,B,rfl,HE.out,HMW.out,by have:=HQ4.out;omega,HBW.out⟩
  obtain ⟨W0,u,hw⟩:=reach_len hway
  subst hw
  clear hway
  obtain ⟨g,c9,rfl,hgB,hgw,hc9,d9⟩:=ownI_row HOW.out
  have HW0:=hid (show (W0 ++ [u]).length=W0.length+1 by simp)
  have HEW:=hid (show OwnI wr B0 (.slice (some ⟨g,0,none⟩) (W0.length+1) c9) (encW W0 ++ [(u:Int)]) by have:=HOW.out;rwa [encW_snoc] at this)
  have HOL:=hid (own_less HEW.out)
  have hfw2:W0.length+1+unmet B≤N+1:=by rw [HW0.out] at hfw;exact hfw
  clear hfw
  obtain ⟨hBu,hu⟩:=HWN.out u (by simp)
  have HBU:=hid hBu
  clear hBu
  have HDP:=hid (HPO.out B W0 u HD.out)
  have hui:(u:Int)<(N:Int)+1:=by omega
  have hu0:(0:Int)≤(u:Int):=by omega
  obtain ⟨A,c,hVS,hlc,hcm,hrow⟩:=HXW.out.each u hu
  have e0:=HXW.out.cell hu
  rw [hVS] at e0
  have HVS:=hid hVS
  have HLU:=hid (HUL.out u)
  have HRB:=hid (fun k (hk:k<(U u).length)=>HUB.out u _ (getD_mem hk))
  have HRM:=hid (fun k (hk:k<(U u).length)=>show (U u).getD k 0∈U u from getD_mem hk)
  have HDC:=hid (fun k (hk:k<(U u).length)=>drop_cons' hk)
  have HPU2:=hid (fun B way v D h1 h2 h3 h4=>HPU.out B way u v D h1 h2 h3 h4)
  have hd0:(U u).drop 0=U u:=rfl
  have HD2:=hid (show BK B W0 u ((U u).drop 0) from HDP.out)
  clear hVS hrow hlc hcm hd0 HDP HOW HD HWN
  have hp0:(0:Int)≤(W0.length:Int):=by omega
  obtain ⟨p,hp⟩:∃ p,p=W0.length:=⟨_,rfl⟩
  have HPL:=hid hp
  have HOP:=hid (show OwnI wr B0 (.slice (some ⟨g,0,none⟩) p c9) (encW W0) by have:=HOL.out;rwa [encW_len,← hp] at this)
  rw [← hp] at d9 hc9 hfw2 hp0 ⊢
  clear hp HEW HOL
  have hpp:(p:Int)<(p:Int)+1:=by omega
  have hpc:p≤c9:=by omega
  have hc0:¬ c9=0:=by omega
  obtain ⟨L,hL⟩:∃ L,L=(U u).length:=⟨_,rfl⟩
  have HL:=hid hL
  rw [← hL] at e0 HVS HRB HRM HDC HLU
  clear hL
  have hLm:=HLU.out
  go_wp2
  clear d9 e0
  go_loopg [7,41] L (fun g2 s i wy=>∃ (k:Nat) (way2:List Nat) (B2:List Bool) (kk2:Nat),i=.int .i64 k∧k+g2=L∧Hid (2*unmet B2+way2.length≤2*unmet B+p)∧Hid (kk2+unmet B2≤N+1)∧Hid (BK B2 way2 u ((U u).drop k))∧Hid (B2.getD u false=true)∧Hid (OwnI wy B0 s (encW way2))∧Hid (MkBox wy b kk2 fun v=>B2.getD v false)∧Hid (RBox wy lb (lb+1) hi (N+1) VS U)∧Hid (Below w.heap.size w wy)∧Hid (B0<wy.heap.size))
  case atStart=>exact ⟨0,W0,B,kk,rfl,by omega,hid (by rw [HPL.out];omega),HKK,HD2,HBU,HOP,HMW,HXW,HBW,HZW⟩
  case round =>
   obtain ⟨k,way2,B2,kk2,rfl,hkg,HG2,HK2,HDY,HBY2,HOY,HMY,HXY,HBY,HBX⟩:=hrel
   obtain ⟨hbl2,hfw3,hwn3⟩:=HSUB.out B2 way2 u _ HDY.out
   have HBL2:=hid hbl2
   clear hbl2 hwn3
   by_cases hlt:k<L
   ·obtain ⟨A2,c2,hVS2,hlc,hcm,hrow⟩:=HXY.out.each u hu
    rw [HVS.out,← HL.out] at hVS2
    obtain ⟨rfl,-,rfl⟩:A=A2∧L=L∧c=c2:=by injection hVS2 with h1 h2 h3;exact ⟨h1,rfl,h3⟩
    clear hVS2 hlc hcm
    rcases hrow with h | ⟨b9,off,rfl,hb1,hb2,hbc⟩
    ·exact absurd hlt (by rw [HL.out,h];simp)
    have hki:(k:Int)<(L:Int):=by omega
    have hk0:(0:Int)≤(k:Int):=by omega
    have d0:=hbc k (by rw [← HL.out];exact hlt)
    have HVM:=hid (HRM.out k hlt)
    have hvn:=HRB.out k hlt
    have HDK:=hid (HDC.out k hlt)
    clear hbc
    obtain ⟨v,hv⟩:∃ v,v=(U u).getD k 0:=⟨_,rfl⟩
    rw [← hv] at d0 HVM hvn HDK
    clear hv
    have HDV:=hid (show BK B2 way2 u (v :: (U u).drop (k+1)) by rw [← HDK.out];exact HDY.out)
    have HHA:=hid (has_any _ b kk2 (fun v=>B2.getD v false) v HMY.out (by omega))
    cases hm:B2.getD v false
    ·have hk2:=HK2.out
     rw [hm] at HHA
     obtain ⟨hdp,hun,hvl⟩:=HPU2.out B2 way2 v _ HDV.out hm HBY2.out HVM.out
     have HDP:=hid hdp
     have HUN:=hid hun
     have HVL:=hid hvl
     clear hm hdp hun hvl
     go_wp2_with fail
     refine HHA.out.mono ?_
     rintro e w5 ⟨rfl,hb⟩
     have HB5:=hid (HBY.out.trans (hb.mono HBY.out.size))
     have HZ5:=hid (Nat.lt_of_lt_of_le HBX.out hb.size)
     have HM5:=hid (HMY.out.below hb)
     have HX5:=hid (HXY.out.below hb)
     have HO5:=hid (Rw.own_below HOY.out hb)
     have HP5:=hid (put_any w5 b kk2 _ v HM5.out (by omega) (by omega))
     clear hb d0 HHA
     go_wp2_with fail
     refine HP5.out.mono ?_
     rintro e w6 ⟨rfl,hmk,hg⟩
     have hq:=HQ4.out
     have hw6:=hg.size
     have HZ6:=hid (show B0<w6.heap.size from Nat.lt_of_lt_of_le HZ5.out hg.size)
     have HB6:=hid (HB5.out.grown hg HB5.out.size (fun q e=>by cases e;omega))
     have HX6:=hid (HX5.out.grown hg (fun q e=>by cases e;omega))
     have HO6:=hid (Rw.own_alloc (Rw.own_grown HO5.out hg (fun q h1 h2=>by have:=(Rw.own_lt HO5.out q h1).1;have:q=b:=(by simpa using h2);omega)) (.cells #[.int .i64 (v:Int)] 3))
     have HM6:=hid ((hmk.same (T:=fun x=>(B2.set v true).getD x false) fun x _=>by
      rw [getD_set _ _ _ HVL.out]
      by_cases e:x=v
      ·rw [if_pos e,e,beq_self_eq_true,Bool.true_or]
      ·rw [if_neg e,beq_false_of_ne e,Bool.false_or]).alloc (.cells #[.int .i64 (v:Int)] 3))
     have HX7:=hid (HX6.out.alloc (.cells #[.int .i64 (v:Int)] 3))
     have HR7:=hid (irow_one' w6 rfl (v:Int) 3)
     have HB7:=hid (HB6.out.alloc HB6.out.size (.cells #[.int .i64 (v:Int)] 3))
     have HZ7:=hid (show B0≤(w6.alloc (.cells #[.int .i64 (v:Int)] 3)).heap.size by
      have:=HZ6.out;simp;omega)
     have HLN:=hid (show (encW way2).length+([(v:Int)]:List Int).length≤1099511627776 by rw [encW_len];simp;omega)
     have HMB:=hid (ownI_map HO6.out HM6.out)
     have HVB:=hid (Rw.own_lt HO6.out)
     clear hmk hg hw6
     obtain ⟨o7,c7,hv7,_⟩:=Rw.own_row encI_len HO6.out
     subst hv7
     go_wp2_with (at_builtin;refine Rw.app elemI encI_len encI_one rfl (.tmp 52) (.tmp 54) rfl B0 _ (encW way2) rfl HO6.out (some ⟨w6.heap.size,0,none⟩) 1 [(v:Int)] rfl ?hnn HR7.out HLN.out ?hB ?_;(case hnn=>(intro h;cases h));(case hB=>(exact HZ7.out));intro v8 w8 hown8 hgr8;rw [← encW_snoc] at hown8;have HO8:=hid hown8;have HM8:=hid (HM6.out.kept hgr8 HMB.out);have HX8:=hid (HX7.out.grown hgr8 (fun q e=>by have:=(HVB.out q e).1;omega));have HZ8:=hid (show B0<w8.heap.size from Nat.lt_of_lt_of_le HZ6.out (Nat.le_trans (by simp) hgr8.size));have HB8:=hid (HB7.out.grown hgr8 HB7.out.size (fun q e=>by have:=(HVB.out q e).1;omega));clear hown8 hgr8)
     go_roundg (L-(k+1))
     case measure=>omega
     case rel=>exact ⟨k+1,way2 ++ [v],B2.set v true,kk2+1,by go_num,by omega,hid (by have:=HUN.out;have:=HG2.out;simp;omega),hid (by have:=HUN.out;omega),HDP,hid (by rw [getD_set _ _ _ HVL.out];split;(· rfl);(· exact HBY2.out)),HO8,HM8,HX8,HB8,HZ8⟩
    ·rw [hm] at HHA
     have HDN2:=hid (HSK.out B2 way2 u v _ HDV.out hm)
     clear hm
     go_wp2_with fail
     refine HHA.out.mono ?_
     rintro e w5 ⟨rfl,hb⟩
     have HB5:=hid (HBY.out.trans (hb.mono HBY.out.size))
     have HZ5:=hid (Nat.lt_of_lt_of_le HBX.out hb.size)
     have HM5:=hid (HMY.out.below hb)
     have HX5:=hid (HXY.out.below hb)
     have HO5:=hid (Rw.own_below HOY.out hb)
     clear hb d0 HHA
     go_wp2
     go_roundg (L-(k+1))
     case measure=>omega
     case rel=>exact ⟨k+1,way2,B2,kk2,by go_num,by omega,HG2,HK2,HDN2,HBY2,HO5,HM5,HX5,HB5,HZ5⟩
   ·have ek:k=L:=by omega
    subst ek
    have HDE:=hid (HDN.out B2 way2 u (by have:=HDY.out;rwa [HL.out,List.drop_length] at this))
    go_wp2
    go_roundg (2*unmet B2+way2.length)
    case measure=>have:=HGK.out;have:=HG2.out;have:=HW0.out;have:=HPL.out;omega
    case rel=>exact ⟨_,way2,B2,kk2,rfl,rfl,HK2.out,HDE,HOY,HMY,HXY,HBY,HBX⟩
end Ne
namespace Ne
theorem firstfn_any (w:World) (mb bb c:Nat) (M:List Bool) (v:Nat) (hc:w.cell? ⟨mb,0,none⟩=some (.slice (some ⟨bb,0,none⟩) M.length c)) (hM:BBox w bb M) (hv:v<M.length) :
  Calls Tryz.prog 27 #[.int .i64 (v:Int),.pointer (some ⟨mb,0,none⟩)] w fun e w'=>e=.returned (.bool (M.getD v false))∧Below w.heap.size w w':=by
 have c1:=hM.cell hv
 have h0:(0:Int)≤(v:Int):=by omega
 have h1:(v:Int)<(M.length:Int):=by omega
 clear hM
 generalize M.getD v false=b at *
 generalize M.length=m at *
 go_enter Tryz.func27,Tryz.ntmps27
 go_wp2
 go_ret
 exact ⟨rfl,Below.refl _ _⟩
theorem lastfn_any (w:World) (mb b k:Nat) (S:Nat→Bool) (v:Nat) (hc:w.cell? ⟨mb,0,none⟩=some (.map (some b))) (hM:MkBox w b k S) (hv:v≤1000000) :
  Calls Tryz.prog 31 #[.int .i64 (v:Int),.pointer (some ⟨mb,0,none⟩)] w fun e w'=>e=.returned (.bool (!S v))∧Below w.heap.size w w':=by
 have HH:=hid (has_any w b k S v hM hv)
 clear hM hv
 generalize S v=s at *
 go_enter Tryz.func31,Tryz.ntmps31
 go_wp2_with fail
 refine HH.out.mono ?_
 rintro e w2 ⟨rfl,hb⟩
 have HB:=hid hb
 clear hb
 go_wp2
 go_ret
 exact ⟨rfl,HB.out⟩
theorem nodes_any (n:Net) (ao:Option Addr) (cap:Nat) (K:FuncId) (x:Value) (p:Nat→Bool) (w:World) (h0:0≤n.n) (h1:n.n≤1000000) (hK:∀ a w',(callFunc K a).run Tryz.prog w' = .ok (.enter K a) w')
  (HF:∀ (v:Nat) (w':World),1≤v→v≤n.n.toNat→Below w.heap.size w w'→Calls Tryz.prog K #[.int .i64 (v:Int),x] w' fun e w2=>e=.returned (.bool (p v))∧Below w'.heap.size w' w2) :
  Calls Tryz.prog 26 #[encN n ao cap,.func (.func K) #[] #[x]] w fun e w'=>∃ y,e=.returned y∧OwnI w' w.heap.size y (nodesTo p n.n.toNat)∧Below w.heap.size w w':=by
 obtain ⟨nn,ns,nt,l⟩:=n
 simp only at h0 h1 HF ⊢
 obtain ⟨N,rfl⟩:∃ N:Nat,nn=(N:Int):=⟨nn.toNat,by omega⟩
 simp only [Int.toNat_natCast] at HF ⊢
 have HNB:=hid (netBox_new w (N:Int) ns nt (.slice ao l.length cap))
 have HB0:=hid ((Below.refl w.heap.size w).alloc (Nat.le_refl _) (.cells #[.int .i64 (N:Int),.int .i64 ns,.int .i64 nt,.slice ao l.length cap] 27))
 have HL:=hid (nodes_len p)
 have HSC:=hid (show ∀ k,nodesTo p (k+1)=nodesTo p k ++ if p (k+1) then [((k+1:Nat):Int)] else [] from fun _=>rfl)
 have HZ:=hid (show nodesTo p 0=[] from rfl)
 generalize nodesTo p=L at *
 obtain ⟨n0,n1,n2,n3⟩:=netBox_cells HNB.out
 clear n1 n2 n3
 go_enter Tryz.func26,Tryz.ntmps26
 go_wp2
 clear n0 HNB
 go_loopw [5,10] (fun y i wr=>∃ k:Nat,i=.int .i64 k∧k≤N∧Hid (OwnI wr w.heap.size y (L k))∧Hid (Below w.heap.size w wr)) (fun _ i _=>N-(intOf i).toNat)
 case atStart=>exact ⟨0,rfl,Nat.zero_le _,hid (by rw [HZ.out];exact Rw.own_nil _ _),HB0⟩
 case round =>
  obtain ⟨k,rfl,hk,HO,HB⟩:=hrel
  by_cases hlt:k<N
  ·have hki:(k:Int)<(N:Int):=by omega
   have HC:=hid (HF (k+1) wr (by omega) (by omega) HB.out)
   have HS:=hid (HSC.out k)
   obtain ⟨J,hJ⟩:∃ J,J=k+1:=⟨_,rfl⟩
   have HJ:=hid hJ
   have hJi:(k:Int)+1=(J:Int):=by omega
   rw [← hJ] at HC HS
   have HJI:=hid hJi
   clear hJ hJi
   cases hp:p J
   ·rw [hp] at HC
    go_wp2_with fail
    rw [HJI.out]
    refine HC.out.mono ?_
    rintro e w2 ⟨rfl,hb⟩
    have HB2:=hid (HB.out.trans (hb.mono HB.out.size))
    have HO2:=hid (Rw.own_below HO.out hb)
    clear hb
    go_wp2
    go_roundw
    case rel=>exact ⟨J,by rw [HJ.out];go_num,by have:=HJ.out;omega,hid (by rw [HS.out,hp];simpa using HO2.out),HB2⟩
    case measure=>have:=HJ.out;simp [intOf];omega
   ·rw [hp] at HC
    go_wp2_with fail
    rw [HJI.out]
    refine HC.out.mono ?_
    rintro e w2 ⟨rfl,hb⟩
    have HB2:=hid (HB.out.trans (hb.mono HB.out.size))
    have HO2:=hid (Rw.own_alloc (Rw.own_below HO.out hb) (.cells #[.int .i64 (J:Int)] 3))
    have HR2:=hid (irow_one' w2 rfl (J:Int) 3)
    have HB3:=hid (HB2.out.alloc HB2.out.size (.cells #[.int .i64 (J:Int)] 3))
    have HLN:=hid (show (L k).length + [(J:Int)].length≤1099511627776 by have:=HL.out k;simp;omega)
    clear hb
    go_wp2_with (at_builtin;refine Rw.app elemI encI_len encI_one rfl (.tmp 18) (.tmp 20) rfl w.heap.size _ (L k) rfl HO2.out (some ⟨w2.heap.size,0,none⟩) 1 [(J:Int)] rfl ?hnn HR2.out HLN.out ?hB ?_;(case hnn=>(intro h;cases h));(case hB=>(exact HB3.out.size));intro v4 w4 hown4 hgr4;have HO4:=hid hown4;have HB4:=hid (HB3.out.grown hgr4 HB3.out.size (Rw.own_block HO2.out));clear hown4 hgr4)
    go_roundw
    case rel=>exact ⟨J,by rw [HJ.out];go_num,by have:=HJ.out;omega,hid (by rw [HS.out,hp,HJ.out] at *;simpa using HO4.out),HB4⟩
    case measure=>have:=HJ.out;simp [intOf];omega
  ·have ek:k=N:=by omega
   subst ek
   go_wp2
   go_ret
   exact ⟨_,rfl,HO.out,HB.out⟩
end Ne
end Go.Proofs.YthhlfphnokdfaaaGreat
namespace Go.Proofs.YthhlfphnokdfaaaGreat
namespace Ne
def firE (n:Net) (f:List Int) (M:List Bool):Int:=if chkF n f≠0 then chkF n f else if M.getD n.t.toNat false=true then 8 else 0
def firV (n:Net) (f:List Int) (M:List Bool):List Int:=if firE n f M≠0 then [] else nodesTo (fun v=>M.getD v false) n.n.toNat
def lasE (n:Net) (f:List Int) (B:List Bool):Int:=if chkF n f≠0 then chkF n f else if B.getD n.s.toNat false=true then 8 else 0
def lasV (n:Net) (f:List Int) (B:List Bool):List Int:=if lasE n f B≠0 then [] else nodesTo (fun v=>!(B.getD v false)) n.n.toNat
def proE (n:Net) (f S:List Int):Int:=if chkF n f≠0 then chkF n f else if cutE n S≠0 then cutE n S else if vaV n f≠capV n S then 8 else 0
theorem firE_bad {n:Net} {f:List Int} (M:List Bool) (h:chkF n f≠0):firE n f M=chkF n f:=by unfold firE;rw [if_pos h]
theorem lasE_bad {n:Net} {f:List Int} (M:List Bool) (h:chkF n f≠0):lasE n f M=chkF n f:=by unfold lasE;rw [if_pos h]
theorem firE_none {n:Net} {f:List Int} {M:List Bool} (h:chkF n f=0) (h2:M.getD n.t.toNat false=true):firE n f M=8:=by unfold firE;rw [if_neg (by simpa using h),if_pos h2]
theorem lasE_none {n:Net} {f:List Int} {M:List Bool} (h:chkF n f=0) (h2:M.getD n.s.toNat false=true):lasE n f M=8:=by unfold lasE;rw [if_neg (by simpa using h),if_pos h2]
theorem firE_ok {n:Net} {f:List Int} {M:List Bool} (h:chkF n f=0) (h2:M.getD n.t.toNat false=false):firE n f M=0:=by unfold firE;rw [if_neg (by simpa using h),if_neg (by rw [h2];decide)]
theorem lasE_ok {n:Net} {f:List Int} {M:List Bool} (h:chkF n f=0) (h2:M.getD n.s.toNat false=false):lasE n f M=0:=by unfold lasE;rw [if_neg (by simpa using h),if_neg (by rw [h2];decide)]
theorem firV_bad {n:Net} {f:List Int} {M:List Bool} (h:firE n f M≠0):firV n f M=[]:=by unfold firV;rw [if_pos h]
theorem lasV_bad {n:Net} {f:List Int} {M:List Bool} (h:lasE n f M≠0):lasV n f M=[]:=by unfold lasV;rw [if_pos h]
theorem firV_ok {n:Net} {f:List Int} {M:List Bool} (h:firE n f M=0):firV n f M=nodesTo (fun v=>M.getD v false) n.n.toNat:=by unfold firV;rw [if_neg (by simpa using h)]
theorem lasV_ok {n:Net} {f:List Int} {M:List Bool} (h:lasE n f M=0):lasV n f M=nodesTo (fun v=>!(M.getD v false)) n.n.toNat:=by unfold lasV;rw [if_neg (by simpa using h)]
theorem proE_flow {n:Net} {f:List Int} (S:List Int) (h:chkF n f≠0):proE n f S=chkF n f:=by unfold proE;rw [if_pos h]
theorem proE_cut {n:Net} {f S:List Int} (h:chkF n f=0) (h2:cutE n S≠0):proE n f S=cutE n S:=by unfold proE;rw [if_neg (by simpa using h),if_pos h2]
theorem proE_none {n:Net} {f S:List Int} (h:chkF n f=0) (h2:cutE n S=0) (h3:vaV n f≠capV n S):proE n f S=8:=by unfold proE;rw [if_neg (by simpa using h),if_neg (by simpa using h2),if_pos h3]
theorem proE_ok {n:Net} {f S:List Int} (h:chkF n f=0) (h2:cutE n S=0) (h3:vaV n f=capV n S):proE n f S=0:=by unfold proE;rw [if_neg (by simpa using h),if_neg (by simpa using h2),if_neg (by simpa using h3)]
end Ne
end Go.Proofs.YthhlfphnokdfaaaGreat
namespace Go.Proofs.YthhlfphnokdfaaaGreat
open Go.ChangeShapes Go.WideShapes Go.ChangeAt Go.RowKit
open Lib (hid)
namespace Ne
theorem dreach_any (n:Net) (ao:Option Addr) (cap:Nat) (fo:Option Addr) (fc:Nat) (f:List Int) (x:Int) (w:World) (hr:ARow w ao n.l) (hf:IRow w fo f) (hl:n.l.length≤1000000) (hok:∀ a∈n.l,in64 a.cap) :
  Calls Tryz.prog 25 #[encN n ao cap,.slice fo f.length fc,.int .i64 x] w fun e w'=>∃ o c M,e=.returned (.tuple #[.slice o M.length c,.int .i64 (reE n f x)])∧ReachAns n f x w' o M∧Below w.heap.size w w':=by
 have CK:=hid (fun w' (h1:ARow w' ao n.l) (h2:IRow w' fo f)=>fchk_any n ao cap fo fc f w' h1 h2 hl hok)
 by_cases c0:chkF n f=0
 case neg =>
  have HE:=hid (show reE n f x=chkF n f by unfold reE;rw [if_pos c0])
  have HNZ:=hid (show reE n f x≠0 by rw [HE.out];exact c0)
  have HAN:=hid (show ∀ w',ReachAns n f x w' none [] from fun w'=>⟨fun _=>rfl,fun h=>absurd h HNZ.out⟩)
  generalize hRE:reE n f x=RE at *
  generalize hRA:ReachAns n f x=RA at *
  clear hRE hRA
  generalize chkF n f=c at *
  generalize f.length=fl at *
  obtain ⟨nn,ns,nt,l⟩:=n
  simp only at hr CK ⊢
  have HB0:=hid ((Below.refl w.heap.size w).alloc (Nat.le_refl _) (.cells #[.int .i64 nn,.int .i64 ns,.int .i64 nt,.slice ao l.length cap] 27))
  have c1':(c == 0)=false:=by simpa using c0
  have c1n:(c != 0)=true:=by simpa using c0
  have HR:=hid (hr.kept HB0.out)
  have HF:=hid (hf.kept HB0.out)
  clear hr hf c0
  go_enter Tryz.func25,Tryz.ntmps25
  go_wp2_with fail
  refine (CK.out _ HR.out HF.out).mono ?_
  rintro e w1 ⟨rfl,hb⟩
  have HB1:=hid (HB0.out.trans (hb.mono (by simp)))
  clear hb
  go_wp2
  go_ret2
  exact ⟨none,0,[],ret2w HE.out.symm,HAN.out _,HB1.out⟩
 obtain ⟨-,hR,hfl,hwi⟩:=chkA_ok (chkF_ok c0).1
 have HLO:=hid (show x<1→reE n f x=3 from fun h=>by unfold reE;rw [if_neg (by simpa using c0),if_pos h])
 have HOK:=hid (show 1≤x→reE n f x=0 from fun h=>by unfold reE;rw [if_neg (by simpa using c0),if_neg (by omega)])
 have HAB:=hid (show ∀ w',reE n f x≠0→ReachAns n f x w' none [] from fun w' h=>⟨fun _=>rfl,fun h2=>absurd h2 h⟩)
 have HAG:=hid (show ∀ w' b M,reE n f x=0→IsReach n f x M→BBox w' b M→ReachAns n f x w' (some ⟨b,0,none⟩) M from fun w' b M h h1 h2=>⟨fun h3=>absurd h h3,fun _=>⟨h1,b,rfl,h2⟩⟩)
 have HLN:=hid (show ∀ M,IsReach n f x M→M.length=n.n.toNat+1 from fun M h=>h.len)
 rw [c0] at CK
 rw [hfl] at CK ⊢
 have RE1:=hid (fun w' h1 h2=>reached_any n ao cap fo fc f x w' h1 h2 hR hfl hwi)
 generalize hIR:IsReach n f x=IR at *
 generalize hRE:reE n f x=RE at *
 generalize hRW:ReachAns n f x=RW at *
 clear hR hfl hwi c0 hIR hRE hRW
 obtain ⟨nn,ns,nt,l⟩:=n
 simp only at hr hl CK RE1 HLN ⊢
 have HB0:=hid ((Below.refl w.heap.size w).alloc (Nat.le_refl _) (.cells #[.int .i64 nn,.int .i64 ns,.int .i64 nt,.slice ao l.length cap] 27))
 have HN0:=hid (netBox_new w nn ns nt (.slice ao l.length cap))
 have HR:=hid (hr.kept HB0.out)
 have HF:=hid (hf.kept HB0.out)
 clear hr hf hok
 go_enter Tryz.func25,Tryz.ntmps25
 go_wp2_with fail
 refine (CK.out _ HR.out HF.out).mono ?_
 rintro e w1 ⟨rfl,hb⟩
 have HB1:=hid (HB0.out.trans (hb.mono (by simp)))
 have HN1:=hid (netBox_below HN0.out hb (by simp))
 have HR1:=hid (HR.out.kept hb)
 have HF1:=hid (HF.out.kept hb)
 obtain ⟨n0,n1,n2,n3⟩:=netBox_cells HN1.out
 clear hb HB0 HN0 HR HF CK
 by_cases hx:x<1
 ·have HE:=hid (HLO.out hx)
  have HA:=hid (fun w'=>HAB.out w' (by rw [HE.out];decide))
  have hx':decide (x<1)=true:=by simpa using hx
  clear hx
  go_wp2
  go_ret2
  exact ⟨none,0,[],ret2w HE.out.symm,HA.out _,HB1.out⟩
 have hx':decide (x<1)=false:=by simpa using hx
 have HE:=hid (HOK.out (by omega))
 clear hx HLO HOK
 go_wp2_with fail
 refine (RE1.out _ HR1.out HF1.out).mono ?_
 rintro e w2 ⟨b,M,rfl,hi,hm,hb⟩
 have HB2:=hid (HB1.out.trans (hb.mono HB1.out.size))
 have HI:=hid hi
 have HM:=hid hm
 have HL:=hid (HLN.out M hi)
 clear hb hi hm n0 n1 n2 n3
 go_wp2
 go_ret2
 exact ⟨some ⟨b,0,none⟩,nn.toNat+1,M,by rw [HL.out,HE.out];rfl,HAG.out _ b M HE.out HI.out HM.out,HB2.out⟩
end Ne
end Go.Proofs.YthhlfphnokdfaaaGreat
