/-
  Res4
-/
import Derived.Test.YthhlfphnokdfaaaGreatBf8
import Derived.Test.YthhlfphnokdfaaaGreatBf9
import Derived.Deep.LoopGhost
import Derived.Deep.DeepCutAuto
import Derived.WalkMore
set_option linter.unusedVariables false
set_option linter.unusedSimpArgs false
set_option maxRecDepth 100000
set_option maxHeartbeats 4000000
namespace Go.Proofs.YthhlfphnokdfaaaGreat
open Go.ChangeShapes Go.WideShapes Go.ChangeAt Go.RowKit
open Lib (hid)
namespace Ne
theorem gbox_same {w:World} {lb n:Nat} {VS:Nat→Value} {U U':Nat→List Nat} (h:GBox w lb n VS U) (e:∀ v,v<n→U v=U' v):GBox w lb n VS U':=⟨h.row,fun v hv=>by rw [← e v hv];exact h.own v hv,h.sep⟩
theorem begin_any (n:Net) (ao:Option Addr) (cap:Nat) (w:World) (hr:ARow w ao n.l) (hR:Right n) :
  Calls Tryz.prog 48 #[encN n ao cap] w fun e w'=>∃ lb VS,e=.returned (.slice (some ⟨lb,0,none⟩) (n.n.toNat+1) (n.n.toNat+1))∧GBox w' lb (n.n.toNat+1) VS (fun v=>fromL n.l (v:Int) (2*n.l.length))∧w.heap.size≤lb∧Below w.heap.size w w':=by
 have hl:n.l.length≤1000000:=by have:=hR.len;omega
 have hLL:=hR.len
 have hN0:=hR.n0
 have hN1:=hR.n1
 have HEN:=hid (fun (j:Nat) (h:j<2*n.l.length) w' h1=>show Calls Tryz.prog 49 #[encN n ao cap,.int .i64 (j:Int)] w' fun e w2=>e=.returned (.tuple #[.int .i64 (((trF n.l j).toNat:Nat):Int),.int .i64 (trT n.l j)])∧Below w'.heap.size w' w2 by
  have:=ends_any n ao cap (j:Int) w' h1 hl (by unfold in64;omega)
  rw [enF_in h,enT_in h] at this
  have hb:=trF_bd hR h
  rwa [show (((trF n.l j).toNat:Nat):Int)=trF n.l j by omega])
 have HTB:=hid (fun (j:Nat) (h:j<2*n.l.length)=>show (trF n.l j).toNat<n.n.toNat+1 by have:=trF_bd hR h;omega)
 have HTR:=hid (fun w'=>tracks_any n ao cap w' hl)
 have HST:=hid (fun (j:Nat) (h:j<2*n.l.length) (v:Nat)=>show (if v=(trF n.l j).toNat then fromL n.l ((trF n.l j).toNat:Int) j ++ [j] else fromL n.l (v:Int) j)=fromL n.l (v:Int) (j+1) by
  have hb:=trF_bd hR h
  by_cases e:v=(trF n.l j).toNat
  ·subst e;rw [if_pos rfl,fromL_hit (by omega)]
  ·rw [if_neg e,fromL_miss (by omega)])
 have HFL:=hid (fun (v:Int) (k:Nat)=>fromL_len n.l v k)
 have HF0:=hid (fun (v:Int)=>fromL_zero n.l v)
 generalize fromL n.l=FL at *
 generalize hTF:(fun j=>(trF n.l j).toNat)=TF at *
 have HTE:=hid (show ∀ j,(trF n.l j).toNat=TF j from fun j=>by rw [← hTF])
 clear hTF
 simp only [HTE.out] at HEN HTB HST
 clear HTE hR
 generalize trT n.l=TT at *
 obtain ⟨nn,ns,nt,l⟩:=n
 simp only at hr hl hLL hN0 hN1 HEN HTB HTR HST ⊢
 obtain ⟨N,rfl⟩:∃ N:Nat,nn=(N:Int):=⟨nn.toNat,by omega⟩
 simp only [Int.toNat_natCast] at HTB ⊢
 have hmk:=make_r (N+1) (by omega)
 simp only [Int.natCast_add,Int.natCast_one] at hmk
 have HB0:=hid ((Below.refl w.heap.size w).alloc (Nat.le_refl _) (.cells #[.int .i64 (N:Int),.int .i64 ns,.int .i64 nt,.slice ao l.length cap] 27))
 have HN0:=hid (netBox_new w (N:Int) ns nt (.slice ao l.length cap))
 have HR:=hid hr
 clear hr
 obtain ⟨n0,n1,n2,n3⟩:=netBox_cells HN0.out
 have HZ:(w.alloc (.cells #[.int .i64 (N:Int),.int .i64 ns,.int .i64 nt,.slice ao l.length cap] 27)).heap.size=w.heap.size+1:=by simp
 have HZH:=hid HZ
 clear HZ
 go_enter Tryz.func48,Tryz.ntmps48
 go_wp2_with fail
 have HG0:=hid (gbox_made (w.alloc (.cells #[.int .i64 (N:Int),.int .i64 ns,.int .i64 nt,.slice ao l.length cap] 27)) (N+1) (b:=w.heap.size+1) HZH.out.symm)
 have HBG:=hid (HB0.out.alloc (by rw [HZH.out];omega) (.cells (madeCells #[.slice none 0 0] (N+1)) 23))
 have HNG:=hid (netBox_alloc HN0.out (.cells (madeCells #[.slice none 0 0] (N+1)) 23))
 clear hmk n0 n1 n2 n3 HB0 HN0
 generalize ((w.alloc (.cells #[.int .i64 (N:Int),.int .i64 ns,.int .i64 nt,.slice ao l.length cap] 27)).alloc (.cells (madeCells #[.slice none 0 0] (N+1)) 23))=W1 at *
 refine (HTR.out _).mono ?_
 rintro e WX ⟨rfl,hb⟩
 have HBX:=hid (HBG.out.trans (hb.mono HBG.out.size))
 have HNX:=hid (netBox_below HNG.out hb (netBox_lt HNG.out))
 have HGX:=hid (gbox_same (HG0.out.below hb) (U':=fun v=>FL (v:Int) 0) (fun v _=>(HF0.out _).symm))
 have HZX:=hid (show w.heap.size+1<WX.heap.size from HGX.out.lt)
 clear hb HBG HNG HG0 HTR HF0 HZH
 go_wp2
 obtain ⟨lb,hlb⟩:∃ lb,lb=w.heap.size+1:=⟨_,rfl⟩
 rw [← hlb] at HGX HZX ⊢
 have HLB:=hid hlb
 clear hlb
 go_loopw [13] (fun i wr=>∃ (j:Nat) (VS:Nat→Value),i=.int .i64 j∧j≤2*l.length∧Hid (GBox wr lb (N+1) VS (fun v=>FL (v:Int) j))∧Hid (Below w.heap.size w wr)∧Hid (NetBox wr w.heap.size (N:Int) ns nt (.slice ao l.length cap))) (fun i _=>2*l.length-(intOf i).toNat)
 case atStart=>exact ⟨0,_,rfl,Nat.zero_le _,HGX,HBX,HNX⟩
 case round =>
  obtain ⟨j,VS,rfl,hj,HGW,HBW,HNW⟩:=hrel
  by_cases hlt:j<2*l.length
  ·obtain ⟨n0,n1,n2,n3⟩:=netBox_cells HNW.out
   have hji:(j:Int)<2*(l.length:Int):=by omega
   have hj0:(0:Int)≤(j:Int):=by omega
   have EN:=hid (fun w'=>HEN.out j hlt w')
   have htb:=HTB.out j hlt
   have HSJ:=hid (HST.out j hlt)
   generalize TF j=t at *
   generalize TT j=y at *
   have hti:(t:Int)<(N:Int)+1:=by omega
   have ht0:(0:Int)≤(t:Int):=by omega
   have HOV:=hid (HGW.out.own t htb)
   go_wp2_with fail
   refine (EN.out _ (HR.out.kept HBW.out)).mono ?_
   rintro e w2 ⟨rfl,hb⟩
   have HB2:=hid (HBW.out.trans (hb.mono HBW.out.size))
   have HN2:=hid (netBox_below HNW.out hb (netBox_lt HNW.out))
   have HG2:=hid (HGW.out.below hb)
   have c0:=HG2.out.cell htb
   have HFR:=hid (World.rowIs.frozen HG2.out.row t)
   have HO3:=hid (Rw.own_alloc (HG2.out.own t htb) (.cells #[.int .i64 (j:Int)] 3))
   have HG3:=hid (HG2.out.alloc (.cells #[.int .i64 (j:Int)] 3))
   have HR3:=hid (irow_one' w2 rfl (j:Int) 3)
   have HLN:=hid (show (encW (FL (t:Int) j)).length+([(j:Int)]:List Int).length≤1099511627776 by have:=HFL.out (t:Int) j;rw [encW_len];simp;omega)
   have HB3:=hid (HB2.out.alloc HB2.out.size (.cells #[.int .i64 (j:Int)] 3))
   have HN3:=hid (netBox_alloc HN2.out (.cells #[.int .i64 (j:Int)] 3))
   have HL3:=hid (show lb+1≤(w2.alloc (.cells #[.int .i64 (j:Int)] 3)).heap.size by have:=HG3.out.lt;omega)
   have HVB:=hid (Rw.own_lt HO3.out)
   have hlbw:w.heap.size<lb:=by have:=HLB.out;omega
   clear hb n0 n1 n2 n3 HOV
   obtain ⟨VT,hVT⟩:∃ VT,VT=VS t:=⟨_,rfl⟩
   have HVT:=hid hVT
   rw [← hVT] at c0 HO3 HVB
   clear hVT
   obtain ⟨at_,ct,hat,_,_,hnt,_,_,hat2⟩:=Rw.own_row encI_len HO3.out
   subst hat
   go_wp2_with (at_builtin;refine Rw.appAt elemI encI_len encI_one rfl (.tmp 27) (.tmp 29) rfl (lb+1) _ (encW (FL (t:Int) j)) rfl HO3.out ⟨w2.heap.size,0,none⟩ 1 [(j:Int)] rfl HR3.out HLN.out ?hB ?_;(case hB=>(exact HL3.out));intro v4 w4 hown4 hgr4 hat4;rw [← encW_snoc] at hown4;obtain ⟨o4,c4v,hv4,_,_,_,_⟩:=Rw.own_row encI_len hown4;rw [encW_len,List.length_append,List.length_singleton] at hv4;subst hv4;have HO4:=hid hown4;have HGR:=hid hgr4;have HA4:=hid hat4;have f4:w4.frozen? ⟨lb,t,none⟩=false:=World.rowIs.frozen (World.rowIs.of_block HG3.out.row (hgr4.block lb HG3.out.lt (fun e=>by have:=(HVB.out lb e.symm).1;omega))) t;have c4:=World.rowIs.cell (World.rowIs.of_block HG3.out.row (hgr4.block lb HG3.out.lt (fun e=>by have:=(HVB.out lb e.symm).1;omega))) htb;clear hown4 hgr4 hat4)
   have HG5:=hid (GBox.put HG3.out htb (u:=FL (t:Int) j ++ [j]) (by rw [← HVT.out];exact HGR.out) HO4.out (by rw [← HVT.out];exact HA4.out))
   have HG6:=hid (gbox_same HG5.out (U':=fun v=>FL (v:Int) (j+1)) (fun v hv=>HSJ.out v))
   have HB4:=hid (HB3.out.grown HGR.out HB3.out.size (fun b hb=>by have:=(HVB.out b hb).1;omega))
   have HN4:=hid (netBox_grown HN3.out HGR.out (fun e=>by have:=(HVB.out _ e.symm).1;omega))
   have HB5:=hid (HB4.out.setCell (p:=⟨lb,t,none⟩) (by show w.heap.size≤lb;omega) (.slice o4 ((FL (t:Int) j).length+1) c4v))
   have HN5:=hid (netBox_other HN4.out (b2:=lb) (o:=t) (v2:=.slice o4 ((FL (t:Int) j).length+1) c4v) (by omega))
   go_roundw
   case rel=>exact ⟨j+1,_,by go_num,by omega,HG6,HB5,HN5⟩
   case measure=>simp [intOf];omega
  ·have ej:j=2*l.length:=by omega
   subst ej
   clear hlt hj
   go_wp2
   go_ret
   exact ⟨lb,VS,rfl,HGW.out,by have:=HLB.out;omega,HBW.out⟩
end Ne
end Go.Proofs.YthhlfphnokdfaaaGreat
namespace Go.Proofs.YthhlfphnokdfaaaGreat
open Go.ChangeShapes Go.WideShapes Go.ChangeAt Go.RowKit
open Lib (hid)
namespace Ne
theorem own_oneI (w:World) {b:Nat} (hb:b=w.heap.size) (x:Int):OwnI (w.alloc (.cells #[.int .i64 x] 3)) b (.slice (some ⟨b,0,none⟩) 1 1) [x]:=by
 subst hb
 refine ⟨by simp [encI],.inr ⟨w.heap.size,1,#[.int .i64 x],rfl,Nat.le_refl _,?_,Nat.le_refl _,by unfold maxLen;omega,by simp,by simp [encI]⟩⟩
 show (w.heap.push _)[w.heap.size]? = _
 simp
theorem ownI_row {w:World} {B:Nat} {v:Value} {l:List Nat} {u:Nat} (h:OwnI w B v (encW (l ++ [u]))):∃ g c,v=.slice (some ⟨g,0,none⟩) (l.length+1) c∧B≤g∧g<w.heap.size∧l.length+1≤c∧w.cell? ⟨g,l.length,none⟩=some (.int .i64 (u:Int)):=by
 obtain ⟨ao,cap,h1,h2,_,_,h5,h6,h7⟩:=Rw.own_row encI_len h
 have hl:(encW (l ++ [u])).length=l.length+1:=by rw [encW_len];simp
 rw [hl] at h1 h2
 rcases h5 with h5 | ⟨b,off,rfl,_,hc⟩
 ·rw [h5] at hl;simp at hl
 ·obtain ⟨b',e⟩:=h7 _ rfl
  cases e
  refine ⟨b,cap,h1,(h6 b 0 rfl).1,(h6 b 0 rfl).2,h2,?_⟩
  have:=irow_at hc (i:=l.length) (x:=(u:Int)) (by simp [encW])
  simpa using this
theorem reach_len {way:List Nat} (h:way≠[]):∃ W0 u,way=W0 ++ [u]:=⟨way.dropLast,way.getLast h,(List.dropLast_concat_getLast h).symm⟩
set_option maxHeartbeats 8000000 in
theorem reached_any (n:Net) (ao:Option Addr) (cap:Nat) (fo:Option Addr) (fc:Nat) (f:List Int) (x:Int) (w:World) (hr:ARow w ao n.l) (hf:IRow w fo f) (hR:Right n) (hfl:f.length=n.l.length) (hwi:wi n.l f) :
  Calls Tryz.prog 40 #[encN n ao cap,.slice fo n.l.length fc,.int .i64 x] w fun e w'=>∃ b M,e=.returned (.slice (some ⟨b,0,none⟩) (n.n.toNat+1) (n.n.toNat+1))∧IsReach n f x M∧BBox w' b M∧Below w.heap.size w w':=by
 have hl:n.l.length≤1000000:=by have:=hR.len;omega
 have hLL:=hR.len
 have hN0:=hR.n0
 have hN1:=hR.n1
 have hS0:=hR.s0
 have hS1:=hR.s1
 have HEN:=hid (fun (j:Nat) (h:j<2*n.l.length) w' h1=>show Calls Tryz.prog 49 #[encN n ao cap,.int .i64 (j:Int)] w' fun e w2=>e=.returned (.tuple #[.int .i64 (trF n.l j),.int .i64 (((trT n.l j).toNat:Nat):Int)])∧Below w'.heap.size w' w2 by
  have:=ends_any n ao cap (j:Int) w' h1 hl (by unfold in64;omega)
  rw [enF_in h,enT_in h] at this
  have hb:=trT_bd hR h
  rwa [show (((trT n.l j).toNat:Nat):Int)=trT n.l j by omega])
 have HTB:=hid (fun (j:Nat) (h:j<2*n.l.length)=>show (trT n.l j).toNat<n.n.toNat+1 by have:=trT_bd hR h;omega)
 have HRM:=hid (fun (r:Nat) w' (h:r<2*n.l.length) h1 h2=>room_any n ao cap fo fc f r w' h1 h2 hl hfl h (room_64 hR hwi h))
 have BG:=hid (fun w' h=>begin_any n ao cap w' h hR)
 have HD0:=hid (dfs_start hR f x)
 have HPU:=hid (fun M W0 (u:Nat) U (h:Dfs n f x M (W0 ++ [u]) U) (hu:u<n.n.toNat+1) (i r:Nat) (hi:i<(U u).length) (hr:(U u).getD i 0=r) h1 h2 h3=>dfs_push hR h hu hi hr h1 h2 h3)
 have HPO:=hid (fun M W0 (u:Nat) U (h:Dfs n f x M (W0 ++ [u]) U) h1=>dfs_pop hR h h1)
 have HEND:=hid (fun M U (h:Dfs n f x M [] U)=>dfs_end h)
 have HSUB:=hid (fun M way U (h:Dfs n f x M way U)=>show (∀ v,v<n.n.toNat+1→∀ r∈U v,r<2*n.l.length)∧M.length=n.n.toNat+1∧way.length+unmet M≤n.n.toNat+1∧∀ v∈way,v<n.n.toNat+1 from
  ⟨fun v hv r hr=>(h.sub v hv r hr).1,h.len,h.few,fun v hv=>by
   have h1:=h.wayM v hv
   rcases Nat.lt_or_ge v M.length with h2 | h2
   ·rw [← h.len];exact h2
   ·simp [List.getD_eq_getElem?_getD,List.getElem?_eq_none h2] at h1⟩)
 generalize hDF:Dfs n f x=DF at *
 generalize hIR:IsReach n f x=IR at *
 generalize roomN n.l f=RO at *
 generalize hTT:(fun j=>(trT n.l j).toNat)=TT at *
 have HTE:=hid (show ∀ j,(trT n.l j).toNat=TT j from fun j=>by rw [← hTT])
 clear hTT hDF hIR
 simp only [HTE.out] at HEN HTB HPU HPO
 clear HTE hR hfl hwi
 generalize trF n.l=TF at *
 obtain ⟨nn,ns,nt,l⟩:=n
 simp only at hr hl hLL hN0 hN1 hS0 hS1 HEN HTB HRM BG HD0 HPU HSUB ⊢
 obtain ⟨N,rfl⟩:∃ N:Nat,nn=(N:Int):=⟨nn.toNat,by omega⟩
 obtain ⟨S,rfl⟩:∃ S:Nat,ns=(S:Int):=⟨ns.toNat,by omega⟩
 simp only [Int.toNat_natCast] at HTB BG HD0 HPU HSUB ⊢
 obtain ⟨U0,hU0⟩:∃ U0,U0=fun v:Nat=>fromL l (v:Int) (2*l.length):=⟨_,rfl⟩
 rw [← hU0] at BG HD0
 clear hU0
 have hmk:=make_b (N+1) (by omega)
 simp only [Int.natCast_add,Int.natCast_one] at hmk
 have HB0:=hid ((Below.refl w.heap.size w).alloc (Nat.le_refl _) (.cells #[.int .i64 (N:Int),.int .i64 (S:Int),.int .i64 nt,.slice ao l.length cap] 27))
 have HN0:=hid (netBox_new w (N:Int) (S:Int) nt (.slice ao l.length cap))
 have HR:=hid hr
 have HF:=hid hf
 clear hr hf
 go_enter Tryz.func40,Tryz.ntmps40
 go_wp2
 go_step3
 go_upto_region 1 with fail
 generalize hWA:(w.alloc (.cells #[.int .i64 (N:Int),.int .i64 (S:Int),.int .i64 nt,.slice ao l.length cap] 27))=WA0 at *
 have HBA0:=hid HB0.out
 have HRA0:=hid (HR.out.kept HBA0.out)
 have HNA0:=hid HN0.out
 have hbl0:w.heap.size<WA0.heap.size:=netBox_lt HNA0.out
 clear hWA HB0 HN0
 go_cut [7,8] (fun s7 s8 wc=>∃ (bm lb lo hi:Nat) (VS:Nat→Value),s7=.slice (some ⟨bm,0,none⟩) (N+1) (N+1)∧s8=.slice (some ⟨lb,0,none⟩) (N+1) (N+1)∧Hid (BBox wc bm (List.replicate (N+1) false))∧Hid (RBox wc lb lo hi (N+1) VS U0)∧Hid (Below w.heap.size w wc)∧Hid (NetBox wc w.heap.size (N:Int) (S:Int) nt (.slice ao l.length cap))∧Hid (w.heap.size<bm∧w.heap.size<lb∧bm≠lb∧(bm<lo∨hi≤bm)))
 case first =>
  have hS0:=(show (fun w'=>w'.cell? ⟨w.heap.size,0,none⟩=some (.int .i64 (N:Int))∧w'.cell? ⟨w.heap.size,1,none⟩=some (.int .i64 (S:Int))∧w'.cell? ⟨w.heap.size,2,none⟩=some (.int .i64 nt)∧w'.cell? ⟨w.heap.size,3,none⟩=some (.slice ao l.length cap)) WA0.drew from netBox_cells HNA0.out)
  obtain ⟨WA,hWA⟩:∃ W,W=WA0.drew:=⟨_,rfl⟩
  have HBA:=hid (show Below w.heap.size w WA by rw [hWA];exact below_drew HBA0.out)
  have HRA:=hid (show ARow WA ao l by rw [hWA];exact HRA0.out)
  have hbl0':w.heap.size<WA.heap.size:=by rw [hWA];exact hbl0
  have HNA:=hid (show NetBox WA w.heap.size (N:Int) (S:Int) nt (.slice ao l.length cap) by rw [hWA];exact HNA0.out)
  rw [← hWA] at hS0
  have hwN:IntKind.i64.wrap ((N:Int)+1)=(N:Int)+1:=by rw [IntKind.wrap_i64];omega
  have hbl1:w.heap.size<(WA.alloc (.cells (madeCells #[.bool false] (N+1)) 4)).heap.size:=by simp;omega
  refine Rh.start (S:=(fun w'=>w'.cell? ⟨w.heap.size,0,none⟩=some (.int .i64 (N:Int))∧w'.cell? ⟨w.heap.size,1,none⟩=some (.int .i64 (S:Int))∧w'.cell? ⟨w.heap.size,2,none⟩=some (.int .i64 nt)∧w'.cell? ⟨w.heap.size,3,none⟩=some (.slice ao l.length cap))) (by kernel_rfl) ?_
  rw [← hWA]
  clear hWA
  refine Rh.tp 15 0 hS0 ?_
  refine Rh.tp 16 1 hS0 ?_
  refine Rh.tp 17 2 hS0 ?_
  refine Rh.tp 19 4 hS0 ?_
  refine Rh.two (i:=3) (j:=5) (by kernel_rfl) rfl rfl (fun K' hK'=>?_) (fun K' hK'=>?_)
  ·have HK:=hid hK'
   clear hK'
   go_simp
   have HM1:=hid (bbox_made WA (N+1) rfl)
   have hbA1:=(Below.refl WA.heap.size WA).alloc (Nat.le_refl _) (.cells (madeCells #[.bool false] (N+1)) 4)
   have hS1:=(show (fun w'=>w'.cell? ⟨w.heap.size,0,none⟩=some (.int .i64 (N:Int))∧w'.cell? ⟨w.heap.size,1,none⟩=some (.int .i64 (S:Int))∧w'.cell? ⟨w.heap.size,2,none⟩=some (.int .i64 nt)∧w'.cell? ⟨w.heap.size,3,none⟩=some (.slice ao l.length cap)) (WA.alloc (.cells (madeCells #[.bool false] (N+1)) 4)) from ⟨held_alloc hS0.1,held_alloc hS0.2.1,held_alloc hS0.2.2.1,held_alloc hS0.2.2.2⟩)
   refine HK.out _ _ ⟨hS1,?_⟩
   clear HK K'
   try simp only [Act.put,Rh.q1,Rh.q2,Rh.q3]
   refine Rh.step (i:=5) (by kernel_rfl) rfl fun K' hK'=>?_
   have HK:=hid hK'
   clear hK'
   go_simp
   refine (BG.out (WA.alloc (.cells (madeCells #[.bool false] (N+1)) 4)) (HRA.out.kept hbA1)).mono ?_
   rintro e w2 ⟨lb,VS,rfl,hgb,hlb,hb⟩
   have hS2:=(show (fun w'=>w'.cell? ⟨w.heap.size,0,none⟩=some (.int .i64 (N:Int))∧w'.cell? ⟨w.heap.size,1,none⟩=some (.int .i64 (S:Int))∧w'.cell? ⟨w.heap.size,2,none⟩=some (.int .i64 nt)∧w'.cell? ⟨w.heap.size,3,none⟩=some (.slice ao l.length cap)) w2 from ⟨(hb.cell (p:=⟨w.heap.size,0,none⟩) hbl1).trans hS1.1,(hb.cell (p:=⟨w.heap.size,1,none⟩) hbl1).trans hS1.2.1,(hb.cell (p:=⟨w.heap.size,2,none⟩) hbl1).trans hS1.2.2.1,(hb.cell (p:=⟨w.heap.size,3,none⟩) hbl1).trans hS1.2.2.2⟩)
   refine HK.out _ _ ⟨hS2,?_⟩
   clear HK K'
   try simp only [Act.put,Rh.q1,Rh.q2,Rh.q3]
   refine Rh.tp 7 6 hS2 ?_
   refine Rh.tp 8 7 hS2 ?_
   refine Rh.done (by kernel_rfl) ?_ _
   go_wp2_with fail
   go_meet
   case rel=>exact ⟨WA.heap.size,lb,lb+1,w2.heap.size,VS,rfl,rfl,hid (HM1.out.kept hb),hid (RBox.of_g hgb),hid ((HBA.out.trans (hbA1.mono HBA.out.size)).trans (hb.mono (by have:=HBA.out.size;simp;omega))),hid (netBox_below (netBox_alloc HNA.out _) hb hbl1),hid (by have:=hlb;simp at this;exact ⟨by omega,by omega,by omega,.inl (by omega)⟩)⟩
  ·have HK:=hid hK'
   clear hK'
   go_simp
   refine (BG.out WA HRA.out).mono ?_
   rintro e w2 ⟨lb,VS,rfl,hgb,hlb,hb⟩
   have hS1:=(show (fun w'=>w'.cell? ⟨w.heap.size,0,none⟩=some (.int .i64 (N:Int))∧w'.cell? ⟨w.heap.size,1,none⟩=some (.int .i64 (S:Int))∧w'.cell? ⟨w.heap.size,2,none⟩=some (.int .i64 nt)∧w'.cell? ⟨w.heap.size,3,none⟩=some (.slice ao l.length cap)) w2 from ⟨(hb.cell (p:=⟨w.heap.size,0,none⟩) hbl0').trans hS0.1,(hb.cell (p:=⟨w.heap.size,1,none⟩) hbl0').trans hS0.2.1,(hb.cell (p:=⟨w.heap.size,2,none⟩) hbl0').trans hS0.2.2.1,(hb.cell (p:=⟨w.heap.size,3,none⟩) hbl0').trans hS0.2.2.2⟩)
   refine HK.out _ _ ⟨hS1,?_⟩
   clear HK K'
   try simp only [Act.put,Rh.q1,Rh.q2,Rh.q3]
   refine Rh.step (i:=3) (by kernel_rfl) rfl fun K' hK'=>?_
   have HK:=hid hK'
   clear hK'
   go_simp
   have HM2:=hid (bbox_made w2 (N+1) rfl)
   have hbA2:=(Below.refl w2.heap.size w2).alloc (Nat.le_refl _) (.cells (madeCells #[.bool false] (N+1)) 4)
   have hS2:=(show (fun w'=>w'.cell? ⟨w.heap.size,0,none⟩=some (.int .i64 (N:Int))∧w'.cell? ⟨w.heap.size,1,none⟩=some (.int .i64 (S:Int))∧w'.cell? ⟨w.heap.size,2,none⟩=some (.int .i64 nt)∧w'.cell? ⟨w.heap.size,3,none⟩=some (.slice ao l.length cap)) (w2.alloc (.cells (madeCells #[.bool false] (N+1)) 4)) from ⟨held_alloc hS1.1,held_alloc hS1.2.1,held_alloc hS1.2.2.1,held_alloc hS1.2.2.2⟩)
   refine HK.out _ _ ⟨hS2,?_⟩
   clear HK K'
   try simp only [Act.put,Rh.q1,Rh.q2,Rh.q3]
   refine Rh.tp 7 6 hS2 ?_
   refine Rh.tp 8 7 hS2 ?_
   refine Rh.done (by kernel_rfl) ?_ _
   go_wp2_with fail
   go_meet
   case rel=>exact ⟨w2.heap.size,lb,lb+1,w2.heap.size,VS,rfl,rfl,HM2,hid ((RBox.of_g hgb).alloc _),hid ((HBA.out.trans (hb.mono HBA.out.size)).trans (hbA2.mono (by have:=HBA.out.size;have:=hb.size;omega))),hid (netBox_alloc (netBox_below HNA.out hb hbl0') _),hid (by have:=hlb;have:=hgb.lt;exact ⟨by omega,by omega,by omega,.inr (Nat.le_refl _)⟩)⟩
 case rest =>
 obtain ⟨bm,lb,lo,hi,VS0,rfl,rfl,HM0,HX0,HBC,HNC,HOR⟩:=hcut
 obtain ⟨n0,n1,n2,n3⟩:=netBox_cells HNC.out
 have hsi:(S:Int)<(N:Int)+1:=by omega
 have hs0:(0:Int)≤(S:Int):=by omega
 have hfz:=HM0.out.frozen S
 have hmz:=HM0.out.cell (i:=S) (by simp;omega)
 have HN1:=hid (netBox_other HNC.out (b2:=bm) (o:=S) (v2:=.bool true) (by have:=HOR.out;omega))
 obtain ⟨m0,m1,m2,m3⟩:=netBox_cells HN1.out
 have HM1:=hid (HM0.out.set (i:=S) (by simp;omega) true)
 have HX1:=hid (HX0.out.far (p:=⟨bm,S,none⟩) (by have:=HOR.out;show bm≠lb;omega) (by have:=HOR.out;show bm<lo∨hi≤bm;omega) (.bool true))
 have HB1:=hid (HBC.out.setCell (p:=⟨bm,S,none⟩) (by have:=HOR.out;show w.heap.size≤bm;omega) (.bool true))
 have HSZ:=hid (show (wc.setCell ⟨bm,S,none⟩ (.bool true)).heap.size=wc.heap.size by simp [World.setCell])
 go_wp2
 go_step3
 go_wp2
 have HO2:=hid (own_oneI (wc.setCell ⟨bm,S,none⟩ (.bool true)) (b:=wc.heap.size) HSZ.out.symm (S:Int))
 have HX2:=hid (HX1.out.alloc (.cells #[.int .i64 (S:Int)] 3))
 have HM2:=hid (HM1.out.alloc (.cells #[.int .i64 (S:Int)] 3))
 have HN2:=hid (netBox_alloc HN1.out (.cells #[.int .i64 (S:Int)] 3))
 have HB2:=hid (HB1.out.alloc (by rw [HSZ.out];exact HBC.out.size) (.cells #[.int .i64 (S:Int)] 3))
 have HBB:=hid (show bm<wc.heap.size∧lb<wc.heap.size∧hi≤wc.heap.size∧w.heap.size<wc.heap.size from ⟨HM0.out.lt,HX0.out.lt,HX0.out.sz,by have:=HOR.out;have:=HM0.out.lt;omega⟩)
 obtain ⟨B,hBw⟩:∃ B,B=wc.heap.size:=⟨_,rfl⟩
 rw [← hBw] at HO2 HBB ⊢
 have HZ2:=hid (show B<((wc.setCell ⟨bm,S,none⟩ (.bool true)).alloc (.cells #[.int .i64 (S:Int)] 3)).heap.size by simp [HSZ.out,hBw])
 clear hBw hmz hfz m0 m1 m2 m3 n0 n1 n2 n3 HM0 HX0 HNC HBC HN1 HM1 HX1 HB1 HSZ
 generalize ((wc.setCell ⟨bm,S,none⟩ (.bool true)).alloc (.cells #[.int .i64 (S:Int)] 3))=W2 at *
 go_loopg [9] (2*unmet ((List.replicate (N+1) false).set S true)+1) (fun g s wr=>∃ (v:Value) (way:List Nat) (M:List Bool) (VS:Nat→Value) (U:Nat→List Nat),v=s∧g=2*unmet M+way.length∧Hid (DF M way U)∧Hid (OwnI wr B v (encW way))∧Hid (BBox wr bm M)∧Hid (RBox wr lb lo hi (N+1) VS U)∧Hid (Below w.heap.size w wr)∧Hid (NetBox wr w.heap.size (N:Int) (S:Int) nt (.slice ao l.length cap))∧Hid (B<wr.heap.size))
 case atStart=>exact ⟨_,[S],_,VS0,U0,rfl,by simp,HD0,HO2,HM2,HX2,HB2,HN2,HZ2⟩
 case round =>
  obtain ⟨v,way,M,VS,U,rfl,hgk,HD,HOW,HMW,HXW,HBW,HNW,HZW⟩:=hrel
  obtain ⟨hsu,hml,hfw,hwn⟩:=HSUB.out M way U HD.out
  have HGK:=hid hgk
  have HSU:=hid hsu
  have HML:=hid hml
  have HWN:=hid hwn
  clear hgk hsu hml hwn
  by_cases hway:way=[]
  ·subst hway
   obtain ⟨o9,c9,hv9,_⟩:=Rw.own_row encI_len HOW.out
   have HE:=hid (HEND.out M U HD.out)
   have hv9':v=.slice o9 0 c9:=hv9
   subst hv9'
   clear hv9
   go_wp2
   try rw [Exit.noGoto_ret]
   go_ret
   exact ⟨bm,M,rfl,HE.out,HMW.out,HBW.out⟩
  obtain ⟨W0,u,hw⟩:=reach_len hway
  subst hw
  clear hway
  obtain ⟨g,c9,rfl,hgB,hgw,hc9,d9⟩:=ownI_row HOW.out
  have HW0:=hid (show (W0 ++ [u]).length=W0.length+1 by simp)
  have HEW:=hid (show OwnI wr B (.slice (some ⟨g,0,none⟩) (W0.length+1) c9) (encW W0 ++ [(u:Int)]) by have:=HOW.out;rwa [encW_snoc] at this)
  have hfw2:W0.length+1+unmet M≤N+1:=by rw [HW0.out] at hfw;exact hfw
  clear hfw
  have hu:=HWN.out u (by simp)
  have hui:(u:Int)<(N:Int)+1:=by omega
  have hu0:(0:Int)≤(u:Int):=by omega
  obtain ⟨A,c,hVS,hlc,hcm,hrow⟩:=HXW.out.each u hu
  have HRO:=hid hrow
  have HVS:=hid hVS
  have e0:=HXW.out.cell hu
  rw [hVS] at e0
  have HRU:=hid (fun (k:Nat) (hk:k<(U u).length)=>HSU.out u hu _ (getD_mem hk))
  have HLE:=hid (show (U u).length≤c from hlc)
  have hLm:(U u).length≤9223372036854775807:=by unfold maxLen at hcm;omega
  clear hVS hrow hlc hcm
  obtain ⟨n0,n1,n2,n3⟩:=netBox_cells HNW.out
  have hp0:(0:Int)≤(W0.length:Int):=by omega
  obtain ⟨L,hL⟩:∃ L,L=(U u).length:=⟨_,rfl⟩
  rw [← hL] at e0 HVS HRU HLE hLm
  have HL:=hid hL
  clear hL
  obtain ⟨p,hp⟩:∃ p,p=W0.length:=⟨_,rfl⟩
  rw [← hp] at d9 hc9 HEW hfw2 hp0 HW0 ⊢
  have HPL:=hid hp
  clear hp
  have hpp:(p:Int)<(p:Int)+1:=by omega
  go_wp2
  clear n0 n1 n2 n3 d9 e0
  go_loopg [9,42] L (fun g2 s i wy=>∃ k:Nat,s=.slice (some ⟨g,0,none⟩) (p+1) c9∧i=.int .i64 k∧k+g2=L∧Hid (Below wr.heap.size wr wy)∧Hid (∀ j,j<k→x≤RO ((U u).getD j 0)→M.getD (TT ((U u).getD j 0)) false=true))
  case atStart=>exact ⟨0,rfl,rfl,by omega,hid (Below.refl _ _),hid (fun j hj=>absurd hj (by omega))⟩
  case round =>
   obtain ⟨k,rfl,rfl,hkg,HBY,HCL⟩:=hrel
   by_cases hlt:k<L
   ·rcases HRO.out with h | ⟨b,off,rfl,hb1,hb2,hbc⟩
    ·exact absurd hlt (by rw [HL.out,h];simp)
    have hki:(k:Int)<(L:Int):=by omega
    have hk0:(0:Int)≤(k:Int):=by omega
    obtain ⟨r,hr⟩:∃ r,r=(U u).getD k 0:=⟨_,rfl⟩
    have hr2:r<2*l.length:=by rw [hr];exact HRU.out k hlt
    have d0:=(HBY.out.cell (p:=⟨b,off+k,none⟩) (by have:=HXW.out.sz;show b<_;omega)).trans (hbc k (by rw [← HL.out];exact hlt))
    rw [← hr] at d0
    have EN:=hid (fun w'=>HEN.out r hr2 w')
    have RM:=hid (fun w'=>HRM.out r w' hr2)
    have htn:=HTB.out r hr2
    have HBB2:=hid hb1
    have HCL2:=hid (show (x≤RO r→M.getD (TT r) false=true)→∀ j,j<k+1→x≤RO ((U u).getD j 0)→M.getD (TT ((U u).getD j 0)) false=true from fun h j hj=>by
     by_cases e:j=k
     ·subst e;rw [← hr];exact h
     ·exact HCL.out j (by omega))
    have HPP:=hid (fun (h1:x≤RO r) (h2:M.getD (TT r) false=false)=>HPU.out M W0 u U HD.out hu k r (by rw [← HL.out];exact hlt) hr.symm HCL.out h1 h2)
    have HRR:=hid hr
    clear hr
    generalize TT r=tn at *
    generalize TF r=y at *
    generalize RO r=ro at *
    have hti:(tn:Int)<(N:Int)+1:=by omega
    have ht0:(0:Int)≤(tn:Int):=by omega
    have HNY:=hid (netBox_below HNW.out HBY.out (netBox_lt HNW.out))
    have HBWY:=hid (HBW.out.trans (HBY.out.mono HBW.out.size))
    obtain ⟨n0,n1,n2,n3⟩:=netBox_cells HNY.out
    go_wp2_with fail
    refine (EN.out _ (HR.out.kept HBWY.out)).mono ?_
    rintro e w3 ⟨rfl,hb⟩
    have HB3:=hid (HBY.out.trans (hb.mono HBY.out.size))
    have HN3:=hid (netBox_below HNY.out hb (netBox_lt HNY.out))
    have HBW3:=hid (HBWY.out.trans (hb.mono HBWY.out.size))
    have HM3:=hid (HMW.out.kept HB3.out)
    have m0:=HM3.out.cell (i:=tn) (by rw [HML.out];exact htn)
    clear hb n0 n1 n2 n3 d0
    obtain ⟨n0,n1,n2,n3⟩:=netBox_cells HN3.out
    by_cases hm:M.getD tn false=true
    ·rw [hm] at m0
     have HC:=hid (HCL2.out (fun _=>hm))
     clear hm
     go_wp2
     go_roundg (L-(k+1))
     case measure=>omega
     case rel=>exact ⟨k+1,rfl,by go_num,by omega,HB3,HC⟩
    have hmf:M.getD tn false=false:=by simpa using hm
    rw [hmf] at m0
    go_wp2_with fail
    refine (RM.out _ (HR.out.kept HBW3.out) (HF.out.kept HBW3.out)).mono ?_
    rintro e w4 ⟨rfl,hb⟩
    have HB4:=hid (HB3.out.trans (hb.mono HB3.out.size))
    have HN4:=hid (netBox_below HN3.out hb (netBox_lt HN3.out))
    have HBW4:=hid (HBW3.out.trans (hb.mono HBW3.out.size))
    clear hb n0 n1 n2 n3 m0
    by_cases hro:ro<x
    ·have hro':decide (ro<x)=true:=by simpa using hro
     have HC:=hid (HCL2.out (fun h=>absurd h (by omega)))
     clear hro hm hmf
     go_wp2
     go_roundg (L-(k+1))
     case measure=>omega
     case rel=>exact ⟨k+1,rfl,by go_num,by omega,HB4,HC⟩
    have hro':decide (ro<x)=false:=by simpa using hro
    obtain ⟨hdf,hun⟩:=HPP.out (by omega) hmf
    have HDF:=hid hdf
    have HUN:=hid hun
    clear hdf hun hro hm hmf
    have HM4:=hid (HMW.out.kept HB4.out)
    have htl:tn<M.length:=by rw [HML.out];exact htn
    have m0:=HM4.out.cell htl
    have mf:=HM4.out.frozen tn
    have HM5:=hid ((HM4.out.set htl true).alloc (.cells #[.int .i64 (tn:Int)] 3))
    have hbb:=HBB.out
    have hor:=HOR.out
    have HN5:=hid (netBox_alloc (netBox_other HN4.out (b2:=bm) (o:=tn) (v2:=.bool true) (by omega)) (.cells #[.int .i64 (tn:Int)] 3))
    have HX5:=hid (((HXW.out.below HB4.out).far (p:=⟨bm,tn,none⟩) (by show bm≠lb;omega) (by show bm<lo∨hi≤bm;omega) (.bool true)).alloc (.cells #[.int .i64 (tn:Int)] 3))
    have HO5:=hid (Rw.own_alloc (Rw.own_set (Rw.own_below HEW.out HB4.out) (p:=⟨bm,tn,none⟩) (fun e=>by simp [Value.ownBlock] at e;omega) (.bool true)) (.cells #[.int .i64 (tn:Int)] 3))
    have HSZ5:=hid (show (w4.setCell ⟨bm,tn,none⟩ (.bool true)).heap.size=w4.heap.size by simp [World.setCell])
    have HR5:=hid (irow_one' (w4.setCell ⟨bm,tn,none⟩ (.bool true)) (b:=w4.heap.size) HSZ5.out.symm (tn:Int) 3)
    have HB5:=hid ((HBW4.out.setCell (p:=⟨bm,tn,none⟩) (by show w.heap.size≤bm;omega) (.bool true)).alloc (by rw [HSZ5.out];exact HBW4.out.size) (.cells #[.int .i64 (tn:Int)] 3))
    have HZ5:=hid (show B<((w4.setCell ⟨bm,tn,none⟩ (.bool true)).alloc (.cells #[.int .i64 (tn:Int)] 3)).heap.size by have:=HZW.out;have:=HB4.out.size;simp [HSZ5.out];omega)
    have HLN5:=hid (show (encW W0 ++ [(u:Int)]).length+([(tn:Int)]:List Int).length≤1099511627776 by simp [encW_len,← HPL.out];omega)
    have HEL:=hid (show (encW W0 ++ [(u:Int)]).length=p+1 by simp [encW_len,← HPL.out])
    have HWE:=hid (show encW (W0 ++ [u] ++ [tn])=encW W0 ++ [(u:Int)] ++ [(tn:Int)] by rw [encW_snoc,encW_snoc])
    clear hbb hor
    go_upto_region 13 with (at_builtin;refine Rw.app elemI encI_len encI_one rfl (.tmp 68) (.tmp 70) rfl B (.slice (some ⟨g,0,none⟩) (p+1) c9) (encW W0 ++ [(u:Int)]) rfl HO5.out (some ⟨w4.heap.size,0,none⟩) 1 [(tn:Int)] rfl ?hnn HR5.out HLN5.out ?hB ?_;(case hnn=>(intro h;cases h));(case hB=>(exact Nat.le_of_lt HZ5.out));intro v6 w6 hown6 hgr6;rw [← HWE.out] at hown6;obtain ⟨g6,c6,hv6,hg6,hg6w,_,_⟩:=ownI_row hown6;rw [List.length_append,List.length_singleton,← HPL.out] at hv6;subst hv6;have HO6:=hid hown6;have HG6:=hid hgr6;clear hown6 hgr6)
    have hbb:=HBB.out
    have hor:=HOR.out
    have HX6:=hid (HX5.out.grown HG6.out (fun q e=>by simp [Value.ownBlock] at e;omega))
    have HM6:=hid (HM5.out.grown HG6.out (fun e=>by simp [Value.ownBlock] at e;omega))
    have HN6:=hid (netBox_grown HN5.out HG6.out (fun e=>by simp [Value.ownBlock] at e;omega))
    have HB6:=hid (HB5.out.grown HG6.out HB5.out.size (fun q e=>by simp [Value.ownBlock] at e;omega))
    have HZ6:=hid (Nat.lt_of_lt_of_le HZ5.out HG6.out.size)
    have c0:=HX6.out.cell hu
    rw [HVS.out] at c0
    have cf:=HX6.out.frozen u
    have HCUT:=hid (RowOf.cut (by have:=HX6.out.each u hu;rw [HVS.out] at this;exact this) (show k<(U u).length by rw [← HL.out];exact hlt))
    have HO7:=hid (fun v=>Rw.own_set HO6.out (p:=⟨lb,u,none⟩) (fun e=>by simp [Value.ownBlock] at e;omega) v)
    have HM7:=hid (fun v=>HM6.out.far (p:=⟨lb,u,none⟩) (by show bm≠lb;omega) v)
    have HN7:=hid (fun v=>netBox_other HN6.out (b2:=lb) (o:=u) (v2:=v) (by omega))
    have HB7:=hid (fun v=>HB6.out.setCell (p:=⟨lb,u,none⟩) (by show w.heap.size≤lb;omega) v)
    have HZ7:=hid (fun v=>show B<(w6.setCell ⟨lb,u,none⟩ v).heap.size by have:=HZ6.out;simpa [World.setCell] using this)
    have HX7:=hid (HX6.out.put hu HCUT.out)
    have hkL:(k:Int)+1≤(L:Int):=by omega
    clear hbb hor m0 mf
    have HME:=hid (show 2*unmet (M.set tn true)+(W0 ++ [u] ++ [tn]).length<2*unmet M+(W0 ++ [u]).length by have:=HUN.out;simp;omega)
    by_cases hck:c=k+1
    ·obtain rfl:=hck
     have HX8:=hid HX7.out
     rw [if_pos rfl,Nat.sub_self] at HX8
     clear HO6 HG6 HX6 HM6 HN6 HB6 HZ6 HX7 HCUT
     go_wp2
     go_roundg (2*unmet (M.set tn true)+(W0 ++ [u] ++ [tn]).length)
     case measure=>have:=HGK.out;have:=HME.out;omega
     case rel=>exact ⟨_,W0 ++ [u] ++ [tn],M.set tn true,_,_,rfl,rfl,HDF,hid (HO7.out _),hid (HM7.out _),HX8,hid (HB7.out _),hid (HN7.out _),hid (HZ7.out _)⟩
    ·have HX8:=hid HX7.out
     rw [if_neg hck] at HX8
     simp only [Option.map_some,Rw.add_at] at HX8
     clear HO6 HG6 HX6 HM6 HN6 HB6 HZ6 HX7 HCUT
     go_wp2
     go_roundg (2*unmet (M.set tn true)+(W0 ++ [u] ++ [tn]).length)
     case measure=>have:=HGK.out;have:=HME.out;omega
     case rel=>exact ⟨_,W0 ++ [u] ++ [tn],M.set tn true,_,_,rfl,rfl,HDF,hid (HO7.out _),hid (HM7.out _),HX8,hid (HB7.out _),hid (HN7.out _),hid (HZ7.out _)⟩
   ·have ek:k=L:=by omega
    subst ek
    have HDP:=hid (HPO.out M W0 u U HD.out (fun j hj=>HCL.out j (by rw [HL.out];exact hj)))
    have hc0:¬ c9=0:=by omega
    have HO8:=hid (Rw.own_below (own_less HEW.out) HBY.out)
    have HBW8:=hid (HBW.out.trans (HBY.out.mono HBW.out.size))
    have HN8:=hid (netBox_below HNW.out HBY.out (netBox_lt HNW.out))
    have hpc:p≤c9:=by omega
    go_wp2
    go_roundg (2*unmet M+W0.length)
    case measure=>have:=HGK.out;have:=HW0.out;have:=HPL.out;omega
    case rel=>exact ⟨_,W0,M,VS,U,rfl,rfl,HDP,by rw [encW_len,← HPL.out] at HO8;exact HO8,hid (HMW.out.kept HBY.out),hid (HXW.out.below HBY.out),HBW8,HN8,hid (Nat.lt_of_lt_of_le HZW.out HBY.out.size)⟩
end Ne
end Go.Proofs.YthhlfphnokdfaaaGreat
