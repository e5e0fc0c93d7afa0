/-
  Sr4
-/
import Derived.Test.YtoadkckceladgaaGreatBb12
import Derived.Deep.LoopGhost
import Derived.Deep.DeepCutAuto
import Derived.WalkMore
import Derived.RegionTactic
import Derived.BigRegion
set_option linter.unusedVariables false
set_option linter.unusedSimpArgs false
set_option maxRecDepth 100000
set_option maxHeartbeats 4000000
namespace Go.Proofs.YtoadkckceladgaaGreat
open Go.ChangeShapes Go.WideShapes Go.ChangeAt Go.RowKit
open Lib (hid)
namespace Ne
theorem own_ne_sblk {w:World} {B b:Nat} {v av rv uv:Value} {l:List Int} {n s t x:Int} (h:OwnI w B v l) (hb:SBlk w b n s t av rv x uv):v.ownBlock≠some b:=by
 obtain ⟨_,h2⟩:=h
 rcases h2 with ⟨hv,_⟩ | ⟨g,cap,cur,hv,_,hh,_⟩
 ·rw [hv];simp [Value.ownBlock]
 ·rw [hv]
  intro e
  simp [Value.ownBlock] at e
  subst e
  unfold SBlk at hb
  rw [hh] at hb
  simp at hb
def headL (l:List Arc) (TL:List Nat) (k v:Nat):List Nat:=(TL.take k).filter fun r=>decide ((trF l r).toNat=v)
theorem headL_step {l:List Arc} {TL:List Nat} {k:Nat} (hk:k<TL.length) (v:Nat):(if v=(trF l (TL.getD k 0)).toNat then headL l TL k (trF l (TL.getD k 0)).toNat ++ [TL.getD k 0] else headL l TL k v)=headL l TL (k+1) v:=by
 unfold headL
 rw [take_getD hk,List.filter_append]
 generalize TL.getD k 0=r
 by_cases e:v=(trF l r).toNat
 ·subst e
  rw [if_pos rfl]
  simp
 ·rw [if_neg e]
  have e2:¬ (trF l r).toNat=v:=fun h=>e h.symm
  simp [e2]
theorem headL_len (l:List Arc) (TL:List Nat) (k v:Nat):(headL l TL k v).length≤k:=by
 unfold headL
 exact Nat.le_trans (List.length_filter_le _ _) (by rw [List.length_take];omega)
section
variable {n:Net} (ao:Option Addr) (cap:Nat) (fo:Option Addr) (fc:Nat) {f:List Int} (x:Int) (w:World) {TL:List Nat} {L:List Int}
set_option maxHeartbeats 8000000 in
theorem newSearch_any (ck:checkN n=0) (hr:ARow w ao n.l) (hf:IRow w fo f) (hF:Okf n f) (hL:Lds n.l L TL) (hTL:TL.length≤1000000) (lo':Option Addr) (lc:Nat) (hl:IRow w lo' (encW TL)) :
  Calls Tryz.prog 92 #[encN n ao cap,.slice fo n.l.length fc,.slice lo' TL.length lc,.int .i64 x] w fun e w'=>∃ sb lb lo hi rv VS,e=.returned (.tuple #[.pointer (some ⟨sb,0,none⟩),.int .i64 0]) ∧
   SrM n ao cap x w w' sb lb lo hi rv (roomL n.l f (2*n.l.length)) VS (fun v=>TL.filter fun r=>decide ((trF n.l r).toNat=v))∧Below w.heap.size w w':=by
 have hR:=right_of ck
 have hN1:=hR.n1
 have hN0:=hR.n0
 have RM:=hid (fun w' h1 h2=>show Calls Tryz.prog 58 #[encN n ao cap,.slice fo n.l.length fc] w' fun e w2=>∃ v,e=.returned (.tuple #[v,.int .i64 0])∧OwnL w2 w'.heap.size v (roomL n.l f (2*n.l.length))∧Below w'.heap.size w' w2 by
  have h:=droom_any n ao cap fo fc f w' h1 h2 (by have:=hR.len;omega) (cap_64 hR)
  have e:roomV n f=roomL n.l f (2*n.l.length):=by unfold roomV;rw [if_neg (by simpa using hF.chk ck)]
  rwa [e,hF.chk ck,hF.len] at h)
 have HTR:=hid (fun w' (h1:ARow w' ao n.l) r (hr:r<2*n.l.length)=>ends_nat n ao cap r w' hR h1 hr)
 have HTF:=hid (show ∀ k,k<TL.length→TL.getD k 0<2*n.l.length∧(trF n.l (TL.getD k 0)).toNat<n.n.toNat+1 from fun k hk=>by
  have:=hL.lt _ (getD_mem hk)
  have:=trF_bd hR this
  exact ⟨by assumption,by omega⟩)
 have HST:=hid (fun k (hk:k<TL.length) v=>headL_step (l:=n.l) hk v)
 have HHL:=hid (fun k v=>headL_len n.l TL k v)
 have HEND:=hid (show ∀ v,headL n.l TL TL.length v=TL.filter fun r=>decide ((trF n.l r).toNat=v) from fun v=>by unfold headL;rw [List.take_length])
 have HBEG:=hid (show ∀ v,headL n.l TL 0 v=[] from fun v=>rfl)
 have HLR:=hid (show ∀ k,k<TL.length→∃ b off,lo' = some ⟨b,off,none⟩∧b<w.heap.size∧w.cell? ⟨b,off+k,none⟩=some (.int .i64 ((TL.getD k 0:Nat):Int)) from fun k hk=>by
  obtain ⟨b,off,h1,h2,h3⟩:=irow_cell hl (i:=k) (by rw [encW_len];exact hk)
  rw [encW_at hk] at h3
  exact ⟨b,off,h1,h2,h3⟩)
 rw [show (fun v=>TL.filter fun r=>decide ((trF n.l r).toNat=v))=headL n.l TL TL.length from funext fun v=>(HEND.out v).symm]
 have HF:=hid hf
 have HR:=hid hr
 have HTLL:=hid hTL
 clear hr hf hl hL HEND hTL
 generalize headL n.l TL=FT at *
 generalize roomL n.l f (2*n.l.length)=RL at *
 obtain ⟨nn,ns,nt,l⟩:=n
 simp only at RM HTR HTF HST HR hN1 hN0 ⊢
 obtain ⟨N,rfl⟩:∃ N:Nat,nn=(N:Int):=⟨nn.toNat,by omega⟩
 have HB0:=hid ((Below.refl w.heap.size w).alloc (Nat.le_refl _) (.cells #[.int .i64 (N:Int),.int .i64 ns,.int .i64 nt,.slice ao l.length cap] 24))
 have HN0:=hid (netBox_new w (N:Int) ns nt (.slice ao l.length cap))
 obtain ⟨n0,n1,n2,n3⟩:=netBox_cells HN0.out
 have hmk:=make_r (N+1) (by omega)
 simp only [Int.natCast_add,Int.natCast_one] at hmk
 have hwN:IntKind.i64.wrap ((N:Int)+1)=(N:Int)+1:=by rw [IntKind.wrap_i64];omega
 go_enter Tryz.func92,Tryz.ntmps92
 go_wp2_with fail
 refine (RM.out _ (HR.out.kept HB0.out) (HF.out.kept HB0.out)).mono ?_
 rintro e w2 ⟨rv,rfl,hown,hb⟩
 have HB2:=hid (HB0.out.trans (hb.mono HB0.out.size))
 have HN2:=hid (netBox_below HN0.out hb (netBox_lt HN0.out))
 have HO2:=hid (Rw.own_base hown (B':=w.heap.size) HB0.out.size)
 have HNL:=hid (netBox_lt HN2.out)
 clear hown hb n0 n1 n2 n3
 obtain ⟨n0,n1,n2,n3⟩:=netBox_cells HN2.out
 have hnl:=HNL.out
 obtain ⟨ro,rc,hrv,_,_,_,_,_,_⟩:=Rw.own_row encI_len HO2.out
 subst hrv
 have HRB:=hid (Rw.own_lt HO2.out)
 go_wp2
 go_region
 have HG3:=hid (gbox_made w2 (N+1) (b:=w2.heap.size) rfl)
 have HG4:=hid ((HG3.out.alloc (.cells #[.int .i64 (N:Int),.int .i64 ns,.int .i64 nt,.slice ao l.length cap,.slice ro RL.length rc,.int .i64 x,.slice (some ⟨w2.heap.size,0,none⟩) (N+1) (N+1)] 152)).below (below_drew (Below.refl _ _)))
 have HB3:=hid ((Below.refl w2.heap.size w2).alloc (Nat.le_refl _) (.cells (madeCells #[.slice none 0 0] (N+1)) 53))
 have HB4:=hid (below_drew (HB3.out.alloc HB3.out.size (.cells #[.int .i64 (N:Int),.int .i64 ns,.int .i64 nt,.slice ao l.length cap,.slice ro RL.length rc,.int .i64 x,.slice (some ⟨w2.heap.size,0,none⟩) (N+1) (N+1)] 152)))
 have HS4:=hid (sblk_same (sblk_new (w2.alloc (.cells (madeCells #[.slice none 0 0] (N+1)) 53)) (b:=w2.heap.size+1) (by simp) (N:Int) ns nt x (.slice ao l.length cap) (.slice ro RL.length rc) (.slice (some ⟨w2.heap.size,0,none⟩) (N+1) (N+1))) (show ((w2.alloc (.cells (madeCells #[.slice none 0 0] (N+1)) 53)).alloc (.cells #[.int .i64 (N:Int),.int .i64 ns,.int .i64 nt,.slice ao l.length cap,.slice ro RL.length rc,.int .i64 x,.slice (some ⟨w2.heap.size,0,none⟩) (N+1) (N+1)] 152)).drew.heap[w2.heap.size+1]? = _ from rfl))
 have HN4:=hid (netBox_below HN2.out HB4.out (netBox_lt HN2.out))
 have HO4:=hid (Rw.own_below HO2.out HB4.out)
 have HBB4:=hid (HB2.out.trans (HB4.out.mono HB2.out.size))
 have HLW:=hid (show w.heap.size<w2.heap.size from hnl)
 clear hmk hwN n0 n1 n2 n3 hnl HB3 HG3 HB0 HN0
 generalize ((w2.alloc (.cells (madeCells #[.slice none 0 0] (N+1)) 53)).alloc (.cells #[.int .i64 (N:Int),.int .i64 ns,.int .i64 nt,.slice ao l.length cap,.slice ro RL.length rc,.int .i64 x,.slice (some ⟨w2.heap.size,0,none⟩) (N+1) (N+1)] 152)).drew=W4 at *
 obtain ⟨lb,hlb⟩:∃ lb,lb=w2.heap.size:=⟨_,rfl⟩
 rw [← hlb] at HG4 HS4 HRB HLW ⊢
 have HLB:=hid hlb
 clear hlb
 obtain ⟨sb,hsb⟩:∃ sb,sb=lb+1:=⟨_,rfl⟩
 rw [← hsb] at HS4 ⊢
 have HSB:=hid hsb
 clear hsb
 have HG5:=hid (gbox_same HG4.out (U':=FT 0) (fun v _=>(HBEG.out v).symm))
 obtain ⟨K,hK⟩:∃ K,K=TL.length:=⟨_,rfl⟩
 rw [← hK] at HLR HTF HST HTLL ⊢
 have HKT:=hid hK
 clear hK
 go_wp2
 go_loopw [37] (fun i wr=>∃ (j:Nat) (VS:Nat→Value),i=.int .i64 j∧j≤K∧Hid (GBox wr lb (N+1) VS (FT j))∧Hid (SBlk wr sb (N:Int) ns nt (.slice ao l.length cap) (.slice ro RL.length rc) x (.slice (some ⟨lb,0,none⟩) (N+1) (N+1)))∧Hid (OwnL wr w.heap.size (.slice ro RL.length rc) RL)∧Hid (NetBox wr w.heap.size (N:Int) ns nt (.slice ao l.length cap))∧Hid (Below w.heap.size w wr)) (fun i _=>K-(intOf i).toNat)
 case atStart=>exact ⟨0,_,rfl,Nat.zero_le _,HG5,HS4,HO4,HN4,HBB4⟩
 case round =>
  obtain ⟨j,VS,rfl,hj,HGW,HSW,HOW,HNW,HBW⟩:=hrel
  by_cases hlt:j<K
  ·obtain ⟨n0,n1,n2,n3⟩:=netBox_cells HNW.out
   obtain ⟨hr1,htb⟩:=HTF.out j hlt
   obtain ⟨b,off,rfl,hbl,hd⟩:=HLR.out j hlt
   have d0:=(HBW.out.cell (p:=⟨b,off+j,none⟩) hbl).trans hd
   have HSJ:=hid (HST.out j hlt)
   have EN:=hid (fun w' h1=>HTR.out w' h1 _ hr1)
   generalize TL.getD j 0=r at *
   generalize (trT l r).toNat=y at *
   generalize (trF l r).toNat=t at *
   have hji:(j:Int)<(K:Int):=by omega
   have hjw:IntKind.i64.wrap ((j:Int)+1)=(j:Int)+1:=by have:=HTLL.out;rw [IntKind.wrap_i64];omega
   have hj0:(0:Int)≤(j:Int):=by omega
   have hti:(t:Int)<(N:Int)+1:=by omega
   have htN:t<N+1:=htb
   have ht0:(0:Int)≤(t:Int):=by omega
   clear hd hbl
   go_wp2_with fail
   refine (EN.out _ (HR.out.kept HBW.out)).mono ?_
   rintro e w5 ⟨rfl,hb⟩
   have HB5:=hid (HBW.out.trans (hb.mono HBW.out.size))
   have HN5:=hid (netBox_below HNW.out hb (netBox_lt HNW.out))
   have HS5:=hid (sblk_same HSW.out (hb.block _ (sblk_lt HSW.out)))
   have HO5:=hid (Rw.own_below HOW.out hb)
   have HG5:=hid (HGW.out.below hb)
   have u0:=HG5.out.cell htN
   have uf:=World.rowIs.frozen HG5.out.row t
   have HV6:=hid (Rw.own_alloc (HG5.out.own t htN) (.cells #[.int .i64 (r:Int)] 3))
   have HG6:=hid (HG5.out.alloc (.cells #[.int .i64 (r:Int)] 3))
   have HR6:=hid (irow_one' w5 rfl (r:Int) 3)
   have HLN:=hid (show (encW (FT j t)).length+([(r:Int)]:List Int).length≤1099511627776 by have:=HHL.out j t;have:=HTLL.out;rw [encW_len];simp;omega)
   have HA6:=hid ((Below.refl w5.heap.size w5).alloc (Nat.le_refl _) (.cells #[.int .i64 (r:Int)] 3))
   have HB6:=hid (HB5.out.trans (HA6.out.mono HB5.out.size))
   have HN6:=hid (netBox_below HN5.out HA6.out (netBox_lt HN5.out))
   have HS6:=hid (sblk_same HS5.out (HA6.out.block _ (sblk_lt HS5.out)))
   have HO6:=hid (Rw.own_below HO5.out HA6.out)
   have HL6:=hid (show lb+1≤(w5.alloc (.cells #[.int .i64 (r:Int)] 3)).heap.size by have:=HG6.out.lt;omega)
   have HVB:=hid (Rw.own_lt HV6.out)
   have HVN:=hid (own_ne_sblk HV6.out HS6.out)
   clear hb n0 n1 n2 n3
   obtain ⟨c0,c1,c2,c3,c4,c5,c6⟩:=sblk_cells HS5.out
   obtain ⟨VT,hVT⟩:∃ VT,VT=VS t:=⟨_,rfl⟩
   have HVT:=hid hVT
   rw [← hVT] at u0 HV6 HVB HVN
   clear hVT
   obtain ⟨at_,ct,hat,_,_,hnt,_,_,hat2⟩:=Rw.own_row encI_len HV6.out
   subst hat
   have hsbl:sb<w5.heap.size:=sblk_lt HS5.out
   have hlbl:lb<w5.heap.size:=HG5.out.lt
   have HVD:=hid (show OwnI (w5.alloc (.cells #[.int .i64 (r:Int)] 3)).drew (lb+1) (.slice at_ (encW (FT j t)).length ct) (encW (FT j t)) from Rw.own_below HV6.out (below_drew (Below.refl _ _)))
   have HRD:=hid (show IRow (w5.alloc (.cells #[.int .i64 (r:Int)] 3)).drew (some ⟨w5.heap.size,0,none⟩) [(r:Int)] from HR6.out.kept (below_drew (Below.refl _ _)))
   have HLD:=hid (show lb+1≤(w5.alloc (.cells #[.int .i64 (r:Int)] 3)).drew.heap.size from HL6.out)
   have HGD:=hid (show GBox (w5.alloc (.cells #[.int .i64 (r:Int)] 3)).drew lb (N+1) VS (FT j) from HG6.out.below (below_drew (Below.refl _ _)))
   have HBD:=hid (show Below w.heap.size w (w5.alloc (.cells #[.int .i64 (r:Int)] 3)).drew from below_drew HB6.out)
   have HND:=hid (show NetBox (w5.alloc (.cells #[.int .i64 (r:Int)] 3)).drew w.heap.size (N:Int) ns nt (.slice ao l.length cap) from HN6.out)
   have HSD:=hid (show SBlk (w5.alloc (.cells #[.int .i64 (r:Int)] 3)).drew sb (N:Int) ns nt (.slice ao l.length cap) (.slice ro RL.length rc) x (.slice (some ⟨lb,0,none⟩) (N+1) (N+1)) from HS6.out)
   have HOD:=hid (show OwnL (w5.alloc (.cells #[.int .i64 (r:Int)] 3)).drew w.heap.size (.slice ro RL.length rc) RL from Rw.own_below HO6.out (below_drew (Below.refl _ _)))
   clear HV6 HR6 HL6 HG6 HB6 HN6 HS6 HO6 HA6 HG5 HB5 HN5 HS5 HO5
   go_wp2
   go_upto_region 9 with fail
   have hS0:=(show (fun w'=>w'.cell? ⟨sb,6,none⟩=some (.slice (some ⟨lb,0,none⟩) (N+1) (N+1))∧w'.cell? ⟨lb,t,none⟩=some (.slice at_ (encW (FT j t)).length ct)) w5.drew from ⟨c6,u0⟩)
   have hS1:=(show (fun w'=>w'.cell? ⟨sb,6,none⟩=some (.slice (some ⟨lb,0,none⟩) (N+1) (N+1))∧w'.cell? ⟨lb,t,none⟩=some (.slice at_ (encW (FT j t)).length ct)) (w5.alloc (.cells #[.int .i64 (r:Int)] 3)).drew from ⟨held_new c6,held_new u0⟩)
   refine Rg.start (S:=(fun w'=>w'.cell? ⟨sb,6,none⟩=some (.slice (some ⟨lb,0,none⟩) (N+1) (N+1))∧w'.cell? ⟨lb,t,none⟩=some (.slice at_ (encW (FT j t)).length ct))) (last:=16) (by kernel_rfl) ?_
   refine Rg.tp 40 0 hS0 ?_
   refine Rg.tp 40 1 hS0 ?_
   refine Rg.tp 40 2 hS0 ?_
   refine Rg.tp 40 3 hS0 ?_
   refine Rg.tp 40 4 hS0 ?_
   refine Rg.tp 40 5 hS0 ?_
   refine Rg.tp 40 6 hS0 ?_
   refine Rg.tp 40 7 hS0 ?_
   refine Rg.tp 40 8 hS0 ?_
   refine Rg.tp 40 9 hS0 ?_
   refine Rg.tp 40 10 hS0 ?_
   refine Rg.tp 40 11 hS0 ?_
   refine Rg.tp 40 12 hS0 ?_
   refine Rg.step (i:=13) (by kernel_rfl) rfl fun K' hK'=>?_
   have HK:=hid hK'
   clear hK'
   go_simp
   refine HK.out _ _ ⟨fun _=>hS1,?_⟩
   clear HK K'
   try simp only [Act.put,Rh.q1,Rh.q2,Rh.q3]
   refine Rg.step (i:=14) (by kernel_rfl) rfl fun K' hK'=>?_
   refine Rw.stepAt elemI encI_len encI_one (by rfl) (.tmp 58) (.tmp 60) (by rfl) (lb+1) (.slice at_ (encW (FT j t)).length ct) (encW (FT j t)) (by rfl) HVD.out ⟨w5.heap.size,0,none⟩ 1 [(r:Int)] 1 rfl (by rfl) HRD.out HLN.out HLD.out ?_
   intro v' w' hown' hgrow hat'
   rw [← encW_snoc] at hown'
   obtain ⟨o4,c4v,hv4,_,_,_,_⟩:=Rw.own_row encI_len hown'
   rw [encW_len,List.length_append,List.length_singleton] at hv4
   subst hv4
   have HOW':=hid hown'
   have HGR:=hid hgrow
   have HAT:=hid hat'
   have uf':=World.rowIs.frozen (World.rowIs.of_block HGD.out.row (hgrow.block lb HGD.out.lt (fun e=>by have:=(HVB.out lb e.symm).1;omega))) t
   have hS2:=(show (fun w'=>w'.cell? ⟨sb,6,none⟩=some (.slice (some ⟨lb,0,none⟩) (N+1) (N+1))∧w'.cell? ⟨lb,t,none⟩=some (.slice at_ (encW (FT j t)).length ct)) w' from ⟨held_grow hgrow HVN.out c6,held_grow hgrow (fun e=>by have:=(HVB.out lb e).1;omega) u0⟩)
   clear hown' hgrow hat'
   refine hK' _ _ ⟨fun _=>hS2,?_⟩
   clear hK' K'
   try simp only [Act.put,Rh.q1,Rh.q2,Rh.q3]
   refine Rg.tp 40 15 hS2 ?_
   refine Rg.step (i:=16) (by kernel_rfl) rfl fun K' hK'=>?_
   have HK:=hid hK'
   clear hK'
   go_simp
   refine HK.out _ _ ⟨fun h=>absurd rfl h,?_⟩
   clear HK K'
   try simp only [Act.put,Rh.q1,Rh.q2,Rh.q3]
   refine Rg.finished (by kernel_rfl) ?_ _
   have HG9:=hid (gbox_same (GBox.put HGD.out htN (u:=FT j t ++ [r]) (by rw [← HVT.out];exact HGR.out) HOW'.out (by rw [← HVT.out];exact HAT.out)) (U':=FT (j+1)) (fun v hv=>HSJ.out v))
   have HRR:=hid (show ∀ g,(Value.slice at_ (encW (FT j t)).length ct).ownBlock=some g→lb+1≤g from fun g hg=>(HVB.out g hg).1)
   have HS9:=hid (sblk_same (sblk_same HSD.out (HGR.out.block sb (sblk_lt HSD.out) (fun e=>HVN.out e.symm))) (w2:=w'.setCell ⟨lb,t,none⟩ (.slice o4 ((FT j t).length+1) c4v)) (Below.heap_setCell _ _ _ _ (by have:=HSB.out;show sb≠lb;omega)))
   have HO9:=hid (own_same (own_same HOD.out (w2:=w') fun g hg=>HGR.out.block g (Rw.own_lt HOD.out g hg).2 (fun e=>by have:=HRR.out g e.symm;have:=(HRB.out g hg).2;omega)) (w2:=w'.setCell ⟨lb,t,none⟩ (.slice o4 ((FT j t).length+1) c4v)) fun g hg=>Below.heap_setCell _ _ _ _ (by have:=(HRB.out g hg).2;show g≠lb;omega))
   have HN9:=hid (netBox_other (netBox_grown HND.out HGR.out (fun e=>by have:=HRR.out _ e.symm;have:=HLW.out;omega)) (b2:=lb) (o:=t) (v2:=.slice o4 ((FT j t).length+1) c4v) (by have:=HLW.out;omega))
   have HB9:=hid ((HBD.out.grown HGR.out HBD.out.size (fun g hg=>by have:=HRR.out g hg;have:=HLW.out;omega)).setCell (p:=⟨lb,t,none⟩) (by have:=HLW.out;show w.heap.size≤lb;omega) (.slice o4 ((FT j t).length+1) c4v))
   go_wp2
   refine ⟨?rel,?measure⟩
   case rel=>exact ⟨j+1,_,by go_num,by omega,HG9,HS9,HO9,HN9,HB9⟩
   case measure=>simp [intOf];omega
  ·have ej:K=j:=by omega
   subst ej
   clear hlt
   go_wp2
   go_ret2
   have HGE:=hid (show GBox wr lb (N+1) VS (FT TL.length) by rw [← HKT.out];exact HGW.out)
   have hlb:=HLB.out
   have hsb:=HSB.out
   exact ⟨sb,lb,lb+1,wr.heap.size,_,VS,rfl,⟨HR.out,HBW.out,HSW.out,HOW.out,RBox.of_g HGE.out,⟨by have:=HLW.out;omega,by have:=HLW.out;omega⟩,by omega,fun g hg=>by have:=(HRB.out g hg).2;exact ⟨by omega,by omega,.inl (by omega)⟩⟩,HBW.out⟩
end
end Ne
end Go.Proofs.YtoadkckceladgaaGreat
