/-
  Sr4, Tsu
-/
import Derived.Test.YthhlfphnokdfaaaGreatBf30
import Derived.Deep.LoopGhost
import Derived.Deep.DeepCutAuto
import Derived.WalkMore
import Derived.RegionTactic
import Derived.BigRegion
import Derived.Test.YthhlfphnokdfaaaGreatBf33
set_option linter.unusedVariables false
set_option linter.unusedSimpArgs false
set_option maxRecDepth 100000
set_option maxHeartbeats 4000000
namespace Go.Proofs.YthhlfphnokdfaaaGreat
open Go.ChangeShapes Go.WideShapes Go.ChangeAt Go.RowKit
open Lib (hid)
namespace Ne
theorem own_ne_sblk {w:World} {B b:Nat} {v av rv uv:Value} {l:List Int} {n s t x:Int} (h:OwnI w B v l) (hb:SBlk w b n s t av rv x uv):v.ownBlock≠some b:=by
 obtain ⟨_,h2⟩:=h
 rcases h2 with ⟨hv,_⟩ | ⟨g,cap,cur,hv,_,hh,_⟩
 ·rw [hv];simp [Value.ownBlock]
 ·rw [hv]
  intro e
  simp [Value.ownBlock] at e
  subst e
  unfold SBlk at hb
  rw [hh] at hb
  simp at hb
def headL (l:List Arc) (TL:List Nat) (k v:Nat):List Nat:=(TL.take k).filter fun r=>decide ((trF l r).toNat=v)
theorem headL_step {l:List Arc} {TL:List Nat} {k:Nat} (hk:k<TL.length) (v:Nat):(if v=(trF l (TL.getD k 0)).toNat then headL l TL k (trF l (TL.getD k 0)).toNat ++ [TL.getD k 0] else headL l TL k v)=headL l TL (k+1) v:=by
 unfold headL
 rw [take_getD hk,List.filter_append]
 generalize TL.getD k 0=r
 by_cases e:v=(trF l r).toNat
 ·subst e
  rw [if_pos rfl]
  simp
 ·rw [if_neg e]
  have e2:¬ (trF l r).toNat=v:=fun h=>e h.symm
  simp [e2]
theorem headL_len (l:List Arc) (TL:List Nat) (k v:Nat):(headL l TL k v).length≤k:=by
 unfold headL
 exact Nat.le_trans (List.length_filter_le _ _) (by rw [List.length_take];omega)
section
variable {n:Net} (ao:Option Addr) (cap:Nat) (fo:Option Addr) (fc:Nat) {f:List Int} (x:Int) (w:World) {TL:List Nat} {L:List Int}
set_option maxHeartbeats 8000000 in
theorem newSearch_any (ck:checkN n=0) (hr:ARow w ao n.l) (hf:IRow w fo f) (hF:Okf n f) (hL:Lds n.l L TL) (hTL:TL.length≤1000000) (lo':Option Addr) (lc:Nat) (hl:IRow w lo' (encW TL)) :
  Calls Tryz.prog 82 #[encN n ao cap,.slice fo n.l.length fc,.slice lo' TL.length lc,.int .i64 x] w fun e w'=>∃ sb lb lo hi rv VS,e=.returned (.tuple #[.pointer (some ⟨sb,0,none⟩),.int .i64 0]) ∧
   SrM n ao cap x w w' sb lb lo hi rv (roomL n.l f (2*n.l.length)) VS (fun v=>TL.filter fun r=>decide ((trF n.l r).toNat=v))∧Below w.heap.size w w':=by
 have hR:=right_of ck
 have hN1:=hR.n1
 have hN0:=hR.n0
 have RM:=hid (fun w' h1 h2=>show Calls Tryz.prog 28 #[encN n ao cap,.slice fo n.l.length fc] w' fun e w2=>∃ v,e=.returned (.tuple #[v,.int .i64 0])∧OwnL w2 w'.heap.size v (roomL n.l f (2*n.l.length))∧Below w'.heap.size w' w2 by
  have h:=droom_any n ao cap fo fc f w' h1 h2 (by have:=hR.len;omega) (cap_64 hR)
  have e:roomV n f=roomL n.l f (2*n.l.length):=by unfold roomV;rw [if_neg (by simpa using hF.chk ck)]
  rwa [e,hF.chk ck,hF.len] at h)
 have HTR:=hid (fun w' (h1:ARow w' ao n.l) r (hr:r<2*n.l.length)=>ends_nat n ao cap r w' hR h1 hr)
 have HTF:=hid (show ∀ k,k<TL.length→TL.getD k 0<2*n.l.length∧(trF n.l (TL.getD k 0)).toNat<n.n.toNat+1 from fun k hk=>by
  have:=hL.lt _ (getD_mem hk)
  have:=trF_bd hR this
  exact ⟨by assumption,by omega⟩)
 have HST:=hid (fun k (hk:k<TL.length) v=>headL_step (l:=n.l) hk v)
 have HHL:=hid (fun k v=>headL_len n.l TL k v)
 have HEND:=hid (show ∀ v,headL n.l TL TL.length v=TL.filter fun r=>decide ((trF n.l r).toNat=v) from fun v=>by unfold headL;rw [List.take_length])
 have HBEG:=hid (show ∀ v,headL n.l TL 0 v=[] from fun v=>rfl)
 have HLR:=hid (show ∀ k,k<TL.length→∃ b off,lo' = some ⟨b,off,none⟩∧b<w.heap.size∧w.cell? ⟨b,off+k,none⟩=some (.int .i64 ((TL.getD k 0:Nat):Int)) from fun k hk=>by
  obtain ⟨b,off,h1,h2,h3⟩:=irow_cell hl (i:=k) (by rw [encW_len];exact hk)
  rw [encW_at hk] at h3
  exact ⟨b,off,h1,h2,h3⟩)
 rw [show (fun v=>TL.filter fun r=>decide ((trF n.l r).toNat=v))=headL n.l TL TL.length from funext fun v=>(HEND.out v).symm]
 have HF:=hid hf
 have HR:=hid hr
 have HTLL:=hid hTL
 clear hr hf hl hL HEND hTL
 generalize headL n.l TL=FT at *
 generalize roomL n.l f (2*n.l.length)=RL at *
 obtain ⟨nn,ns,nt,l⟩:=n
 simp only at RM HTR HTF HST HR hN1 hN0 ⊢
 obtain ⟨N,rfl⟩:∃ N:Nat,nn=(N:Int):=⟨nn.toNat,by omega⟩
 have HB0:=hid ((Below.refl w.heap.size w).alloc (Nat.le_refl _) (.cells #[.int .i64 (N:Int),.int .i64 ns,.int .i64 nt,.slice ao l.length cap] 27))
 have HN0:=hid (netBox_new w (N:Int) ns nt (.slice ao l.length cap))
 obtain ⟨n0,n1,n2,n3⟩:=netBox_cells HN0.out
 have hmk:=make_r (N+1) (by omega)
 simp only [Int.natCast_add,Int.natCast_one] at hmk
 have hwN:IntKind.i64.wrap ((N:Int)+1)=(N:Int)+1:=by rw [IntKind.wrap_i64];omega
 go_enter Tryz.func82,Tryz.ntmps82
 go_wp2_with fail
 refine (RM.out _ (HR.out.kept HB0.out) (HF.out.kept HB0.out)).mono ?_
 rintro e w2 ⟨rv,rfl,hown,hb⟩
 have HB2:=hid (HB0.out.trans (hb.mono HB0.out.size))
 have HN2:=hid (netBox_below HN0.out hb (netBox_lt HN0.out))
 have HO2:=hid (Rw.own_base hown (B':=w.heap.size) HB0.out.size)
 have HNL:=hid (netBox_lt HN2.out)
 clear hown hb n0 n1 n2 n3
 obtain ⟨n0,n1,n2,n3⟩:=netBox_cells HN2.out
 have hnl:=HNL.out
 obtain ⟨ro,rc,hrv,_,_,_,_,_,_⟩:=Rw.own_row encI_len HO2.out
 subst hrv
 have HRB:=hid (Rw.own_lt HO2.out)
 go_wp2
 go_region
 have HG3:=hid (gbox_made w2 (N+1) (b:=w2.heap.size) rfl)
 have HG4:=hid ((HG3.out.alloc (.cells #[.int .i64 (N:Int),.int .i64 ns,.int .i64 nt,.slice ao l.length cap,.slice ro RL.length rc,.int .i64 x,.slice (some ⟨w2.heap.size,0,none⟩) (N+1) (N+1)] 141)).below (below_drew (Below.refl _ _)))
 have HB3:=hid ((Below.refl w2.heap.size w2).alloc (Nat.le_refl _) (.cells (madeCells #[.slice none 0 0] (N+1)) 23))
 have HB4:=hid (below_drew (HB3.out.alloc HB3.out.size (.cells #[.int .i64 (N:Int),.int .i64 ns,.int .i64 nt,.slice ao l.length cap,.slice ro RL.length rc,.int .i64 x,.slice (some ⟨w2.heap.size,0,none⟩) (N+1) (N+1)] 141)))
 have HS4:=hid (sblk_same (sblk_new (w2.alloc (.cells (madeCells #[.slice none 0 0] (N+1)) 23)) (b:=w2.heap.size+1) (by simp) (N:Int) ns nt x (.slice ao l.length cap) (.slice ro RL.length rc) (.slice (some ⟨w2.heap.size,0,none⟩) (N+1) (N+1))) (show ((w2.alloc (.cells (madeCells #[.slice none 0 0] (N+1)) 23)).alloc (.cells #[.int .i64 (N:Int),.int .i64 ns,.int .i64 nt,.slice ao l.length cap,.slice ro RL.length rc,.int .i64 x,.slice (some ⟨w2.heap.size,0,none⟩) (N+1) (N+1)] 141)).drew.heap[w2.heap.size+1]? = _ from rfl))
 have HN4:=hid (netBox_below HN2.out HB4.out (netBox_lt HN2.out))
 have HO4:=hid (Rw.own_below HO2.out HB4.out)
 have HBB4:=hid (HB2.out.trans (HB4.out.mono HB2.out.size))
 have HLW:=hid (show w.heap.size<w2.heap.size from hnl)
 clear hmk hwN n0 n1 n2 n3 hnl HB3 HG3 HB0 HN0
 generalize ((w2.alloc (.cells (madeCells #[.slice none 0 0] (N+1)) 23)).alloc (.cells #[.int .i64 (N:Int),.int .i64 ns,.int .i64 nt,.slice ao l.length cap,.slice ro RL.length rc,.int .i64 x,.slice (some ⟨w2.heap.size,0,none⟩) (N+1) (N+1)] 141)).drew=W4 at *
 obtain ⟨lb,hlb⟩:∃ lb,lb=w2.heap.size:=⟨_,rfl⟩
 rw [← hlb] at HG4 HS4 HRB HLW ⊢
 have HLB:=hid hlb
 clear hlb
 obtain ⟨sb,hsb⟩:∃ sb,sb=lb+1:=⟨_,rfl⟩
 rw [← hsb] at HS4 ⊢
 have HSB:=hid hsb
 clear hsb
 have HG5:=hid (gbox_same HG4.out (U':=FT 0) (fun v _=>(HBEG.out v).symm))
 obtain ⟨K,hK⟩:∃ K,K=TL.length:=⟨_,rfl⟩
 rw [← hK] at HLR HTF HST HTLL ⊢
 have HKT:=hid hK
 clear hK
 go_wp2
 go_loopw [37] (fun i wr=>∃ (j:Nat) (VS:Nat→Value),i=.int .i64 j∧j≤K∧Hid (GBox wr lb (N+1) VS (FT j))∧Hid (SBlk wr sb (N:Int) ns nt (.slice ao l.length cap) (.slice ro RL.length rc) x (.slice (some ⟨lb,0,none⟩) (N+1) (N+1)))∧Hid (OwnL wr w.heap.size (.slice ro RL.length rc) RL)∧Hid (NetBox wr w.heap.size (N:Int) ns nt (.slice ao l.length cap))∧Hid (Below w.heap.size w wr)) (fun i _=>K-(intOf i).toNat)
 case atStart=>exact ⟨0,_,rfl,Nat.zero_le _,HG5,HS4,HO4,HN4,HBB4⟩
 case round =>
  obtain ⟨j,VS,rfl,hj,HGW,HSW,HOW,HNW,HBW⟩:=hrel
  by_cases hlt:j<K
  ·obtain ⟨n0,n1,n2,n3⟩:=netBox_cells HNW.out
   obtain ⟨hr1,htb⟩:=HTF.out j hlt
   obtain ⟨b,off,rfl,hbl,hd⟩:=HLR.out j hlt
   have d0:=(HBW.out.cell (p:=⟨b,off+j,none⟩) hbl).trans hd
   have HSJ:=hid (HST.out j hlt)
   have EN:=hid (fun w' h1=>HTR.out w' h1 _ hr1)
   generalize TL.getD j 0=r at *
   generalize (trT l r).toNat=y at *
   generalize (trF l r).toNat=t at *
   have hji:(j:Int)<(K:Int):=by omega
   have hjw:IntKind.i64.wrap ((j:Int)+1)=(j:Int)+1:=by have:=HTLL.out;rw [IntKind.wrap_i64];omega
   have hj0:(0:Int)≤(j:Int):=by omega
   have hti:(t:Int)<(N:Int)+1:=by omega
   have htN:t<N+1:=htb
   have ht0:(0:Int)≤(t:Int):=by omega
   clear hd hbl
   go_wp2_with fail
   refine (EN.out _ (HR.out.kept HBW.out)).mono ?_
   rintro e w5 ⟨rfl,hb⟩
   have HB5:=hid (HBW.out.trans (hb.mono HBW.out.size))
   have HN5:=hid (netBox_below HNW.out hb (netBox_lt HNW.out))
   have HS5:=hid (sblk_same HSW.out (hb.block _ (sblk_lt HSW.out)))
   have HO5:=hid (Rw.own_below HOW.out hb)
   have HG5:=hid (HGW.out.below hb)
   have u0:=HG5.out.cell htN
   have uf:=World.rowIs.frozen HG5.out.row t
   have HV6:=hid (Rw.own_alloc (HG5.out.own t htN) (.cells #[.int .i64 (r:Int)] 3))
   have HG6:=hid (HG5.out.alloc (.cells #[.int .i64 (r:Int)] 3))
   have HR6:=hid (irow_one' w5 rfl (r:Int) 3)
   have HLN:=hid (show (encW (FT j t)).length+([(r:Int)]:List Int).length≤1099511627776 by have:=HHL.out j t;have:=HTLL.out;rw [encW_len];simp;omega)
   have HA6:=hid ((Below.refl w5.heap.size w5).alloc (Nat.le_refl _) (.cells #[.int .i64 (r:Int)] 3))
   have HB6:=hid (HB5.out.trans (HA6.out.mono HB5.out.size))
   have HN6:=hid (netBox_below HN5.out HA6.out (netBox_lt HN5.out))
   have HS6:=hid (sblk_same HS5.out (HA6.out.block _ (sblk_lt HS5.out)))
   have HO6:=hid (Rw.own_below HO5.out HA6.out)
   have HL6:=hid (show lb+1≤(w5.alloc (.cells #[.int .i64 (r:Int)] 3)).heap.size by have:=HG6.out.lt;omega)
   have HVB:=hid (Rw.own_lt HV6.out)
   have HVN:=hid (own_ne_sblk HV6.out HS6.out)
   clear hb n0 n1 n2 n3
   obtain ⟨c0,c1,c2,c3,c4,c5,c6⟩:=sblk_cells HS5.out
   obtain ⟨VT,hVT⟩:∃ VT,VT=VS t:=⟨_,rfl⟩
   have HVT:=hid hVT
   rw [← hVT] at u0 HV6 HVB HVN
   clear hVT
   obtain ⟨at_,ct,hat,_,_,hnt,_,_,hat2⟩:=Rw.own_row encI_len HV6.out
   subst hat
   have hsbl:sb<w5.heap.size:=sblk_lt HS5.out
   have hlbl:lb<w5.heap.size:=HG5.out.lt
   have HVD:=hid (show OwnI (w5.alloc (.cells #[.int .i64 (r:Int)] 3)).drew (lb+1) (.slice at_ (encW (FT j t)).length ct) (encW (FT j t)) from Rw.own_below HV6.out (below_drew (Below.refl _ _)))
   have HRD:=hid (show IRow (w5.alloc (.cells #[.int .i64 (r:Int)] 3)).drew (some ⟨w5.heap.size,0,none⟩) [(r:Int)] from HR6.out.kept (below_drew (Below.refl _ _)))
   have HLD:=hid (show lb+1≤(w5.alloc (.cells #[.int .i64 (r:Int)] 3)).drew.heap.size from HL6.out)
   have HGD:=hid (show GBox (w5.alloc (.cells #[.int .i64 (r:Int)] 3)).drew lb (N+1) VS (FT j) from HG6.out.below (below_drew (Below.refl _ _)))
   have HBD:=hid (show Below w.heap.size w (w5.alloc (.cells #[.int .i64 (r:Int)] 3)).drew from below_drew HB6.out)
   have HND:=hid (show NetBox (w5.alloc (.cells #[.int .i64 (r:Int)] 3)).drew w.heap.size (N:Int) ns nt (.slice ao l.length cap) from HN6.out)
   have HSD:=hid (show SBlk (w5.alloc (.cells #[.int .i64 (r:Int)] 3)).drew sb (N:Int) ns nt (.slice ao l.length cap) (.slice ro RL.length rc) x (.slice (some ⟨lb,0,none⟩) (N+1) (N+1)) from HS6.out)
   have HOD:=hid (show OwnL (w5.alloc (.cells #[.int .i64 (r:Int)] 3)).drew w.heap.size (.slice ro RL.length rc) RL from Rw.own_below HO6.out (below_drew (Below.refl _ _)))
   clear HV6 HR6 HL6 HG6 HB6 HN6 HS6 HO6 HA6 HG5 HB5 HN5 HS5 HO5
   go_wp2
   go_upto_region 9 with fail
   have hS0:=(show (fun w'=>w'.cell? ⟨sb,6,none⟩=some (.slice (some ⟨lb,0,none⟩) (N+1) (N+1))∧w'.cell? ⟨lb,t,none⟩=some (.slice at_ (encW (FT j t)).length ct)) w5.drew from ⟨c6,u0⟩)
   have hS1:=(show (fun w'=>w'.cell? ⟨sb,6,none⟩=some (.slice (some ⟨lb,0,none⟩) (N+1) (N+1))∧w'.cell? ⟨lb,t,none⟩=some (.slice at_ (encW (FT j t)).length ct)) (w5.alloc (.cells #[.int .i64 (r:Int)] 3)).drew from ⟨held_new c6,held_new u0⟩)
   refine Rg.start (S:=(fun w'=>w'.cell? ⟨sb,6,none⟩=some (.slice (some ⟨lb,0,none⟩) (N+1) (N+1))∧w'.cell? ⟨lb,t,none⟩=some (.slice at_ (encW (FT j t)).length ct))) (last:=16) (by kernel_rfl) ?_
   refine Rg.tp 40 0 hS0 ?_
   refine Rg.tp 40 1 hS0 ?_
   refine Rg.tp 40 2 hS0 ?_
   refine Rg.tp 40 3 hS0 ?_
   refine Rg.tp 40 4 hS0 ?_
   refine Rg.tp 40 5 hS0 ?_
   refine Rg.tp 40 6 hS0 ?_
   refine Rg.tp 40 7 hS0 ?_
   refine Rg.tp 40 8 hS0 ?_
   refine Rg.tp 40 9 hS0 ?_
   refine Rg.tp 40 10 hS0 ?_
   refine Rg.tp 40 11 hS0 ?_
   refine Rg.tp 40 12 hS0 ?_
   refine Rg.step (i:=13) (by kernel_rfl) rfl fun K' hK'=>?_
   have HK:=hid hK'
   clear hK'
   go_simp
   refine HK.out _ _ ⟨fun _=>hS1,?_⟩
   clear HK K'
   try simp only [Act.put,Rh.q1,Rh.q2,Rh.q3]
   refine Rg.step (i:=14) (by kernel_rfl) rfl fun K' hK'=>?_
   refine Rw.stepAt elemI encI_len encI_one (by rfl) (.tmp 58) (.tmp 60) (by rfl) (lb+1) (.slice at_ (encW (FT j t)).length ct) (encW (FT j t)) (by rfl) HVD.out ⟨w5.heap.size,0,none⟩ 1 [(r:Int)] 1 rfl (by rfl) HRD.out HLN.out HLD.out ?_
   intro v' w' hown' hgrow hat'
   rw [← encW_snoc] at hown'
   obtain ⟨o4,c4v,hv4,_,_,_,_⟩:=Rw.own_row encI_len hown'
   rw [encW_len,List.length_append,List.length_singleton] at hv4
   subst hv4
   have HOW':=hid hown'
   have HGR:=hid hgrow
   have HAT:=hid hat'
   have uf':=World.rowIs.frozen (World.rowIs.of_block HGD.out.row (hgrow.block lb HGD.out.lt (fun e=>by have:=(HVB.out lb e.symm).1;omega))) t
   have hS2:=(show (fun w'=>w'.cell? ⟨sb,6,none⟩=some (.slice (some ⟨lb,0,none⟩) (N+1) (N+1))∧w'.cell? ⟨lb,t,none⟩=some (.slice at_ (encW (FT j t)).length ct)) w' from ⟨held_grow hgrow HVN.out c6,held_grow hgrow (fun e=>by have:=(HVB.out lb e).1;omega) u0⟩)
   clear hown' hgrow hat'
   refine hK' _ _ ⟨fun _=>hS2,?_⟩
   clear hK' K'
   try simp only [Act.put,Rh.q1,Rh.q2,Rh.q3]
   refine Rg.tp 40 15 hS2 ?_
   refine Rg.step (i:=16) (by kernel_rfl) rfl fun K' hK'=>?_
   have HK:=hid hK'
   clear hK'
   go_simp
   refine HK.out _ _ ⟨fun h=>absurd rfl h,?_⟩
   clear HK K'
   try simp only [Act.put,Rh.q1,Rh.q2,Rh.q3]
   refine Rg.finished (by kernel_rfl) ?_ _
   have HG9:=hid (gbox_same (GBox.put HGD.out htN (u:=FT j t ++ [r]) (by rw [← HVT.out];exact HGR.out) HOW'.out (by rw [← HVT.out];exact HAT.out)) (U':=FT (j+1)) (fun v hv=>HSJ.out v))
   have HRR:=hid (show ∀ g,(Value.slice at_ (encW (FT j t)).length ct).ownBlock=some g→lb+1≤g from fun g hg=>(HVB.out g hg).1)
   have HS9:=hid (sblk_same (sblk_same HSD.out (HGR.out.block sb (sblk_lt HSD.out) (fun e=>HVN.out e.symm))) (w2:=w'.setCell ⟨lb,t,none⟩ (.slice o4 ((FT j t).length+1) c4v)) (Below.heap_setCell _ _ _ _ (by have:=HSB.out;show sb≠lb;omega)))
   have HO9:=hid (own_same (own_same HOD.out (w2:=w') fun g hg=>HGR.out.block g (Rw.own_lt HOD.out g hg).2 (fun e=>by have:=HRR.out g e.symm;have:=(HRB.out g hg).2;omega)) (w2:=w'.setCell ⟨lb,t,none⟩ (.slice o4 ((FT j t).length+1) c4v)) fun g hg=>Below.heap_setCell _ _ _ _ (by have:=(HRB.out g hg).2;show g≠lb;omega))
   have HN9:=hid (netBox_other (netBox_grown HND.out HGR.out (fun e=>by have:=HRR.out _ e.symm;have:=HLW.out;omega)) (b2:=lb) (o:=t) (v2:=.slice o4 ((FT j t).length+1) c4v) (by have:=HLW.out;omega))
   have HB9:=hid ((HBD.out.grown HGR.out HBD.out.size (fun g hg=>by have:=HRR.out g hg;have:=HLW.out;omega)).setCell (p:=⟨lb,t,none⟩) (by have:=HLW.out;show w.heap.size≤lb;omega) (.slice o4 ((FT j t).length+1) c4v))
   go_wp2
   refine ⟨?rel,?measure⟩
   case rel=>exact ⟨j+1,_,by go_num,by omega,HG9,HS9,HO9,HN9,HB9⟩
   case measure=>simp [intOf];omega
  ·have ej:K=j:=by omega
   subst ej
   clear hlt
   go_wp2
   go_ret2
   have HGE:=hid (show GBox wr lb (N+1) VS (FT TL.length) by rw [← HKT.out];exact HGW.out)
   have hlb:=HLB.out
   have hsb:=HSB.out
   exact ⟨sb,lb,lb+1,wr.heap.size,_,VS,rfl,⟨HR.out,HBW.out,HSW.out,HOW.out,RBox.of_g HGE.out,⟨by have:=HLW.out;omega,by have:=HLW.out;omega⟩,by omega,fun g hg=>by have:=(HRB.out g hg).2;exact ⟨by omega,by omega,.inl (by omega)⟩⟩,HBW.out⟩
end
end Ne
namespace Ne
open Sp (Off Ext)
open Fo (Ft FoO fc)
def tailL (l:List Arc) (TL:List Nat) (k v:Nat):List Nat:=((TL.take k).filter fun r=>decide ((trT l r).toNat=v)).map fun r=>(trF l r).toNat
theorem tailL_step {l:List Arc} {TL:List Nat} {k:Nat} (hk:k<TL.length) (v:Nat):(if v=(trT l (TL.getD k 0)).toNat then tailL l TL k (trT l (TL.getD k 0)).toNat ++ [(trF l (TL.getD k 0)).toNat] else tailL l TL k v)=tailL l TL (k+1) v:=by
 unfold tailL
 rw [take_getD hk,List.filter_append,List.map_append]
 generalize TL.getD k 0=r
 by_cases e:v=(trT l r).toNat
 ·subst e
  rw [if_pos rfl]
  simp
 ·rw [if_neg e]
  have e2:¬ (trT l r).toNat=v:=fun h=>e h.symm
  simp [e2]
theorem tailL_len (l:List Arc) (TL:List Nat) (k v:Nat):(tailL l TL k v).length≤k:=by
 unfold tailL
 rw [List.length_map]
 exact Nat.le_trans (List.length_filter_le _ _) (by rw [List.length_take];omega)
structure HBox (w:World) (lb lo n:Nat) (VS:Nat→Value) (U:Nat→List Nat):Prop where
 row:w.rowIs lb 23 n VS
 own:∀ v,v<n→OwnI w lo (VS v) (encW (U v))
 sep:∀ v v',v<n→v' < n→v≠v'→∀ g,(VS v).ownBlock=some g→(VS v').ownBlock≠some g
 out:lb<lo
section
variable {w w2:World} {lb lo n:Nat} {VS:Nat→Value} {U:Nat→List Nat}
theorem hbox_new {w:World} {lb lo n:Nat} (h:w.rowIs lb 23 n (fun _=>.slice none 0 0)) (hl:lb<lo):HBox w lb lo n (fun _=>.slice none 0 0) (fun _=>[]) :=
 ⟨h,fun v _=>Rw.own_nil _ _,fun v v' _ _ _ g h=>by simp [Value.ownBlock] at h,hl⟩
theorem HBox.lt (h:HBox w lb lo n VS U):lb<w.heap.size:=World.rowIs.lt h.row
theorem HBox.below (h:HBox w lb lo n VS U) (hb:Below w.heap.size w w2):HBox w2 lb lo n VS U :=
 ⟨World.rowIs.of_block h.row (hb.block lb h.lt),fun v hv=>Rw.own_below (h.own v hv) hb,h.sep,h.out⟩
theorem HBox.cell (h:HBox w lb lo n VS U) {v:Nat} (hv:v<n):w.cell? ⟨lb,v,none⟩=some (VS v):=World.rowIs.cell h.row hv
theorem HBox.same (h:HBox w lb lo n VS U) {U':Nat→List Nat} (hU:∀ v,v<n→U v=U' v):HBox w lb lo n VS U':=⟨h.row,fun v hv=>by rw [← hU v hv];exact h.own v hv,h.sep,h.out⟩
theorem HBox.far (h:HBox w lb lo n VS U) {q:Addr} (h1:q.block≠lb) (h2:q.block<lo) (x:Value):HBox (w.setCell q x) lb lo n VS U :=
 ⟨World.rowIs.setOther h.row (Ne.symm h1) x,fun v hv=>own_same (h.own v hv) fun g hg=>Below.heap_setCell _ _ _ _ (by have:=(Rw.own_lt (h.own v hv) g hg).1;omega),h.sep,h.out⟩
theorem HBox.grown (h:HBox w lb lo n VS U) {row:Option Nat} (hg:w.grownBy w2 row) (h1:row≠some lb) (h2:∀ v,v<n→∀ g,(VS v).ownBlock=some g→row≠some g):HBox w2 lb lo n VS U :=
 ⟨World.rowIs.of_block h.row (hg.block lb h.lt (Ne.symm h1)),fun v hv=>Rw.own_grown (h.own v hv) hg fun g hb=>Ne.symm (h2 v hv g hb),h.sep,h.out⟩
theorem HBox.put (h:HBox w lb lo n VS U) {v:Nat} (hv:v<n) {x:Value} {u:List Nat} (hg:w.grownBy w2 (VS v).ownBlock) (ho:OwnI w2 lo x (encW u)) (hx:x.ownBlock=(VS v).ownBlock∨x.ownBlock=some w.heap.size) :
  HBox (w2.setCell ⟨lb,v,none⟩ x) lb lo n (fun j=>if j=v then x else VS j) (fun j=>if j=v then u else U j):=by
 have hout:=h.out
 have hne:some lb≠(VS v).ownBlock:=fun e=>by have:=(Rw.own_lt (h.own v hv) lb e.symm).1;omega
 have hrow:=World.rowIs.of_block h.row (hg.block lb h.lt hne)
 refine ⟨World.rowIs.set hrow v x,fun j hj=>?_,fun j j' hj hj' hd g hb=>?_,h.out⟩
 ·by_cases e:j=v
  ·subst e
   simp only [if_true]
   exact Rw.own_set ho (p:=⟨lb,j,none⟩) (fun e=>by have:=(Rw.own_lt ho lb e).1;omega) x
  ·simp only [if_neg e]
   have h1:=Rw.own_grown (h.own j hj) hg fun g hb e2=>h.sep v j hv hj (Ne.symm e) g e2.symm hb
   exact Rw.own_set h1 (p:=⟨lb,v,none⟩) (fun e=>by have:=(Rw.own_lt h1 lb e).1;omega) x
 ·by_cases e:j=v
  ·subst e
   simp only [if_true] at hb
   simp only [if_neg (Ne.symm hd)]
   intro hb2
   rcases hx with hx | hx
   ·rw [hx] at hb;exact h.sep j j' hj hj' hd g hb hb2
   ·rw [hx] at hb
    have:=(Rw.own_lt (h.own j' hj') g hb2).2
    simp at hb;omega
  ·simp only [if_neg e] at hb
   by_cases e':j' = v
   ·subst e'
    simp only [if_true]
    intro hb2
    rcases hx with hx | hx
    ·rw [hx] at hb2;exact h.sep j j' hj hj' hd g hb hb2
    ·rw [hx] at hb2
     have:=(Rw.own_lt (h.own j hj) g hb).2
     simp at hb2;omega
   ·simp only [if_neg e'];exact h.sep j j' hj hj' hd g hb
theorem HBox.rbox (h:HBox w lb lo n VS U):RBox w lb lo w.heap.size n VS U:=⟨h.row,fun v hv=>.of_own (h.own v hv),h.out,Nat.le_refl _⟩
end
structure NsJ (n:Net) (ao:Option Addr) (cap:Nat) (x:Int) (w0:World) (sb lb ab pb cb p:Nat) (rv:Value) (lo B b1 nb:Nat) (lo':Option Addr) (lc:Nat) (TL:List Nat) (RL0:List Int) (F0:Ft) (wr:World) (c:Nat) (U AA:Nat→List Nat) (VS VA:Nat→Value):Prop where
 row0:ARow w0 ao n.l
 low:Below w0.heap.size w0 wr
 rooms:OwnL wr w0.heap.size rv RL0
 leads:OwnI wr w0.heap.size (.slice lo' TL.length lc) (encW TL)
 cnt:wr.heap[cb]? = some (.cells #[.int .i64 (c:Int)] 147 (0,0))
 fo:FoO wr B (fun g=>B≤g∧g<b1) p F0 0 0
 gu:HBox wr lb lo (n.n.toNat+1) VS U
 ga:HBox wr ab lo (n.n.toNat+1) VA AA
 cr:∀ v v',v<n.n.toNat+1→v' < n.n.toNat+1→∀ g,(VS v).ownBlock=some g→(VA v').ownBlock≠some g
 sp:BBox wr pb (List.replicate (n.n.toNat+1) false)
 blk:TBlk wr sb n.n n.s n.t (.slice ao n.l.length cap) rv x (.slice (some ⟨lb,0,none⟩) (n.n.toNat+1) (n.n.toNat+1)) (.slice (some ⟨ab,0,none⟩) (n.n.toNat+1) (n.n.toNat+1)) (.slice (some ⟨pb,0,none⟩) (n.n.toNat+1) (n.n.toNat+1)) p cb
 net:NetBox wr nb n.n n.s n.t (.slice ao n.l.length cap)
 sz:lo≤wr.heap.size
 b0:w0.heap.size≤cb∧cb<nb∧nb<B∧B≤b1
 rvb:∀ g,rv.ownBlock=some g→w0.heap.size≤g∧g<cb
 lvb:∀ g,(Value.slice lo' TL.length lc).ownBlock=some g→g<cb∧rv.ownBlock≠some g
 lows:b1≤lb∧b1≤ab∧b1≤pb∧b1≤sb
 ups:lb<lo∧ab<lo∧pb<lo∧sb<lo
 ne:lb≠ab∧lb≠pb∧lb≠sb∧ab≠pb∧ab≠sb∧pb≠sb
section
variable {n:Net} {ao:Option Addr} {cap:Nat} {x:Int} {w0:World} {sb lb ab pb cb p:Nat} {rv:Value} {lo B b1 nb:Nat} {lo':Option Addr} {lc:Nat} {TL:List Nat} {RL0:List Int} {F0:Ft}
variable {wr w2:World} {c:Nat} {U AA U' AA':Nat→List Nat} {VS VA:Nat→Value}
theorem NsJ.same (h:NsJ n ao cap x w0 sb lb ab pb cb p rv lo B b1 nb lo' lc TL RL0 F0 wr c U AA VS VA) (hU:∀ v,v<n.n.toNat+1→U v=U' v) (hA:∀ v,v<n.n.toNat+1→AA v=AA' v):NsJ n ao cap x w0 sb lb ab pb cb p rv lo B b1 nb lo' lc TL RL0 F0 wr c U' AA' VS VA :=
 ⟨h.row0,h.low,h.rooms,h.leads,h.cnt,h.fo,h.gu.same hU,h.ga.same hA,h.cr,h.sp,h.blk,h.net,h.sz,h.b0,h.rvb,h.lvb,h.lows,h.ups,h.ne⟩
theorem NsJ.below (h:NsJ n ao cap x w0 sb lb ab pb cb p rv lo B b1 nb lo' lc TL RL0 F0 wr c U AA VS VA) (hb:Below wr.heap.size wr w2):NsJ n ao cap x w0 sb lb ab pb cb p rv lo B b1 nb lo' lc TL RL0 F0 w2 c U AA VS VA:=by
 have hz:=h.sz;have h0:=h.b0;have h1:=h.lows;have h2:=h.ups;have hs:=h.low.size
 refine ⟨h.row0,h.low.trans (hb.mono hs),Rw.own_below h.rooms hb,Rw.own_below h.leads hb,?_,h.fo.off (G:=fun _=>False) (.of_below hb) fun _ _ c=>c,h.gu.below hb,h.ga.below hb,h.cr,h.sp.kept hb,?_,netBox_below h.net hb (netBox_lt h.net),Nat.le_trans hz hb.size,h0,h.rvb,h.lvb,h1,h2,h.ne⟩
 ·rw [hb.block cb (by omega)];exact h.cnt
 ·have:=h.blk
  unfold TBlk at *
  rw [hb.block sb (by omega)];exact this
theorem NsJ.count (h:NsJ n ao cap x w0 sb lb ab pb cb p rv lo B b1 nb lo' lc TL RL0 F0 wr c U AA VS VA):NsJ n ao cap x w0 sb lb ab pb cb p rv lo B b1 nb lo' lc TL RL0 F0 (wr.setCell ⟨cb,0,none⟩ (.int .i64 ((c+1:Nat):Int))) (c+1) U AA VS VA:=by
 have hz:=h.sz;have h0:=h.b0;have h1:=h.lows;have h2:=h.ups;have hs:=h.low.size
 have ho:Off (fun g=>g=cb) wr (wr.setCell ⟨cb,0,none⟩ (.int .i64 ((c+1:Nat):Int))):=(Off.refl (fun g=>g=cb) wr).set (p:=⟨cb,0,none⟩) (.inl rfl) _
 refine ⟨h.row0,h.low.setCell (p:=⟨cb,0,none⟩) h0.1 _,own_same h.rooms fun g hg=>Below.heap_setCell _ _ _ _ (by have:=h.rvb g hg;show g≠cb;omega),own_same h.leads fun g hg=>Below.heap_setCell _ _ _ _ (by have:=(h.lvb g hg).1;show g≠cb;omega),?_,h.fo.off ho (fun g hg e=>by omega),h.gu.far (q:=⟨cb,0,none⟩) (by show cb≠lb;omega) (by show cb<lo;omega) _,h.ga.far (q:=⟨cb,0,none⟩) (by show cb≠ab;omega) (by show cb<lo;omega) _,h.cr,h.sp.far (p:=⟨cb,0,none⟩) (by show pb≠cb;omega) _,?_,netBox_other h.net (by omega),by simpa [World.setCell] using hz,h0,h.rvb,h.lvb,h1,h2,h.ne⟩
 ·simp only [World.setCell,Array.getElem?_modify,h.cnt,if_true,Option.map_some]
  rfl
 ·exact (Below.heap_setCell _ _ _ _ (show sb≠cb by omega)).trans h.blk
theorem NsJ.mut (h:NsJ n ao cap x w0 sb lb ab pb cb p rv lo B b1 nb lo' lc TL RL0 F0 wr c U AA VS VA) {w3:World} {row:Option Nat} (hg:wr.grownBy w3 row) (hr:∀ g,row=some g→lo≤g) {q:Addr} (hq:q.block=lb∨q.block=ab) (v:Value) :
  Below w0.heap.size w0 (w3.setCell q v)∧OwnL (w3.setCell q v) w0.heap.size rv RL0∧OwnI (w3.setCell q v) w0.heap.size (.slice lo' TL.length lc) (encW TL)∧(w3.setCell q v).heap[cb]? = some (.cells #[.int .i64 (c:Int)] 147 (0,0))∧FoO (w3.setCell q v) B (fun g=>B≤g∧g<b1) p F0 0 0 ∧
  BBox (w3.setCell q v) pb (List.replicate (n.n.toNat+1) false)∧TBlk (w3.setCell q v) sb n.n n.s n.t (.slice ao n.l.length cap) rv x (.slice (some ⟨lb,0,none⟩) (n.n.toNat+1) (n.n.toNat+1)) (.slice (some ⟨ab,0,none⟩) (n.n.toNat+1) (n.n.toNat+1)) (.slice (some ⟨pb,0,none⟩) (n.n.toNat+1) (n.n.toNat+1)) p cb∧NetBox (w3.setCell q v) nb n.n n.s n.t (.slice ao n.l.length cap)∧lo≤(w3.setCell q v).heap.size:=by
 have hz:=h.sz;have h0:=h.b0;have h1:=h.lows;have h2:=h.ups;have hs:=h.low.size;have h3:=h.ne
 have hk:∀ g,g<lo→g≠lb→g≠ab→(w3.setCell q v).heap[g]? = wr.heap[g]?:=fun g h4 h5 h6 =>
  (Below.heap_setCell _ _ _ _ (by omega)).trans (hg.block g (by omega) fun e=>by have:=hr g e.symm;omega)
 have ho:Off (fun g=>g=lb∨g=ab∨lo≤g) wr (w3.setCell q v):=by
  refine ((Off.refl _ wr).grown hg fun k hk=>.inl (.inr (.inr (hr k hk)))).set (p:=q) (.inl ?_) v
  rcases hq with e | e
  ·exact .inl e
  ·exact .inr (.inl e)
 refine ⟨h.low.trans (ho.below (B:=w0.heap.size) (fun g e=>by omega) hs),own_same h.rooms fun g hg'=>hk g ?_ ?_ ?_,own_same h.leads fun g hg'=>hk g ?_ ?_ ?_,?_,h.fo.off ho (fun g hg' e=>by omega),World.rowIs.of_block h.sp (hk pb (by omega) (by omega) (by omega)),?_,?_,Nat.le_trans hz ho.size⟩
 ·have:=h.rvb g hg';omega
 ·have:=h.rvb g hg';omega
 ·have:=h.rvb g hg';omega
 ·have:=(h.lvb g hg').1;omega
 ·have:=(h.lvb g hg').1;omega
 ·have:=(h.lvb g hg').1;omega
 ·rw [hk cb (by omega) (by omega) (by omega)];exact h.cnt
 ·have:=h.blk
  unfold TBlk at *
  rw [hk sb (by omega) (by omega) (by omega)];exact this
 ·have:=h.net
  unfold NetBox at *
  rw [hk nb (by omega) (by omega) (by omega)];exact this
theorem NsJ.putU (h:NsJ n ao cap x w0 sb lb ab pb cb p rv lo B b1 nb lo' lc TL RL0 F0 wr c U AA VS VA) {t:Nat} (ht:t<n.n.toNat+1) {y:Value} {u:List Nat} (hg:wr.grownBy w2 (VS t).ownBlock) (ho:OwnI w2 lo y (encW u)) (hy:y.ownBlock=(VS t).ownBlock∨y.ownBlock=some wr.heap.size) :
  NsJ n ao cap x w0 sb lb ab pb cb p rv lo B b1 nb lo' lc TL RL0 F0 (w2.setCell ⟨lb,t,none⟩ y) c (fun j=>if j=t then u else U j) AA (fun j=>if j=t then y else VS j) VA:=by
 have h1:=h.ups;have h3:=h.ne
 obtain ⟨m1,m2,m3,m4,m5,m6,m7,m8,m9⟩:=h.mut hg (fun g e=>(Rw.own_lt (h.gu.own t ht) g e).1) (q:=⟨lb,t,none⟩) (.inl rfl) y
 refine ⟨h.row0,m1,m2,m3,m4,m5,h.gu.put ht hg ho hy,(h.ga.grown hg (fun e=>by have:=(Rw.own_lt (h.gu.own t ht) ab e).1;omega) (fun v hv g hg' e=>h.cr t v ht hv g e hg')).far (q:=⟨lb,t,none⟩) h3.1 h1.1 y,fun v v' hv hv' g hg'=>?_,m6,m7,m8,m9,h.b0,h.rvb,h.lvb,h.lows,h.ups,h.ne⟩
 by_cases e:v=t
 ·subst e
  simp only [if_true] at hg'
  rcases hy with hy | hy
  ·rw [hy] at hg';exact h.cr v v' hv hv' g hg'
  ·rw [hy] at hg'
   intro e2
   have:=(Rw.own_lt (h.ga.own v' hv') g e2).2
   simp at hg';omega
 ·simp only [if_neg e] at hg'
  exact h.cr v v' hv hv' g hg'
theorem NsJ.putA (h:NsJ n ao cap x w0 sb lb ab pb cb p rv lo B b1 nb lo' lc TL RL0 F0 wr c U AA VS VA) {t:Nat} (ht:t<n.n.toNat+1) {y:Value} {u:List Nat} (hg:wr.grownBy w2 (VA t).ownBlock) (ho:OwnI w2 lo y (encW u)) (hy:y.ownBlock=(VA t).ownBlock∨y.ownBlock=some wr.heap.size) :
  NsJ n ao cap x w0 sb lb ab pb cb p rv lo B b1 nb lo' lc TL RL0 F0 (w2.setCell ⟨ab,t,none⟩ y) c U (fun j=>if j=t then u else AA j) VS (fun j=>if j=t then y else VA j):=by
 have h1:=h.ups;have h3:=h.ne
 obtain ⟨m1,m2,m3,m4,m5,m6,m7,m8,m9⟩:=h.mut hg (fun g e=>(Rw.own_lt (h.ga.own t ht) g e).1) (q:=⟨ab,t,none⟩) (.inr rfl) y
 refine ⟨h.row0,m1,m2,m3,m4,m5,(h.gu.grown hg (fun e=>by have:=(Rw.own_lt (h.ga.own t ht) lb e).1;omega) (fun v hv g hg' e=>h.cr v t hv ht g hg' e)).far (q:=⟨ab,t,none⟩) (Ne.symm h3.1) h1.2.1 y,h.ga.put ht hg ho hy,fun v v' hv hv' g hg'=>?_,m6,m7,m8,m9,h.b0,h.rvb,h.lvb,h.lows,h.ups,h.ne⟩
 by_cases e:v' = t
 ·subst e
  simp only [if_true]
  rcases hy with hy | hy
  ·rw [hy];exact h.cr v v' hv hv' g hg'
  ·rw [hy]
   intro e2
   have:=(Rw.own_lt (h.gu.own v hv) g hg').2
   simp at e2;omega
 ·simp only [if_neg e]
  exact h.cr v v' hv hv' g hg'
theorem NsJ.done (h:NsJ n ao cap x w0 sb lb ab pb cb p rv lo B b1 nb lo' lc TL RL0 F0 wr c (fun v=>TL.filter fun r=>decide ((trF n.l r).toNat=v)) (tailL n.l TL TL.length) VS VA) :
  TsM n ao cap x w0 wr sb lb ab pb cb p rv lo wr.heap.size B b1 VA TL wr RL0 VS (fun v=>TL.filter fun r=>decide ((trF n.l r).toNat=v)) (List.replicate (n.n.toNat+1) false) c F0 0 0∧OwnI wr w0.heap.size (.slice lo' TL.length lc) (encW TL)∧∀ b,(Value.slice lo' TL.length lc).ownBlock=some b→¬ Mut rv lb pb cb B b1 b:=by
 have h0:=h.b0;have h1:=h.lows;have h2:=h.ups;have h3:=h.ne;have hz:=h.sz
 refine ⟨⟨⟨h.row0,h.blk,?_,by omega,h.rvb,h1,by omega,h3⟩,h.low,Nat.le_refl _,fun g _ _=>rfl,h.rooms,h.gu.rbox,h.sp,h.cnt,FoO.mono h.fo (fun g hg=>.inl hg) (fun g hg=>?_)⟩,h.leads,fun b hb hm=>?_⟩
 ·have:=h.ga.rbox
  unfold tailL at this
  rwa [List.take_length] at this
 ·rcases hg with hg | hg <;> omega
 ·have:=h.lvb b hb
  rcases hm with e | e | e | e | e
  ·exact this.2 e
  ·omega
  ·omega
  ·omega
  ·omega
end
end Ne
end Go.Proofs.YthhlfphnokdfaaaGreat
