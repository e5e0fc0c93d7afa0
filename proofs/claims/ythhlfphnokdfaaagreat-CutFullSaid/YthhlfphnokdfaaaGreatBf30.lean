/-
  Sr1
-/
import Derived.Test.YthhlfphnokdfaaaGreatBf17
import Derived.Test.YthhlfphnokdfaaaGreatBf13
import Derived.Deep.LoopGhost
import Derived.Deep.DeepCutAuto
import Derived.WalkMore
import Derived.RegionTactic
import Derived.BigRegion
import Derived.Deep.QuietTactic
import Derived.Test.YthhlfphnokdfaaaGreatBf11
import Derived.Deep.RegionWith
set_option linter.unusedVariables false
set_option linter.unusedSimpArgs false
set_option maxRecDepth 100000
set_option maxHeartbeats 4000000
namespace Go.Proofs.YthhlfphnokdfaaaGreat
open Go.ChangeShapes Go.WideShapes Go.ChangeAt Go.RowKit
open Lib (hid)
namespace Ne
def goesOn (l:List Arc) (x:Int) (RM:List Int) (M:List Bool) (r:Nat):Bool:=decide (x≤amt RM r) && !(M.getD (trT l r).toNat false)
theorem ends_nat (n:Net) (ao:Option Addr) (cap:Nat) (r:Nat) (w:World) (hR:Right n) (hr:ARow w ao n.l) (h:r<2*n.l.length) :
  Calls Tryz.prog 49 #[encN n ao cap,.int .i64 (r:Int)] w fun e w'=>e=.returned (.tuple #[.int .i64 (((trF n.l r).toNat:Nat):Int),.int .i64 (((trT n.l r).toNat:Nat):Int)])∧Below w.heap.size w w':=by
 have h1:=ends_at n ao cap r w hr (by have:=hR.len;omega) h
 have hb:=trF_bd hR h;have hb2:=trT_bd hR h
 rwa [show trF n.l r=(((trF n.l r).toNat:Nat):Int) by omega,show trT n.l r=(((trT n.l r).toNat:Nat):Int) by omega] at h1
section
variable {n:Net} {ao:Option Addr} {cap:Nat} {x:Int} {w0 w:World} {sb lb lo hi:Nat} {rv:Value} {RM:List Int} {VS:Nat→Value} {U:Nat→List Nat} {M:List Bool}
theorem ahead1_any (hR:Right n) (st:SrM n ao cap x w0 w sb lb lo hi rv RM VS U) (bs bm mb:Nat) (hbs:w.cell? ⟨bs,0,none⟩=some (.pointer (some ⟨sb,0,none⟩))) (hbm:w.cell? ⟨bm,0,none⟩=some (.slice (some ⟨mb,0,none⟩) (n.n.toNat+1) (n.n.toNat+1)))
  (hM:BBox w mb M) (hML:M.length=n.n.toNat+1) (hRL:RM.length=2*n.l.length) (r:Nat) (hr:r<2*n.l.length) :
  Calls Tryz.prog 91 #[.int .i64 (r:Int),.pointer (some ⟨bs,0,none⟩),.pointer (some ⟨bm,0,none⟩)] w fun e w'=>e=.returned (.bool (goesOn n.l x RM M r))∧Below w.heap.size w w':=by
 have EN:=hid (fun w' h1=>ends_nat n ao cap r w' hR h1 hr)
 have hb2:=trT_bd hR hr
 have hN1:=hR.n1
 have htl:(trT n.l r).toNat<n.n.toNat+1:=by omega
 have hGO:goesOn n.l x RM M r=(decide (x≤amt RM r) && !(M.getD (trT n.l r).toNat false)):=rfl
 obtain ⟨res,hres⟩:∃ res,res=goesOn n.l x RM M r:=⟨_,rfl⟩
 rw [← hres]
 have HRES:=hid (hres.trans hGO)
 clear hGO hb2 hres
 have HRL:=hid hRL
 have HML:=hid hML
 have HM:=hid hM
 have HST:=hid st
 generalize (trT n.l r).toNat=t at *
 generalize (trF n.l r).toNat=y at *
 obtain ⟨c0,c1,c2,c3,c4,c5,c6⟩:=sblk_cells st.blk
 have HRW:=hid st.row
 have HBS:=hid hbs
 have HBM:=hid hbm
 have hlbs:=World.block_lt_of_cell? w _ hbs
 have hlbm:=World.block_lt_of_cell? w _ hbm
 clear hRL hML hM st
 generalize hN:n.n.toNat=N at *
 obtain ⟨nn,ns,nt,l⟩:=n
 simp only at hN hN1 hr HRW HST HRL EN c0 c1 c2 c3 c6 ⊢
 have HNN:=hid hN
 clear hN
 go_enter Tryz.func91,Tryz.ntmps91
 go_wp2_with fail
 refine (EN.out _ HRW.out).mono ?_
 rintro e w2 ⟨rfl,hb⟩
 have HB:=hid hb
 have HS2:=hid (HST.out.kept hb)
 clear c0 c1 c2 c3 c4 c5 c6
 obtain ⟨c0,c1,c2,c3,c4,c5,c6⟩:=sblk_cells HS2.out.blk
 have d0:=(hb.cell (p:=⟨bs,0,none⟩) hlbs).trans HBS.out
 have d1:=(hb.cell (p:=⟨bm,0,none⟩) hlbm).trans HBM.out
 obtain ⟨g,c,hrv,_,e0⟩:=HS2.out.room (r:=r) (by rw [HRL.out];exact hr)
 rw [HRL.out] at hrv
 rw [hrv] at c4
 have m0:=(HM.out.kept hb).cell (i:=t) (by rw [HML.out];exact htl)
 have hri:(r:Int)<((2*l.length:Nat):Int):=by omega
 have hri2:(r:Int)<2*(l.length:Int):=by omega
 have hr0:(0:Int)≤(r:Int):=by omega
 have hti:(t:Int)<(N:Int)+1:=by omega
 have ht0:(0:Int)≤(t:Int):=by omega
 clear hb hbs hbm hrv
 generalize hro:amt RM r=ro at *
 generalize hmt:M.getD t false=mt at *
 have HRO:=hid hro
 have HMT:=hid hmt
 clear hro hmt
 by_cases hx:x≤ro
 ·have hx':decide (x≤ro)=true:=by simpa using hx
  rcases mt with _ | _
  ·go_wp2
   go_quiet (fail)
   go_wp2
   go_ret
   exact ⟨by rw [HRES.out,hx'];rfl,below_dn HB.out _⟩
  ·go_wp2
   go_quiet (fail)
   go_wp2
   go_ret
   exact ⟨by rw [HRES.out,hx'];rfl,below_dn HB.out _⟩
 ·have hx':decide (x≤ro)=false:=by simpa using hx
  go_wp2
  go_quiet (fail)
  go_wp2
  go_ret
  exact ⟨by rw [HRES.out,hx'];rfl,below_dn HB.out _⟩
theorem index_any (p1 p2:Addr) (P:Nat→Bool) (u:List Nat) (A:Option Addr) (c:Nat) (w:World) {lo hi:Nat} (hrow:RowOf w lo hi (.slice A u.length c) u) (hhi:hi≤w.heap.size)
  (hP:∀ w' (r:Nat),r∈u→Below w.heap.size w w'→Calls Tryz.prog 91 #[.int .i64 (r:Int),.pointer (some p1),.pointer (some p2)] w' fun e w2=>e=.returned (.bool (P r))∧Below w'.heap.size w' w2) :
  Calls Tryz.prog 90 #[.slice A u.length c,.func (.func 91) #[] #[.pointer (some p1),.pointer (some p2)]] w fun e w'=>e=.returned (.int .i64 (fIx P u))∧Below w.heap.size w w':=by
 have HP:=hid hP
 have HROW:=hid hrow
 have HHIT:=hid (fun (k:Nat) (h:k<u.length) h1 h2=>fIx_hit (P:=P) (u:=u) (k:=k) h h1 h2)
 have HNO:=hid (fun h1=>fIx_none (P:=P) (u:=u) h1)
 obtain ⟨A',c',e,hlc,hcm,_⟩:=hrow
 simp only [Value.slice.injEq,true_and] at e
 obtain ⟨rfl,rfl⟩:=e
 have hLm:u.length≤9223372036854775807:=by have h2:=hlc;have h3:=hcm;unfold maxLen at h3;omega
 have HAT:=hid (fun (k:Nat) (h:k<u.length)=>rowOf_at HROW.out h)
 have HMEM:=hid (fun (k:Nat) (h:k<u.length)=>getD_mem (l:=u) h)
 have HHI:=hid hhi
 generalize fIx P u=fi at *
 obtain ⟨L,hL⟩:∃ L,L=u.length:=⟨_,rfl⟩
 rw [← hL] at hLm hlc HAT HMEM HHIT HNO ⊢
 have HL:=hid hL
 clear hP hhi hL hcm
 go_enter Tryz.func90,Tryz.ntmps90
 go_wp2
 go_loopw [8] (fun i wr=>∃ k:Nat,i=.int .i64 k∧k≤L∧Hid (Below w.heap.size w wr)∧Hid (∀ j,j<k→P (u.getD j 0)=false)) (fun i _=>L-(intOf i).toNat)
 case atStart=>exact ⟨0,rfl,Nat.zero_le _,hid (Below.refl _ _),hid (fun j hj=>absurd hj (by omega))⟩
 case round =>
  obtain ⟨k,rfl,hk,HBW,HF⟩:=hrel
  by_cases hlt:k<L
  ·obtain ⟨b,off,c2,e,_,_,hb1,hb2,hc⟩:=HAT.out k hlt
   simp only [Value.slice.injEq] at e
   obtain ⟨rfl,_,rfl⟩:=e
   have hki:(k:Int)<(L:Int):=by omega
   have hk0:(0:Int)≤(k:Int):=by omega
   have d0:=(HBW.out.cell (p:=⟨b,off+k,none⟩) (by have:=HHI.out;show b<_;omega)).trans (hc k hlt)
   have CP:=hid (HP.out wr (u.getD k 0) (HMEM.out k hlt) HBW.out)
   have HK:=hid (HHIT.out k hlt)
   have HF2:=hid (show P (u.getD k 0)=false→∀ j,j<k+1→P (u.getD j 0)=false from fun h j hj=>by
    by_cases e:j=k
    ·subst e;exact h
    ·exact HF.out j (by omega))
   clear hb1 hb2 hc
   generalize u.getD k 0=r at *
   generalize hpr:P r=pr at *
   have HPR:=hid hpr
   clear hpr
   rcases pr with _ | _
   ·go_wp2_with (go_at_call 91;refine CP.out.mono ?_;rintro e w2 ⟨rfl,hb⟩;have HB2:=hid (HBW.out.trans (hb.mono HBW.out.size));clear hb)
    refine ⟨?rel,?measure⟩
    case rel=>exact ⟨k+1,by go_num,by omega,HB2,hid (HF2.out (by trivial))⟩
    case measure=>simp [intOf];omega
   ·have e:=HK.out HF.out rfl
    subst e
    go_wp2_with (go_at_call 91;refine CP.out.mono ?_;rintro e w2 ⟨rfl,hb⟩;have HB2:=hid (HBW.out.trans (hb.mono HBW.out.size));clear hb)
    go_ret
    exact ⟨rfl,HB2.out⟩
  ·have ek:k=L:=by omega
   subst ek
   have e:=HNO.out HF.out
   subst e
   clear hlt
   go_wp2
   go_ret
   exact ⟨rfl,HBW.out⟩
theorem ahead_any (hR:Right n) (st:SrM n ao cap x w0 w sb lb lo hi rv RM VS U) (hhi:hi≤w.heap.size) (mb:Nat) (hM:BBox w mb M) (hML:M.length=n.n.toNat+1) (hRL:RM.length=2*n.l.length) (v:Nat) (hv:v<n.n.toNat+1) (hU:∀ r∈U v,r<2*n.l.length) :
  Calls Tryz.prog 87 #[.pointer (some ⟨sb,0,none⟩),.int .i64 (v:Int),.slice (some ⟨mb,0,none⟩) (n.n.toNat+1) (n.n.toNat+1)] w fun e w'=>But lb w w' ∧
   ((∃ (i r:Nat) (VS':Nat→Value),i<(U v).length∧(U v).getD i 0=r∧goesOn n.l x RM M r=true∧(∀ j,j<i→goesOn n.l x RM M ((U v).getD j 0)=false)∧e=.returned (.tuple #[.int .i64 (r:Int),.bool true])∧SrM n ao cap x w0 w' sb lb lo hi rv RM VS' (fun j=>if j=v then (U v).drop i else U j)) ∨
     (∃ VS':Nat→Value,(∀ j,j<(U v).length→goesOn n.l x RM M ((U v).getD j 0)=false)∧e=.returned (.tuple #[.int .i64 0,.bool false])∧SrM n ao cap x w0 w' sb lb lo hi rv RM VS' (fun j=>if j=v then [] else U j))):=by
 have HST:=hid st
 have hN1:=hR.n1
 have HAH:=hid (fun w' (h1:SrM n ao cap x w0 w' sb lb lo hi rv RM VS U) (bs bm:Nat) h2 h3 h4 (r:Nat) (hr:r∈U v)=>ahead1_any hR h1 bs bm mb h2 h3 h4 hML hRL r (hU r hr))
 have HIX:=hid (fun (p1 p2:Addr) A c w' h1 h2 h3=>index_any p1 p2 (goesOn n.l x RM M) (U v) A c w' (lo:=lo) (hi:=hi) h1 h2 h3)
 have HCS:=hid (fIx_cases (goesOn n.l x RM M) (U v))
 obtain ⟨A,c,hVS,hlc,hcm,_⟩:=st.rows.each v hv
 have HRO:=hid (st.rows.each v hv)
 have HVS:=hid hVS
 have HM:=hid hM
 have HV:=hid hv
 have HHI:=hid hhi
 have HLC:=hid hlc
 obtain ⟨c0,c1,c2,c3,c4,c5,c6⟩:=sblk_cells st.blk
 have hsbl:=(SrM.lt st).1
 have hlbl:=(SrM.lt st).2
 have HSB:=hid hsbl
 have hLm:(U v).length≤9223372036854775807:=by unfold maxLen at hcm;omega
 clear st hM hhi hML hRL hU hlc hcm hVS hlbl c0 c1 c2 c3 c4 c5 c6 hsbl
 generalize fIx (goesOn n.l x RM M) (U v)=fi at *
 generalize hG:goesOn n.l x RM M=G at *
 clear hG hR
 obtain ⟨L,hL⟩:∃ L,L=(U v).length:=⟨_,rfl⟩
 rw [← hL] at hLm HVS HIX HLC
 have HL:=hid hL
 clear hL
 generalize hN:n.n.toNat=N at *
 have HNN:=hid hN
 clear hN
 have hvi:(v:Int)<(N:Int)+1:=by omega
 have hv0:(0:Int)≤(v:Int):=by omega
 have hmf:∀ (fn:Fn) (first cap:Array Value) (w:World),(Instr.makeFunc fn first cap).run Tryz.prog w=.ok (.func fn first cap) w:=fun _ _ _ _=>rfl
 have HST1:=hid (HST.out.alloc (.cells #[.pointer (some ⟨sb,0,none⟩)] 131))
 have HST2:=hid (HST1.out.alloc (.cells #[.slice (some ⟨mb,0,none⟩) (N+1) (N+1)] 59))
 have HB2:=hid (((Below.refl w.heap.size w).alloc (Nat.le_refl _) (.cells #[.pointer (some ⟨sb,0,none⟩)] 131)).alloc (by simp) (.cells #[.slice (some ⟨mb,0,none⟩) (N+1) (N+1)] 59))
 have HZ2:=hid (show ((w.alloc (.cells #[.pointer (some ⟨sb,0,none⟩)] 131)).alloc (.cells #[.slice (some ⟨mb,0,none⟩) (N+1) (N+1)] 59)).heap.size=w.heap.size+2 by simp)
 have hcs:((w.alloc (.cells #[.pointer (some ⟨sb,0,none⟩)] 131)).alloc (.cells #[.slice (some ⟨mb,0,none⟩) (N+1) (N+1)] 59)).cell? ⟨w.heap.size,0,none⟩=some (.pointer (some ⟨sb,0,none⟩)):=held_alloc (World.cell?_alloc_new w _ _ 0)
 have hcm:((w.alloc (.cells #[.pointer (some ⟨sb,0,none⟩)] 131)).alloc (.cells #[.slice (some ⟨mb,0,none⟩) (N+1) (N+1)] 59)).cell? ⟨w.heap.size+1,0,none⟩=some (.slice (some ⟨mb,0,none⟩) (N+1) (N+1)):=by
  simp
 have HCS2:=hid hcs
 have HCM2:=hid hcm
 have HM2:=hid (HM.out.kept (Below.mono HB2.out (Nat.le_refl _)))
 have hsbl:=HSB.out
 go_enter Tryz.func87,Tryz.ntmps87
 go_upto_region 1 with fail
 generalize hW2:((w.alloc (.cells #[.pointer (some ⟨sb,0,none⟩)] 131)).alloc (.cells #[.slice (some ⟨mb,0,none⟩) (N+1) (N+1)] 59))=w2 at *
 have HW2:=hid hW2
 clear hW2
 obtain ⟨c0,c1,c2,c3,c4,c5,c6⟩:=sblk_cells HST2.out.blk
 have u0:=HST2.out.rows.cell (v:=v) (by rw [HNN.out];exact HV.out)
 rw [HNN.out] at c6
 rw [HVS.out] at u0
 go_wp2_with fail
 refine (HIX.out _ _ _ _ w2 ?hrow ?hhi ?hP).mono ?_
 case hrow=>have:=HST2.out.rows.each v (by rw [HNN.out];exact HV.out);rwa [HVS.out] at this
 case hhi=>exact HST2.out.rows.sz
 case hP=>exact fun w' r hr hb=>HAH.out w' (HST2.out.kept hb) _ _ ((hb.cell (by rw [HZ2.out];show w.heap.size<_;omega)).trans HCS2.out) ((hb.cell (by rw [HZ2.out];show w.heap.size+1<_;omega)).trans HCM2.out) (HM2.out.kept hb) r hr
 rintro e w3 ⟨rfl,hb⟩
 have HST3:=hid (HST2.out.kept hb)
 have HB3:=hid (HB2.out.trans (hb.mono HB2.out.size))
 have d0:=(hb.cell (p:=⟨w.heap.size,0,none⟩) (by rw [HZ2.out];show w.heap.size<_;omega)).trans HCS2.out
 clear c0 c1 c2 c3 c4 c5 c6 u0 hcs hcm hmf hb
 obtain ⟨c0,c1,c2,c3,c4,c5,c6⟩:=sblk_cells HST3.out.blk
 have u0:=HST3.out.rows.cell (v:=v) (by rw [HNN.out];exact HV.out)
 have uf:=HST3.out.rows.frozen v
 rw [HNN.out] at c6
 have HNE:=hid HST3.out.ne
 have hne:¬ sb=lb:=HNE.out
 have HD:=hid d0
 have hn2:¬ w.heap.size=lb:=by have:=HST.out.rows.lt;omega
 rcases HCS.out with ⟨k,hk,e,hk1,hk2⟩ | ⟨e,hk2⟩
 ·subst e
  obtain ⟨b,off,c2',e,_,_,hb1,hb2,hc⟩:=rowOf_at (HST3.out.rows.each v (by rw [HNN.out];exact HV.out)) hk
  have HEQ:=hid e
  rw [HVS.out,← HL.out] at e
  simp only [Value.slice.injEq,true_and] at e
  obtain ⟨rfl,rfl⟩:=e
  rw [HVS.out] at u0
  have hkL:k<L:=by rw [HL.out];exact hk
  have hki:(k:Int)≤(L:Int):=by omega
  have hk0:(0:Int)≤(k:Int):=by omega
  have hck:¬ c=k:=by have:=HLC.out;omega
  have HPUT:=hid (HST3.out.put (v:=v) (by rw [HNN.out];exact HV.out) (rowOf_drop (by have:=HST3.out.rows.each v (by rw [HNN.out];exact HV.out);rwa [HVS.out,HL.out] at this) hk))
  rw [← HL.out] at HPUT
  have HF0:=hid (hc k hk)
  have HBB:=hid hb1
  have hbl:¬ lb=b:=by have:=HST3.out.rows.out;omega
  have HBUT:=hid (fun y=>(But.of_below (b:=lb) HB3.out).set v y)
  have HK:=hid hk1
  have HKK:=hid hk2
  have HKU:=hid hk
  generalize hr:(U v).getD k 0=r at *
  have HRR:=hid hr
  have f0:=HF0.out
  clear hr hk1 hk2 hc hb1 hb2 hk
  go_wp2
  go_region
  have HPD:=hid (show SrM n ao cap x w0 (w3.setCell ⟨lb,v,none⟩ (.slice (some ⟨b,off+k,none⟩) (L-k) (c-k))).drew sb lb lo hi rv RM (fun j=>if j=v then .slice (some ⟨b,off+k,none⟩) (L-k) (c-k) else VS j) (fun j=>if j=v then (U v).drop k else U j) from HPUT.out.kept (below_drew (Below.refl _ _)))
  have HDD:=hid (show (w3.setCell ⟨lb,v,none⟩ (.slice (some ⟨b,off+k,none⟩) (L-k) (c-k))).drew.cell? ⟨w.heap.size,0,none⟩=some (.pointer (some ⟨sb,0,none⟩)) from held_set (p:=⟨lb,v,none⟩) HD.out (by show lb≠w.heap.size;omega))
  have HFF:=hid (show (w3.setCell ⟨lb,v,none⟩ (.slice (some ⟨b,off+k,none⟩) (L-k) (c-k))).drew.cell? ⟨b,off+k,none⟩=some (.int .i64 (r:Int)) from held_set (p:=⟨lb,v,none⟩) f0 (by show lb≠b;omega))
  have HBT:=hid (show But lb w (w3.setCell ⟨lb,v,none⟩ (.slice (some ⟨b,off+k,none⟩) (L-k) (c-k))).drew from (HBUT.out _).then (below_drew (Below.refl _ _)))
  clear c0 c1 c2 c3 c4 c5 c6 u0 uf d0 f0
  generalize (w3.setCell ⟨lb,v,none⟩ (.slice (some ⟨b,off+k,none⟩) (L-k) (c-k))).drew=w4 at *
  obtain ⟨c0,c1,c2,c3,c4,c5,c6⟩:=sblk_cells HPD.out.blk
  rw [HNN.out] at c6
  have u0:=HPD.out.rows.cell (v:=v) (by rw [HNN.out];exact HV.out)
  simp only [if_true] at u0
  have d0:=HDD.out
  have f0:=HFF.out
  have hl1:(0:Int)<((L-k:Nat):Int):=by omega
  have hl2:0<L-k:=by omega
  go_wp2
  go_ret2
  exact ⟨HBT.out,.inl ⟨k,r,_,HKU.out,HRR.out,HK.out,HKK.out,rfl,HPD.out⟩⟩
 ·subst e
  have HPUT:=hid (HST3.out.put (v:=v) (by rw [HNN.out];exact HV.out) (rowOf_nil w3 lo hi))
  have HBUT:=hid (fun y=>(But.of_below (b:=lb) HB3.out).set v y)
  have HKK:=hid hk2
  rw [HVS.out] at u0
  clear hk2
  go_wp2
  go_ret2
  exact ⟨HBUT.out _,.inr ⟨_,HKK.out,rfl,HPUT.out⟩⟩
end
end Ne
end Go.Proofs.YthhlfphnokdfaaaGreat
namespace Go.Proofs.YthhlfphnokdfaaaGreat
open Go.ChangeShapes Go.WideShapes Go.ChangeAt Go.RowKit
open Lib (hid)
namespace Ne
section
variable {n:Net} {ao:Option Addr} {cap:Nat} {x:Int} {w0 w:World} {sb lb lo hi:Nat} {rv:Value} {RM:List Int} {VS:Nat→Value} {U:Nat→List Nat} {M:List Bool}
theorem own_empty_val {w:World} {B:Nat} {v:Value} (h:OwnI w B v (encW [])):∃ o c,v=.slice o 0 c:=by
 obtain ⟨o,c,h1,_⟩:=Rw.own_row encI_len h
 exact ⟨o,c,h1⟩
theorem end_any (hR:Right n) (st:SrM n ao cap x w0 w sb lb lo hi rv RM VS U) {B:Nat} {wv:Value} {W:List Nat} (hO:OwnI w B wv (encW W)) (v:Nat) (h1:W=[]→(v:Int)=n.s) (h2:∀ W0 r,W=W0 ++ [r]→r<2*n.l.length∧(trT n.l r).toNat=v) (hWL:W.length≤1000000) :
  Calls Tryz.prog 86 #[.pointer (some ⟨sb,0,none⟩),wv] w fun e w'=>e=.returned (.int .i64 (v:Int))∧Below w.heap.size w w':=by
 have HST:=hid st
 obtain ⟨c0,c1,c2,c3,c4,c5,c6⟩:=sblk_cells st.blk
 have hsbl:=(SrM.lt st).1
 rcases List.eq_nil_or_concat W with e | ⟨W0,r,e⟩
 ·subst e
  obtain ⟨o,c,rfl⟩:=own_empty_val hO
  rw [← h1 rfl] at c1
  clear h1 h2 hO st
  go_enter Tryz.func86,Tryz.ntmps86
  go_wp2
  go_ret
  exact ⟨rfl,Below.refl _ _⟩
 ·rw [List.concat_eq_append] at e
  subst e
  obtain ⟨hr,hv⟩:=h2 W0 r rfl
  obtain ⟨g,c,rfl,_,hgl,hlc,d0⟩:=ownI_row hO
  have EN:=hid (fun w' h1=>ends_nat n ao cap r w' hR h1 hr)
  rw [hv] at EN
  have HRW:=hid st.row
  have hp0:(0:Int)≤(W0.length:Int):=by omega
  generalize (trF n.l r).toNat=y at *
  obtain ⟨p,hp⟩:∃ p,p=W0.length:=⟨_,rfl⟩
  rw [← hp] at d0 hlc hp0 ⊢
  have hpp:(p:Int)<(p:Int)+1:=by omega
  rw [List.length_append,← hp] at hWL
  have hpw:IntKind.i64.wrap (p:Int)=(p:Int):=by rw [IntKind.wrap_i64];omega
  clear h1 h2 hO st hp hv hr hWL
  obtain ⟨nn,ns,nt,l⟩:=n
  simp only at EN c0 c1 c2 c3 c6 HRW ⊢
  go_enter Tryz.func86,Tryz.ntmps86
  go_wp2
  have HRD:=hid (show ARow w.drew ao l from HRW.out.kept (below_drew (Below.refl _ _)))
  go_region_with (go_at_call 49;refine (EN.out _ HRD.out).mono ?_;rintro e w2 ⟨rfl,hb⟩;have HB:=hid ((below_drew (Below.refl w.heap.size w)).trans (hb.mono (Nat.le_refl _)));clear hb)
  all_goals go_wp2
  all_goals go_ret
  all_goals exact ⟨rfl,HB.out⟩
theorem fill_any (hR:Right n) (st:SrM n ao cap x w0 w sb lb lo hi rv RM VS U) {B:Nat} {wv:Value} {R0:Nat} {R':List Nat} (hO:OwnI w B wv (encW (R0 :: R'))) (hRL:RM.length=2*n.l.length) (hlt:∀ r∈R0 :: R',r<2*n.l.length) (hn:(R0 :: R').Nodup)
  (h64:∀ r∈R0 :: R',0≤amt RM r∧amt RM r≤4611686018427387904) (hsep:∀ g,wv.ownBlock=some g→rv.ownBlock≠some g) :
  Calls Tryz.prog 84 #[.pointer (some ⟨sb,0,none⟩),wv] w fun e w'=>e=.returned (.int .i64 (minL RM (amt RM R0) (R0 :: R')))∧∃ gb,rv.ownBlock=some gb∧But gb w w' ∧
   SrM n ao cap x w0 w' sb lb lo hi rv (lessL RM (minL RM (amt RM R0) (R0 :: R')) (R0 :: R')) VS U:=by
 have HST:=hid st
 have HO:=hid hO
 have hR0:R0<RM.length:=by rw [hRL];exact hlt R0 (by simp)
 obtain ⟨gb,cb,hrv,hgl,hg0,e0,_,_⟩:=st.less hR0 0
 have HRV:=hid hrv
 have HGB:=hid (show rv.ownBlock=some gb by rw [hrv];rfl)
 have HW:=hid (show ∃ g c,wv=.slice (some ⟨g,0,none⟩) (R0 :: R').length c∧g<w.heap.size∧g≠gb∧(∀ i,i<(R0 :: R').length→w.cell? ⟨g,i,none⟩=some (.int .i64 (((R0 :: R').getD i 0:Nat):Int))) by
  obtain ⟨o,c,h1,h2,h3,h4,h5,h6,h7⟩:=Rw.own_row encI_len hO
  rw [encW_len] at h1
  rcases h5 with h5 | ⟨b,off,rfl,hb,hc⟩
  ·simp [encW] at h5
  ·obtain ⟨b',e⟩:=h7 _ rfl
   cases e
   refine ⟨b,c,h1,hb,fun e=>?_,fun i hi=>?_⟩
   ·exact hsep b (by rw [h1];rfl) (by rw [hrv,e];rfl)
   ·have:=irow_at hc (i:=i) (x:=(((R0 :: R').getD i 0:Nat):Int)) (by rw [← encW_at hi];exact at_amt (by rw [encW_len];exact hi))
    simpa using this)
 obtain ⟨gw,cw,rfl,hgw,hne,hcw⟩:=HW.out
 have HCW:=hid hcw
 have w00:=hcw 0 (by simp)
 simp only [List.getD_cons_zero] at w00
 obtain ⟨R,hRdef⟩:∃ R,R=R0 :: R':=⟨_,rfl⟩
 rw [← hRdef] at hlt hn h64 HCW hcw ⊢
 have HRD:=hid hRdef
 have hK:0<R.length:=by rw [hRdef];simp
 have HRT:=hid (show ∀ k,k<R.length→R.getD k 0<RM.length from fun k hk=>by rw [hRL];exact hlt _ (getD_mem hk))
 have HMN:=hid (show ∀ k,k<R.length→minL RM (amt RM R0) (R.take (k+1))=min (minL RM (amt RM R0) (R.take k)) (amt RM (R.getD k 0)) from fun k hk=>by rw [take_getD hk,minL_snoc])
 have HLS:=hid (show ∀ a k,k<R.length→lessL RM a (R.take (k+1))=(lessL RM a (R.take k)).set (R.getD k 0) (amt (lessL RM a (R.take k)) (R.getD k 0)-a) from fun a k hk=>by rw [take_getD hk,lessL_snoc])
 have HLA:=hid (show ∀ a k,k<R.length→amt (lessL RM a (R.take k)) (R.getD k 0)=amt RM (R.getD k 0) from fun a k hk=>by
  have hnk:(R.take k).Nodup:=(List.take_sublist k R).nodup hn
  rw [lessL_at hnk (fun r hr=>by rw [hRL];exact hlt r (List.mem_of_mem_take hr)),if_neg]
  intro hm
  obtain ⟨j,hj,e⟩:=List.getElem_of_mem hm
  rw [List.length_take] at hj
  rw [List.getElem_take] at e
  have e2:R.getD k 0=R[k]:=by rw [List.getD_eq_getElem?_getD,List.getElem?_eq_getElem hk];rfl
  rw [e2] at e
  exact List.pairwise_iff_getElem.1 hn j k (by omega) hk (by omega) e)
 have HLL:=hid (show ∀ a k,(lessL RM a (R.take k)).length=RM.length from fun a k=>lessL_len)
 have HLZ:=hid (show ∀ a,lessL RM a (R.take 0)=RM from fun a=>rfl)
 have HTA:=hid (show R.take R.length=R from List.take_length)
 have HMA:=hid (show ∀ k,k<R.length→0≤amt RM (R.getD k 0)∧amt RM (R.getD k 0)≤4611686018427387904 from fun k hk=>h64 _ (getD_mem hk))
 have HM0:=hid (show 0≤amt RM R0∧amt RM R0≤4611686018427387904 from h64 R0 (by rw [hRdef];simp))
 have hRLm:R.length≤1000001∨True:=.inr trivial
 have HLMX:=hid (show R.length≤maxLen by
  obtain ⟨o,c,h1,h2,h3,_⟩:=Rw.own_row encI_len HO.out
  rw [encW_len,← hRdef] at h2;omega)
 have hLm:R.length≤9223372036854775807:=by have:=HLMX.out;unfold maxLen at this;exact this
 obtain ⟨c0,c1,c2,c3,c4,c5,c6⟩:=sblk_cells st.blk
 rw [hrv] at c4
 have hsbl:=(SrM.lt st).1
 have hlen:(R0 :: R').length=R.length:=by rw [hRdef]
 rw [hlen] at HO
 have hRi:(R0:Int)<(RM.length:Int):=by omega
 have hR00:(0:Int)≤(R0:Int):=by omega
 have hKi:(0:Int)<(R.length:Int):=by omega
 obtain ⟨a,ha⟩:∃ a,a=minL RM (amt RM R0) R:=⟨_,rfl⟩
 rw [← ha]
 have HA:=hid ha
 clear hlt hn h64 hsep hRdef hcw hO hlen ha hRLm
 generalize lessL RM=LS at *
 generalize hm0:amt RM R0=m0 at *
 have HM00:=hid hm0
 clear hm0 hrv
 obtain ⟨K,hKd⟩:∃ K,K=R.length:=⟨_,rfl⟩
 rw [← hKd] at hK hKi hLm HCW HRT HMN HLS HLA HTA HMA ⊢
 have HKD:=hid hKd
 clear hKd
 have HOP:=hid (show R0=R.getD 0 0 by rw [HRD.out];rfl)
 go_enter Tryz.func84,Tryz.ntmps84
 go_wp2
 go_quiet (fail)
 have HBQ:=hid (show ∀ q,Below w.heap.size w (w.drewN q) from fun q=>Rw.below_drewN w q)
 have HST2:=hid (show ∀ q,SrM n ao cap x w0 (w.drewN q) sb lb lo hi rv RM VS U from fun q=>HST.out.kept (HBQ.out q))
 go_wp2
 clear c0 c1 c2 c3 c4 c5 c6 e0 w00
 go_loopw [5,21] (fun s5 i wr=>∃ (k:Nat) (m:Int),s5=.int .i64 m∧i=.int .i64 k∧k≤K∧Hid (m=minL RM m0 (R.take k))∧Hid (0≤m∧m≤4611686018427387904)∧Hid (Below w.heap.size w wr)) (fun _ i _=>K-(intOf i).toNat)
 case atStart=>exact ⟨0,m0,rfl,rfl,Nat.zero_le _,rfl,HM0,HBQ.out _⟩
 case round =>
  obtain ⟨k,m,rfl,rfl,hk,HM,HMB,HBW⟩:=hrel
  by_cases hlt:k<K
  ·have HSW:=hid (HST.out.kept HBW.out)
   obtain ⟨c0,c1,c2,c3,c4,c5,c6⟩:=sblk_cells HSW.out.blk
   rw [HRV.out] at c4
   have d0:=(HBW.out.cell (p:=⟨gw,k,none⟩) hgw).trans (HCW.out k hlt)
   have hrl:=HRT.out k hlt
   obtain ⟨g2,cc2,h1,h2,e0⟩:=HSW.out.room hrl
   rw [HRV.out] at h1
   simp only [Value.slice.injEq,Option.some.injEq,Addr.mk.injEq,and_true,true_and] at h1
   obtain ⟨rfl,_⟩:=h1
   obtain ⟨hb1,hb2⟩:=HMA.out k hlt
   have HS:=hid (HMN.out k hlt)
   generalize amt RM (R.getD k 0)=ro at *
   generalize R.getD k 0=r at *
   have hki:(k:Int)<(K:Int):=by omega
   have hk0:(0:Int)≤(k:Int):=by omega
   have hri:(r:Int)<(RM.length:Int):=by omega
   have hr0:(0:Int)≤(r:Int):=by omega
   have hmin:min m ro=if ro<m then ro else m:=by
    rw [Int.min_def]
    by_cases c:ro<m
    ·rw [if_pos c];by_cases d:m≤ro
     ·omega
     ·rw [if_neg d]
    ·rw [if_neg c,if_pos (by omega)]
   have HMB2:=hid (show 0≤min m ro∧min m ro≤4611686018427387904 by have:=HMB.out;omega)
   have HM2:=hid (show min m ro=minL RM m0 (R.take (k+1)) by rw [HS.out,← HM.out])
   clear hmin
   go_wp2
   refine ⟨?rel,?measure⟩
   case rel=>exact ⟨k+1,_,rfl,by go_num,by omega,HM2,HMB2,HBW⟩
   case measure=>simp [intOf];omega
  ·have ek:K=k:=by omega
   subst ek
   have HME:=hid (show m=a by rw [HA.out,HM.out,HTA.out])
   obtain rfl:=HME.out
   have HBL:=hid (show Below w.heap.size w wr from HBW.out)
   have HLS0:=hid (show LS m (R.take 0)=RM from HLZ.out m)
   clear hlt
   go_wp2
   go_loopw [37] (fun i wq=>∃ k:Nat,i=.int .i64 k∧k≤K∧Hid (SrM n ao cap x w0 wq sb lb lo hi rv (LS m (R.take k)) VS U)∧Hid (But gb w wq)) (fun i _=>K-(intOf i).toNat)
   case atStart=>exact ⟨0,rfl,Nat.zero_le _,hid (by rw [HLS0.out];exact HST.out.kept HBL.out),hid (.of_below HBL.out)⟩
   case round =>
    obtain ⟨k,rfl,hk,HSW,HBU⟩:=hrel
    by_cases hlt:k<K
    ·obtain ⟨c0,c1,c2,c3,c4,c5,c6⟩:=sblk_cells HSW.out.blk
     rw [HRV.out] at c4
     have d0:=(World.cell?_of_block (HBU.out.block gw hgw hne)).trans (HCW.out k hlt)
     have hrl:=HRT.out k hlt
     obtain ⟨g2,cc2,h1,h2,_,e0,ef,hput⟩:=HSW.out.less (r:=R.getD k 0) (by rw [HLL.out];exact hrl) (amt RM (R.getD k 0)-m)
     have HEA:=hid (HLA.out m k hlt)
     rw [HEA.out] at e0
     rw [HRV.out] at h1
     simp only [Value.slice.injEq,Option.some.injEq,Addr.mk.injEq,and_true,true_and] at h1
     obtain ⟨rfl,_⟩:=h1
     obtain ⟨hb1,hb2⟩:=HMA.out k hlt
     have HS:=hid (HLS.out m k hlt)
     rw [HEA.out] at HS
     have HPU:=hid hput
     rw [← HS.out] at HPU
     clear hput HEA HS
     have HBU2:=hid (HBU.out.set (R.getD k 0) (.int .i64 (amt RM (R.getD k 0)-m)))
     have hwr:IntKind.i64.wrap (amt RM (R.getD k 0)-m)=amt RM (R.getD k 0)-m:=by have:=HMB.out;rw [IntKind.wrap_i64];omega
     generalize amt RM (R.getD k 0)=ro at *
     generalize R.getD k 0=r at *
     have hki:(k:Int)<(K:Int):=by omega
     have hk0:(0:Int)≤(k:Int):=by omega
     have hri:(r:Int)<(RM.length:Int):=by omega
     have hr0:(0:Int)≤(r:Int):=by omega
     go_wp2
     refine ⟨?rel,?measure⟩
     case rel=>exact ⟨k+1,by go_num,by omega,HPU,HBU2⟩
     case measure=>simp [intOf];omega
    ·have ek:K=k:=by omega
     subst ek
     have HSE:=hid HSW.out
     rw [HTA.out] at HSE
     clear hlt
     go_wp2
     go_ret
     exact ⟨rfl,gb,HGB.out,HBU.out,HSE.out⟩
end
end Ne
end Go.Proofs.YthhlfphnokdfaaaGreat
namespace Go.Proofs.YthhlfphnokdfaaaGreat
open Go.ChangeShapes Go.WideShapes Go.ChangeAt Go.RowKit
open Lib (hid)
namespace Ne
theorem nx_sub {n:Net} {TL:List Nat} {gf:List Int} {x:Int} {RM:List Int} {L:List Int} (hL:Lds n.l L TL) {U:Nat→List Nat} (hS:Srch n TL gf x RM U) {v:Nat} (hv:v<n.n.toNat+1):∀ r∈U v,r<2*n.l.length:=fun r hr=>hL.lt r (hS.sub v hv r hr).1
theorem goes_iff {n:Net} {x:Int} {RM:List Int} {M:List Bool} {r:Nat}:goesOn n.l x RM M r=true↔(x≤amt RM r∧M.getD (trT n.l r).toNat false=false):=by
 unfold goesOn
 simp
section
variable {n:Net} {TL:List Nat} {gf:List Int} {x:Int} {RM:List Int} {L:List Int} (hR:Right n) (hL:Lds n.l L TL)
include hR hL
theorem nx_end {U:Nat→List Nat} {M:List Bool} {W:List Nat} {v:Nat} (h:Sch n TL gf x U M W v):v<n.n.toNat+1∧M.length=n.n.toNat+1∧(W=[]→(v:Int)=n.s)∧∀ W0 r,W=W0 ++ [r]→r<2*n.l.length∧(trT n.l r).toNat=v:=by
 refine ⟨(sch_lt hR hL h).1,h.len,fun e=>?_,fun W0 r e=>?_⟩
 ·subst e
  rcases wlk_inv h.wlk with ⟨_,e⟩ | ⟨_,_,e,_⟩
  ·exact e.symm
  ·cases e
 ·subst e
  have:=(wlk_snoc_inv hR hL h.wlk).2
  exact ⟨hL.lt r (wlk_mem h.wlk r (by simp)).1,by rw [← this];simp⟩
theorem nx_fwd {U:Nat→List Nat} {M:List Bool} {W:List Nat} {v i r:Nat} (hS:Srch n TL gf x RM U) (h:Sch n TL gf x U M W v) (hi:i<(U v).length) (hr:(U v).getD i 0=r) (h1:goesOn n.l x RM (M.set v true) r=true) (h2:∀ j,j<i→goesOn n.l x RM (M.set v true) ((U v).getD j 0)=false) :
  Srch n TL gf x RM (fun j=>if j=v then (U v).drop i else U j)∧Sch n TL gf x (fun j=>if j=v then (U v).drop i else U j) (M.set v true) (W ++ [r]) (trT n.l r).toNat∧meas (M.set v true) (W ++ [r]) (trT n.l r).toNat+1=meas M W v∧r<2*n.l.length:=by
 obtain ⟨g1,g2⟩:=goes_iff.1 h1
 have hrl:=nx_sub hL hS (sch_lt hR hL h).1 r (by rw [← hr];exact getD_mem hi)
 obtain ⟨k1,k2⟩:=sch_fwd hR hL hS h hi hr g1 g2 fun j hj hc=>by
  have:=h2 j hj
  rw [goes_iff.2 hc] at this;cases this
 have:=trT_bd hR hrl
 exact ⟨k1,k2,meas_fwd (by rw [h.len];omega) g2,hrl⟩
theorem nx_dead {U:Nat→List Nat} {M:List Bool} {W:List Nat} {v:Nat} (hS:Srch n TL gf x RM U) (h:Sch n TL gf x U M W v) (hvt:(v:Int)≠n.t) (h2:∀ j,j<(U v).length→goesOn n.l x RM (M.set v true) ((U v).getD j 0)=false) :
  Srch n TL gf x RM (fun j=>if j=v then [] else U j)∧(W=[]→∀ R,¬ Wlk n.l TL gf x n.s R n.t)∧∀ W0 r,W=W0 ++ [r]→Sch n TL gf x (fun j=>if j=v then [] else U j) (M.set v true) W0 (trF n.l r).toNat∧meas (M.set v true) W0 (trF n.l r).toNat+1≤meas M W v:=by
 obtain ⟨k1,k2⟩:=sch_dead hR hL hS h hvt fun j hj hc=>by
  have:=h2 j hj
  rw [goes_iff.2 hc] at this;cases this
 refine ⟨k1,fun e R hW=>?_,fun W0 r e=>?_⟩
 ·have:=(nx_end hR hL h).2.2.1 e
  exact k2 R (by rwa [this])
 ·subst e
  exact ⟨sch_back hR hL h k2,meas_back⟩
theorem nx_done {U:Nat→List Nat} {M:List Bool} {W:List Nat} {v:Nat} (hS:Srch n TL gf x RM U) (h:Sch n TL gf x U M W v) (hvt:(v:Int)=n.t):IsNext n.l TL gf x n.s n.t (some W):=sch_done hR hL hS h hvt
end
def NxR (w':World) (B:Nat) (e:Ending):Option (List Nat)→Prop
 | none=>e=.returned (.tuple #[.slice none 0 0,.bool false])
 | some R=>∃ wv,e=.returned (.tuple #[wv,.bool true])∧OwnI w' B wv (encW R)
section
variable {n:Net} {ao:Option Addr} {cap:Nat} {x:Int} {w0 w:World} {sb lb lo hi:Nat} {rv:Value} {RM:List Int} {VS:Nat→Value} {U:Nat→List Nat} {TL:List Nat} {gf:List Int} {L:List Int}
set_option maxHeartbeats 8000000 in
theorem snext_any (hR:Right n) (hL:Lds n.l L TL) (hS:Srch n TL gf x RM U) (st:SrM n ao cap x w0 w sb lb lo hi rv RM VS U) :
  Calls Tryz.prog 83 #[.pointer (some ⟨sb,0,none⟩)] w fun e w'=>But lb w w'∧∃ VS' U' o,Srch n TL gf x RM U'∧IsNext n.l TL gf x n.s n.t o∧SrM n ao cap x w0 w' sb lb lo hi rv RM VS' U'∧NxR w' w.heap.size e o:=by
 have hN1:=hR.n1
 have hN0:=hR.n0
 have hS0:=hR.s0
 have hS1:=hR.s1
 have HNX:=hid (fun U M W v (h1:Srch n TL gf x RM U) (h2:Sch n TL gf x U M W v) (h3:(v:Int)=n.t)=>nx_done hR hL h1 h2 h3)
 have HSUB:=hid (fun U v (h1:Srch n TL gf x RM U) (hv:v<n.n.toNat+1)=>nx_sub hL h1 hv)
 have HEND:=hid (fun U M W v (h:Sch n TL gf x U M W v)=>nx_end hR hL h)
 have HFWD:=hid (fun U M W v i r (h1:Srch n TL gf x RM U) (h2:Sch n TL gf x U M W v) h3 h4 h5 h6=>nx_fwd (i:=i) (r:=r) hR hL h1 h2 h3 h4 h5 h6)
 have HDEAD:=hid (fun U M W v (h1:Srch n TL gf x RM U) (h2:Sch n TL gf x U M W v) h3 h4=>nx_dead hR hL h1 h2 h3 h4)
 have HSC0:=hid (sch_start (TL:=TL) (g:=gf) (x:=x) hR U)
 have HRL:=hid hS.len
 have HEC:=hid (fun w' VS U (st':SrM n ao cap x w0 w' sb lb lo hi rv RM VS U) (B:Nat) wv W (h1:OwnI w' B wv (encW W)) v h2 h3 h4=>end_any hR st' h1 v h2 h3 h4)
 have HAC:=hid (fun w' VS U M (st':SrM n ao cap x w0 w' sb lb lo hi rv RM VS U) mb h1 h2 v h3 h4=>ahead_any (M:=M) hR st' st'.rows.sz mb h1 h2 hS.len v h3 h4)
 have HTR:=hid (fun w' (h1:ARow w' ao n.l) r (hr:r<2*n.l.length)=>ends_nat n ao cap r w' hR h1 hr)
 have HS:=hid hS
 have HST:=hid st
 have HLOW:=hid (show sb<w.heap.size∧lb<w.heap.size∧hi≤w.heap.size∧(∀ g,rv.ownBlock=some g→g<w.heap.size)∧w0.heap.size≤w.heap.size from ⟨(SrM.lt st).1,(SrM.lt st).2,st.rows.sz,fun g hg=>(Rw.own_lt st.rooms g hg).2,st.old.size⟩)
 obtain ⟨c0,c1,c2,c3,c4,c5,c6⟩:=sblk_cells st.blk
 clear hS st hL
 generalize hSR:Srch n TL gf x RM=SR at *
 generalize hSC:Sch n TL gf x=SC at *
 generalize hGO:goesOn n.l x RM=GO at *
 generalize hIN:IsNext n.l TL gf x n.s n.t=IN at *
 generalize hNW:(∀ R,¬ Wlk n.l TL gf x n.s R n.t)=NW at *
 have HNW:=hid (show NW→IN none from fun h=>by rw [← hIN];rw [← hNW] at h;exact h)
 clear hSR hSC hGO hIN hNW
 have hTT:∀ r,∃ t,(trT n.l r).toNat=t:=fun r=>⟨_,rfl⟩
 clear hTT
 have hNC:n.n=((n.n.toNat:Nat):Int):=by omega
 rw [hNC] at c0
 generalize hNN:n.n.toNat=N at *
 have HNN:=hid hNN
 have hN2:N≤500:=by omega
 clear hNN hNC hN1 hN0
 have hmk:=make_b (N+1) (by omega)
 simp only [Int.natCast_add,Int.natCast_one] at hmk
 obtain ⟨S,hS⟩:∃ S,S=n.s.toNat:=⟨_,rfl⟩
 rw [← hS] at HSC0
 clear hS hS0 hS1
 obtain ⟨mb,hmb⟩:∃ mb,mb=w.heap.size:=⟨_,rfl⟩
 have HM1:=hid (bbox_made w (N+1) hmb)
 have HMB:=hid hmb
 have HST1:=hid (HST.out.alloc (.cells (madeCells #[.bool false] (N+1)) 4))
 have HBT1:=hid (show But lb w (w.alloc (.cells (madeCells #[.bool false] (N+1)) 4)) from .of_below ((Below.refl w.heap.size w).alloc (Nat.le_refl _) _))
 have HZ1:=hid (show mb+1≤(w.alloc (.cells (madeCells #[.bool false] (N+1)) 4)).heap.size by rw [hmb];simp)
 clear hmb
 have HML0:=hid (show (List.replicate (N+1) false).length=N+1 by simp)
 have hwN:IntKind.i64.wrap ((N:Int)+1)=(N:Int)+1:=by rw [IntKind.wrap_i64];omega
 go_enter Tryz.func83,Tryz.ntmps83
 go_wp2
 go_step3
 go_wp2
 go_step3
 go_wp2
 generalize hW1:(w.alloc (.cells (madeCells #[.bool false] (N+1)) 4))=w1 at *
 have HW1:=hid hW1
 rw [← HMB.out]
 have HMS:=hid (show meas (List.replicate (N+1) false) [] S≤2*(N+1) by
  unfold meas
  have:=unmet_set_le (List.replicate (N+1) false) S
  rw [unmet_repl] at this
  simp;omega)
 clear hW1 hmk hwN c0 c1 c2 c3 c4 c5 c6
 go_loopg [4] (meas (List.replicate (N+1) false) [] S) (fun g s wr=>∃ (W:List Nat) (M:List Bool) (v:Nat) (VS:Nat→Value) (U:Nat→List Nat) (wv:Value),wv=s∧g=meas M W v∧Hid (g≤2*(N+1))∧Hid (SR U)∧Hid (SC U M W v)∧Hid (OwnI wr (mb+1) wv (encW W))∧Hid (BBox wr mb M)∧Hid (SrM n ao cap x w0 wr sb lb lo hi rv RM VS U)∧Hid (But lb w wr)∧Hid (mb+1≤wr.heap.size))
 case atStart=>exact ⟨[],_,S,VS,U,_,rfl,rfl,HMS,HS,HSC0,hid (Rw.own_nil _ _),HM1,HST1,HBT1,HZ1⟩
 case round =>
  obtain ⟨W,M,v,VS,U,wv,rfl,hgk,HGB,HSR,HSCU,HOW,HMW,HSW,HBW,HZW⟩:=hrel
  have HGK:=hid hgk
  clear hgk
  obtain ⟨hv,hml,he1,he2⟩:=HEND.out U M W v HSCU.out
  have HWL:=hid (show W.length≤1000000 by have:=HGK.out;have:=HGB.out;unfold meas at *;omega)
  have EN:=hid (HEC.out wr VS U HSW.out (mb+1) wv W HOW.out v he1 he2 HWL.out)
  clear hv hml he1 he2
  go_wp2_with fail
  refine EN.out.mono ?_
  rintro e w2 ⟨rfl,hb⟩
  have HO2:=hid (Rw.own_below HOW.out hb)
  have HM2:=hid (HMW.out.kept hb)
  have HS2:=hid (HSW.out.kept hb)
  have HB2:=hid (HBW.out.then hb)
  have HZ2:=hid (Nat.le_trans HZW.out hb.size)
  clear hb
  go_wp2
  go_loopg [4,6] (meas M W v) (fun g2 s4 s6 wy=>∃ (W:List Nat) (M:List Bool) (v:Nat) (VS:Nat→Value) (U:Nat→List Nat) (wv:Value),wv=s4∧s6=.int .i64 (v:Int)∧g2=meas M W v∧Hid (g2≤gk)∧Hid (SR U)∧Hid (SC U M W v)∧Hid (OwnI wy (mb+1) wv (encW W))∧Hid (BBox wy mb M)∧Hid (SrM n ao cap x w0 wy sb lb lo hi rv RM VS U)∧Hid (But lb w wy)∧Hid (mb+1≤wy.heap.size))
  case atStart=>exact ⟨W,M,v,VS,U,wv,rfl,rfl,rfl,hid (by rw [HGK.out];exact Nat.le_refl _),HSR,HSCU,HO2,HM2,HS2,HB2,HZ2⟩
  case round =>
   obtain ⟨W,M,v,VS,U,wv,rfl,rfl,hgk2,HGB2,HSR2,HSC2,HOW,HMW,HSW,HBW,HZW⟩:=hrel
   have HGK2:=hid hgk2
   clear hgk2
   obtain ⟨hv,hml,he1,he2⟩:=HEND.out U M W v HSC2.out
   clear he1 he2
   obtain ⟨c0,c1,c2,c3,c4,c5,c6⟩:=sblk_cells HSW.out.blk
   by_cases hvt:(v:Int)=n.t
   ·have HDN:=hid (HNX.out U M W v HSR2.out HSC2.out hvt)
    have hvt':((v:Int) != n.t)=false:=by simpa using hvt
    have HOE:=hid (Rw.own_base HOW.out (B':=w.heap.size) (by have:=HMB.out;omega))
    clear hvt
    go_wp2
    try rw [Exit.noGoto_ret]
    go_ret2
    exact ⟨HBW.out,VS,U,some W,HSR2.out,HDN.out,HSW.out,wv,rfl,HOE.out⟩
   have hvt':((v:Int) != n.t)=true:=by simpa using hvt
   obtain ⟨hl1,hl2,hl3,hl4,hl5⟩:=HLOW.out
   have hmb:=HMB.out
   have hvm:v<M.length:=by rw [hml];exact hv
   have m0:=HMW.out.cell hvm
   have mf:=HMW.out.frozen v
   have hlw:=Rw.own_lt HOW.out
   have HM5:=hid (HMW.out.set hvm true)
   have HS5:=hid (HSW.out.far (p:=⟨mb,v,none⟩) (by show _≤mb;omega) (by show mb≠sb;omega) (by show mb≠lb;omega) (by show mb<lo∨hi≤mb;omega) (fun g hg=>by have:=hl4 g hg;show g≠mb;omega) (.bool true))
   have HB5:=hid (HBW.out.far (p:=⟨mb,v,none⟩) (by show _≤mb;omega) (.bool true))
   have HO5:=hid (Rw.own_set HOW.out (p:=⟨mb,v,none⟩) (fun e=>by have:=(hlw mb e).1;omega) (.bool true))
   have HZ5:=hid (show mb+1≤(wr.setCell ⟨mb,v,none⟩ (.bool true)).heap.size by have:=HZW.out;simpa [World.setCell] using this)
   have AC:=hid (HAC.out (wr.setCell ⟨mb,v,none⟩ (.bool true)) VS U (M.set v true) HS5.out mb HM5.out (by rw [List.length_set];exact hml) v hv (HSUB.out U v HSR2.out hv))
   have hvi:(v:Int)<(N:Int)+1:=by omega
   have hv0:(0:Int)≤(v:Int):=by omega
   have HLW:=hid hlw
   have HVT:=hid hvt
   have HVV:=hid hv
   have HMLV:=hid hml
   clear hl1 hl2 hl3 hl4 hl5 hmb hvm hlw hvt hv hml
   generalize hmv:M.getD v false=mv at *
   clear hmv
   go_wp2_with fail
   refine AC.out.mono ?_
   rintro e w6 ⟨hbut,hcs⟩
   have hmlb:mb≠lb:=by have:=HLOW.out.2.1;have:=HMB.out;omega
   have HM6:=hid (show BBox w6 mb (M.set v true) from World.rowIs.of_block HM5.out (hbut.block mb HM5.out.lt hmlb))
   have HO6:=hid (own_same HO5.out fun g hg=>hbut.block g (Rw.own_lt HO5.out g hg).2 (by have:=(Rw.own_lt HO5.out g hg).1;have:=HLOW.out.2.1;have:=HMB.out;omega))
   have HB6:=hid (HB5.out.trans hbut)
   have HZ6:=hid (Nat.le_trans HZ5.out hbut.size)
   clear hbut c0 c1 c2 c3 c4 c5 c6 m0 mf hmlb
   rcases hcs with ⟨i,r,VS',hi,hr,h1,h2,rfl,hst⟩ | ⟨VS',h2,rfl,hst⟩
   ·obtain ⟨f1,f2,f3,hrl⟩:=HFWD.out U M W v i r HSR2.out HSC2.out hi hr h1 h2
    have HF1:=hid f1
    have HF2:=hid f2
    have HF3:=hid f3
    have HWL:=hid (show W.length≤1000000 by have:=HGK2.out;have:=HGB2.out;have:=HGB.out;unfold meas at *;omega)
    have HO7:=hid (Rw.own_alloc HO6.out (.cells #[.int .i64 (r:Int)] 3))
    have HR7:=hid (irow_one' w6 rfl (r:Int) 3)
    have HLN:=hid (show (encW W).length+([(r:Int)]:List Int).length≤1099511627776 by have:=HWL.out;rw [encW_len];simp;omega)
    have HZ7:=hid (show mb+1≤(w6.alloc (.cells #[.int .i64 (r:Int)] 3)).heap.size by have:=HZ6.out;simp;omega)
    have HS7:=hid (hst.alloc (.cells #[.int .i64 (r:Int)] 3))
    have HM7:=hid (HM6.out.alloc (.cells #[.int .i64 (r:Int)] 3))
    have HB7:=hid (HB6.out.then ((Below.refl w6.heap.size w6).alloc (Nat.le_refl _) (.cells #[.int .i64 (r:Int)] 3)))
    have HTR2:=hid (fun w' h1=>HTR.out w' h1 r hrl)
    clear hi hr h1 h2 f1 f2 f3 hst hrl
    generalize (trT n.l r).toNat=tn at *
    generalize (trF n.l r).toNat=fn at *
    go_upto_region 10 with (at_builtin;refine Rw.app elemI encI_len encI_one rfl (.tmp 38) (.tmp 40) rfl (mb+1) wv (encW W) rfl HO7.out (some ⟨w6.heap.size,0,none⟩) 1 [(r:Int)] rfl ?hnn HR7.out HLN.out ?hB ?_;(case hnn=>(intro h;cases h));(case hB=>(exact HZ7.out));intro v8 w8 hown8 hgr8;rw [← encW_snoc] at hown8;have HO8:=hid hown8;have HG8:=hid hgr8;clear hown8 hgr8)
    have HLB:=hid (show ∀ g,wv.ownBlock=some g→mb+1≤g from fun g hg=>(Rw.own_lt HO7.out g hg).1)
    have HS8:=hid (HS7.out.grown HG8.out (fun g hg=>by
     have:=HLB.out g hg;have:=HMB.out
     obtain ⟨hl1,hl2,hl3,hl4,hl5⟩:=HLOW.out
     exact ⟨by omega,by omega,by omega,.inr (by omega),fun e=>by have:=hl4 g e;omega⟩))
    have HM8:=hid (HM7.out.grown HG8.out (fun e=>by have:=HLB.out mb e.symm;omega))
    have HB8:=hid (HB7.out.grown HG8.out (fun g hg=>by have:=HLB.out g hg;have:=HMB.out;omega))
    have HZ8:=hid (Nat.le_trans HZ7.out HG8.out.size)
    obtain ⟨c0,c1,c2,c3,c4,c5,c6⟩:=sblk_cells HS8.out.blk
    go_wp2_with fail
    refine (HTR2.out _ HS8.out.row).mono ?_
    rintro e w9 ⟨rfl,hb⟩
    have HO9:=hid (Rw.own_below HO8.out hb)
    have HM9:=hid (HM8.out.kept hb)
    have HS9:=hid (HS8.out.kept hb)
    have HB9:=hid (HB8.out.then hb)
    have HZ9:=hid (Nat.le_trans HZ8.out hb.size)
    clear hb c0 c1 c2 c3 c4 c5 c6
    go_wp2
    go_roundg (meas (M.set v true) (W ++ [r]) tn)
    case measure=>have:=HF3.out;have:=HGK2.out;omega
    case rel=>exact ⟨W ++ [r],M.set v true,tn,VS',_,_,rfl,rfl,rfl,hid (by have:=HF3.out;have:=HGK2.out;have:=HGB2.out;omega),HF1,HF2,HO9,HM9,HS9,HB9,HZ9⟩
   ·obtain ⟨f1,f2,f3⟩:=HDEAD.out U M W v HSR2.out HSC2.out HVT.out h2
    have HF1:=hid f1
    have HST6:=hid hst
    rcases List.eq_nil_or_concat W with e | ⟨W0,r,e⟩
    ·have HNN0:=hid (HNW.out (f2 e))
     subst e
     obtain ⟨o9,c9,rfl⟩:=own_empty_val HO6.out
     clear f1 f2 f3 hst h2
     go_wp2
     try rw [Exit.noGoto_ret]
     go_ret2
     exact ⟨HB6.out,VS',_,none,HF1.out,HNN0.out,HST6.out,rfl⟩
    ·rw [List.concat_eq_append] at e
     obtain ⟨g1,g2⟩:=f3 W0 r e
     subst e
     have HG1:=hid g1
     have HG2:=hid g2
     obtain ⟨g,c9,rfl,hgB,hgw,hc9,d9⟩:=ownI_row HO6.out
     have HEW:=hid (own_less (show OwnI w6 (mb+1) (.slice (some ⟨g,0,none⟩) (W0.length+1) c9) (encW W0 ++ [(r:Int)]) by have:=HO6.out;rwa [encW_snoc] at this))
     rw [encW_len] at HEW
     have HWL:=hid (show W0.length≤1000000 by have:=HGK2.out;have:=HGB2.out;have:=HGB.out;unfold meas at *;simp at *;omega)
     clear f1 f2 f3 hst h2 g1 g2 d9 hgB hgw
     generalize (trF n.l r).toNat=fn at *
     obtain ⟨p,hp⟩:∃ p,p=W0.length:=⟨_,rfl⟩
     rw [← hp] at hc9 HEW HWL ⊢
     have hpw:IntKind.i64.wrap (p:Int)=(p:Int):=by have:=HWL.out;rw [IntKind.wrap_i64];omega
     have hp0:(0:Int)≤(p:Int):=by omega
     have hpc:p≤c9:=by omega
     have hpci:(p:Int)≤(c9:Int):=by omega
     have hpos:(0:Int)<(p:Int)+1:=by omega
     have HPP:=hid hp
     clear hp
     go_wp2
     go_roundg (meas (M.set v true) W0 fn)
     case measure=>have:=HG2.out;have:=HGK2.out;have:=HGB2.out;omega
     case rel=>exact ⟨W0,M.set v true,fn,VS',_,_,rfl,rfl,hid (by have:=HG2.out;have:=HGK2.out;have:=HGB2.out;have:=HGB.out;omega),HF1,HG1,HEW,HM6,HST6,HB6,HZ6⟩
end
end Ne
end Go.Proofs.YthhlfphnokdfaaaGreat
