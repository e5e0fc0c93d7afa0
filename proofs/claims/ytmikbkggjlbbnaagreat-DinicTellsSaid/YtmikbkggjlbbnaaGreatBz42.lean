/-
  Sk, Sn
-/
import Derived.Test.YtmikbkggjlbbnaaGreatBz40
import Derived.Test.YtmikbkggjlbbnaaGreatBz37
import Derived.Deep.LoopGhost
import Derived.Deep.DeepCutAuto
import Derived.WalkMore
import Derived.Test.YtmikbkggjlbbnaaGreatBz41
namespace Go.Proofs.YtmikbkggjlbbnaaGreat
open Go.ChangeShapes Go.WideShapes Go.ChangeAt Go.RowKit
open Lib (hid)
set_option linter.unusedVariables false
set_option linter.unusedSimpArgs false
namespace Ne
theorem rends_nat (n:Net) (ao:Option Addr) (cap:Nat) (r:Nat) (w:World) (hR:Right n) (hr:ARow w ao n.l) (h:r<2*n.l.length) :
  Calls Tryz.prog 51 #[encN n ao cap,.int .i64 (r:Int)] w fun e w'=>e=.returned (.tuple #[.int .i64 (((trF n.l r).toNat:Nat):Int),.int .i64 (((trT n.l r).toNat:Nat):Int)])∧Below w.heap.size w w':=by
 have hLL:=hR.len
 have h1:=rends_any n ao cap (r:Int) w hr (by omega) (by unfold in64;omega)
 rw [enF_in h,enT_in h] at h1
 have hb:=trF_bd hR h;have hb2:=trT_bd hR h
 rwa [show trF n.l r=(((trF n.l r).toNat:Nat):Int) by omega,show trT n.l r=(((trT n.l r).toNat:Nat):Int) by omega] at h1
def DeadOK (n:Net) (TL:List Nat) (g:List Int) (x:Int) (D:List Bool):Prop:=∀ i,D.getD i false=true→∀ R,¬ Wlk n.l TL g x (i:Int) R n.t
def NoW (n:Net) (TL:List Nat) (g:List Int) (x:Int) (v j:Nat):Prop:=(trF n.l (TL.getD j 0)).toNat=v→x≤roomN n.l g (TL.getD j 0)→∀ R',¬ Wlk n.l TL g x (((trT n.l (TL.getD j 0)).toNat:Nat):Int) R' n.t
section
variable {n:Net} {TL:List Nat} {g:List Int} {x:Int} {L:List Int}
theorem mem_at {q:Nat} (h:q∈TL):∃ j,j<TL.length∧TL.getD j 0=q:=by
 obtain ⟨j,hj,e⟩:=List.getElem_of_mem h
 exact ⟨j,hj,by rw [List.getD_eq_getElem?_getD,List.getElem?_eq_getElem hj,← e];rfl⟩
theorem srt_before (hs:TL.Pairwise (· < ·)) {i j:Nat} (hi:i<TL.length) (hj:j<TL.length) (h:TL.getD j 0<TL.getD i 0):j<i:=by
 rcases Nat.lt_trichotomy j i with c | c | c
 ·exact c
 ·subst c;omega
 ·have:=List.pairwise_iff_getElem.1 hs i j hi hj c
  simp only [List.getD_eq_getElem?_getD,List.getElem?_eq_getElem hi,List.getElem?_eq_getElem hj,Option.getD_some] at h
  omega
theorem seek_hit (hR:Right n) (hL:Lds n.l L TL) {v i:Nat} (hi:i<TL.length) (hv:(v:Int)≠n.t) (hf:(trF n.l (TL.getD i 0)).toNat=v) (hx:x≤roomN n.l g (TL.getD i 0)) (hn:∀ j,j<i→NoW n TL g x v j) {R:List Nat} (h:FirstW n.l TL g x n.t (((trT n.l (TL.getD i 0)).toNat:Nat):Int) R) :
  FirstW n.l TL g x n.t (v:Int) (TL.getD i 0 :: R):=by
 have hm:=getD_mem hi
 have hb:=trF_bd hR (hL.lt _ hm);have hb2:=trT_bd hR (hL.lt _ hm)
 have e:trF n.l (TL.getD i 0)=(v:Int):=by omega
 rw [show (((trT n.l (TL.getD i 0)).toNat:Nat):Int)=trT n.l (TL.getD i 0) by omega] at h
 rw [← e]
 refine .step (by rw [e];exact hv) hm hx h fun q hq eq hxq hlt R' hW=>?_
 obtain ⟨j,hj,ej⟩:=mem_at hq
 have hji:=srt_before hL.srt hi hj (by rw [ej];exact hlt)
 have hb3:=trT_bd hR (hL.lt _ hq)
 refine hn j hji (by rw [ej,eq,e];simp) (by rw [ej];exact hxq) R' ?_
 rw [ej,show (((trT n.l q).toNat:Nat):Int)=trT n.l q by omega]
 exact hW
theorem seek_none (hR:Right n) (hL:Lds n.l L TL) {v:Nat} (hv:(v:Int)≠n.t) (hn:∀ j,j<TL.length→NoW n TL g x v j):∀ R,¬ Wlk n.l TL g x (v:Int) R n.t:=by
 intro R hW
 rcases wlk_inv hW with ⟨_,e⟩ | ⟨q,Q,_,e,h1,h2,h3⟩
 ·exact hv e
 ·obtain ⟨j,hj,ej⟩:=mem_at h1
  have hb3:=trT_bd hR (hL.lt _ h1)
  refine hn j hj (by rw [ej,← e];simp) (by rw [ej];exact h2) Q ?_
  rw [ej,show (((trT n.l q).toNat:Nat):Int)=trT n.l q by omega]
  exact h3
theorem dead_set {D:List Bool} {v:Nat} (hD:DeadOK n TL g x D) (hv:v<D.length) (h:∀ R,¬ Wlk n.l TL g x (v:Int) R n.t):DeadOK n TL g x (D.set v true):=fun i hi R hW=>by
 rw [getD_set _ _ _ hv] at hi
 by_cases e:i=v
 ·subst e;exact h R hW
 ·rw [if_neg e] at hi;exact hD i hi R hW
end
section
variable {n:Net} (ao:Option Addr) (cap:Nat) {TL:List Nat} {g:List Int} (x:Int) {L:List Int} (ro:Option Addr) (rc:Nat) (lo':Option Addr) (lc:Nat)
set_option maxRecDepth 100000 in
set_option maxHeartbeats 8000000 in
theorem seek_body (hR:Right n) (hL:Lds n.l L TL) (hTL:TL.length≤1000000) {Km:Int} (hK:∀ r∈TL,amt L (trT n.l r).toNat≤Km) (w0:World) (h0:ARow w0 ao n.l) (h1:IRow w0 ro (roomL n.l g (2*n.l.length))) (h2:IRow w0 lo' (encW TL)) (k:Nat)
  (ih:∀ k',k=k' + 1→∀ (v db:Nat) (D:List Bool) (w:World),v<n.n.toNat+1→Km≤amt L v+(k':Int)→Below w0.heap.size w0 w→w0.heap.size≤db→BBox w db D→D.length=n.n.toNat+1→DeadOK n TL g x D →
   Calls Tryz.prog 52 #[encN n ao cap,.slice ro (2*n.l.length) rc,.slice lo' TL.length lc,.int .i64 x,.int .i64 (v:Int),.slice (some ⟨db,0,none⟩) (n.n.toNat+1) (n.n.toNat+1)] w fun e w'=>But db w w'∧∃ D' o,BBox w' db D'∧D'.length=n.n.toNat+1∧DeadOK n TL g x D'∧IsNext n.l TL g x (v:Int) n.t o∧NxR w' w.heap.size e o) :
  ∀ (v db:Nat) (D:List Bool) (w:World),v<n.n.toNat+1→Km≤amt L v+(k:Int)→Below w0.heap.size w0 w→w0.heap.size≤db→BBox w db D→D.length=n.n.toNat+1→DeadOK n TL g x D →
  Calls Tryz.prog 52 #[encN n ao cap,.slice ro (2*n.l.length) rc,.slice lo' TL.length lc,.int .i64 x,.int .i64 (v:Int),.slice (some ⟨db,0,none⟩) (n.n.toNat+1) (n.n.toNat+1)] w fun e w'=>But db w w'∧∃ D' o,BBox w' db D'∧D'.length=n.n.toNat+1∧DeadOK n TL g x D'∧IsNext n.l TL g x (v:Int) n.t o∧NxR w' w.heap.size e o:=by
 intro v db D w hv hk hbw hdb hbox hlen hdead
 have HN0:=hid (netBox_new w n.n n.s n.t (.slice ao n.l.length cap))
 have HA0:=hid ((Below.refl w.heap.size w).alloc (Nat.le_refl _) (.cells #[.int .i64 n.n,.int .i64 n.s,.int .i64 n.t,.slice ao n.l.length cap] 24))
 obtain ⟨n0,n1,n2,n3⟩:=netBox_cells HN0.out
 by_cases hvt:(v:Int)=n.t
 ·have HD:=hid hdead
  have HX:=hid (hbox.kept HA0.out)
  have HLE:=hid hlen
  have HFW:=hid (show IsNext n.l TL g x (v:Int) n.t (some []) by rw [hvt];exact .done)
  have hvt':((v:Int) == n.t)=true:=by simpa using hvt
  clear hR hL hTL hK h0 h1 h2 ih hk hbw hdb hbox hlen hdead hvt
  go_enter Tryz.func52,Tryz.ntmps52
  go_wp2
  go_ret2
  exact ⟨.of_below HA0.out,D,some [],HX.out,HLE.out,HD.out,HFW.out,_,rfl,Rw.own_nil _ _⟩
 have hvt':((v:Int) == n.t)=false:=by simpa using hvt
 have hN1:=hR.n1
 have hN0:=hR.n0
 have IH:=hid (show ∀ (r:Nat),r∈TL→(trF n.l r).toNat=v→∀ (db:Nat) (D:List Bool) (w:World),Below w0.heap.size w0 w→w0.heap.size≤db→BBox w db D→D.length=n.n.toNat+1→DeadOK n TL g x D →
   Calls Tryz.prog 52 #[encN n ao cap,.slice ro (2*n.l.length) rc,.slice lo' TL.length lc,.int .i64 x,.int .i64 (((trT n.l r).toNat:Nat):Int),.slice (some ⟨db,0,none⟩) (n.n.toNat+1) (n.n.toNat+1)] w fun e w'=>But db w w'∧∃ D' o,BBox w' db D'∧D'.length=n.n.toNat+1∧DeadOK n TL g x D'∧IsNext n.l TL g x (((trT n.l r).toNat:Nat):Int) n.t o∧NxR w' w.heap.size e o from fun r hr hf db D w g1 g2 g3 g4 g5=>by
  have hup:=hL.up r hr
  rw [hf] at hup
  have hle:=hK r hr
  have hb:=trT_bd hR (hL.lt r hr)
  have ek:k=(k-1)+1:=by omega
  exact ih (k-1) ek (trT n.l r).toNat db D w (by omega) (by omega) g1 g2 g3 g4 g5)
 have HRL:=hid (show ∀ (u:Int) (R:List Nat),FirstW n.l TL g x n.t u R→R.length≤1000000 from fun u R h=>by
  have hw:=firstW_wlk h
  have h1:=nodup_len (L:=n.l.length) (wlk_nodup hL hw) fun i hi=>by
   obtain ⟨r,hr,e2⟩:=List.mem_map.1 hi
   have:=hL.lt r (wlk_mem hw r hr).1
   omega
  rw [List.length_map] at h1
  have:=hR.len
  omega)
 have HMEM:=hid (show ∀ j,j<TL.length→TL.getD j 0∈TL∧TL.getD j 0<2*n.l.length∧(trT n.l (TL.getD j 0)).toNat<n.n.toNat+1 from fun j hj=>by
  have h1:=getD_mem hj
  have h2:=hL.lt _ h1
  have:=trT_bd hR h2
  exact ⟨h1,h2,by omega⟩)
 have HHIT:=hid (fun j (hj:j<TL.length) h2 h3 h4 R h5=>seek_hit (R:=R) (x:=x) (g:=g) hR hL hj hvt h2 h3 h4 h5)
 have HNONE:=hid (fun h=>seek_none (x:=x) (g:=g) hR hL hvt h)
 have HDS:=hid (fun D (h1:DeadOK n TL g x D) (h2:v<D.length) h3=>dead_set h1 h2 h3)
 have HTR:=hid (fun w' (h1:ARow w' ao n.l) r (hr:r<2*n.l.length)=>rends_nat n ao cap r w' hR h1 hr)
 have HLR:=hid (show ∀ j,j<TL.length→∃ b off,lo' = some ⟨b,off,none⟩∧b<w0.heap.size∧w0.cell? ⟨b,off+j,none⟩=some (.int .i64 ((TL.getD j 0:Nat):Int)) from fun j hj=>by
  obtain ⟨b,off,g1,g2,g3⟩:=irow_cell h2 (i:=j) (by rw [encW_len];exact hj)
  rw [encW_at hj] at g3
  exact ⟨b,off,g1,g2,g3⟩)
 have HRR:=hid (show ∀ r,r<2*n.l.length→∃ b off,ro=some ⟨b,off,none⟩∧b<w0.heap.size∧w0.cell? ⟨b,off+r,none⟩=some (.int .i64 (roomN n.l g r)) from fun r hr=>by
  obtain ⟨b,off,g1,g2,g3⟩:=irow_cell h1 (i:=r) (by rw [roomL_len];exact hr)
  rw [roomL_at _ _ hr] at g3
  exact ⟨b,off,g1,g2,g3⟩)
 have HAR:=hid h0
 have HDB:=hid (show db<w.heap.size from hbox.lt)
 have HBW:=hid hbw
 have HDL:=hid hdb
 have HX:=hid (hbox.kept HA0.out)
 have HLE:=hid hlen
 have HDD:=hid hdead
 have HVT:=hid hvt
 have HTLL:=hid hTL
 have HNW0:=hid (show ∀ j,j<0→NoW n TL g x v j from fun j hj=>absurd hj (by omega))
 clear hL hTL hK h0 h1 h2 ih hk hbw hdb hbox hlen hdead hvt
 generalize hNW:NoW n TL g x v=NW at *
 have HNWD:=hid (show ∀ j,((trF n.l (TL.getD j 0)).toNat=v→x≤roomN n.l g (TL.getD j 0)→∀ R',¬ Wlk n.l TL g x (((trT n.l (TL.getD j 0)).toNat:Nat):Int) R' n.t)→NW j from fun j h=>by rw [← hNW];exact h)
 clear hNW
 generalize hNN:n.n.toNat=N at *
 have HNN:=hid hNN
 obtain ⟨nb,hnb⟩:∃ nb,nb=w.heap.size:=⟨_,rfl⟩
 rw [← hnb] at HN0 n0 n1 n2 n3
 have HNB:=hid hnb
 have hvN:v<N+1:=hv
 have hvi:(v:Int)<(N:Int)+1:=by omega
 have hv0:(0:Int)≤(v:Int):=by omega
 obtain ⟨K,hKd⟩:∃ K,K=TL.length:=⟨_,rfl⟩
 rw [← hKd] at HMEM HHIT HNONE HLR HTLL IH ⊢
 have HKD:=hid hKd
 have HBT0:=hid (show But db w _ from .of_below HA0.out)
 clear hNN hnb hKd
 go_enter Tryz.func52,Tryz.ntmps52
 go_wp2
 rw [← HNB.out]
 generalize (w.alloc (.cells #[.int .i64 n.n,.int .i64 n.s,.int .i64 n.t,.slice ao n.l.length cap] 24))=w1 at *
 clear n0 n1 n2 n3 hvt'
 go_loopw [14] (fun i wr=>∃ (j:Nat) (D:List Bool),i=.int .i64 j∧j≤K∧Hid (BBox wr db D)∧Hid (D.length=N+1)∧Hid (DeadOK n TL g x D)∧Hid (But db w wr)∧Hid (NetBox wr nb n.n n.s n.t (.slice ao n.l.length cap))∧Hid (∀ j',j' < j→NW j')) (fun i _=>K-(intOf i).toNat)
 case atStart=>exact ⟨0,D,rfl,Nat.zero_le _,HX,HLE,HDD,HBT0,HN0,HNW0⟩
 case round =>
  obtain ⟨j,D,rfl,hj,HXW,HLW,HDW,HBT,HNW,HNJ⟩:=hrel
  have HOLD:=hid (HBW.out.trans (HBT.out.below (B0:=w0.heap.size) HDL.out HBW.out.size))
  by_cases hlt:j<K
  ·obtain ⟨n0,n1,n2,n3⟩:=netBox_cells HNW.out
   have hnl:=netBox_lt HNW.out
   obtain ⟨hm,hr2,htn⟩:=HMEM.out j hlt
   obtain ⟨b,off,rfl,hb0,hd⟩:=HLR.out j hlt
   obtain ⟨b2,off2,rfl,hb02,hd2⟩:=HRR.out _ hr2
   have d0:=(HOLD.out.cell (p:=⟨b,off+j,none⟩) hb0).trans hd
   have hbl:b<wr.heap.size:=Nat.lt_of_lt_of_le hb0 HOLD.out.size
   have HRC:=hid hd2
   have HB02:=hid hb02
   have HB01:=hid hb0
   have HD1:=hid hd
   have EN:=hid (fun w' h1=>HTR.out w' h1 _ hr2)
   have HRW:=hid (fun w' (h:Below wr.heap.size wr w')=>(HAR.out.kept HOLD.out).kept h)
   have HH:=hid (HHIT.out j hlt)
   have HNJD:=hid (HNWD.out j)
   have IHJ:=hid (fun hf=>IH.out _ hm hf)
   have HNJ2:=hid (show NW j→∀ j',j' < j+1→NW j' from fun h j' hj'=>by
    by_cases e:j' = j
    ·subst e;exact h
    ·exact HNJ.out j' (by omega))
   generalize hro:roomN n.l g (TL.getD j 0)=rx at *
   generalize (trT n.l (TL.getD j 0)).toNat=tn at *
   generalize (trF n.l (TL.getD j 0)).toNat=fn at *
   generalize TL.getD j 0=r at *
   have hji:(j:Int)<(K:Int):=by omega
   have hj0:(0:Int)≤(j:Int):=by omega
   have hjw:IntKind.i64.wrap ((j:Int)+1)=(j:Int)+1:=by have:=HTLL.out;rw [IntKind.wrap_i64];omega
   have hri:(r:Int)<((2*n.l.length:Nat):Int):=by omega
   have hri2:(r:Int)<2*(n.l.length:Int):=by omega
   have hr0:(0:Int)≤(r:Int):=by omega
   have hti:(tn:Int)<(N:Int)+1:=by omega
   have ht0:(0:Int)≤(tn:Int):=by omega
   have hTN:tn<N+1:=htn
   clear hd hd2 hb0 hb02 hro
   go_wp2
   go_upto_region 6 with fail
   have hS0:=(show (fun w':World=>(w'.cell? ⟨nb,0,none⟩=some (.int .i64 n.n)∧w'.cell? ⟨nb,1,none⟩=some (.int .i64 n.s)∧w'.cell? ⟨nb,2,none⟩=some (.int .i64 n.t)∧w'.cell? ⟨nb,3,none⟩=some (.slice ao n.l.length cap))∧w'.cell? ⟨b,off+j,none⟩=some (.int .i64 (r:Int))) wr.drew from ⟨⟨n0,n1,n2,n3⟩,d0⟩)
   refine Rh.start (S:=(fun w':World=>(w'.cell? ⟨nb,0,none⟩=some (.int .i64 n.n)∧w'.cell? ⟨nb,1,none⟩=some (.int .i64 n.s)∧w'.cell? ⟨nb,2,none⟩=some (.int .i64 n.t)∧w'.cell? ⟨nb,3,none⟩=some (.slice ao n.l.length cap))∧w'.cell? ⟨b,off+j,none⟩=some (.int .i64 (r:Int)))) (by kernel_rfl) ?_
   refine Rh.tk (some 30) (i:=0) (v:=?_) rfl (Or.inl ⟨by rfl,?_⟩) hS0 ?_
   rotate_left
   ·intro w hSw
    go_simp
    try with_reducible rfl
   try simp only [Act.put,Rh.q1,Rh.q2,Rh.q3]
   refine Rh.tk (some 31) (i:=1) (v:=?_) rfl (Or.inl ⟨by rfl,?_⟩) hS0 ?_
   rotate_left
   ·intro w hSw
    go_simp
    try with_reducible rfl
   try simp only [Act.put,Rh.q1,Rh.q2,Rh.q3]
   refine Rh.tk (some 32) (i:=2) (v:=?_) rfl (Or.inl ⟨by rfl,?_⟩) hS0 ?_
   rotate_left
   ·intro w hSw
    go_simp
    try with_reducible rfl
   try simp only [Act.put,Rh.q1,Rh.q2,Rh.q3]
   refine Rh.tk (some 33) (i:=3) (v:=?_) rfl (Or.inl ⟨by rfl,?_⟩) hS0 ?_
   rotate_left
   ·intro w hSw
    go_simp
    try with_reducible rfl
   try simp only [Act.put,Rh.q1,Rh.q2,Rh.q3]
   refine Rh.tk (some 34) (i:=4) (v:=?_) rfl (Or.inl ⟨by rfl,?_⟩) hS0 ?_
   rotate_left
   ·intro w hSw
    go_simp
    try with_reducible rfl
   try simp only [Act.put,Rh.q1,Rh.q2,Rh.q3]
   refine Rh.step (i:=5) (by kernel_rfl) rfl fun K' hK'=>?_
   have HK:=hid hK'
   clear hK'
   go_simp
   refine (EN.out wr.drew (HRW.out _ (below_drew (Below.refl _ _)))).mono ?_
   rintro e w3 ⟨rfl,hb⟩
   have HW3:=hid ((below_drew (Below.refl wr.heap.size wr)).trans (hb.mono (Nat.le_refl _)))
   have hS1:=(show (fun w':World=>(w'.cell? ⟨nb,0,none⟩=some (.int .i64 n.n)∧w'.cell? ⟨nb,1,none⟩=some (.int .i64 n.s)∧w'.cell? ⟨nb,2,none⟩=some (.int .i64 n.t)∧w'.cell? ⟨nb,3,none⟩=some (.slice ao n.l.length cap))∧w'.cell? ⟨b,off+j,none⟩=some (.int .i64 (r:Int))) w3 from ⟨⟨(hb.cell (p:=⟨nb,0,none⟩) hnl).trans n0,(hb.cell (p:=⟨nb,1,none⟩) hnl).trans n1,(hb.cell (p:=⟨nb,2,none⟩) hnl).trans n2,(hb.cell (p:=⟨nb,3,none⟩) hnl).trans n3⟩,(hb.cell (p:=⟨b,off+j,none⟩) hbl).trans d0⟩)
   clear hb
   refine HK.out _ _ ⟨hS1,?_⟩
   clear HK K'
   try simp only [Act.put,Rh.q1,Rh.q2,Rh.q3]
   refine Rh.tk (some 29) (i:=6) (v:=?_) rfl (Or.inl ⟨by rfl,?_⟩) hS1 ?_
   rotate_left
   ·intro w hSw
    go_simp
    try with_reducible rfl
   try simp only [Act.put,Rh.q1,Rh.q2,Rh.q3]
   refine Rh.tk (some 36) (i:=7) (v:=?_) rfl (Or.inl ⟨by rfl,?_⟩) hS1 ?_
   rotate_left
   ·intro w hSw
    go_simp
    try with_reducible rfl
   try simp only [Act.put,Rh.q1,Rh.q2,Rh.q3]
   refine Rh.tk (some 37) (i:=8) (v:=?_) rfl (Or.inl ⟨by rfl,?_⟩) hS1 ?_
   rotate_left
   ·intro w hSw
    go_simp
    try with_reducible rfl
   try simp only [Act.put,Rh.q1,Rh.q2,Rh.q3]
   refine Rh.tk (some 15) (i:=9) (v:=?_) rfl (Or.inl ⟨by rfl,?_⟩) hS1 ?_
   rotate_left
   ·intro w hSw
    go_simp
    try with_reducible rfl
   try simp only [Act.put,Rh.q1,Rh.q2,Rh.q3]
   refine Rh.tk (some 16) (i:=10) (v:=?_) rfl (Or.inl ⟨by rfl,?_⟩) hS1 ?_
   rotate_left
   ·intro w hSw
    go_simp
    try with_reducible rfl
   try simp only [Act.put,Rh.q1,Rh.q2,Rh.q3]
   refine Rh.done (by kernel_rfl) ?_ _
   have HN3:=hid (netBox_below HNW.out HW3.out (netBox_lt HNW.out))
   have HX3:=hid (HXW.out.kept HW3.out)
   have HBT3:=hid (HBT.out.then HW3.out)
   have HOLD3:=hid (HOLD.out.trans (HW3.out.mono HOLD.out.size))
   have m0:=HX3.out.cell (i:=tn) (by rw [HLW.out];exact hTN)
   have r0:=(HOLD3.out.cell (p:=⟨b2,off2+r,none⟩) HB02.out).trans HRC.out
   have e0:=(HOLD3.out.cell (p:=⟨b,off+j,none⟩) HB01.out).trans HD1.out
   clear n0 n1 n2 n3 d0 hS0 hS1
   by_cases hfv:fn=v
   case neg =>
    have hfv':((fn:Int) != (v:Int))=true:=by simp;omega
    have HC:=hid (HNJ2.out (HNJD.out (fun h=>absurd h hfv)))
    clear hfv
    go_wp2
    refine ⟨?rel,?measure⟩
    case rel=>exact ⟨j+1,D,by go_num,by omega,HX3,HLW,HDW,HBT3,HN3,HC⟩
    case measure=>simp [intOf];omega
   have hfv':((fn:Int) != (v:Int))=false:=by simp [hfv]
   have HFV:=hid hfv
   clear hfv
   by_cases hmt:D.getD tn false=true
   ·have HC:=hid (HNJ2.out (HNJD.out (fun _ _ R' hW=>HDW.out tn hmt R' hW)))
    rw [hmt] at m0
    clear hmt
    go_wp2
    refine ⟨?rel,?measure⟩
    case rel=>exact ⟨j+1,D,by go_num,by omega,HX3,HLW,HDW,HBT3,HN3,HC⟩
    case measure=>simp [intOf];omega
   have hmf:D.getD tn false=false:=by simpa using hmt
   rw [hmf] at m0
   clear hmt hmf
   by_cases hxr:rx<x
   ·have HC:=hid (HNJ2.out (HNJD.out (fun _ h=>absurd h (by omega))))
    have hxr':decide (rx<x)=true:=by simpa using hxr
    clear hxr
    go_wp2
    refine ⟨?rel,?measure⟩
    case rel=>exact ⟨j+1,D,by go_num,by omega,HX3,HLW,HDW,HBT3,HN3,HC⟩
    case measure=>simp [intOf];omega
   have hxr':decide (rx<x)=false:=by simpa using hxr
   have HXR:=hid (show x≤rx by omega)
   clear hxr
   have CA:=hid (IHJ.out HFV.out db D w3 HOLD3.out HDL.out HX3.out HLW.out HDW.out)
   obtain ⟨n0,n1,n2,n3⟩:=netBox_cells HN3.out
   go_wp2_with fail
   refine CA.out.mono ?_
   rintro e w4 ⟨hbut,D',o',hX',hL',hD',hnx,hnr⟩
   have HX4:=hid hX'
   have HL4:=hid hL'
   have HD4:=hid hD'
   have HBT4:=hid (HBT3.out.trans hbut)
   have hdl:=HDB.out
   have HN4:=hid (show NetBox w4 nb n.n n.s n.t (.slice ao n.l.length cap) by
    have h:=HN3.out
    unfold NetBox at *
    rw [hbut.block _ (netBox_lt HN3.out) (by have:=HNB.out;omega)];exact h)
   have HOLD4:=hid (HBW.out.trans (HBT4.out.below (B0:=w0.heap.size) HDL.out HBW.out.size))
   have HSZ4:=hid (show w.heap.size≤w4.heap.size from HBT4.out.size)
   clear hX' hL' hD' hdl m0 r0 e0 n0 n1 n2 n3
   have e0:=(HOLD4.out.cell (p:=⟨b,off+j,none⟩) HB01.out).trans HD1.out
   rcases o' with _ | R
   ·have e:e=.returned (.tuple #[.slice none 0 0,.bool false]):=hnr
    subst e
    have HC:=hid (HNJ2.out (HNJD.out (fun _ _=>hnx)))
    clear hnr hnx hbut
    go_wp2
    refine ⟨?rel,?measure⟩
    case rel=>exact ⟨j+1,D',by go_num,by omega,HX4,HL4,HD4,HBT4,HN4,HC⟩
    case measure=>simp [intOf];omega
   ·obtain ⟨wv,rfl,hown⟩:=hnr
    have HFW:=hid (HH.out HFV.out HXR.out HNJ.out R hnx)
    have HOW:=hid (Rw.own_base hown (B':=w.heap.size) (by have:=HBT3.out.size;omega))
    obtain ⟨os,cs,hwv,hcs1,hcs2,hnone,hir,_,_⟩:=Rw.own_row encI_len hown
    subst hwv
    have HA5:=hid ((Below.refl w4.heap.size w4).alloc (Nat.le_refl _) (.cells #[.int .i64 (r:Int)] 3))
    have HIR5:=hid (hir.kept HA5.out)
    have HONE5:=hid (Rw.own_base (own_oneI w4 (b:=w4.heap.size) rfl (r:Int)) (B':=w.heap.size) HSZ4.out)
    have HNONE5:=hid hnone
    have HBT5:=hid (HBT4.out.then HA5.out)
    have HX5:=hid (HX4.out.kept HA5.out)
    have HLN5:=hid (show ([(r:Int)]:List Int).length+(encW R).length≤1099511627776 by have h:=HRL.out _ R hnx;rw [encW_len];simp;omega)
    have HZ5:=hid (show w.heap.size≤(w4.alloc (.cells #[.int .i64 (r:Int)] 3)).heap.size by have:=HSZ4.out;simp;omega)
    have hdl2:=HDB.out
    have hdw4:db<w4.heap.size:=by have:=HSZ4.out;omega
    have HDW4:=hid hdw4
    clear hown hnone hir hcs1 hcs2 hnx hbut hdl2 hdw4
    go_wp2_with (at_builtin;refine Rw.app elemI encI_len encI_one rfl (.tmp 73) (.tmp 74) rfl w.heap.size (.slice (some ⟨w4.heap.size,0,none⟩) 1 1) [(r:Int)] rfl HONE5.out os cs (encW R) rfl HNONE5.out HIR5.out HLN5.out HZ5.out ?_;intro v6 w6 hown6 hgr6;have HO6:=hid hown6;have HG6:=hid hgr6;clear hown6 hgr6)
    go_ret2
    have hO:=HO6.out
    have hgn:∀ gq,(Value.slice (some ⟨w4.heap.size,0,none⟩) 1 1).ownBlock=some gq→gq=w4.heap.size:=fun gq hq=>by simp [Value.ownBlock] at hq;omega
    have hX6:BBox w6 db D':=HX5.out.grown HG6.out (fun e=>by have:=hgn db e.symm;have:=HDW4.out;omega)
    have hB6:But db w w6:=HBT5.out.grown HG6.out (fun gq hq=>by have:=hgn gq hq;have:=HSZ4.out;omega)
    exact ⟨hB6,D',some (r :: R),hX6,HL4.out,HD4.out,HFW.out,_,rfl,hO⟩
  ·have ej:K=j:=by omega
   subst ej
   have HNO:=hid (HNONE.out HNJ.out)
   have hvl:v<D.length:=by rw [HLW.out];exact hvN
   have HDE:=hid (HDS.out D HDW.out hvl HNO.out)
   have m0:=HXW.out.cell hvl
   have mf:=HXW.out.frozen v
   have HXE:=hid (HXW.out.set hvl true)
   have HBE:=hid (HBT.out.set v (.bool true))
   have HLEN:=hid (show (D.set v true).length=N+1 by rw [List.length_set];exact HLW.out)
   generalize D.getD v false=dv at *
   clear hlt hvl
   go_wp2
   go_ret2
   exact ⟨HBE.out,D.set v true,none,HXE.out,HLEN.out,HDE.out,HNO.out,rfl⟩
set_option maxRecDepth 100000 in
set_option maxHeartbeats 8000000 in
theorem seek_any (hR:Right n) (hL:Lds n.l L TL) (hTL:TL.length≤1000000) {Km:Int} (hK:∀ r∈TL,amt L (trT n.l r).toNat≤Km) (w0:World) (h0:ARow w0 ao n.l) (h1:IRow w0 ro (roomL n.l g (2*n.l.length))) (h2:IRow w0 lo' (encW TL)) :
  ∀ (k v db:Nat) (D:List Bool) (w:World),v<n.n.toNat+1→Km≤amt L v+(k:Int)→Below w0.heap.size w0 w→w0.heap.size≤db→BBox w db D→D.length=n.n.toNat+1→DeadOK n TL g x D →
  Calls Tryz.prog 52 #[encN n ao cap,.slice ro (2*n.l.length) rc,.slice lo' TL.length lc,.int .i64 x,.int .i64 (v:Int),.slice (some ⟨db,0,none⟩) (n.n.toNat+1) (n.n.toNat+1)] w fun e w'=>But db w w'∧∃ D' o,BBox w' db D'∧D'.length=n.n.toNat+1∧DeadOK n TL g x D'∧IsNext n.l TL g x (v:Int) n.t o∧NxR w' w.heap.size e o:=by
 intro k
 induction k with
 | zero=>exact fun v db D w=>seek_body ao cap x ro rc lo' lc hR hL hTL hK w0 h0 h1 h2 0 (fun k' hk'=>absurd hk' (by omega)) v db D w
 | succ k ih=>exact fun v db D w=>seek_body ao cap x ro rc lo' lc hR hL hTL hK w0 h0 h1 h2 (k+1) (fun k' hk'=>by
  have e:k' = k:=by omega
  rw [e];exact ih) v db D w
end
end Ne
namespace Ne
section
variable {n:Net} (ao:Option Addr) (cap:Nat) {TL:List Nat} {g:List Int} (x:Int) {L:List Int} (ro:Option Addr) (rc:Nat) (lo':Option Addr) (lc:Nat)
set_option maxRecDepth 100000 in
set_option maxHeartbeats 4000000 in
theorem rnext_any (fo:Option Addr) (fc:Nat) {f:List Int} (w:World) (ck:checkN n=0) (hr:ARow w ao n.l) (hf:IRow w fo f) (hF:Okf n f) (hL:Lds n.l L TL) (hTL:TL.length≤1000000) {Km:Int} (hK:∀ r∈TL,amt L (trT n.l r).toNat≤Km) (hl:IRow w lo' (encW TL)) {o:Option (List Nat)} (ho:IsNext n.l TL f x n.s n.t o) :
  Calls Tryz.prog 40 #[encN n ao cap,.slice fo n.l.length fc,.slice lo' TL.length lc,.int .i64 x] w fun e w'=>NxR w' w.heap.size e o∧Below w.heap.size w w':=by
 have hR:=right_of ck
 have hN1:=hR.n1
 have hN0:=hR.n0
 have hs0:=hR.s0
 have hs1:=hR.s1
 have RM:=hid (fun w' h1 h2=>show Calls Tryz.prog 41 #[encN n ao cap,.slice fo n.l.length fc] w' fun e w2=>∃ ro rc,e=.returned (.tuple #[.slice ro (2*n.l.length) rc,.int .i64 0])∧IRow w2 ro (roomL n.l f (2*n.l.length))∧Below w'.heap.size w' w2 by
  have h:=rroom_s n ao cap fo fc f w' h1 h2 (by have:=hR.len;omega)
  have e:roomV n f=roomL n.l f (2*n.l.length):=by unfold roomV;rw [if_neg (by simpa using hF.chk ck)]
  rwa [e,hF.chk ck,hF.len,roomL_len] at h)
 have SK0:=hid (fun ro rc w' w0 db D h0 h1 h2 h3 h4 h5 h6 h7=>seek_any (g:=f) ao cap x ro rc lo' lc hR hL hTL hK w0 h0 h1 h2 (Km-amt L n.s.toNat).toNat n.s.toNat db D w' (by omega) (by omega) h3 h4 h5 h6 h7)
 rw [show ((n.s.toNat:Nat):Int)=n.s by omega] at SK0
 have HONE:=hid (fun o' (h:IsNext n.l TL f x n.s n.t o')=>next_one h ho)
 have HAR0:=hid hr
 have HF0:=hid hf
 have HL0:=hid hl
 have HB0:=hid ((Below.refl w.heap.size w).alloc (Nat.le_refl _) (.cells #[.int .i64 n.n,.int .i64 n.s,.int .i64 n.t,.slice ao n.l.length cap] 24))
 have HN0:=hid (netBox_new w n.n n.s n.t (.slice ao n.l.length cap))
 obtain ⟨n0,n1,n2,n3⟩:=netBox_cells HN0.out
 have hNC:n.n=((n.n.toNat:Nat):Int):=by omega
 have HDD:=hid (show DeadOK n TL f x (List.replicate (n.n.toNat+1) false) from fun i hi=>by rw [replB] at hi;cases hi)
 clear hr hf hl hF hL ho hK hTL
 generalize roomL n.l f (2*n.l.length)=RL at *
 generalize hNN:n.n.toNat=N at *
 have HNN:=hid hNN
 have HNC:=hid hNC
 have hmk:=make_b (N+1) (by omega)
 simp only [Int.natCast_add,Int.natCast_one] at hmk
 rw [← hNC] at hmk
 have hwN:IntKind.i64.wrap (n.n+1)=n.n+1:=by rw [IntKind.wrap_i64];omega
 clear hNN hNC hN1 hN0 hs0 hs1
 obtain ⟨nb,hnb⟩:∃ nb,nb=w.heap.size:=⟨_,rfl⟩
 have HNB:=hid hnb
 go_enter Tryz.func40,Tryz.ntmps40
 go_wp2_with fail
 refine (RM.out _ (HAR0.out.kept HB0.out) (HF0.out.kept HB0.out)).mono ?_
 rintro e w2 ⟨ro,rc,rfl,hir,hb⟩
 have HB2:=hid (HB0.out.trans (hb.mono HB0.out.size))
 have HN2:=hid (netBox_below HN0.out hb (netBox_lt HN0.out))
 have HAR:=hid (HAR0.out.kept HB2.out)
 have HIR:=hid hir
 have HIL:=hid (HL0.out.kept HB2.out)
 have SK:=hid (SK0.out ro rc)
 clear n0 n1 n2 n3 hir hb
 rw [← hnb] at HN2 ⊢
 clear hnb
 obtain ⟨n0,n1,n2,n3⟩:=netBox_cells HN2.out
 have hnl:=netBox_lt HN2.out
 have HBW:=hid (show Below w2.heap.size w2 (w2.alloc (.cells (madeCells #[.bool false] (N+1)) 4)).drew from below_drew ((Below.refl w2.heap.size w2).alloc (Nat.le_refl _) _))
 have HBX:=hid (show BBox (w2.alloc (.cells (madeCells #[.bool false] (N+1)) 4)).drew w2.heap.size (List.replicate (N+1) false) from bbox_made w2 (N+1) rfl)
 have HLEN:=hid (show (List.replicate (N+1) false).length=N+1 by simp)
 have HSZ:=hid (show w.heap.size≤(w2.alloc (.cells (madeCells #[.bool false] (N+1)) 4)).drew.heap.size from Nat.le_trans HB2.out.size HBW.out.size)
 have HNK:=hid (show ∀ w3,But w2.heap.size (w2.alloc (.cells (madeCells #[.bool false] (N+1)) 4)).drew w3→NetBox w3 nb n.n n.s n.t (.slice ao n.l.length cap) from fun w3 hb=>by
  have h:=netBox_below HN2.out HBW.out (netBox_lt HN2.out)
  unfold NetBox at *
  rw [hb.block nb (by have:=HBW.out.size;omega) (by omega)];exact h)
 go_wp2
 go_upto_region 4 with fail
 have hS0:=(show (fun w':World=>w'.cell? ⟨nb,0,none⟩=some (.int .i64 n.n)∧w'.cell? ⟨nb,1,none⟩=some (.int .i64 n.s)∧w'.cell? ⟨nb,2,none⟩=some (.int .i64 n.t)∧w'.cell? ⟨nb,3,none⟩=some (.slice ao n.l.length cap)) w2.drew from ⟨n0,n1,n2,n3⟩)
 have hS1:=(show (fun w':World=>w'.cell? ⟨nb,0,none⟩=some (.int .i64 n.n)∧w'.cell? ⟨nb,1,none⟩=some (.int .i64 n.s)∧w'.cell? ⟨nb,2,none⟩=some (.int .i64 n.t)∧w'.cell? ⟨nb,3,none⟩=some (.slice ao n.l.length cap)) (w2.alloc (.cells (madeCells #[.bool false] (N+1)) 4)).drew from ⟨held_new n0,held_new n1,held_new n2,held_new n3⟩)
 refine Rh.start (S:=(fun w':World=>w'.cell? ⟨nb,0,none⟩=some (.int .i64 n.n)∧w'.cell? ⟨nb,1,none⟩=some (.int .i64 n.s)∧w'.cell? ⟨nb,2,none⟩=some (.int .i64 n.t)∧w'.cell? ⟨nb,3,none⟩=some (.slice ao n.l.length cap))) (by kernel_rfl) ?_
 refine Rh.tk (some 20) (i:=0) (v:=?_) rfl (Or.inl ⟨by rfl,?_⟩) hS0 ?_
 rotate_left
 ·intro w hSw
  go_simp
  try with_reducible rfl
 try simp only [Act.put,Rh.q1,Rh.q2,Rh.q3]
 refine Rh.tk (some 21) (i:=1) (v:=?_) rfl (Or.inl ⟨by rfl,?_⟩) hS0 ?_
 rotate_left
 ·intro w hSw
  go_simp
  try with_reducible rfl
 try simp only [Act.put,Rh.q1,Rh.q2,Rh.q3]
 refine Rh.tk (some 22) (i:=2) (v:=?_) rfl (Or.inl ⟨by rfl,?_⟩) hS0 ?_
 rotate_left
 ·intro w hSw
  go_simp
  try with_reducible rfl
 try simp only [Act.put,Rh.q1,Rh.q2,Rh.q3]
 refine Rh.tk (some 23) (i:=3) (v:=?_) rfl (Or.inl ⟨by rfl,?_⟩) hS0 ?_
 rotate_left
 ·intro w hSw
  go_simp
  try with_reducible rfl
 try simp only [Act.put,Rh.q1,Rh.q2,Rh.q3]
 refine Rh.tk (some 24) (i:=4) (v:=?_) rfl (Or.inl ⟨by rfl,?_⟩) hS0 ?_
 rotate_left
 ·intro w hSw
  go_simp
  try with_reducible rfl
 try simp only [Act.put,Rh.q1,Rh.q2,Rh.q3]
 refine Rh.tk (some 25) (i:=5) (v:=?_) rfl (Or.inl ⟨by rfl,?_⟩) hS0 ?_
 rotate_left
 ·intro w hSw
  go_simp
  try with_reducible rfl
 try simp only [Act.put,Rh.q1,Rh.q2,Rh.q3]
 refine Rh.tk (some 26) (i:=6) (v:=?_) rfl (Or.inl ⟨by rfl,?_⟩) hS0 ?_
 rotate_left
 ·intro w hSw
  go_simp
  try with_reducible rfl
 try simp only [Act.put,Rh.q1,Rh.q2,Rh.q3]
 refine Rh.tk (some 27) (i:=7) (v:=?_) rfl (Or.inl ⟨by rfl,?_⟩) hS0 ?_
 rotate_left
 ·intro w hSw
  go_simp
  try with_reducible rfl
 try simp only [Act.put,Rh.q1,Rh.q2,Rh.q3]
 refine Rh.tk (some 28) (i:=8) (v:=?_) rfl (Or.inl ⟨by rfl,?_⟩) hS0 ?_
 rotate_left
 ·intro w hSw
  go_simp
  try with_reducible rfl
 try simp only [Act.put,Rh.q1,Rh.q2,Rh.q3]
 refine Rh.step (i:=9) (by kernel_rfl) rfl fun K' hK'=>?_
 have HK:=hid hK'
 clear hK'
 go_simp
 refine HK.out _ _ ⟨hS1,?_⟩
 clear HK K'
 try simp only [Act.put,Rh.q1,Rh.q2,Rh.q3]
 refine Rh.step (i:=10) (by kernel_rfl) rfl fun K' hK'=>?_
 have HK:=hid hK'
 clear hK'
 go_simp
 refine (SK.out (w2.alloc (.cells (madeCells #[.bool false] (N+1)) 4)).drew w2 w2.heap.size (List.replicate (N+1) false) HAR.out HIR.out HIL.out HBW.out (Nat.le_refl _) HBX.out HLEN.out HDD.out).mono ?_
 rintro e w3 ⟨hbut,D',o',_,_,_,hnx,hnr⟩
 obtain rfl:=HONE.out o' hnx
 obtain ⟨va,vb,rfl,hns⟩:=nx_slots hnr (B2:=w.heap.size) HSZ.out
 have HNS:=hid hns
 have HBT:=hid hbut
 have hS2:=(show (fun w':World=>w'.cell? ⟨nb,0,none⟩=some (.int .i64 n.n)∧w'.cell? ⟨nb,1,none⟩=some (.int .i64 n.s)∧w'.cell? ⟨nb,2,none⟩=some (.int .i64 n.t)∧w'.cell? ⟨nb,3,none⟩=some (.slice ao n.l.length cap)) w3 from netBox_cells (HNK.out w3 hbut))
 clear hbut hnx hnr hns
 refine HK.out _ _ ⟨hS2,?_⟩
 clear HK K'
 try simp only [Act.put,Rh.q1,Rh.q2,Rh.q3]
 refine Rh.tk (some 31) (i:=11) (v:=?_) rfl (Or.inl ⟨by rfl,?_⟩) hS2 ?_
 rotate_left
 ·intro w hSw
  go_simp
  try with_reducible rfl
 try simp only [Act.put,Rh.q1,Rh.q2,Rh.q3]
 refine Rh.tk (some 32) (i:=12) (v:=?_) rfl (Or.inl ⟨by rfl,?_⟩) hS2 ?_
 rotate_left
 ·intro w hSw
  go_simp
  try with_reducible rfl
 try simp only [Act.put,Rh.q1,Rh.q2,Rh.q3]
 refine Rh.tk (some 8) (i:=13) (v:=?_) rfl (Or.inl ⟨by rfl,?_⟩) hS2 ?_
 rotate_left
 ·intro w hSw
  go_simp
  try with_reducible rfl
 try simp only [Act.put,Rh.q1,Rh.q2,Rh.q3]
 refine Rh.tk (some 9) (i:=14) (v:=?_) rfl (Or.inl ⟨by rfl,?_⟩) hS2 ?_
 rotate_left
 ·intro w hSw
  go_simp
  try with_reducible rfl
 try simp only [Act.put,Rh.q1,Rh.q2,Rh.q3]
 refine Rh.done (by kernel_rfl) ?_ _
 have HB3:=hid (HB2.out.trans ((HBW.out.mono HB2.out.size).trans (HBT.out.below HB2.out.size HSZ.out)))
 go_wp2
 go_ret2
 exact ⟨slots_nx HNS.out,HB3.out⟩
end
end Ne
end Go.Proofs.YtmikbkggjlbbnaaGreat
