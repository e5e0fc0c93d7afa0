/-
  Grm, Grs, Sk, Sn, Gre
-/
import Derived.Test.YtoadkckceladgaaGreatBc5
import Derived.Test.YtoadkckceladgaaGreatBc28
import Derived.Test.YtoadkckceladgaaGreatBc6
import Derived.Test.YtoadkckceladgaaGreatBc10
import Derived.Deep.LoopGhost
import Derived.Deep.DeepCutAuto
import Derived.WalkMore
import Derived.Test.YtoadkckceladgaaGreatBc4
set_option linter.unusedVariables false
set_option linter.unusedSimpArgs false
set_option maxRecDepth 100000
set_option maxHeartbeats 4000000
namespace Go.Proofs.YtoadkckceladgaaGreat
open Go.ChangeShapes Go.WideShapes Go.ChangeAt Go.RowKit
open Lib (hid)
namespace Ne
theorem rroom_any (n:Net) (ao:Option Addr) (cap:Nat) (fo:Option Addr) (fc:Nat) (f:List Int) (w:World) (hr:ARow w ao n.l) (hf:IRow w fo f) (hl:n.l.length≤1000000) :
  Calls Tryz.prog 45 #[encN n ao cap,.slice fo f.length fc] w fun e w'=>∃ v,e=.returned (.tuple #[v,.int .i64 (chkF n f)])∧OwnL w' w.heap.size v (roomV n f)∧Below w.heap.size w w':=by
 have CK:=hid (fun w' (h1:ARow w' ao n.l) (h2:IRow w' fo f)=>rchk_any n ao cap fo fc f w' h1 h2 hl)
 by_cases c0:chkF n f=0
 case neg =>
  have HE:=hid (show roomV n f=[] by unfold roomV;rw [if_pos c0])
  generalize roomV n f=RV at *
  generalize chkF n f=c at *
  generalize f.length=fl at *
  obtain ⟨nn,ns,nt,l⟩:=n
  simp only at hr CK ⊢
  have HB0:=hid ((Below.refl w.heap.size w).alloc (Nat.le_refl _) (.cells #[.int .i64 nn,.int .i64 ns,.int .i64 nt,.slice ao l.length cap] 24))
  have c1':(c == 0)=false:=by simpa using c0
  have c1n:(c != 0)=true:=by simpa using c0
  have HR:=hid (hr.kept HB0.out)
  have HF:=hid (hf.kept HB0.out)
  clear hr hf c0
  go_enter Tryz.func45,Tryz.ntmps45
  go_wp2_with fail
  refine (CK.out _ HR.out HF.out).mono ?_
  rintro e w1 ⟨rfl,hb⟩
  have HB1:=hid (HB0.out.trans (hb.mono (by simp)))
  clear hb
  go_wp2
  go_ret2
  exact ⟨_,rfl,by rw [HE.out];exact Rw.owN _ _,HB1.out⟩
 have HRV:=hid (show roomV n f=roomL n.l f (2*n.l.length) by unfold roomV;rw [if_neg (by simpa using c0)])
 obtain ⟨-,RT,hfl,hwi⟩:=chkA_ok (chkF_ok c0).1
 rw [c0] at CK ⊢
 rw [hfl] at CK ⊢
 have HRM:=hid (fun (r:Nat) w' (h:r<2*n.l.length) h1 h2=>room_any n ao cap fo fc f r w' h1 h2 hl hfl h (room_64 RT hwi h))
 have HTR:=hid (fun w'=>tracks_any n ao cap w' hl)
 have HRS:=hid (fun k=>roomL_succ n.l f k)
 have HRN:=hid (fun k=>rLl n.l f k)
 have HR0:=hid (show roomL n.l f 0=[] from rfl)
 have HEV:=hid (fun i=>room_even n.l f i)
 have HOD:=hid (fun i=>room_odd n.l f i)
 have HR64:=hid (fun (r:Nat) (h:r<2*n.l.length)=>room_64 RT hwi h)
 have HFL:=hid hfl
 have hLL:=RT.len
 generalize roomV n f=RV at *
 generalize roomL n.l f=RL at *
 generalize roomN n.l f=RO at *
 clear c0 RT hwi hfl
 obtain ⟨nn,ns,nt,l⟩:=n
 simp only at hr hl CK HRM HTR HRV HEV HFL hLL HR64 ⊢
 have HB0:=hid ((Below.refl w.heap.size w).alloc (Nat.le_refl _) (.cells #[.int .i64 nn,.int .i64 ns,.int .i64 nt,.slice ao l.length cap] 24))
 have HN0:=hid (nbN w nn ns nt (.slice ao l.length cap))
 have HR:=hid (hr.kept HB0.out)
 have HF:=hid (hf.kept HB0.out)
 clear hr hf
 go_enter Tryz.func45,Tryz.ntmps45
 go_wp2_with fail
 refine (CK.out _ HR.out HF.out).mono ?_
 rintro e WX ⟨rfl,hb⟩
 have HBX:=hid (HB0.out.trans (hb.mono (by simp)))
 have HNX:=hid (nbB HN0.out hb (by simp))
 have HRX:=hid (HR.out.kept hb)
 have HFX:=hid (HF.out.kept hb)
 clear hb HB0 HN0 HR HF CK HTR HRM
 go_wp2
 go_loopw [7,8] (fun s i wr=>∃ (v:Value) (j:Nat),v=s∧i=.int .i64 j∧j≤l.length∧Hid (OwnL wr WX.heap.size v (RL (2*j)))∧Hid (Below WX.heap.size WX wr)) (fun _ i _=>l.length-(intOf i).toNat)
 case atStart=>exact ⟨_,0,rfl,rfl,Nat.zero_le _,hid (by rw [HR0.out];exact Rw.owN _ _),hid (Below.refl _ _)⟩
 case round =>
  obtain ⟨v,j,rfl,rfl,hj,HOW,HBW⟩:=hrel
  by_cases hlt:j<l.length
  ·have HNW:=hid (nbB HNX.out HBW.out (netBox_lt HNX.out))
   obtain ⟨n0,n1,n2,n3⟩:=nbC HNW.out
   obtain ⟨b,off,rfl,hbl,c0,c1,c2⟩:=arC (HRX.out) hlt
   obtain ⟨b2,off2,rfl,hbl2,d0⟩:=irC (HFX.out) (i:=j) (by have:=HFL.out;omega)
   replace c2:=(HBW.out.cell (p:=⟨b,off+j*3+2,none⟩) hbl).trans c2
   replace d0:=(HBW.out.cell (p:=⟨b2,off2+j,none⟩) hbl2).trans d0
   have HEJ:=hid (HEV.out j)
   have HOJ:=hid (HOD.out j)
   have h64:=HR64.out (2*j) (by omega)
   rw [HEJ.out] at h64
   have HST:=hid (show RL (2*j+1)=RL (2*j) ++ [(arcAt l j).cap-amt f j] by rw [HRS.out,HEJ.out])
   have HST2:=hid (show RL (2*(j+1))=RL (2*j+1) ++ [amt f j] by rw [show 2*(j+1)=2*j+1+1 by omega,HRS.out,HOJ.out])
   have HLL:=hid (show ∀ x:Int,(RL (2*j)).length+([x]:List Int).length≤1099511627776∧(RL (2*j+1)).length+([x]:List Int).length≤1099511627776 from fun x=>by rw [HRN.out,HRN.out];simp;omega)
   clear c0 c1
   generalize amt f j=x at *
   generalize arcAt l j=a at *
   obtain ⟨fr,tu,ca⟩:=a
   simp only at c2 HST HEJ h64
   have hjj:(j:Int)<(l.length:Int):=by omega
   have hj0:(0:Int)≤(j:Int):=by omega
   have hsz:=HBW.out.size
   have hw1:IntKind.i64.wrap (ca-x)=ca-x:=by rw [IntKind.wrap_i64];unfold in64 at h64;omega
   clear h64 HEJ HOJ
   have hvb:=Rw.owK HOW.out
   have hwl:w.heap.size<WX.heap.size:=netBox_lt HNX.out
   have HV0:=hid (show v.ownBlock≠some w.heap.size from fun h=>by have:=hvb _ h;omega)
   have HV1:=hid (show v.ownBlock≠some b from fun h=>by have:=hvb _ h;omega)
   have HV2:=hid (show v.ownBlock≠some b2 from fun h=>by have:=hvb _ h;omega)
   have HO1:=hid (show OwnL (wr.alloc (.cells #[.int .i64 (ca-x)] 2)).drew WX.heap.size v (RL (2*j)) from Rw.owA HOW.out _)
   have HNW:=hid (show IRow (wr.alloc (.cells #[.int .i64 (ca-x)] 2)).drew (some ⟨wr.heap.size,0,none⟩) [ca-x] from irow_one' wr rfl (ca-x) _)
   have HLN:=hid (HLL.out (ca-x)).1
   have HBZ:WX.heap.size≤(wr.alloc (.cells #[.int .i64 (ca-x)] 2)).drew.heap.size:=by rw [size_allocd];omega
   have HGW:=hid (fun w' (hg:(wr.alloc (.cells #[.int .i64 (ca-x)] 2)).drew.grownBy w' v.ownBlock)=>(bDr (HBW.out.alloc hsz (.cells #[.int .i64 (ca-x)] 2))).grown hg HBZ hvb)
   go_wp2
   have hS0:=(show (fun w'=>w'.cell? ⟨w.heap.size,3,none⟩=some (.slice (some ⟨b,off,none⟩) l.length cap)∧w'.cell? ⟨b,off+j*3+2,none⟩=some (.int .i64 ca)∧w'.cell? ⟨b2,off2+j,none⟩=some (.int .i64 x)) wr.drew from ⟨n3,c2,d0⟩)
   have hS1:=(show (fun w'=>w'.cell? ⟨w.heap.size,3,none⟩=some (.slice (some ⟨b,off,none⟩) l.length cap)∧w'.cell? ⟨b,off+j*3+2,none⟩=some (.int .i64 ca)∧w'.cell? ⟨b2,off2+j,none⟩=some (.int .i64 x)) (wr.alloc (.cells #[.int .i64 (ca-x)] 2)).drew from ⟨hdN n3,hdN c2,hdN d0⟩)
   refine Rh.start (S:=(fun w'=>w'.cell? ⟨w.heap.size,3,none⟩=some (.slice (some ⟨b,off,none⟩) l.length cap)∧w'.cell? ⟨b,off+j*3+2,none⟩=some (.int .i64 ca)∧w'.cell? ⟨b2,off2+j,none⟩=some (.int .i64 x))) (by kernel_rfl) ?_
   refine Rh.tp 21 0 hS0 ?_
   refine Rh.tp 22 1 hS0 ?_
   refine Rh.tp 23 2 hS0 ?_
   refine Rh.tp 24 3 hS0 ?_
   refine Rh.tp 25 4 hS0 ?_
   refine Rh.tp 26 5 hS0 ?_
   refine Rh.tp 27 6 hS0 ?_
   refine Rh.tp 28 7 hS0 ?_
   refine Rh.tp 29 8 hS0 ?_
   refine Rh.tp 30 9 hS0 ?_
   refine Rh.tp 31 10 hS0 ?_
   refine Rh.tp 32 11 hS0 ?_
   refine Rh.step (i:=12) (by kernel_rfl) rfl fun K' hK'=>?_
   have HK:=hid hK'
   clear hK'
   go_simp
   refine HK.out _ _ ⟨hS1,?_⟩
   clear HK K'
   try simp only [Act.put,Rh.q1,Rh.q2,Rh.q3]
   refine Rh.step (i:=13) (by kernel_rfl) rfl fun K' hK'=>?_
   refine Rw.stepAt elemL eIl eIo (by rfl) (.tmp 21) (.tmp 33) (by rfl) WX.heap.size v (RL (2*j)) (by rfl) HO1.out ⟨wr.heap.size,0,none⟩ 1 [ca-x] 1 rfl (by rfl) HNW.out HLN.out HBZ ?_
   intro v' w' hown' hgrow _
   have hS2:=(show (fun w'=>w'.cell? ⟨w.heap.size,3,none⟩=some (.slice (some ⟨b,off,none⟩) l.length cap)∧w'.cell? ⟨b,off+j*3+2,none⟩=some (.int .i64 ca)∧w'.cell? ⟨b2,off2+j,none⟩=some (.int .i64 x)) w' from ⟨held_grow hgrow HV0.out n3,held_grow hgrow HV1.out c2,held_grow hgrow HV2.out d0⟩)
   refine hK' _ _ ⟨hS2,?_⟩
   clear hK' K'
   try simp only [Act.put,Rh.q1,Rh.q2,Rh.q3]
   refine Rh.tp 7 14 hS2 ?_
   refine Rh.done (by kernel_rfl) ?_ _

   have HOV:=hid (show OwnL w' WX.heap.size v' (RL (2*j+1)) by rw [HST.out];exact hown')
   have HB5:=hid (HGW.out w' hgrow)
   obtain ⟨-,-,d5⟩:=hS2
   clear hS0 hS1 hown' hgrow HO1 HNW HBZ n0 n1 n2 n3 c2 d0 hsz hvb HV0 HV1 HV2 HLN HGW
   have HO6:=hid (Rw.owA HOV.out (.cells #[.int .i64 x] 2))
   have HR6:=hid (irow_one' w' rfl x 2)
   have HLN6:=hid (HLL.out x).2
   have hvb6:=Rw.owK HOV.out
   have HB6:=hid (HB5.out.alloc HB5.out.size (.cells #[.int .i64 x] 2))
   have HZ6:=hid HB6.out.size
   go_wp2_with (at_builtin;refine Rw.app elemL eIl eIo rfl (.tmp 35) (.tmp 40) rfl WX.heap.size _ (RL (2*j+1)) rfl HO6.out (some ⟨w'.heap.size,0,none⟩) 1 [x] rfl ?hnn HR6.out HLN6.out ?hB ?_;(case hnn=>(intro h;cases h));(case hB=>(exact HZ6.out));intro v7 w7 hown7 hgr7;rw [← HST2.out] at hown7;have HB7:=hid (HB6.out.grown hgr7 HZ6.out hvb6);have HO7:=hid hown7;clear hown7 hgr7)
   go_roundw
   case rel=>exact ⟨_,j+1,rfl,by go_num,by omega,HO7,HB7⟩
   case measure=>simp [intOf];omega
  ·have ej:j=l.length:=by omega
   subst ej
   have HBE:=hid (HBX.out.trans (HBW.out.mono HBX.out.size))
   have HOE:=hid (Rw.own_base HOW.out (B':=w.heap.size) HBX.out.size)
   clear hlt hj
   have hfle:=HFL.out
   go_wp2
   go_ret2
   exact ⟨_,rfl,by rw [HRV.out];exact HOE.out,HBE.out⟩
end Ne
namespace Ne
theorem rroom_s (n:Net) (ao:Option Addr) (cap:Nat) (fo:Option Addr) (fc:Nat) (f:List Int) (w:World) (hr:ARow w ao n.l) (hf:IRow w fo f) (hl:n.l.length≤1000000) :
  Calls Tryz.prog 45 #[encN n ao cap,.slice fo f.length fc] w fun e w'=>∃ o c,e=.returned (.tuple #[.slice o (roomV n f).length c,.int .i64 (chkF n f)])∧IRow w' o (roomV n f)∧Below w.heap.size w w' :=
 (rroom_any n ao cap fo fc f w hr hf hl).mono fun e w' ⟨v,h1,h2,h3⟩=>by
  obtain ⟨o,c,hx,_,hi⟩:=irow_ofL h2
  exact ⟨o,c,by rw [h1,hx],hi,h3⟩
end Ne
namespace Ne
theorem rends_nat (n:Net) (ao:Option Addr) (cap:Nat) (r:Nat) (w:World) (hR:Right n) (hr:ARow w ao n.l) (h:r<2*n.l.length) :
  Calls Tryz.prog 52 #[encN n ao cap,.int .i64 (r:Int)] w fun e w'=>e=.returned (.tuple #[.int .i64 (((trF n.l r).toNat:Nat):Int),.int .i64 (((trT n.l r).toNat:Nat):Int)])∧Below w.heap.size w w':=by
 have hLL:=hR.len
 have h1:=rends_any n ao cap (r:Int) w hr (by omega) (by unfold in64;omega)
 rw [enF_in h,enT_in h] at h1
 have hb:=tFb hR h;have hb2:=tTb hR h
 rwa [show trF n.l r=(((trF n.l r).toNat:Nat):Int) by omega,show trT n.l r=(((trT n.l r).toNat:Nat):Int) by omega] at h1
def DeadOK (n:Net) (TL:List Nat) (g:List Int) (x:Int) (D:List Bool):Prop:=∀ i,D.getD i false=true→∀ R,¬ Wlk n.l TL g x (i:Int) R n.t
def NoW (n:Net) (TL:List Nat) (g:List Int) (x:Int) (v j:Nat):Prop:=(trF n.l (TL.getD j 0)).toNat=v→x≤roomN n.l g (TL.getD j 0)→∀ R',¬ Wlk n.l TL g x (((trT n.l (TL.getD j 0)).toNat:Nat):Int) R' n.t
section
variable {n:Net} {TL:List Nat} {g:List Int} {x:Int} {L:List Int}
theorem mem_at {q:Nat} (h:q∈TL):∃ j,j<TL.length∧TL.getD j 0=q:=by
 obtain ⟨j,hj,e⟩:=List.getElem_of_mem h
 exact ⟨j,hj,by rw [List.getD_eq_getElem?_getD,List.getElem?_eq_getElem hj,← e];rfl⟩
theorem srt_before (hs:TL.Pairwise (· < ·)) {i j:Nat} (hi:i<TL.length) (hj:j<TL.length) (h:TL.getD j 0<TL.getD i 0):j<i:=by
 rcases Nat.lt_trichotomy j i with c | c | c
 ·exact c
 ·subst c;omega
 ·have:=List.pairwise_iff_getElem.1 hs i j hi hj c
  simp only [List.getD_eq_getElem?_getD,List.getElem?_eq_getElem hi,List.getElem?_eq_getElem hj,Option.getD_some] at h
  omega
theorem seek_hit (hR:Right n) (hL:Lds n.l L TL) {v i:Nat} (hi:i<TL.length) (hv:(v:Int)≠n.t) (hf:(trF n.l (TL.getD i 0)).toNat=v) (hx:x≤roomN n.l g (TL.getD i 0)) (hn:∀ j,j<i→NoW n TL g x v j) {R:List Nat} (h:FirstW n.l TL g x n.t (((trT n.l (TL.getD i 0)).toNat:Nat):Int) R) :
  FirstW n.l TL g x n.t (v:Int) (TL.getD i 0 :: R):=by
 have hm:=gDm hi
 have hb:=tFb hR (hL.lt _ hm);have hb2:=tTb hR (hL.lt _ hm)
 have e:trF n.l (TL.getD i 0)=(v:Int):=by omega
 rw [show (((trT n.l (TL.getD i 0)).toNat:Nat):Int)=trT n.l (TL.getD i 0) by omega] at h
 rw [← e]
 refine .step (by rw [e];exact hv) hm hx h fun q hq eq hxq hlt R' hW=>?_
 obtain ⟨j,hj,ej⟩:=mem_at hq
 have hji:=srt_before hL.srt hi hj (by rw [ej];exact hlt)
 have hb3:=tTb hR (hL.lt _ hq)
 refine hn j hji (by rw [ej,eq,e];simp) (by rw [ej];exact hxq) R' ?_
 rw [ej,show (((trT n.l q).toNat:Nat):Int)=trT n.l q by omega]
 exact hW
theorem seek_none (hR:Right n) (hL:Lds n.l L TL) {v:Nat} (hv:(v:Int)≠n.t) (hn:∀ j,j<TL.length→NoW n TL g x v j):∀ R,¬ Wlk n.l TL g x (v:Int) R n.t:=by
 intro R hW
 rcases wlk_inv hW with ⟨_,e⟩ | ⟨q,Q,_,e,h1,h2,h3⟩
 ·exact hv e
 ·obtain ⟨j,hj,ej⟩:=mem_at h1
  have hb3:=tTb hR (hL.lt _ h1)
  refine hn j hj (by rw [ej,← e];simp) (by rw [ej];exact h2) Q ?_
  rw [ej,show (((trT n.l q).toNat:Nat):Int)=trT n.l q by omega]
  exact h3
theorem dead_set {D:List Bool} {v:Nat} (hD:DeadOK n TL g x D) (hv:v<D.length) (h:∀ R,¬ Wlk n.l TL g x (v:Int) R n.t):DeadOK n TL g x (D.set v true):=fun i hi R hW=>by
 rw [getD_set _ _ _ hv] at hi
 by_cases e:i=v
 ·subst e;exact h R hW
 ·rw [if_neg e] at hi;exact hD i hi R hW
end
section
variable {n:Net} (ao:Option Addr) (cap:Nat) {TL:List Nat} {g:List Int} (x:Int) {L:List Int} (ro:Option Addr) (rc:Nat) (lo':Option Addr) (lc:Nat)
set_option maxHeartbeats 8000000 in
theorem seek_body (hR:Right n) (hL:Lds n.l L TL) (hTL:TL.length≤1000000) {Km:Int} (hK:∀ r∈TL,amt L (trT n.l r).toNat≤Km) (w0:World) (h0:ARow w0 ao n.l) (h1:IRow w0 ro (roomL n.l g (2*n.l.length))) (h2:IRow w0 lo' (encW TL)) (k:Nat)
  (ih:∀ k',k=k' + 1→∀ (v db:Nat) (D:List Bool) (w:World),v<n.n.toNat+1→Km≤amt L v+(k':Int)→Below w0.heap.size w0 w→w0.heap.size≤db→BBox w db D→D.length=n.n.toNat+1→DeadOK n TL g x D →
   Calls Tryz.prog 53 #[encN n ao cap,.slice ro (2*n.l.length) rc,.slice lo' TL.length lc,.int .i64 x,.int .i64 (v:Int),.slice (some ⟨db,0,none⟩) (n.n.toNat+1) (n.n.toNat+1)] w fun e w'=>But db w w'∧∃ D' o,BBox w' db D'∧D'.length=n.n.toNat+1∧DeadOK n TL g x D'∧IsNext n.l TL g x (v:Int) n.t o∧NxR w' w.heap.size e o) :
  ∀ (v db:Nat) (D:List Bool) (w:World),v<n.n.toNat+1→Km≤amt L v+(k:Int)→Below w0.heap.size w0 w→w0.heap.size≤db→BBox w db D→D.length=n.n.toNat+1→DeadOK n TL g x D →
  Calls Tryz.prog 53 #[encN n ao cap,.slice ro (2*n.l.length) rc,.slice lo' TL.length lc,.int .i64 x,.int .i64 (v:Int),.slice (some ⟨db,0,none⟩) (n.n.toNat+1) (n.n.toNat+1)] w fun e w'=>But db w w'∧∃ D' o,BBox w' db D'∧D'.length=n.n.toNat+1∧DeadOK n TL g x D'∧IsNext n.l TL g x (v:Int) n.t o∧NxR w' w.heap.size e o:=by
 intro v db D w hv hk hbw hdb hbox hlen hdead
 have HN0:=hid (nbN w n.n n.s n.t (.slice ao n.l.length cap))
 have HA0:=hid ((Below.refl w.heap.size w).alloc (Nat.le_refl _) (.cells #[.int .i64 n.n,.int .i64 n.s,.int .i64 n.t,.slice ao n.l.length cap] 24))
 obtain ⟨n0,n1,n2,n3⟩:=nbC HN0.out
 by_cases hvt:(v:Int)=n.t
 ·have HD:=hid hdead
  have HX:=hid (hbox.kept HA0.out)
  have HLE:=hid hlen
  have HFW:=hid (show IsNext n.l TL g x (v:Int) n.t (some []) by rw [hvt];exact .done)
  have hvt':((v:Int) == n.t)=true:=by simpa using hvt
  clear hR hL hTL hK h0 h1 h2 ih hk hbw hdb hbox hlen hdead hvt
  go_enter Tryz.func53,Tryz.ntmps53
  go_wp2
  go_ret2
  exact ⟨.of_below HA0.out,D,some [],HX.out,HLE.out,HD.out,HFW.out,_,rfl,Rw.owN _ _⟩
 have hvt':((v:Int) == n.t)=false:=by simpa using hvt
 have hN1:=hR.n1
 have hN0:=hR.n0
 have IH:=hid (show ∀ (r:Nat),r∈TL→(trF n.l r).toNat=v→∀ (db:Nat) (D:List Bool) (w:World),Below w0.heap.size w0 w→w0.heap.size≤db→BBox w db D→D.length=n.n.toNat+1→DeadOK n TL g x D →
   Calls Tryz.prog 53 #[encN n ao cap,.slice ro (2*n.l.length) rc,.slice lo' TL.length lc,.int .i64 x,.int .i64 (((trT n.l r).toNat:Nat):Int),.slice (some ⟨db,0,none⟩) (n.n.toNat+1) (n.n.toNat+1)] w fun e w'=>But db w w'∧∃ D' o,BBox w' db D'∧D'.length=n.n.toNat+1∧DeadOK n TL g x D'∧IsNext n.l TL g x (((trT n.l r).toNat:Nat):Int) n.t o∧NxR w' w.heap.size e o from fun r hr hf db D w g1 g2 g3 g4 g5=>by
  have hup:=hL.up r hr
  rw [hf] at hup
  have hle:=hK r hr
  have hb:=tTb hR (hL.lt r hr)
  have ek:k=(k-1)+1:=by omega
  exact ih (k-1) ek (trT n.l r).toNat db D w (by omega) (by omega) g1 g2 g3 g4 g5)
 have HRL:=hid (show ∀ (u:Int) (R:List Nat),FirstW n.l TL g x n.t u R→R.length≤1000000 from fun u R h=>by
  have hw:=fWw h
  have h1:=nodup_len (L:=n.l.length) (wlk_nodup hL hw) fun i hi=>by
   obtain ⟨r,hr,e2⟩:=List.mem_map.1 hi
   have:=hL.lt r (wlk_mem hw r hr).1
   omega
  rw [List.length_map] at h1
  have:=hR.len
  omega)
 have HMEM:=hid (show ∀ j,j<TL.length→TL.getD j 0∈TL∧TL.getD j 0<2*n.l.length∧(trT n.l (TL.getD j 0)).toNat<n.n.toNat+1 from fun j hj=>by
  have h1:=gDm hj
  have h2:=hL.lt _ h1
  have:=tTb hR h2
  exact ⟨h1,h2,by omega⟩)
 have HHIT:=hid (fun j (hj:j<TL.length) h2 h3 h4 R h5=>seek_hit (R:=R) (x:=x) (g:=g) hR hL hj hvt h2 h3 h4 h5)
 have HNONE:=hid (fun h=>seek_none (x:=x) (g:=g) hR hL hvt h)
 have HDS:=hid (fun D (h1:DeadOK n TL g x D) (h2:v<D.length) h3=>dead_set h1 h2 h3)
 have HTR:=hid (fun w' (h1:ARow w' ao n.l) r (hr:r<2*n.l.length)=>rends_nat n ao cap r w' hR h1 hr)
 have HLR:=hid (show ∀ j,j<TL.length→∃ b off,lo' = some ⟨b,off,none⟩∧b<w0.heap.size∧w0.cell? ⟨b,off+j,none⟩=some (.int .i64 ((TL.getD j 0:Nat):Int)) from fun j hj=>by
  obtain ⟨b,off,g1,g2,g3⟩:=irC h2 (i:=j) (by rw [eWl];exact hj)
  rw [encW_at hj] at g3
  exact ⟨b,off,g1,g2,g3⟩)
 have HRR:=hid (show ∀ r,r<2*n.l.length→∃ b off,ro=some ⟨b,off,none⟩∧b<w0.heap.size∧w0.cell? ⟨b,off+r,none⟩=some (.int .i64 (roomN n.l g r)) from fun r hr=>by
  obtain ⟨b,off,g1,g2,g3⟩:=irC h1 (i:=r) (by rw [rLl];exact hr)
  rw [roomL_at _ _ hr] at g3
  exact ⟨b,off,g1,g2,g3⟩)
 have HAR:=hid h0
 have HDB:=hid (show db<w.heap.size from hbox.lt)
 have HBW:=hid hbw
 have HDL:=hid hdb
 have HX:=hid (hbox.kept HA0.out)
 have HLE:=hid hlen
 have HDD:=hid hdead
 have HVT:=hid hvt
 have HTLL:=hid hTL
 have HNW0:=hid (show ∀ j,j<0→NoW n TL g x v j from fun j hj=>absurd hj (by omega))
 clear hL hTL hK h0 h1 h2 ih hk hbw hdb hbox hlen hdead hvt
 generalize hNW:NoW n TL g x v=NW at *
 have HNWD:=hid (show ∀ j,((trF n.l (TL.getD j 0)).toNat=v→x≤roomN n.l g (TL.getD j 0)→∀ R',¬ Wlk n.l TL g x (((trT n.l (TL.getD j 0)).toNat:Nat):Int) R' n.t)→NW j from fun j h=>by rw [← hNW];exact h)
 clear hNW
 generalize hNN:n.n.toNat=N at *
 have HNN:=hid hNN
 obtain ⟨nb,hnb⟩:∃ nb,nb=w.heap.size:=⟨_,rfl⟩
 rw [← hnb] at HN0 n0 n1 n2 n3
 have HNB:=hid hnb
 have hvN:v<N+1:=hv
 have hvi:(v:Int)<(N:Int)+1:=by omega
 have hv0:(0:Int)≤(v:Int):=by omega
 obtain ⟨K,hKd⟩:∃ K,K=TL.length:=⟨_,rfl⟩
 rw [← hKd] at HMEM HHIT HNONE HLR HTLL IH ⊢
 have HKD:=hid hKd
 have HBT0:=hid (show But db w _ from .of_below HA0.out)
 clear hNN hnb hKd
 go_enter Tryz.func53,Tryz.ntmps53
 go_wp2
 rw [← HNB.out]
 generalize (w.alloc (.cells #[.int .i64 n.n,.int .i64 n.s,.int .i64 n.t,.slice ao n.l.length cap] 24))=w1 at *
 clear n0 n1 n2 n3 hvt'
 go_loopw [14] (fun i wr=>∃ (j:Nat) (D:List Bool),i=.int .i64 j∧j≤K∧Hid (BBox wr db D)∧Hid (D.length=N+1)∧Hid (DeadOK n TL g x D)∧Hid (But db w wr)∧Hid (NetBox wr nb n.n n.s n.t (.slice ao n.l.length cap))∧Hid (∀ j',j' < j→NW j')) (fun i _=>K-(intOf i).toNat)
 case atStart=>exact ⟨0,D,rfl,Nat.zero_le _,HX,HLE,HDD,HBT0,HN0,HNW0⟩
 case round =>
  obtain ⟨j,D,rfl,hj,HXW,HLW,HDW,HBT,HNW,HNJ⟩:=hrel
  have HOLD:=hid (HBW.out.trans (HBT.out.below (B0:=w0.heap.size) HDL.out HBW.out.size))
  by_cases hlt:j<K
  ·obtain ⟨n0,n1,n2,n3⟩:=nbC HNW.out
   have hnl:=netBox_lt HNW.out
   obtain ⟨hm,hr2,htn⟩:=HMEM.out j hlt
   obtain ⟨b,off,rfl,hb0,hd⟩:=HLR.out j hlt
   obtain ⟨b2,off2,rfl,hb02,hd2⟩:=HRR.out _ hr2
   have d0:=(HOLD.out.cell (p:=⟨b,off+j,none⟩) hb0).trans hd
   have hbl:b<wr.heap.size:=Nat.lt_of_lt_of_le hb0 HOLD.out.size
   have HRC:=hid hd2
   have HB02:=hid hb02
   have HB01:=hid hb0
   have HD1:=hid hd
   have EN:=hid (fun w' h1=>HTR.out w' h1 _ hr2)
   have HRW:=hid (fun w' (h:Below wr.heap.size wr w')=>(HAR.out.kept HOLD.out).kept h)
   have HH:=hid (HHIT.out j hlt)
   have HNJD:=hid (HNWD.out j)
   have IHJ:=hid (fun hf=>IH.out _ hm hf)
   have HNJ2:=hid (show NW j→∀ j',j' < j+1→NW j' from fun h j' hj'=>by
    by_cases e:j' = j
    ·subst e;exact h
    ·exact HNJ.out j' (by omega))
   generalize hro:roomN n.l g (TL.getD j 0)=rx at *
   generalize (trT n.l (TL.getD j 0)).toNat=tn at *
   generalize (trF n.l (TL.getD j 0)).toNat=fn at *
   generalize TL.getD j 0=r at *
   have hji:(j:Int)<(K:Int):=by omega
   have hj0:(0:Int)≤(j:Int):=by omega
   have hjw:IntKind.i64.wrap ((j:Int)+1)=(j:Int)+1:=by have:=HTLL.out;rw [IntKind.wrap_i64];omega
   have hri:(r:Int)<((2*n.l.length:Nat):Int):=by omega
   have hri2:(r:Int)<2*(n.l.length:Int):=by omega
   have hr0:(0:Int)≤(r:Int):=by omega
   have hti:(tn:Int)<(N:Int)+1:=by omega
   have ht0:(0:Int)≤(tn:Int):=by omega
   have hTN:tn<N+1:=htn
   clear hd hd2 hb0 hb02 hro
   go_wp2
   go_upto_region 6 with fail
   have hS0:=(show (fun w':World=>(w'.cell? ⟨nb,0,none⟩=some (.int .i64 n.n)∧w'.cell? ⟨nb,1,none⟩=some (.int .i64 n.s)∧w'.cell? ⟨nb,2,none⟩=some (.int .i64 n.t)∧w'.cell? ⟨nb,3,none⟩=some (.slice ao n.l.length cap))∧w'.cell? ⟨b,off+j,none⟩=some (.int .i64 (r:Int))) wr.drew from ⟨⟨n0,n1,n2,n3⟩,d0⟩)
   refine Rh.start (S:=(fun w':World=>(w'.cell? ⟨nb,0,none⟩=some (.int .i64 n.n)∧w'.cell? ⟨nb,1,none⟩=some (.int .i64 n.s)∧w'.cell? ⟨nb,2,none⟩=some (.int .i64 n.t)∧w'.cell? ⟨nb,3,none⟩=some (.slice ao n.l.length cap))∧w'.cell? ⟨b,off+j,none⟩=some (.int .i64 (r:Int)))) (by kernel_rfl) ?_
   refine Rh.tp 30 0 hS0 ?_
   refine Rh.tp 31 1 hS0 ?_
   refine Rh.tp 32 2 hS0 ?_
   refine Rh.tp 33 3 hS0 ?_
   refine Rh.tp 34 4 hS0 ?_
   refine Rh.step (i:=5) (by kernel_rfl) rfl fun K' hK'=>?_
   have HK:=hid hK'
   clear hK'
   go_simp
   refine (EN.out wr.drew (HRW.out _ (bDr (Below.refl _ _)))).mono ?_
   rintro e w3 ⟨rfl,hb⟩
   have HW3:=hid ((bDr (Below.refl wr.heap.size wr)).trans (hb.mono (Nat.le_refl _)))
   have hS1:=(show (fun w':World=>(w'.cell? ⟨nb,0,none⟩=some (.int .i64 n.n)∧w'.cell? ⟨nb,1,none⟩=some (.int .i64 n.s)∧w'.cell? ⟨nb,2,none⟩=some (.int .i64 n.t)∧w'.cell? ⟨nb,3,none⟩=some (.slice ao n.l.length cap))∧w'.cell? ⟨b,off+j,none⟩=some (.int .i64 (r:Int))) w3 from ⟨⟨(hb.cell (p:=⟨nb,0,none⟩) hnl).trans n0,(hb.cell (p:=⟨nb,1,none⟩) hnl).trans n1,(hb.cell (p:=⟨nb,2,none⟩) hnl).trans n2,(hb.cell (p:=⟨nb,3,none⟩) hnl).trans n3⟩,(hb.cell (p:=⟨b,off+j,none⟩) hbl).trans d0⟩)
   clear hb
   refine HK.out _ _ ⟨hS1,?_⟩
   clear HK K'
   try simp only [Act.put,Rh.q1,Rh.q2,Rh.q3]
   refine Rh.tp 29 6 hS1 ?_
   refine Rh.tp 36 7 hS1 ?_
   refine Rh.tp 37 8 hS1 ?_
   refine Rh.tp 15 9 hS1 ?_
   refine Rh.tp 16 10 hS1 ?_
   refine Rh.done (by kernel_rfl) ?_ _
   have HN3:=hid (nbB HNW.out HW3.out (netBox_lt HNW.out))
   have HX3:=hid (HXW.out.kept HW3.out)
   have HBT3:=hid (HBT.out.then HW3.out)
   have HOLD3:=hid (HOLD.out.trans (HW3.out.mono HOLD.out.size))
   have m0:=HX3.out.cell (i:=tn) (by rw [HLW.out];exact hTN)
   have r0:=(HOLD3.out.cell (p:=⟨b2,off2+r,none⟩) HB02.out).trans HRC.out
   have e0:=(HOLD3.out.cell (p:=⟨b,off+j,none⟩) HB01.out).trans HD1.out
   clear n0 n1 n2 n3 d0 hS0 hS1
   by_cases hfv:fn=v
   case neg =>
    have hfv':((fn:Int) != (v:Int))=true:=by simp;omega
    have HC:=hid (HNJ2.out (HNJD.out (fun h=>absurd h hfv)))
    clear hfv
    go_wp2
    refine ⟨?rel,?measure⟩
    case rel=>exact ⟨j+1,D,by go_num,by omega,HX3,HLW,HDW,HBT3,HN3,HC⟩
    case measure=>simp [intOf];omega
   have hfv':((fn:Int) != (v:Int))=false:=by simp [hfv]
   have HFV:=hid hfv
   clear hfv
   by_cases hmt:D.getD tn false=true
   ·have HC:=hid (HNJ2.out (HNJD.out (fun _ _ R' hW=>HDW.out tn hmt R' hW)))
    rw [hmt] at m0
    clear hmt
    go_wp2
    refine ⟨?rel,?measure⟩
    case rel=>exact ⟨j+1,D,by go_num,by omega,HX3,HLW,HDW,HBT3,HN3,HC⟩
    case measure=>simp [intOf];omega
   have hmf:D.getD tn false=false:=by simpa using hmt
   rw [hmf] at m0
   clear hmt hmf
   by_cases hxr:rx<x
   ·have HC:=hid (HNJ2.out (HNJD.out (fun _ h=>absurd h (by omega))))
    have hxr':decide (rx<x)=true:=by simpa using hxr
    clear hxr
    go_wp2
    refine ⟨?rel,?measure⟩
    case rel=>exact ⟨j+1,D,by go_num,by omega,HX3,HLW,HDW,HBT3,HN3,HC⟩
    case measure=>simp [intOf];omega
   have hxr':decide (rx<x)=false:=by simpa using hxr
   have HXR:=hid (show x≤rx by omega)
   clear hxr
   have CA:=hid (IHJ.out HFV.out db D w3 HOLD3.out HDL.out HX3.out HLW.out HDW.out)
   obtain ⟨n0,n1,n2,n3⟩:=nbC HN3.out
   go_wp2_with fail
   refine CA.out.mono ?_
   rintro e w4 ⟨hbut,D',o',hX',hL',hD',hnx,hnr⟩
   have HX4:=hid hX'
   have HL4:=hid hL'
   have HD4:=hid hD'
   have HBT4:=hid (HBT3.out.trans hbut)
   have hdl:=HDB.out
   have HN4:=hid (show NetBox w4 nb n.n n.s n.t (.slice ao n.l.length cap) by
    have h:=HN3.out
    unfold NetBox at *
    rw [hbut.block _ (netBox_lt HN3.out) (by have:=HNB.out;omega)];exact h)
   have HOLD4:=hid (HBW.out.trans (HBT4.out.below (B0:=w0.heap.size) HDL.out HBW.out.size))
   have HSZ4:=hid (show w.heap.size≤w4.heap.size from HBT4.out.size)
   clear hX' hL' hD' hdl m0 r0 e0 n0 n1 n2 n3
   have e0:=(HOLD4.out.cell (p:=⟨b,off+j,none⟩) HB01.out).trans HD1.out
   rcases o' with _ | R
   ·have e:e=.returned (.tuple #[.slice none 0 0,.bool false]):=hnr
    subst e
    have HC:=hid (HNJ2.out (HNJD.out (fun _ _=>hnx)))
    clear hnr hnx hbut
    go_wp2
    refine ⟨?rel,?measure⟩
    case rel=>exact ⟨j+1,D',by go_num,by omega,HX4,HL4,HD4,HBT4,HN4,HC⟩
    case measure=>simp [intOf];omega
   ·obtain ⟨wv,rfl,hown⟩:=hnr
    have HFW:=hid (HH.out HFV.out HXR.out HNJ.out R hnx)
    have HOW:=hid (Rw.own_base hown (B':=w.heap.size) (by have:=HBT3.out.size;omega))
    obtain ⟨os,cs,hwv,hcs1,hcs2,hnone,hir,_,_⟩:=Rw.owR eIl hown
    subst hwv
    have HA5:=hid ((Below.refl w4.heap.size w4).alloc (Nat.le_refl _) (.cells #[.int .i64 (r:Int)] 3))
    have HIR5:=hid (hir.kept HA5.out)
    have HONE5:=hid (Rw.own_base (own_oneI w4 (b:=w4.heap.size) rfl (r:Int)) (B':=w.heap.size) HSZ4.out)
    have HNONE5:=hid hnone
    have HBT5:=hid (HBT4.out.then HA5.out)
    have HX5:=hid (HX4.out.kept HA5.out)
    have HLN5:=hid (show ([(r:Int)]:List Int).length+(encW R).length≤1099511627776 by have h:=HRL.out _ R hnx;rw [eWl];simp;omega)
    have HZ5:=hid (show w.heap.size≤(w4.alloc (.cells #[.int .i64 (r:Int)] 3)).heap.size by have:=HSZ4.out;simp;omega)
    have hdl2:=HDB.out
    have hdw4:db<w4.heap.size:=by have:=HSZ4.out;omega
    have HDW4:=hid hdw4
    clear hown hnone hir hcs1 hcs2 hnx hbut hdl2 hdw4
    go_wp2_with (at_builtin;refine Rw.app elemI eIl eIo rfl (.tmp 73) (.tmp 74) rfl w.heap.size (.slice (some ⟨w4.heap.size,0,none⟩) 1 1) [(r:Int)] rfl HONE5.out os cs (encW R) rfl HNONE5.out HIR5.out HLN5.out HZ5.out ?_;intro v6 w6 hown6 hgr6;have HO6:=hid hown6;have HG6:=hid hgr6;clear hown6 hgr6)
    go_ret2
    have hO:=HO6.out
    have hgn:∀ gq,(Value.slice (some ⟨w4.heap.size,0,none⟩) 1 1).ownBlock=some gq→gq=w4.heap.size:=fun gq hq=>by simp [Value.ownBlock] at hq;omega
    have hX6:BBox w6 db D':=HX5.out.grown HG6.out (fun e=>by have:=hgn db e.symm;have:=HDW4.out;omega)
    have hB6:But db w w6:=HBT5.out.grown HG6.out (fun gq hq=>by have:=hgn gq hq;have:=HSZ4.out;omega)
    exact ⟨hB6,D',some (r :: R),hX6,HL4.out,HD4.out,HFW.out,_,rfl,hO⟩
  ·have ej:K=j:=by omega
   subst ej
   have HNO:=hid (HNONE.out HNJ.out)
   have hvl:v<D.length:=by rw [HLW.out];exact hvN
   have HDE:=hid (HDS.out D HDW.out hvl HNO.out)
   have m0:=HXW.out.cell hvl
   have mf:=HXW.out.frozen v
   have HXE:=hid (HXW.out.set hvl true)
   have HBE:=hid (HBT.out.set v (.bool true))
   have HLEN:=hid (show (D.set v true).length=N+1 by rw [List.length_set];exact HLW.out)
   generalize D.getD v false=dv at *
   clear hlt hvl
   go_wp2
   go_ret2
   exact ⟨HBE.out,D.set v true,none,HXE.out,HLEN.out,HDE.out,HNO.out,rfl⟩
set_option maxHeartbeats 8000000 in
theorem seek_any (hR:Right n) (hL:Lds n.l L TL) (hTL:TL.length≤1000000) {Km:Int} (hK:∀ r∈TL,amt L (trT n.l r).toNat≤Km) (w0:World) (h0:ARow w0 ao n.l) (h1:IRow w0 ro (roomL n.l g (2*n.l.length))) (h2:IRow w0 lo' (encW TL)) :
  ∀ (k v db:Nat) (D:List Bool) (w:World),v<n.n.toNat+1→Km≤amt L v+(k:Int)→Below w0.heap.size w0 w→w0.heap.size≤db→BBox w db D→D.length=n.n.toNat+1→DeadOK n TL g x D →
  Calls Tryz.prog 53 #[encN n ao cap,.slice ro (2*n.l.length) rc,.slice lo' TL.length lc,.int .i64 x,.int .i64 (v:Int),.slice (some ⟨db,0,none⟩) (n.n.toNat+1) (n.n.toNat+1)] w fun e w'=>But db w w'∧∃ D' o,BBox w' db D'∧D'.length=n.n.toNat+1∧DeadOK n TL g x D'∧IsNext n.l TL g x (v:Int) n.t o∧NxR w' w.heap.size e o:=by
 intro k
 induction k with
 | zero=>exact fun v db D w=>seek_body ao cap x ro rc lo' lc hR hL hTL hK w0 h0 h1 h2 0 (fun k' hk'=>absurd hk' (by omega)) v db D w
 | succ k ih=>exact fun v db D w=>seek_body ao cap x ro rc lo' lc hR hL hTL hK w0 h0 h1 h2 (k+1) (fun k' hk'=>by
  have e:k' = k:=by omega
  rw [e];exact ih) v db D w
end
end Ne
namespace Ne
section
variable {n:Net} (ao:Option Addr) (cap:Nat) {TL:List Nat} {g:List Int} (x:Int) {L:List Int} (ro:Option Addr) (rc:Nat) (lo':Option Addr) (lc:Nat)
theorem rnext_any (fo:Option Addr) (fc:Nat) {f:List Int} (w:World) (ck:checkN n=0) (hr:ARow w ao n.l) (hf:IRow w fo f) (hF:Okf n f) (hL:Lds n.l L TL) (hTL:TL.length≤1000000) {Km:Int} (hK:∀ r∈TL,amt L (trT n.l r).toNat≤Km) (hl:IRow w lo' (encW TL)) {o:Option (List Nat)} (ho:IsNext n.l TL f x n.s n.t o) :
  Calls Tryz.prog 44 #[encN n ao cap,.slice fo n.l.length fc,.slice lo' TL.length lc,.int .i64 x] w fun e w'=>NxR w' w.heap.size e o∧Below w.heap.size w w':=by
 have hR:=rgO ck
 have hN1:=hR.n1
 have hN0:=hR.n0
 have hs0:=hR.s0
 have hs1:=hR.s1
 have RM:=hid (fun w' h1 h2=>show Calls Tryz.prog 45 #[encN n ao cap,.slice fo n.l.length fc] w' fun e w2=>∃ ro rc,e=.returned (.tuple #[.slice ro (2*n.l.length) rc,.int .i64 0])∧IRow w2 ro (roomL n.l f (2*n.l.length))∧Below w'.heap.size w' w2 by
  have h:=rroom_s n ao cap fo fc f w' h1 h2 (by have:=hR.len;omega)
  have e:roomV n f=roomL n.l f (2*n.l.length):=by unfold roomV;rw [if_neg (by simpa using hF.chk ck)]
  rwa [e,hF.chk ck,hF.len,rLl] at h)
 have SK0:=hid (fun ro rc w' w0 db D h0 h1 h2 h3 h4 h5 h6 h7=>seek_any (g:=f) ao cap x ro rc lo' lc hR hL hTL hK w0 h0 h1 h2 (Km-amt L n.s.toNat).toNat n.s.toNat db D w' (by omega) (by omega) h3 h4 h5 h6 h7)
 rw [show ((n.s.toNat:Nat):Int)=n.s by omega] at SK0
 have HONE:=hid (fun o' (h:IsNext n.l TL f x n.s n.t o')=>next_one h ho)
 have HAR0:=hid hr
 have HF0:=hid hf
 have HL0:=hid hl
 have HB0:=hid ((Below.refl w.heap.size w).alloc (Nat.le_refl _) (.cells #[.int .i64 n.n,.int .i64 n.s,.int .i64 n.t,.slice ao n.l.length cap] 24))
 have HN0:=hid (nbN w n.n n.s n.t (.slice ao n.l.length cap))
 obtain ⟨n0,n1,n2,n3⟩:=nbC HN0.out
 have hNC:n.n=((n.n.toNat:Nat):Int):=by omega
 have HDD:=hid (show DeadOK n TL f x (List.replicate (n.n.toNat+1) false) from fun i hi=>by rw [replB] at hi;cases hi)
 clear hr hf hl hF hL ho hK hTL
 generalize roomL n.l f (2*n.l.length)=RL at *
 generalize hNN:n.n.toNat=N at *
 have HNN:=hid hNN
 have HNC:=hid hNC
 have hmk:=make_b (N+1) (by omega)
 simp only [Int.natCast_add,Int.natCast_one] at hmk
 rw [← hNC] at hmk
 have hwN:IntKind.i64.wrap (n.n+1)=n.n+1:=by rw [IntKind.wrap_i64];omega
 clear hNN hNC hN1 hN0 hs0 hs1
 obtain ⟨nb,hnb⟩:∃ nb,nb=w.heap.size:=⟨_,rfl⟩
 have HNB:=hid hnb
 go_enter Tryz.func44,Tryz.ntmps44
 go_wp2_with fail
 refine (RM.out _ (HAR0.out.kept HB0.out) (HF0.out.kept HB0.out)).mono ?_
 rintro e w2 ⟨ro,rc,rfl,hir,hb⟩
 have HB2:=hid (HB0.out.trans (hb.mono HB0.out.size))
 have HN2:=hid (nbB HN0.out hb (netBox_lt HN0.out))
 have HAR:=hid (HAR0.out.kept HB2.out)
 have HIR:=hid hir
 have HIL:=hid (HL0.out.kept HB2.out)
 have SK:=hid (SK0.out ro rc)
 clear n0 n1 n2 n3 hir hb
 rw [← hnb] at HN2 ⊢
 clear hnb
 obtain ⟨n0,n1,n2,n3⟩:=nbC HN2.out
 have hnl:=netBox_lt HN2.out
 have HBW:=hid (show Below w2.heap.size w2 (w2.alloc (.cells (madeCells #[.bool false] (N+1)) 4)).drew from bDr ((Below.refl w2.heap.size w2).alloc (Nat.le_refl _) _))
 have HBX:=hid (show BBox (w2.alloc (.cells (madeCells #[.bool false] (N+1)) 4)).drew w2.heap.size (List.replicate (N+1) false) from bbox_made w2 (N+1) rfl)
 have HLEN:=hid (show (List.replicate (N+1) false).length=N+1 by simp)
 have HSZ:=hid (show w.heap.size≤(w2.alloc (.cells (madeCells #[.bool false] (N+1)) 4)).drew.heap.size from Nat.le_trans HB2.out.size HBW.out.size)
 have HNK:=hid (show ∀ w3,But w2.heap.size (w2.alloc (.cells (madeCells #[.bool false] (N+1)) 4)).drew w3→NetBox w3 nb n.n n.s n.t (.slice ao n.l.length cap) from fun w3 hb=>by
  have h:=nbB HN2.out HBW.out (netBox_lt HN2.out)
  unfold NetBox at *
  rw [hb.block nb (by have:=HBW.out.size;omega) (by omega)];exact h)
 go_wp2
 go_upto_region 4 with fail
 have hS0:=(show (fun w':World=>w'.cell? ⟨nb,0,none⟩=some (.int .i64 n.n)∧w'.cell? ⟨nb,1,none⟩=some (.int .i64 n.s)∧w'.cell? ⟨nb,2,none⟩=some (.int .i64 n.t)∧w'.cell? ⟨nb,3,none⟩=some (.slice ao n.l.length cap)) w2.drew from ⟨n0,n1,n2,n3⟩)
 have hS1:=(show (fun w':World=>w'.cell? ⟨nb,0,none⟩=some (.int .i64 n.n)∧w'.cell? ⟨nb,1,none⟩=some (.int .i64 n.s)∧w'.cell? ⟨nb,2,none⟩=some (.int .i64 n.t)∧w'.cell? ⟨nb,3,none⟩=some (.slice ao n.l.length cap)) (w2.alloc (.cells (madeCells #[.bool false] (N+1)) 4)).drew from ⟨hdN n0,hdN n1,hdN n2,hdN n3⟩)
 refine Rh.start (S:=(fun w':World=>w'.cell? ⟨nb,0,none⟩=some (.int .i64 n.n)∧w'.cell? ⟨nb,1,none⟩=some (.int .i64 n.s)∧w'.cell? ⟨nb,2,none⟩=some (.int .i64 n.t)∧w'.cell? ⟨nb,3,none⟩=some (.slice ao n.l.length cap))) (by kernel_rfl) ?_
 refine Rh.tp 20 0 hS0 ?_
 refine Rh.tp 21 1 hS0 ?_
 refine Rh.tp 22 2 hS0 ?_
 refine Rh.tp 23 3 hS0 ?_
 refine Rh.tp 24 4 hS0 ?_
 refine Rh.tp 25 5 hS0 ?_
 refine Rh.tp 26 6 hS0 ?_
 refine Rh.tp 27 7 hS0 ?_
 refine Rh.tp 28 8 hS0 ?_
 refine Rh.step (i:=9) (by kernel_rfl) rfl fun K' hK'=>?_
 have HK:=hid hK'
 clear hK'
 go_simp
 refine HK.out _ _ ⟨hS1,?_⟩
 clear HK K'
 try simp only [Act.put,Rh.q1,Rh.q2,Rh.q3]
 refine Rh.step (i:=10) (by kernel_rfl) rfl fun K' hK'=>?_
 have HK:=hid hK'
 clear hK'
 go_simp
 refine (SK.out (w2.alloc (.cells (madeCells #[.bool false] (N+1)) 4)).drew w2 w2.heap.size (List.replicate (N+1) false) HAR.out HIR.out HIL.out HBW.out (Nat.le_refl _) HBX.out HLEN.out HDD.out).mono ?_
 rintro e w3 ⟨hbut,D',o',_,_,_,hnx,hnr⟩
 obtain rfl:=HONE.out o' hnx
 obtain ⟨va,vb,rfl,hns⟩:=nx_slots hnr (B2:=w.heap.size) HSZ.out
 have HNS:=hid hns
 have HBT:=hid hbut
 have hS2:=(show (fun w':World=>w'.cell? ⟨nb,0,none⟩=some (.int .i64 n.n)∧w'.cell? ⟨nb,1,none⟩=some (.int .i64 n.s)∧w'.cell? ⟨nb,2,none⟩=some (.int .i64 n.t)∧w'.cell? ⟨nb,3,none⟩=some (.slice ao n.l.length cap)) w3 from nbC (HNK.out w3 hbut))
 clear hbut hnx hnr hns
 refine HK.out _ _ ⟨hS2,?_⟩
 clear HK K'
 try simp only [Act.put,Rh.q1,Rh.q2,Rh.q3]
 refine Rh.tp 31 11 hS2 ?_
 refine Rh.tp 32 12 hS2 ?_
 refine Rh.tp 8 13 hS2 ?_
 refine Rh.tp 9 14 hS2 ?_
 refine Rh.done (by kernel_rfl) ?_ _
 have HB3:=hid (HB2.out.trans ((HBW.out.mono HB2.out.size).trans (HBT.out.below HB2.out.size HSZ.out)))
 go_wp2
 go_ret2
 exact ⟨slots_nx HNS.out,HB3.out⟩
end
end Ne
namespace Ne
theorem rreach_any (n:Net) (ao:Option Addr) (cap:Nat) (fo:Option Addr) (fc:Nat) (f:List Int) (x:Int) (w:World) (hr:ARow w ao n.l) (hf:IRow w fo f) (hl:n.l.length≤1000000) :
  Calls Tryz.prog 51 #[encN n ao cap,.slice fo f.length fc,.int .i64 x] w fun e w'=>∃ o c M,e=.returned (.tuple #[.slice o M.length c,.int .i64 (reE n f x)])∧ReachAns n f x w' o M∧Below w.heap.size w w':=by
 have RC:=hid (fun w' (h1:ARow w' ao n.l) (h2:IRow w' fo f)=>rroom_any n ao cap fo fc f w' h1 h2 hl)
 by_cases c0:chkF n f=0
 case neg =>
  have HE:=hid (show reE n f x=chkF n f by unfold reE;rw [if_pos c0])
  have HNZ:=hid (show reE n f x≠0 by rw [HE.out];exact c0)
  have HAN:=hid (show ∀ w',ReachAns n f x w' none [] from fun w'=>⟨fun _=>rfl,fun h=>absurd h HNZ.out⟩)
  generalize hRE:reE n f x=RE at *
  generalize hRA:ReachAns n f x=RA at *
  clear hRE hRA
  generalize roomV n f=RV at *
  generalize chkF n f=c at *
  generalize f.length=fl at *
  obtain ⟨nn,ns,nt,l⟩:=n
  simp only at hr RC ⊢
  have HB0:=hid ((Below.refl w.heap.size w).alloc (Nat.le_refl _) (.cells #[.int .i64 nn,.int .i64 ns,.int .i64 nt,.slice ao l.length cap] 24))
  have c1':(c == 0)=false:=by simpa using c0
  have c1n:(c != 0)=true:=by simpa using c0
  have HR:=hid (hr.kept HB0.out)
  have HF:=hid (hf.kept HB0.out)
  clear hr hf c0
  go_enter Tryz.func51,Tryz.ntmps51
  go_wp2_with fail
  refine (RC.out _ HR.out HF.out).mono ?_
  rintro e w1 ⟨v,rfl,_,hb⟩
  have HB1:=hid (HB0.out.trans (hb.mono (by simp)))
  clear hb
  go_wp2
  go_ret2
  exact ⟨none,0,[],ret2w HE.out.symm,HAN.out _,HB1.out⟩
 rw [c0] at RC
 have HRV:=hid (show roomV n f=roomL n.l f (2*n.l.length) by unfold roomV;rw [if_neg (by simpa using c0)])
 rw [HRV.out] at RC
 obtain ⟨-,hR,hfl,hwi⟩:=chkA_ok (chkF_ok c0).1
 have HLO:=hid (show x<1→reE n f x=3 from fun h=>by unfold reE;rw [if_neg (by simpa using c0),if_pos h])
 have HOK:=hid (show 1≤x→reE n f x=0 from fun h=>by unfold reE;rw [if_neg (by simpa using c0),if_neg (by omega)])
 have HAB:=hid (show ∀ w',reE n f x≠0→ReachAns n f x w' none [] from fun w' h=>⟨fun _=>rfl,fun h2=>absurd h2 h⟩)
 have HAG:=hid (show ∀ w' b M,reE n f x=0→IsReach n f x M→BBox w' b M→ReachAns n f x w' (some ⟨b,0,none⟩) M from fun w' b M h h1 h2=>⟨fun h3=>absurd h h3,fun _=>⟨h1,b,rfl,h2⟩⟩)
 have hLL:=hR.len
 have hN0:=hR.n0
 have hN1:=hR.n1
 have hS0:=hR.s0
 have hS1:=hR.s1
 have HEN:=hid (fun (j:Nat) (h:j<2*n.l.length) w' h1=>show Calls Tryz.prog 52 #[encN n ao cap,.int .i64 (j:Int)] w' fun e w2=>e=.returned (.tuple #[.int .i64 (((trF n.l j).toNat:Nat):Int),.int .i64 (((trT n.l j).toNat:Nat):Int)])∧Below w'.heap.size w' w2 by
  have:=rends_any n ao cap (j:Int) w' h1 hl (by unfold in64;omega)
  rw [enF_in h,enT_in h] at this
  have hb:=tTb hR h
  have hb2:=tFb hR h
  rwa [show (((trT n.l j).toNat:Nat):Int)=trT n.l j by omega,show (((trF n.l j).toNat:Nat):Int)=trF n.l j by omega])
 have HTB:=hid (fun (j:Nat) (h:j<2*n.l.length)=>show (trF n.l j).toNat<n.n.toNat+1∧(trT n.l j).toNat<n.n.toNat+1 by have:=tTb hR h;have:=tFb hR h;omega)
 have HRA:=hid (fun i (h:i<2*n.l.length)=>roomL_at n.l f h)
 have HRN:=hid (rLl n.l f (2*n.l.length))
 have HF0:=hid (fix_start hR f x)
 have HFS:=hid (fun M (h:Fix n f x M) r (hr:r<2*n.l.length) h1 h2 h3=>fix_step hR h hr h1 h2 h3)
 have HFE:=hid (fun M (h:Fix n f x M) hc=>fix_end h hc)
 have HFN:=hid (fun M (h:Fix n f x M)=>h.len)
 generalize hFX:Fix n f x=FX at *
 generalize hIR:IsReach n f x=IR at *
 generalize hRE:reE n f x=RE at *
 generalize hRW:ReachAns n f x=RW at *
 generalize roomL n.l f (2*n.l.length)=RL at *
 generalize roomN n.l f=RO at *
 generalize hTT:(fun j=>(trT n.l j).toNat)=TT at *
 generalize hTF:(fun j=>(trF n.l j).toNat)=TF at *
 have HTE:=hid (show ∀ j,(trT n.l j).toNat=TT j from fun j=>by rw [← hTT])
 have HTG:=hid (show ∀ j,(trF n.l j).toNat=TF j from fun j=>by rw [← hTF])
 clear hTT hTF hFX hIR hRE hRW
 simp only [HTE.out,HTG.out] at HEN HTB HFS HFE
 clear HTE HTG hR hfl hwi c0 HRV
 generalize f.length=fl at *
 obtain ⟨nn,ns,nt,l⟩:=n
 simp only at hr hl RC hLL hN0 hN1 hS0 hS1 HEN HTB HRA HRN HF0 HFS HFE HFN ⊢
 obtain ⟨N,rfl⟩:∃ N:Nat,nn=(N:Int):=⟨nn.toNat,by omega⟩
 obtain ⟨S,rfl⟩:∃ S:Nat,ns=(S:Int):=⟨ns.toNat,by omega⟩
 simp only [Int.toNat_natCast] at HTB HF0 HFN ⊢
 have hmk:=make_b (N+1) (by omega)
 simp only [Int.natCast_add,Int.natCast_one] at hmk
 have HB0:=hid ((Below.refl w.heap.size w).alloc (Nat.le_refl _) (.cells #[.int .i64 (N:Int),.int .i64 (S:Int),.int .i64 nt,.slice ao l.length cap] 24))
 have HN0:=hid (nbN w (N:Int) (S:Int) nt (.slice ao l.length cap))
 have HR:=hid (hr.kept HB0.out)
 have HF:=hid (hf.kept HB0.out)
 clear hr hf
 go_enter Tryz.func51,Tryz.ntmps51
 go_wp2_with fail
 refine (RC.out _ HR.out HF.out).mono ?_
 rintro e w1 ⟨v,rfl,ho,hb⟩
 have HB1:=hid (HB0.out.trans (hb.mono (by simp)))
 have HN1:=hid (nbB HN0.out hb (by simp))
 have HR1:=hid (HR.out.kept hb)
 obtain ⟨ro,rc,hv,_,_,_,hri,_,_⟩:=Rw.owR eIl ho
 rw [HRN.out] at hv
 subst hv
 have HRI:=hid hri
 clear hb ho hri HB0 HN0 HR HF RC
 obtain ⟨n0,n1,n2,n3⟩:=nbC HN1.out
 by_cases hx:x<1
 ·have HE:=hid (HLO.out hx)
  have HA:=hid (fun w'=>HAB.out w' (by rw [HE.out];decide))
  have hx':decide (x<1)=true:=by simpa using hx
  clear hx hmk
  go_wp2
  go_ret2
  exact ⟨none,0,[],ret2w HE.out.symm,HA.out _,HB1.out⟩
 have hx':decide (x<1)=false:=by simpa using hx
 have HE:=hid (HOK.out (by omega))
 clear hx HLO HOK
 have hsi:(S:Int)<(N:Int)+1:=by omega
 have hs0:(0:Int)≤(S:Int):=by omega
 have HM1:=hid (bbox_made w1 (N+1) (b:=w1.heap.size) rfl)
 have hm1:=HM1.out.cell (i:=S) (by simp;omega)
 have hf1:=HM1.out.frozen S
 have HN2:=hid (nbA HN1.out (.cells (madeCells #[.bool false] (N+1)) 4))
 obtain ⟨m0,m1,m2,m3⟩:=nbC HN2.out
 have HM2:=hid (HM1.out.set (i:=S) (by simp;omega) true)
 have HB2:=hid ((((Below.refl w1.heap.size w1).alloc (Nat.le_refl _) (.cells (madeCells #[.bool false] (N+1)) 4))).setCell (p:=⟨w1.heap.size,S,none⟩) (Nat.le_refl _) (.bool true))
 have HSN:=hid (set_new w1 (madeCells #[.bool false] (N+1)) 4 S (.bool true))
 rw [HSN.out] at HM2 HB2
 go_wp2
 clear hm1 hf1 m0 m1 m2 m3 n0 n1 n2 n3 hmk HM1 HN2 HSN
 obtain ⟨bm,hbm⟩:∃ b,b=w1.heap.size:=⟨_,rfl⟩
 rw [← hbm] at HM2 HB2 ⊢
 have HBM:=hid hbm
 clear hbm
 generalize (w1.alloc (.cells ((madeCells #[.bool false] (N+1)).setIfInBounds S (.bool true)) 4))=W2 at *
 go_loopg [11] (2*unmet ((List.replicate (N+1) false).set S true)+1) (fun g s wr=>∃ (M:List Bool) (mo:Bool),s=.bool mo∧g=2*unmet M+BOn mo∧Hid (FX M)∧Hid (BBox wr bm M)∧Hid (Below bm w1 wr)∧Hid (mo=false→∀ r,r<2*l.length→x≤RO r→M.getD (TF r) false=true→M.getD (TT r) false=true))
 case atStart=>exact ⟨_,true,rfl,rfl,HF0,HM2,HB2,hid (fun h=>by cases h)⟩
 case round =>
  obtain ⟨M,mo,rfl,hgk,HFX,HMW,HBW,HCL⟩:=hrel
  have HGK:=hid hgk
  clear hgk
  rcases mo with _ | _
  ·have HI:=hid (HFE.out M HFX.out (HCL.out rfl))
   have HLN:=hid (HFN.out M HFX.out)
   have HBE:=hid (HB1.out.trans (HBW.out.mono (by rw [HBM.out];exact HB1.out.size)))
   go_wp2
   go_ret2
   exact ⟨some ⟨bm,0,none⟩,N+1,M,by rw [HLN.out,HE.out];rfl,HAG.out _ bm M HE.out HI.out HMW.out,HBE.out⟩
  go_wp2
  go_loopg [11,12] (2*l.length) (fun g2 s i wy=>∃ (r:Nat) (M2:List Bool) (m2:Bool),s=.bool m2∧i=.int .i64 r∧r+g2=2*l.length∧Hid (FX M2)∧Hid (BBox wy bm M2)∧Hid (Below bm w1 wy)∧Hid (m2=false→∀ q,q<r→x≤RO q→M2.getD (TF q) false=true→M2.getD (TT q) false=true)∧Hid (2*unmet M2+BOn m2<2*unmet M+1))
  case atStart=>exact ⟨0,M,false,rfl,rfl,by omega,HFX,HMW,HBW,hid (fun _ q hq=>absurd hq (by omega)),hid (by simp [BOn])⟩
  case round =>
   obtain ⟨r,M2,m2,rfl,rfl,hrg,HFX2,HM2,HBY,HC2,HUN⟩:=hrel
   by_cases hlt:r<2*l.length
   ·have hri:(r:Int)<2*(l.length:Int):=by omega
    have hr0:(0:Int)≤(r:Int):=by omega
    have HN3:=hid (nbB HN1.out HBY.out (by rw [HBM.out];exact netBox_lt HN1.out))
    obtain ⟨n0,n1,n2,n3⟩:=nbC HN3.out
    have EN:=hid (fun w'=>HEN.out r hlt w')
    obtain ⟨hta,htb⟩:=HTB.out r hlt
    have HRr:=hid (HRA.out r hlt)
    have HST:=hid (HFS.out M2 HFX2.out r hlt)
    have HC3:=hid (show (x≤RO r→M2.getD (TF r) false=true→M2.getD (TT r) false=true)→m2=false→∀ q,q<r+1→x≤RO q→M2.getD (TF q) false=true→M2.getD (TT q) false=true from fun h hm q hq=>by
     by_cases e:q=r
     ·subst e;exact h
     ·exact HC2.out hm q (by omega))
    have HLN:=hid (HFN.out M2 HFX2.out)
    generalize TF r=a at *
    generalize TT r=b at *
    have hai:(a:Int)<(N:Int)+1:=by omega
    have ha0:(0:Int)≤(a:Int):=by omega
    have hbi:(b:Int)<(N:Int)+1:=by omega
    have hb0:(0:Int)≤(b:Int):=by omega
    have hrl:r<RL.length:=by rw [HRN.out];exact hlt
    go_wp2_with fail
    refine (EN.out _ (HR1.out.kept (by have:=HBY.out;rwa [HBM.out] at this))).mono ?_
    rintro e w3 ⟨rfl,hb⟩
    have HB3:=hid (HBY.out.trans (hb.mono (by have:=HBY.out.size;have:=HM2.out.lt;omega)))
    have HM3:=hid (HM2.out.kept hb)
    have HI3:=hid (HRI.out.kept (by have:=HB3.out;rwa [HBM.out] at this))
    obtain ⟨b5,o5,rfl,_,d0⟩:=irC HI3.out hrl
    rw [HRr.out] at d0
    generalize RO r=rr at *
    have ma:=HM3.out.cell (i:=a) (by rw [HLN.out];exact hta)
    have mb:=HM3.out.cell (i:=b) (by rw [HLN.out];exact htb)
    have mf:=HM3.out.frozen b
    clear hb n0 n1 n2 n3
    by_cases p1:x≤rr
    ·have p1':decide (x≤rr)=true:=by simpa using p1
     rcases hA:M2.getD a false with _ | _
     ·rw [hA] at ma
      have HC:=hid (HC3.out (fun _ h=>by rw [hA] at h;cases h))
      clear hA p1
      go_wp2
      go_roundg (2*l.length-(r+1))
      case measure=>omega
      case rel=>exact ⟨r+1,M2,m2,rfl,by go_num,by omega,HFX2,HM3,HB3,HC,HUN⟩
     ·rw [hA] at ma
      rcases hB:M2.getD b false with _ | _
      ·rw [hB] at mb
       obtain ⟨k1,k2⟩:=HST.out p1 hA hB
       have K1:=hid k1
       have K2:=hid k2
       have HM4:=hid (HM3.out.set (i:=b) (by rw [HLN.out];exact htb) true)
       have HB4:=hid (HB3.out.setCell (p:=⟨bm,b,none⟩) (Nat.le_refl _) (.bool true))
       have HU4:=hid (show 2*unmet (M2.set b true)+BOn true<2*unmet M+1 by have:=K2.out;have:=HUN.out;unfold BOn at *;simp only [if_true];split at this <;> omega)
       clear k1 k2 hA hB p1
       go_wp2
       go_roundg (2*l.length-(r+1))
       case measure=>omega
       case rel=>exact ⟨r+1,M2.set b true,true,rfl,by go_num,by omega,K1,HM4,HB4,hid (fun h=>by cases h),HU4⟩
      ·rw [hB] at mb
       have HC:=hid (HC3.out (fun _ _=>hB))
       clear hA hB p1
       go_wp2
       go_roundg (2*l.length-(r+1))
       case measure=>omega
       case rel=>exact ⟨r+1,M2,m2,rfl,by go_num,by omega,HFX2,HM3,HB3,HC,HUN⟩
    ·have p1':decide (x≤rr)=false:=by simpa using p1
     have HC:=hid (HC3.out (fun h=>absurd h p1))
     clear p1
     go_wp2
     go_roundg (2*l.length-(r+1))
     case measure=>omega
     case rel=>exact ⟨r+1,M2,m2,rfl,by go_num,by omega,HFX2,HM3,HB3,HC,HUN⟩
   ·have er:r=2*l.length:=by omega
    subst er
    have HBM2:=hid (HM2.out)
    have hlt2:¬ (2*(l.length:Int)<2*(l.length:Int)):=by omega
    go_wp2
    go_roundg (2*unmet M2+BOn m2)
    case measure=>have:=HGK.out;have:=HUN.out;simp only [BOn,if_true] at *;omega
    case rel=>exact ⟨M2,m2,rfl,rfl,HFX2,HM2,HBY,hid (fun h q hq=>HC2.out h q hq)⟩
end Ne
end Go.Proofs.YtoadkckceladgaaGreat
