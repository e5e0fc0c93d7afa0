/-
  Res3, Frsm, Rfp6, Wkr
-/
import Derived.Test.YtoadkckceladgaaGreatBb9
import Derived.Test.YtoadkckceladgaaGreatBb5
import Derived.WalkMore
import Derived.Test.YtoadkckceladgaaGreatBb2
import Derived.Deep.QuietTactic
import Derived.BigQuiet
import Derived.LoopTactic
import Derived.Below
import Derived.Test.YtoadkckceladgaaGreatBb11
import Derived.Test.YtoadkckceladgaaGreatBb6
set_option linter.unusedVariables false
set_option linter.unusedSimpArgs false
set_option maxRecDepth 100000
set_option maxHeartbeats 4000000
namespace Go.Proofs.YtoadkckceladgaaGreat
open Go.ChangeShapes Go.WideShapes Go.ChangeAt Go.RowKit
open Lib (hid)
namespace Ne
structure WalkTells (n:Net) (W:List Int) (WA:Nat→Option Int):Prop where
 zero:WA 0=some n.s
 yes:∀ k u,k<W.length→WA k=some u→enF n.l (amt W k)=u→WA (k+1)=some (enT n.l (amt W k))
 no:∀ k u,k<W.length→WA k=some u→enF n.l (amt W k)≠u→isWalk n W=false
 all:∀ u,WA W.length=some u→isWalk n W=decide (u=n.t)
theorem walk_tells (n:Net) (W:List Int):WalkTells n W (fun k=>walkAt n.l n.s (W.take k)) :=
 ⟨rfl,fun k u hk h e=>by rw [walkAt_take hk,h];unfold stW;simp [e],
  fun k u hk h e=>isWalk_no (k:=k+1) (by (try simp only at h);rw [walkAt_take hk,h];unfold stW;simp [e]),
  fun u h=>by (try simp only [List.take_length] at h);exact isWalk_end h⟩
theorem iswalk_any (n:Net) (ao:Option Addr) (cap:Nat) (wo:Option Addr) (wc:Nat) (W:List Int) (w:World) (hr:ARow w ao n.l) (hw:IRow w wo W) (hl:n.l.length≤1000000) (hW:W.length≤1000000) (h64:∀ x∈W,in64 x) :
  Calls Tryz.prog 98 #[encN n ao cap,.slice wo W.length wc] w fun e w'=>e=.returned (.bool (isWalk n W))∧Below w.heap.size w w':=by
 have HEN:=hid (fun (x:Int) (h:in64 x) w' h1=>ends_any n ao cap x w' h1 hl h)
 obtain ⟨WA,hWA⟩:∃ WA,WalkTells n W WA:=⟨_,walk_tells n W⟩
 have HT:=hid hWA
 have H64:=hid (show ∀ k,k<W.length→in64 (amt W k) from fun k hk=>h64 _ (by have:=at_amt hk;exact List.mem_of_getElem? this))
 have HZ:=hid HT.out.zero
 have HY:=hid HT.out.yes
 have HNO:=hid HT.out.no
 have HA:=hid HT.out.all
 clear hWA HT h64
 generalize isWalk n W=R at *
 generalize hE1:enF n.l=EF at *
 generalize hE2:enT n.l=ET at *
 clear hE1 hE2
 obtain ⟨nn,ns,nt,l⟩:=n
 simp only at hr hl HEN HZ HA ⊢
 have HB0:=hid ((Below.refl w.heap.size w).alloc (Nat.le_refl _) (.cells #[.int .i64 nn,.int .i64 ns,.int .i64 nt,.slice ao l.length cap] 24))
 have HN0:=hid (netBox_new w nn ns nt (.slice ao l.length cap))
 have HR:=hid hr
 have HW:=hid hw
 clear hr hw
 obtain ⟨n0,n1,n2,n3⟩:=netBox_cells HN0.out
 go_enter Tryz.func98,Tryz.ntmps98
 go_wp2
 clear n0 n1 n2 n3
 go_loopw [5,14] (fun s i wr=>∃ (u:Int) (k:Nat),s=.int .i64 u∧i=.int .i64 k∧k≤W.length∧Hid (WA k=some u)∧Hid (Below w.heap.size w wr)∧Hid (NetBox wr w.heap.size nn ns nt (.slice ao l.length cap))) (fun _ i _=>W.length-(intOf i).toNat)
 case atStart=>exact ⟨_,0,rfl,rfl,Nat.zero_le _,HZ,HB0,HN0⟩
 case round =>
  obtain ⟨u,k,rfl,rfl,hk,HU,HBW,HNW⟩:=hrel
  obtain ⟨n0,n1,n2,n3⟩:=netBox_cells HNW.out
  by_cases hlt:k<W.length
  ·obtain ⟨b,off,rfl,hbl,d0⟩:=irow_cell (HW.out.kept HBW.out) hlt
   have EN:=hid (HEN.out _ (H64.out k hlt))
   have HY1:=hid (HY.out k u hlt HU.out)
   have HN1:=hid (HNO.out k u hlt HU.out)
   generalize amt W k=x at *
   generalize EF x=p at *
   generalize ET x=q at *
   have hki:(k:Int)<(W.length:Int):=by omega
   have hk0:(0:Int)≤(k:Int):=by omega
   go_wp2_with fail
   refine (EN.out _ (HR.out.kept HBW.out)).mono ?_
   rintro e w2 ⟨rfl,hb⟩
   have HB2:=hid (HBW.out.trans (hb.mono HBW.out.size))
   have HN2:=hid (netBox_below HNW.out hb (netBox_lt HNW.out))
   clear hb n0 n1 n2 n3 d0
   by_cases c:p=u
   ·have c':(p == u)=true:=by simpa using c
    have cn:(p != u)=false:=by simpa using c
    have HU2:=hid (HY1.out c)
    clear c
    go_wp2
    go_roundw
    case rel=>exact ⟨_,k+1,rfl,by go_num,by omega,HU2,HB2,HN2⟩
    case measure=>simp [intOf];omega
   ·have c':(p == u)=false:=by simpa using c
    have cn:(p != u)=true:=by simpa using c
    have HE:=hid (HN1.out c)
    clear c
    go_wp2
    go_ret
    exact ⟨retB HE.out.symm,HB2.out⟩
  ·have ek:k=W.length:=by omega
   subst ek
   have HE:=hid (HA.out u HU.out)
   go_wp2
   go_ret
   refine ⟨retB ?_,HBW.out⟩
   rw [HE.out]
   by_cases c:u=nt
   ·simp [c]
   ·simp [c]
theorem clonel_any (l:List Int) (ao:Option Addr) (n cap:Nat) (w:World) (hn:n=l.length) (hr:IRow w ao l) (hl:l.length≤1000000) (h0:0<l.length) :
  Calls Tryz.prog 32 #[.slice ao n cap] w fun e w'=>∃ g c,e=.returned (.slice (some ⟨g,0,none⟩) n c)∧OwnL w' w.heap.size (.slice (some ⟨g,0,none⟩) n c) l∧Below w.heap.size w w':=by
 have q:∀ (w:World) (a:Option Addr) (n c n' c':Nat),(binOp .eql 26 (.slice a n c) (.slice none n' c')).run Tryz.prog w=.ok (.bool a.isNone) w:=fun w a n c n' c'=>Lib.run_eql_slice_nil w _ _ a n c n' c' Tryz.underlying26
 subst hn
 obtain ⟨b,off,rfl,_,_⟩:=irow_cell hr h0
 have HR:=hid (hr.kept ((Below.refl _ _).alloc (Nat.le_refl _) (.cells #[] 2)))
 have HL:=hid (show ([]:List Int).length+l.length≤1099511627776 by simp;omega)
 have H0:=hid h0
 clear hr hl h0
 go_enter Tryz.func32,Tryz.ntmps32
 go_wp2_with (at_builtin;refine Rw.app elemL encI_len encI_one rfl (.tmp 5) (.tmp 6) rfl w.heap.size _ ([]:List Int) rfl (own_empty w _ (Nat.le_refl _)) (some ⟨b,off,none⟩) cap l rfl ?hnn HR.out HL.out ?hB ?_;(case hnn=>(intro h;cases h));(case hB=>(simp));intro v2 w2 hown2 hgr2;have HO2:=hid hown2;have HB2:=hid (((Below.refl w.heap.size w).alloc (Nat.le_refl _) (.cells #[] 2)).grown hgr2 (by simp) (Rw.own_block (own_empty (α:=Int) (k:=1) (enc:=encI) (e:=2) w w.heap.size (Nat.le_refl _))));clear hown2 hgr2)
 go_ret
 have h:=HO2.out
 rw [List.nil_append] at h
 obtain ⟨g,c,rfl,_,_⟩:=ownL_row' h H0.out
 exact ⟨g,c,rfl,h,HB2.out⟩
structure PushTells (n:Net) (f W:List Int) (x:Int) (PA:Nat→Option (List Int)):Prop where
 zero:PA 0=some f
 trk:∀ k,k<W.length→∃ r:Nat,amt W k=(r:Int)∧r<2*n.l.length
 yes:∀ k F r,k<W.length→amt W k=((r:Nat):Int)→PA k=some F→x≤roomN n.l F r→PA (k+1)=some (put1 F x r)
 no:∀ k F r,k<W.length→amt W k=((r:Nat):Int)→PA k=some F→roomN n.l F r<x→pushN n.l f x W=none
 all:PA W.length=pushN n.l f x W
 fine:∀ k F,k≤W.length→PA k=some F→F.length=n.l.length∧wi n.l F
theorem push_tells {n:Net} (hR:Right n) {f W:List Int} {x:Int} (hl:f.length=n.l.length) (hw:wi n.l f) (hx:1≤x) (hW:isWalk n W=true):PushTells n f W x (fun k=>pushN n.l f x (W.take k)):=by
 refine ⟨rfl,isWalk_in hR hW,fun k F r hk hr hp hx=>?_,fun k F r hk hr hp hx=>?_,by simp,fun k F hk hp=>?_⟩
 ·rw [pushN_step hk hr hp,if_neg (by omega)]
 ·exact pushN_dead (k:=k+1) (by rw [pushN_step hk hr hp,if_pos hx])
 ·rcases e:walkAt n.l n.s (W.take k) with _ | u
  ·have:=isWalk_no e;rw [hW] at this;cases this
  ·have:=push_facts hR hl hw (show 0≤x by omega) hk e hp
   exact ⟨this.1,this.2.1⟩
theorem walk_some {n:Net} (hR:Right n) {W:List Int} (hW:isWalk n W=true):0<W.length∧0<n.l.length:=by
 rcases W with _ | ⟨x,W⟩
 ·have:=isWalk_at hW;simp [walkAt] at this;exact absurd this hR.ne
 ·obtain ⟨r,_,h⟩:=isWalk_in hR hW 0 (by simp)
  exact ⟨by simp,by omega⟩
theorem put1_odd {F:List Int} {x:Int} {r q:Nat} (hq:q=r / 2) (h:r % 2=1):put1 F x r=F.set q (amt F q-x):=by unfold put1;rw [if_pos h,hq]
theorem put1_even {F:List Int} {x:Int} {r q:Nat} (hq:q=r / 2) (h:¬ r % 2=1):put1 F x r=F.set q (amt F q+x):=by unfold put1;rw [if_neg h,hq]
theorem room_odd' {l:List Arc} {F:List Int} {r q:Nat} (hq:q=r / 2) (h:r % 2=1):roomN l F r=amt F q:=by unfold roomN;rw [if_pos h,hq]
theorem room_even' {l:List Arc} {F:List Int} {r q:Nat} (hq:q=r / 2) (h:¬ r % 2=1):roomN l F r=(arcAt l q).cap-amt F q:=by unfold roomN;rw [if_neg h,hq]
theorem ret2v {v:Value} {a b:Int} (h:a=b):Ending.returned (.tuple #[v,.int .i64 a])=.returned (.tuple #[v,.int .i64 b]):=by rw [h]
theorem pushed_any (n:Net) (ao:Option Addr) (cap:Nat) (fo:Option Addr) (fc:Nat) (f:List Int) (wo:Option Addr) (wc:Nat) (W:List Int) (x:Int) (w:World) (hr:ARow w ao n.l) (hf:IRow w fo f) (hw:IRow w wo W) (hl:n.l.length≤1000000) (hW:W.length≤10000000)
  (hR:Right n) (hfl:f.length=n.l.length) (hwi:wi n.l f) (hwk:isWalk n W=true) (hx:1≤x) (hx2:x≤9223372036854775807) :
  Calls Tryz.prog 99 #[encN n ao cap,.slice fo n.l.length fc,.slice wo W.length wc,.int .i64 x] w fun e w'=>∃ v,e=.returned (.tuple #[v,.int .i64 (if (pushN n.l f x W).isNone then 9 else 0)])∧OwnL w' w.heap.size v ((pushN n.l f x W).getD [])∧Below w.heap.size w w':=by
 obtain ⟨h1,h2⟩:=walk_some hR hwk
 have HCL:=hid (fun w' h=>clonel_any f fo n.l.length fc w' hfl.symm h (by omega) (by omega))
 have HRM:=hid (fun (F:List Int) (hF:F.length=n.l.length∧wi n.l F) (o:Option Addr) (c:Nat) (r:Nat) w' (h:r<2*n.l.length) h1 h2=>room_any n ao cap o c F r w' h1 h2 hl hF.1 h (room_64 hR hF.2 h))
 have HGB:=hid (fun (r:Nat) (h:r<2*n.l.length) w'=>goesBack_any r w' (by omega))
 obtain ⟨PA,hPA⟩:∃ PA,PushTells n f W x PA:=⟨_,push_tells hR hfl hwi hx hwk⟩
 have HT:=hid hPA
 have HCAP:=hid (fun i h=>cap_topR hR (i:=i) h)
 have HZ:=hid hPA.zero
 have HTR:=hid hPA.trk
 have HY:=hid hPA.yes
 have HNO:=hid hPA.no
 have HA:=hid hPA.all
 have HFI:=hid hPA.fine
 clear hPA HT hR hfl hwi hwk
 generalize pushN n.l f x W=P at *
 obtain ⟨nn,ns,nt,l⟩:=n
 simp only at hr hl h2 HCL HRM HGB HCAP HTR HY HNO HFI ⊢
 have HB0:=hid ((Below.refl w.heap.size w).alloc (Nat.le_refl _) (.cells #[.int .i64 nn,.int .i64 ns,.int .i64 nt,.slice ao l.length cap] 24))
 have HN0:=hid (netBox_new w nn ns nt (.slice ao l.length cap))
 have HR:=hid hr
 have HW:=hid hw
 have HF:=hid (hf.kept HB0.out)
 clear hr hw hf
 go_enter Tryz.func99,Tryz.ntmps99
 go_wp2
 go_step3
 go_wp2_with fail
 refine (HCL.out _ HF.out).mono ?_
 rintro e w1 ⟨g,c,rfl,ho,hb⟩
 have HB1:=hid (HB0.out.trans (hb.mono (by simp)))
 have HN1:=hid (netBox_below HN0.out hb (by simp))
 have hg0:w.heap.size<g:=by have:=(Rw.own_lt ho g rfl).1;simp at this;omega
 have HO1:=hid (Rw.own_base ho (B':=w.heap.size) (by simp))
 clear hb ho HB0 HN0 HF HCL
 go_wp2
 go_step3
 go_wp2
 go_loopw [10,11,18] (fun s z i wr=>∃ (k:Nat) (F:List Int),s=.slice (some ⟨g,0,none⟩) l.length c∧z=.int .i64 0∧i=.int .i64 k∧k≤W.length∧Hid (PA k=some F)∧Hid (OwnL wr w.heap.size (.slice (some ⟨g,0,none⟩) l.length c) F)∧Hid (Below w.heap.size w wr)∧Hid (NetBox wr w.heap.size nn ns nt (.slice ao l.length cap))) (fun _ _ i _=>W.length-(intOf i).toNat)
 case atStart=>exact ⟨0,f,rfl,rfl,rfl,Nat.zero_le _,HZ,HO1,HB1,HN1⟩
 case round =>
  obtain ⟨k,F,rfl,rfl,rfl,hk,HP,HOW,HBW,HNW⟩:=hrel
  obtain ⟨n0,n1,n2,n3⟩:=netBox_cells HNW.out
  by_cases hlt:k<W.length
  ·obtain ⟨b,off,rfl,hbl,d0⟩:=irow_cell (HW.out.kept HBW.out) hlt
   obtain ⟨r,hr1,hr2⟩:=HTR.out k hlt
   have HFF:=hid (HFI.out k F hk HP.out)
   have HY1:=hid (HY.out k F r hlt hr1 HP.out)
   have HN1:=hid (HNO.out k F r hlt hr1 HP.out)
   have RM:=hid (fun w'=>HRM.out F HFF.out (some ⟨g,0,none⟩) c r w' hr2)
   have GB:=hid (HGB.out r hr2)
   rw [hr1] at d0
   obtain ⟨q,hq⟩:∃ q,q=r / 2:=⟨_,rfl⟩
   have hql:q<l.length:=by omega
   have htd:=tdiv2 hq
   have HO:=hid (show r % 2=1→put1 F x r=F.set q (amt F q-x)∧roomN l F r=amt F q from fun h=>⟨put1_odd hq h,room_odd' hq h⟩)
   have HE:=hid (show ¬ r % 2=1→put1 F x r=F.set q (amt F q+x)∧roomN l F r=(arcAt l q).cap-amt F q from fun h=>⟨put1_even hq h,room_even' hq h⟩)
   have hca:=HCAP.out q hql
   obtain ⟨hF1,hF2⟩:=HFF.out.2 q hql
   have HQF:=hid (show q<F.length by have:=HFF.out.1;omega)
   generalize roomN l F r=ro at *
   generalize put1 F x r=F2 at *
   clear hr1 hq
   have hki:(k:Int)<(W.length:Int):=by omega
   have hk0:(0:Int)≤(k:Int):=by omega
   have hqi:(q:Int)<(l.length:Int):=by omega
   have hq0:(0:Int)≤(q:Int):=by omega
   go_wp2_with fail
   refine (RM.out _ (HR.out.kept HBW.out) (irow_ofL' HOW.out)).mono ?_
   rintro e w2 ⟨rfl,hb⟩
   have HB2:=hid (HBW.out.trans (hb.mono HBW.out.size))
   have HN2:=hid (netBox_below HNW.out hb (netBox_lt HNW.out))
   have HO2:=hid (Rw.own_below HOW.out hb)
   clear hb n0 n1 n2 n3 d0
   by_cases c1:ro<x
   ·have c1':decide (ro<x)=true:=by simpa using c1
    have HPN:=hid (HN1.out c1)
    clear c1
    go_wp2
    try rw [Exit.noGoto_ret]
    go_ret2
    refine ⟨_,ret2v ?_,?_,HB2.out⟩
    ·rw [HPN.out];rfl
    ·rw [HPN.out];exact Rw.own_nil _ _
   ·have c1':decide (ro<x)=false:=by simpa using c1
    have HP2:=hid (HY1.out (by omega))
    obtain ⟨a0,a1⟩:=ownL_cell HO2.out HQF.out
    by_cases c2:r % 2=1
    ·have c2':decide (r % 2=1)=true:=by simpa using c2
     rw [c2'] at GB
     have HFE:=hid (HO.out c2).1
     have hro:=(HO.out c2).2
     have HOP:=hid (fun y=>ownL_put HO2.out HQF.out y)
     generalize amt F q=z at *
     have hwz:IntKind.i64.wrap (z-x)=z-x:=by rw [IntKind.wrap_i64];omega
     clear c2 c2' c1 hro
     go_wp2_with fail
     refine (GB.out _).mono ?_
     rintro e w' ⟨rfl,rfl⟩
     go_wp2
     have HO3:=hid (HOP.out (z-x))
     rw [← HFE.out] at HO3
     have HB3:=hid (HB2.out.setCell (p:=⟨g,q,none⟩) (by show w.heap.size≤g;omega) (.int .i64 (z-x)))
     have HN3:=hid (netBox_other HN2.out (b2:=g) (o:=q) (v2:=.int .i64 (z-x)) (by omega))
     go_roundw
     case rel=>exact ⟨k+1,F2,rfl,rfl,by go_num,by omega,HP2,HO3,HB3,HN3⟩
     case measure=>simp [intOf];omega
    ·have c2':decide (r % 2=1)=false:=by simpa using c2
     rw [c2'] at GB
     have HFE:=hid (HE.out c2).1
     have hro:=(HE.out c2).2
     have HOP:=hid (fun y=>ownL_put HO2.out HQF.out y)
     generalize amt F q=z at *
     have hwz:IntKind.i64.wrap (z+x)=z+x:=by rw [IntKind.wrap_i64];omega
     clear c2 c2' c1 hro
     go_wp2_with fail
     refine (GB.out _).mono ?_
     rintro e w' ⟨rfl,rfl⟩
     go_wp2
     have HO3:=hid (HOP.out (z+x))
     rw [← HFE.out] at HO3
     have HB3:=hid (HB2.out.setCell (p:=⟨g,q,none⟩) (by show w.heap.size≤g;omega) (.int .i64 (z+x)))
     have HN3:=hid (netBox_other HN2.out (b2:=g) (o:=q) (v2:=.int .i64 (z+x)) (by omega))
     go_roundw
     case rel=>exact ⟨k+1,F2,rfl,rfl,by go_num,by omega,HP2,HO3,HB3,HN3⟩
     case measure=>simp [intOf];omega
  ·have ek:k=W.length:=by omega
   subst ek
   have HE:=hid (show P=some F by rw [← HA.out];exact HP.out)
   clear hlt hk
   go_wp2
   try rw [Exit.noGoto_ret]
   go_ret2
   refine ⟨_,ret2v ?_,?_,HBW.out⟩
   ·rw [HE.out];rfl
   ·rw [HE.out];exact HOW.out
theorem pushE_bad {n:Net} {f W:List Int} {x:Int} (h:chkF n f≠0):pushE n f W x=chkF n f∧pushV n f W x=[]:=by
 have e:pushE n f W x=chkF n f:=by unfold pushE;rw [if_pos h]
 exact ⟨e,by unfold pushV;rw [if_pos (by rw [e];exact h)]⟩
theorem pushE_no {n:Net} {f W:List Int} {x:Int} (h:chkF n f=0) (h2:isWalk n W=false):pushE n f W x=1∧pushV n f W x=[]:=by
 have e:pushE n f W x=1:=by unfold pushE;rw [if_neg (by simpa using h),if_pos h2]
 exact ⟨e,by unfold pushV;rw [if_pos (by rw [e];decide)]⟩
theorem pushE_low {n:Net} {f W:List Int} {x:Int} (h:chkF n f=0) (h2:isWalk n W=true) (h3:x<1):pushE n f W x=3∧pushV n f W x=[]:=by
 have e:pushE n f W x=3:=by unfold pushE;rw [if_neg (by simpa using h),if_neg (by simp [h2]),if_pos h3]
 exact ⟨e,by unfold pushV;rw [if_pos (by rw [e];decide)]⟩
theorem pushE_go {n:Net} {f W:List Int} {x:Int} (h:chkF n f=0) (h2:isWalk n W=true) (h3:1≤x):pushE n f W x=(if (pushN n.l f x W).isNone then 9 else 0)∧pushV n f W x=(pushN n.l f x W).getD []:=by
 have e:pushE n f W x=if (pushN n.l f x W).isNone then 9 else 0:=by unfold pushE;rw [if_neg (by simpa using h),if_neg (by simp [h2]),if_neg (by omega)]
 refine ⟨e,?_⟩
 unfold pushV;rw [e]
 rcases pushN n.l f x W with _ | g
 ·rfl
 ·rfl
theorem dpush_any (n:Net) (ao:Option Addr) (cap:Nat) (fo:Option Addr) (fc:Nat) (f:List Int) (wo:Option Addr) (wc:Nat) (W:List Int) (x:Int) (w:World) (hr:ARow w ao n.l) (hf:IRow w fo f) (hw:IRow w wo W) (hl:n.l.length≤1000000) (hok:∀ a∈n.l,in64 a.cap) (hW:W.length≤1000000) (h64:∀ x∈W,in64 x) (hx:in64 x) :
  Calls Tryz.prog 95 #[encN n ao cap,.slice fo f.length fc,.slice wo W.length wc,.int .i64 x] w fun e w'=>∃ v,e=.returned (.tuple #[v,.int .i64 (pushE n f W x)])∧OwnL w' w.heap.size v (pushV n f W x)∧Below w.heap.size w w':=by
 have CK:=hid (fun w' (h1:ARow w' ao n.l) (h2:IRow w' fo f)=>fchk_any n ao cap fo fc f w' h1 h2 hl hok)
 by_cases c0:chkF n f=0
 case neg =>
  have HE:=hid (pushE_bad (W:=W) (x:=x) c0)
  generalize pushE n f W x=PE at *
  generalize pushV n f W x=PV at *
  generalize chkF n f=c at *
  generalize f.length=fl at *
  obtain ⟨nn,ns,nt,l⟩:=n
  simp only at hr CK ⊢
  have HB0:=hid ((Below.refl w.heap.size w).alloc (Nat.le_refl _) (.cells #[.int .i64 nn,.int .i64 ns,.int .i64 nt,.slice ao l.length cap] 24))
  have c1':(c == 0)=false:=by simpa using c0
  have c1n:(c != 0)=true:=by simpa using c0
  have HR:=hid (hr.kept HB0.out)
  have HF:=hid (hf.kept HB0.out)
  clear hr hf c0
  go_enter Tryz.func95,Tryz.ntmps95
  go_wp2_with fail
  refine (CK.out _ HR.out HF.out).mono ?_
  rintro e w1 ⟨rfl,hb⟩
  have HB1:=hid (HB0.out.trans (hb.mono (by simp)))
  clear hb
  go_wp2
  go_ret2
  exact ⟨_,ret2v HE.out.1.symm,by rw [HE.out.2];exact Rw.own_nil _ _,HB1.out⟩
 have HNO:=hid (pushE_no (n:=n) (f:=f) (W:=W) (x:=x) c0)
 have HLO:=hid (pushE_low (n:=n) (f:=f) (W:=W) (x:=x) c0)
 have HGO:=hid (pushE_go (n:=n) (f:=f) (W:=W) (x:=x) c0)
 obtain ⟨-,RT,hfl,hwi⟩:=chkA_ok (chkF_ok c0).1
 rw [c0] at CK
 rw [hfl] at CK ⊢
 have IW:=hid (fun w' h1 h2=>iswalk_any n ao cap wo wc W w' h1 h2 hl hW h64)
 have HGOT:=hid (fun w' h1 h2 h3 (hk:isWalk n W=true) (hx1:1≤x)=>pushed_any n ao cap fo fc f wo wc W x w' h1 h2 h3 hl (by omega) RT hfl hwi hk hx1 hx.2)
 clear RT hfl hwi
 generalize pushE n f W x=PE at *
 generalize pushV n f W x=PV at *
 generalize hB:isWalk n W=B at *
 clear hB
 obtain ⟨nn,ns,nt,l⟩:=n
 simp only at hr hl CK IW HGOT ⊢
 have HB0:=hid ((Below.refl w.heap.size w).alloc (Nat.le_refl _) (.cells #[.int .i64 nn,.int .i64 ns,.int .i64 nt,.slice ao l.length cap] 24))
 have HN0:=hid (netBox_new w nn ns nt (.slice ao l.length cap))
 have HR:=hid (hr.kept HB0.out)
 have HF:=hid (hf.kept HB0.out)
 have HW:=hid (hw.kept HB0.out)
 clear hr hf hw c0
 go_enter Tryz.func95,Tryz.ntmps95
 go_wp2_with fail
 refine (CK.out _ HR.out HF.out).mono ?_
 rintro e w1 ⟨rfl,hb⟩
 have HB1:=hid (HB0.out.trans (hb.mono (by simp)))
 have HN1:=hid (netBox_below HN0.out hb (by simp))
 have HR1:=hid (HR.out.kept hb)
 have HF1:=hid (HF.out.kept hb)
 have HW1:=hid (HW.out.kept hb)
 obtain ⟨n0,n1,n2,n3⟩:=netBox_cells HN1.out
 clear hb HB0 HN0 HR HF HW CK
 go_wp2_with fail
 refine (IW.out _ HR1.out HW1.out).mono ?_
 rintro e w2 ⟨rfl,hb⟩
 have HB2:=hid (HB1.out.trans (hb.mono HB1.out.size))
 have HN2:=hid (netBox_below HN1.out hb (netBox_lt HN1.out))
 have HR2:=hid (HR1.out.kept hb)
 have HF2:=hid (HF1.out.kept hb)
 have HW2:=hid (HW1.out.kept hb)
 clear hb n0 n1 n2 n3 HB1 HN1 HR1 HF1 HW1 IW
 rcases B with _ | _
 ·have HE:=hid (HNO.out rfl)
  go_wp2
  go_ret2
  exact ⟨_,ret2v HE.out.1.symm,by rw [HE.out.2];exact Rw.own_nil _ _,HB2.out⟩
 by_cases p:x<1
 ·have HE:=hid (HLO.out rfl p)
  have p':decide (x<1)=true:=by simpa using p
  clear p
  go_wp2
  go_ret2
  exact ⟨_,ret2v HE.out.1.symm,by rw [HE.out.2];exact Rw.own_nil _ _,HB2.out⟩
 have p':decide (x<1)=false:=by simpa using p
 have HE:=hid (HGO.out rfl (by omega))
 obtain ⟨n0,n1,n2,n3⟩:=netBox_cells HN2.out
 have PU:=hid (fun w' h1 h2 h3=>HGOT.out w' h1 h2 h3 rfl (by omega))
 rw [← HE.out.1,← HE.out.2] at PU
 clear HE HGO HNO HLO
 clear p HGOT
 go_wp2_with fail
 refine (PU.out _ HR2.out HF2.out HW2.out).mono ?_
 rintro e w3 ⟨v,rfl,ho,hb⟩
 have HB3:=hid (HB2.out.trans (hb.mono HB2.out.size))
 have HO3:=hid (Rw.own_base ho (B':=w.heap.size) HB2.out.size)
 clear hb ho n0 n1 n2 n3
 go_wp2
 go_ret2
 exact ⟨_,rfl,HO3.out,HB3.out⟩
end Ne
namespace Ne

theorem rsame_l (a1 a2:Option Addr) (c1 c2:Nat) (l1 l2:List Int) (w:World) (r1:IRow w a1 l1) (r2:IRow w a2 l2) (h1:l1.length≤1099511627776) (h2:l2.length≤1099511627776) :
  Calls Tryz.prog 12 #[.slice a1 l1.length c1,.slice a2 l2.length c2] w fun e w'=>e=.returned (.bool (decide (l1=l2)))∧Below w.heap.size w w':=by
 by_cases hl:l1.length=l2.length
 ·have hne:((l1.length:Int) == (l2.length:Int))=true:=by simp;omega
  have HL:=hid hl
  rw [← hl] at hne ⊢
  clear hne hl
  have R1:=hid r1
  have R2:=hid r2
  clear r1 r2
  go_enter Tryz.func12,Tryz.ntmps12
  go_wp2
  go_loopw [5] (fun i wr=>∃ (k q:Nat),k≤l1.length∧i=.int .i64 k∧wr=w.drewN q∧l1.take k=l2.take k) (fun i _=>l1.length-(intOf i).toNat)
  case atStart=>exact ⟨0,0,Nat.zero_le _,rfl,rfl,by simp⟩
  case round =>
   obtain ⟨k,q,hk,rfl,rfl,he⟩:=hrel
   by_cases hlt:k<l1.length
   ·obtain ⟨x,g1⟩:∃ x,l1[k]? = some x:=⟨_,List.getElem?_eq_getElem hlt⟩
    obtain ⟨y,g2⟩:∃ y,l2[k]? = some y:=⟨_,List.getElem?_eq_getElem (by have:=HL.out;omega)⟩
    rcases R1.out with h | ⟨b1,o1,rfl,_,k1⟩
    ·rw [h] at hlt;simp at hlt
    rcases R2.out with h | ⟨b2,o2,rfl,_,k2⟩
    ·exfalso;have:=HL.out;rw [h] at this;rw [this] at hlt;simp at hlt
    have hc1:=irow_at k1 g1
    have hc2:=irow_at k2 g2
    clear k1 k2
    by_cases hxy:x=y
    ·have HN:=hid (take_succ_eq he g1 g2 hxy)
     subst hxy
     clear he g1 g2
     go_wp2
     go_quiet (fail)
     go_wp2
     go_roundw
     case rel=>exact ⟨k+1,q+nq,by omega,by go_num,rfl,HN.out⟩
     case measure=>simp [intOf];omega
    ·have HN:=hid (ne_at g1 g2 hxy)
     have hxy':(x == y)=false:=by simpa using hxy
     clear he g1 g2 hxy
     go_wp2
     go_quiet (fail)
     go_wp2
     go_ret
     exact ⟨retB (decide_eq_false HN.out).symm,(below_drewN w q).trans ⟨rfl,rfl,rfl,Nat.le_refl _,fun _ _=>rfl⟩⟩
   ·have ek:k=l1.length:=by omega
    subst ek
    have t2:l2.take l1.length=l2:=by rw [HL.out];exact List.take_length
    rw [List.take_length,t2] at he
    have HN:=hid he
    clear t2
    clear he hlt
    go_wp2
    go_ret
    exact ⟨retB (decide_eq_true HN.out).symm,below_drewN _ _⟩
 ·have hne:((l1.length:Int) == (l2.length:Int))=false:=by simp;omega
  have HN:=hid (show l1≠l2 from fun h=>hl (by rw [h]))
  clear hl r1 r2
  go_enter Tryz.func12,Tryz.ntmps12
  go_wp2
  go_ret
  exact ⟨retB (decide_eq_false HN.out).symm,Below.refl _ _⟩

end Ne
namespace Ne
section
variable {n:Net} (ao:Option Addr) (cap:Nat) (fo:Option Addr) (fc:Nat) {f:List Int} (w:World) (ck:checkN n=0) (hr:ARow w ao n.l) (hf:IRow w fo f) (hF:Flow n f)
include ck hr hf hF
end
end Ne
namespace Ne
structure WkC where
 o:Option Addr
 len:Nat
 cap:Nat
 am:Int
def encK (k:WkC):List Value:=[.slice k.o k.len k.cap,.int .i64 k.am]
theorem encK_len (k:WkC):(encK k).length=2:=rfl
theorem encK_one (k:WkC):∀ u∈encK k,u.oneCell' = true:=by intro u hu;simp [encK] at hu;rcases hu with h | h <;> (subst h;rfl)
theorem elemK:Rw.Elem 150 142 2 32 (.agg #[.slice none 0 0,.int .i64 0]):=⟨by kernel_rfl,Tryz.underlying142,rfl,by decide,by decide⟩
def WkR (e:TypeId) (w:World) (B:Nat) (v:Value) (Ws:List (List Nat × Int)):Prop :=
 ∃ Ks:List WkC,Rw.Own e 2 encK w B v Ks∧Ks.length=Ws.length∧∀ (i:Nat) (k:WkC) (p:List Nat × Int),Ks[i]? = some k→Ws[i]? = some p→OwnI w B (.slice k.o k.len k.cap) (encW p.1)∧k.am=p.2
section
variable {e:TypeId} {w w2:World} {B:Nat} {v:Value} {Ws:List (List Nat × Int)}
theorem wkr_nil (e:TypeId) (w:World) (B:Nat):WkR e w B (.slice none 0 0) []:=⟨[],Rw.own_nil _ _,rfl,fun i k p h=>by simp at h⟩
theorem WkR.same (h:WkR e w B v Ws) (hk:∀ g,B≤g→g<w.heap.size→w2.heap[g]? = w.heap[g]?):WkR e w2 B v Ws:=by
 obtain ⟨Ks,h1,h2,h3⟩:=h
 refine ⟨Ks,own_same h1 fun g hg=>hk g (Rw.own_lt h1 g hg).1 (Rw.own_lt h1 g hg).2,h2,fun i k p hi hp=>?_⟩
 obtain ⟨g1,g2⟩:=h3 i k p hi hp
 exact ⟨own_same g1 fun g hg=>hk g (Rw.own_lt g1 g hg).1 (Rw.own_lt g1 g hg).2,g2⟩
theorem WkR.kept (h:WkR e w B v Ws) (hb:Below w.heap.size w w2):WkR e w2 B v Ws:=h.same fun g _ hg=>hb.block g hg
theorem WkR.base {B':Nat} (h:WkR e w B v Ws) (hB:B'≤B):WkR e w B' v Ws:=by
 obtain ⟨Ks,h1,h2,h3⟩:=h
 exact ⟨Ks,Rw.own_base h1 hB,h2,fun i k p hi hp=>⟨Rw.own_base (h3 i k p hi hp).1 hB,(h3 i k p hi hp).2⟩⟩
theorem WkR.val (h:WkR e w B v Ws):∃ o c,v=.slice o Ws.length c∧Ws.length≤c∧c≤maxLen∧(o=none→c=0):=by
 obtain ⟨Ks,h1,h2,_⟩:=h
 obtain ⟨o,c,g1,g2,g3,g4,_⟩:=Rw.own_row encK_len h1
 rw [h2] at g1 g2
 exact ⟨o,c,g1,g2,g3,g4⟩
end
theorem wkr_snoc {e:TypeId} {w w2:World} {B:Nat} {v v2:Value} {Ws:List (List Nat × Int)} {Ks:List WkC} (hne:(3:TypeId)≠e) (h1:Rw.Own e 2 encK w B v Ks) (h2:Ks.length=Ws.length) (h3:∀ (i:Nat) (k:WkC) (p:List Nat × Int),Ks[i]? = some k→Ws[i]? = some p→OwnI w B (.slice k.o k.len k.cap) (encW p.1)∧k.am=p.2)
  (hg:w.grownBy w2 v.ownBlock) {k:WkC} (h4:Rw.Own e 2 encK w2 B v2 (Ks ++ [k])) {R:List Nat} {a:Int} (hR:OwnI w B (.slice k.o k.len k.cap) (encW R)) (ha:k.am=a):WkR e w2 B v2 (Ws ++ [(R,a)]):=by
 have keep:∀ {x:Value} {l:List Int},OwnI w B x l→OwnI w2 B x l:=fun hx=>own_same hx fun g hg2=>hg.block g (Rw.own_lt hx g hg2).2 fun e2=>own_types hne hx h1 g hg2 e2.symm
 refine ⟨Ks ++ [k],h4,by simp [h2],fun i k' p hi hp=>?_⟩
 rcases Nat.lt_trichotomy i Ks.length with c | c | c
 ·rw [List.getElem?_append_left c] at hi
  rw [List.getElem?_append_left (by omega)] at hp
  obtain ⟨g1,g2⟩:=h3 i k' p hi hp
  exact ⟨keep g1,g2⟩
 ·subst c
  rw [List.getElem?_append_right (Nat.le_refl _)] at hi
  rw [h2,List.getElem?_append_right (Nat.le_refl _)] at hp
  simp at hi hp
  subst hi;subst hp
  exact ⟨keep hR,ha⟩
 ·rw [List.getElem?_eq_none (by simp;omega)] at hi;cases hi
theorem cap_62 {n:Net} (hR:Right n) {r:Nat} (h:r<2*n.l.length):(arcAt n.l (r / 2)).cap≤4611686018427387903:=cap_topR hR (by omega)
structure BlkStep (n:Net) (TL:List Nat) (g:List Int) (x:Int) (RM:List Int) (U:Nat→List Nat) (R0:Nat) (R':List Nat) (a:Int) (g2:List Int):Prop where
 lt:∀ r∈R0 :: R',r<2*n.l.length
 nd:(R0 :: R').Nodup
 b64:∀ r∈R0 :: R',0≤amt RM r∧amt RM r≤4611686018427387904
 len:(R0 :: R').length≤1000000
 least:Least n.l g (R0 :: R') a
 a64:x≤a∧a≤4611686018427387904
 tr64:∀ y∈encW (R0 :: R'),in64 y
 pE:pushE n g (encW (R0 :: R')) a=0
 pV:pushV n g (encW (R0 :: R')) a=g2
 pN:pushN n.l g a (encW (R0 :: R'))=some g2
 flow:Okf n g2
 srch:Srch n TL g2 x (lessL RM a (R0 :: R')) U
 left:left n.l TL x g2<left n.l TL x g
 value:exc n.l g2 n.t=exc n.l g n.t+a
theorem first_walk {n:Net} {TL:List Nat} {L:List Int} (hL:Lds n.l L TL) {g:List Int} {x:Int} {R:List Nat} (h:FirstW n.l TL g x n.t n.s R):isWalk n (encW R)=true:=by
 unfold isWalk
 rw [wlk_at hL (firstW_wlk h)]
 simp
theorem blk_step {n:Net} (ck:checkN n=0) {TL:List Nat} {L:List Int} (hL:Lds n.l L TL) {g:List Int} {x:Int} (hx:1≤x) (hF:Okf n g) {RM:List Int} {U:Nat→List Nat} (hS:Srch n TL g x RM U) {R:List Nat} (h:FirstW n.l TL g x n.t n.s R) :
  ∃ R0 R' g2,R=R0 :: R'∧BlkStep n TL g x RM U R0 R' (minL RM (amt RM R0) (R0 :: R')) g2:=by
 have hR:=right_of ck
 have hne:=first_ne hR.ne h
 obtain ⟨R0,R',rfl⟩:∃ R0 R',R=R0 :: R':=by
  rcases R with _ | ⟨R0,R'⟩
  ·exact absurd rfl hne
  ·exact ⟨R0,R',rfl⟩
 have hw:=firstW_wlk h
 have hm:=wlk_mem hw
 have hle:=least_min hS fun r hr=>(hm r hr).1
 have hhalf:=wlk_nodup hL hw
 obtain ⟨a,ha⟩:∃ a,a=minL RM (amt RM R0) (R0 :: R'):=⟨_,rfl⟩
 rw [← ha] at hle
 obtain ⟨q,hq,e⟩:=hle.one
 have hqx:=(hm q hq).2
 have hlt:∀ r∈R0 :: R',r<2*n.l.length:=fun r hr=>hL.lt r (hm r hr).1
 have hrn:∀ r∈R0 :: R',0≤roomN n.l g r∧roomN n.l g r≤4611686018427387903:=fun r hr=>by
  have h1:=room_nn hF.wi (hlt r hr)
  have h2:=cap_62 hR (hlt r hr)
  omega
 obtain ⟨g2,hp,hg2,_⟩:=wlk_push hL hw hF.len hle.all
 have hiw:=first_walk hL h
 have ha1:1≤a:=by omega
 have hlen:(R0 :: R').length≤1000000:=by
  have h1:=nodup_len (L:=n.l.length) hhalf fun i hi=>by
   obtain ⟨r,hr,e2⟩:=List.mem_map.1 hi
   have:=hlt r hr
   omega
  rw [List.length_map] at h1
  have:=hR.len
  omega
 have hpE:pushE n g (encW (R0 :: R')) a=0:=by
  unfold pushE
  rw [if_neg (by simpa using hF.chk ck),hiw,if_neg (by simp),if_neg (by omega),hp]
  simp
 obtain ⟨hF2,hv⟩:=okf_push hR hF (by omega) hiw hp
 refine ⟨R0,R',g2,rfl,?_⟩
 rw [← ha]
 exact ⟨hlt,nodup_of_half hhalf,fun r hr=>by rw [hS.rm r (hm r hr).1];have:=hrn r hr;omega,hlen,hle,⟨by omega,by have:=hrn q hq;omega⟩,fun y hy=>by
   obtain ⟨r,hr,rfl⟩:∃ r∈R0 :: R',y=((r:Nat):Int):=by unfold encW at hy;obtain ⟨r,hr,e2⟩:=List.mem_map.1 hy;exact ⟨r,hr,e2.symm⟩
   have:=hlt r hr;have:=hR.len;unfold in64;omega,hpE,by unfold pushV;rw [if_neg (by rw [hpE];simp),hp];rfl,hp,hF2,srch_push hL hF.len hS hx h hle hp,left_step hL hw hF.len hx hle hp,hv⟩
theorem cloneL_any (l:List Int) (ao:Option Addr) (n cap:Nat) (w:World) (hn:n=l.length) (hr:IRow w ao l) (hl:l.length≤1000000) :
  Calls Tryz.prog 32 #[.slice ao n cap] w fun e w'=>∃ o c,e=.returned (.slice o n c)∧OwnL w' w.heap.size (.slice o n c) l∧Below w.heap.size w w':=by
 rcases l with _ | ⟨z,zs⟩
 ·simp only [List.length_nil] at hn
  subst hn
  have q:∀ (w:World) (a:Option Addr) (n c n' c':Nat),(binOp .eql 26 (.slice a n c) (.slice none n' c')).run Tryz.prog w=.ok (.bool a.isNone) w:=fun w a n c n' c'=>Lib.run_eql_slice_nil w _ _ a n c n' c' Tryz.underlying26
  rcases ao with _ | ad
  ·go_enter Tryz.func32,Tryz.ntmps32
   go_wp2
   go_ret
   exact ⟨none,0,rfl,Rw.own_nil _ _,Below.refl _ _⟩
  ·have HR:=hid (hr.kept ((Below.refl _ _).alloc (Nat.le_refl _) (.cells #[] 2)))
   clear hr hl
   go_enter Tryz.func32,Tryz.ntmps32
   go_wp2_with (at_builtin;refine Rw.app elemL encI_len encI_one rfl (.tmp 5) (.tmp 6) rfl w.heap.size _ ([]:List Int) rfl (own_empty w _ (Nat.le_refl _)) (some ad) cap ([]:List Int) rfl ?hnn HR.out (by simp) ?hB ?_;(case hnn=>(intro h;cases h));(case hB=>(simp));intro v2 w2 hown2 hgr2;have HO2:=hid hown2;have HB2:=hid (((Below.refl w.heap.size w).alloc (Nat.le_refl _) (.cells #[] 2)).grown hgr2 (by simp) (Rw.own_block (own_empty (α:=Int) (k:=1) (enc:=encI) (e:=2) w w.heap.size (Nat.le_refl _))));clear hown2 hgr2)
   go_ret
   have h:=HO2.out
   rw [List.nil_append] at h
   obtain ⟨o,c,h1,_,_,_,h2,_⟩:=Rw.own_row encI_len h
   rw [h1] at h
   exact ⟨o,c,by rw [h1];rfl,h,HB2.out⟩
 ·exact (clonel_any (z :: zs) ao n cap w hn hr hl (by simp)).mono fun e w' ⟨g,c,h1,h2,h3⟩=>⟨_,c,h1,h2,h3⟩
end Ne
end Go.Proofs.YtoadkckceladgaaGreat
