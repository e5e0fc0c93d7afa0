/-
  Res3, Frsm, Rfp6, Wkr, Lst, Rep
-/
import Derived.Test.YtoadkckceladgaaGreatBc5
import Derived.Test.YtoadkckceladgaaGreatBc3
import Derived.WalkMore
import Derived.Test.YtoadkckceladgaaGreatBc2
import Derived.Deep.QuietTactic
import Derived.BigQuiet
import Derived.LoopTactic
import Derived.Below
import Derived.Test.YtoadkckceladgaaGreatBc6
import Derived.Test.YtoadkckceladgaaGreatBc4
import Derived.RegionTactic
import Derived.Lib.Mul64
import Derived.Lib.BitFns
import Derived.Laws.Bits64b
import Derived.Test.YtoadkckceladgaaGreatBc1
import Derived.Deep.CutBlock
set_option linter.unusedVariables false
set_option linter.unusedSimpArgs false
set_option maxRecDepth 100000
set_option maxHeartbeats 4000000
namespace Go.Proofs.YtoadkckceladgaaGreat
open Go.ChangeShapes Go.WideShapes Go.ChangeAt Go.RowKit
open Lib (hid)
namespace Ne
structure WalkTells (n:Net) (W:List Int) (WA:Nat→Option Int):Prop where
 zero:WA 0=some n.s
 yes:∀ k u,k<W.length→WA k=some u→enF n.l (amt W k)=u→WA (k+1)=some (enT n.l (amt W k))
 no:∀ k u,k<W.length→WA k=some u→enF n.l (amt W k)≠u→isWalk n W=false
 all:∀ u,WA W.length=some u→isWalk n W=decide (u=n.t)
theorem walk_tells (n:Net) (W:List Int):WalkTells n W (fun k=>walkAt n.l n.s (W.take k)) :=
 ⟨rfl,fun k u hk h e=>by rw [walkAt_take hk,h];unfold stW;simp [e],
  fun k u hk h e=>isWalk_no (k:=k+1) (by (try simp only at h);rw [walkAt_take hk,h];unfold stW;simp [e]),
  fun u h=>by (try simp only [List.take_length] at h);exact isWalk_end h⟩
theorem iswalk_any (n:Net) (ao:Option Addr) (cap:Nat) (wo:Option Addr) (wc:Nat) (W:List Int) (w:World) (hr:ARow w ao n.l) (hw:IRow w wo W) (hl:n.l.length≤1000000) (hW:W.length≤1000000) (h64:∀ x∈W,in64 x) :
  Calls Tryz.prog 98 #[encN n ao cap,.slice wo W.length wc] w fun e w'=>e=.returned (.bool (isWalk n W))∧Below w.heap.size w w':=by
 have HEN:=hid (fun (x:Int) (h:in64 x) w' h1=>ends_any n ao cap x w' h1 hl h)
 obtain ⟨WA,hWA⟩:∃ WA,WalkTells n W WA:=⟨_,walk_tells n W⟩
 have HT:=hid hWA
 have H64:=hid (show ∀ k,k<W.length→in64 (amt W k) from fun k hk=>h64 _ (by have:=at_amt hk;exact List.mem_of_getElem? this))
 have HZ:=hid HT.out.zero
 have HY:=hid HT.out.yes
 have HNO:=hid HT.out.no
 have HA:=hid HT.out.all
 clear hWA HT h64
 generalize isWalk n W=R at *
 generalize hE1:enF n.l=EF at *
 generalize hE2:enT n.l=ET at *
 clear hE1 hE2
 obtain ⟨nn,ns,nt,l⟩:=n
 simp only at hr hl HEN HZ HA ⊢
 have HB0:=hid ((Below.refl w.heap.size w).alloc (Nat.le_refl _) (.cells #[.int .i64 nn,.int .i64 ns,.int .i64 nt,.slice ao l.length cap] 24))
 have HN0:=hid (nbN w nn ns nt (.slice ao l.length cap))
 have HR:=hid hr
 have HW:=hid hw
 clear hr hw
 obtain ⟨n0,n1,n2,n3⟩:=nbC HN0.out
 go_enter Tryz.func98,Tryz.ntmps98
 go_wp2
 clear n0 n1 n2 n3
 go_loopw [5,14] (fun s i wr=>∃ (u:Int) (k:Nat),s=.int .i64 u∧i=.int .i64 k∧k≤W.length∧Hid (WA k=some u)∧Hid (Below w.heap.size w wr)∧Hid (NetBox wr w.heap.size nn ns nt (.slice ao l.length cap))) (fun _ i _=>W.length-(intOf i).toNat)
 case atStart=>exact ⟨_,0,rfl,rfl,Nat.zero_le _,HZ,HB0,HN0⟩
 case round =>
  obtain ⟨u,k,rfl,rfl,hk,HU,HBW,HNW⟩:=hrel
  obtain ⟨n0,n1,n2,n3⟩:=nbC HNW.out
  by_cases hlt:k<W.length
  ·obtain ⟨b,off,rfl,hbl,d0⟩:=irC (HW.out.kept HBW.out) hlt
   have EN:=hid (HEN.out _ (H64.out k hlt))
   have HY1:=hid (HY.out k u hlt HU.out)
   have HN1:=hid (HNO.out k u hlt HU.out)
   generalize amt W k=x at *
   generalize EF x=p at *
   generalize ET x=q at *
   have hki:(k:Int)<(W.length:Int):=by omega
   have hk0:(0:Int)≤(k:Int):=by omega
   go_wp2_with fail
   refine (EN.out _ (HR.out.kept HBW.out)).mono ?_
   rintro e w2 ⟨rfl,hb⟩
   have HB2:=hid (HBW.out.trans (hb.mono HBW.out.size))
   have HN2:=hid (nbB HNW.out hb (netBox_lt HNW.out))
   clear hb n0 n1 n2 n3 d0
   by_cases c:p=u
   ·have c':(p == u)=true:=by simpa using c
    have cn:(p != u)=false:=by simpa using c
    have HU2:=hid (HY1.out c)
    clear c
    go_wp2
    go_roundw
    case rel=>exact ⟨_,k+1,rfl,by go_num,by omega,HU2,HB2,HN2⟩
    case measure=>simp [intOf];omega
   ·have c':(p == u)=false:=by simpa using c
    have cn:(p != u)=true:=by simpa using c
    have HE:=hid (HN1.out c)
    clear c
    go_wp2
    go_ret
    exact ⟨retB HE.out.symm,HB2.out⟩
  ·have ek:k=W.length:=by omega
   subst ek
   have HE:=hid (HA.out u HU.out)
   go_wp2
   go_ret
   refine ⟨retB ?_,HBW.out⟩
   rw [HE.out]
   by_cases c:u=nt
   ·simp [c]
   ·simp [c]
theorem clonel_any (l:List Int) (ao:Option Addr) (n cap:Nat) (w:World) (hn:n=l.length) (hr:IRow w ao l) (hl:l.length≤1000000) (h0:0<l.length) :
  Calls Tryz.prog 32 #[.slice ao n cap] w fun e w'=>∃ g c,e=.returned (.slice (some ⟨g,0,none⟩) n c)∧OwnL w' w.heap.size (.slice (some ⟨g,0,none⟩) n c) l∧Below w.heap.size w w':=by
 have q:∀ (w:World) (a:Option Addr) (n c n' c':Nat),(binOp .eql 26 (.slice a n c) (.slice none n' c')).run Tryz.prog w=.ok (.bool a.isNone) w:=fun w a n c n' c'=>Lib.run_eql_slice_nil w _ _ a n c n' c' Tryz.underlying26
 subst hn
 obtain ⟨b,off,rfl,_,_⟩:=irC hr h0
 have HR:=hid (hr.kept ((Below.refl _ _).alloc (Nat.le_refl _) (.cells #[] 2)))
 have HL:=hid (show ([]:List Int).length+l.length≤1099511627776 by simp;omega)
 have H0:=hid h0
 clear hr hl h0
 go_enter Tryz.func32,Tryz.ntmps32
 go_wp2_with (at_builtin;refine Rw.app elemL eIl eIo rfl (.tmp 5) (.tmp 6) rfl w.heap.size _ ([]:List Int) rfl (own_empty w _ (Nat.le_refl _)) (some ⟨b,off,none⟩) cap l rfl ?hnn HR.out HL.out ?hB ?_;(case hnn=>(intro h;cases h));(case hB=>(simp));intro v2 w2 hown2 hgr2;have HO2:=hid hown2;have HB2:=hid (((Below.refl w.heap.size w).alloc (Nat.le_refl _) (.cells #[] 2)).grown hgr2 (by simp) (Rw.owK (own_empty (α:=Int) (k:=1) (enc:=encI) (e:=2) w w.heap.size (Nat.le_refl _))));clear hown2 hgr2)
 go_ret
 have h:=HO2.out
 rw [List.nil_append] at h
 obtain ⟨g,c,rfl,_,_⟩:=ownL_row' h H0.out
 exact ⟨g,c,rfl,h,HB2.out⟩
structure PushTells (n:Net) (f W:List Int) (x:Int) (PA:Nat→Option (List Int)):Prop where
 zero:PA 0=some f
 trk:∀ k,k<W.length→∃ r:Nat,amt W k=(r:Int)∧r<2*n.l.length
 yes:∀ k F r,k<W.length→amt W k=((r:Nat):Int)→PA k=some F→x≤roomN n.l F r→PA (k+1)=some (put1 F x r)
 no:∀ k F r,k<W.length→amt W k=((r:Nat):Int)→PA k=some F→roomN n.l F r<x→pushN n.l f x W=none
 all:PA W.length=pushN n.l f x W
 fine:∀ k F,k≤W.length→PA k=some F→F.length=n.l.length∧wi n.l F
theorem push_tells {n:Net} (hR:Right n) {f W:List Int} {x:Int} (hl:f.length=n.l.length) (hw:wi n.l f) (hx:1≤x) (hW:isWalk n W=true):PushTells n f W x (fun k=>pushN n.l f x (W.take k)):=by
 refine ⟨rfl,isWalk_in hR hW,fun k F r hk hr hp hx=>?_,fun k F r hk hr hp hx=>?_,by simp,fun k F hk hp=>?_⟩
 ·rw [pushN_step hk hr hp,if_neg (by omega)]
 ·exact pushN_dead (k:=k+1) (by rw [pushN_step hk hr hp,if_pos hx])
 ·rcases e:walkAt n.l n.s (W.take k) with _ | u
  ·have:=isWalk_no e;rw [hW] at this;cases this
  ·have:=push_facts hR hl hw (show 0≤x by omega) hk e hp
   exact ⟨this.1,this.2.1⟩
theorem walk_some {n:Net} (hR:Right n) {W:List Int} (hW:isWalk n W=true):0<W.length∧0<n.l.length:=by
 rcases W with _ | ⟨x,W⟩
 ·have:=isWalk_at hW;simp [walkAt] at this;exact absurd this hR.ne
 ·obtain ⟨r,_,h⟩:=isWalk_in hR hW 0 (by simp)
  exact ⟨by simp,by omega⟩
theorem put1_odd {F:List Int} {x:Int} {r q:Nat} (hq:q=r / 2) (h:r % 2=1):put1 F x r=F.set q (amt F q-x):=by unfold put1;rw [if_pos h,hq]
theorem put1_even {F:List Int} {x:Int} {r q:Nat} (hq:q=r / 2) (h:¬ r % 2=1):put1 F x r=F.set q (amt F q+x):=by unfold put1;rw [if_neg h,hq]
theorem room_odd' {l:List Arc} {F:List Int} {r q:Nat} (hq:q=r / 2) (h:r % 2=1):roomN l F r=amt F q:=by unfold roomN;rw [if_pos h,hq]
theorem room_even' {l:List Arc} {F:List Int} {r q:Nat} (hq:q=r / 2) (h:¬ r % 2=1):roomN l F r=(arcAt l q).cap-amt F q:=by unfold roomN;rw [if_neg h,hq]
theorem ret2v {v:Value} {a b:Int} (h:a=b):Ending.returned (.tuple #[v,.int .i64 a])=.returned (.tuple #[v,.int .i64 b]):=by rw [h]
theorem pushed_any (n:Net) (ao:Option Addr) (cap:Nat) (fo:Option Addr) (fc:Nat) (f:List Int) (wo:Option Addr) (wc:Nat) (W:List Int) (x:Int) (w:World) (hr:ARow w ao n.l) (hf:IRow w fo f) (hw:IRow w wo W) (hl:n.l.length≤1000000) (hW:W.length≤10000000)
  (hR:Right n) (hfl:f.length=n.l.length) (hwi:wi n.l f) (hwk:isWalk n W=true) (hx:1≤x) (hx2:x≤9223372036854775807) :
  Calls Tryz.prog 99 #[encN n ao cap,.slice fo n.l.length fc,.slice wo W.length wc,.int .i64 x] w fun e w'=>∃ v,e=.returned (.tuple #[v,.int .i64 (if (pushN n.l f x W).isNone then 9 else 0)])∧OwnL w' w.heap.size v ((pushN n.l f x W).getD [])∧Below w.heap.size w w':=by
 obtain ⟨h1,h2⟩:=walk_some hR hwk
 have HCL:=hid (fun w' h=>clonel_any f fo n.l.length fc w' hfl.symm h (by omega) (by omega))
 have HRM:=hid (fun (F:List Int) (hF:F.length=n.l.length∧wi n.l F) (o:Option Addr) (c:Nat) (r:Nat) w' (h:r<2*n.l.length) h1 h2=>room_any n ao cap o c F r w' h1 h2 hl hF.1 h (room_64 hR hF.2 h))
 have HGB:=hid (fun (r:Nat) (h:r<2*n.l.length) w'=>goesBack_any r w' (by omega))
 obtain ⟨PA,hPA⟩:∃ PA,PushTells n f W x PA:=⟨_,push_tells hR hfl hwi hx hwk⟩
 have HT:=hid hPA
 have HCAP:=hid (fun i h=>cap_topR hR (i:=i) h)
 have HZ:=hid hPA.zero
 have HTR:=hid hPA.trk
 have HY:=hid hPA.yes
 have HNO:=hid hPA.no
 have HA:=hid hPA.all
 have HFI:=hid hPA.fine
 clear hPA HT hR hfl hwi hwk
 generalize pushN n.l f x W=P at *
 obtain ⟨nn,ns,nt,l⟩:=n
 simp only at hr hl h2 HCL HRM HGB HCAP HTR HY HNO HFI ⊢
 have HB0:=hid ((Below.refl w.heap.size w).alloc (Nat.le_refl _) (.cells #[.int .i64 nn,.int .i64 ns,.int .i64 nt,.slice ao l.length cap] 24))
 have HN0:=hid (nbN w nn ns nt (.slice ao l.length cap))
 have HR:=hid hr
 have HW:=hid hw
 have HF:=hid (hf.kept HB0.out)
 clear hr hw hf
 go_enter Tryz.func99,Tryz.ntmps99
 go_wp2
 go_step3
 go_wp2_with fail
 refine (HCL.out _ HF.out).mono ?_
 rintro e w1 ⟨g,c,rfl,ho,hb⟩
 have HB1:=hid (HB0.out.trans (hb.mono (by simp)))
 have HN1:=hid (nbB HN0.out hb (by simp))
 have hg0:w.heap.size<g:=by have:=(Rw.owL ho g rfl).1;simp at this;omega
 have HO1:=hid (Rw.own_base ho (B':=w.heap.size) (by simp))
 clear hb ho HB0 HN0 HF HCL
 go_wp2
 go_step3
 go_wp2
 go_loopw [10,11,18] (fun s z i wr=>∃ (k:Nat) (F:List Int),s=.slice (some ⟨g,0,none⟩) l.length c∧z=.int .i64 0∧i=.int .i64 k∧k≤W.length∧Hid (PA k=some F)∧Hid (OwnL wr w.heap.size (.slice (some ⟨g,0,none⟩) l.length c) F)∧Hid (Below w.heap.size w wr)∧Hid (NetBox wr w.heap.size nn ns nt (.slice ao l.length cap))) (fun _ _ i _=>W.length-(intOf i).toNat)
 case atStart=>exact ⟨0,f,rfl,rfl,rfl,Nat.zero_le _,HZ,HO1,HB1,HN1⟩
 case round =>
  obtain ⟨k,F,rfl,rfl,rfl,hk,HP,HOW,HBW,HNW⟩:=hrel
  obtain ⟨n0,n1,n2,n3⟩:=nbC HNW.out
  by_cases hlt:k<W.length
  ·obtain ⟨b,off,rfl,hbl,d0⟩:=irC (HW.out.kept HBW.out) hlt
   obtain ⟨r,hr1,hr2⟩:=HTR.out k hlt
   have HFF:=hid (HFI.out k F hk HP.out)
   have HY1:=hid (HY.out k F r hlt hr1 HP.out)
   have HN1:=hid (HNO.out k F r hlt hr1 HP.out)
   have RM:=hid (fun w'=>HRM.out F HFF.out (some ⟨g,0,none⟩) c r w' hr2)
   have GB:=hid (HGB.out r hr2)
   rw [hr1] at d0
   obtain ⟨q,hq⟩:∃ q,q=r / 2:=⟨_,rfl⟩
   have hql:q<l.length:=by omega
   have htd:=tdiv2 hq
   have HO:=hid (show r % 2=1→put1 F x r=F.set q (amt F q-x)∧roomN l F r=amt F q from fun h=>⟨put1_odd hq h,room_odd' hq h⟩)
   have HE:=hid (show ¬ r % 2=1→put1 F x r=F.set q (amt F q+x)∧roomN l F r=(arcAt l q).cap-amt F q from fun h=>⟨put1_even hq h,room_even' hq h⟩)
   have hca:=HCAP.out q hql
   obtain ⟨hF1,hF2⟩:=HFF.out.2 q hql
   have HQF:=hid (show q<F.length by have:=HFF.out.1;omega)
   generalize roomN l F r=ro at *
   generalize put1 F x r=F2 at *
   clear hr1 hq
   have hki:(k:Int)<(W.length:Int):=by omega
   have hk0:(0:Int)≤(k:Int):=by omega
   have hqi:(q:Int)<(l.length:Int):=by omega
   have hq0:(0:Int)≤(q:Int):=by omega
   go_wp2_with fail
   refine (RM.out _ (HR.out.kept HBW.out) (irow_ofL' HOW.out)).mono ?_
   rintro e w2 ⟨rfl,hb⟩
   have HB2:=hid (HBW.out.trans (hb.mono HBW.out.size))
   have HN2:=hid (nbB HNW.out hb (netBox_lt HNW.out))
   have HO2:=hid (Rw.own_below HOW.out hb)
   clear hb n0 n1 n2 n3 d0
   by_cases c1:ro<x
   ·have c1':decide (ro<x)=true:=by simpa using c1
    have HPN:=hid (HN1.out c1)
    clear c1
    go_wp2
    try rw [Exit.noGoto_ret]
    go_ret2
    refine ⟨_,ret2v ?_,?_,HB2.out⟩
    ·rw [HPN.out];rfl
    ·rw [HPN.out];exact Rw.owN _ _
   ·have c1':decide (ro<x)=false:=by simpa using c1
    have HP2:=hid (HY1.out (by omega))
    obtain ⟨a0,a1⟩:=ownL_cell HO2.out HQF.out
    by_cases c2:r % 2=1
    ·have c2':decide (r % 2=1)=true:=by simpa using c2
     rw [c2'] at GB
     have HFE:=hid (HO.out c2).1
     have hro:=(HO.out c2).2
     have HOP:=hid (fun y=>ownL_put HO2.out HQF.out y)
     generalize amt F q=z at *
     have hwz:IntKind.i64.wrap (z-x)=z-x:=by rw [IntKind.wrap_i64];omega
     clear c2 c2' c1 hro
     go_wp2_with fail
     refine (GB.out _).mono ?_
     rintro e w' ⟨rfl,rfl⟩
     go_wp2
     have HO3:=hid (HOP.out (z-x))
     rw [← HFE.out] at HO3
     have HB3:=hid (HB2.out.setCell (p:=⟨g,q,none⟩) (by show w.heap.size≤g;omega) (.int .i64 (z-x)))
     have HN3:=hid (nbO HN2.out (b2:=g) (o:=q) (v2:=.int .i64 (z-x)) (by omega))
     go_roundw
     case rel=>exact ⟨k+1,F2,rfl,rfl,by go_num,by omega,HP2,HO3,HB3,HN3⟩
     case measure=>simp [intOf];omega
    ·have c2':decide (r % 2=1)=false:=by simpa using c2
     rw [c2'] at GB
     have HFE:=hid (HE.out c2).1
     have hro:=(HE.out c2).2
     have HOP:=hid (fun y=>ownL_put HO2.out HQF.out y)
     generalize amt F q=z at *
     have hwz:IntKind.i64.wrap (z+x)=z+x:=by rw [IntKind.wrap_i64];omega
     clear c2 c2' c1 hro
     go_wp2_with fail
     refine (GB.out _).mono ?_
     rintro e w' ⟨rfl,rfl⟩
     go_wp2
     have HO3:=hid (HOP.out (z+x))
     rw [← HFE.out] at HO3
     have HB3:=hid (HB2.out.setCell (p:=⟨g,q,none⟩) (by show w.heap.size≤g;omega) (.int .i64 (z+x)))
     have HN3:=hid (nbO HN2.out (b2:=g) (o:=q) (v2:=.int .i64 (z+x)) (by omega))
     go_roundw
     case rel=>exact ⟨k+1,F2,rfl,rfl,by go_num,by omega,HP2,HO3,HB3,HN3⟩
     case measure=>simp [intOf];omega
  ·have ek:k=W.length:=by omega
   subst ek
   have HE:=hid (show P=some F by rw [← HA.out];exact HP.out)
   clear hlt hk
   go_wp2
   try rw [Exit.noGoto_ret]
   go_ret2
   refine ⟨_,ret2v ?_,?_,HBW.out⟩
   ·rw [HE.out];rfl
   ·rw [HE.out];exact HOW.out
theorem pushE_bad {n:Net} {f W:List Int} {x:Int} (h:chkF n f≠0):pushE n f W x=chkF n f∧pushV n f W x=[]:=by
 have e:pushE n f W x=chkF n f:=by unfold pushE;rw [if_pos h]
 exact ⟨e,by unfold pushV;rw [if_pos (by rw [e];exact h)]⟩
theorem pushE_no {n:Net} {f W:List Int} {x:Int} (h:chkF n f=0) (h2:isWalk n W=false):pushE n f W x=1∧pushV n f W x=[]:=by
 have e:pushE n f W x=1:=by unfold pushE;rw [if_neg (by simpa using h),if_pos h2]
 exact ⟨e,by unfold pushV;rw [if_pos (by rw [e];decide)]⟩
theorem pushE_low {n:Net} {f W:List Int} {x:Int} (h:chkF n f=0) (h2:isWalk n W=true) (h3:x<1):pushE n f W x=3∧pushV n f W x=[]:=by
 have e:pushE n f W x=3:=by unfold pushE;rw [if_neg (by simpa using h),if_neg (by simp [h2]),if_pos h3]
 exact ⟨e,by unfold pushV;rw [if_pos (by rw [e];decide)]⟩
theorem pushE_go {n:Net} {f W:List Int} {x:Int} (h:chkF n f=0) (h2:isWalk n W=true) (h3:1≤x):pushE n f W x=(if (pushN n.l f x W).isNone then 9 else 0)∧pushV n f W x=(pushN n.l f x W).getD []:=by
 have e:pushE n f W x=if (pushN n.l f x W).isNone then 9 else 0:=by unfold pushE;rw [if_neg (by simpa using h),if_neg (by simp [h2]),if_neg (by omega)]
 refine ⟨e,?_⟩
 unfold pushV;rw [e]
 rcases pushN n.l f x W with _ | g
 ·rfl
 ·rfl
theorem dpush_any (n:Net) (ao:Option Addr) (cap:Nat) (fo:Option Addr) (fc:Nat) (f:List Int) (wo:Option Addr) (wc:Nat) (W:List Int) (x:Int) (w:World) (hr:ARow w ao n.l) (hf:IRow w fo f) (hw:IRow w wo W) (hl:n.l.length≤1000000) (hok:∀ a∈n.l,in64 a.cap) (hW:W.length≤1000000) (h64:∀ x∈W,in64 x) (hx:in64 x) :
  Calls Tryz.prog 95 #[encN n ao cap,.slice fo f.length fc,.slice wo W.length wc,.int .i64 x] w fun e w'=>∃ v,e=.returned (.tuple #[v,.int .i64 (pushE n f W x)])∧OwnL w' w.heap.size v (pushV n f W x)∧Below w.heap.size w w':=by
 have CK:=hid (fun w' (h1:ARow w' ao n.l) (h2:IRow w' fo f)=>fchk_any n ao cap fo fc f w' h1 h2 hl hok)
 by_cases c0:chkF n f=0
 case neg =>
  have HE:=hid (pushE_bad (W:=W) (x:=x) c0)
  generalize pushE n f W x=PE at *
  generalize pushV n f W x=PV at *
  generalize chkF n f=c at *
  generalize f.length=fl at *
  obtain ⟨nn,ns,nt,l⟩:=n
  simp only at hr CK ⊢
  have HB0:=hid ((Below.refl w.heap.size w).alloc (Nat.le_refl _) (.cells #[.int .i64 nn,.int .i64 ns,.int .i64 nt,.slice ao l.length cap] 24))
  have c1':(c == 0)=false:=by simpa using c0
  have c1n:(c != 0)=true:=by simpa using c0
  have HR:=hid (hr.kept HB0.out)
  have HF:=hid (hf.kept HB0.out)
  clear hr hf c0
  go_enter Tryz.func95,Tryz.ntmps95
  go_wp2_with fail
  refine (CK.out _ HR.out HF.out).mono ?_
  rintro e w1 ⟨rfl,hb⟩
  have HB1:=hid (HB0.out.trans (hb.mono (by simp)))
  clear hb
  go_wp2
  go_ret2
  exact ⟨_,ret2v HE.out.1.symm,by rw [HE.out.2];exact Rw.owN _ _,HB1.out⟩
 have HNO:=hid (pushE_no (n:=n) (f:=f) (W:=W) (x:=x) c0)
 have HLO:=hid (pushE_low (n:=n) (f:=f) (W:=W) (x:=x) c0)
 have HGO:=hid (pushE_go (n:=n) (f:=f) (W:=W) (x:=x) c0)
 obtain ⟨-,RT,hfl,hwi⟩:=chkA_ok (chkF_ok c0).1
 rw [c0] at CK
 rw [hfl] at CK ⊢
 have IW:=hid (fun w' h1 h2=>iswalk_any n ao cap wo wc W w' h1 h2 hl hW h64)
 have HGOT:=hid (fun w' h1 h2 h3 (hk:isWalk n W=true) (hx1:1≤x)=>pushed_any n ao cap fo fc f wo wc W x w' h1 h2 h3 hl (by omega) RT hfl hwi hk hx1 hx.2)
 clear RT hfl hwi
 generalize pushE n f W x=PE at *
 generalize pushV n f W x=PV at *
 generalize hB:isWalk n W=B at *
 clear hB
 obtain ⟨nn,ns,nt,l⟩:=n
 simp only at hr hl CK IW HGOT ⊢
 have HB0:=hid ((Below.refl w.heap.size w).alloc (Nat.le_refl _) (.cells #[.int .i64 nn,.int .i64 ns,.int .i64 nt,.slice ao l.length cap] 24))
 have HN0:=hid (nbN w nn ns nt (.slice ao l.length cap))
 have HR:=hid (hr.kept HB0.out)
 have HF:=hid (hf.kept HB0.out)
 have HW:=hid (hw.kept HB0.out)
 clear hr hf hw c0
 go_enter Tryz.func95,Tryz.ntmps95
 go_wp2_with fail
 refine (CK.out _ HR.out HF.out).mono ?_
 rintro e w1 ⟨rfl,hb⟩
 have HB1:=hid (HB0.out.trans (hb.mono (by simp)))
 have HN1:=hid (nbB HN0.out hb (by simp))
 have HR1:=hid (HR.out.kept hb)
 have HF1:=hid (HF.out.kept hb)
 have HW1:=hid (HW.out.kept hb)
 obtain ⟨n0,n1,n2,n3⟩:=nbC HN1.out
 clear hb HB0 HN0 HR HF HW CK
 go_wp2_with fail
 refine (IW.out _ HR1.out HW1.out).mono ?_
 rintro e w2 ⟨rfl,hb⟩
 have HB2:=hid (HB1.out.trans (hb.mono HB1.out.size))
 have HN2:=hid (nbB HN1.out hb (netBox_lt HN1.out))
 have HR2:=hid (HR1.out.kept hb)
 have HF2:=hid (HF1.out.kept hb)
 have HW2:=hid (HW1.out.kept hb)
 clear hb n0 n1 n2 n3 HB1 HN1 HR1 HF1 HW1 IW
 rcases B with _ | _
 ·have HE:=hid (HNO.out rfl)
  go_wp2
  go_ret2
  exact ⟨_,ret2v HE.out.1.symm,by rw [HE.out.2];exact Rw.owN _ _,HB2.out⟩
 by_cases p:x<1
 ·have HE:=hid (HLO.out rfl p)
  have p':decide (x<1)=true:=by simpa using p
  clear p
  go_wp2
  go_ret2
  exact ⟨_,ret2v HE.out.1.symm,by rw [HE.out.2];exact Rw.owN _ _,HB2.out⟩
 have p':decide (x<1)=false:=by simpa using p
 have HE:=hid (HGO.out rfl (by omega))
 obtain ⟨n0,n1,n2,n3⟩:=nbC HN2.out
 have PU:=hid (fun w' h1 h2 h3=>HGOT.out w' h1 h2 h3 rfl (by omega))
 rw [← HE.out.1,← HE.out.2] at PU
 clear HE HGO HNO HLO
 clear p HGOT
 go_wp2_with fail
 refine (PU.out _ HR2.out HF2.out HW2.out).mono ?_
 rintro e w3 ⟨v,rfl,ho,hb⟩
 have HB3:=hid (HB2.out.trans (hb.mono HB2.out.size))
 have HO3:=hid (Rw.own_base ho (B':=w.heap.size) HB2.out.size)
 clear hb ho n0 n1 n2 n3
 go_wp2
 go_ret2
 exact ⟨_,rfl,HO3.out,HB3.out⟩
end Ne
namespace Ne

theorem rsame_l (a1 a2:Option Addr) (c1 c2:Nat) (l1 l2:List Int) (w:World) (r1:IRow w a1 l1) (r2:IRow w a2 l2) (h1:l1.length≤1099511627776) (h2:l2.length≤1099511627776) :
  Calls Tryz.prog 12 #[.slice a1 l1.length c1,.slice a2 l2.length c2] w fun e w'=>e=.returned (.bool (decide (l1=l2)))∧Below w.heap.size w w':=by
 by_cases hl:l1.length=l2.length
 ·have hne:((l1.length:Int) == (l2.length:Int))=true:=by simp;omega
  have HL:=hid hl
  rw [← hl] at hne ⊢
  clear hne hl
  have R1:=hid r1
  have R2:=hid r2
  clear r1 r2
  go_enter Tryz.func12,Tryz.ntmps12
  go_wp2
  go_loopw [5] (fun i wr=>∃ (k q:Nat),k≤l1.length∧i=.int .i64 k∧wr=w.drewN q∧l1.take k=l2.take k) (fun i _=>l1.length-(intOf i).toNat)
  case atStart=>exact ⟨0,0,Nat.zero_le _,rfl,rfl,by simp⟩
  case round =>
   obtain ⟨k,q,hk,rfl,rfl,he⟩:=hrel
   by_cases hlt:k<l1.length
   ·obtain ⟨x,g1⟩:∃ x,l1[k]? = some x:=⟨_,List.getElem?_eq_getElem hlt⟩
    obtain ⟨y,g2⟩:∃ y,l2[k]? = some y:=⟨_,List.getElem?_eq_getElem (by have:=HL.out;omega)⟩
    rcases R1.out with h | ⟨b1,o1,rfl,_,k1⟩
    ·rw [h] at hlt;simp at hlt
    rcases R2.out with h | ⟨b2,o2,rfl,_,k2⟩
    ·exfalso;have:=HL.out;rw [h] at this;rw [this] at hlt;simp at hlt
    have hc1:=irow_at k1 g1
    have hc2:=irow_at k2 g2
    clear k1 k2
    by_cases hxy:x=y
    ·have HN:=hid (take_succ_eq he g1 g2 hxy)
     subst hxy
     clear he g1 g2
     go_wp2
     go_quiet (fail)
     go_wp2
     go_roundw
     case rel=>exact ⟨k+1,q+nq,by omega,by go_num,rfl,HN.out⟩
     case measure=>simp [intOf];omega
    ·have HN:=hid (ne_at g1 g2 hxy)
     have hxy':(x == y)=false:=by simpa using hxy
     clear he g1 g2 hxy
     go_wp2
     go_quiet (fail)
     go_wp2
     go_ret
     exact ⟨retB (decide_eq_false HN.out).symm,(below_drewN w q).trans ⟨rfl,rfl,rfl,Nat.le_refl _,fun _ _=>rfl⟩⟩
   ·have ek:k=l1.length:=by omega
    subst ek
    have t2:l2.take l1.length=l2:=by rw [HL.out];exact List.take_length
    rw [List.take_length,t2] at he
    have HN:=hid he
    clear t2
    clear he hlt
    go_wp2
    go_ret
    exact ⟨retB (decide_eq_true HN.out).symm,below_drewN _ _⟩
 ·have hne:((l1.length:Int) == (l2.length:Int))=false:=by simp;omega
  have HN:=hid (show l1≠l2 from fun h=>hl (by rw [h]))
  clear hl r1 r2
  go_enter Tryz.func12,Tryz.ntmps12
  go_wp2
  go_ret
  exact ⟨retB (decide_eq_false HN.out).symm,Below.refl _ _⟩

end Ne
namespace Ne
section
variable {n:Net} (ao:Option Addr) (cap:Nat) (fo:Option Addr) (fc:Nat) {f:List Int} (w:World) (ck:checkN n=0) (hr:ARow w ao n.l) (hf:IRow w fo f) (hF:Flow n f)
include ck hr hf hF
end
end Ne
namespace Ne
structure WkC where
 o:Option Addr
 len:Nat
 cap:Nat
 am:Int
def encK (k:WkC):List Value:=[.slice k.o k.len k.cap,.int .i64 k.am]
theorem encK_len (k:WkC):(encK k).length=2:=rfl
theorem encK_one (k:WkC):∀ u∈encK k,u.oneCell' = true:=by intro u hu;simp [encK] at hu;rcases hu with h | h <;> (subst h;rfl)
theorem elemK:Rw.Elem 150 142 2 32 (.agg #[.slice none 0 0,.int .i64 0]):=⟨by kernel_rfl,Tryz.underlying142,rfl,by decide,by decide⟩
def WkR (e:TypeId) (w:World) (B:Nat) (v:Value) (Ws:List (List Nat × Int)):Prop :=
 ∃ Ks:List WkC,Rw.Own e 2 encK w B v Ks∧Ks.length=Ws.length∧∀ (i:Nat) (k:WkC) (p:List Nat × Int),Ks[i]? = some k→Ws[i]? = some p→OwnI w B (.slice k.o k.len k.cap) (encW p.1)∧k.am=p.2
section
variable {e:TypeId} {w w2:World} {B:Nat} {v:Value} {Ws:List (List Nat × Int)}
theorem wkr_nil (e:TypeId) (w:World) (B:Nat):WkR e w B (.slice none 0 0) []:=⟨[],Rw.owN _ _,rfl,fun i k p h=>by simp at h⟩
theorem WkR.same (h:WkR e w B v Ws) (hk:∀ g,B≤g→g<w.heap.size→w2.heap[g]? = w.heap[g]?):WkR e w2 B v Ws:=by
 obtain ⟨Ks,h1,h2,h3⟩:=h
 refine ⟨Ks,owM h1 fun g hg=>hk g (Rw.owL h1 g hg).1 (Rw.owL h1 g hg).2,h2,fun i k p hi hp=>?_⟩
 obtain ⟨g1,g2⟩:=h3 i k p hi hp
 exact ⟨owM g1 fun g hg=>hk g (Rw.owL g1 g hg).1 (Rw.owL g1 g hg).2,g2⟩
theorem WkR.kept (h:WkR e w B v Ws) (hb:Below w.heap.size w w2):WkR e w2 B v Ws:=h.same fun g _ hg=>hb.block g hg
theorem WkR.base {B':Nat} (h:WkR e w B v Ws) (hB:B'≤B):WkR e w B' v Ws:=by
 obtain ⟨Ks,h1,h2,h3⟩:=h
 exact ⟨Ks,Rw.own_base h1 hB,h2,fun i k p hi hp=>⟨Rw.own_base (h3 i k p hi hp).1 hB,(h3 i k p hi hp).2⟩⟩
theorem WkR.val (h:WkR e w B v Ws):∃ o c,v=.slice o Ws.length c∧Ws.length≤c∧c≤maxLen∧(o=none→c=0):=by
 obtain ⟨Ks,h1,h2,_⟩:=h
 obtain ⟨o,c,g1,g2,g3,g4,_⟩:=Rw.owR encK_len h1
 rw [h2] at g1 g2
 exact ⟨o,c,g1,g2,g3,g4⟩
end
theorem wkr_snoc {e:TypeId} {w w2:World} {B:Nat} {v v2:Value} {Ws:List (List Nat × Int)} {Ks:List WkC} (hne:(3:TypeId)≠e) (h1:Rw.Own e 2 encK w B v Ks) (h2:Ks.length=Ws.length) (h3:∀ (i:Nat) (k:WkC) (p:List Nat × Int),Ks[i]? = some k→Ws[i]? = some p→OwnI w B (.slice k.o k.len k.cap) (encW p.1)∧k.am=p.2)
  (hg:w.grownBy w2 v.ownBlock) {k:WkC} (h4:Rw.Own e 2 encK w2 B v2 (Ks ++ [k])) {R:List Nat} {a:Int} (hR:OwnI w B (.slice k.o k.len k.cap) (encW R)) (ha:k.am=a):WkR e w2 B v2 (Ws ++ [(R,a)]):=by
 have keep:∀ {x:Value} {l:List Int},OwnI w B x l→OwnI w2 B x l:=fun hx=>owM hx fun g hg2=>hg.block g (Rw.owL hx g hg2).2 fun e2=>own_types hne hx h1 g hg2 e2.symm
 refine ⟨Ks ++ [k],h4,by simp [h2],fun i k' p hi hp=>?_⟩
 rcases Nat.lt_trichotomy i Ks.length with c | c | c
 ·rw [List.getElem?_append_left c] at hi
  rw [List.getElem?_append_left (by omega)] at hp
  obtain ⟨g1,g2⟩:=h3 i k' p hi hp
  exact ⟨keep g1,g2⟩
 ·subst c
  rw [List.getElem?_append_right (Nat.le_refl _)] at hi
  rw [h2,List.getElem?_append_right (Nat.le_refl _)] at hp
  simp at hi hp
  subst hi;subst hp
  exact ⟨keep hR,ha⟩
 ·rw [List.getElem?_eq_none (by simp;omega)] at hi;cases hi
theorem cap_62 {n:Net} (hR:Right n) {r:Nat} (h:r<2*n.l.length):(arcAt n.l (r / 2)).cap≤4611686018427387903:=cap_topR hR (by omega)
structure BlkStep (n:Net) (TL:List Nat) (g:List Int) (x:Int) (RM:List Int) (U:Nat→List Nat) (R0:Nat) (R':List Nat) (a:Int) (g2:List Int):Prop where
 lt:∀ r∈R0 :: R',r<2*n.l.length
 nd:(R0 :: R').Nodup
 b64:∀ r∈R0 :: R',0≤amt RM r∧amt RM r≤4611686018427387904
 len:(R0 :: R').length≤1000000
 least:Least n.l g (R0 :: R') a
 a64:x≤a∧a≤4611686018427387904
 tr64:∀ y∈encW (R0 :: R'),in64 y
 pE:pushE n g (encW (R0 :: R')) a=0
 pV:pushV n g (encW (R0 :: R')) a=g2
 pN:pushN n.l g a (encW (R0 :: R'))=some g2
 flow:Okf n g2
 srch:Srch n TL g2 x (lessL RM a (R0 :: R')) U
 left:left n.l TL x g2<left n.l TL x g
 value:exc n.l g2 n.t=exc n.l g n.t+a
theorem first_walk {n:Net} {TL:List Nat} {L:List Int} (hL:Lds n.l L TL) {g:List Int} {x:Int} {R:List Nat} (h:FirstW n.l TL g x n.t n.s R):isWalk n (encW R)=true:=by
 unfold isWalk
 rw [wlk_at hL (fWw h)]
 simp
theorem blk_step {n:Net} (ck:checkN n=0) {TL:List Nat} {L:List Int} (hL:Lds n.l L TL) {g:List Int} {x:Int} (hx:1≤x) (hF:Okf n g) {RM:List Int} {U:Nat→List Nat} (hS:Srch n TL g x RM U) {R:List Nat} (h:FirstW n.l TL g x n.t n.s R) :
  ∃ R0 R' g2,R=R0 :: R'∧BlkStep n TL g x RM U R0 R' (minL RM (amt RM R0) (R0 :: R')) g2:=by
 have hR:=rgO ck
 have hne:=first_ne hR.ne h
 obtain ⟨R0,R',rfl⟩:∃ R0 R',R=R0 :: R':=by
  rcases R with _ | ⟨R0,R'⟩
  ·exact absurd rfl hne
  ·exact ⟨R0,R',rfl⟩
 have hw:=fWw h
 have hm:=wlk_mem hw
 have hle:=least_min hS fun r hr=>(hm r hr).1
 have hhalf:=wlk_nodup hL hw
 obtain ⟨a,ha⟩:∃ a,a=minL RM (amt RM R0) (R0 :: R'):=⟨_,rfl⟩
 rw [← ha] at hle
 obtain ⟨q,hq,e⟩:=hle.one
 have hqx:=(hm q hq).2
 have hlt:∀ r∈R0 :: R',r<2*n.l.length:=fun r hr=>hL.lt r (hm r hr).1
 have hrn:∀ r∈R0 :: R',0≤roomN n.l g r∧roomN n.l g r≤4611686018427387903:=fun r hr=>by
  have h1:=room_nn hF.wi (hlt r hr)
  have h2:=cap_62 hR (hlt r hr)
  omega
 obtain ⟨g2,hp,hg2,_⟩:=wlk_push hL hw hF.len hle.all
 have hiw:=first_walk hL h
 have ha1:1≤a:=by omega
 have hlen:(R0 :: R').length≤1000000:=by
  have h1:=nodup_len (L:=n.l.length) hhalf fun i hi=>by
   obtain ⟨r,hr,e2⟩:=List.mem_map.1 hi
   have:=hlt r hr
   omega
  rw [List.length_map] at h1
  have:=hR.len
  omega
 have hpE:pushE n g (encW (R0 :: R')) a=0:=by
  unfold pushE
  rw [if_neg (by simpa using hF.chk ck),hiw,if_neg (by simp),if_neg (by omega),hp]
  simp
 obtain ⟨hF2,hv⟩:=okf_push hR hF (by omega) hiw hp
 refine ⟨R0,R',g2,rfl,?_⟩
 rw [← ha]
 exact ⟨hlt,nodup_of_half hhalf,fun r hr=>by rw [hS.rm r (hm r hr).1];have:=hrn r hr;omega,hlen,hle,⟨by omega,by have:=hrn q hq;omega⟩,fun y hy=>by
   obtain ⟨r,hr,rfl⟩:∃ r∈R0 :: R',y=((r:Nat):Int):=by unfold encW at hy;obtain ⟨r,hr,e2⟩:=List.mem_map.1 hy;exact ⟨r,hr,e2.symm⟩
   have:=hlt r hr;have:=hR.len;unfold in64;omega,hpE,by unfold pushV;rw [if_neg (by rw [hpE];simp),hp];rfl,hp,hF2,srch_push hL hF.len hS hx h hle hp,left_step hL hw hF.len hx hle hp,hv⟩
theorem cloneL_any (l:List Int) (ao:Option Addr) (n cap:Nat) (w:World) (hn:n=l.length) (hr:IRow w ao l) (hl:l.length≤1000000) :
  Calls Tryz.prog 32 #[.slice ao n cap] w fun e w'=>∃ o c,e=.returned (.slice o n c)∧OwnL w' w.heap.size (.slice o n c) l∧Below w.heap.size w w':=by
 rcases l with _ | ⟨z,zs⟩
 ·simp only [List.length_nil] at hn
  subst hn
  have q:∀ (w:World) (a:Option Addr) (n c n' c':Nat),(binOp .eql 26 (.slice a n c) (.slice none n' c')).run Tryz.prog w=.ok (.bool a.isNone) w:=fun w a n c n' c'=>Lib.run_eql_slice_nil w _ _ a n c n' c' Tryz.underlying26
  rcases ao with _ | ad
  ·go_enter Tryz.func32,Tryz.ntmps32
   go_wp2
   go_ret
   exact ⟨none,0,rfl,Rw.owN _ _,Below.refl _ _⟩
  ·have HR:=hid (hr.kept ((Below.refl _ _).alloc (Nat.le_refl _) (.cells #[] 2)))
   clear hr hl
   go_enter Tryz.func32,Tryz.ntmps32
   go_wp2_with (at_builtin;refine Rw.app elemL eIl eIo rfl (.tmp 5) (.tmp 6) rfl w.heap.size _ ([]:List Int) rfl (own_empty w _ (Nat.le_refl _)) (some ad) cap ([]:List Int) rfl ?hnn HR.out (by simp) ?hB ?_;(case hnn=>(intro h;cases h));(case hB=>(simp));intro v2 w2 hown2 hgr2;have HO2:=hid hown2;have HB2:=hid (((Below.refl w.heap.size w).alloc (Nat.le_refl _) (.cells #[] 2)).grown hgr2 (by simp) (Rw.owK (own_empty (α:=Int) (k:=1) (enc:=encI) (e:=2) w w.heap.size (Nat.le_refl _))));clear hown2 hgr2)
   go_ret
   have h:=HO2.out
   rw [List.nil_append] at h
   obtain ⟨o,c,h1,_,_,_,h2,_⟩:=Rw.owR eIl h
   rw [h1] at h
   exact ⟨o,c,by rw [h1];rfl,h,HB2.out⟩
 ·exact (clonel_any (z :: zs) ao n cap w hn hr hl (by simp)).mono fun e w' ⟨g,c,h1,h2,h3⟩=>⟨_,c,h1,h2,h3⟩
end Ne
namespace Ne
structure LvSt (w:World) (B g bl bw bm n1:Nat) (L:List Int) (VW:Value) (W:List Nat) (VM:Value) (M:List Nat):Prop where
 boxL:SBox w bl (.slice (some ⟨g,0,none⟩) n1 n1)
 row:IBox w g L
 len:L.length=n1
 boxW:SBox w bw VW
 ow:OwnI w B VW (encW W)
 boxM:SBox w bm VM
 om:OwnI w B VM (encW M)
 sep:∀ h,VW.ownBlock=some h→VM.ownBlock≠some h
 low:g<B∧bl<B∧bw<B∧bm<B
 ne:g≠bl∧g≠bw∧g≠bm∧bl≠bw∧bl≠bm∧bw≠bm
 sz:B≤w.heap.size
structure Fr (B g bl bw bm:Nat) (w w2:World):Prop where
 os:w2.os=w.os
 tape:w2.tape=w.tape
 output:w2.output=w.output
 size:w.heap.size≤w2.heap.size
 block:∀ k,k<B→k≠g→k≠bl→k≠bw→k≠bm→w2.heap[k]? = w.heap[k]?
theorem Fr.refl (B g bl bw bm:Nat) (w:World):Fr B g bl bw bm w w:=⟨rfl,rfl,rfl,Nat.le_refl _,fun _ _ _ _ _ _=>rfl⟩
theorem Fr.trans {B g bl bw bm:Nat} {a b c:World} (h:Fr B g bl bw bm a b) (k:Fr B g bl bw bm b c):Fr B g bl bw bm a c :=
 ⟨k.os.trans h.os,k.tape.trans h.tape,k.output.trans h.output,Nat.le_trans h.size k.size,fun i h1 h2 h3 h4 h5=>(k.block i h1 h2 h3 h4 h5).trans (h.block i h1 h2 h3 h4 h5)⟩
theorem Fr.below {B g bl bw bm B0:Nat} {w w2:World} (h:Fr B g bl bw bm w w2) (h0:B0≤B) (h1:B0≤g) (h2:B0≤bl) (h3:B0≤bw) (h4:B0≤bm):Below B0 w w2 :=
 ⟨h.os,h.tape,h.output,h.size,fun k hk=>h.block k (by omega) (by omega) (by omega) (by omega) (by omega)⟩
theorem Fr.of_below {B g bl bw bm:Nat} {w w2:World} (h:Below B w w2):Fr B g bl bw bm w w2 :=
 ⟨h.os,h.tape,h.output,h.size,fun k hk _ _ _ _=>h.block k hk⟩
theorem Fr.set {B g bl bw bm:Nat} {w w2:World} (h:Fr B g bl bw bm w w2) {p:Addr} (hp:p.block=g∨p.block=bl∨p.block=bw∨p.block=bm) (v:Value):Fr B g bl bw bm w (w2.setCell p v) :=
 ⟨h.os,h.tape,h.output,by have:=h.size;simpa [World.setCell] using this,fun k h1 h2 h3 h4 h5=>(Below.heap_setCell _ _ _ _ (by rcases hp with e | e | e | e <;> rw [e] <;> assumption)).trans (h.block k h1 h2 h3 h4 h5)⟩
theorem Fr.grown {B g bl bw bm:Nat} {w w2 w3:World} {row:Option Nat} (h:Fr B g bl bw bm w w2) (hg:w2.grownBy w3 row) (hB:B≤w2.heap.size) (hr:∀ k,row=some k→B≤k):Fr B g bl bw bm w w3 :=
 ⟨hg.os.trans h.os,hg.tape.trans h.tape,hg.output.trans h.output,Nat.le_trans h.size hg.size,fun k h1 h2 h3 h4 h5=>(hg.block k (by omega) (fun e=>by have:=hr k e.symm;omega)).trans (h.block k h1 h2 h3 h4 h5)⟩
theorem Fr.alloc {B g bl bw bm:Nat} {w w2:World} (h:Fr B g bl bw bm w w2) (hB:B≤w2.heap.size) (o:Obj):Fr B g bl bw bm w (w2.alloc o) :=
 h.trans (.of_below ((Below.refl B w2).alloc hB o))
theorem IBox.growth {w w2:World} {b:Nat} {l:List Int} {row:Option Nat} (h:IBox w b l) (hg:w.grownBy w2 row) (hne:some b≠row):IBox w2 b l:=h.same (hg.block b h.lt hne)
theorem SBox.growth {w w2:World} {b:Nat} {v:Value} {row:Option Nat} (h:SBox w b v) (hg:w.grownBy w2 row) (hne:some b≠row):SBox w2 b v:=h.same (hg.block b h.lt hne)
theorem lvst_met {w w4:World} {B g bl bw bm n1:Nat} {L:List Int} {VW:Value} {W:List Nat} {VM:Value} {M:List Nat} (st:LvSt w B g bl bw bm n1 L VW W VM M) {v:Nat} (hv:v<n1) (k:Int) {x:Value}
  (hg:((w.setCell ⟨g,v,none⟩ (.int .i64 k)).alloc (.cells #[.int .i64 (v:Int)] 3)).grownBy w4 VM.ownBlock) (ho:OwnI w4 B x (encW (M ++ [v])))
  (hx:x.ownBlock=VM.ownBlock∨x.ownBlock=some ((w.setCell ⟨g,v,none⟩ (.int .i64 k)).alloc (.cells #[.int .i64 (v:Int)] 3)).heap.size) :
  SBox w4 bm VM∧LvSt (w4.setCell ⟨bm,0,none⟩ x) B g bl bw bm n1 (L.set v k) VW W x (M ++ [v])∧Fr B g bl bw bm w (w4.setCell ⟨bm,0,none⟩ x):=by
 obtain ⟨l1,l2,l3,l4⟩:=st.low
 obtain ⟨e1,e2,e3,e4,e5,e6⟩:=st.ne
 have hlm:=Rw.owL st.om
 have hlw:=Rw.owL st.ow
 have hsz:=st.sz
 have hz:((w.setCell ⟨g,v,none⟩ (.int .i64 k)).alloc (.cells #[.int .i64 (v:Int)] 3)).heap.size=w.heap.size+1:=by simp [World.setCell]
 have nr:∀ b,b<B→some b≠VM.ownBlock:=fun b hb e=>by have:=(hlm b e.symm).1;omega
 have a1:SBox w4 bl _:=((st.boxL.far (p:=⟨g,v,none⟩) (Ne.symm e1) (.int .i64 k)).alloc (.cells #[.int .i64 (v:Int)] 3)).growth hg (nr bl l2)
 have a2:IBox w4 g (L.set v k):=((st.row.set (i:=v) (by rw [st.len];exact hv) k).alloc (.cells #[.int .i64 (v:Int)] 3)).growth hg (nr g l1)
 have a3:SBox w4 bw VW:=((st.boxW.far (p:=⟨g,v,none⟩) (Ne.symm e2) (.int .i64 k)).alloc (.cells #[.int .i64 (v:Int)] 3)).growth hg (nr bw l3)
 have a4:SBox w4 bm VM:=((st.boxM.far (p:=⟨g,v,none⟩) (Ne.symm e3) (.int .i64 k)).alloc (.cells #[.int .i64 (v:Int)] 3)).growth hg (nr bm l4)
 have b1:OwnI (w.setCell ⟨g,v,none⟩ (.int .i64 k)) B VW (encW W):=Rw.own_set st.ow (p:=⟨g,v,none⟩) (fun e=>by have:=(hlw g e).1;omega) (.int .i64 k)
 have b2:OwnI w4 B VW (encW W):=Rw.own_grown (Rw.owA b1 (.cells #[.int .i64 (v:Int)] 3)) hg fun h hb e2=>st.sep h hb e2.symm
 have b3:OwnI (w4.setCell ⟨bm,0,none⟩ x) B VW (encW W):=Rw.own_set b2 (p:=⟨bm,0,none⟩) (fun e=>by have:=(hlw bm e).1;omega) x
 have b4:OwnI (w4.setCell ⟨bm,0,none⟩ x) B x (encW (M ++ [v])):=Rw.own_set ho (p:=⟨bm,0,none⟩) (fun e=>by have:=(Rw.owL ho bm e).1;omega) x
 refine ⟨a4,⟨a1.far (Ne.symm (Ne.symm e5)) x,a2.far e3 x,by rw [List.length_set];exact st.len,a3.far e6 x,b3,a4.set x,b4,fun h hb hb2=>?_,st.low,st.ne,?_⟩,?_⟩
 ·rcases hx with hx | hx
  ·rw [hx] at hb2;exact st.sep h hb hb2
  ·rw [hx,hz] at hb2
   have:=(hlw h hb).2
   simp at hb2;omega
 ·have:=hg.size;rw [hz] at this;simp [World.setCell];omega
 ·refine Fr.set (p:=⟨bm,0,none⟩) ?_ (.inr (.inr (.inr rfl))) x
  refine Fr.grown ?_ hg (by rw [hz];omega) (fun h hb=>(hlm h hb).1)
  exact ((Fr.refl B g bl bw bm w).set (p:=⟨g,v,none⟩) (.inl rfl) _).alloc (by have:=st.sz;simpa [World.setCell] using this) _
theorem meet_any (w:World) {B g bl bw bm n1:Nat} {L:List Int} {VW:Value} {W:List Nat} {VM:Value} {M:List Nat} (st:LvSt w B g bl bw bm n1 L VW W VM M) {v:Nat} (hv:v<n1) (k:Int) (h64:in64 k) (hM:M.length≤1000000) :
  Calls Tryz.prog 61 #[.int .i64 (v:Int),.int .i64 k,.pointer (some ⟨bl,0,none⟩),.pointer (some ⟨bm,0,none⟩)] w fun e w'=>e=.returned (.tuple #[])∧Fr B g bl bw bm w w' ∧
   (amt L v = -1→∃ VM',LvSt w' B g bl bw bm n1 (L.set v k) VW W VM' (M ++ [v]))∧(amt L v≠-1→LvSt w' B g bl bw bm n1 L VW W VM M):=by
 have HST:=hid st
 have c0:=st.boxL.cell
 have c1:=st.row.cell (i:=v) (by rw [st.len];exact hv)
 have hvi:(v:Int)<(n1:Int):=by omega
 have hv0:(0:Int)≤(v:Int):=by omega
 by_cases c:amt L v = -1
 case neg =>
  have HC:=hid c
  have c':(amt L v == -1)=false:=by simpa using c
  clear st c
  generalize hA:amt L v=a at *
  have HA:=hid hA
  clear hA
  go_enter Tryz.func61,Tryz.ntmps61
  go_wp2
  go_end0
  exact ⟨rfl,Fr.refl _ _ _ _ _ _,fun h=>absurd h HC.out,fun _=>HST.out⟩
 rw [c] at c1
 have HC:=hid c
 have hf1:=st.row.frozen v
 obtain ⟨e1,e2,e3,e4,e5,e6⟩:=st.ne
 have cm:=(st.boxM.far (p:=⟨g,v,none⟩) (Ne.symm e3) (.int .i64 k)).cell
 have cm2:=((st.boxM.far (p:=⟨g,v,none⟩) (Ne.symm e3) (.int .i64 k)).alloc (.cells #[.int .i64 (v:Int)] 3)).cell
 have HL:=hid (show M.length+([(v:Int)]:List Int).length≤1099511627776 by simp;omega)
 have HZ:=hid (show (w.setCell ⟨g,v,none⟩ (.int .i64 k)).heap.size=w.heap.size by simp [World.setCell])
 have hlm:=Rw.owL st.om
 have HO3:=hid (Rw.owA (Rw.own_set st.om (p:=⟨g,v,none⟩) (fun e=>by have:=(hlm g e).1;have:=st.low.1;omega) (.int .i64 k)) (.cells #[.int .i64 (v:Int)] 3))
 have HR3:=hid (irow_one' (w.setCell ⟨g,v,none⟩ (.int .i64 k)) (b:=w.heap.size) HZ.out.symm (v:Int) 3)
 have HB3:=hid (show B≤((w.setCell ⟨g,v,none⟩ (.int .i64 k)).alloc (.cells #[.int .i64 (v:Int)] 3)).heap.size by have:=st.sz;simp [World.setCell];omega)
 have HMET:=hid (fun (w4:World) (x:Value) h1 h2 h3=>lvst_met (w4:=w4) (x:=x) st hv k h1 h2 h3)
 clear st c hlm e1 e2 e4 e5 e6
 obtain ⟨om,cmm,hvm,_,_,_,_,_,_⟩:=Rw.owR eIl HO3.out
 have HVM:=hid hvm
 rw [eWl] at hvm
 subst hvm
 go_enter Tryz.func61,Tryz.ntmps61
 go_wp2_with (at_builtin;refine Rw.appAt elemI eIl eIo rfl (.tmp 15) (.tmp 17) rfl B _ (encW M) rfl HO3.out ⟨w.heap.size,0,none⟩ 1 [(v:Int)] rfl HR3.out (by rw [eWl];exact HL.out) HB3.out ?_;intro v4 w4 hown4 hgr4 hat4;rw [← encW_snoc] at hown4;obtain ⟨o4,c4v,hv4,_,_,_,_⟩:=Rw.owR eIl hown4;rw [eWl,List.length_append,List.length_singleton] at hv4;subst hv4;have HEND:=hid (HMET.out w4 _ hgr4 hown4 hat4);have c4:=HEND.out.1.cell;have f4:=HEND.out.1.frozen 0;clear hown4 hgr4 hat4)
 go_end0
 exact ⟨rfl,HEND.out.2.2,fun _=>⟨_,HEND.out.2.1⟩,fun h=>absurd HC.out h⟩
theorem own_void {w:World} {B g m c:Nat} {l:List Int} (h:OwnI w B (.slice (some ⟨g,0,none⟩) m c) l):OwnI w B (.slice (some ⟨g,0,none⟩) 0 c) []:=by
 obtain ⟨h1,h2⟩:=h
 rcases h2 with ⟨hv,_⟩ | ⟨g',cap,cur,hv,hg,hh,hc,hm,hs,ht⟩
 ·simp at hv
 ·simp only [Value.slice.injEq,Option.some.injEq,Addr.mk.injEq,and_true,true_and] at hv
  obtain ⟨rfl,hml,rfl⟩:=hv
  exact ⟨by simp,.inr ⟨g,c,cur,rfl,hg,hh,by simp,hm,hs,by simp⟩⟩
theorem lvst_turn {w:World} {B g bl bw bm n1:Nat} {L:List Int} {VW:Value} {W:List Nat} {VM:Value} {M:List Nat} (st:LvSt w B g bl bw bm n1 L VW W VM M) {x:Value} (ho:OwnI w B x []) (hx:x.ownBlock=VW.ownBlock) :
  LvSt ((w.setCell ⟨bw,0,none⟩ VM).setCell ⟨bm,0,none⟩ x) B g bl bw bm n1 L VM M x []∧Fr B g bl bw bm w ((w.setCell ⟨bw,0,none⟩ VM).setCell ⟨bm,0,none⟩ x):=by
 obtain ⟨l1,l2,l3,l4⟩:=st.low
 obtain ⟨e1,e2,e3,e4,e5,e6⟩:=st.ne
 have hlm:=Rw.owL st.om
 have hlx:=Rw.owL ho
 refine ⟨⟨(st.boxL.far (p:=⟨bw,0,none⟩) e4 VM).far (p:=⟨bm,0,none⟩) e5 x,(st.row.far (p:=⟨bw,0,none⟩) e2 VM).far (p:=⟨bm,0,none⟩) e3 x,st.len,(st.boxW.set VM).far (p:=⟨bm,0,none⟩) e6 x,?_,(st.boxM.far (p:=⟨bw,0,none⟩) (Ne.symm e6) VM).set x,?_,fun h hb hb2=>?_,st.low,st.ne,?_⟩,?_⟩
 ·exact Rw.own_set (Rw.own_set st.om (p:=⟨bw,0,none⟩) (fun e=>by have:=(hlm bw e).1;omega) VM) (p:=⟨bm,0,none⟩) (fun e=>by have:=(hlm bm e).1;omega) x
 ·exact Rw.own_set (Rw.own_set ho (p:=⟨bw,0,none⟩) (fun e=>by have:=(hlx bw e).1;omega) VM) (p:=⟨bm,0,none⟩) (fun e=>by have:=(hlx bm e).1;omega) x
 ·rw [hx] at hb2;exact st.sep h hb2 hb
 ·have:=st.sz;simpa [World.setCell] using this
 ·exact ((Fr.refl B g bl bw bm w).set (p:=⟨bw,0,none⟩) (.inr (.inr (.inl rfl))) VM).set (p:=⟨bm,0,none⟩) (.inr (.inr (.inr rfl))) x
theorem lvst_drew {w:World} {B g bl bw bm n1:Nat} {L:List Int} {VW:Value} {W:List Nat} {VM:Value} {M:List Nat} (st:LvSt w B g bl bw bm n1 L VW W VM M):LvSt w.drew B g bl bw bm n1 L VW W VM M :=
 ⟨st.boxL,st.row,st.len,st.boxW,st.ow,st.boxM,st.om,st.sep,st.low,st.ne,st.sz⟩
theorem fr_drew (B g bl bw bm:Nat) (w:World):Fr B g bl bw bm w w.drew:=⟨rfl,rfl,rfl,Nat.le_refl _,fun _ _ _ _ _ _=>rfl⟩
theorem lturn_any (w:World) {B g bl bw bm n1:Nat} {L:List Int} {VW:Value} {W:List Nat} {VM:Value} {M:List Nat} (st:LvSt w B g bl bw bm n1 L VW W VM M) :
  Calls Tryz.prog 62 #[.pointer (some ⟨bm,0,none⟩),.pointer (some ⟨bw,0,none⟩)] w fun e w'=>e=.returned (.bool (decide (0<M.length)))∧Fr B g bl bw bm w w'∧∃ VM',LvSt w' B g bl bw bm n1 L VM M VM' []:=by
 have c0:=st.boxW.cell
 have c1:=st.boxM.cell
 have f0:=st.boxW.frozen 0
 have f1:=st.boxM.frozen 0
 have e6:=st.ne.2.2.2.2.2
 have HST:=hid st
 obtain ⟨ow,cw,hvw,_,_,hnw,_,_,hw0⟩:=Rw.owR eIl st.ow
 obtain ⟨om,cm,hvm,_,_,hnm,_,_,_⟩:=Rw.owR eIl st.om
 rw [eWl] at hvw hvm
 obtain ⟨mw,hmw⟩:∃ mw,mw=W.length:=⟨_,rfl⟩
 obtain ⟨mm,hmm⟩:∃ mm,mm=M.length:=⟨_,rfl⟩
 rw [← hmw] at hvw
 rw [← hmm] at hvm ⊢
 clear hmm hmw
 have hmm0:(0:Int)≤(mm:Int):=by omega
 subst hvw
 subst hvm
 rcases ow with _ | a
 ·obtain rfl:=hnw rfl
  have HEND:=hid (lvst_turn (lvst_drew st) (x:=.slice none 0 0) (Rw.owN _ _) rfl)
  clear st
  go_enter Tryz.func62,Tryz.ntmps62
  go_wp2
  go_region
  all_goals (try go_wp2)
  all_goals go_ret
  all_goals exact ⟨rfl,(fr_drew _ _ _ _ _ _).trans HEND.out.2,_,HEND.out.1⟩
 ·obtain ⟨b,rfl⟩:=hw0 a rfl
  have HEND:=hid (lvst_turn (lvst_drew st) (x:=.slice (some ⟨b,0,none⟩) 0 cw) (own_void (lvst_drew st).ow) rfl)
  clear st
  go_enter Tryz.func62,Tryz.ntmps62
  go_wp2
  go_region
  all_goals (try go_wp2)
  all_goals go_ret
  all_goals exact ⟨rfl,(fr_drew _ _ _ _ _ _).trans HEND.out.2,_,HEND.out.1⟩
end Ne
namespace Ne
theorem maskN (a:Nat) (ha:a<18446744073709551616):bits .and .u64 (a:Int) 4294967295=((a % 4294967296:Nat):Int):=by
 have h:=bits_and_u64_nat a 4294967295 ha (by omega)
 have e:a &&& 4294967295=a % 4294967296:=Nat.and_two_pow_sub_one_eq_mod a 32
 rw [e] at h
 exact h
theorem divN (a:Nat):(a:Int) / 4294967296=((a / 4294967296:Nat):Int):=by omega
theorem mulN (a b:Nat):(a:Int)*(b:Int)=((a*b:Nat):Int):=(Int.natCast_mul a b).symm
theorem plusN (a b:Nat):(a:Int)+(b:Int)=((a+b:Nat):Int):=(Int.natCast_add a b).symm
theorem wrapN (a:Nat) (ha:a<18446744073709551616):IntKind.u64.wrap (a:Int)=(a:Int):=by rw [IntKind.wrap_u64];omega
theorem wrapM (a:Nat):IntKind.u64.wrap (a:Int)=((a % 18446744073709551616:Nat):Int):=by rw [IntKind.wrap_u64];omega
def hiW (x y:Nat):Int:=((x*y / 18446744073709551616:Nat):Int)
def loW (x y:Nat):Int:=((x*y % 18446744073709551616:Nat):Int)
theorem mul64_any (x y:Nat) (w:World) (hx:x<18446744073709551616) (hy:y<18446744073709551616) :
  Calls Tryz.prog 72 #[.int .u64 x,.int .u64 y] w fun e w'=>e=.returned (.tuple #[.int .u64 (hiW x y),.int .u64 (loW x y)])∧w=w':=by
 obtain ⟨bd,bt,bw,hhi⟩:=Lib.mul64_hi x y hx hy
 have ba:=Lib.half_mul_le (a:=x / 4294967296) (b:=y / 4294967296) (by omega) (by omega)
 have bb:=Lib.half_mul_le (a:=x / 4294967296) (b:=y % 4294967296) (by omega) (by omega)
 have bc:=Lib.half_mul_le (a:=x % 4294967296) (b:=y / 4294967296) (by omega) (by omega)
 have ba':x / 4294967296*(y / 4294967296)<18446744073709551616:=by omega
 have bb':x / 4294967296*(y % 4294967296)<18446744073709551616:=by omega
 have bc':x % 4294967296*(y / 4294967296)<18446744073709551616:=by omega
 have bh1:x / 4294967296*(y / 4294967296)+(x / 4294967296*(y % 4294967296)+x % 4294967296*(y % 4294967296) / 4294967296) / 4294967296<18446744073709551616:=by omega
 have bh:x / 4294967296*(y / 4294967296)+(x / 4294967296*(y % 4294967296)+x % 4294967296*(y % 4294967296) / 4294967296) / 4294967296+((x / 4294967296*(y % 4294967296)+x % 4294967296*(y % 4294967296) / 4294967296) % 4294967296+x % 4294967296*(y / 4294967296)) / 4294967296<18446744073709551616:=by omega
 go_enter Tryz.func72,Tryz.ntmps72
 go_wp2
 simp only [maskN x hx,maskN y hy,divN,mulN,plusN,wrapN _ bd,wrapN _ bb',wrapN _ bt,maskN _ bt,wrapN _ bc',wrapN _ bw,wrapN _ ba',wrapN _ bh1,wrapN _ bh,wrapM (x*y)]
 rw [hhi]
 go_ret2
 exact ⟨rfl,rfl⟩
theorem mul1_any (m:Nat) (w:World) (hm:m≤1000000):Calls Tryz.prog 67 #[.int .u64 1,.int .u64 (m:Int)] w fun e w'=>e=.returned (.tuple #[.int .u64 0,.int .u64 (m:Int)])∧w=w':=by
 have h:=mul64_any 1 m w (by omega) (by omega)
 rw [show hiW 1 m=0 by unfold hiW;omega,show loW 1 m=(m:Int) by unfold loW;omega] at h
 have H:=hid h
 clear h
 go_enter Tryz.func67,Tryz.ntmps67
 go_wp2_with fail
 refine H.out.mono ?_
 rintro e w' ⟨rfl,rfl⟩
 go_wp2
 go_ret2
 exact ⟨rfl,rfl⟩
theorem stepCopy {P:Program} {ops:Array Oper} {o:Oper} {a:Act} {w:World} {K:Act→World→Prop} {Q:Exit→Act→World→Prop} {E':Prop} (hgd:o.guard=none) (d s:Operand) (dT sT:TypeId)
  (ho:o.op=.call { callee:=.builtin .copy,args:=#[d,s],argTypes:=#[dT,sT] }) (elem:TypeId) (hu:P.underlying dT=some (.slice elem)) (hsz:(P.info? elem).map (·.size)=some 1)
  (dp sp:Option Addr) (dLen dCap sLen sCap:Nat) (hd:a.eval d=.slice dp dLen dCap) (hs:a.eval s=.slice sp sLen sCap)
  (g off:Nat) (cur:List Value) (t:TypeId) (hg:w.heap[g]? = some (.cells cur.toArray t (0,0))) (cs:List Value) (hn:cs.length=Nat.min sLen dLen)
  (hpos:0<cs.length→dp=some ⟨g,off,none⟩∧∃ ad,sp=some ad∧∀ j v,cs[j]? = some v→w.cell? (ad.add j)=some v)
  (hfit:off+cs.length≤cur.length) (h1:∀ v∈cs,v.oneCell' = true) (B:Nat) (w0:World) (hb:Below B w0 w) (hBg:B≤g) (k:Nat) (hk:cs.length=k) (dst:Option Tmp) (hdst:o.dst=dst)
  (h:∀ w',Hid (w'.heap[g]? = some (.cells (splice cur off cs).toArray t (0,0)))→Below B w0 w'→K (a.put dst (.int .i64 (k:Int))) w') :
  if Region.wanted o (yielded ops a.tmps)=true then Oper.wp P o a w K Q else E':=by
 subst hk;subst hdst
 exact step_copy_splice hgd d s dT sT ho elem hu hsz dp sp dLen dCap sLen sCap hd hs g off cur t hg cs hn hpos hfit h1 B w0 hb hBg h
theorem repeat_any (b:Nat) (a:Int) (m:Nat) (w:World) (hm0:1≤m) (hm:m≤1000000) (h0:w.cell? ⟨b,0,none⟩=some (.int .i64 a)) :
  Calls Tryz.prog 59 #[.slice (some ⟨b,0,none⟩) 1 1,.int .i64 (m:Int)] w fun e w'=>∃ g,e=.returned (.slice (some ⟨g,0,none⟩) m m)∧IBox w' g (List.replicate m a)∧w.heap.size≤g∧Below w.heap.size w w':=by
 have MU:=hid (fun w'=>mul1_any m w' hm)
 have hmk:=make_i m hm
 have HM0:=hid (ibox_made w m rfl)
 have HBM:=hid ((Below.refl w.heap.size w).alloc (Nat.le_refl _) (.cells (madeCells #[.int .i64 0] m) 3))
 have HC0:=hid ((HBM.out.cell (p:=⟨b,0,none⟩) (World.block_lt_of_cell? w _ h0)).trans h0)
 have HZL:=hid (repL_zero m a)
 have HAL:=hid (repL_all m a)
 have HLEN:=hid (fun c (h:c≤m)=>repL_len (m:=m) (c:=c) a h)
 have HPUT:=hid (fun c k (h:c+k≤m)=>repL_put (m:=m) (c:=c) (k:=k) a h)
 have HATL:=hid (fun c j (h:j<c)=>repL_at (m:=m) (c:=c) (j:=j) a h)
 generalize (fun c=>repL m c a)=RLf at *
 obtain ⟨RL,hRL⟩:∃ RL:Nat→List Int,RL=fun c=>repL m c a:=⟨_,rfl⟩
 have HRE:=hid (show ∀ c,repL m c a=RL c from fun c=>by rw [hRL])
 clear hRL
 simp only [HRE.out] at HZL HAL HLEN HPUT HATL
 clear HRE
 rw [← HAL.out]
 obtain ⟨CS,hCS⟩:∃ CS:Nat→List Value,CS=fun k=>(List.replicate k a).map (Value.int .i64):=⟨_,rfl⟩
 have HCL:=hid (show ∀ k,(CS k).length=k from fun k=>by rw [hCS];simp)
 have HCA:=hid (show ∀ k j v,(CS k)[j]? = some v→v=.int .i64 a∧j<k from fun k j v h=>by
  rw [hCS] at h;simp [List.getElem?_replicate] at h;exact ⟨h.2.symm,h.1⟩)
 have HC1:=hid (show ∀ k,∀ v∈CS k,v.oneCell' = true from fun k v h=>by
  rw [hCS] at h;simp at h;rw [h.2];rfl)
 have HCE:=hid (show ∀ k,(List.replicate k a).map (Value.int .i64)=CS k from fun k=>by rw [hCS])
 clear hCS
 simp only [HCE.out] at HPUT
 clear HCE
 have hmi:(m:Int)≤1000000:=by omega
 have hmi1:(1:Int)≤(m:Int):=by omega
 have hmi0:(0:Int)≤(m:Int):=by omega
 clear h0
 go_enter Tryz.func59,Tryz.ntmps59
 go_wp2_with fail
 refine (MU.out _).mono ?_
 rintro e w' ⟨rfl,rfl⟩
 have HMA:=hid (show IBox (w.alloc (.cells (madeCells #[.int .i64 0] m) 3)) w.heap.size (RL 0) by rw [HZL.out];exact HM0.out)
 have HN1:=hid (show (CS 1).length=Nat.min 1 m by rw [HCL.out];simp [Nat.min_def];omega)
 have HF1:=hid (show 0+(CS 1).length≤((RL 0).map (Value.int .i64)).length by rw [HCL.out,List.length_map,HLEN.out 0 (by omega)];omega)
 have HP1:=hid (HPUT.out 0 1 (by omega))
 have HS1:=hid (show ∀ j v,(CS 1)[j]? = some v→(w.alloc (.cells (madeCells #[.int .i64 0] m) 3)).cell? ((⟨b,0,none⟩:Addr).add j)=some v from fun j v hj=>by
  obtain ⟨h1,h2⟩:=HCA.out 1 j v hj
  obtain rfl:j=0:=by omega
  rw [h1]
  exact HC0.out)
 clear MU HM0
 go_wp2_with (refine wpList_copy_splice rfl (.tmp 31) (.tmp 32) 53 53 rfl 3 (by kernel_rfl) (by kernel_rfl) _ _ _ _ _ _ rfl rfl w.heap.size 0 ((RL 0).map (Value.int .i64)) 3 HMA.out.list (CS 1) HN1.out (fun _=>⟨rfl,⟨b,0,none⟩,rfl,HS1.out⟩) HF1.out (HC1.out 1) w.heap.size w HBM.out (Nat.le_refl _) ?_;intro w2 hg2 hb2;have HM2:=hid (show IBox w2 w.heap.size (RL 1) from IBox.of_list (by have:=hg2.out;rwa [HP1.out] at this));have HB2:=hid hb2;clear hg2 hb2;rw [HCL.out])
 clear hmk
 go_loopw [8] (fun i wr=>∃ c:Nat,i=.int .i64 c∧1≤c∧c≤m∧Hid (IBox wr w.heap.size (RL c))∧Hid (Below w.heap.size w wr)) (fun i _=>m-(intOf i).toNat)
 case atStart=>exact ⟨1,rfl,Nat.le_refl _,hm0,HM2,HB2⟩
 case round =>
  obtain ⟨c,rfl,hc1,hcm,HMW,HBW⟩:=hrel
  have hci0:(0:Int)≤(c:Int):=by omega
  by_cases hlt:c<m
  ·have hci:(c:Int)<(m:Int):=by omega
   have hcil:(c:Int)≤(m:Int):=by omega
   have hne:¬ m=c:=by omega
   obtain ⟨k,hk⟩:∃ k,k=Nat.min c (m-c):=⟨_,rfl⟩
   have hk1:1≤k∧c+k≤m∧k≤c:=by rw [hk];simp only [Nat.min_def];split <;> omega
   have HN:=hid (show (CS k).length=Nat.min c (m-c) by rw [HCL.out,hk])
   have HPK:=hid (HPUT.out c k hk1.2.1)
   have HFIT:=hid (show c+(CS k).length≤((RL c).map (Value.int .i64)).length by rw [HCL.out,List.length_map,HLEN.out c hcm];omega)
   have HMD:=hid (show IBox wr.drew w.heap.size (RL c) from HMW.out)
   have HBD:=hid (bDr HBW.out)
   have HSRC:=hid (show ∀ j v,(CS k)[j]? = some v→wr.drew.cell? ((⟨w.heap.size,0,none⟩:Addr).add j)=some v from fun j v hj=>by
    obtain ⟨h1,h2⟩:=HCA.out k j v hj
    rw [h1,Rw.add_at,Nat.zero_add]
    have h3:=HMD.out.cell (i:=j) (by rw [HLEN.out c hcm];omega)
    rwa [amt_of (HATL.out c j (by omega))] at h3)
   have hwr:IntKind.i64.wrap ((c:Int)+(k:Int))=((c+k:Nat):Int):=by rw [IntKind.wrap_i64];omega
   clear hk
   go_wp2
   go_upto_region 9 with fail
   refine Rh.start (S:=(fun _=>True)) (by kernel_rfl) ?_
   refine Rh.tp 38 0 trivial ?_
   refine Rh.tp 39 1 trivial ?_
   refine Rh.tp 40 2 trivial ?_
   refine Rh.tp 41 3 trivial ?_
   refine Rh.tp 42 4 trivial ?_
   refine Rh.tp 43 5 trivial ?_
   refine Rh.tp 44 6 trivial ?_
   refine Rh.step (i:=7) (by kernel_rfl) rfl fun K' hK'=>?_
   refine stepCopy rfl (.tmp 41) (.tmp 44) 53 53 rfl 3 (by kernel_rfl) (by kernel_rfl) _ _ _ _ _ _ rfl rfl w.heap.size c ((RL c).map (Value.int .i64)) 3 HMD.out.list (CS k) HN.out (fun _=>⟨rfl,⟨w.heap.size,0,none⟩,rfl,HSRC.out⟩) HFIT.out (HC1.out k) w.heap.size w HBD.out (Nat.le_refl _) k (HCL.out k) (some 45) rfl ?_
   intro w2 hg2 hb2
   have HM2:=hid (show IBox w2 w.heap.size (RL (c+k)) from IBox.of_list (by have:=hg2.out;rwa [HPK.out] at this))
   have HB2:=hid hb2
   clear hg2 hb2
   refine hK' _ _ ⟨trivial,?_⟩
   clear hK' K'
   try simp only [Act.put,Rh.q1,Rh.q2,Rh.q3]
   refine Rh.tp 46 8 trivial ?_
   refine Rh.tp 8 9 trivial ?_
   refine Rh.done (by kernel_rfl) ?_ _
   go_wp2
   go_roundw
   case rel=>exact ⟨c+k,rfl,by omega,by omega,HM2,HB2⟩
   case measure=>simp [intOf];omega
  ·have ec:c=m:=by omega
   subst ec
   clear hlt
   go_wp2
   go_ret
   exact ⟨w.heap.size,rfl,HMW.out,Nat.le_refl _,HBW.out⟩
end Ne
end Go.Proofs.YtoadkckceladgaaGreat
