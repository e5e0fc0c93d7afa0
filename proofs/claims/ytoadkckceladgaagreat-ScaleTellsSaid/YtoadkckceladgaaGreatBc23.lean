/-
  Tsr, Tss, Tst
-/
import Derived.Test.YtoadkckceladgaaGreatBc22
import Derived.Test.YtoadkckceladgaaGreatBc7
import Derived.RegionTactic
import Derived.Deep.QuietTactic
import Derived.BigQuiet
import Derived.BigRegion
import Derived.Deep.DeepCutAuto
import Derived.Deep.LoopGhost
import Derived.Test.YtoadkckceladgaaGreatBc8
set_option linter.unusedVariables false
set_option linter.unusedSimpArgs false
set_option maxRecDepth 100000
set_option maxHeartbeats 4000000
namespace Go.Proofs.YtoadkckceladgaaGreat
open Go.ChangeShapes Go.WideShapes Go.ChangeAt Go.RowKit
open Lib (hid)
namespace Ne
open Sp (Off Ext)
open Fo (Ft FoO fc)
def HangI (n:Net) (ao:Option Addr) (cap:Nat) (x:Int) (w0 w1:World) (sb lb ab pb cb p:Nat) (rv:Value) (lo hi B b1:Nat) (VA:Nat→Value) (TL:List Nat) (w':World) (RL:List Int) (S:List Bool) (v k c0 m H:Nat) (g:List Int) (f:Ft) (flo fhi:Nat):Prop :=
 ∃ VS U c,TsM n ao cap x w0 w1 sb lb ab pb cb p rv lo hi B b1 VA TL w' RL VS U S c f flo fhi∧Tre n TL g x U f RL S∧(U v).length=k∧c0≤c∧fhi+c+(fc m+1)*psi n TL g x U f S (aheadN n TL)≤H
def HangR (n:Net) (ao:Option Addr) (cap:Nat) (x:Int) (w0 w1:World) (sb lb ab pb cb p:Nat) (rv:Value) (lo hi B b1:Nat) (VA:Nat→Value) (TL:List Nat) (w':World) (RL:List Int) (S:List Bool) (v c0 m H:Nat) (g:List Int) (f:Ft) (flo fhi:Nat) (b:Bool):Prop :=
 match b with
 | false=>∃ VS U c,TsM n ao cap x w0 w1 sb lb ab pb cb p rv lo hi B b1 VA TL w' RL VS U S c f flo fhi∧Tre n TL g x U f RL S∧U v=[]∧c0≤c∧fhi+c+(fc m+1)*psi n TL g x U f S (aheadN n TL)≤H
 | true=>∃ VS U c f2 flo2 fhi2,TsM n ao cap x w0 w1 sb lb ab pb cb p rv lo hi B b1 VA TL w' RL VS U S c f2 flo2 fhi2∧Tre n TL g x U f2 RL S∧f2.v.length=m∧(∀ y u,f2.up y=some u→S.getD u false=false)∧c0≤c∧fhi2+c+(fc m+1)*psi n TL g x U f2 S (aheadN n TL)+(fc m+1)≤H
section
variable {n:Net} {ao:Option Addr} {cap:Nat} {x:Int} {w0 w1:World} {sb lb ab pb cb p:Nat} {rv:Value} {lo hi B b1:Nat} {VA:Nat→Value} {TL:List Nat}
variable {w w2:World} {RL:List Int} {VS:Nat→Value} {U:Nat→List Nat} {S:List Bool} {c:Nat} {f f2:Ft} {flo fhi flo2 fhi2:Nat} {m H:Nat} {g:List Int} {L:List Int} {A:Nat→Nat}
theorem hang_round (hR:Right n) (hL:Lds n.l L TL) (hF:Okf n g) {v k c0:Nat} (hv:v<n.n.toNat+1) (hvt:v≠n.t.toNat) (hup:f.up v=none) (hK:∀ y u,f.up y=some u→S.getD u false=false) (hm:f.v.length=m) (hH2:H≤4611686018427387904) (h:HangI n ao cap x w0 w1 sb lb ab pb cb p rv lo hi B b1 VA TL w RL S v k c0 m H g f flo fhi) :
  (k=0∧HangR n ao cap x w0 w1 sb lb ab pb cb p rv lo hi B b1 VA TL w RL S v c0 m H g f flo fhi false∧∃ VS U c o rc,TsM n ao cap x w0 w1 sb lb ab pb cb p rv lo hi B b1 VA TL w RL VS U S c f flo fhi∧w.cell? ⟨lb,v,none⟩=some (.slice o 0 rc)) ∨
  (∃ VS U c r b off rc t,TsM n ao cap x w0 w1 sb lb ab pb cb p rv lo hi B b1 VA TL w RL VS U S c f flo fhi∧w.cell? ⟨lb,v,none⟩=some (.slice (some ⟨b,off,none⟩) k rc)∧0<k∧k≤rc∧rc≤maxLen∧r<2*n.l.length∧t=(trT n.l r).toNat∧t<n.n.toNat+1∧0≤amt RL r∧amt RL r≤4611686018427387903∧c≤4611686018427387904∧r<RL.length∧lo≤b∧b<hi ∧
   (∀ w' c',TsM n ao cap x w0 w1 sb lb ab pb cb p rv lo hi B b1 VA TL w' RL VS U S c' f flo fhi→w'.cell? ⟨lb,v,none⟩=some (.slice (some ⟨b,off,none⟩) k rc)∧w'.frozen? ⟨lb,v,none⟩=false∧w'.cell? ⟨b,off,none⟩=some (.int .i64 (r:Int))∧w'.cell? ⟨pb,t,none⟩=some (.bool (S.getD t false))) ∧
   (x≤amt RL r→S.getD t false=false→∀ w',TsM n ao cap x w0 w1 sb lb ab pb cb p rv lo hi B b1 VA TL w' RL VS U S (c+1) f flo fhi→Calls Tryz.prog 121 #[.pointer (some ⟨p,0,none⟩),.int .i64 (v:Int),.int .i64 (amt RL r-4611686018427387904)] w' fun e w3=>∃ z,e=.returned (.int .i64 z)∧(∃ f2 flo2 fhi2,TsM n ao cap x w0 w1 sb lb ab pb cb p rv lo hi B b1 VA TL w3 RL VS U S (c+1) f2 flo2 fhi2) ∧
    Calls Tryz.prog 122 #[.pointer (some ⟨p,0,none⟩),.int .i64 (v:Int),.int .i64 (t:Int)] w3 fun e w4=>∃ z,e=.returned (.int .i64 z)∧HangR n ao cap x w0 w1 sb lb ab pb cb p rv lo hi B b1 VA TL w4 RL S v c0 m H g f flo fhi true) ∧
   (¬ (x≤amt RL r∧S.getD t false=false)→∀ w',TsM n ao cap x w0 w1 sb lb ab pb cb p rv lo hi B b1 VA TL w' RL VS U S (c+1) f flo fhi→∀ a,(k=1∨a=some ⟨b,off+1,none⟩)→HangI n ao cap x w0 w1 sb lb ab pb cb p rv lo hi B b1 VA TL (w'.setCell ⟨lb,v,none⟩ (.slice a (k-1) (rc-1))) RL S v (k-1) c0 m H g f flo fhi)):=by
 obtain ⟨VS,U,c,M,T,hk,hc0,hc⟩:=h
 cases hU:U v with
 | nil =>
  left
  rw [hU] at hk
  obtain ⟨e1,o,rc,e2⟩:=M.nil hv hU
  exact ⟨hk.symm,⟨VS,U,c,M,T,hU,hc0,hc⟩,VS,U,c,o,rc,M,by rw [e1,e2]⟩
 | cons r T' =>
  right
  rw [hU,List.length_cons] at hk
  obtain ⟨e1,e2,b,off,rc,e3,e4,e5,e6,e7,e8,e9⟩:=M.head hv hU
  obtain ⟨h1,h2⟩:=T.srch.sub v hv r (by rw [hU];simp)
  have hr:=hL.lt r h1
  have b2:=tTb hR hr
  have hrl:r<RL.length:=by rw [T.rlen];exact hr
  obtain ⟨g1,g2,g3,g4⟩:=tre_hang hR hL hF.wi T hv hvt hup hU
  obtain ⟨n1,n2⟩:=Tre.rnn hR hL hF.wi r h1
  rw [← g1] at n1 n2
  have hdrop:=fun hx=>tre_drop hR hL T hv hup hU hx
  have hpd:=cost_le (C:=fc m+1) (psi_drop (A:=aheadN n TL) T hv hup hU)
  have hcf:(trT n.l r)=(((trT n.l r).toNat:Nat):Int):=by omega
  obtain ⟨t,ht⟩:∃ t,t=(trT n.l r).toNat:=⟨_,rfl⟩
  rw [← ht] at hcf g2 g4 hdrop
  rw [hcf] at g3 g4
  rw [e3] at e1 e9
  refine ⟨VS,U,c,r,b,off,rc,t,M,by rw [e1,hk],by omega,by omega,e5,hr,ht,g2,n1,n2,by omega,hrl,e6,e7,fun w' c' M'=>?_,fun hx hs w' M'=>?_,fun hx w' M' a ha=>?_⟩
  ·obtain ⟨k1,k2,b',off',rc',k3,k4,k5,k6,k7,k8,_⟩:=M'.head hv hU
   rw [e3] at k3
   simp only [Value.slice.injEq,Option.some.injEq,Addr.mk.injEq,and_true,true_and] at k3
   obtain ⟨⟨rfl,rfl⟩,rfl⟩:=k3
   exact ⟨by rw [k1,e3,hk],k2,k8,(M'.marks T.slen g2).1⟩
  ·have hph:=cost_le (C:=fc m+1) (psi_hang (A:=aheadN n TL) (TL:=TL) (n:=n) (g:=g) (x:=x) (S:=S) hv hup hU (by rw [← g1];exact hx) (by rw [← ht];exact hs) g4)
   refine (M'.add hm (v:Int) (amt RL r-4611686018427387904) (by omega)).mono ?_
   rintro e w3 ⟨rfl,flo3,M3⟩
   refine ⟨_,rfl,⟨_,_,_,M3⟩,(M3.link (m:=m) (by rw [addSF_len];exact hm) (v:Int) (t:Int)).mono ?_⟩
   rintro e w4 ⟨rfl,flo4,M4⟩
   refine ⟨_,rfl,VS,U,c+1,_,flo4,_,M4,g3,?_,fun y u hy=>?_,by omega,by omega⟩
   ·rw [g3.len,← T.len,hm]
   ·rw [g4] at hy
    split at hy
    ·cases hy;exact hs
    ·exact hK y u hy
  ·have hT:=hdrop hx
   have hrow:RowOf w' lo hi (.slice a (k-1) (rc-1)) T':=by
    have hh:=M'.rows.each v hv
    rw [hU] at hh
    obtain ⟨A',c',q1,q2,q3,q4⟩:=hh
    rw [e3] at q1
    simp only [Value.slice.injEq] at q1
    obtain ⟨q5,q6,q7⟩:=q1
    rcases q4 with q4 | ⟨b',off',q8,q9,q10,q11⟩
    ·cases q4
    ·rw [← q5] at q8
     simp only [Option.some.injEq,Addr.mk.injEq,and_true] at q8
     obtain ⟨rfl,rfl⟩:=q8
     refine ⟨a,rc-1,by congr 1;omega,by omega,by omega,?_⟩
     rcases ha with ha | ha
     ·left
      rw [ha] at hk
      exact List.eq_nil_of_length_eq_zero (by omega)
     ·right
      refine ⟨b,off+1,ha,q9,q10,fun i hil=>?_⟩
      rw [show off+1+i=off+(i+1) by omega,q11 (i+1) (by simp;omega)]
      simp [List.getD]
   refine ⟨_,_,c+1,M'.put hv hrow,hT,?_,by omega,by omega⟩
   simp only [if_true]
   omega
set_option maxHeartbeats 8000000 in
theorem hang_any (M:TsM n ao cap x w0 w1 sb lb ab pb cb p rv lo hi B b1 VA TL w RL VS U S c f flo fhi) (T:Tre n TL g x U f RL S) (hR:Right n) (hL:Lds n.l L TL) (hF:Okf n g) {v:Nat} (hv:v<n.n.toNat+1) (hvt:v≠n.t.toNat) (hup:f.up v=none) (hK:∀ y u,f.up y=some u→S.getD u false=false) (hm:f.v.length=m) (hH:fhi+c+(fc m+1)*psi n TL g x U f S (aheadN n TL)≤H) (hH2:H≤4611686018427387904) :
  Calls Tryz.prog 112 #[.pointer (some ⟨sb,0,none⟩),.int .i64 (v:Int)] w fun e w'=>∃ b,e=.returned (.bool b)∧HangR n ao cap x w0 w1 sb lb ab pb cb p rv lo hi B b1 VA TL w' RL S v c m H g f flo fhi b:=by
 have HI0:=hid (show HangI n ao cap x w0 w1 sb lb ab pb cb p rv lo hi B b1 VA TL w RL S v (U v).length c m H g f flo fhi from ⟨VS,U,c,M,T,rfl,Nat.le_refl _,hH⟩)
 have HRD:=hid (fun w' k (h:HangI n ao cap x w0 w1 sb lb ab pb cb p rv lo hi B b1 VA TL w' RL S v k c m H g f flo fhi)=>hang_round hR hL hF hv hvt hup hK hm hH2 h)
 have HD:=hid (fun w' VS U c f' flo fhi (h:TsM n ao cap x w0 w1 sb lb ab pb cb p rv lo hi B b1 VA TL w' RL VS U S c f' flo fhi)=>h.tc)
 have HMORE:=hid (fun w' VS U c (h:TsM n ao cap x w0 w1 sb lb ab pb cb p rv lo hi B b1 VA TL w' RL VS U S c f flo fhi) hc=>more_any h hc)
 have HEN:=hid (show ∀ w' r,ARow w' ao n.l→r<2*n.l.length→Calls Tryz.prog 68 #[.agg #[.int .i64 n.n,.int .i64 n.s,.int .i64 n.t,.slice ao n.l.length cap],.int .i64 (r:Int)] w' fun e w2=>∃ q:Int,e=.returned (.tuple #[.int .i64 q,.int .i64 (((trT n.l r).toNat:Nat):Int)])∧Below w'.heap.size w' w2 from fun w' r h1 h2=>by
  refine (ends_nat n ao cap r w' hR h1 h2).mono ?_
  rintro e w2 ⟨rfl,hb⟩
  exact ⟨_,rfl,hb⟩)
 have hvi:(v:Int)<(n.n.toNat:Int)+1:=by omega
 have hv0:(0:Int)≤(v:Int):=by omega
 clear M T hR hL hF hv hvt hup hK hm hH hH2
 generalize hKK:(U v).length=K at *
 clear hKK
 go_enter Tryz.func112,Tryz.ntmps112
 go_wp2
 go_loopg [5,6,7] K (fun k s5 s6 s7 wr=>(∃ z,s5=z)∧(∃ z,s6=z)∧(∃ z,s7=z)∧∃ kk,kk=k∧Hid (HangI n ao cap x w0 w1 sb lb ab pb cb p rv lo hi B b1 VA TL wr RL S v kk c m H g f flo fhi))
 case atStart=>exact ⟨⟨_,rfl⟩,⟨_,rfl⟩,⟨_,rfl⟩,_,rfl,HI0⟩
 case round =>
  obtain ⟨⟨z5,rfl⟩,⟨z6,rfl⟩,⟨z7,rfl⟩,k,rfl,HI⟩:=hrel
  rcases HRD.out _ _ HI.out with ⟨rfl,hE,VS1,U1,c1,o,rc,M1,u0⟩ | ⟨VS1,U1,c1,r,b,off,rc,t,M1,u0,hk0,hkr,hrm,hr,ht,htn,hn1,hn2,hc1,hrl,hb1,hb2,hcell,hhang,hdrop⟩
  ·obtain ⟨k0,k1,k2,k3,k4,k5,k6,k7,k8,k9,k10⟩:=HD.out _ _ _ _ _ _ _ M1
   have HE:=hid hE
   clear hE M1
   go_wp2
   go_ret
   exact ⟨false,rfl,HE.out⟩
  ·obtain ⟨k0,k1,k2,k3,k4,k5,k6,k7,k8,k9,k10⟩:=HD.out _ _ _ _ _ _ _ M1
   have HMO:=hid (HMORE.out _ _ _ _ M1 hc1)
   have HCELL:=hid hcell
   have HHANG:=hid hhang
   have HDROP:=hid hdrop
   have HT:=hid ht
   have hki:(0:Int)<(k:Int):=by omega
   clear hcell hhang hdrop M1 hc1 ht
   go_wp2_with fail
   refine HMO.out.mono ?_
   rintro e w3 ⟨rfl,M3⟩
   clear k0 k1 k2 k3 k4 k5 k6 k7 k8 k9 k10 u0
   obtain ⟨k0,k1,k2,k3,k4,k5,k6,k7,k8,k9,k10⟩:=HD.out _ _ _ _ _ _ _ M3
   obtain ⟨u0,u1,u2,u3⟩:=HCELL.out _ _ M3
   have HM3:=hid M3
   have HE3:=hid (HEN.out _ r M3.row hr)
   rw [← HT.out] at HE3
   clear M3
   go_wp2_with fail
   refine HE3.out.mono ?_
   rintro e w4 ⟨q,rfl,hb⟩
   have M4:=HM3.out.grow hb
   clear k0 k1 k2 k3 k4 k5 k6 k7 k8 k9 k10 u0 u1 u2 u3 hb
   obtain ⟨k0,k1,k2,k3,k4,k5,k6,k7,k8,k9,k10⟩:=HD.out _ _ _ _ _ _ _ M4
   obtain ⟨u0,u1,u2,u3⟩:=HCELL.out _ _ M4
   obtain ⟨g0,rc0,hrv,hgl,r0,r1,_⟩:=M4.note hrl
   have HM4:=hid M4
   clear M4
   subst hrv
   have hri:(r:Int)<(RL.length:Int):=by omega
   have hr0:(0:Int)≤(r:Int):=by omega
   have hti:(t:Int)<(n.n.toNat:Int)+1:=by omega
   have ht0:(0:Int)≤(t:Int):=by omega
   have hw1:IntKind.i64.wrap (amt RL r-4611686018427387904)=amt RL r-4611686018427387904:=by rw [IntKind.wrap_i64];omega
   generalize hst:S.getD t false=st at *
   generalize amt RL r=X at *
   obtain ⟨cnd,hcnd⟩:∃ cnd:Bool,cnd=(decide (x≤X) && !st):=⟨_,rfl⟩
   have HCND:=hid hcnd
   clear hcnd
   go_upto_region 5 with fail
   go_cut [61] (fun s wc=>s=.bool cnd∧Hid (TsM n ao cap x w0 w1 sb lb ab pb cb p (.slice (some ⟨g0,0,none⟩) RL.length rc0) lo hi B b1 VA TL wc RL VS1 U1 S (c1+1) f flo fhi)∧wc.cell? ⟨g0,r,none⟩=some (.int .i64 X))
   case first =>
    by_cases cx:x≤X
    ·have hle:decide (x≤X)=true:=by simpa using cx
     rcases st with _ | _
     ·obtain rfl:cnd=true:=by rw [HCND.out,hle];rfl
      go_quiet (fail)
      go_wp2
      go_meet
      case rel=>exact ⟨rfl,hid (HM4.out.grow (bDn (Below.refl _ _) _)),r0⟩
     ·obtain rfl:cnd=false:=by rw [HCND.out,hle];rfl
      go_quiet (fail)
      go_wp2
      go_meet
      case rel=>exact ⟨rfl,hid (HM4.out.grow (bDn (Below.refl _ _) _)),r0⟩
    ·have hle:decide (x≤X)=false:=by simpa using cx
     obtain rfl:cnd=false:=by rw [HCND.out,hle];rfl
     go_quiet (fail)
     go_wp2
     go_meet
     case rel=>exact ⟨rfl,hid (HM4.out.grow (bDn (Below.refl _ _) _)),r0⟩
   case rest =>
    obtain ⟨rfl,HM5,r5⟩:=hcut
    clear k0 k1 k2 k3 k4 k5 k6 k7 k8 k9 k10 u0 u1 u2 u3 r0 r1 HM4
    obtain ⟨k0,k1,k2,k3,k4,k5,k6,k7,k8,k9,k10⟩:=HD.out _ _ _ _ _ _ _ HM5.out
    obtain ⟨u0,u1,u2,u3⟩:=HCELL.out _ _ HM5.out
    cases cnd
    ·clear HHANG
     have HDR:=hid (HDROP.out (fun h=>by
      obtain ⟨h1,h2⟩:=h
      have h3:=HCND.out
      rw [h2] at h3
      simp [h1] at h3) _ (HM5.out.grow (bDr (Below.refl _ _))))
     clear HDROP HM5
     have hk1:1≤k:=hk0
     have hk1i:(1:Int)≤(k:Int):=by omega
     have hrc1:k≤rc:=hkr
     by_cases hr1:rc=1
     ·have hkk:k=1:=by omega
      subst hr1
      subst hkk
      have HD3:=hid (HDR.out (some ⟨b,off,none⟩) (.inl rfl))
      clear HDR hk1 hk1i hrc1 hk0 hkr hki
      go_wp2
      go_region
      go_wp2
      go_roundg 0
      case measure=>omega
      case rel=>exact ⟨⟨_,rfl⟩,⟨_,rfl⟩,⟨_,rfl⟩,_,rfl,hid HD3.out⟩
     ·have HDR2:=hid (HDR.out (some ⟨b,off+1,none⟩) (.inr rfl))
      clear HDR
      go_wp2
      go_region
      go_wp2
      go_roundg (k-1)
      case measure=>omega
      case rel=>exact ⟨⟨_,rfl⟩,⟨_,rfl⟩,⟨_,rfl⟩,_,rfl,hid HDR2.out⟩
    ·clear HDROP
     obtain ⟨cx,hs0⟩:x≤X∧st=false:=by
      have h3:=HCND.out
      rcases st with _ | _
      ·simp at h3
       exact ⟨h3,rfl⟩
      ·simp at h3
     have HHA:=hid (HHANG.out cx hs0 _ (HM5.out.grow (bDr (Below.refl _ _))))
     clear HHANG HM5
     go_wp2_with fail
     go_region_with (go_at_call 121;refine HHA.out.mono ?_;rintro e w6 ⟨z6,rfl,⟨f6,fl6,fh6,M6⟩,hlk⟩;have HLK:=hid hlk;clear k0 k1 k2 k3 k4 k5 k6 k7 k8 k9 k10;obtain ⟨k0,k1,k2,k3,k4,k5,k6,k7,k8,k9,k10⟩:=HD.out _ _ _ _ _ _ _ M6;clear hlk M6)
     all_goals
      go_wp2_with fail
      refine HLK.out.mono ?_
      rintro e w7 ⟨z7,rfl,hR7⟩
      have HR7:=hid hR7
      clear hR7 k0 k1 k2 k3 k4 k5 k6 k7 k8 k9 k10
      go_wp2
      go_ret
      exact ⟨true,rfl,HR7.out⟩
end
end Ne
namespace Ne
open Sp (Off Ext)
open Fo (Ft FoO fc)
theorem root_child {f:Ft} (h:Fo.Good f) {y k:Nat} (hd:Fo.Dp f.up y k):y<f.v.length→∀ v,Fo.root f y=some v→v=y∨∃ z,f.up z=some v:=by
 induction hd with
 | @top y h1 =>
  intro hy v hv
  rw [h.root_top hy h1] at hv
  cases hv
  exact .inl rfl
 | @step y u k h1 _ ih =>
  intro hy v hv
  rw [h.root_step hy h1] at hv
  rcases ih (h.lt y u hy h1) v hv with e | e
  ·subst e;exact .inr ⟨y,h1⟩
  ·exact .inr e
def BlockI (n:Net) (ao:Option Addr) (cap:Nat) (x:Int) (w0 w1:World) (sb lb ab pb cb p:Nat) (rv:Value) (lo hi B b1:Nat) (VA:Nat→Value) (TL:List Nat) (f0:List Int) (w':World) (c0 m H k gg:Nat) (sp:Bool):Prop :=
 ∃ gl Ws RL VS U S c f flo fhi,TsM n ao cap x w0 w1 sb lb ab pb cb p rv lo hi B b1 VA TL w' RL VS U S c f flo fhi∧Tre n TL gl x U f RL S∧Okf n gl∧BlkW n.l TL x n.s n.t f0 Ws gl∧(∀ y u,f.up y=some u→S.getD u false=false)∧f.v.length=m∧Ws.length=k∧c0+k≤c∧gg=H-c∧S.getD n.s.toNat false=sp ∧
  fhi+c+(fc m+1)*psi n TL gl x U f S (aheadN n TL)≤H
def BlockR (n:Net) (ao:Option Addr) (cap:Nat) (x:Int) (w0 w1:World) (sb lb ab pb cb p:Nat) (rv:Value) (lo hi B b1:Nat) (VA:Nat→Value) (TL:List Nat) (f0:List Int) (w':World) (c0 m H k:Nat):Prop :=
 ∃ gl Ws RL VS U S c f flo fhi,TsM n ao cap x w0 w1 sb lb ab pb cb p rv lo hi B b1 VA TL w' RL VS U S c f flo fhi∧Tre n TL gl x U f RL S∧Okf n gl∧IsBlk n.l TL f0 x n.s n.t Ws gl∧f.v.length=m∧Ws.length=k∧c0+k≤c∧fhi+c≤H
section
variable {n:Net} {ao:Option Addr} {cap:Nat} {x:Int} {w0 w1:World} {sb lb ab pb cb p:Nat} {rv:Value} {lo hi B b1:Nat} {VA:Nat→Value} {TL:List Nat}
variable {w w2:World} {RL:List Int} {VS:Nat→Value} {U:Nat→List Nat} {S:List Bool} {c:Nat} {f f2:Ft} {flo fhi flo2 fhi2:Nat} {m H:Nat} {g f0:List Int} {L:List Int} {A:Nat→Nat} {c0 k gg:Nat}
theorem blockI_grow {sp:Bool} (h:BlockI n ao cap x w0 w1 sb lb ab pb cb p rv lo hi B b1 VA TL f0 w c0 m H k gg sp) (hb:Below w.heap.size w w2):BlockI n ao cap x w0 w1 sb lb ab pb cb p rv lo hi B b1 VA TL f0 w2 c0 m H k gg sp:=by
 obtain ⟨gl,Ws,RL,VS,U,S,c,f,flo,fhi,M,r⟩:=h
 exact ⟨gl,Ws,RL,VS,U,S,c,f,flo,fhi,M.grow hb,r⟩
theorem block_end (hR:Right n) (h:BlockI n ao cap x w0 w1 sb lb ab pb cb p rv lo hi B b1 VA TL f0 w c0 m H k gg true):BlockR n ao cap x w0 w1 sb lb ab pb cb p rv lo hi B b1 VA TL f0 w c0 m H k:=by
 obtain ⟨gl,Ws,RL,VS,U,S,c,f,flo,fhi,M,T,hF,hB,hK,hm,hk,hc0,_,hs,hc⟩:=h
 have:=(T.dead _ hs).2
 rw [show ((n.s.toNat:Nat):Int)=n.s by have:=hR.s0;omega] at this
 exact ⟨gl,Ws,RL,VS,U,S,c,f,flo,fhi,M,T,hF,⟨hB,this⟩,hm,hk,hc0,by omega⟩
theorem block_round (hR:Right n) (hL:Lds n.l L TL) (hx:1≤x) (hTL:TL.length≤1000000) (hH2:H+(fc m+1)≤4611686018427387904) (h:BlockI n ao cap x w0 w1 sb lb ab pb cb p rv lo hi B b1 VA TL f0 w c0 m H k gg false) :
  ∃ RL VS U S c f flo fhi,TsM n ao cap x w0 w1 sb lb ab pb cb p rv lo hi B b1 VA TL w RL VS U S c f flo fhi∧c≤4611686018427387904 ∧
   ∀ w3,TsM n ao cap x w0 w1 sb lb ab pb cb p rv lo hi B b1 VA TL w3 RL VS U S (c+1) f flo fhi→Calls Tryz.prog 110 #[.pointer (some ⟨p,0,none⟩),.int .i64 n.s] w3 fun e w4=>∃ v:Nat,e=.returned (.int .i64 (v:Int))∧(∃ RL VS U S c f flo fhi,TsM n ao cap x w0 w1 sb lb ab pb cb p rv lo hi B b1 VA TL w4 RL VS U S c f flo fhi) ∧
    (((v:Int)=n.t∧Calls Tryz.prog 111 #[.pointer (some ⟨sb,0,none⟩)] w4 fun e w5=>∃ q:Nat,e=.returned (.int .i64 (q:Int))∧q≤1∧∃ gg2 sp2,gg2<gg∧BlockI n ao cap x w0 w1 sb lb ab pb cb p rv lo hi B b1 VA TL f0 w5 c0 m H (k+q) gg2 sp2) ∨
    ((v:Int)≠n.t∧Calls Tryz.prog 112 #[.pointer (some ⟨sb,0,none⟩),.int .i64 (v:Int)] w4 fun e w5=>∃ b,e=.returned (.bool b)∧(match b with
     | true=>∃ gg2 sp2,gg2<gg∧BlockI n ao cap x w0 w1 sb lb ab pb cb p rv lo hi B b1 VA TL f0 w5 c0 m H k gg2 sp2
     | false=>Calls Tryz.prog 113 #[.pointer (some ⟨sb,0,none⟩),.int .i64 (v:Int)] w5 fun e w6=>e=.returned (.tuple #[])∧∃ gg2 sp2,gg2<gg∧BlockI n ao cap x w0 w1 sb lb ab pb cb p rv lo hi B b1 VA TL f0 w6 c0 m H k gg2 sp2))):=by
 obtain ⟨gl,Ws,RL,VS,U,S,c,f,flo,fhi,M,T,hF,hB,hK,hm,hk,hc0,hgg,hsp,hc⟩:=h
 have hs0:=hR.s0
 have ht0:=hR.t0
 have hsn:n.s.toNat<n.n.toNat+1:=by have:=hR.s1;omega
 have hsf:n.s.toNat<f.v.length:=by rw [T.len];exact hsn
 refine ⟨RL,VS,U,S,c,f,flo,fhi,M,by omega,fun w3 M3=>(M3.root hm n.s).mono ?_⟩
 rintro e w4 ⟨rfl,flo4,M4⟩
 obtain ⟨v,v1,v2,v3,v4⟩:=T.good.rootZ_eq hsf
 rw [show ((n.s.toNat:Nat):Int)=n.s by omega] at v2
 rw [v2]
 refine ⟨v,rfl,⟨_,_,_,_,_,_,_,_,M4⟩,?_⟩
 have hvn:v<n.n.toNat+1:=by rw [← T.len];exact v3
 by_cases hvt:(v:Int)=n.t
 ·left
  refine ⟨hvt,(fill_any2 M4 T hR hL hx hF (by rw [v1];exact congrArg some (by omega)) hm (aheadN n TL)).mono ?_⟩
  rintro e w5 ⟨q,rfl,g2,f2,RL2,flo2,fhi2,M5,T5,hup,hm2,hc2,hq⟩
  have hK2:∀ y u,f2.up y=some u→S.getD u false=false:=fun y u hy=>hK y u (hup y u hy)
  rcases hq with ⟨rfl,rfl⟩ | ⟨rfl,R,a,q1,q2,q3⟩
  ·exact ⟨0,rfl,by omega,_,_,by omega,g2,Ws,RL2,VS,U,S,c+1,f2,flo2,fhi2,M5,T5,hF,hB,hK2,hm2,hk,by omega,rfl,rfl,by omega⟩
  ·have hF2:Okf n g2:=(okf_push hR hF (by
    obtain ⟨r,hr,e⟩:=q2.one
    have:=(wlk_mem (fWw q1) r hr).2
    omega) (first_walk hL q1) q3).1
   exact ⟨1,rfl,by omega,_,_,by omega,g2,Ws ++ [(R,a)],RL2,VS,U,S,c+1,f2,flo2,fhi2,M5,T5,hF2,blkW_snoc hB q1 q2 q3,hK2,hm2,by simp [hk],by omega,rfl,rfl,by omega⟩
 ·right
  have hvt2:v≠n.t.toNat:=fun c=>hvt (by omega)
  have hvs:S.getD v false=false:=by
   obtain ⟨kd,hd⟩:=T.good.dep _ hsf
   rcases root_child T.good hd hsf v v1 with e | ⟨z,e⟩
   ·rw [e];exact hsp
   ·exact hK z v e
  refine ⟨hvt,(hang_any (H:=H+(fc m+1)) M4 T hR hL hF hvn hvt2 v4 hK hm (by omega) hH2).mono ?_⟩
  rintro e w5 ⟨b,rfl,hr⟩
  refine ⟨b,rfl,?_⟩
  cases b with
  | true =>
   obtain ⟨VS2,U2,c2,f2,flo2,fhi2,M5,T5,hm2,hK2,hc2,hcc⟩:=hr
   exact ⟨_,_,by omega,gl,Ws,RL,VS2,U2,S,c2,f2,flo2,fhi2,M5,T5,hF,hB,hK2,hm2,hk,by omega,rfl,rfl,by omega⟩
  | false =>
   obtain ⟨VS2,U2,c2,M5,T5,hU5,hc2,hcc⟩:=hr
   refine (leave_any (H:=H+(fc m+1)) M5 T5 hR hL hF hvn hvt2 hU5 hvs hK hm hcc hH2 hTL).mono ?_
   rintro e w6 ⟨rfl,f2,RL2,flo2,fhi2,c3,M6,T6,hm2,hK2,hc3,hcc3⟩
   exact ⟨rfl,_,_,by omega,gl,Ws,RL2,VS2,U2,_,c3,f2,flo2,fhi2,M6,T6,hF,hB,hK2,hm2,hk,by omega,rfl,rfl,by omega⟩
theorem block_any (hR:Right n) (hL:Lds n.l L TL) (hx:1≤x) (hTL:TL.length≤1000000) (hH2:H+(fc m+1)≤4611686018427387904) {sp:Bool} (h:BlockI n ao cap x w0 w1 sb lb ab pb cb p rv lo hi B b1 VA TL f0 w c0 m H 0 gg sp) :
  Calls Tryz.prog 106 #[.pointer (some ⟨sb,0,none⟩)] w fun e w'=>∃ k:Nat,e=.returned (.int .i64 (k:Int))∧BlockR n ao cap x w0 w1 sb lb ab pb cb p rv lo hi B b1 VA TL f0 w' c0 m H k:=by
 have HI0:=hid (fun q=>blockI_grow h (bDn (Below.refl _ _) q))
 have HRD:=hid (fun w' k gg (h:BlockI n ao cap x w0 w1 sb lb ab pb cb p rv lo hi B b1 VA TL f0 w' c0 m H k gg false)=>block_round hR hL hx hTL hH2 h)
 have HED:=hid (fun w' k gg (h:BlockI n ao cap x w0 w1 sb lb ab pb cb p rv lo hi B b1 VA TL f0 w' c0 m H k gg true)=>block_end hR h)
 have HD:=hid (fun w' RL VS U S c f' flo fhi (h:TsM n ao cap x w0 w1 sb lb ab pb cb p rv lo hi B b1 VA TL w' RL VS U S c f' flo fhi)=>h.tc)
 have HMORE:=hid (fun w' RL VS U S c f flo fhi (h:TsM n ao cap x w0 w1 sb lb ab pb cb p rv lo hi B b1 VA TL w' RL VS U S c f flo fhi) hc=>more_any h hc)
 have HSP:=hid (show ∀ w' k gg sp,BlockI n ao cap x w0 w1 sb lb ab pb cb p rv lo hi B b1 VA TL f0 w' c0 m H k gg sp→k≤4611686018427387904∧w'.cell? ⟨pb,n.s.toNat,none⟩=some (.bool sp)∧∃ RL VS U S c f flo fhi,TsM n ao cap x w0 w1 sb lb ab pb cb p rv lo hi B b1 VA TL w' RL VS U S c f flo fhi from fun w' k gg sp h=>by
  obtain ⟨gl,Ws,RL,VS,U,S,c,f,flo,fhi,M,T,hF,hB,hK,hm,hk,hc0,hgg,hsp,hc⟩:=h
  refine ⟨by omega,?_,RL,VS,U,S,c,f,flo,fhi,M⟩
  rw [← hsp]
  exact (M.marks T.slen (by have:=hR.s0;have:=hR.s1;omega)).1)
 have hs0:=hR.s0
 have hs1:n.s<(n.n.toNat:Int)+1:=by have:=hR.s1;omega
 have hsz:(0:Int)≤n.s:=by omega
 obtain ⟨_,_,RL,VS,U,S,c,f,flo,fhi,M⟩:=HSP.out _ _ _ _ h
 obtain ⟨k0,k1,k2,k3,k4,k5,k6,k7,k8,k9,k10⟩:=M.tc
 clear M h hR hL hx hTL hH2
 go_enter Tryz.func106,Tryz.ntmps106
 go_wp2
 go_quiet (fail)
 have HI1:=hid (HI0.out nq)
 generalize (w.drewN nq)=wq at *
 clear k0 k1 k2 k3 k4 k5 k6 k7 k8 k9 k10 HI0
 go_wp2
 go_loopg [3,5,30,42] gg (fun q s3 s5 s30 s42 wr=>(∃ z,s5=z)∧(∃ z,s30=z)∧(∃ z,s42=z)∧∃ (k g2:Nat) (sp:Bool),s3=.int .i64 (k:Int)∧g2=q∧Hid (BlockI n ao cap x w0 w1 sb lb ab pb cb p rv lo hi B b1 VA TL f0 wr c0 m H k g2 sp))
 case atStart=>exact ⟨⟨_,rfl⟩,⟨_,rfl⟩,⟨_,rfl⟩,0,_,sp,rfl,rfl,HI1⟩
 case round =>
  obtain ⟨⟨z5,rfl⟩,⟨z30,rfl⟩,⟨z42,rfl⟩,k,g2,sp2,rfl,rfl,HI⟩:=hrel
  obtain ⟨hk,s0,RL,VS,U,S,c,f,flo,fhi,M⟩:=HSP.out _ _ _ _ HI.out
  obtain ⟨k0,k1,k2,k3,k4,k5,k6,k7,k8,k9,k10⟩:=HD.out _ _ _ _ _ _ _ _ _ M
  clear M
  cases sp2
  ·obtain ⟨RL,VS,U,S,c,f,flo,fhi,M,hc,HROOT⟩:=HRD.out _ _ _ HI.out
   have HROOT:=hid HROOT
   have HMO:=hid (HMORE.out _ _ _ _ _ _ _ _ _ M hc)
   clear M hc HI
   go_wp2_with fail
   refine HMO.out.mono ?_
   rintro e w3 ⟨rfl,M3⟩
   clear k0 k1 k2 k3 k4 k5 k6 k7 k8 k9 k10 s0
   obtain ⟨k0,k1,k2,k3,k4,k5,k6,k7,k8,k9,k10⟩:=HD.out _ _ _ _ _ _ _ _ _ M3
   have HRT:=hid (HROOT.out _ M3)
   clear M3 HROOT HMO
   go_wp2_with fail
   refine HRT.out.mono ?_
   rintro e w4 ⟨v,rfl,⟨RL4,VS4,U4,S4,c4,f4,flo4,fhi4,M4⟩,hcase⟩
   clear k0 k1 k2 k3 k4 k5 k6 k7 k8 k9 k10 HRT
   obtain ⟨k0,k1,k2,k3,k4,k5,k6,k7,k8,k9,k10⟩:=HD.out _ _ _ _ _ _ _ _ _ M4
   clear M4
   rcases hcase with ⟨hvt,hfill⟩ | ⟨hvt,hhang⟩
   ·have HF:=hid hfill
    have hd:((v:Int) == n.t)=true:=by simpa using hvt
    clear hfill hvt
    go_wp2_with fail
    refine HF.out.mono ?_
    rintro e w5 ⟨q,rfl,hq,g3,sp3,hg3,h5⟩
    have H5:=hid h5
    have hw1:IntKind.i64.wrap ((k:Int)+(q:Int))=((k+q:Nat):Int):=by rw [IntKind.wrap_i64];omega
    clear h5 k0 k1 k2 k3 k4 k5 k6 k7 k8 k9 k10
    go_wp2
    go_roundg g3
    case measure=>omega
    case rel=>exact ⟨⟨_,rfl⟩,⟨_,rfl⟩,⟨_,rfl⟩,k+q,_,sp3,rfl,rfl,H5⟩
   ·have HF:=hid hhang
    have hd:((v:Int) == n.t)=false:=by simpa using hvt
    clear hhang hvt
    go_wp2_with fail
    refine HF.out.mono ?_
    rintro e w5 ⟨b,rfl,h5⟩
    clear k0 k1 k2 k3 k4 k5 k6 k7 k8 k9 k10
    cases b
    ·have HLV:=hid h5
     clear h5
     go_wp2_with fail
     refine HLV.out.mono ?_
     rintro e w6 ⟨rfl,g3,sp3,hg3,h6⟩
     have H6:=hid h6
     clear h6
     go_wp2
     go_roundg g3
     case measure=>omega
     case rel=>exact ⟨⟨_,rfl⟩,⟨_,rfl⟩,⟨_,rfl⟩,k,_,sp3,rfl,rfl,H6⟩
    ·obtain ⟨g3,sp3,hg3,h6⟩:=h5
     have H6:=hid h6
     clear h6
     go_wp2
     go_roundg g3
     case measure=>omega
     case rel=>exact ⟨⟨_,rfl⟩,⟨_,rfl⟩,⟨_,rfl⟩,k,_,sp3,rfl,rfl,H6⟩
  ·have HE:=hid (HED.out _ _ _ HI.out)
   clear HI
   go_wp2
   go_ret
   exact ⟨k,rfl,HE.out⟩
end
end Ne
namespace Ne
open Sp (Off Ext)
open Fo (Ft FoO fc)
def AmI (n:Net) (ao:Option Addr) (cap:Nat) (x:Int) (w0 w1:World) (sb lb ab pb cb p:Nat) (rv:Value) (lo hi B b1:Nat) (VA:Nat→Value) (TL:List Nat) (g:List Int) (w':World) (i c0 m H:Nat):Prop :=
 ∃ RL VS U S c f flo fhi,TsM n ao cap x w0 w1 sb lb ab pb cb p rv lo hi B b1 VA TL w' RL VS U S c f flo fhi∧Tre n TL g x U f RL S∧f.v.length=m∧c0≤c∧(∀ v,v<i→f.up v=none)∧fhi+c+4*((fc m+1)*(m-i))≤H
structure AmJ (n:Net) (ao:Option Addr) (cap:Nat) (x:Int) (w0 w1:World) (sb lb ab pb cb p:Nat) (rv:Value) (lo hi B b1:Nat) (VA:Nat→Value) (TL:List Nat) (g f0:List Int) (wA w':World) (j c0:Nat) (l4:Option Addr) (lc4:Nat):Prop where
 off:Off (fun b=>b=cb∨wA.heap.size≤b) wA w'
 row:OwnL w' wA.heap.size (.slice l4 n.l.length lc4) (setG g f0 (TL.take j))
 cnt:w'.heap[cb]? = some (.cells #[.int .i64 ((c0+j:Nat):Int)] 157 (0,0))
section
variable {n:Net} {ao:Option Addr} {cap:Nat} {x:Int} {w0 w1:World} {sb lb ab pb cb p:Nat} {rv:Value} {lo hi B b1:Nat} {VA:Nat→Value} {TL:List Nat}
variable {w w2 wA:World} {RL:List Int} {VS:Nat→Value} {U:Nat→List Nat} {S:List Bool} {c:Nat} {f f2:Ft} {flo fhi flo2 fhi2:Nat} {m H:Nat} {g f0:List Int} {L:List Int} {A:Nat→Nat} {c0 k gg:Nat}
theorem am_round (hR:Right n) (hL:Lds n.l L TL) (hF:Okf n g) {i:Nat} (him:i<m) (hmn:m=n.n.toNat+1) (hH2:H≤4611686018427387904) (h:AmI n ao cap x w0 w1 sb lb ab pb cb p rv lo hi B b1 VA TL g w i c0 m H) :
  ∃ RL VS U S c f flo fhi,TsM n ao cap x w0 w1 sb lb ab pb cb p rv lo hi B b1 VA TL w RL VS U S c f flo fhi∧c≤4611686018427387904 ∧
   ∀ w3,TsM n ao cap x w0 w1 sb lb ab pb cb p rv lo hi B b1 VA TL w3 RL VS U S (c+1) f flo fhi→Calls Tryz.prog 114 #[.pointer (some ⟨p,0,none⟩),.int .i64 (i:Int)] w3 fun e w4=>∃ z:Int,e=.returned (.int .i64 z) ∧
    ((z = -1∧AmI n ao cap x w0 w1 sb lb ab pb cb p rv lo hi B b1 VA TL g w4 (i+1) c0 m H) ∨
    (z≠-1∧(∃ RL VS U S c f flo fhi,TsM n ao cap x w0 w1 sb lb ab pb cb p rv lo hi B b1 VA TL w4 RL VS U S c f flo fhi)∧Calls Tryz.prog 115 #[.pointer (some ⟨sb,0,none⟩),.int .i64 (i:Int)] w4 fun e w5=>e=.returned (.tuple #[])∧AmI n ao cap x w0 w1 sb lb ab pb cb p rv lo hi B b1 VA TL g w5 (i+1) c0 m H)):=by
 obtain ⟨RL,VS,U,S,c,f,flo,fhi,M,T,hm,hc0,hup,hc⟩:=h
 have hcc:(fc m+1)*(m-i)=(fc m+1)*(m-(i+1))+(fc m+1):=by
  rw [show m-i=m-(i+1)+1 by omega,Nat.mul_succ]
 refine ⟨RL,VS,U,S,c,f,flo,fhi,M,by omega,fun w3 M3=>(M3.above hm _).mono ?_⟩
 rintro e w4 ⟨rfl,flo4,M4⟩
 refine ⟨_,rfl,?_⟩
 rw [Fo.aboveZ_nat (by omega)]
 cases hu:f.up i with
 | none =>
  left
  refine ⟨rfl,RL,VS,U,S,c+1,f,flo4,_,M4,T,hm,by omega,fun v hv=>?_,by omega⟩
  by_cases e:v=i
  ·rw [e];exact hu
  ·exact hup v (by omega)
 | some u =>
  right
  refine ⟨by simp only [Fo.oz];omega,⟨_,_,_,_,_,_,_,_,M4⟩,(part_any M4 T hR hL hF.wi hu hm).mono ?_⟩
  rintro e w5 ⟨rfl,f3,RL3,flo5,ho,M5,T5⟩
  refine ⟨rfl,RL3,VS,U,S,c+1,f3,flo5,_,M5,T5,by rw [ho.len];exact hm,by omega,fun v hv=>?_,by omega⟩
  rw [ho.up]
  by_cases e:v=i
  ·rw [if_pos e]
  ·rw [if_neg e];exact hup v (by omega)
theorem am_rooms (hR:Right n) (hL:Lds n.l L TL) (hmn:m=n.n.toNat+1) (h:AmI n ao cap x w0 w1 sb lb ab pb cb p rv lo hi B b1 VA TL g w m c0 m H):∃ RL VS U S c f flo fhi,TsM n ao cap x w0 w1 sb lb ab pb cb p rv lo hi B b1 VA TL w RL VS U S c f flo fhi∧c0≤c∧fhi+c≤H∧RL.length=2*n.l.length∧∀ r∈TL,amt RL r=roomN n.l g r:=by
 obtain ⟨RL,VS,U,S,c,f,flo,fhi,M,T,hm,hc0,hup,hc⟩:=h
 refine ⟨RL,VS,U,S,c,f,flo,fhi,M,hc0,by omega,T.rlen,fun r hr=>T.rl r hr (.inl (hup _ ?_))⟩
 have:=tFb hR (hL.lt r hr)
 omega
theorem amj_start (M:TsM n ao cap x w0 w1 sb lb ab pb cb p rv lo hi B b1 VA TL wA RL VS U S c f flo fhi) (hb:Below wA.heap.size wA w) {l4:Option Addr} {lc4:Nat} (ho:OwnL w wA.heap.size (.slice l4 n.l.length lc4) f0):AmJ n ao cap x w0 w1 sb lb ab pb cb p rv lo hi B b1 VA TL g f0 wA w 0 c l4 lc4:=by
 refine ⟨.of_below hb,ho,?_⟩
 have h1:=M.ne_all.2.2.1
 have:=M.sz
 rw [hb.block cb (by omega)]
 exact M.cnt
theorem amj_cells (M:TsM n ao cap x w0 w1 sb lb ab pb cb p rv lo hi B b1 VA TL wA RL VS U S c f flo fhi) {j:Nat} (hoff:Off (fun b=>b=cb∨wA.heap.size≤b) wA w) (hcnt:w.heap[cb]? = some (.cells #[.int .i64 ((c+j:Nat):Int)] 157 (0,0))) :
  w.cell? ⟨sb,3,none⟩=some (.slice ao n.l.length cap)∧w.cell? ⟨sb,4,none⟩=some rv∧w.cell? ⟨sb,10,none⟩=some (.func (.func 105) #[.pointer (some ⟨cb,0,none⟩)] #[])∧w.cell? ⟨sb,9,none⟩=some (.pointer (some ⟨p,0,none⟩))∧w.cell? ⟨cb,0,none⟩=some (.int .i64 ((c+j:Nat):Int))∧w.frozen? ⟨cb,0,none⟩=false ∧
  (∀ r,r<RL.length→∃ gb rc,rv=.slice (some ⟨gb,0,none⟩) RL.length rc∧w.cell? ⟨gb,r,none⟩=some (.int .i64 (amt RL r))∧gb<wA.heap.size)∧ARow w ao n.l ∧
  (∀ b off v,w1.cell? ⟨b,off,none⟩=some v→b<w1.heap.size→¬ Mut rv lb pb cb B b1 b→w.cell? ⟨b,off,none⟩=some v)∧cb<wA.heap.size:=by
 obtain ⟨a1,a2,a3,a4,a5,a6,a7,a8,a9,a10,a11⟩:=M.ne_all
 have hsz:=M.sz
 have hso:=M.st.up
 have hlo:=M.st.low
 have hb0:=M.st.b0
 have hsb:sb<wA.heap.size∧sb≠cb:=by omega
 have hblk:=hoff.block sb hsb.1 (fun e=>by omega)
 have hc:∀ i,w.cell? ⟨sb,i,none⟩=wA.cell? ⟨sb,i,none⟩:=fun i=>World.cell?_of_block (w:=wA) hblk
 obtain ⟨k0,k1,k2,k3,k4,k5,k6,k7,k8,k9,k10⟩:=M.tc
 refine ⟨(hc _).trans k3,(hc _).trans k4,(hc _).trans k10,(hc _).trans k9,by simp [World.cell?,hcnt],by simp [World.frozen?,hcnt],fun r hr=>?_,?_,fun b off v hv hb hm=>?_,by omega⟩
 ·obtain ⟨gb,rc,e1,e2,e3,_⟩:=M.note hr
  have hg:=a4 gb (by rw [e1];rfl)
  refine ⟨gb,rc,e1,?_,by omega⟩
  exact (World.cell?_of_block (w:=wA) (hoff.block gb (by omega) (fun e=>by omega))).trans e3
 ·exact M.st.row0.kept (M.low.trans (hoff.below (B:=w0.heap.size) (fun b e=>by omega) (by have:=M.low.size;omega)))
 ·have e1:=M.kp b hb hm
  have e2:=hoff.block b (by omega) (fun e=>by
   rcases e with e | e
   ·exact hm (.inr (.inr (.inr (.inl e))))
   ·omega)
  exact ((World.cell?_of_block (w:=wA) e2).trans (World.cell?_of_block (w:=w1) e1)).trans hv
theorem amj_more (M:TsM n ao cap x w0 w1 sb lb ab pb cb p rv lo hi B b1 VA TL wA RL VS U S c f flo fhi) {j:Nat} {l4:Option Addr} {lc4:Nat} (h:AmJ n ao cap x w0 w1 sb lb ab pb cb p rv lo hi B b1 VA TL g f0 wA w j c l4 lc4) :
  Off (fun b=>b=cb∨wA.heap.size≤b) wA (w.setCell ⟨cb,0,none⟩ (.int .i64 ((c+(j+1):Nat):Int)))∧OwnL (w.setCell ⟨cb,0,none⟩ (.int .i64 ((c+(j+1):Nat):Int))) wA.heap.size (.slice l4 n.l.length lc4) (setG g f0 (TL.take j))∧(w.setCell ⟨cb,0,none⟩ (.int .i64 ((c+(j+1):Nat):Int))).heap[cb]? = some (.cells #[.int .i64 ((c+(j+1):Nat):Int)] 157 (0,0)):=by
 have hcb:=M.ne_all.2.2.1
 have hsz:=M.sz
 refine ⟨h.off.set (p:=⟨cb,0,none⟩) (.inl (.inl rfl)) _,owM h.row fun b hb=>Below.heap_setCell _ _ _ _ ?_,?_⟩
 ·have:=(Rw.owL h.row b hb).1
  show b≠cb
  omega
 ·simp only [World.setCell,Array.getElem?_modify,h.cnt,if_true,Option.map_some]
  rfl
theorem amj_put {w:World} {j:Nat} {l4:Option Addr} {lc4:Nat} (hcb:cb<wA.heap.size) (ho:Off (fun b=>b=cb∨wA.heap.size≤b) wA w) (hr:OwnL w wA.heap.size (.slice l4 n.l.length lc4) (setG g f0 (TL.take j))) (hc:w.heap[cb]? = some (.cells #[.int .i64 ((c+(j+1):Nat):Int)] 157 (0,0)))
  (hfl:f0.length=n.l.length) {r:Nat} (hj:j<TL.length) (er:TL.getD j 0=r) (hrl:r / 2<n.l.length) :
  ∃ gb,l4=some ⟨gb,0,none⟩∧wA.heap.size≤gb∧(∃ y:Int,w.cell? ⟨gb,r / 2,none⟩=some (.int .i64 y))∧w.frozen? ⟨gb,r / 2,none⟩=false ∧
   AmJ n ao cap x w0 w1 sb lb ab pb cb p rv lo hi B b1 VA TL g f0 wA (w.setCell ⟨gb,r / 2,none⟩ (.int .i64 (amt g (r / 2)))) (j+1) c l4 lc4 ∧
   ∀ y:Int,(∃ z:Int,(w.setCell ⟨gb,r / 2,none⟩ (.int .i64 y)).cell? ⟨gb,r / 2,none⟩=some (.int .i64 z))∧(w.setCell ⟨gb,r / 2,none⟩ (.int .i64 y)).frozen? ⟨gb,r / 2,none⟩=false∧AmJ n ao cap x w0 w1 sb lb ab pb cb p rv lo hi B b1 VA TL g f0 wA ((w.setCell ⟨gb,r / 2,none⟩ (.int .i64 y)).setCell ⟨gb,r / 2,none⟩ (.int .i64 (amt g (r / 2)))) (j+1) c l4 lc4:=by
 have hlen:r / 2<(setG g f0 (TL.take j)).length:=by rw [setG_len,hfl];exact hrl
 obtain ⟨gb,e1,e2,e3,e4,e5⟩:=own_cells eIl hr (at_amt hlen)
 have c0:=e4 0 _ rfl
 rw [show r / 2*1+0=r / 2 by omega] at c0
 subst e1
 have hset:(setG g f0 (TL.take (j+1)))=(setG g f0 (TL.take j)).set (r / 2) (amt g (r / 2)):=by rw [take_getD hj,setG_snoc,er]
 have hp:∀ (w3:World) (l:List Int),OwnL w3 wA.heap.size (.slice (some ⟨gb,0,none⟩) n.l.length lc4) l→r / 2<l.length→∀ y,OwnL (w3.setCell ⟨gb,r / 2,none⟩ (.int .i64 y)) wA.heap.size (.slice (some ⟨gb,0,none⟩) n.l.length lc4) (l.set (r / 2) y):=fun w3 l h3 hl y=>by
  have h:=own_put eIl h3 (at_amt hl) (y:=y) (j:=0) (by omega) (u:=.int .i64 y) rfl
  rwa [show r / 2*1+0=r / 2 by omega] at h
 refine ⟨gb,rfl,e2,⟨_,c0⟩,e5 _,⟨ho.set (p:=⟨gb,r / 2,none⟩) (.inl (.inr e2)) _,?_,?_⟩,fun y=>⟨?_,?_,⟨(ho.set (p:=⟨gb,r / 2,none⟩) (.inl (.inr e2)) _).set (p:=⟨gb,r / 2,none⟩) (.inl (.inr e2)) _,?_,?_⟩⟩⟩
 ·rw [hset];exact hp _ _ hr hlen _
 ·exact (Below.heap_setCell _ _ _ _ (show cb≠gb by omega)).trans hc
 ·have h5:=hp _ _ hr hlen y
  obtain ⟨g2,k1,_,_,k4,_⟩:=own_cells eIl h5 (at_amt (i:=r / 2) (by rw [List.length_set];exact hlen))
  simp only [Option.some.injEq,Addr.mk.injEq,and_true,true_and] at k1
  subst k1
  have c2:=k4 0 _ rfl
  rw [show r / 2*1+0=r / 2 by omega] at c2
  exact ⟨_,c2⟩
 ·have h5:=hp _ _ hr hlen y
  obtain ⟨g2,k1,_,_,_,k5⟩:=own_cells eIl h5 (at_amt (i:=r / 2) (by rw [List.length_set];exact hlen))
  simp only [Option.some.injEq,Addr.mk.injEq,and_true,true_and] at k1
  subst k1
  exact k5 _
 ·rw [hset]
  have h5:=hp _ _ (hp _ _ hr hlen y) (by rw [List.length_set];exact hlen) (amt g (r / 2))
  rwa [List.set_set] at h5
 ·exact (Below.heap_setCell _ _ _ _ (show cb≠gb by omega)).trans ((Below.heap_setCell _ _ _ _ (show cb≠gb by omega)).trans hc)
theorem more_eq (w:World) (cb c:Nat) (h0:w.cell? ⟨cb,0,none⟩=some (.int .i64 (c:Int))) (h1:w.frozen? ⟨cb,0,none⟩=false) (hc:c≤4611686018427387904) :
  Calls Tryz.prog 105 #[.pointer (some ⟨cb,0,none⟩)] w fun e w'=>e=.returned (.tuple #[])∧w' = w.setCell ⟨cb,0,none⟩ (.int .i64 ((c+1:Nat):Int)):=by
 have hw1:IntKind.i64.wrap ((c:Int)+1)=((c+1:Nat):Int):=by rw [IntKind.wrap_i64];omega
 generalize ((c+1:Nat):Int)=C1 at *
 clear hc
 go_enter Tryz.func105,Tryz.ntmps105
 go_wp2
 go_end0
 exact ⟨rfl,rfl⟩
theorem amj_round (M:TsM n ao cap x w0 w1 sb lb ab pb cb p rv lo hi B b1 VA TL wA RL VS U S c f flo fhi) (hR:Right n) (hL:Lds n.l L TL) (hF:Okf n g) (hRL:RL.length=2*n.l.length) (hrm:∀ r∈TL,amt RL r=roomN n.l g r) (hfl:f0.length=n.l.length) {lo':Option Addr} {lc:Nat} (hlv:OwnI w1 w0.heap.size (.slice lo' TL.length lc) (encW TL)) (hlm:∀ b,(Value.slice lo' TL.length lc).ownBlock=some b→¬ Mut rv lb pb cb B b1 b)
  {j:Nat} {l4:Option Addr} {lc4:Nat} (h:AmJ n ao cap x w0 w1 sb lb ab pb cb p rv lo hi B b1 VA TL g f0 wA w j c l4 lc4) (hj:j<TL.length) (hH:c+TL.length≤4611686018427387904) :
  ∃ (r q lbk gr rc gb arb aro:Nat) (X:Int),lo' = some ⟨lbk,0,none⟩∧w.cell? ⟨lbk,j,none⟩=some (.int .i64 (r:Int))∧q=r / 2∧q<n.l.length∧r<RL.length∧w.cell? ⟨sb,10,none⟩=some (.func (.func 105) #[.pointer (some ⟨cb,0,none⟩)] #[]) ∧
   rv=.slice (some ⟨gr,0,none⟩) RL.length rc∧l4=some ⟨gb,0,none⟩∧ao=some ⟨arb,aro,none⟩∧0≤X∧X≤(arcAt n.l q).cap∧(arcAt n.l q).cap≤4611686018427387903 ∧
   Calls Tryz.prog 105 #[.pointer (some ⟨cb,0,none⟩)] w fun e w3=>e=.returned (.tuple #[]) ∧
    w3.cell? ⟨sb,4,none⟩=some rv∧w3.cell? ⟨gr,r,none⟩=some (.int .i64 X)∧(∃ y:Int,w3.cell? ⟨gb,q,none⟩=some (.int .i64 y))∧w3.frozen? ⟨gb,q,none⟩=false ∧
    (r % 2=1→AmJ n ao cap x w0 w1 sb lb ab pb cb p rv lo hi B b1 VA TL g f0 wA (w3.setCell ⟨gb,q,none⟩ (.int .i64 X)) (j+1) c l4 lc4) ∧
    (¬ r % 2=1→∀ w4,w4=w3.setCell ⟨gb,q,none⟩ (.int .i64 X)→w4.cell? ⟨sb,4,none⟩=some rv∧w4.cell? ⟨sb,3,none⟩=some (.slice ao n.l.length cap)∧w4.cell? ⟨gr,r,none⟩=some (.int .i64 X)∧w4.cell? ⟨arb,aro+q*3+2,none⟩=some (.int .i64 (arcAt n.l q).cap)∧(∃ y:Int,w4.cell? ⟨gb,q,none⟩=some (.int .i64 y))∧w4.frozen? ⟨gb,q,none⟩=false ∧
     AmJ n ao cap x w0 w1 sb lb ab pb cb p rv lo hi B b1 VA TL g f0 wA (w4.setCell ⟨gb,q,none⟩ (.int .i64 ((arcAt n.l q).cap-X))) (j+1) c l4 lc4):=by
 obtain ⟨lbk,e1,e2,e3,e4,e5⟩:=own_cells eIl hlv (at_amt (i:=j) (by rw [eWl];exact hj))
 have hl0:=e4 0 _ rfl
 rw [show j*1+0=j by omega,encW_at hj] at hl0
 obtain ⟨r,hr⟩:∃ r,r=TL.getD j 0:=⟨_,rfl⟩
 have hrT:r∈TL:=by rw [hr];exact gDm hj
 have hrl:=hL.lt r hrT
 rw [← hr] at hl0
 obtain ⟨q,hq⟩:∃ q,q=r / 2:=⟨_,rfl⟩
 have hql:q<n.l.length:=by omega
 have hX:=hrm r hrT
 obtain ⟨x1,x2⟩:=room_nn hF.wi hrl
 have x3:=cap_topR hR hql
 rw [← hq] at x2
 obtain ⟨k1,k2,k3,k4,k5,k6,k7,k8,k9,k10⟩:=amj_cells M h.off h.cnt
 obtain ⟨gr,rc,g1,g2,g3⟩:=k7 r (by rw [hRL];exact hrl)
 have hl1:=k9 lbk j _ hl0 e3 (hlm lbk (by rw [e1];rfl))
 obtain ⟨arb,aro,ha1,ha2,ha3,ha4,ha5⟩:=arC k8 hql
 obtain ⟨m1,m2,m3⟩:=amj_more M h
 obtain ⟨gb,p1,p2,p3,p4,p5,p6⟩:=amj_put k10 m1 m2 m3 hfl hj hr.symm (by omega)
 rw [← hq] at p3 p4 p5 p6
 refine ⟨r,q,lbk,gr,rc,gb,arb,aro,amt RL r,e1,hl1,hq,hql,by rw [hRL];exact hrl,k3,g1,p1,ha1,by omega,by omega,x3,(more_eq w cb (c+j) k5 k6 (by omega)).mono ?_⟩
 rintro e w3 ⟨rfl,hw3⟩
 rw [show c+j+1=c+(j+1) by omega] at hw3
 rw [← hw3] at m1 m2 m3 p3 p4 p5 p6
 obtain ⟨q1,q2,q3,q4,q5,q6,q7,q8,q9,q10⟩:=amj_cells M m1 m3
 obtain ⟨gr2,rc2,g4,g5,g6⟩:=q7 r (by rw [hRL];exact hrl)
 rw [g1] at g4
 simp only [Value.slice.injEq,Option.some.injEq,Addr.mk.injEq,and_true,true_and] at g4
 obtain ⟨g4,_⟩:=g4
 subst g4
 refine ⟨rfl,q2,g5,p3,p4,fun ho=>?_,fun ho w4 hw4=>?_⟩
 ·rw [hX]
  unfold roomN
  rw [if_pos ho,← hq]
  exact p5
 ·have hb4:∀ b i v,w3.cell? ⟨b,i,none⟩=some v→b<wA.heap.size→w4.cell? ⟨b,i,none⟩=some v:=fun b i v hv hb=>by
   rw [hw4]
   exact held_set hv (by show gb≠b;omega)
  have hsb:sb<wA.heap.size:=by have:=M.sz;have:=M.st.up;omega
  obtain ⟨arb2,aro2,ha6,ha7,ha8,ha9,ha10⟩:=arC q8 hql
  rw [ha1] at ha6
  simp only [Option.some.injEq,Addr.mk.injEq,and_true] at ha6
  obtain ⟨rfl,rfl⟩:=ha6
  have harb:arb<wA.heap.size:=by
   obtain ⟨b',o',z1,z2,_⟩:=arC M.row hql
   rw [ha1] at z1
   simp only [Option.some.injEq,Addr.mk.injEq,and_true] at z1
   rw [z1.1];exact z2
  obtain ⟨s1,s2,s3⟩:=p6 (amt RL r)
  rw [← hw4] at s1 s2 s3
  refine ⟨hb4 _ _ _ q2 hsb,hb4 _ _ _ q1 hsb,hb4 _ _ _ g5 g6,hb4 _ _ _ ha10 harb,s1,s2,?_⟩
  have:(arcAt n.l q).cap-amt RL r=amt g q:=by
   rw [hX];unfold roomN;rw [if_neg ho,← hq];omega
  rw [this];exact s3
theorem amj_drew {j:Nat} {l4:Option Addr} {lc4:Nat} (h:AmJ n ao cap x w0 w1 sb lb ab pb cb p rv lo hi B b1 VA TL g f0 wA w j c l4 lc4):AmJ n ao cap x w0 w1 sb lb ab pb cb p rv lo hi B b1 VA TL g f0 wA w.drew j c l4 lc4 :=
 ⟨h.off.then (bDr (Below.refl _ _)),Rw.own_below h.row (bDr (Below.refl _ _)),h.cnt⟩
def AmR (n:Net) (ao:Option Addr) (cap:Nat) (x:Int) (w0 w1:World) (sb lb ab pb cb p:Nat) (rv:Value) (lo hi B b1:Nat) (VA:Nat→Value) (TL:List Nat) (g:List Int) (w':World) (e:Ending) (c0 H:Nat):Prop :=
 ∃ o lc c2 f2 flo2 fhi2 F,e=.returned (.slice o n.l.length lc)∧OwnL w' w0.heap.size (.slice o n.l.length lc) g∧w'.cell? ⟨cb,0,none⟩=some (.int .i64 ((c2:Nat):Int))∧w'.cell? ⟨sb,9,none⟩=some (.pointer (some ⟨p,0,none⟩))∧FoO w' B F p f2 flo2 fhi2∧c0≤c2∧c2+fhi2≤H∧Below w0.heap.size w0 w'
theorem am_end (M:TsM n ao cap x w0 w1 sb lb ab pb cb p rv lo hi B b1 VA TL wA RL VS U S c f flo fhi) (hL:Lds n.l L TL) (hfl:f0.length=n.l.length) (hB:Beh n.l TL f0 g) {l4:Option Addr} {lc4:Nat} (h:AmJ n ao cap x w0 w1 sb lb ab pb cb p rv lo hi B b1 VA TL g f0 wA w TL.length c l4 lc4) (hc0:c0≤c) (hH:fhi+c≤H) :
  AmR n ao cap x w0 w1 sb lb ab pb cb p rv lo hi B b1 VA TL g w (.returned (.slice l4 n.l.length lc4)) c0 (H+TL.length):=by
 obtain ⟨k1,k2,k3,k4,k5,k6,k7,k8,k9,k10⟩:=amj_cells M h.off h.cnt
 have hrow:=Rw.own_base h.row (B':=w0.heap.size) M.low.size
 rw [List.take_length,setG_all hL hfl hB] at hrow
 have hcb:=M.ne_all.2.2.1
 have hall:=M.ne_all
 refine ⟨l4,lc4,c+TL.length,f,flo,fhi,_,rfl,hrow,k5,k4,M.fo.off h.off (fun b hb e=>?_),by omega,by omega,M.low.trans (h.off.below (B:=w0.heap.size) (fun b e=>?_) (by have:=M.low.size;omega))⟩
 ·rcases e with e | e
  ·subst e
   rcases hb with hb | hb
   ·exact hcb.2 hb
   ·omega
  ·have:=M.st.up;have:=M.st.low;have:=M.st.b0;have:=M.sz
   rcases hb with hb | hb <;> omega
 ·have:=M.low.size
  rcases e with e | e <;> omega
set_option maxHeartbeats 8000000 in
theorem amounts_any (hR:Right n) (hL:Lds n.l L TL) (hF:Okf n g) (hmn:m=n.n.toNat+1) (hfl:f0.length=n.l.length) (hB:Beh n.l TL f0 g) {fo lo':Option Addr} {fcap lc:Nat} (hf0:IRow w0 fo f0) (hlv:OwnI w1 w0.heap.size (.slice lo' TL.length lc) (encW TL)) (hlm:∀ b,(Value.slice lo' TL.length lc).ownBlock=some b→¬ Mut rv lb pb cb B b1 b)
  (h:AmI n ao cap x w0 w1 sb lb ab pb cb p rv lo hi B b1 VA TL g w 0 c0 m H) (hH2:H+TL.length≤4611686018427387904) :
  Calls Tryz.prog 107 #[.pointer (some ⟨sb,0,none⟩),.slice fo n.l.length fcap,.slice lo' TL.length lc] w fun e w'=>AmR n ao cap x w0 w1 sb lb ab pb cb p rv lo hi B b1 VA TL g w' e c0 (H+TL.length):=by
 have HI0:=hid h
 have HRD:=hid (fun w' i (hi':i<m) (h:AmI n ao cap x w0 w1 sb lb ab pb cb p rv lo hi B b1 VA TL g w' i c0 m H)=>am_round hR hL hF hi' hmn (by omega) h)
 have HRM:=hid (fun w' (h:AmI n ao cap x w0 w1 sb lb ab pb cb p rv lo hi B b1 VA TL g w' m c0 m H)=>am_rooms hR hL hmn h)
 have HD:=hid (fun w' RL VS U S c f' flo fhi (h:TsM n ao cap x w0 w1 sb lb ab pb cb p rv lo hi B b1 VA TL w' RL VS U S c f' flo fhi)=>h.tc)
 have HLOW:=hid (fun w' RL VS U S c f' flo fhi (h:TsM n ao cap x w0 w1 sb lb ab pb cb p rv lo hi B b1 VA TL w' RL VS U S c f' flo fhi)=>h.low)
 have HMORE:=hid (fun w' RL VS U S c f flo fhi (h:TsM n ao cap x w0 w1 sb lb ab pb cb p rv lo hi B b1 VA TL w' RL VS U S c f flo fhi) hc=>more_any h hc)
 have HCL:=hid (fun w' h1=>cloneL_any f0 fo n.l.length fcap w' hfl.symm h1 (by have:=hR.len;omega))
 have HFR:=hid (show ∀ w',Below w0.heap.size w0 w'→IRow w' fo f0 from fun w' hb=>hf0.kept hb)
 have HST:=hid (fun wA w' RL VS U S c f' flo fhi (M:TsM n ao cap x w0 w1 sb lb ab pb cb p rv lo hi B b1 VA TL wA RL VS U S c f' flo fhi) (hb:Below wA.heap.size wA w') l4 lc4 (ho:OwnL w' wA.heap.size (.slice l4 n.l.length lc4) f0)=>amj_start (g:=g) M hb ho)
 have HJ:=hid (fun wA w' RL VS U S c f' flo fhi (M:TsM n ao cap x w0 w1 sb lb ab pb cb p rv lo hi B b1 VA TL wA RL VS U S c f' flo fhi) hRL hrm j l4 lc4 (h:AmJ n ao cap x w0 w1 sb lb ab pb cb p rv lo hi B b1 VA TL g f0 wA w' j c l4 lc4) hj hH=>amj_round M hR hL hF hRL hrm hfl hlv hlm h hj hH)
 have HEND:=hid (fun wA w' RL VS U S c f' flo fhi (M:TsM n ao cap x w0 w1 sb lb ab pb cb p rv lo hi B b1 VA TL wA RL VS U S c f' flo fhi) l4 lc4 (h:AmJ n ao cap x w0 w1 sb lb ab pb cb p rv lo hi B b1 VA TL g f0 wA w' TL.length c l4 lc4) hc0 hH=>am_end (c0:=c0) (H:=H) M hL hfl hB h hc0 hH)
 obtain ⟨RL,VS,U,S,c,f,flo,fhi,M,hx⟩:=h
 clear hx
 obtain ⟨k0,k1,k2,k3,k4,k5,k6,k7,k8,k9,k10⟩:=M.tc
 have hNL:n.n.toNat+1=m:=hmn.symm
 rw [hNL] at HD k6 k7 k8
 have hm1:m≤1000000:=by have:=hR.n1;omega
 have HLL:=hid (show n.l.length≤2000 from hR.len)
 have HTL:=hid (show TL.length≤4611686018427387904 by omega)
 clear M hR hL hF hmn hfl hB hf0 hlv hlm hNL
 generalize hK:TL.length=K at *
 clear hK
 go_enter Tryz.func107,Tryz.ntmps107
 go_wp2
 go_loopg [7,16] m (fun gg s7 s16 wr=>(∃ z,s7=z)∧∃ i:Nat,s16=.int .i64 (i:Int)∧i+gg=m∧Hid (AmI n ao cap x w0 w1 sb lb ab pb cb p rv lo hi B b1 VA TL g wr i c0 m H))
 case atStart=>exact ⟨⟨_,rfl⟩,0,rfl,by omega,HI0⟩
 case round =>
  clear k0 k1 k2 k3 k4 k5 k6 k7 k8 k9 k10
  obtain ⟨⟨z7,rfl⟩,i,rfl,hig,HI⟩:=hrel
  by_cases hin:i<m
  ·obtain ⟨RL,VS,U,S,c,f,flo,fhi,M,hc,hAB⟩:=HRD.out wr i hin HI.out
   have HAB:=hid hAB
   have HMO:=hid (HMORE.out _ _ _ _ _ _ _ _ _ M hc)
   obtain ⟨k0,k1,k2,k3,k4,k5,k6,k7,k8,k9,k10⟩:=HD.out _ _ _ _ _ _ _ _ _ M
   have hii:(i:Int)<(m:Int):=by omega
   have hi0:(0:Int)≤(i:Int):=by omega
   have hw1:IntKind.i64.wrap ((i:Int)+1)=((i+1:Nat):Int):=by rw [IntKind.wrap_i64];omega
   clear M hc hAB
   go_wp2_with fail
   refine HMO.out.mono ?_
   rintro e w3 ⟨rfl,M3⟩
   clear k0 k1 k2 k3 k4 k5 k6 k7 k8 k9 k10
   obtain ⟨k0,k1,k2,k3,k4,k5,k6,k7,k8,k9,k10⟩:=HD.out _ _ _ _ _ _ _ _ _ M3
   have HA3:=hid (HAB.out _ M3)
   clear M3
   go_wp2_with fail
   refine HA3.out.mono ?_
   rintro e w4 ⟨z,rfl,hz⟩
   clear k0 k1 k2 k3 k4 k5 k6 k7 k8 k9 k10
   rcases hz with ⟨rfl,h4⟩ | ⟨hz,⟨RL4,VS4,U4,S4,c4,f4,flo4,fhi4,M4⟩,h5⟩
   ·have H4:=hid h4
    clear h4
    go_wp2
    go_roundg (m-(i+1))
    case measure=>omega
    case rel=>exact ⟨⟨_,rfl⟩,i+1,rfl,by omega,H4⟩
   ·have H5:=hid h5
    obtain ⟨k0,k1,k2,k3,k4,k5,k6,k7,k8,k9,k10⟩:=HD.out _ _ _ _ _ _ _ _ _ M4
    have hzz:(z != -1)=true:=by simpa using hz
    clear M4 h5
    go_wp2_with fail
    refine H5.out.mono ?_
    rintro e w5 ⟨rfl,h6⟩
    have H6:=hid h6
    clear h6 k0 k1 k2 k3 k4 k5 k6 k7 k8 k9 k10
    go_wp2
    go_roundg (m-(i+1))
    case measure=>omega
    case rel=>exact ⟨⟨_,rfl⟩,i+1,rfl,by omega,H6⟩
  ·obtain rfl:i=m:=by omega
   obtain ⟨RL,VS,U,S,c,f,flo,fhi,M,hc0,hcH,hRL,hrm⟩:=HRM.out wr HI.out
   have HRL:=hid hRL
   have HRR:=hid hrm
   have HM:=hid M
   have HC0:=hid hc0
   have HCH:=hid hcH
   have HC:=hid (HCL.out wr (HFR.out _ (HLOW.out _ _ _ _ _ _ _ _ _ M)))
   have HH2:=hid hH2
   clear M hc0 hcH hRL hrm hin hig hH2
   go_wp2_with fail
   refine HC.out.mono ?_
   rintro e w4 ⟨l4,lc4,rfl,ho4,hb4⟩
   have HJ0:=hid (HST.out _ _ _ _ _ _ _ _ _ _ HM.out hb4 _ _ ho4)
   clear ho4 hb4
   go_wp2
   go_loopg [10,39] K (fun gg s10 s39 wr2=>(∃ z,s10=z)∧∃ j:Nat,s39=.int .i64 (j:Int)∧j+gg=K∧Hid (AmJ n ao cap x w0 w1 sb lb ab pb cb p rv lo hi B b1 VA TL g f0 wr wr2 j c l4 lc4))
   case atStart=>exact ⟨⟨_,rfl⟩,0,rfl,by omega,HJ0⟩
   case round =>
    obtain ⟨⟨z10,rfl⟩,j,rfl,hjg,HJJ⟩:=hrel
    by_cases hjn:j<K
    ·obtain ⟨r,q,lbk,gr,rc,gb,arb,aro,X,rfl,hl0,hq,hql,hrl,hs10,rfl,rfl,rfl,hX0,hX1,hcap,hcall⟩:=HJ.out _ _ _ _ _ _ _ _ _ _ HM.out HRL.out HRR.out j l4 lc4 HJJ.out hjn (by have:=HCH.out;have:=HH2.out;omega)
     have HCALL:=hid hcall
     have htd:=tdiv2 hq
     have htm:=tmod2 r
     have hji:(j:Int)<(K:Int):=by omega
     have hj0:(0:Int)≤(j:Int):=by omega
     have hri:(r:Int)<(RL.length:Int):=by omega
     have hr0:(0:Int)≤(r:Int):=by omega
     have hqi:(q:Int)<(n.l.length:Int):=by omega
     have hq0:(0:Int)≤(q:Int):=by omega
     have hw1:IntKind.i64.wrap ((j:Int)+1)=((j+1:Nat):Int):=by have:=HTL.out;rw [IntKind.wrap_i64];omega
     have hwq:IntKind.i64.wrap (q:Int)=(q:Int):=by have:=hcap;rw [IntKind.wrap_i64];have:=HLL.out;omega
     have hw2:IntKind.i64.wrap ((arcAt n.l q).cap-X)=(arcAt n.l q).cap-X:=by rw [IntKind.wrap_i64];omega
     clear hcall hq HJJ
     go_wp2_with fail
     refine HCALL.out.mono ?_
     rintro e w3 ⟨rfl,c4,cr,⟨y,cy⟩,fy,hodd,heven⟩
     clear hl0 hs10
     by_cases ho:r % 2=1
     ·have HO:=hid (hodd ho)
      rw [ho] at htm
      clear hodd heven ho
      go_wp2
      go_roundg (K-(j+1))
      case measure=>omega
      case rel=>exact ⟨⟨_,rfl⟩,j+1,rfl,by omega,HO⟩
     ·have HE:=hid (heven ho)
      rw [show r % 2=0 by omega] at htm
      clear hodd heven ho
      go_upto_region 14 with fail
      generalize hw4:(w3.setCell ⟨gb,q,none⟩ (.int .i64 X))=w4 at *
      obtain ⟨d0,d1,d2,d3,⟨y4,d4⟩,d5,d6⟩:=HE.out _ rfl
      have H6:=hid d6
      clear d6 HE hw4 c4 cr cy fy
      have H7:=hid (amj_drew H6.out)
      clear H6
      go_wp2
      go_region
      go_wp2
      go_roundg (K-(j+1))
      case measure=>omega
      case rel=>exact ⟨⟨_,rfl⟩,j+1,rfl,by omega,H7⟩
    ·obtain rfl:j=K:=by omega
     have HE:=hid (HEND.out _ _ _ _ _ _ _ _ _ _ HM.out _ _ HJJ.out HC0.out HCH.out)
     clear HJJ
     go_wp2
     go_ret
     exact HE.out
end
end Ne
end Go.Proofs.YtoadkckceladgaaGreat
