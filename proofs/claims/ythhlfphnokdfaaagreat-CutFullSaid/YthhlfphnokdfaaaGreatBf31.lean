/-
  Tsr, Res3, Rfp6
-/
import Derived.Test.YthhlfphnokdfaaaGreatBf29
import Derived.Test.YthhlfphnokdfaaaGreatBf30
import Derived.RegionTactic
import Derived.Deep.QuietTactic
import Derived.BigQuiet
import Derived.BigRegion
import Derived.Deep.DeepCutAuto
import Derived.Deep.LoopGhost
import Derived.Test.YthhlfphnokdfaaaGreatBf8
import Derived.Test.YthhlfphnokdfaaaGreatBf5
import Derived.WalkMore
import Derived.Test.YthhlfphnokdfaaaGreatBf13
set_option linter.unusedVariables false
set_option linter.unusedSimpArgs false
set_option maxRecDepth 100000
set_option maxHeartbeats 4000000
namespace Go.Proofs.YthhlfphnokdfaaaGreat
open Go.ChangeShapes Go.WideShapes Go.ChangeAt Go.RowKit
open Lib (hid)
namespace Ne
open Sp (Off Ext)
open Fo (Ft FoO fc)
def HangI (n:Net) (ao:Option Addr) (cap:Nat) (x:Int) (w0 w1:World) (sb lb ab pb cb p:Nat) (rv:Value) (lo hi B b1:Nat) (VA:Nat→Value) (TL:List Nat) (w':World) (RL:List Int) (S:List Bool) (v k c0 m H:Nat) (g:List Int) (f:Ft) (flo fhi:Nat):Prop :=
 ∃ VS U c,TsM n ao cap x w0 w1 sb lb ab pb cb p rv lo hi B b1 VA TL w' RL VS U S c f flo fhi∧Tre n TL g x U f RL S∧(U v).length=k∧c0≤c∧fhi+c+(fc m+1)*psi n TL g x U f S (aheadN n TL)≤H
def HangR (n:Net) (ao:Option Addr) (cap:Nat) (x:Int) (w0 w1:World) (sb lb ab pb cb p:Nat) (rv:Value) (lo hi B b1:Nat) (VA:Nat→Value) (TL:List Nat) (w':World) (RL:List Int) (S:List Bool) (v c0 m H:Nat) (g:List Int) (f:Ft) (flo fhi:Nat) (b:Bool):Prop :=
 match b with
 | false=>∃ VS U c,TsM n ao cap x w0 w1 sb lb ab pb cb p rv lo hi B b1 VA TL w' RL VS U S c f flo fhi∧Tre n TL g x U f RL S∧U v=[]∧c0≤c∧fhi+c+(fc m+1)*psi n TL g x U f S (aheadN n TL)≤H
 | true=>∃ VS U c f2 flo2 fhi2,TsM n ao cap x w0 w1 sb lb ab pb cb p rv lo hi B b1 VA TL w' RL VS U S c f2 flo2 fhi2∧Tre n TL g x U f2 RL S∧f2.v.length=m∧(∀ y u,f2.up y=some u→S.getD u false=false)∧c0≤c∧fhi2+c+(fc m+1)*psi n TL g x U f2 S (aheadN n TL)+(fc m+1)≤H
section
variable {n:Net} {ao:Option Addr} {cap:Nat} {x:Int} {w0 w1:World} {sb lb ab pb cb p:Nat} {rv:Value} {lo hi B b1:Nat} {VA:Nat→Value} {TL:List Nat}
variable {w w2:World} {RL:List Int} {VS:Nat→Value} {U:Nat→List Nat} {S:List Bool} {c:Nat} {f f2:Ft} {flo fhi flo2 fhi2:Nat} {m H:Nat} {g:List Int} {L:List Int} {A:Nat→Nat}
theorem hang_round (hR:Right n) (hL:Lds n.l L TL) (hF:Okf n g) {v k c0:Nat} (hv:v<n.n.toNat+1) (hvt:v≠n.t.toNat) (hup:f.up v=none) (hK:∀ y u,f.up y=some u→S.getD u false=false) (hm:f.v.length=m) (hH2:H≤4611686018427387904) (h:HangI n ao cap x w0 w1 sb lb ab pb cb p rv lo hi B b1 VA TL w RL S v k c0 m H g f flo fhi) :
  (k=0∧HangR n ao cap x w0 w1 sb lb ab pb cb p rv lo hi B b1 VA TL w RL S v c0 m H g f flo fhi false∧∃ VS U c o rc,TsM n ao cap x w0 w1 sb lb ab pb cb p rv lo hi B b1 VA TL w RL VS U S c f flo fhi∧w.cell? ⟨lb,v,none⟩=some (.slice o 0 rc)) ∨
  (∃ VS U c r b off rc t,TsM n ao cap x w0 w1 sb lb ab pb cb p rv lo hi B b1 VA TL w RL VS U S c f flo fhi∧w.cell? ⟨lb,v,none⟩=some (.slice (some ⟨b,off,none⟩) k rc)∧0<k∧k≤rc∧rc≤maxLen∧r<2*n.l.length∧t=(trT n.l r).toNat∧t<n.n.toNat+1∧0≤amt RL r∧amt RL r≤4611686018427387903∧c≤4611686018427387904∧r<RL.length∧lo≤b∧b<hi ∧
   (∀ w' c',TsM n ao cap x w0 w1 sb lb ab pb cb p rv lo hi B b1 VA TL w' RL VS U S c' f flo fhi→w'.cell? ⟨lb,v,none⟩=some (.slice (some ⟨b,off,none⟩) k rc)∧w'.frozen? ⟨lb,v,none⟩=false∧w'.cell? ⟨b,off,none⟩=some (.int .i64 (r:Int))∧w'.cell? ⟨pb,t,none⟩=some (.bool (S.getD t false))) ∧
   (x≤amt RL r→S.getD t false=false→∀ w',TsM n ao cap x w0 w1 sb lb ab pb cb p rv lo hi B b1 VA TL w' RL VS U S (c+1) f flo fhi→Calls Tryz.prog 111 #[.pointer (some ⟨p,0,none⟩),.int .i64 (v:Int),.int .i64 (amt RL r-4611686018427387904)] w' fun e w3=>∃ z,e=.returned (.int .i64 z)∧(∃ f2 flo2 fhi2,TsM n ao cap x w0 w1 sb lb ab pb cb p rv lo hi B b1 VA TL w3 RL VS U S (c+1) f2 flo2 fhi2) ∧
    Calls Tryz.prog 112 #[.pointer (some ⟨p,0,none⟩),.int .i64 (v:Int),.int .i64 (t:Int)] w3 fun e w4=>∃ z,e=.returned (.int .i64 z)∧HangR n ao cap x w0 w1 sb lb ab pb cb p rv lo hi B b1 VA TL w4 RL S v c0 m H g f flo fhi true) ∧
   (¬ (x≤amt RL r∧S.getD t false=false)→∀ w',TsM n ao cap x w0 w1 sb lb ab pb cb p rv lo hi B b1 VA TL w' RL VS U S (c+1) f flo fhi→∀ a,(k=1∨a=some ⟨b,off+1,none⟩)→HangI n ao cap x w0 w1 sb lb ab pb cb p rv lo hi B b1 VA TL (w'.setCell ⟨lb,v,none⟩ (.slice a (k-1) (rc-1))) RL S v (k-1) c0 m H g f flo fhi)):=by
 obtain ⟨VS,U,c,M,T,hk,hc0,hc⟩:=h
 cases hU:U v with
 | nil =>
  left
  rw [hU] at hk
  obtain ⟨e1,o,rc,e2⟩:=M.nil hv hU
  exact ⟨hk.symm,⟨VS,U,c,M,T,hU,hc0,hc⟩,VS,U,c,o,rc,M,by rw [e1,e2]⟩
 | cons r T' =>
  right
  rw [hU,List.length_cons] at hk
  obtain ⟨e1,e2,b,off,rc,e3,e4,e5,e6,e7,e8,e9⟩:=M.head hv hU
  obtain ⟨h1,h2⟩:=T.srch.sub v hv r (by rw [hU];simp)
  have hr:=hL.lt r h1
  have b2:=trT_bd hR hr
  have hrl:r<RL.length:=by rw [T.rlen];exact hr
  obtain ⟨g1,g2,g3,g4⟩:=tre_hang hR hL hF.wi T hv hvt hup hU
  obtain ⟨n1,n2⟩:=Tre.rnn hR hL hF.wi r h1
  rw [← g1] at n1 n2
  have hdrop:=fun hx=>tre_drop hR hL T hv hup hU hx
  have hpd:=cost_le (C:=fc m+1) (psi_drop (A:=aheadN n TL) T hv hup hU)
  have hcf:(trT n.l r)=(((trT n.l r).toNat:Nat):Int):=by omega
  obtain ⟨t,ht⟩:∃ t,t=(trT n.l r).toNat:=⟨_,rfl⟩
  rw [← ht] at hcf g2 g4 hdrop
  rw [hcf] at g3 g4
  rw [e3] at e1 e9
  refine ⟨VS,U,c,r,b,off,rc,t,M,by rw [e1,hk],by omega,by omega,e5,hr,ht,g2,n1,n2,by omega,hrl,e6,e7,fun w' c' M'=>?_,fun hx hs w' M'=>?_,fun hx w' M' a ha=>?_⟩
  ·obtain ⟨k1,k2,b',off',rc',k3,k4,k5,k6,k7,k8,_⟩:=M'.head hv hU
   rw [e3] at k3
   simp only [Value.slice.injEq,Option.some.injEq,Addr.mk.injEq,and_true,true_and] at k3
   obtain ⟨⟨rfl,rfl⟩,rfl⟩:=k3
   exact ⟨by rw [k1,e3,hk],k2,k8,(M'.marks T.slen g2).1⟩
  ·have hph:=cost_le (C:=fc m+1) (psi_hang (A:=aheadN n TL) (TL:=TL) (n:=n) (g:=g) (x:=x) (S:=S) hv hup hU (by rw [← g1];exact hx) (by rw [← ht];exact hs) g4)
   refine (M'.add hm (v:Int) (amt RL r-4611686018427387904) (by omega)).mono ?_
   rintro e w3 ⟨rfl,flo3,M3⟩
   refine ⟨_,rfl,⟨_,_,_,M3⟩,(M3.link (m:=m) (by rw [addSF_len];exact hm) (v:Int) (t:Int)).mono ?_⟩
   rintro e w4 ⟨rfl,flo4,M4⟩
   refine ⟨_,rfl,VS,U,c+1,_,flo4,_,M4,g3,?_,fun y u hy=>?_,by omega,by omega⟩
   ·rw [g3.len,← T.len,hm]
   ·rw [g4] at hy
    split at hy
    ·cases hy;exact hs
    ·exact hK y u hy
  ·have hT:=hdrop hx
   have hrow:RowOf w' lo hi (.slice a (k-1) (rc-1)) T':=by
    have hh:=M'.rows.each v hv
    rw [hU] at hh
    obtain ⟨A',c',q1,q2,q3,q4⟩:=hh
    rw [e3] at q1
    simp only [Value.slice.injEq] at q1
    obtain ⟨q5,q6,q7⟩:=q1
    rcases q4 with q4 | ⟨b',off',q8,q9,q10,q11⟩
    ·cases q4
    ·rw [← q5] at q8
     simp only [Option.some.injEq,Addr.mk.injEq,and_true] at q8
     obtain ⟨rfl,rfl⟩:=q8
     refine ⟨a,rc-1,by congr 1;omega,by omega,by omega,?_⟩
     rcases ha with ha | ha
     ·left
      rw [ha] at hk
      exact List.eq_nil_of_length_eq_zero (by omega)
     ·right
      refine ⟨b,off+1,ha,q9,q10,fun i hil=>?_⟩
      rw [show off+1+i=off+(i+1) by omega,q11 (i+1) (by simp;omega)]
      simp [List.getD]
   refine ⟨_,_,c+1,M'.put hv hrow,hT,?_,by omega,by omega⟩
   simp only [if_true]
   omega
set_option maxHeartbeats 8000000 in
theorem hang_any (M:TsM n ao cap x w0 w1 sb lb ab pb cb p rv lo hi B b1 VA TL w RL VS U S c f flo fhi) (T:Tre n TL g x U f RL S) (hR:Right n) (hL:Lds n.l L TL) (hF:Okf n g) {v:Nat} (hv:v<n.n.toNat+1) (hvt:v≠n.t.toNat) (hup:f.up v=none) (hK:∀ y u,f.up y=some u→S.getD u false=false) (hm:f.v.length=m) (hH:fhi+c+(fc m+1)*psi n TL g x U f S (aheadN n TL)≤H) (hH2:H≤4611686018427387904) :
  Calls Tryz.prog 102 #[.pointer (some ⟨sb,0,none⟩),.int .i64 (v:Int)] w fun e w'=>∃ b,e=.returned (.bool b)∧HangR n ao cap x w0 w1 sb lb ab pb cb p rv lo hi B b1 VA TL w' RL S v c m H g f flo fhi b:=by
 have HI0:=hid (show HangI n ao cap x w0 w1 sb lb ab pb cb p rv lo hi B b1 VA TL w RL S v (U v).length c m H g f flo fhi from ⟨VS,U,c,M,T,rfl,Nat.le_refl _,hH⟩)
 have HRD:=hid (fun w' k (h:HangI n ao cap x w0 w1 sb lb ab pb cb p rv lo hi B b1 VA TL w' RL S v k c m H g f flo fhi)=>hang_round hR hL hF hv hvt hup hK hm hH2 h)
 have HD:=hid (fun w' VS U c f' flo fhi (h:TsM n ao cap x w0 w1 sb lb ab pb cb p rv lo hi B b1 VA TL w' RL VS U S c f' flo fhi)=>h.tc)
 have HMORE:=hid (fun w' VS U c (h:TsM n ao cap x w0 w1 sb lb ab pb cb p rv lo hi B b1 VA TL w' RL VS U S c f flo fhi) hc=>more_any h hc)
 have HEN:=hid (show ∀ w' r,ARow w' ao n.l→r<2*n.l.length→Calls Tryz.prog 49 #[.agg #[.int .i64 n.n,.int .i64 n.s,.int .i64 n.t,.slice ao n.l.length cap],.int .i64 (r:Int)] w' fun e w2=>∃ q:Int,e=.returned (.tuple #[.int .i64 q,.int .i64 (((trT n.l r).toNat:Nat):Int)])∧Below w'.heap.size w' w2 from fun w' r h1 h2=>by
  refine (ends_nat n ao cap r w' hR h1 h2).mono ?_
  rintro e w2 ⟨rfl,hb⟩
  exact ⟨_,rfl,hb⟩)
 have hvi:(v:Int)<(n.n.toNat:Int)+1:=by omega
 have hv0:(0:Int)≤(v:Int):=by omega
 clear M T hR hL hF hv hvt hup hK hm hH hH2
 generalize hKK:(U v).length=K at *
 clear hKK
 go_enter Tryz.func102,Tryz.ntmps102
 go_wp2
 go_loopg [5,6,7] K (fun k s5 s6 s7 wr=>(∃ z,s5=z)∧(∃ z,s6=z)∧(∃ z,s7=z)∧∃ kk,kk=k∧Hid (HangI n ao cap x w0 w1 sb lb ab pb cb p rv lo hi B b1 VA TL wr RL S v kk c m H g f flo fhi))
 case atStart=>exact ⟨⟨_,rfl⟩,⟨_,rfl⟩,⟨_,rfl⟩,_,rfl,HI0⟩
 case round =>
  obtain ⟨⟨z5,rfl⟩,⟨z6,rfl⟩,⟨z7,rfl⟩,k,rfl,HI⟩:=hrel
  rcases HRD.out _ _ HI.out with ⟨rfl,hE,VS1,U1,c1,o,rc,M1,u0⟩ | ⟨VS1,U1,c1,r,b,off,rc,t,M1,u0,hk0,hkr,hrm,hr,ht,htn,hn1,hn2,hc1,hrl,hb1,hb2,hcell,hhang,hdrop⟩
  ·obtain ⟨k0,k1,k2,k3,k4,k5,k6,k7,k8,k9,k10⟩:=HD.out _ _ _ _ _ _ _ M1
   have HE:=hid hE
   clear hE M1
   go_wp2
   go_ret
   exact ⟨false,rfl,HE.out⟩
  ·obtain ⟨k0,k1,k2,k3,k4,k5,k6,k7,k8,k9,k10⟩:=HD.out _ _ _ _ _ _ _ M1
   have HMO:=hid (HMORE.out _ _ _ _ M1 hc1)
   have HCELL:=hid hcell
   have HHANG:=hid hhang
   have HDROP:=hid hdrop
   have HT:=hid ht
   have hki:(0:Int)<(k:Int):=by omega
   clear hcell hhang hdrop M1 hc1 ht
   go_wp2_with fail
   refine HMO.out.mono ?_
   rintro e w3 ⟨rfl,M3⟩
   clear k0 k1 k2 k3 k4 k5 k6 k7 k8 k9 k10 u0
   obtain ⟨k0,k1,k2,k3,k4,k5,k6,k7,k8,k9,k10⟩:=HD.out _ _ _ _ _ _ _ M3
   obtain ⟨u0,u1,u2,u3⟩:=HCELL.out _ _ M3
   have HM3:=hid M3
   have HE3:=hid (HEN.out _ r M3.row hr)
   rw [← HT.out] at HE3
   clear M3
   go_wp2_with fail
   refine HE3.out.mono ?_
   rintro e w4 ⟨q,rfl,hb⟩
   have M4:=HM3.out.grow hb
   clear k0 k1 k2 k3 k4 k5 k6 k7 k8 k9 k10 u0 u1 u2 u3 hb
   obtain ⟨k0,k1,k2,k3,k4,k5,k6,k7,k8,k9,k10⟩:=HD.out _ _ _ _ _ _ _ M4
   obtain ⟨u0,u1,u2,u3⟩:=HCELL.out _ _ M4
   obtain ⟨g0,rc0,hrv,hgl,r0,r1,_⟩:=M4.note hrl
   have HM4:=hid M4
   clear M4
   subst hrv
   have hri:(r:Int)<(RL.length:Int):=by omega
   have hr0:(0:Int)≤(r:Int):=by omega
   have hti:(t:Int)<(n.n.toNat:Int)+1:=by omega
   have ht0:(0:Int)≤(t:Int):=by omega
   have hw1:IntKind.i64.wrap (amt RL r-4611686018427387904)=amt RL r-4611686018427387904:=by rw [IntKind.wrap_i64];omega
   generalize hst:S.getD t false=st at *
   generalize amt RL r=X at *
   obtain ⟨cnd,hcnd⟩:∃ cnd:Bool,cnd=(decide (x≤X) && !st):=⟨_,rfl⟩
   have HCND:=hid hcnd
   clear hcnd
   go_upto_region 5 with fail
   go_cut [61] (fun s wc=>s=.bool cnd∧Hid (TsM n ao cap x w0 w1 sb lb ab pb cb p (.slice (some ⟨g0,0,none⟩) RL.length rc0) lo hi B b1 VA TL wc RL VS1 U1 S (c1+1) f flo fhi)∧wc.cell? ⟨g0,r,none⟩=some (.int .i64 X))
   case first =>
    by_cases cx:x≤X
    ·have hle:decide (x≤X)=true:=by simpa using cx
     rcases st with _ | _
     ·obtain rfl:cnd=true:=by rw [HCND.out,hle];rfl
      go_quiet (fail)
      go_wp2
      go_meet
      case rel=>exact ⟨rfl,hid (HM4.out.grow (below_dn (Below.refl _ _) _)),r0⟩
     ·obtain rfl:cnd=false:=by rw [HCND.out,hle];rfl
      go_quiet (fail)
      go_wp2
      go_meet
      case rel=>exact ⟨rfl,hid (HM4.out.grow (below_dn (Below.refl _ _) _)),r0⟩
    ·have hle:decide (x≤X)=false:=by simpa using cx
     obtain rfl:cnd=false:=by rw [HCND.out,hle];rfl
     go_quiet (fail)
     go_wp2
     go_meet
     case rel=>exact ⟨rfl,hid (HM4.out.grow (below_dn (Below.refl _ _) _)),r0⟩
   case rest =>
    obtain ⟨rfl,HM5,r5⟩:=hcut
    clear k0 k1 k2 k3 k4 k5 k6 k7 k8 k9 k10 u0 u1 u2 u3 r0 r1 HM4
    obtain ⟨k0,k1,k2,k3,k4,k5,k6,k7,k8,k9,k10⟩:=HD.out _ _ _ _ _ _ _ HM5.out
    obtain ⟨u0,u1,u2,u3⟩:=HCELL.out _ _ HM5.out
    cases cnd
    ·clear HHANG
     have HDR:=hid (HDROP.out (fun h=>by
      obtain ⟨h1,h2⟩:=h
      have h3:=HCND.out
      rw [h2] at h3
      simp [h1] at h3) _ (HM5.out.grow (below_drew (Below.refl _ _))))
     clear HDROP HM5
     have hk1:1≤k:=hk0
     have hk1i:(1:Int)≤(k:Int):=by omega
     have hrc1:k≤rc:=hkr
     by_cases hr1:rc=1
     ·have hkk:k=1:=by omega
      subst hr1
      subst hkk
      have HD3:=hid (HDR.out (some ⟨b,off,none⟩) (.inl rfl))
      clear HDR hk1 hk1i hrc1 hk0 hkr hki
      go_wp2
      go_region
      go_wp2
      go_roundg 0
      case measure=>omega
      case rel=>exact ⟨⟨_,rfl⟩,⟨_,rfl⟩,⟨_,rfl⟩,_,rfl,hid HD3.out⟩
     ·have HDR2:=hid (HDR.out (some ⟨b,off+1,none⟩) (.inr rfl))
      clear HDR
      go_wp2
      go_region
      go_wp2
      go_roundg (k-1)
      case measure=>omega
      case rel=>exact ⟨⟨_,rfl⟩,⟨_,rfl⟩,⟨_,rfl⟩,_,rfl,hid HDR2.out⟩
    ·clear HDROP
     obtain ⟨cx,hs0⟩:x≤X∧st=false:=by
      have h3:=HCND.out
      rcases st with _ | _
      ·simp at h3
       exact ⟨h3,rfl⟩
      ·simp at h3
     have HHA:=hid (HHANG.out cx hs0 _ (HM5.out.grow (below_drew (Below.refl _ _))))
     clear HHANG HM5
     go_wp2_with fail
     go_region_with (go_at_call 111;refine HHA.out.mono ?_;rintro e w6 ⟨z6,rfl,⟨f6,fl6,fh6,M6⟩,hlk⟩;have HLK:=hid hlk;clear k0 k1 k2 k3 k4 k5 k6 k7 k8 k9 k10;obtain ⟨k0,k1,k2,k3,k4,k5,k6,k7,k8,k9,k10⟩:=HD.out _ _ _ _ _ _ _ M6;clear hlk M6)
     all_goals
      go_wp2_with fail
      refine HLK.out.mono ?_
      rintro e w7 ⟨z7,rfl,hR7⟩
      have HR7:=hid hR7
      clear hR7 k0 k1 k2 k3 k4 k5 k6 k7 k8 k9 k10
      go_wp2
      go_ret
      exact ⟨true,rfl,HR7.out⟩
end
end Ne
namespace Ne
structure WalkTells (n:Net) (W:List Int) (WA:Nat→Option Int):Prop where
 zero:WA 0=some n.s
 yes:∀ k u,k<W.length→WA k=some u→enF n.l (amt W k)=u→WA (k+1)=some (enT n.l (amt W k))
 no:∀ k u,k<W.length→WA k=some u→enF n.l (amt W k)≠u→isWalk n W=false
 all:∀ u,WA W.length=some u→isWalk n W=decide (u=n.t)
theorem walk_tells (n:Net) (W:List Int):WalkTells n W (fun k=>walkAt n.l n.s (W.take k)) :=
 ⟨rfl,fun k u hk h e=>by rw [walkAt_take hk,h];unfold stW;simp [e],
  fun k u hk h e=>isWalk_no (k:=k+1) (by (try simp only at h);rw [walkAt_take hk,h];unfold stW;simp [e]),
  fun u h=>by (try simp only [List.take_length] at h);exact isWalk_end h⟩
theorem iswalk_any (n:Net) (ao:Option Addr) (cap:Nat) (wo:Option Addr) (wc:Nat) (W:List Int) (w:World) (hr:ARow w ao n.l) (hw:IRow w wo W) (hl:n.l.length≤1000000) (hW:W.length≤1000000) (h64:∀ x∈W,in64 x) :
  Calls Tryz.prog 88 #[encN n ao cap,.slice wo W.length wc] w fun e w'=>e=.returned (.bool (isWalk n W))∧Below w.heap.size w w':=by
 have HEN:=hid (fun (x:Int) (h:in64 x) w' h1=>ends_any n ao cap x w' h1 hl h)
 obtain ⟨WA,hWA⟩:∃ WA,WalkTells n W WA:=⟨_,walk_tells n W⟩
 have HT:=hid hWA
 have H64:=hid (show ∀ k,k<W.length→in64 (amt W k) from fun k hk=>h64 _ (by have:=at_amt hk;exact List.mem_of_getElem? this))
 have HZ:=hid HT.out.zero
 have HY:=hid HT.out.yes
 have HNO:=hid HT.out.no
 have HA:=hid HT.out.all
 clear hWA HT h64
 generalize isWalk n W=R at *
 generalize hE1:enF n.l=EF at *
 generalize hE2:enT n.l=ET at *
 clear hE1 hE2
 obtain ⟨nn,ns,nt,l⟩:=n
 simp only at hr hl HEN HZ HA ⊢
 have HB0:=hid ((Below.refl w.heap.size w).alloc (Nat.le_refl _) (.cells #[.int .i64 nn,.int .i64 ns,.int .i64 nt,.slice ao l.length cap] 27))
 have HN0:=hid (netBox_new w nn ns nt (.slice ao l.length cap))
 have HR:=hid hr
 have HW:=hid hw
 clear hr hw
 obtain ⟨n0,n1,n2,n3⟩:=netBox_cells HN0.out
 go_enter Tryz.func88,Tryz.ntmps88
 go_wp2
 clear n0 n1 n2 n3
 go_loopw [5,14] (fun s i wr=>∃ (u:Int) (k:Nat),s=.int .i64 u∧i=.int .i64 k∧k≤W.length∧Hid (WA k=some u)∧Hid (Below w.heap.size w wr)∧Hid (NetBox wr w.heap.size nn ns nt (.slice ao l.length cap))) (fun _ i _=>W.length-(intOf i).toNat)
 case atStart=>exact ⟨_,0,rfl,rfl,Nat.zero_le _,HZ,HB0,HN0⟩
 case round =>
  obtain ⟨u,k,rfl,rfl,hk,HU,HBW,HNW⟩:=hrel
  obtain ⟨n0,n1,n2,n3⟩:=netBox_cells HNW.out
  by_cases hlt:k<W.length
  ·obtain ⟨b,off,rfl,hbl,d0⟩:=irow_cell (HW.out.kept HBW.out) hlt
   have EN:=hid (HEN.out _ (H64.out k hlt))
   have HY1:=hid (HY.out k u hlt HU.out)
   have HN1:=hid (HNO.out k u hlt HU.out)
   generalize amt W k=x at *
   generalize EF x=p at *
   generalize ET x=q at *
   have hki:(k:Int)<(W.length:Int):=by omega
   have hk0:(0:Int)≤(k:Int):=by omega
   go_wp2_with fail
   refine (EN.out _ (HR.out.kept HBW.out)).mono ?_
   rintro e w2 ⟨rfl,hb⟩
   have HB2:=hid (HBW.out.trans (hb.mono HBW.out.size))
   have HN2:=hid (netBox_below HNW.out hb (netBox_lt HNW.out))
   clear hb n0 n1 n2 n3 d0
   by_cases c:p=u
   ·have c':(p == u)=true:=by simpa using c
    have cn:(p != u)=false:=by simpa using c
    have HU2:=hid (HY1.out c)
    clear c
    go_wp2
    go_roundw
    case rel=>exact ⟨_,k+1,rfl,by go_num,by omega,HU2,HB2,HN2⟩
    case measure=>simp [intOf];omega
   ·have c':(p == u)=false:=by simpa using c
    have cn:(p != u)=true:=by simpa using c
    have HE:=hid (HN1.out c)
    clear c
    go_wp2
    go_ret
    exact ⟨retB HE.out.symm,HB2.out⟩
  ·have ek:k=W.length:=by omega
   subst ek
   have HE:=hid (HA.out u HU.out)
   go_wp2
   go_ret
   refine ⟨retB ?_,HBW.out⟩
   rw [HE.out]
   by_cases c:u=nt
   ·simp [c]
   ·simp [c]
theorem clonel_any (l:List Int) (ao:Option Addr) (n cap:Nat) (w:World) (hn:n=l.length) (hr:IRow w ao l) (hl:l.length≤1000000) (h0:0<l.length) :
  Calls Tryz.prog 37 #[.slice ao n cap] w fun e w'=>∃ g c,e=.returned (.slice (some ⟨g,0,none⟩) n c)∧OwnL w' w.heap.size (.slice (some ⟨g,0,none⟩) n c) l∧Below w.heap.size w w':=by
 have q:∀ (w:World) (a:Option Addr) (n c n' c':Nat),(binOp .eql 29 (.slice a n c) (.slice none n' c')).run Tryz.prog w=.ok (.bool a.isNone) w:=fun w a n c n' c'=>Lib.run_eql_slice_nil w _ _ a n c n' c' Tryz.underlying29
 subst hn
 obtain ⟨b,off,rfl,_,_⟩:=irow_cell hr h0
 have HR:=hid (hr.kept ((Below.refl _ _).alloc (Nat.le_refl _) (.cells #[] 2)))
 have HL:=hid (show ([]:List Int).length+l.length≤1099511627776 by simp;omega)
 have H0:=hid h0
 clear hr hl h0
 go_enter Tryz.func37,Tryz.ntmps37
 go_wp2_with (at_builtin;refine Rw.app elemL encI_len encI_one rfl (.tmp 5) (.tmp 6) rfl w.heap.size _ ([]:List Int) rfl (own_empty w _ (Nat.le_refl _)) (some ⟨b,off,none⟩) cap l rfl ?hnn HR.out HL.out ?hB ?_;(case hnn=>(intro h;cases h));(case hB=>(simp));intro v2 w2 hown2 hgr2;have HO2:=hid hown2;have HB2:=hid (((Below.refl w.heap.size w).alloc (Nat.le_refl _) (.cells #[] 2)).grown hgr2 (by simp) (Rw.own_block (own_empty (α:=Int) (k:=1) (enc:=encI) (e:=2) w w.heap.size (Nat.le_refl _))));clear hown2 hgr2)
 go_ret
 have h:=HO2.out
 rw [List.nil_append] at h
 obtain ⟨g,c,rfl,_,_⟩:=ownL_row' h H0.out
 exact ⟨g,c,rfl,h,HB2.out⟩
structure PushTells (n:Net) (f W:List Int) (x:Int) (PA:Nat→Option (List Int)):Prop where
 zero:PA 0=some f
 trk:∀ k,k<W.length→∃ r:Nat,amt W k=(r:Int)∧r<2*n.l.length
 yes:∀ k F r,k<W.length→amt W k=((r:Nat):Int)→PA k=some F→x≤roomN n.l F r→PA (k+1)=some (put1 F x r)
 no:∀ k F r,k<W.length→amt W k=((r:Nat):Int)→PA k=some F→roomN n.l F r<x→pushN n.l f x W=none
 all:PA W.length=pushN n.l f x W
 fine:∀ k F,k≤W.length→PA k=some F→F.length=n.l.length∧wi n.l F
theorem push_tells {n:Net} (hR:Right n) {f W:List Int} {x:Int} (hl:f.length=n.l.length) (hw:wi n.l f) (hx:1≤x) (hW:isWalk n W=true):PushTells n f W x (fun k=>pushN n.l f x (W.take k)):=by
 refine ⟨rfl,isWalk_in hR hW,fun k F r hk hr hp hx=>?_,fun k F r hk hr hp hx=>?_,by simp,fun k F hk hp=>?_⟩
 ·rw [pushN_step hk hr hp,if_neg (by omega)]
 ·exact pushN_dead (k:=k+1) (by rw [pushN_step hk hr hp,if_pos hx])
 ·rcases e:walkAt n.l n.s (W.take k) with _ | u
  ·have:=isWalk_no e;rw [hW] at this;cases this
  ·have:=push_facts hR hl hw (show 0≤x by omega) hk e hp
   exact ⟨this.1,this.2.1⟩
theorem walk_some {n:Net} (hR:Right n) {W:List Int} (hW:isWalk n W=true):0<W.length∧0<n.l.length:=by
 rcases W with _ | ⟨x,W⟩
 ·have:=isWalk_at hW;simp [walkAt] at this;exact absurd this hR.ne
 ·obtain ⟨r,_,h⟩:=isWalk_in hR hW 0 (by simp)
  exact ⟨by simp,by omega⟩
theorem put1_odd {F:List Int} {x:Int} {r q:Nat} (hq:q=r / 2) (h:r % 2=1):put1 F x r=F.set q (amt F q-x):=by unfold put1;rw [if_pos h,hq]
theorem put1_even {F:List Int} {x:Int} {r q:Nat} (hq:q=r / 2) (h:¬ r % 2=1):put1 F x r=F.set q (amt F q+x):=by unfold put1;rw [if_neg h,hq]
theorem room_odd' {l:List Arc} {F:List Int} {r q:Nat} (hq:q=r / 2) (h:r % 2=1):roomN l F r=amt F q:=by unfold roomN;rw [if_pos h,hq]
theorem room_even' {l:List Arc} {F:List Int} {r q:Nat} (hq:q=r / 2) (h:¬ r % 2=1):roomN l F r=(arcAt l q).cap-amt F q:=by unfold roomN;rw [if_neg h,hq]
theorem ret2v {v:Value} {a b:Int} (h:a=b):Ending.returned (.tuple #[v,.int .i64 a])=.returned (.tuple #[v,.int .i64 b]):=by rw [h]
theorem pushed_any (n:Net) (ao:Option Addr) (cap:Nat) (fo:Option Addr) (fc:Nat) (f:List Int) (wo:Option Addr) (wc:Nat) (W:List Int) (x:Int) (w:World) (hr:ARow w ao n.l) (hf:IRow w fo f) (hw:IRow w wo W) (hl:n.l.length≤1000000) (hW:W.length≤10000000)
  (hR:Right n) (hfl:f.length=n.l.length) (hwi:wi n.l f) (hwk:isWalk n W=true) (hx:1≤x) (hx2:x≤9223372036854775807) :
  Calls Tryz.prog 89 #[encN n ao cap,.slice fo n.l.length fc,.slice wo W.length wc,.int .i64 x] w fun e w'=>∃ v,e=.returned (.tuple #[v,.int .i64 (if (pushN n.l f x W).isNone then 9 else 0)])∧OwnL w' w.heap.size v ((pushN n.l f x W).getD [])∧Below w.heap.size w w':=by
 obtain ⟨h1,h2⟩:=walk_some hR hwk
 have HCL:=hid (fun w' h=>clonel_any f fo n.l.length fc w' hfl.symm h (by omega) (by omega))
 have HRM:=hid (fun (F:List Int) (hF:F.length=n.l.length∧wi n.l F) (o:Option Addr) (c:Nat) (r:Nat) w' (h:r<2*n.l.length) h1 h2=>room_any n ao cap o c F r w' h1 h2 hl hF.1 h (room_64 hR hF.2 h))
 have HGB:=hid (fun (r:Nat) (h:r<2*n.l.length) w'=>goesBack_any r w' (by omega))
 obtain ⟨PA,hPA⟩:∃ PA,PushTells n f W x PA:=⟨_,push_tells hR hfl hwi hx hwk⟩
 have HT:=hid hPA
 have HCAP:=hid (fun i h=>cap_topR hR (i:=i) h)
 have HZ:=hid hPA.zero
 have HTR:=hid hPA.trk
 have HY:=hid hPA.yes
 have HNO:=hid hPA.no
 have HA:=hid hPA.all
 have HFI:=hid hPA.fine
 clear hPA HT hR hfl hwi hwk
 generalize pushN n.l f x W=P at *
 obtain ⟨nn,ns,nt,l⟩:=n
 simp only at hr hl h2 HCL HRM HGB HCAP HTR HY HNO HFI ⊢
 have HB0:=hid ((Below.refl w.heap.size w).alloc (Nat.le_refl _) (.cells #[.int .i64 nn,.int .i64 ns,.int .i64 nt,.slice ao l.length cap] 27))
 have HN0:=hid (netBox_new w nn ns nt (.slice ao l.length cap))
 have HR:=hid hr
 have HW:=hid hw
 have HF:=hid (hf.kept HB0.out)
 clear hr hw hf
 go_enter Tryz.func89,Tryz.ntmps89
 go_wp2
 go_step3
 go_wp2_with fail
 refine (HCL.out _ HF.out).mono ?_
 rintro e w1 ⟨g,c,rfl,ho,hb⟩
 have HB1:=hid (HB0.out.trans (hb.mono (by simp)))
 have HN1:=hid (netBox_below HN0.out hb (by simp))
 have hg0:w.heap.size<g:=by have:=(Rw.own_lt ho g rfl).1;simp at this;omega
 have HO1:=hid (Rw.own_base ho (B':=w.heap.size) (by simp))
 clear hb ho HB0 HN0 HF HCL
 go_wp2
 go_step3
 go_wp2
 go_loopw [10,11,18] (fun s z i wr=>∃ (k:Nat) (F:List Int),s=.slice (some ⟨g,0,none⟩) l.length c∧z=.int .i64 0∧i=.int .i64 k∧k≤W.length∧Hid (PA k=some F)∧Hid (OwnL wr w.heap.size (.slice (some ⟨g,0,none⟩) l.length c) F)∧Hid (Below w.heap.size w wr)∧Hid (NetBox wr w.heap.size nn ns nt (.slice ao l.length cap))) (fun _ _ i _=>W.length-(intOf i).toNat)
 case atStart=>exact ⟨0,f,rfl,rfl,rfl,Nat.zero_le _,HZ,HO1,HB1,HN1⟩
 case round =>
  obtain ⟨k,F,rfl,rfl,rfl,hk,HP,HOW,HBW,HNW⟩:=hrel
  obtain ⟨n0,n1,n2,n3⟩:=netBox_cells HNW.out
  by_cases hlt:k<W.length
  ·obtain ⟨b,off,rfl,hbl,d0⟩:=irow_cell (HW.out.kept HBW.out) hlt
   obtain ⟨r,hr1,hr2⟩:=HTR.out k hlt
   have HFF:=hid (HFI.out k F hk HP.out)
   have HY1:=hid (HY.out k F r hlt hr1 HP.out)
   have HN1:=hid (HNO.out k F r hlt hr1 HP.out)
   have RM:=hid (fun w'=>HRM.out F HFF.out (some ⟨g,0,none⟩) c r w' hr2)
   have GB:=hid (HGB.out r hr2)
   rw [hr1] at d0
   obtain ⟨q,hq⟩:∃ q,q=r / 2:=⟨_,rfl⟩
   have hql:q<l.length:=by omega
   have htd:=tdiv2 hq
   have HO:=hid (show r % 2=1→put1 F x r=F.set q (amt F q-x)∧roomN l F r=amt F q from fun h=>⟨put1_odd hq h,room_odd' hq h⟩)
   have HE:=hid (show ¬ r % 2=1→put1 F x r=F.set q (amt F q+x)∧roomN l F r=(arcAt l q).cap-amt F q from fun h=>⟨put1_even hq h,room_even' hq h⟩)
   have hca:=HCAP.out q hql
   obtain ⟨hF1,hF2⟩:=HFF.out.2 q hql
   have HQF:=hid (show q<F.length by have:=HFF.out.1;omega)
   generalize roomN l F r=ro at *
   generalize put1 F x r=F2 at *
   clear hr1 hq
   have hki:(k:Int)<(W.length:Int):=by omega
   have hk0:(0:Int)≤(k:Int):=by omega
   have hqi:(q:Int)<(l.length:Int):=by omega
   have hq0:(0:Int)≤(q:Int):=by omega
   go_wp2_with fail
   refine (RM.out _ (HR.out.kept HBW.out) (irow_ofL' HOW.out)).mono ?_
   rintro e w2 ⟨rfl,hb⟩
   have HB2:=hid (HBW.out.trans (hb.mono HBW.out.size))
   have HN2:=hid (netBox_below HNW.out hb (netBox_lt HNW.out))
   have HO2:=hid (Rw.own_below HOW.out hb)
   clear hb n0 n1 n2 n3 d0
   by_cases c1:ro<x
   ·have c1':decide (ro<x)=true:=by simpa using c1
    have HPN:=hid (HN1.out c1)
    clear c1
    go_wp2
    try rw [Exit.noGoto_ret]
    go_ret2
    refine ⟨_,ret2v ?_,?_,HB2.out⟩
    ·rw [HPN.out];rfl
    ·rw [HPN.out];exact Rw.own_nil _ _
   ·have c1':decide (ro<x)=false:=by simpa using c1
    have HP2:=hid (HY1.out (by omega))
    obtain ⟨a0,a1⟩:=ownL_cell HO2.out HQF.out
    by_cases c2:r % 2=1
    ·have c2':decide (r % 2=1)=true:=by simpa using c2
     rw [c2'] at GB
     have HFE:=hid (HO.out c2).1
     have hro:=(HO.out c2).2
     have HOP:=hid (fun y=>ownL_put HO2.out HQF.out y)
     generalize amt F q=z at *
     have hwz:IntKind.i64.wrap (z-x)=z-x:=by rw [IntKind.wrap_i64];omega
     clear c2 c2' c1 hro
     go_wp2_with fail
     refine (GB.out _).mono ?_
     rintro e w' ⟨rfl,rfl⟩
     go_wp2
     have HO3:=hid (HOP.out (z-x))
     rw [← HFE.out] at HO3
     have HB3:=hid (HB2.out.setCell (p:=⟨g,q,none⟩) (by show w.heap.size≤g;omega) (.int .i64 (z-x)))
     have HN3:=hid (netBox_other HN2.out (b2:=g) (o:=q) (v2:=.int .i64 (z-x)) (by omega))
     go_roundw
     case rel=>exact ⟨k+1,F2,rfl,rfl,by go_num,by omega,HP2,HO3,HB3,HN3⟩
     case measure=>simp [intOf];omega
    ·have c2':decide (r % 2=1)=false:=by simpa using c2
     rw [c2'] at GB
     have HFE:=hid (HE.out c2).1
     have hro:=(HE.out c2).2
     have HOP:=hid (fun y=>ownL_put HO2.out HQF.out y)
     generalize amt F q=z at *
     have hwz:IntKind.i64.wrap (z+x)=z+x:=by rw [IntKind.wrap_i64];omega
     clear c2 c2' c1 hro
     go_wp2_with fail
     refine (GB.out _).mono ?_
     rintro e w' ⟨rfl,rfl⟩
     go_wp2
     have HO3:=hid (HOP.out (z+x))
     rw [← HFE.out] at HO3
     have HB3:=hid (HB2.out.setCell (p:=⟨g,q,none⟩) (by show w.heap.size≤g;omega) (.int .i64 (z+x)))
     have HN3:=hid (netBox_other HN2.out (b2:=g) (o:=q) (v2:=.int .i64 (z+x)) (by omega))
     go_roundw
     case rel=>exact ⟨k+1,F2,rfl,rfl,by go_num,by omega,HP2,HO3,HB3,HN3⟩
     case measure=>simp [intOf];omega
  ·have ek:k=W.length:=by omega
   subst ek
   have HE:=hid (show P=some F by rw [← HA.out];exact HP.out)
   clear hlt hk
   go_wp2
   try rw [Exit.noGoto_ret]
   go_ret2
   refine ⟨_,ret2v ?_,?_,HBW.out⟩
   ·rw [HE.out];rfl
   ·rw [HE.out];exact HOW.out
theorem pushE_bad {n:Net} {f W:List Int} {x:Int} (h:chkF n f≠0):pushE n f W x=chkF n f∧pushV n f W x=[]:=by
 have e:pushE n f W x=chkF n f:=by unfold pushE;rw [if_pos h]
 exact ⟨e,by unfold pushV;rw [if_pos (by rw [e];exact h)]⟩
theorem pushE_no {n:Net} {f W:List Int} {x:Int} (h:chkF n f=0) (h2:isWalk n W=false):pushE n f W x=1∧pushV n f W x=[]:=by
 have e:pushE n f W x=1:=by unfold pushE;rw [if_neg (by simpa using h),if_pos h2]
 exact ⟨e,by unfold pushV;rw [if_pos (by rw [e];decide)]⟩
theorem pushE_low {n:Net} {f W:List Int} {x:Int} (h:chkF n f=0) (h2:isWalk n W=true) (h3:x<1):pushE n f W x=3∧pushV n f W x=[]:=by
 have e:pushE n f W x=3:=by unfold pushE;rw [if_neg (by simpa using h),if_neg (by simp [h2]),if_pos h3]
 exact ⟨e,by unfold pushV;rw [if_pos (by rw [e];decide)]⟩
theorem pushE_go {n:Net} {f W:List Int} {x:Int} (h:chkF n f=0) (h2:isWalk n W=true) (h3:1≤x):pushE n f W x=(if (pushN n.l f x W).isNone then 9 else 0)∧pushV n f W x=(pushN n.l f x W).getD []:=by
 have e:pushE n f W x=if (pushN n.l f x W).isNone then 9 else 0:=by unfold pushE;rw [if_neg (by simpa using h),if_neg (by simp [h2]),if_neg (by omega)]
 refine ⟨e,?_⟩
 unfold pushV;rw [e]
 rcases pushN n.l f x W with _ | g
 ·rfl
 ·rfl
theorem dpush_any (n:Net) (ao:Option Addr) (cap:Nat) (fo:Option Addr) (fc:Nat) (f:List Int) (wo:Option Addr) (wc:Nat) (W:List Int) (x:Int) (w:World) (hr:ARow w ao n.l) (hf:IRow w fo f) (hw:IRow w wo W) (hl:n.l.length≤1000000) (hok:∀ a∈n.l,in64 a.cap) (hW:W.length≤1000000) (h64:∀ x∈W,in64 x) (hx:in64 x) :
  Calls Tryz.prog 85 #[encN n ao cap,.slice fo f.length fc,.slice wo W.length wc,.int .i64 x] w fun e w'=>∃ v,e=.returned (.tuple #[v,.int .i64 (pushE n f W x)])∧OwnL w' w.heap.size v (pushV n f W x)∧Below w.heap.size w w':=by
 have CK:=hid (fun w' (h1:ARow w' ao n.l) (h2:IRow w' fo f)=>fchk_any n ao cap fo fc f w' h1 h2 hl hok)
 by_cases c0:chkF n f=0
 case neg =>
  have HE:=hid (pushE_bad (W:=W) (x:=x) c0)
  generalize pushE n f W x=PE at *
  generalize pushV n f W x=PV at *
  generalize chkF n f=c at *
  generalize f.length=fl at *
  obtain ⟨nn,ns,nt,l⟩:=n
  simp only at hr CK ⊢
  have HB0:=hid ((Below.refl w.heap.size w).alloc (Nat.le_refl _) (.cells #[.int .i64 nn,.int .i64 ns,.int .i64 nt,.slice ao l.length cap] 27))
  have c1':(c == 0)=false:=by simpa using c0
  have c1n:(c != 0)=true:=by simpa using c0
  have HR:=hid (hr.kept HB0.out)
  have HF:=hid (hf.kept HB0.out)
  clear hr hf c0
  go_enter Tryz.func85,Tryz.ntmps85
  go_wp2_with fail
  refine (CK.out _ HR.out HF.out).mono ?_
  rintro e w1 ⟨rfl,hb⟩
  have HB1:=hid (HB0.out.trans (hb.mono (by simp)))
  clear hb
  go_wp2
  go_ret2
  exact ⟨_,ret2v HE.out.1.symm,by rw [HE.out.2];exact Rw.own_nil _ _,HB1.out⟩
 have HNO:=hid (pushE_no (n:=n) (f:=f) (W:=W) (x:=x) c0)
 have HLO:=hid (pushE_low (n:=n) (f:=f) (W:=W) (x:=x) c0)
 have HGO:=hid (pushE_go (n:=n) (f:=f) (W:=W) (x:=x) c0)
 obtain ⟨-,RT,hfl,hwi⟩:=chkA_ok (chkF_ok c0).1
 rw [c0] at CK
 rw [hfl] at CK ⊢
 have IW:=hid (fun w' h1 h2=>iswalk_any n ao cap wo wc W w' h1 h2 hl hW h64)
 have HGOT:=hid (fun w' h1 h2 h3 (hk:isWalk n W=true) (hx1:1≤x)=>pushed_any n ao cap fo fc f wo wc W x w' h1 h2 h3 hl (by omega) RT hfl hwi hk hx1 hx.2)
 clear RT hfl hwi
 generalize pushE n f W x=PE at *
 generalize pushV n f W x=PV at *
 generalize hB:isWalk n W=B at *
 clear hB
 obtain ⟨nn,ns,nt,l⟩:=n
 simp only at hr hl CK IW HGOT ⊢
 have HB0:=hid ((Below.refl w.heap.size w).alloc (Nat.le_refl _) (.cells #[.int .i64 nn,.int .i64 ns,.int .i64 nt,.slice ao l.length cap] 27))
 have HN0:=hid (netBox_new w nn ns nt (.slice ao l.length cap))
 have HR:=hid (hr.kept HB0.out)
 have HF:=hid (hf.kept HB0.out)
 have HW:=hid (hw.kept HB0.out)
 clear hr hf hw c0
 go_enter Tryz.func85,Tryz.ntmps85
 go_wp2_with fail
 refine (CK.out _ HR.out HF.out).mono ?_
 rintro e w1 ⟨rfl,hb⟩
 have HB1:=hid (HB0.out.trans (hb.mono (by simp)))
 have HN1:=hid (netBox_below HN0.out hb (by simp))
 have HR1:=hid (HR.out.kept hb)
 have HF1:=hid (HF.out.kept hb)
 have HW1:=hid (HW.out.kept hb)
 obtain ⟨n0,n1,n2,n3⟩:=netBox_cells HN1.out
 clear hb HB0 HN0 HR HF HW CK
 go_wp2_with fail
 refine (IW.out _ HR1.out HW1.out).mono ?_
 rintro e w2 ⟨rfl,hb⟩
 have HB2:=hid (HB1.out.trans (hb.mono HB1.out.size))
 have HN2:=hid (netBox_below HN1.out hb (netBox_lt HN1.out))
 have HR2:=hid (HR1.out.kept hb)
 have HF2:=hid (HF1.out.kept hb)
 have HW2:=hid (HW1.out.kept hb)
 clear hb n0 n1 n2 n3 HB1 HN1 HR1 HF1 HW1 IW
 rcases B with _ | _
 ·have HE:=hid (HNO.out rfl)
  go_wp2
  go_ret2
  exact ⟨_,ret2v HE.out.1.symm,by rw [HE.out.2];exact Rw.own_nil _ _,HB2.out⟩
 by_cases p:x<1
 ·have HE:=hid (HLO.out rfl p)
  have p':decide (x<1)=true:=by simpa using p
  clear p
  go_wp2
  go_ret2
  exact ⟨_,ret2v HE.out.1.symm,by rw [HE.out.2];exact Rw.own_nil _ _,HB2.out⟩
 have p':decide (x<1)=false:=by simpa using p
 have HE:=hid (HGO.out rfl (by omega))
 obtain ⟨n0,n1,n2,n3⟩:=netBox_cells HN2.out
 have PU:=hid (fun w' h1 h2 h3=>HGOT.out w' h1 h2 h3 rfl (by omega))
 rw [← HE.out.1,← HE.out.2] at PU
 clear HE HGO HNO HLO
 clear p HGOT
 go_wp2_with fail
 refine (PU.out _ HR2.out HF2.out HW2.out).mono ?_
 rintro e w3 ⟨v,rfl,ho,hb⟩
 have HB3:=hid (HB2.out.trans (hb.mono HB2.out.size))
 have HO3:=hid (Rw.own_base ho (B':=w.heap.size) HB2.out.size)
 clear hb ho n0 n1 n2 n3
 go_wp2
 go_ret2
 exact ⟨_,rfl,HO3.out,HB3.out⟩
end Ne
namespace Ne
section
variable {n:Net} (ao:Option Addr) (cap:Nat) (fo:Option Addr) (fc:Nat) {f:List Int} (w:World) (ck:checkN n=0) (hr:ARow w ao n.l) (hf:IRow w fo f) (hF:Flow n f)
include ck hr hf hF
end
end Ne
end Go.Proofs.YthhlfphnokdfaaaGreat
