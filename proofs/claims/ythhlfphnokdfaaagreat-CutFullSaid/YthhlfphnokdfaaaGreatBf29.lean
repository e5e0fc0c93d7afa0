/-
  Tsn, Tso, Tsp, Tsq
-/
import Derived.Test.YthhlfphnokdfaaaGreatBf28
import Derived.RegionTactic
import Derived.Deep.DeepCutAuto
import Derived.BigRegion
import Derived.Deep.LoopGhost
set_option linter.unusedVariables false
set_option linter.unusedSimpArgs false
set_option maxRecDepth 100000
set_option maxHeartbeats 4000000
namespace Go.Proofs.YthhlfphnokdfaaaGreat
open Go.ChangeShapes Go.WideShapes Go.ChangeAt Go.RowKit
open Lib (hid)
namespace Ne
open Sp (Off Ext)
open Fo (Ft FoO fc)
section
variable {n:Net} {ao:Option Addr} {cap:Nat} {x:Int} {w0 w1:World} {sb lb ab pb cb p:Nat} {rv:Value} {lo hi B b1:Nat} {VA:Nat→Value} {TL:List Nat}
variable {w w2:World} {RL:List Int} {VS:Nat→Value} {U:Nat→List Nat} {S:List Bool} {c:Nat} {f f2:Ft} {flo fhi flo2 fhi2:Nat} {m:Nat}
theorem TsM.tc (h:TsM n ao cap x w0 w1 sb lb ab pb cb p rv lo hi B b1 VA TL w RL VS U S c f flo fhi):w.cell? ⟨sb,0,none⟩=some (.int .i64 n.n)∧w.cell? ⟨sb,1,none⟩=some (.int .i64 n.s)∧w.cell? ⟨sb,2,none⟩=some (.int .i64 n.t)∧w.cell? ⟨sb,3,none⟩=some (.slice ao n.l.length cap)∧w.cell? ⟨sb,4,none⟩=some rv∧w.cell? ⟨sb,5,none⟩=some (.int .i64 x)∧w.cell? ⟨sb,6,none⟩=some (.slice (some ⟨lb,0,none⟩) (n.n.toNat+1) (n.n.toNat+1))∧w.cell? ⟨sb,7,none⟩=some (.slice (some ⟨ab,0,none⟩) (n.n.toNat+1) (n.n.toNat+1))∧w.cell? ⟨sb,8,none⟩=some (.slice (some ⟨pb,0,none⟩) (n.n.toNat+1) (n.n.toNat+1))∧w.cell? ⟨sb,9,none⟩=some (.pointer (some ⟨p,0,none⟩))∧w.cell? ⟨sb,10,none⟩=some (.func (.func 95) #[.pointer (some ⟨cb,0,none⟩)] #[]):=tblk_cells h.cells
theorem TsM.root (h:TsM n ao cap x w0 w1 sb lb ab pb cb p rv lo hi B b1 VA TL w RL VS U S c f flo fhi) (hm:f.v.length=m) (y:Int) :
  Calls Tryz.prog 100 #[.pointer (some ⟨p,0,none⟩),.int .i64 y] w fun e w'=>e=.returned (.int .i64 (Fo.rootZ f y))∧∃ flo2,TsM n ao cap x w0 w1 sb lb ab pb cb p rv lo hi B b1 VA TL w' RL VS U S c f flo2 (fhi+fc m):=by
 subst hm
 refine (Fo.froot_any h.fo h.bw  y).mono ?_
 rintro e w' ⟨h1,h2,h3⟩
 exact ⟨h1,_,h.call h3 h2⟩
theorem TsM.value (h:TsM n ao cap x w0 w1 sb lb ab pb cb p rv lo hi B b1 VA TL w RL VS U S c f flo fhi) (hm:f.v.length=m) (y:Int) :
  Calls Tryz.prog 110 #[.pointer (some ⟨p,0,none⟩),.int .i64 y] w fun e w'=>e=.returned (.int .i64 (Fo.valZ f y))∧∃ flo2,TsM n ao cap x w0 w1 sb lb ab pb cb p rv lo hi B b1 VA TL w' RL VS U S c f flo2 (fhi+fc m):=by
 subst hm
 refine (Fo.fvalue_any h.fo h.bw  y).mono ?_
 rintro e w' ⟨h1,h2,h3⟩
 exact ⟨h1,_,h.call h3 h2⟩
theorem TsM.least (h:TsM n ao cap x w0 w1 sb lb ab pb cb p rv lo hi B b1 VA TL w RL VS U S c f flo fhi) (hm:f.v.length=m) (y:Int) :
  Calls Tryz.prog 109 #[.pointer (some ⟨p,0,none⟩),.int .i64 y] w fun e w'=>e=.returned (.int .i64 (Fo.leastZ f y))∧∃ flo2,TsM n ao cap x w0 w1 sb lb ab pb cb p rv lo hi B b1 VA TL w' RL VS U S c f flo2 (fhi+fc m):=by
 subst hm
 refine (Fo.fleast_any h.fo h.bw  y).mono ?_
 rintro e w' ⟨h1,h2,h3⟩
 exact ⟨h1,_,h.call h3 h2⟩
theorem TsM.above (h:TsM n ao cap x w0 w1 sb lb ab pb cb p rv lo hi B b1 VA TL w RL VS U S c f flo fhi) (hm:f.v.length=m) (y:Int) :
  Calls Tryz.prog 104 #[.pointer (some ⟨p,0,none⟩),.int .i64 y] w fun e w'=>e=.returned (.int .i64 (Fo.aboveZ f y))∧∃ flo2,TsM n ao cap x w0 w1 sb lb ab pb cb p rv lo hi B b1 VA TL w' RL VS U S c f flo2 (fhi+fc m):=by
 subst hm
 refine (Fo.fabove_any h.fo h.bw  y).mono ?_
 rintro e w' ⟨h1,h2,h3⟩
 exact ⟨h1,_,h.call h3 h2⟩
theorem TsM.cut (h:TsM n ao cap x w0 w1 sb lb ab pb cb p rv lo hi B b1 VA TL w RL VS U S c f flo fhi) (hm:f.v.length=m) (y:Int) :
  Calls Tryz.prog 114 #[.pointer (some ⟨p,0,none⟩),.int .i64 y] w fun e w'=>e=.returned (.int .i64 (Fo.cutE f y))∧∃ flo2,TsM n ao cap x w0 w1 sb lb ab pb cb p rv lo hi B b1 VA TL w' RL VS U S c (Fo.cutS f y) flo2 (fhi+fc m):=by
 subst hm
 refine (Fo.fcut_any h.fo h.bw  y).mono ?_
 rintro e w' ⟨h1,h2,h3⟩
 exact ⟨h1,_,h.call h3 h2⟩
theorem TsM.link (h:TsM n ao cap x w0 w1 sb lb ab pb cb p rv lo hi B b1 VA TL w RL VS U S c f flo fhi) (hm:f.v.length=m) (y:Int) (z:Int) :
  Calls Tryz.prog 112 #[.pointer (some ⟨p,0,none⟩),.int .i64 y,.int .i64 z] w fun e w'=>e=.returned (.int .i64 (Fo.linkE f y z))∧∃ flo2,TsM n ao cap x w0 w1 sb lb ab pb cb p rv lo hi B b1 VA TL w' RL VS U S c (Fo.linkS f y z) flo2 (fhi+fc m):=by
 subst hm
 refine (Fo.flink_any h.fo h.bw  y z).mono ?_
 rintro e w' ⟨h1,h2,h3⟩
 exact ⟨h1,_,h.call h3 h2⟩
theorem TsM.add (h:TsM n ao cap x w0 w1 sb lb ab pb cb p rv lo hi B b1 VA TL w RL VS U S c f flo fhi) (hm:f.v.length=m) (y:Int) (d:Int) (hd:-9223372036854775808≤d∧d≤9223372036854775807) :
  Calls Tryz.prog 111 #[.pointer (some ⟨p,0,none⟩),.int .i64 y,.int .i64 d] w fun e w'=>e=.returned (.int .i64 (Fo.addE f y d))∧∃ flo2,TsM n ao cap x w0 w1 sb lb ab pb cb p rv lo hi B b1 VA TL w' RL VS U S c (Fo.addS f y d) flo2 (fhi+fc m):=by
 subst hm
 refine (Fo.fadd_any h.fo h.bw  y d hd).mono ?_
 rintro e w' ⟨h1,h2,h3⟩
 exact ⟨h1,_,h.call h3 h2⟩
theorem valZ_nat (f:Ft) (v:Nat):Fo.valZ f (v:Int)=amt f.v v:=by unfold Fo.valZ;rw [if_neg (by omega),Int.toNat_natCast]
theorem TsM.head (h:TsM n ao cap x w0 w1 sb lb ab pb cb p rv lo hi B b1 VA TL w RL VS U S c f flo fhi) {v r:Nat} {T:List Nat} (hv:v<n.n.toNat+1) (hU:U v=r :: T):w.cell? ⟨lb,v,none⟩=some (VS v)∧w.frozen? ⟨lb,v,none⟩=false∧∃ b off rc,VS v=.slice (some ⟨b,off,none⟩) (T.length+1) rc∧T.length+1≤rc∧rc≤maxLen∧lo≤b∧b<hi∧w.cell? ⟨b,off,none⟩=some (.int .i64 (r:Int))∧RowOf w lo hi (VS v) (r :: T):=by
 obtain ⟨b,off,rc,h1,h2,h3,h4,h5,h6⟩:=rowOf_at (h.rows.each v hv) (i:=0) (by rw [hU];simp)
 rw [hU] at h1 h2 h6
 have h7:=h6 0 (by simp)
 refine ⟨h.rows.cell hv,h.rows.frozen v,b,off,rc,h1,h2,h3,h4,h5,h7,?_⟩
 have:=h.rows.each v hv
 rwa [hU] at this
theorem TsM.nil (h:TsM n ao cap x w0 w1 sb lb ab pb cb p rv lo hi B b1 VA TL w RL VS U S c f flo fhi) {v:Nat} (hv:v<n.n.toNat+1) (hU:U v=[]):w.cell? ⟨lb,v,none⟩=some (VS v)∧∃ o rc,VS v=.slice o 0 rc:=by
 refine ⟨h.rows.cell hv,?_⟩
 obtain ⟨A,rc,h1,_⟩:=h.rows.each v hv
 rw [hU] at h1
 exact ⟨A,rc,h1⟩
end
end Ne
namespace Ne
open Sp (Off Ext)
open Fo (Ft FoO fc)
section
variable {n:Net} {ao:Option Addr} {cap:Nat} {x:Int} {w0 w1:World} {sb lb ab pb cb p:Nat} {rv:Value} {lo hi B b1:Nat} {VA:Nat→Value} {TL:List Nat}
variable {w w2:World} {RL:List Int} {VS:Nat→Value} {U:Nat→List Nat} {S:List Bool} {c:Nat} {f f2:Ft} {flo fhi flo2 fhi2:Nat} {m:Nat} {g:List Int} {L:List Int}
theorem part_any (M:TsM n ao cap x w0 w1 sb lb ab pb cb p rv lo hi B b1 VA TL w RL VS U S c f flo fhi) (T:Tre n TL g x U f RL S) (hR:Right n) (hL:Lds n.l L TL) (hw:wi n.l g) {v u:Nat} (hu:f.up v=some u) (hm:f.v.length=m) :
  Calls Tryz.prog 105 #[.pointer (some ⟨sb,0,none⟩),.int .i64 (v:Int)] w fun e w'=>e=.returned (.tuple #[])∧∃ f2 RL2 flo2,Off1 f f2 v∧TsM n ao cap x w0 w1 sb lb ab pb cb p rv lo hi B b1 VA TL w' RL2 VS U S c f2 flo2 (fhi+3*fc m)∧Tre n TL g x U f2 RL2 S:=by
 obtain ⟨r,T',hU,hrT,r2,r3,hamt,hun,hlv⟩:=T.says hR hL hu
 have hv:=T.lt hu
 have hvf:v<f.v.length:=by rw [T.len];exact hv
 have hrl:r<RL.length:=by rw [T.rlen];exact hL.lt r hrT
 obtain ⟨hn1,hn2⟩:=Tre.rnn hR hL hw r hrT
 rw [← hamt] at hn1 hn2
 obtain ⟨hcE,ho1⟩:=off1_part T.good hvf hu hn1
 have HT:=hid (tre_part hR hL T hu hU ho1)
 have HO:=hid ho1
 obtain ⟨g0,rc0,hrv,_⟩:=M.note hrl
 subst hrv
 obtain ⟨u0,u1,bb,off,rc,hVS,hrc1,hrc2,hb1,hb2,hd,_⟩:=M.head hv hU
 rw [hVS] at u0
 have HN:=hid (show ∀ w' flo fhi,TsM n ao cap x w0 w1 sb lb ab pb cb p (.slice (some ⟨g0,0,none⟩) RL.length rc0) lo hi B b1 VA TL w' RL VS U S c f flo fhi→w'.cell? ⟨g0,r,none⟩=some (.int .i64 (amt RL r))∧w'.frozen? ⟨g0,r,none⟩=false∧TsM n ao cap x w0 w1 sb lb ab pb cb p (.slice (some ⟨g0,0,none⟩) RL.length rc0) lo hi B b1 VA TL (w'.setCell ⟨g0,r,none⟩ (.int .i64 (amt f.v v))) (RL.set r (amt f.v v)) VS U S c f flo fhi from fun w' flo fhi h=>by
  obtain ⟨g1,rc1,e,_,k2,k3,k4⟩:=h.note hrl
  simp only [Value.slice.injEq,Option.some.injEq,Addr.mk.injEq,and_true,true_and] at e
  obtain ⟨e,_⟩:=e
  subst e
  exact ⟨k2,k3,k4 _⟩)
 have HR2:=hid (show ∀ w' f' flo fhi,TsM n ao cap x w0 w1 sb lb ab pb cb p (.slice (some ⟨g0,0,none⟩) RL.length rc0) lo hi B b1 VA TL w' (RL.set r (amt f.v v)) VS U S c f' flo fhi→w'.cell? ⟨g0,r,none⟩=some (.int .i64 (amt f.v v)) from fun w' f' flo fhi h=>by
  obtain ⟨g1,rc1,e,_,k2,_⟩:=h.note (r:=r) (by rw [List.length_set];exact hrl)
  simp only [Value.slice.injEq,Option.some.injEq,Addr.mk.injEq,and_true,true_and] at e
  obtain ⟨e,_⟩:=e
  subst e
  rw [amt_set _ hrl,if_pos rfl] at k2
  exact k2)
 have HV:=hid (fun w' flo fhi (h:TsM n ao cap x w0 w1 sb lb ab pb cb p (.slice (some ⟨g0,0,none⟩) RL.length rc0) lo hi B b1 VA TL w' RL VS U S c f flo fhi)=>h.value hm (v:Int))
 rw [valZ_nat] at HV
 have HC:=hid (fun w' flo fhi (h:TsM n ao cap x w0 w1 sb lb ab pb cb p (.slice (some ⟨g0,0,none⟩) RL.length rc0) lo hi B b1 VA TL w' (RL.set r (amt f.v v)) VS U S c f flo fhi)=>h.cut hm (v:Int))
 rw [hcE] at HC
 have hlc:(Fo.cutS f (v:Int)).v.length=m:=by rw [← hm];unfold Fo.cutS;split <;> rfl
 have HA:=hid (fun w' flo fhi (h:TsM n ao cap x w0 w1 sb lb ab pb cb p (.slice (some ⟨g0,0,none⟩) RL.length rc0) lo hi B b1 VA TL w' (RL.set r (amt f.v v)) VS U S c (Fo.cutS f (v:Int)) flo fhi)=>h.add hlc (v:Int) (4611686018427387904-amt f.v v) (by omega))
 have HD:=hid (fun w' RL' f' flo fhi (h:TsM n ao cap x w0 w1 sb lb ab pb cb p (.slice (some ⟨g0,0,none⟩) RL.length rc0) lo hi B b1 VA TL w' RL' VS U S c f' flo fhi)=>h.tc)
 have hvi:(v:Int)<(n.n.toNat:Int)+1:=by omega
 have hv0:(0:Int)≤(v:Int):=by omega
 have hw1:IntKind.i64.wrap (4611686018427387904-amt f.v v)=4611686018427387904-amt f.v v:=by rw [IntKind.wrap_i64];omega
 have hri:(r:Int)<(RL.length:Int):=by omega
 have hr0:(0:Int)≤(r:Int):=by omega
 have HM:=hid (M.grow (below_drew (Below.refl _ _)))
 have HU:=hid (show ∀ w' RL' f' flo fhi,TsM n ao cap x w0 w1 sb lb ab pb cb p (.slice (some ⟨g0,0,none⟩) RL.length rc0) lo hi B b1 VA TL w' RL' VS U S c f' flo fhi→TsM n ao cap x w0 w1 sb lb ab pb cb p (.slice (some ⟨g0,0,none⟩) RL.length rc0) lo hi B b1 VA TL w'.drew RL' VS U S c f' flo fhi from fun w' RL' f' flo fhi h=>h.grow (below_drew (Below.refl _ _)))
 obtain ⟨k0,k1,k2,k3,k4,k5,k6,k7,k8,k9,k10⟩:=M.tc
 clear M T ho1 hU hrT r2 r3 hamt hun hlv hcE hn1 hn2 hlc hVS hvf hR hL hw hu hm
 generalize amt f.v v=X at *
 generalize RL.length=RN at *
 generalize RL.set r X=RL2 at *
 generalize Fo.addS (Fo.cutS f (v:Int)) (v:Int) (4611686018427387904-X)=fA at *
 generalize Fo.addE (Fo.cutS f (v:Int)) (v:Int) (4611686018427387904-X)=eA at *
 generalize Fo.cutS f (v:Int)=fC at *
 go_enter Tryz.func105,Tryz.ntmps105
 go_upto_region 1 with fail
 clear u0 u1 hd k0 k1 k2 k3 k5 k6 k7 k8 k10
 go_cut [24] (fun s wc=>(∃ z,s=z)∧∃ fl2,Hid (TsM n ao cap x w0 w1 sb lb ab pb cb p (.slice (some ⟨g0,0,none⟩) RN rc0) lo hi B b1 VA TL wc RL2 VS U S c f fl2 (fhi+fc m)))
 case first =>
  go_region_with (go_at_call 110;refine (HV.out _ _ _ HM.out).mono ?_;rintro e w2 ⟨rfl,fl2,h2⟩;obtain ⟨k0,k1,k2,k3,k4,k5,k6,k7,k8,k9,k10⟩:=HD.out _ _ _ _ _ h2;obtain ⟨c0,c1,h3⟩:=HN.out _ _ _ h2;have H3:=hid h3;clear h2 h3)
  all_goals
   go_wp2_with fail
   go_meet
   case rel=>exact ⟨⟨_,rfl⟩,_,H3⟩
 clear HM k9 k4
 obtain ⟨⟨z24,rfl⟩,fl2,H3⟩:=hcut
 obtain ⟨k0,k1,k2,k3,k4,k5,k6,k7,k8,k9,k10⟩:=HD.out _ _ _ _ _ H3.out
 go_wp2_with fail
 refine (HC.out _ _ _ H3.out).mono ?_
 rintro e w4 ⟨rfl,fl4,h4⟩
 have H4:=hid (HU.out _ _ _ _ _ h4)
 clear k0 k1 k2 k3 k4 k5 k6 k7 k8 k9 k10
 obtain ⟨k0,k1,k2,k3,k4,k5,k6,k7,k8,k9,k10⟩:=HD.out _ _ _ _ _ h4
 have c2:=HR2.out _ _ _ _ h4
 clear h4 k0 k1 k2 k3 k5 k6 k7 k8 k10
 go_wp2_with fail
 go_region_with (go_at_call 111;refine (HA.out _ _ _ H4.out).mono ?_;rintro e w5 ⟨rfl,fl5,h5⟩;have H5:=hid h5;clear h5)
 all_goals
  go_end0
  have h6:=H5.out
  rw [show fhi+fc m+fc m+fc m=fhi+3*fc m by omega] at h6
  exact ⟨rfl,_,_,_,HO.out,h6,HT.out⟩
end
end Ne
namespace Ne
open Sp (Off Ext)
open Fo (Ft FoO fc)
theorem cost_le {C a b k:Nat} (h:b+k≤a):C*b+C*k≤C*a:=by
 have:=Nat.mul_le_mul_left C h
 rwa [Nat.mul_add] at this
section
variable {n:Net} {ao:Option Addr} {cap:Nat} {x:Int} {w0 w1:World} {sb lb ab pb cb p:Nat} {rv:Value} {lo hi B b1:Nat} {VA:Nat→Value} {TL:List Nat}
variable {w w2:World} {RL:List Int} {VS:Nat→Value} {U:Nat→List Nat} {S:List Bool} {c:Nat} {f f2:Ft} {flo fhi flo2 fhi2:Nat} {m:Nat} {g:List Int} {L:List Int} {A:Nat→Nat}
def FillR (n:Net) (ao:Option Addr) (cap:Nat) (x:Int) (w0 w1:World) (sb lb ab pb cb p:Nat) (rv:Value) (lo hi B b1:Nat) (VA:Nat→Value) (TL:List Nat) (w':World) (VS:Nat→Value) (U:Nat→List Nat) (S:List Bool) (c:Nat) (f:Ft) (fhi m:Nat) (g:List Int) (A:Nat→Nat) (k:Int):Prop :=
 ∃ g2 f2 RL2 flo2 fhi2,TsM n ao cap x w0 w1 sb lb ab pb cb p rv lo hi B b1 VA TL w' RL2 VS U S c f2 flo2 fhi2∧Tre n TL g2 x U f2 RL2 S∧(∀ y z,f2.up y=some z→f.up y=some z)∧f2.v.length=m∧fhi2+(fc m+1)*psi n TL g2 x U f2 S A+(fc m+1)≤fhi+(fc m+1)*psi n TL g x U f S A ∧
  ((k=0∧g2=g)∨(k=1∧∃ R a,FirstW n.l TL g x n.t n.s R∧Least n.l g R a∧pushN n.l g a (encW R)=some g2))
theorem fill_any2 (M:TsM n ao cap x w0 w1 sb lb ab pb cb p rv lo hi B b1 VA TL w RL VS U S c f flo fhi) (T:Tre n TL g x U f RL S) (hR:Right n) (hL:Lds n.l L TL) (hx:1≤x) (hF:Okf n g) (hs:Fo.root f n.s.toNat=some n.t.toNat) (hm:f.v.length=m) (A:Nat→Nat) :
  Calls Tryz.prog 101 #[.pointer (some ⟨sb,0,none⟩)] w fun e w'=>∃ k:Int,e=.returned (.int .i64 k)∧FillR n ao cap x w0 w1 sb lb ab pb cb p rv lo hi B b1 VA TL w' VS U S c f fhi m g A k:=by
 obtain ⟨v,u,hlz,hv,hvp,hu,ha0,ha1,hle⟩:=tre_least hR hL hF.wi T hs
 have hsz:n.s=((n.s.toNat:Nat):Int):=by have:=hR.s0;omega
 have HLS:=hid (fun w' flo fhi (h:TsM n ao cap x w0 w1 sb lb ab pb cb p rv lo hi B b1 VA TL w' RL VS U S c f flo fhi)=>h.least hm n.s)
 rw [show Fo.leastZ f n.s=(v:Int) by rw [hsz];exact hlz] at HLS
 have HV:=hid (fun w' flo fhi (h:TsM n ao cap x w0 w1 sb lb ab pb cb p rv lo hi B b1 VA TL w' RL VS U S c f flo fhi)=>h.value hm (v:Int))
 rw [valZ_nat] at HV
 have HD:=hid (fun w' RL' f' flo fhi (h:TsM n ao cap x w0 w1 sb lb ab pb cb p rv lo hi B b1 VA TL w' RL' VS U S c f' flo fhi)=>h.tc)
 obtain ⟨k0,k1,k2,k3,k4,k5,k6,k7,k8,k9,k10⟩:=M.tc
 have HM:=hid M
 by_cases hxa:x≤amt f.v v
 ·obtain ⟨R,g2,h1,h2,h3,h4,h5,h6⟩:=tre_push hR hL hx hF T hs hvp hu rfl hle hxa
  have hlf:=left_step hL (firstW_wlk h1) hF.len hx h2 h3
  have hpsi:=cost_le (C:=fc m+1) (psi_push (A:=A) T h6 hlf h5)
  have hfl:(Fo.addS f (n.s.toNat:Int) (-amt f.v v)).v.length=m:=by rw [addSF_len];exact hm
  have HA:=hid (fun w' flo fhi (h:TsM n ao cap x w0 w1 sb lb ab pb cb p rv lo hi B b1 VA TL w' RL VS U S c f flo fhi)=>h.add hm n.s (-amt f.v v) (by omega))
  rw [← hsz] at h4 h5 hpsi hfl
  have HE:=hid (show ∀ w' flo3,TsM n ao cap x w0 w1 sb lb ab pb cb p rv lo hi B b1 VA TL w' RL VS U S c (Fo.addS f n.s (-amt f.v v)) flo3 (fhi+fc m+fc m+fc m)→FillR n ao cap x w0 w1 sb lb ab pb cb p rv lo hi B b1 VA TL w' VS U S c f fhi m g A 1 from fun w' flo3 h=>⟨g2,_,RL,flo3,_,h,h4,fun y z hy=>(by rw [h5] at hy;exact hy),hfl,by omega,.inr ⟨rfl,R,_,h1,h2,h3⟩⟩)
  have hlt:decide (amt f.v v<x)=false:=by simp;omega
  have hw1:IntKind.i64.wrap (-amt f.v v) = -amt f.v v:=by rw [IntKind.wrap_i64];omega
  generalize Fo.addS f n.s (-amt f.v v)=fA at *
  generalize Fo.addE f n.s (-amt f.v v)=eA at *
  generalize amt f.v v=X at *
  clear T hR hL hF hs hm hlz hv hvp hu ha0 ha1 hle hxa h1 h2 h3 h4 h5 h6 hlf hpsi hfl hsz M hx
  go_enter Tryz.func101,Tryz.ntmps101
  go_wp2_with fail
  refine (HLS.out _ _ _ HM.out).mono ?_
  rintro e w2 ⟨rfl,fl2,h2⟩
  have H2:=hid h2
  clear h2 k0 k1 k2 k3 k4 k5 k6 k7 k8 k9 k10
  obtain ⟨k0,k1,k2,k3,k4,k5,k6,k7,k8,k9,k10⟩:=HD.out _ _ _ _ _ H2.out
  go_wp2_with fail
  refine (HV.out _ _ _ H2.out).mono ?_
  rintro e w3 ⟨rfl,fl3,h3⟩
  have H3:=hid h3
  clear h3 k0 k1 k2 k3 k4 k5 k6 k7 k8 k9 k10
  obtain ⟨k0,k1,k2,k3,k4,k5,k6,k7,k8,k9,k10⟩:=HD.out _ _ _ _ _ H3.out
  go_wp2_with fail
  refine (HA.out _ _ _ H3.out).mono ?_
  rintro e w4 ⟨rfl,fl4,h4⟩
  have H4:=hid (HE.out _ _ h4)
  clear h4 k0 k1 k2 k3 k4 k5 k6 k7 k8 k9 k10
  go_wp2
  go_ret
  exact ⟨1,rfl,H4.out⟩
 ·obtain ⟨r,T',hU,hrT,r2,r3,hamt,hun,hlv⟩:=T.says hR hL hu
  have HP:=hid (fun w' flo fhi (h:TsM n ao cap x w0 w1 sb lb ab pb cb p rv lo hi B b1 VA TL w' RL VS U S c f flo fhi)=>part_any h T hR hL hF.wi hu hm)
  have HE:=hid (show ∀ w' f2 RL2 flo3,Off1 f f2 v→TsM n ao cap x w0 w1 sb lb ab pb cb p rv lo hi B b1 VA TL w' RL2 VS U S c f2 flo3 (fhi+fc m+fc m+3*fc m)→Tre n TL g x U f2 RL2 S→FillR n ao cap x w0 w1 sb lb ab pb cb p rv lo hi B b1 VA TL w' VS U S c f fhi m g A 0 from fun w' f2 RL2 flo3 ho h1 h2=>by
   have hpsi:=cost_le (C:=fc m+1) (psi_part (TL:=TL) (A:=A) (S:=S) (x:=x) (g:=g) (n:=n) hv hu hU (fun c=>hxa (by rw [hamt];exact c.1)) ho)
   refine ⟨g,f2,RL2,flo3,_,h1,h2,fun y z hy=>?_,by rw [ho.len];exact hm,by omega,.inl ⟨rfl,rfl⟩⟩
   rw [ho.up] at hy
   split at hy
   ·cases hy
   ·exact hy)
  have hlt:decide (amt f.v v<x)=true:=by simp;omega
  generalize amt f.v v=X at *
  clear T hR hL hF hs hm hlz hv hvp hu ha0 ha1 hle hxa hsz M hx hU hrT r2 r3 hamt hun hlv
  go_enter Tryz.func101,Tryz.ntmps101
  go_wp2_with fail
  refine (HLS.out _ _ _ HM.out).mono ?_
  rintro e w2 ⟨rfl,fl2,h2⟩
  have H2:=hid h2
  clear h2 k0 k1 k2 k3 k4 k5 k6 k7 k8 k9 k10
  obtain ⟨k0,k1,k2,k3,k4,k5,k6,k7,k8,k9,k10⟩:=HD.out _ _ _ _ _ H2.out
  go_wp2_with fail
  refine (HV.out _ _ _ H2.out).mono ?_
  rintro e w3 ⟨rfl,fl3,h3⟩
  have H3:=hid h3
  clear h3 k0 k1 k2 k3 k4 k5 k6 k7 k8 k9 k10
  obtain ⟨k0,k1,k2,k3,k4,k5,k6,k7,k8,k9,k10⟩:=HD.out _ _ _ _ _ H3.out
  go_wp2_with fail
  refine (HP.out _ _ _ H3.out).mono ?_
  rintro e w4 ⟨rfl,f2,RL2,fl4,h4,h5,h6⟩
  have H4:=hid (HE.out _ _ _ _ h4 h5 h6)
  clear h4 h5 h6 k0 k1 k2 k3 k4 k5 k6 k7 k8 k9 k10
  go_wp2
  go_ret
  exact ⟨0,rfl,H4.out⟩
end
end Ne
namespace Ne
open Sp (Off Ext)
open Fo (Ft FoO fc)
def aheadL (n:Net) (TL:List Nat) (v:Nat):List Nat:=(TL.filter fun r=>decide ((trT n.l r).toNat=v)).map fun r=>(trF n.l r).toNat
def aheadN (n:Net) (TL:List Nat) (v:Nat):Nat:=(TL.filter fun r=>decide ((trT n.l r).toNat=v)).length
theorem aheadL_len (n:Net) (TL:List Nat) (v:Nat):(aheadL n TL v).length=aheadN n TL v:=by simp [aheadL,aheadN]
def LeaveI (n:Net) (ao:Option Addr) (cap:Nat) (x:Int) (w0 w1:World) (sb lb ab pb cb p:Nat) (rv:Value) (lo hi B b1:Nat) (VA:Nat→Value) (TL:List Nat) (w':World) (VS:Nat→Value) (U:Nat→List Nat) (S2:List Bool) (v:Nat) (Y:List Nat) (i c0 m H:Nat) (g:List Int):Prop :=
 ∃ f2 RL2 flo2 fhi2,TsM n ao cap x w0 w1 sb lb ab pb cb p rv lo hi B b1 VA TL w' RL2 VS U S2 (c0+i) f2 flo2 fhi2∧Tre n TL g x U f2 RL2 S2∧f2.v.length=m∧(∀ y u,f2.up y=some u→S2.getD u false=true→u=v∧y∈Y.drop i) ∧
  fhi2+(c0+i)+(fc m+1)*psi n TL g x U f2 S2 (aheadN n TL)+(fc m+1)*(Y.length-i)+(fc m+1)≤H
def LeaveR (n:Net) (ao:Option Addr) (cap:Nat) (x:Int) (w0 w1:World) (sb lb ab pb cb p:Nat) (rv:Value) (lo hi B b1:Nat) (VA:Nat→Value) (TL:List Nat) (w':World) (VS:Nat→Value) (U:Nat→List Nat) (S2:List Bool) (c m H:Nat) (g:List Int):Prop :=
 ∃ f2 RL2 flo2 fhi2 c2,TsM n ao cap x w0 w1 sb lb ab pb cb p rv lo hi B b1 VA TL w' RL2 VS U S2 c2 f2 flo2 fhi2∧Tre n TL g x U f2 RL2 S2∧f2.v.length=m∧(∀ y u,f2.up y=some u→S2.getD u false=false)∧c≤c2 ∧
  fhi2+c2+(fc m+1)*psi n TL g x U f2 S2 (aheadN n TL)+(fc m+1)≤H
section
variable {n:Net} {ao:Option Addr} {cap:Nat} {x:Int} {w0 w1:World} {sb lb ab pb cb p:Nat} {rv:Value} {lo hi B b1:Nat} {VA:Nat→Value} {TL:List Nat}
variable {w w2:World} {RL:List Int} {VS:Nat→Value} {U:Nat→List Nat} {S:List Bool} {c:Nat} {f f2:Ft} {flo fhi flo2 fhi2:Nat} {m H:Nat} {g:List Int} {L:List Int} {A:Nat→Nat}
theorem TsM.aheadr (h:TsM n ao cap x w0 w1 sb lb ab pb cb p rv lo hi B b1 VA TL w RL VS U S c f flo fhi) {v:Nat} (hv:v<n.n.toNat+1):∃ o rc,VA v=.slice o (aheadL n TL v).length rc∧(aheadL n TL v).length≤rc∧∀ w' RL' VS' U' S' c' f' flo' fhi',TsM n ao cap x w0 w1 sb lb ab pb cb p rv lo hi B b1 VA TL w' RL' VS' U' S' c' f' flo' fhi'→w'.cell? ⟨ab,v,none⟩=some (.slice o (aheadL n TL v).length rc)∧∀ i,i<(aheadL n TL v).length→∃ b off,o=some ⟨b,off,none⟩∧w'.cell? ⟨b,off+i,none⟩=some (.int .i64 (((aheadL n TL v).getD i 0:Nat):Int)):=by
 obtain ⟨o,rc,h1,h2,_,_⟩:=h.st.ahead.each v hv
 refine ⟨o,rc,h1,h2,fun w' RL' VS' U' S' c' f' flo' fhi' h'=>⟨?_,fun i hil=>?_⟩⟩
 ·have:=h'.aheads.cell hv
  rw [this,h1];rfl
 ·obtain ⟨b,off,rc2,e1,_,_,_,_,e2⟩:=rowOf_at (h'.aheads.each v hv) (i:=i) hil
  rw [h1] at e1
  simp only [Value.slice.injEq] at e1
  exact ⟨b,off,e1.1,e2 i hil⟩
theorem leave_first (hR:Right n) (hL:Lds n.l L TL) (M:TsM n ao cap x w0 w1 sb lb ab pb cb p rv lo hi B b1 VA TL w RL VS U S c f flo fhi) (T:Tre n TL g x U f RL S) {v:Nat} (hv:v<n.n.toNat+1) (hvt:v≠n.t.toNat) (hU:U v=[]) (hs:S.getD v false=false) (hK:∀ y u,f.up y=some u→S.getD u false=false) (hm:f.v.length=m) (hH:fhi+c+(fc m+1)*psi n TL g x U f S (aheadN n TL)≤H) (hlt:v<S.length) :
  LeaveI n ao cap x w0 w1 sb lb ab pb cb p rv lo hi B b1 VA TL (w.setCell ⟨pb,v,none⟩ (.bool true)) VS U (S.set v true) v (aheadL n TL v) 0 c m H g:=by
 have hpsi:=cost_le (C:=fc m+1) (psi_spend (A:=aheadN n TL) T hv hs)
 rw [Nat.mul_add] at hpsi
 refine ⟨f,RL,flo,fhi,M.spend hlt,tre_spend hR hL T hv hvt hU,hm,fun y u hy hu=>?_,by rw [aheadL_len,Nat.sub_zero];omega⟩
 rw [getD_set _ _ _ hlt] at hu
 have hk:=hK y u hy
 have hvu:u=v:=by
  by_cases c:u=v
  ·exact c
  ·rw [if_neg c,hk] at hu;cases hu
 refine ⟨hvu,?_⟩
 obtain ⟨r,T',e,r1,r2,r3,_⟩:=T.says hR hL hy
 rw [List.drop_zero]
 unfold aheadL
 exact List.mem_map.2 ⟨r,List.mem_filter.2 ⟨r1,by simp;omega⟩,by omega⟩
theorem leave_next (hR:Right n) (hL:Lds n.l L TL) {v i:Nat} {Y:List Nat} {w':World} (T:Tre n TL g x U f2 RL S) (hil:i<Y.length) (hm:f2.v.length=m)
  (hK:∀ y u,f2.up y=some u→S.getD u false=true→u=v∧y∈Y.drop i) (hne:f2.up (Y.getD i 0)≠some v)
  (hH:fhi2+(c+i)+(fc m+1)*psi n TL g x U f2 S (aheadN n TL)+(fc m+1)*(Y.length-i)+(fc m+1)≤H)
  (M:TsM n ao cap x w0 w1 sb lb ab pb cb p rv lo hi B b1 VA TL w' RL VS U S (c+i+1) f2 flo2 (fhi2+fc m)):LeaveI n ao cap x w0 w1 sb lb ab pb cb p rv lo hi B b1 VA TL w' VS U S v Y (i+1) c m H g:=by
 have h1:(fc m+1)*(Y.length-i)=(fc m+1)*(Y.length-(i+1))+(fc m+1):=by
  rw [show Y.length-i=Y.length-(i+1)+1 by omega,Nat.mul_succ]
 refine ⟨f2,RL,flo2,_,M,T,hm,fun y u hy hu=>?_,by omega⟩
 obtain ⟨e1,e2⟩:=hK y u hy hu
 refine ⟨e1,?_⟩
 subst e1
 rw [List.drop_eq_getElem_cons hil] at e2
 rcases List.mem_cons.1 e2 with c | c
 ·exfalso
  refine hne ?_
  rw [List.getD_eq_getElem?_getD,List.getElem?_eq_getElem hil]
  show f2.up Y[i]=_
  rw [← c];exact hy
 ·exact c
theorem leave_part (hR:Right n) (hL:Lds n.l L TL) {v i:Nat} {Y:List Nat} {w':World} {f3:Ft} {RL3:List Int} (T:Tre n TL g x U f2 RL S) (hil:i<Y.length) (hm:f2.v.length=m) (hsv:S.getD v false=true)
  (hK:∀ y u,f2.up y=some u→S.getD u false=true→u=v∧y∈Y.drop i) (hu:f2.up (Y.getD i 0)=some v)
  (hH:fhi2+(c+i)+(fc m+1)*psi n TL g x U f2 S (aheadN n TL)+(fc m+1)*(Y.length-i)+(fc m+1)≤H)
  (ho:Off1 f2 f3 (Y.getD i 0)) (M:TsM n ao cap x w0 w1 sb lb ab pb cb p rv lo hi B b1 VA TL w' RL3 VS U S (c+i+1) f3 flo2 (fhi2+fc m+3*fc m)) (T3:Tre n TL g x U f3 RL3 S):LeaveI n ao cap x w0 w1 sb lb ab pb cb p rv lo hi B b1 VA TL w' VS U S v Y (i+1) c m H g:=by
 obtain ⟨r,T',hU,r1,r2,r3,_⟩:=T.says hR hL hu
 have hpsi:=cost_le (C:=fc m+1) (psi_part (TL:=TL) (A:=aheadN n TL) (S:=S) (x:=x) (g:=g) (n:=n) (T.lt hu) hu hU (fun c=>by
  rw [show (trT n.l r).toNat=v by omega,hsv] at c
  exact absurd c.2 (by simp)) ho)
 refine leave_next hR hL (f2:=f3) (fhi2:=fhi2+3*fc m) T3 hil (by rw [ho.len];exact hm) (fun y u hy hs=>?_) (fun c=>?_) (by omega) (by rwa [show fhi2+3*fc m+fc m=fhi2+fc m+3*fc m by omega])
 ·rw [ho.up] at hy
  split at hy
  ·cases hy
  ·exact hK y u hy hs
 ·rw [ho.up,if_pos rfl] at c;cases c
theorem leave_end {v:Nat} {Y:List Nat} {w':World} (h:LeaveI n ao cap x w0 w1 sb lb ab pb cb p rv lo hi B b1 VA TL w' VS U S v Y Y.length c m H g):LeaveR n ao cap x w0 w1 sb lb ab pb cb p rv lo hi B b1 VA TL w' VS U S c m H g:=by
 obtain ⟨f2,RL2,flo2,fhi2,M,T,hm,hK,hc⟩:=h
 refine ⟨f2,RL2,flo2,fhi2,_,M,T,hm,fun y u hy=>?_,by omega,by omega⟩
 rcases e:S.getD u false with _ | _
 ·rfl
 ·have:=(hK y u hy e).2
  rw [List.drop_length] at this
  simp at this
theorem leave_any (M:TsM n ao cap x w0 w1 sb lb ab pb cb p rv lo hi B b1 VA TL w RL VS U S c f flo fhi) (T:Tre n TL g x U f RL S) (hR:Right n) (hL:Lds n.l L TL) (hF:Okf n g) {v:Nat} (hv:v<n.n.toNat+1) (hvt:v≠n.t.toNat) (hU:U v=[]) (hs:S.getD v false=false) (hK:∀ y u,f.up y=some u→S.getD u false=false) (hm:f.v.length=m) (hH:fhi+c+(fc m+1)*psi n TL g x U f S (aheadN n TL)≤H) (hH2:H≤4611686018427387904) (hTL:TL.length≤1000000) :
  Calls Tryz.prog 103 #[.pointer (some ⟨sb,0,none⟩),.int .i64 (v:Int)] w fun e w'=>e=.returned (.tuple #[])∧LeaveR n ao cap x w0 w1 sb lb ab pb cb p rv lo hi B b1 VA TL w' VS U (S.set v true) c m H g:=by
 have hlt:v<S.length:=by rw [T.slen];exact hv
 have HI0:=hid (leave_first hR hL M T hv hvt hU hs hK hm hH hlt)
 have hsv:(S.set v true).getD v false=true:=by rw [getD_set _ _ _ hlt,if_pos rfl]
 obtain ⟨o,rc,hVA,hrc,hY⟩:=M.aheadr hv
 have HY:=hid hY
 have HYE:=hid (show ∀ i,i<(aheadL n TL v).length→(aheadL n TL v).getD i 0<m from fun i hil=>by
  have:=getD_mem hil
  unfold aheadL at this
  obtain ⟨r,hr,e⟩:=List.mem_map.1 this
  have h1:=trF_bd hR (hL.lt r (List.mem_filter.1 hr).1)
  unfold aheadL
  rw [← hm,T.len,← e];omega)
 have HYL:=hid (show (aheadL n TL v).length≤1000000 by
  rw [aheadL_len]
  unfold aheadN
  exact Nat.le_trans (List.length_filter_le _ _) hTL)
 have HEND:=hid (fun w' (h:LeaveI n ao cap x w0 w1 sb lb ab pb cb p rv lo hi B b1 VA TL w' VS U (S.set v true) v (aheadL n TL v) (aheadL n TL v).length c m H g)=>leave_end h)
 have HROUND:=hid (show ∀ w' i,i<(aheadL n TL v).length→LeaveI n ao cap x w0 w1 sb lb ab pb cb p rv lo hi B b1 VA TL w' VS U (S.set v true) v (aheadL n TL v) i c m H g→∃ f2 RL2 flo2 fhi2,TsM n ao cap x w0 w1 sb lb ab pb cb p rv lo hi B b1 VA TL w' RL2 VS U (S.set v true) (c+i) f2 flo2 fhi2∧c+i≤4611686018427387904 ∧
   (∀ w3,TsM n ao cap x w0 w1 sb lb ab pb cb p rv lo hi B b1 VA TL w3 RL2 VS U (S.set v true) (c+i+1) f2 flo2 fhi2→Calls Tryz.prog 104 #[.pointer (some ⟨p,0,none⟩),.int .i64 (((aheadL n TL v).getD i 0:Nat):Int)] w3 fun e w4=>∃ z:Int,e=.returned (.int .i64 z) ∧
    ((z=(v:Int)∧∃ flo3 fhi3,TsM n ao cap x w0 w1 sb lb ab pb cb p rv lo hi B b1 VA TL w4 RL2 VS U (S.set v true) (c+i+1) f2 flo3 fhi3∧Calls Tryz.prog 105 #[.pointer (some ⟨sb,0,none⟩),.int .i64 (((aheadL n TL v).getD i 0:Nat):Int)] w4 fun e w5=>e=.returned (.tuple #[])∧LeaveI n ao cap x w0 w1 sb lb ab pb cb p rv lo hi B b1 VA TL w5 VS U (S.set v true) v (aheadL n TL v) (i+1) c m H g) ∨
    (z≠(v:Int)∧LeaveI n ao cap x w0 w1 sb lb ab pb cb p rv lo hi B b1 VA TL w4 VS U (S.set v true) v (aheadL n TL v) (i+1) c m H g))) from fun w' i hil h=>by
  have hyl:=HYE.out i hil
  obtain ⟨f2,RL2,flo2,fhi2,M2,T2,hm2,hK2,hc2⟩:=h
  refine ⟨f2,RL2,flo2,fhi2,M2,by omega,fun w3 M3=>(M3.above hm2 _).mono ?_⟩
  rintro e w4 ⟨rfl,flo3,M4⟩
  refine ⟨_,rfl,?_⟩
  rw [Fo.aboveZ_nat (by omega)]
  by_cases hu:f2.up ((aheadL n TL v).getD i 0)=some v
  ·left
   rw [hu]
   refine ⟨rfl,_,_,M4,(part_any M4 T2 hR hL hF.wi hu hm2).mono ?_⟩
   rintro e w5 ⟨rfl,f3,RL3,flo5,ho,M5,T5⟩
   exact ⟨rfl,leave_part hR hL T2 hil hm2 hsv hK2 hu hc2 ho M5 T5⟩
  ·right
   refine ⟨fun c=>hu ?_,leave_next hR hL T2 hil hm2 hK2 hu hc2 M4⟩
   cases e:f2.up ((aheadL n TL v).getD i 0) with
   | none=>rw [e] at c;simp only [Fo.oz] at c;omega
   | some z=>rw [e] at c;simp only [Fo.oz] at c;exact congrArg some (by omega))
 have HD:=hid (fun w' RL' f' c' flo fhi (h:TsM n ao cap x w0 w1 sb lb ab pb cb p rv lo hi B b1 VA TL w' RL' VS U (S.set v true) c' f' flo fhi)=>h.tc)
 have HMORE:=hid (fun w' RL' f' c' flo fhi (h:TsM n ao cap x w0 w1 sb lb ab pb cb p rv lo hi B b1 VA TL w' RL' VS U (S.set v true) c' f' flo fhi) hc=>more_any h hc)
 have HINI:=hid (show ∀ w' i,LeaveI n ao cap x w0 w1 sb lb ab pb cb p rv lo hi B b1 VA TL w' VS U (S.set v true) v (aheadL n TL v) i c m H g→∃ f2 RL2 flo2 fhi2,TsM n ao cap x w0 w1 sb lb ab pb cb p rv lo hi B b1 VA TL w' RL2 VS U (S.set v true) (c+i) f2 flo2 fhi2 from fun w' i h=>by
  obtain ⟨f2,RL2,flo2,fhi2,M2,_⟩:=h
  exact ⟨f2,RL2,flo2,fhi2,M2⟩)
 obtain ⟨k0,k1,k2,k3,k4,k5,k6,k7,k8,k9,k10⟩:=M.tc
 obtain ⟨s0,s1⟩:=M.marks T.slen hv
 have hvi:(v:Int)<(n.n.toNat:Int)+1:=by omega
 have hv0:(0:Int)≤(v:Int):=by omega
 obtain ⟨w1n,w2n,w3n,w4n,w5n,w6n⟩:=M.st.ne
 have d1:¬ pb=sb:=w6n
 have d2:¬ sb=pb:=Ne.symm w6n
 have d3:¬ ab=pb:=w4n
 have d4:¬ pb=ab:=Ne.symm w4n
 have a0:=(hY _ _ _ _ _ _ _ _ _ M).1
 clear w1n w2n w3n w4n w5n w6n
 clear M T hR hL hF hv hvt hU hs hK hm hH hH2 hTL hlt hsv hVA hY
 generalize S.set v true=S2 at *
 generalize aheadL n TL v=Y at *
 generalize hYN:Y.length=YN at *
 have HYN:=hid hYN
 clear hYN
 go_enter Tryz.func103,Tryz.ntmps103
 go_wp2
 clear k0 k1 k2 k3 k4 k5 k6 k7 k8 k9 k10 s0 s1 a0
 go_loopg [5,20] YN (fun gg s5 s20 wr=>(∃ z,s5=z)∧∃ i:Nat,s20=.int .i64 (i:Int)∧i+gg=YN∧Hid (LeaveI n ao cap x w0 w1 sb lb ab pb cb p rv lo hi B b1 VA TL wr VS U S2 v Y i c m H g))
 case atStart=>exact ⟨⟨_,rfl⟩,0,rfl,by omega,HI0⟩
 case round =>
  obtain ⟨⟨z5,rfl⟩,i,rfl,hig,HLI⟩:=hrel
  by_cases hin:i<YN
  ·obtain ⟨f2,RL2,flo2,fhi2,hM,hc,HAB⟩:=HROUND.out wr i hin HLI.out
   have HAB:=hid HAB
   obtain ⟨b,off,rfl,e0⟩:=(HY.out _ _ _ _ _ _ _ _ _ hM).2 i hin
   obtain ⟨k0,k1,k2,k3,k4,k5,k6,k7,k8,k9,k10⟩:=HD.out _ _ _ _ _ _ hM
   have HMO:=hid (HMORE.out _ _ _ _ _ _ hM hc)
   have hii:(i:Int)<(YN:Int):=by omega
   have hi0:(0:Int)≤(i:Int):=by omega
   have hw1:IntKind.i64.wrap ((i:Int)+1)=((i+1:Nat):Int):=by have:=HYL.out;rw [IntKind.wrap_i64];omega
   generalize Y.getD i 0=y at *
   clear hM hc
   go_wp2_with fail
   refine HMO.out.mono ?_
   rintro e w3 ⟨rfl,h3⟩
   clear k0 k1 k2 k3 k4 k5 k6 k7 k8 k9 k10 e0
   obtain ⟨k0,k1,k2,k3,k4,k5,k6,k7,k8,k9,k10⟩:=HD.out _ _ _ _ _ _ h3
   have HA3:=hid (HAB.out _ h3)
   clear h3
   go_wp2_with fail
   refine HA3.out.mono ?_
   rintro e w4 ⟨z,rfl,hz⟩
   clear k0 k1 k2 k3 k4 k5 k6 k7 k8 k9 k10
   rcases hz with ⟨rfl,flo4,fhi4,h4,h5⟩ | ⟨hz,h4⟩
   ·have H5:=hid h5
    have hvv:((v:Int) == (v:Int))=true:=by simp
    clear h4 h5
    go_wp2_with fail
    refine H5.out.mono ?_
    rintro e w5 ⟨rfl,h6⟩
    have H6:=hid h6
    clear h6
    go_wp2
    go_roundg (YN-(i+1))
    case measure=>omega
    case rel=>exact ⟨⟨_,rfl⟩,i+1,rfl,by omega,H6⟩
   ·have H4:=hid h4
    have hvv:(z == (v:Int))=false:=by simpa using hz
    clear h4
    go_wp2
    go_roundg (YN-(i+1))
    case measure=>omega
    case rel=>exact ⟨⟨_,rfl⟩,i+1,rfl,by omega,H4⟩
  ·obtain rfl:i=YN:=by omega
   have HE:=hid (HEND.out _ HLI.out)
   go_wp2
   go_end0
   exact ⟨rfl,HE.out⟩
end
end Ne
end Go.Proofs.YthhlfphnokdfaaaGreat
