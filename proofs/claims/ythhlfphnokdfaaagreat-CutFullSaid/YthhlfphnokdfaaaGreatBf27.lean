/-
  Fpf
-/
import Derived.Test.YthhlfphnokdfaaaGreatBf26
set_option linter.unusedVariables false
set_option linter.unusedSimpArgs false
set_option maxRecDepth 100000
set_option maxHeartbeats 4000000
namespace Go.Proofs.YthhlfphnokdfaaaGreat
open Go.ChangeShapes Go.WideShapes Go.ChangeAt Go.RowKit
open Lib (hid)
namespace Fo
open Sp (Off Ext SpO ac jc it)
def FoO (w:World) (B:Nat) (F:Nat→Prop) (p:Nat) (f:Ft) (lo hi:Nat):Prop :=
 ∃ q go s ov h,FoP w B F p q go s ov lo h∧Rp f s ov∧h+tc f.v.length*idle f (pf s)≤hi
def fc (n:Nat):Nat:=tc n*(3*n.log2+3)+12*ac n
def ft (f:Ft) (x:Int):Nat:=if there f x then 1 else 0
theorem cost_show {t a b i i' l L A:Nat} (h:b+t*i'≤a+t*(i+2*l+1)+6*A) (hl:l≤L):b+t*i'≤a+t*i+t*(2*L+1)+6*A:=by
 have h1:t*(i+2*l+1)≤t*(i+(2*L+1)):=Nat.mul_le_mul_left t (by omega)
 rw [Nat.mul_add t i (2*L+1)] at h1
 omega
theorem cost_two {t b i i' L:Nat} (h:i'≤i+L+1):t*i'≤t*i+t*(L+1):=by
 have:=Nat.mul_le_mul_left t (show i'≤i+(L+1) by omega)
 rwa [Nat.mul_add] at this
theorem cost_a (t L:Nat):t*(2*L+1)≤t*(3*L+3):=Nat.mul_le_mul_left t (by omega)
theorem cost_b (t L:Nat):t*(2*L+1)+t*(L+1)≤t*(3*L+3):=by rw [← Nat.mul_add];exact Nat.mul_le_mul_left t (by omega)
theorem cost_c (t L:Nat):t*(2*0+1)+t*(2*L+1)+t*(L+1)=t*(3*L+3):=by rw [← Nat.mul_add,← Nat.mul_add];congr 1;omega
section
variable {F F1 G:Nat→Prop} {w w0 w2:World} {B p q go lo hi:Nat} {s:Sp.St} {ov:Nat→Option Nat} {f:Ft}
theorem FoO.off (h:FoO w B F p f lo hi) (ho:Off G w w2) (hd:∀ g,F g→¬ G g):FoO w2 B F p f lo hi:=by
 obtain ⟨q,go,s,ov,h0,h1,h2,h3⟩:=h
 exact ⟨q,go,s,ov,h0,h1.off ho hd,h2,h3⟩
theorem FoA.done {f':Ft} {lo3 hi2:Nat} (h:FoA F w w2 B p q go s ov lo hi) (hr:Rp f' s ov) (hh:hi+tc f'.v.length*idle f' (pf s)≤hi2) (hlo:lo3≤lo):FoO w2 B (Ext F w w2) p f' lo3 hi2∧Off F w w2 :=
 ⟨⟨q,go,s,ov,hi,h.1.low hlo,hr,hh⟩,h.2⟩
theorem ft_in {v:Nat} (hv:v<f.v.length):ft f (v:Int)=1:=by unfold ft;rw [if_pos (show there f (v:Int) from ⟨by omega,by omega⟩)]
theorem ft_out {x:Int} (hx:¬ (0≤x∧x<(f.v.length:Int))):ft f x=0:=by unfold ft;rw [if_neg (show ¬ there f x from hx)]
theorem rowZ_out (h:Rp f s ov) {x:Int} (hx:¬ (0≤x∧x<(f.v.length:Int))):Sp.rowZ s x=[]:=(Sp.rowZ_nil h.sg).2 (by have:=h.len;omega)
theorem pathZ_out (h:Good f) {x:Int} (hx:¬ (0≤x∧x<(f.v.length:Int))):pathZ f x=[]:=h.pathZ_nil.2 hx
theorem show_out (h:FoP w B F p q go s ov lo hi) {x:Int} (hx:¬ (0≤x∧x<(s.v.length:Int))) :
  Calls Tryz.prog 108 #[.pointer (some ⟨p,0,none⟩),.int .i64 x] w fun e w'=>e=.returned (.int .i64 (-1))∧w=w':=by
 have HHS:=hid (fhas_any h x)
 rw [decide_eq_false hx] at HHS
 clear h hx
 go_enter Tryz.func108,Tryz.ntmps108
 go_wp2_with fail
 refine HHS.out.mono ?_
 rintro e w1 ⟨rfl,rfl⟩
 go_wp2
 go_ret
 exact ⟨rfl,rfl⟩
theorem shn_cost {v r:Nat} {h0:Nat} (h:Shn F w0 w2 B p q go f s lo h0 v r) (hv:v<f.v.length) (hf:Good f) (hh:h0+tc f.v.length*idle f (pf s)≤hi) :
  ∃ s' ov' h',FoA F w0 w2 B p q go s' ov' (lo+1) h'∧Rp f s' ov'∧s'.r v=path f v∧root f v=some r∧f.up r=none∧h' + tc f.v.length*idle f (pf s')≤hi+tc f.v.length*(2*f.v.length.log2+1)+6*ac f.v.length∧(f.up v=none→h' + tc f.v.length*idle f (pf s')≤hi+tc f.v.length*(2*0+1)+6*ac f.v.length):=by
 obtain ⟨s',ov',h',g1,g2,g3,g4,g5,g6⟩:=h
 refine ⟨s',ov',h',g1,g2,g3,g4,g5,?_,fun hu=>?_⟩
 ·have:=cost_show g6 (lights_log hf hv);omega
 ·rw [lights_root hf hv hu] at g6
  have:=cost_show g6 (Nat.le_refl 0);omega
theorem froot_any (h:FoO w B F p f lo hi) (hBw:B≤w.heap.size) (x:Int) :
  Calls Tryz.prog 100 #[.pointer (some ⟨p,0,none⟩),.int .i64 x] w fun e w'=>e=.returned (.int .i64 (rootZ f x))∧FoO w' B (Ext F w w') p f (lo+ft f x) (hi+fc f.v.length)∧Off F w w':=by
 obtain ⟨q,go,s,ov,h0,h1,hr,hh⟩:=h
 have hf:=hr.fg
 have hsl:=hr.len
 by_cases hx:0≤x∧x<(f.v.length:Int)
 case neg =>
  have HS:=hid (show_out h1 (x:=x) (by rw [hsl];exact hx))
  have HA:=hid h1.start
  have HE:=hid (HA.out.done (lo3:=lo+ft f x) (hi2:=hi+fc f.v.length) hr (by omega) (by rw [ft_out hx];omega))
  have hz:rootZ f x = -1:=by unfold rootZ;rw [pathZ_out hf hx]
  rw [hz]
  clear h1 hr hh hx hf hsl HA hz
  go_enter Tryz.func100,Tryz.ntmps100
  go_wp2_with fail
  refine HS.out.mono ?_
  rintro e w1 ⟨rfl,rfl⟩
  go_wp2
  go_ret
  exact ⟨rfl,HE.out⟩
 obtain ⟨v,rfl⟩:∃ v:Nat,x=(v:Int):=⟨x.toNat,by omega⟩
 have hv:v<f.v.length:=by omega
 have HS:=hid (show_any h1.start hBw hr hv)
 have HE:=hid (show ∀ w2 r,Shn F w w2 B p q go f s lo h0 v r→rootZ f (v:Int)=(r:Int)∧FoO w2 B (Ext F w w2) p f (lo+ft f (v:Int)) (hi+fc f.v.length)∧Off F w w2 from fun w2 r hs=>by
  obtain ⟨s',ov',h',g1,g2,g3,g4,g5,g6,g7⟩:=shn_cost hs hv hf hh
  refine ⟨by
   obtain ⟨r2,k1,k2,_⟩:=hf.rootZ_eq hv
   rw [g4] at k1
   cases k1
   exact k2,g1.done g2 (by unfold fc;have:=cost_a (tc f.v.length) f.v.length.log2;omega) (by rw [ft_in hv];exact Nat.le_refl _)⟩)
 generalize rootZ f (v:Int)=Z at *
 clear h1 hr hh hx hf hsl
 go_enter Tryz.func100,Tryz.ntmps100
 go_wp2_with fail
 refine HS.out.mono ?_
 rintro e w1 ⟨r,rfl,hs⟩
 obtain ⟨rfl,hE⟩:=HE.out _ _ hs
 have HE2:=hid hE
 clear hE hs
 go_wp2
 go_ret
 exact ⟨rfl,HE2.out⟩
theorem fabove_any (h:FoO w B F p f lo hi) (hBw:B≤w.heap.size) (x:Int) :
  Calls Tryz.prog 104 #[.pointer (some ⟨p,0,none⟩),.int .i64 x] w fun e w'=>e=.returned (.int .i64 (aboveZ f x))∧FoO w' B (Ext F w w') p f (lo+ft f x) (hi+fc f.v.length)∧Off F w w':=by
 obtain ⟨q,go,s,ov,h0,h1,hr,hh⟩:=h
 have hf:=hr.fg
 have hsl:=hr.len
 by_cases hx:0≤x∧x<(f.v.length:Int)
 case neg =>
  have HS:=hid (show_out h1 (x:=x) (by rw [hsl];exact hx))
  have HA:=hid h1.start
  obtain ⟨n0,n1⟩:=h1.cells
  have HC:=hid (HA.out.call hBw (fn:=113) (args:=#[.agg #[.pointer (some ⟨q,0,none⟩)],.int .i64 x,.int .i64 (-1)]) (fun F1 k1 kb=>Sp.beside_any k1 kb x (-1) (by omega)) rfl)
  have HE:=hid (show ∀ w2 lo2,lo≤lo2→FoA F w w2 B p q go s ov lo2 (h0+3*ac s.v.length)→FoO w2 B (Ext F w w2) p f (lo+ft f x) (hi+fc f.v.length)∧Off F w w2 from fun w2 lo2 hl ha=>ha.done hr (by rw [hsl];unfold fc;omega) (by rw [ft_out hx];omega))
  have hz:aboveZ f x = -1:=by unfold aboveZ;rw [if_neg (show ¬ there f x from hx)]
  rw [hz]
  rw [show Sp.atZ s x (Sp.placeZ s x + -1) = -1 by unfold Sp.atZ;rw [rowZ_out hr hx];unfold Sp.atL;split <;> rfl] at HC
  clear h1 hr hh hx hf hsl HA hz
  go_enter Tryz.func104,Tryz.ntmps104
  go_wp2_with fail
  refine HS.out.mono ?_
  rintro e w1 ⟨rfl,rfl⟩
  go_wp2_with fail
  refine HC.out.mono ?_
  rintro e w2 ⟨rfl,h2⟩
  have HE2:=hid (HE.out _ _ (by omega) h2)
  clear h2
  go_wp2
  go_ret
  exact ⟨rfl,HE2.out⟩
 obtain ⟨v,rfl⟩:∃ v:Nat,x=(v:Int):=⟨x.toNat,by omega⟩
 have hv:v<f.v.length:=by omega
 have HS:=hid (show_any h1.start hBw hr hv)
 have HE:=hid (show ∀ w2 r,Shn F w w2 B p q go f s lo h0 v r→w2.cell? ⟨p,0,none⟩=some (.pointer (some ⟨q,0,none⟩))∧Calls Tryz.prog 113 #[.agg #[.pointer (some ⟨q,0,none⟩)],.int .i64 (v:Int),.int .i64 (-1)] w2 fun e w3=>e=.returned (.int .i64 (aboveZ f (v:Int)))∧FoO w3 B (Ext F w w3) p f (lo+ft f (v:Int)) (hi+fc f.v.length)∧Off F w w3 from fun w2 r hs=>by
  obtain ⟨s',ov',h',g1,g2,g3,g4,g5,g6,g7⟩:=shn_cost hs hv hf hh
  refine ⟨g1.1.cells.1,?_⟩
  have hc:=g1.call hBw (fn:=113) (args:=#[.agg #[.pointer (some ⟨q,0,none⟩)],.int .i64 (v:Int),.int .i64 (-1)]) (fun F1 k1 kb=>Sp.beside_any k1 kb (v:Int) (-1) (by omega)) rfl
  rw [beside_prev g2 hv g3,show oz (f.up v)=aboveZ f (v:Int) by unfold aboveZ;rw [if_pos (show there f (v:Int) from ⟨by omega,by omega⟩),Int.toNat_natCast]] at hc
  refine hc.mono ?_
  rintro e w3 ⟨h3,h4⟩
  refine ⟨h3,h4.done g2 (by rw [g2.len];unfold fc;have:=cost_a (tc f.v.length) f.v.length.log2;omega) (by rw [ft_in hv];omega)⟩)
 generalize aboveZ f (v:Int)=Z at *
 clear h1 hr hh hx hf hsl
 go_enter Tryz.func104,Tryz.ntmps104
 go_wp2_with fail
 refine HS.out.mono ?_
 rintro e w1 ⟨r,rfl,hs⟩
 obtain ⟨m0,hE⟩:=HE.out _ _ hs
 have HE2:=hid hE
 clear hE hs
 go_wp2_with fail
 refine HE2.out.mono ?_
 rintro e w2 ⟨rfl,h2⟩
 have HE3:=hid h2
 clear h2 m0
 go_wp2
 go_ret
 exact ⟨rfl,HE3.out⟩
theorem fleast_any (h:FoO w B F p f lo hi) (hBw:B≤w.heap.size) (x:Int) :
  Calls Tryz.prog 109 #[.pointer (some ⟨p,0,none⟩),.int .i64 x] w fun e w'=>e=.returned (.int .i64 (leastZ f x))∧FoO w' B (Ext F w w') p f (lo+ft f x) (hi+fc f.v.length)∧Off F w w':=by
 obtain ⟨q,go,s,ov,h0,h1,hr,hh⟩:=h
 have hf:=hr.fg
 have hsl:=hr.len
 by_cases hx:0≤x∧x<(f.v.length:Int)
 case neg =>
  have HS:=hid (show_out h1 (x:=x) (by rw [hsl];exact hx))
  have HA:=hid h1.start
  obtain ⟨n0,n1⟩:=h1.cells
  have HC:=hid (HA.out.call hBw (fn:=120) (args:=#[.pointer (some ⟨q,0,none⟩),.int .i64 x]) (fun F1 k1 kb=>Sp.dleast_c k1 kb x) rfl)
  have HE:=hid (show ∀ w2 lo2,lo≤lo2→FoA F w w2 B p q go s ov lo2 (h0+2*ac s.v.length)→FoO w2 B (Ext F w w2) p f (lo+ft f x) (hi+fc f.v.length)∧Off F w w2 from fun w2 lo2 hl ha=>ha.done hr (by rw [hsl];unfold fc;omega) (by rw [ft_out hx];omega))
  have hz:leastZ f x = -1:=by unfold leastZ;rw [pathZ_out hf hx];rfl
  rw [hz]
  rw [show Sp.leastZ s x = -1 by unfold Sp.leastZ;rw [rowZ_out hr hx];rfl] at HC
  clear h1 hr hh hx hf hsl HA hz
  go_enter Tryz.func109,Tryz.ntmps109
  go_wp2_with fail
  refine HS.out.mono ?_
  rintro e w1 ⟨rfl,rfl⟩
  go_wp2_with fail
  refine HC.out.mono ?_
  rintro e w2 ⟨rfl,h2⟩
  have HE2:=hid (HE.out _ _ (by omega) h2)
  clear h2
  go_wp2
  go_ret
  exact ⟨rfl,HE2.out⟩
 obtain ⟨v,rfl⟩:∃ v:Nat,x=(v:Int):=⟨x.toNat,by omega⟩
 have hv:v<f.v.length:=by omega
 have HS:=hid (show_any h1.start hBw hr hv)
 have HE:=hid (show ∀ w2 r,Shn F w w2 B p q go f s lo h0 v r→w2.cell? ⟨p,0,none⟩=some (.pointer (some ⟨q,0,none⟩))∧Calls Tryz.prog 120 #[.pointer (some ⟨q,0,none⟩),.int .i64 (v:Int)] w2 fun e w3=>e=.returned (.int .i64 (leastZ f (v:Int)))∧FoO w3 B (Ext F w w3) p f (lo+ft f (v:Int)) (hi+fc f.v.length)∧Off F w w3 from fun w2 r hs=>by
  obtain ⟨s',ov',h',g1,g2,g3,g4,g5,g6,g7⟩:=shn_cost hs hv hf hh
  refine ⟨g1.1.cells.1,?_⟩
  have hc:=g1.call hBw (fn:=120) (args:=#[.pointer (some ⟨q,0,none⟩),.int .i64 (v:Int)]) (fun F1 k1 kb=>Sp.dleast_c k1 kb (v:Int)) rfl
  rw [leastZ_eq g2 g3] at hc
  refine hc.mono ?_
  rintro e w3 ⟨h3,h4⟩
  refine ⟨h3,h4.done g2 (by rw [g2.len];unfold fc;have:=cost_a (tc f.v.length) f.v.length.log2;omega) (by rw [ft_in hv];omega)⟩)
 generalize leastZ f (v:Int)=Z at *
 clear h1 hr hh hx hf hsl
 go_enter Tryz.func109,Tryz.ntmps109
 go_wp2_with fail
 refine HS.out.mono ?_
 rintro e w1 ⟨r,rfl,hs⟩
 obtain ⟨m0,hE⟩:=HE.out _ _ hs
 have HE2:=hid hE
 clear hE hs
 go_wp2_with fail
 refine HE2.out.mono ?_
 rintro e w2 ⟨rfl,h2⟩
 have HE3:=hid h2
 clear h2 m0
 go_wp2
 go_ret
 exact ⟨rfl,HE3.out⟩
theorem fvalue_any (h:FoO w B F p f lo hi) (hBw:B≤w.heap.size) (x:Int) :
  Calls Tryz.prog 110 #[.pointer (some ⟨p,0,none⟩),.int .i64 x] w fun e w'=>e=.returned (.int .i64 (valZ f x))∧FoO w' B (Ext F w w') p f (lo+ft f x) (hi+fc f.v.length)∧Off F w w':=by
 obtain ⟨q,go,s,ov,h0,h1,hr,hh⟩:=h
 have hsl:=hr.len
 obtain ⟨n0,n1⟩:=h1.cells
 have HC:=hid (h1.start.call hBw (fn:=121) (args:=#[.pointer (some ⟨q,0,none⟩),.int .i64 x]) (fun F1 k1 kb=>Sp.dvalue_c k1 kb x) rfl)
 have HE:=hid (show ∀ w2,FoA F w w2 B p q go s ov (lo+it s x) (h0+ac s.v.length)→FoO w2 B (Ext F w w2) p f (lo+ft f x) (hi+fc f.v.length)∧Off F w w2 from fun w2 ha=>ha.done hr (by rw [hsl];unfold fc;omega) (by
  by_cases hx:0≤x∧x<(f.v.length:Int)
  ·obtain ⟨v,rfl⟩:∃ v:Nat,x=(v:Int):=⟨x.toNat,by omega⟩
   rw [ft_in (by omega),it_one hr.sg (by rw [hsl];omega)];exact Nat.le_refl _
  ·rw [ft_out hx];omega))
 have hz:Sp.valZ s x=valZ f x:=by unfold Sp.valZ valZ;rw [hr.val]
 rw [hz] at HC
 clear h1 hr hh hsl hz
 go_enter Tryz.func110,Tryz.ntmps110
 go_wp2_with fail
 refine HC.out.mono ?_
 rintro e w2 ⟨rfl,h2⟩
 have HE2:=hid (HE.out _ h2)
 clear h2
 go_wp2
 go_ret
 exact ⟨rfl,HE2.out⟩
theorem fsteps_any (h:FoO w B F p f lo hi) (hh2:hi≤9223372036854775807) :
  Calls Tryz.prog 98 #[.pointer (some ⟨p,0,none⟩)] w fun e w'=>∃ c:Nat,e=.returned (.int .i64 (c:Int))∧lo≤c∧c≤hi∧w=w':=by
 obtain ⟨q,go,s,ov,h0,h1,hr,hh⟩:=h
 obtain ⟨n0,n1⟩:=h1.cells
 obtain ⟨F1,h1⟩:=h1
 have HC:=hid (Sp.dsteps_any h1.spo (by omega))
 clear h1 hr
 go_enter Tryz.func98,Tryz.ntmps98
 go_wp2_with fail
 refine HC.out.mono ?_
 rintro e w2 ⟨c,rfl,hc1,hc2,rfl⟩
 have hc3:c≤hi:=by omega
 go_wp2
 go_ret
 exact ⟨c,rfl,hc1,hc3,rfl⟩
theorem fcut_any (h:FoO w B F p f lo hi) (hBw:B≤w.heap.size) (x:Int) :
  Calls Tryz.prog 114 #[.pointer (some ⟨p,0,none⟩),.int .i64 x] w fun e w'=>e=.returned (.int .i64 (cutE f x))∧FoO w' B (Ext F w w') p (cutS f x) (lo+ft f x) (hi+fc f.v.length)∧Off F w w':=by
 obtain ⟨q,go,s,ov,h0,h1,hr,hh⟩:=h
 have hf:=hr.fg
 have hsl:=hr.len
 by_cases hx:0≤x∧x<(f.v.length:Int)
 case neg =>
  have HS:=hid (show_out h1 (x:=x) (by rw [hsl];exact hx))
  have HA:=hid h1.start
  have HE:=hid (HA.out.done (lo3:=lo+ft f x) (hi2:=hi+fc f.v.length) hr (by omega) (by rw [ft_out hx];omega))
  have hz:cutE f x=4:=by unfold cutE;rw [if_pos (show ¬ there f x from hx)]
  have hz2:cutS f x=f:=by unfold cutS;rw [hz];rfl
  rw [hz,hz2]
  clear h1 hr hh hx hf hsl HA hz hz2
  go_enter Tryz.func114,Tryz.ntmps114
  go_wp2_with fail
  refine HS.out.mono ?_
  rintro e w1 ⟨rfl,rfl⟩
  go_wp2
  go_ret
  exact ⟨rfl,HE.out⟩
 obtain ⟨v,rfl⟩:∃ v:Nat,x=(v:Int):=⟨x.toNat,by omega⟩
 have hv:v<f.v.length:=by omega
 have HS:=hid (show_any h1.start hBw hr hv)
 have hth:there f (v:Int):=hx
 cases hu:f.up v with
 | none =>
  have hz:cutE f (v:Int)=9:=by unfold cutE;rw [if_neg (by simp [hth]),Int.toNat_natCast,if_pos hu]
  have hz2:cutS f (v:Int)=f:=by unfold cutS;rw [hz];rfl
  rw [hz,hz2]
  have HE:=hid (show ∀ w2 r,Shn F w w2 B p q go f s lo h0 v r→r=v∧FoO w2 B (Ext F w w2) p f (lo+ft f (v:Int)) (hi+fc f.v.length)∧Off F w w2 from fun w2 r hs=>by
   obtain ⟨s',ov',h',g1,g2,g3,g4,g5,g6,g7⟩:=shn_cost hs hv hf hh
   refine ⟨by rw [hf.root_top hv hu] at g4;cases g4;rfl,g1.done g2 (by unfold fc;have:=cost_a (tc f.v.length) f.v.length.log2;omega) (by rw [ft_in hv];exact Nat.le_refl _)⟩)
  have hvm:(((v:Int) == -1)=false):=by simp <;> omega
  clear h1 hr hh hx hf hsl hth hz hz2 hu
  go_enter Tryz.func114,Tryz.ntmps114
  go_wp2_with fail
  refine HS.out.mono ?_
  rintro e w1 ⟨r,rfl,hs⟩
  obtain ⟨rfl,hE⟩:=HE.out _ _ hs
  have HE2:=hid hE
  clear hE hs
  go_wp2
  go_ret
  exact ⟨rfl,HE2.out⟩
 | some u =>
  have hz:cutE f (v:Int)=0:=by unfold cutE;rw [if_neg (by simp [hth]),Int.toNat_natCast,if_neg (by rw [hu];simp)]
  have hz2:cutS f (v:Int)=cutF f v:=by unfold cutS;rw [hz,if_pos rfl,Int.toNat_natCast]
  rw [hz,hz2]
  have HE:=hid (show ∀ w2 r,Shn F w w2 B p q go f s lo h0 v r→r≠v∧w2.cell? ⟨p,0,none⟩=some (.pointer (some ⟨q,0,none⟩))∧Calls Tryz.prog 125 #[.pointer (some ⟨q,0,none⟩),.int .i64 (v:Int)] w2 fun e w3=>e=.returned (.int .i64 0)∧FoO w3 B (Ext F w w3) p (cutF f v) (lo+ft f (v:Int)) (hi+fc f.v.length)∧Off F w w3 from fun w2 r hs=>by
   obtain ⟨s',ov',h',g1,g2,g3,g4,g5,g6,g7⟩:=shn_cost hs hv hf hh
   refine ⟨fun c=>(by subst c;rw [g5] at hu;cases hu),g1.1.cells.1,?_⟩
   have hc:=g1.call hBw (fn:=125) (args:=#[.pointer (some ⟨q,0,none⟩),.int .i64 (v:Int)]) (fun F1 k1 kb=>Sp.dsplit_c k1 kb (v:Int)) rfl
   rw [show Sp.splitE s' (v:Int)=0 by unfold Sp.splitE;rw [Sp.rowZ_nat,if_neg (g2.sg.ne_nil (by rw [g2.len];exact hv))]] at hc
   obtain ⟨k1,k2⟩:=rp_cut g2 hv hu g3
   refine hc.mono ?_
   rintro e w3 ⟨h3,h4⟩
   refine ⟨h3,h4.done k1 ?_ (by rw [ft_in hv];omega)⟩
   rw [g2.len]
   show _+tc f.v.length*_≤_
   have:=cost_two (t:=tc f.v.length) (b:=0) k2
   have:=cost_b (tc f.v.length) f.v.length.log2
   unfold fc
   omega)
  have hvm:∀ r:Nat,(((r:Int) == -1)=false):=fun r=>by simp <;> omega
  clear h1 hr hh hx hf hsl hth hz hz2 hu
  go_enter Tryz.func114,Tryz.ntmps114
  go_wp2_with fail
  refine HS.out.mono ?_
  rintro e w1 ⟨r,rfl,hs⟩
  obtain ⟨hrv,m0,hE⟩:=HE.out _ _ hs
  have HE2:=hid hE
  have hr1:=hvm r
  have hr2:(((r:Int) == (v:Int))=false):=by simp <;> omega
  clear hE hs hvm hrv
  go_wp2_with fail
  refine HE2.out.mono ?_
  rintro e w2 ⟨rfl,h2⟩
  have HE3:=hid h2
  clear h2 m0
  go_wp2
  go_ret
  exact ⟨rfl,HE3.out⟩
theorem addS_len (f:Ft) (x d:Int):(addS f x d).v.length=f.v.length:=by
 unfold addS
 split
 ·exact Sp.addL_len _ _ _
 ·rfl
theorem sp_addS_len (s:Sp.St) (x d:Int):(Sp.addS s x d).v.length=s.v.length:=by
 unfold Sp.addS
 split
 ·exact Sp.addL_len _ _ _
 ·rfl
theorem fadd_any (h:FoO w B F p f lo hi) (hBw:B≤w.heap.size) (x d:Int) (hd:-9223372036854775808≤d∧d≤9223372036854775807) :
  Calls Tryz.prog 111 #[.pointer (some ⟨p,0,none⟩),.int .i64 x,.int .i64 d] w fun e w'=>e=.returned (.int .i64 (addE f x d))∧FoO w' B (Ext F w w') p (addS f x d) (lo+ft f x) (hi+fc f.v.length)∧Off F w w':=by
 obtain ⟨q,go,s,ov,h0,h1,hr,hh⟩:=h
 have hf:=hr.fg
 have hsl:=hr.len
 by_cases hx:0≤x∧x<(f.v.length:Int)
 case neg =>
  have HS:=hid (show_out h1 (x:=x) (by rw [hsl];exact hx))
  have HA:=hid h1.start
  obtain ⟨n0,n1⟩:=h1.cells
  have HC:=hid (HA.out.call hBw (fn:=122) (args:=#[.pointer (some ⟨q,0,none⟩),.int .i64 x,.int .i64 d]) (fun F1 k1 kb=>Sp.dadd_c k1 kb x d hd) (sp_addS_len _ _ _))
  have hs0:Sp.addE s x d=4:=by unfold Sp.addE;rw [if_pos (rowZ_out hr hx)]
  have hs1:Sp.addS s x d=s:=by unfold Sp.addS;rw [hs0];rfl
  rw [hs0,hs1] at HC
  have hz:addE f x d=4:=by unfold addE;rw [if_pos (pathZ_out hf hx)]
  have hz2:addS f x d=f:=by unfold addS;rw [hz];rfl
  rw [hz,hz2]
  have HE:=hid (show ∀ w2 lo2,lo≤lo2→FoA F w w2 B p q go s ov lo2 (h0+ac s.v.length)→FoO w2 B (Ext F w w2) p f (lo+ft f x) (hi+fc f.v.length)∧Off F w w2 from fun w2 lo2 hl ha=>ha.done hr (by rw [hsl];unfold fc;omega) (by rw [ft_out hx];omega))
  clear h1 hr hh hx hf hsl HA hz hz2 hs0 hs1 hd
  go_enter Tryz.func111,Tryz.ntmps111
  go_wp2_with fail
  refine HS.out.mono ?_
  rintro e w1 ⟨rfl,rfl⟩
  go_wp2_with fail
  refine HC.out.mono ?_
  rintro e w2 ⟨rfl,h2⟩
  have HE2:=hid (HE.out _ _ (by omega) h2)
  clear h2
  go_wp2
  go_ret
  exact ⟨rfl,HE2.out⟩
 obtain ⟨v,rfl⟩:∃ v:Nat,x=(v:Int):=⟨x.toNat,by omega⟩
 have hv:v<f.v.length:=by omega
 have HS:=hid (show_any h1.start hBw hr hv)
 have HE:=hid (show ∀ w2 r,Shn F w w2 B p q go f s lo h0 v r→w2.cell? ⟨p,0,none⟩=some (.pointer (some ⟨q,0,none⟩))∧Calls Tryz.prog 122 #[.pointer (some ⟨q,0,none⟩),.int .i64 (v:Int),.int .i64 d] w2 fun e w3=>e=.returned (.int .i64 (addE f (v:Int) d))∧FoO w3 B (Ext F w w3) p (addS f (v:Int) d) (lo+ft f (v:Int)) (hi+fc f.v.length)∧Off F w w3 from fun w2 r hs=>by
  obtain ⟨s',ov',h',g1,g2,g3,g4,g5,g6,g7⟩:=shn_cost hs hv hf hh
  refine ⟨g1.1.cells.1,?_⟩
  have hc:=g1.call hBw (fn:=122) (args:=#[.pointer (some ⟨q,0,none⟩),.int .i64 (v:Int),.int .i64 d]) (fun F1 k1 kb=>Sp.dadd_c k1 kb (v:Int) d hd) (sp_addS_len _ _ _)
  rw [addE_eq g2 g3] at hc
  obtain ⟨k1,k2⟩:=rp_add g2 g3 d
  refine hc.mono ?_
  rintro e w3 ⟨h3,h4⟩
  refine ⟨h3,h4.done k1 ?_ (by rw [ft_in hv];omega)⟩
  rw [addS_len,k2,g2.len]
  have:=cost_a (tc f.v.length) f.v.length.log2
  unfold fc
  omega)
 generalize addE f (v:Int) d=Z at *
 generalize addS f (v:Int) d=f2 at *
 clear h1 hr hh hx hf hsl
 go_enter Tryz.func111,Tryz.ntmps111
 go_wp2_with fail
 refine HS.out.mono ?_
 rintro e w1 ⟨r,rfl,hs⟩
 obtain ⟨m0,hE⟩:=HE.out _ _ hs
 have HE2:=hid hE
 clear hE hs
 go_wp2_with fail
 refine HE2.out.mono ?_
 rintro e w2 ⟨rfl,h2⟩
 have HE3:=hid h2
 clear h2 m0
 go_wp2
 go_ret
 exact ⟨rfl,HE3.out⟩
end
end Fo
end Go.Proofs.YthhlfphnokdfaaaGreat
