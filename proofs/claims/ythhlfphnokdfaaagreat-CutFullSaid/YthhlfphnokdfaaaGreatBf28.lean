/-
  Fpg, Tsm
-/
import Derived.Test.YthhlfphnokdfaaaGreatBf27
import Derived.Test.YthhlfphnokdfaaaGreatBf18
import Derived.Test.YthhlfphnokdfaaaGreatBf17
import Derived.Test.YthhlfphnokdfaaaGreatBf9
set_option linter.unusedVariables false
set_option linter.unusedSimpArgs false
set_option maxRecDepth 100000
set_option maxHeartbeats 4000000
namespace Go.Proofs.YthhlfphnokdfaaaGreat
open Go.ChangeShapes Go.WideShapes Go.ChangeAt Go.RowKit
open Lib (hid)
namespace Fo
open Sp (Off Ext SpO ac jc it)
section
variable {F F1 G:Nat→Prop} {w w0 w2:World} {B p q go lo hi:Nat} {s:Sp.St} {ov:Nat→Option Nat} {f:Ft}
theorem flink_any (h:FoO w B F p f lo hi) (hBw:B≤w.heap.size) (x z:Int) :
  Calls Tryz.prog 112 #[.pointer (some ⟨p,0,none⟩),.int .i64 x,.int .i64 z] w fun e w'=>e=.returned (.int .i64 (linkE f x z))∧FoO w' B (Ext F w w') p (linkS f x z) (lo+ft f x*ft f z) (hi+fc f.v.length)∧Off F w w':=by
 obtain ⟨q,go,s,ov,h0,h1,hr,hh⟩:=h
 have hf:=hr.fg
 have hsl:=hr.len
 have HA:=hid h1.start
 have HX:=hid (fhas_any h1 x)
 have HZ:=hid (fhas_any h1 z)
 rw [hsl] at HX HZ
 have HMISS:=hid (show (¬ there f x∨¬ there f z)→linkE f x z=4∧FoO w B (Ext F w w) p (linkS f x z) (lo+ft f x*ft f z) (hi+fc f.v.length)∧Off F w w from fun hm=>by
  have hz:linkE f x z=4:=by unfold linkE;rw [if_pos hm]
  have hz2:linkS f x z=f:=by unfold linkS;rw [hz];rfl
  refine ⟨hz,?_⟩
  rw [hz2]
  refine HA.out.done hr (by omega) ?_
  have:ft f x*ft f z=0:=by
   rcases hm with c | c
   ·rw [ft_out c];simp
   ·rw [ft_out c];simp
  omega)
 by_cases hx:0≤x∧x<(f.v.length:Int)
 case neg =>
  rw [decide_eq_false hx] at HX
  obtain ⟨hz,hm⟩:=HMISS.out (.inl hx)
  have HE:=hid hm
  rw [hz]
  clear h1 hr hh hx hf hsl HA hz hm HZ HMISS
  go_enter Tryz.func112,Tryz.ntmps112
  go_wp2_with fail
  refine HX.out.mono ?_
  rintro e w1 ⟨rfl,rfl⟩
  go_wp2
  go_ret
  exact ⟨rfl,HE.out⟩
 by_cases hx2:0≤z∧z<(f.v.length:Int)
 case neg =>
  rw [decide_eq_true hx] at HX
  rw [decide_eq_false hx2] at HZ
  obtain ⟨hz,hm⟩:=HMISS.out (.inr hx2)
  have HE:=hid hm
  rw [hz]
  clear h1 hr hh hx hx2 hf hsl HA hz hm HMISS
  go_enter Tryz.func112,Tryz.ntmps112
  go_wp2_with fail
  refine HX.out.mono ?_
  rintro e w1 ⟨rfl,rfl⟩
  go_wp2_with fail
  refine HZ.out.mono ?_
  rintro e w1 ⟨rfl,rfl⟩
  go_wp2
  go_ret
  exact ⟨rfl,HE.out⟩
 rw [decide_eq_true hx] at HX
 rw [decide_eq_true hx2] at HZ
 have hth:¬ (¬ there f x∨¬ there f z):=by
  have:there f x:=hx
  have:there f z:=hx2
  simp [*]
 clear HMISS
 obtain ⟨v,rfl⟩:∃ v:Nat,x=(v:Int):=⟨x.toNat,by omega⟩
 obtain ⟨u,rfl⟩:∃ u:Nat,z=(u:Int):=⟨z.toNat,by omega⟩
 have hv:v<f.v.length:=by omega
 have hu:u<f.v.length:=by omega
 have HS:=hid (show_any h1.start hBw hr hv)
 have hft:ft f (v:Int)*ft f (u:Int)=1:=by rw [ft_in hv,ft_in hu]
 cases hup:f.up v with
 | some a =>
  have hz:linkE f (v:Int) (u:Int)=9:=by unfold linkE;rw [if_neg hth,Int.toNat_natCast,hup];rfl
  have hz2:linkS f (v:Int) (u:Int)=f:=by unfold linkS;rw [hz];rfl
  rw [hz,hz2]
  have HE:=hid (show ∀ w2 r,Shn F w w2 B p q go f s lo h0 v r→r≠v∧FoO w2 B (Ext F w w2) p f (lo+ft f (v:Int)*ft f (u:Int)) (hi+fc f.v.length)∧Off F w w2 from fun w2 r hs=>by
   obtain ⟨s',ov',h',g1,g2,g3,g4,g5,g6,g7⟩:=shn_cost hs hv hf hh
   refine ⟨fun c=>(by subst c;rw [g5] at hup;cases hup),g1.done g2 (by unfold fc;have:=cost_a (tc f.v.length) f.v.length.log2;omega) (by rw [hft];exact Nat.le_refl _)⟩)
  clear h1 hr hh hx hx2 hf hsl hth hz hz2 hup hft HA
  go_enter Tryz.func112,Tryz.ntmps112
  go_wp2_with fail
  refine HX.out.mono ?_
  rintro e w1 ⟨rfl,rfl⟩
  go_wp2_with fail
  refine HZ.out.mono ?_
  rintro e w1 ⟨rfl,rfl⟩
  go_wp2_with fail
  refine HS.out.mono ?_
  rintro e w1 ⟨r,rfl,hs⟩
  obtain ⟨hrv,hE⟩:=HE.out _ _ hs
  have HE2:=hid hE
  have hr2:(((r:Int) != (v:Int))=true):=by simp <;> omega
  clear hE hs hrv
  go_wp2
  go_ret
  exact ⟨rfl,HE2.out⟩
 | none =>
  have HV:=hid (show ∀ w2 r,Shn F w w2 B p q go f s lo h0 v r→r=v∧∃ s' ov' h',FoA F w w2 B p q go s' ov' (lo+1) h'∧Rp f s' ov'∧h' + tc f.v.length*idle f (pf s')≤hi+tc f.v.length*(2*0+1)+6*ac f.v.length from fun w2 r hs=>by
   obtain ⟨s',ov',h',g1,g2,g3,g4,g5,g6,g7⟩:=shn_cost hs hv hf hh
   exact ⟨by rw [hf.root_top hv hup] at g4;cases g4;rfl,s',ov',h',g1,g2,g7 hup⟩)
  have HU:=hid (show ∀ w2 s' ov' h',FoA F w w2 B p q go s' ov' (lo+1) h'→Rp f s' ov'→h' + tc f.v.length*idle f (pf s')≤hi+tc f.v.length*(2*0+1)+6*ac f.v.length →
    Calls Tryz.prog 108 #[.pointer (some ⟨p,0,none⟩),.int .i64 (u:Int)] w2 fun e w3=>∃ r:Nat,e=.returned (.int .i64 (r:Int))∧root f u=some r∧∃ s2 ov2 h2,FoA F w w3 B p q go s2 ov2 (lo+1) h2∧Rp f s2 ov2∧s2.r u=path f u∧h2+tc f.v.length*idle f (pf s2)≤hi+tc f.v.length*(2*0+1)+6*ac f.v.length+tc f.v.length*(2*f.v.length.log2+1)+6*ac f.v.length from fun w2 s' ov' h' g1 g2 g3=>by
   refine (show_any g1 hBw g2 hu).mono ?_
   rintro e w3 ⟨r,rfl,hs⟩
   obtain ⟨s2,ov2,h2,k1,k2,k3,k4,k5,k6,k7⟩:=shn_cost hs hu hf g3
   exact ⟨r,rfl,k4,s2,ov2,h2,k1.low (by omega),k2,k3,k6⟩)
  obtain ⟨rt,hrt1,hrt2,hrt3,hrt4⟩:=hf.rootZ_eq hu
  have hcc:=cost_c (tc f.v.length) f.v.length.log2
  by_cases hrv:rt=v
  ·have hz:linkE f (v:Int) (u:Int)=5:=by unfold linkE;rw [if_neg hth,Int.toNat_natCast,hup,if_neg (by simp),if_pos (by rw [hrt2,hrv])]
   have hz2:linkS f (v:Int) (u:Int)=f:=by unfold linkS;rw [hz];rfl
   rw [hz,hz2]
   have HE:=hid (show ∀ w2 r s2 ov2 h2,root f u=some r→FoA F w w2 B p q go s2 ov2 (lo+1) h2→Rp f s2 ov2→h2+tc f.v.length*idle f (pf s2)≤hi+tc f.v.length*(2*0+1)+6*ac f.v.length+tc f.v.length*(2*f.v.length.log2+1)+6*ac f.v.length→r=v∧FoO w2 B (Ext F w w2) p f (lo+ft f (v:Int)*ft f (u:Int)) (hi+fc f.v.length)∧Off F w w2 from fun w2 r s2 ov2 h2 g0 g1 g2 g3=>by
    refine ⟨by rw [hrt1] at g0;cases g0;exact hrv,g1.done g2 (by unfold fc;omega) (by rw [hft];exact Nat.le_refl _)⟩)
   clear h1 hr hh hx hx2 hf hsl hth hz hz2 hup hft HA hrt1 hrt2 hrt3 hrt4 hcc hrv
   go_enter Tryz.func112,Tryz.ntmps112
   go_wp2_with fail
   refine HX.out.mono ?_
   rintro e w1 ⟨rfl,rfl⟩
   go_wp2_with fail
   refine HZ.out.mono ?_
   rintro e w1 ⟨rfl,rfl⟩
   go_wp2_with fail
   refine HS.out.mono ?_
   rintro e w1 ⟨r,rfl,hs⟩
   obtain ⟨rfl,s',ov',h',g1,g2,g3⟩:=HV.out _ _ hs
   have HU2:=hid (HU.out _ _ _ _ g1 g2 g3)
   clear hs g1 g2 g3
   go_wp2_with fail
   refine HU2.out.mono ?_
   rintro e w2 ⟨r2,rfl,k0,s2,ov2,h2,k1,k2,k3,k4⟩
   obtain ⟨rfl,hE⟩:=HE.out _ _ _ _ _ k0 k1 k2 k4
   have HE2:=hid hE
   clear k0 k1 k2 k3 k4 hE
   go_wp2
   go_ret
   exact ⟨rfl,HE2.out⟩
  ·have hne:root f u≠some v:=fun c=>by rw [hrt1] at c;cases c;exact hrv rfl
   have hz:linkE f (v:Int) (u:Int)=0:=by unfold linkE;rw [if_neg hth,Int.toNat_natCast,hup,if_neg (by simp),if_neg (by rw [hrt2];omega)]
   have hz2:linkS f (v:Int) (u:Int)=linkF f v u:=by unfold linkS;rw [hz,if_pos rfl,Int.toNat_natCast,Int.toNat_natCast]
   rw [hz,hz2]
   have HE:=hid (show ∀ w2 r s2 ov2 h2,root f u=some r→FoA F w w2 B p q go s2 ov2 (lo+1) h2→Rp f s2 ov2→s2.r u=path f u→h2+tc f.v.length*idle f (pf s2)≤hi+tc f.v.length*(2*0+1)+6*ac f.v.length+tc f.v.length*(2*f.v.length.log2+1)+6*ac f.v.length→r≠v∧(w2.cell? ⟨p,1,none⟩=some (.slice (some ⟨go,0,none⟩) f.v.length f.v.length)∧w2.frozen? ⟨go,v,none⟩=false∧∃ x,w2.cell? ⟨go,v,none⟩=some x)∧FoO (w2.setCell ⟨go,v,none⟩ (.int .i64 (u:Int))) B (Ext F w (w2.setCell ⟨go,v,none⟩ (.int .i64 (u:Int)))) p (linkF f v u) (lo+ft f (v:Int)*ft f (u:Int)) (hi+fc f.v.length)∧Off F w (w2.setCell ⟨go,v,none⟩ (.int .i64 (u:Int))) from fun w2 r s2 ov2 h2 g0 g1 g2 g3 g4=>by
    have hl2:=g2.len
    have hov:=g1.1.over (i:=v) (by rw [hl2];exact hv)
    have hcl:=g1.1.cells.2
    rw [hl2] at hcl
    obtain ⟨k1,k2⟩:=rp_link g2 hv hu hup hne g3
    refine ⟨fun c=>(by rw [hrt1] at g0;cases g0;exact hrv c),⟨hcl,hov.2,_,hov.1⟩,(g1.put hBw (i:=v) (by rw [hl2];exact hv) (some u)).done k1 ?_ (by rw [hft];exact Nat.le_refl _)⟩
    show _+tc f.v.length*_≤_
    have:=cost_two (t:=tc f.v.length) (b:=0) k2
    unfold fc
    omega)
   have hvi:(v:Int)<(f.v.length:Int):=hx.2
   have hv0:(0:Int)≤(v:Int):=hx.1
   clear h1 hr hh hx hx2 hf hsl hth hz hz2 hup hft HA hrt1 hrt2 hrt3 hrt4 hcc hrv hne
   go_enter Tryz.func112,Tryz.ntmps112
   go_wp2_with fail
   refine HX.out.mono ?_
   rintro e w1 ⟨rfl,rfl⟩
   go_wp2_with fail
   refine HZ.out.mono ?_
   rintro e w1 ⟨rfl,rfl⟩
   go_wp2_with fail
   refine HS.out.mono ?_
   rintro e w1 ⟨r,rfl,hs⟩
   obtain ⟨rfl,s',ov',h',g1,g2,g3⟩:=HV.out _ _ hs
   have HU2:=hid (HU.out _ _ _ _ g1 g2 g3)
   clear hs g1 g2 g3
   go_wp2_with fail
   refine HU2.out.mono ?_
   rintro e w2 ⟨r2,rfl,k0,s2,ov2,h2,k1,k2,k3,k4⟩
   obtain ⟨hrv,⟨m1,m2,x0,m3⟩,hE⟩:=HE.out _ _ _ _ _ k0 k1 k2 k3 k4
   have HE2:=hid hE
   have hr2:(((r2:Int) == (r:Int))=false):=by simp <;> omega
   clear k0 k1 k2 k3 k4 hE hrv
   go_wp2
   go_ret
   exact ⟨rfl,HE2.out⟩
def preL (n i:Nat):List Int:=(List.range n).map fun j=>if j<i then -1 else 0
theorem preL_len (n i:Nat):(preL n i).length=n:=by simp [preL]
theorem preL_0 (n:Nat):preL n 0=List.replicate n 0:=by
 refine List.ext_getElem (by simp [preL]) fun k h1 h2=>?_
 simp [preL]
theorem preL_set {n i:Nat} (h:i<n):(preL n i).set i (-1)=preL n (i+1):=by
 refine List.ext_getElem (by simp [preL]) fun k h1 h2=>?_
 simp only [preL,List.getElem_set,List.getElem_map,List.getElem_range]
 by_cases c:i=k
 ·subst c;rw [if_pos rfl,if_pos (by omega)]
 ·rw [if_neg c]
  by_cases c2:k<i
  ·rw [if_pos c2,if_pos (by omega)]
  ·rw [if_neg c2,if_neg (by omega)]
theorem preL_n (n:Nat):preL n n=ovL n fun _=>none:=by
 refine List.ext_getElem (by simp [preL,ovL]) fun k h1 h2=>?_
 simp only [preL,ovL,List.getElem_map,List.getElem_range]
 rw [if_pos (by simpa [preL] using h1)]
 rfl
theorem new_lies {w1 wr:World} {vs:List Int} (hn:Sp.newE vs=0) (hb1:Below w.heap.size w w1) (h:SpO w1 w.heap.size (fun g=>w.heap.size≤g∧g<w1.heap.size) q (Sp.newS vs) 0 0) (hb:Below w1.heap.size w1 wr) (hgo:w1.heap.size<wr.heap.size) (hbx:Ne.IBox wr w1.heap.size (preL vs.length vs.length)) :
  FoO (wr.alloc (.cells #[.pointer (some ⟨q,0,none⟩),.slice (some ⟨w1.heap.size,0,none⟩) vs.length vs.length] 163)) w.heap.size (fun g=>w.heap.size≤g∧g<(wr.alloc (.cells #[.pointer (some ⟨q,0,none⟩),.slice (some ⟨w1.heap.size,0,none⟩) vs.length vs.length] 163)).heap.size) wr.heap.size (newS vs) 0 0:=by
 obtain ⟨k1,k2⟩:=rp_new hn
 have hsz:(wr.alloc (.cells #[.pointer (some ⟨q,0,none⟩),.slice (some ⟨w1.heap.size,0,none⟩) vs.length vs.length] 163)).heap.size=wr.heap.size+1:=by show (wr.heap.push _).size=_;simp
 have hs1:=hb1.size
 refine ⟨q,w1.heap.size,Sp.newS vs,fun _=>none,0,⟨fun g=>w.heap.size≤g∧g<w1.heap.size,?_,?_,(h.kept hb).kept ((Below.refl _ wr).alloc (Nat.le_refl _) _),fun g hg=>?_,⟨?_,?_⟩,⟨?_,?_,?_⟩,fun g hg=>hg⟩,k1,?_⟩
 ·show (wr.heap.push _)[wr.heap.size]? = _
  simp [Sp.newS]
 ·have:=hbx.alloc (.cells #[.pointer (some ⟨q,0,none⟩),.slice (some ⟨w1.heap.size,0,none⟩) vs.length vs.length] 163)
  rw [preL_n] at this
  exact this
 ·rw [hsz];omega
 ·rw [hsz];omega
 ·rw [hsz];omega
 ·omega
 ·omega
 ·omega
 ·rw [k2];simp
theorem fnew_any (ao:Option Addr) (cap:Nat) (vs:List Int) (w:World) (hr:Ne.IRow w ao vs) (hn:ao=none→cap=0) :
  Calls Tryz.prog 99 #[.slice ao vs.length cap] w fun e w'=>Below w.heap.size w w'∧∃ pv,e=.returned (.tuple #[pv,.int .i64 (Sp.newE vs)])∧(Sp.newE vs≠0→pv=.pointer none) ∧
   (Sp.newE vs=0→∃ p,pv=.pointer (some ⟨p,0,none⟩)∧FoO w' w.heap.size (fun g=>w.heap.size≤g∧g<w'.heap.size) p (newS vs) 0 0):=by
 have HN:=hid (Sp.dnew_c ao cap vs w hr hn)
 have HL:=hid (fun (q:Nat) (w1 wr:World) g1 g2 g3 g4 g5 g6=>new_lies (q:=q) (w:=w) (w1:=w1) (wr:=wr) (vs:=vs) g1 g2 g3 g4 g5 g6)
 have hns:Sp.newE vs=0→vs.length≤3000:=fun h=>by
  unfold Sp.newE at h
  split at h
  ·cases h
  ·omega
 generalize Sp.newE vs=Z at *
 generalize Sp.newS vs=NS at *
 generalize newS vs=NF at *
 generalize hnl:vs.length=n at *
 by_cases hz:Z=0
 case neg =>
  have hz2:((Z != 0)=true):=by simpa using hz
  have HZ:=hid hz
  clear hr hnl hns hn hz HL
  go_enter Tryz.func99,Tryz.ntmps99
  go_wp2_with fail
  refine HN.out.mono ?_
  rintro e w1 ⟨hb,pv,rfl,hp,_⟩
  obtain rfl:=hp HZ.out
  have HB:=hid hb
  clear hb hp
  go_wp2
  go_ret2
  exact ⟨HB.out,_,rfl,fun _=>rfl,fun h=>absurd h HZ.out⟩
 subst hz
 have hn3:=hns rfl
 have hmk:=Ne.make_i n (by omega)
 clear hr hnl hns hn
 go_enter Tryz.func99,Tryz.ntmps99
 go_wp2_with fail
 refine HN.out.mono ?_
 rintro e w1 ⟨hb,pv,rfl,_,hp⟩
 obtain ⟨q,rfl,hq⟩:=hp (by trivial)
 have HB1:=hid hb
 have HQ:=hid hq
 clear hb hp hq
 have HX0:=hid (show Ne.IBox (w1.alloc (.cells (madeCells #[.int .i64 0] n) 3)) w1.heap.size (preL n 0) by rw [preL_0];exact Ne.ibox_made w1 n rfl)
 have HB0:=hid ((Below.refl w1.heap.size w1).alloc (Nat.le_refl _) (.cells (madeCells #[.int .i64 0] n) 3))
 have HG0:=hid (show w1.heap.size<(w1.alloc (.cells (madeCells #[.int .i64 0] n) 3)).heap.size by show _<(w1.heap.push _).size;simp)
 go_wp2
 clear hmk
 go_loopg [7,21] n (fun gg s7 si wr=>(∃ z,s7=z)∧∃ i:Nat,si=.int .i64 i∧i+gg=n∧Hid (Ne.IBox wr w1.heap.size (preL n i))∧Hid (Below w1.heap.size w1 wr)∧Hid (w1.heap.size<wr.heap.size))
 case atStart=>exact ⟨⟨_,rfl⟩,0,rfl,by omega,HX0,HB0,HG0⟩
 case round =>
  obtain ⟨⟨z7,rfl⟩,i,rfl,hig,HX,HB,HG⟩:=hrel
  by_cases hin:i<n
  ·have hii:(i:Int)<(n:Int):=by omega
   have hi0:(0:Int)≤(i:Int):=by omega
   have c0:=HX.out.cell (i:=i) (by rw [preL_len];exact hin)
   have f0:=HX.out.frozen i
   have HX2:=hid (show Ne.IBox (wr.setCell ⟨w1.heap.size,i,none⟩ (.int .i64 (-1))) w1.heap.size (preL n (i+1)) by
    have:=HX.out.set (i:=i) (by rw [preL_len];exact hin) (-1)
    rw [preL_set hin] at this
    exact this)
   have HB2:=hid (HB.out.setCell (p:=⟨w1.heap.size,i,none⟩) (Nat.le_refl _) (.int .i64 (-1)))
   have HG2:=hid (show w1.heap.size<(wr.setCell ⟨w1.heap.size,i,none⟩ (.int .i64 (-1))).heap.size by have:=HG.out;simpa [World.setCell] using this)
   have hw1:IntKind.i64.wrap ((i:Int)+1)=((i+1:Nat):Int):=by rw [IntKind.wrap_i64];omega
   go_wp2
   go_roundg (n-(i+1))
   case measure=>omega
   case rel=>exact ⟨⟨_,rfl⟩,i+1,by rfl,by omega,HX2,HB2,HG2⟩
  ·obtain rfl:i=n:=by omega
   have HE:=hid (HL.out q w1 wr (by trivial) HB1.out HQ.out HB.out HG.out HX.out)
   have HBL:=hid ((HB1.out.trans (HB.out.mono HB1.out.size)).alloc (Nat.le_trans HB1.out.size HB.out.size) (.cells #[.pointer (some ⟨q,0,none⟩),.slice (some ⟨w1.heap.size,0,none⟩) i i] 163))
   clear HL
   go_wp2
   go_ret2
   exact ⟨HBL.out,_,rfl,fun h=>absurd rfl h,fun _=>⟨_,rfl,HE.out⟩⟩
end
end Fo
namespace Ne
open Sp (Off Ext)
open Fo (Ft FoO fc)
def TBlk (w:World) (b:Nat) (n s t:Int) (av rv:Value) (x:Int) (uv hv pv:Value) (p cb:Nat):Prop:=w.heap[b]? = some (.cells #[.int .i64 n,.int .i64 s,.int .i64 t,av,rv,.int .i64 x,uv,hv,pv,.pointer (some ⟨p,0,none⟩),.func (.func 95) #[.pointer (some ⟨cb,0,none⟩)] #[]] 153 (0,0))
theorem tblk_cells {w:World} {b:Nat} {n s t:Int} {av rv:Value} {x:Int} {uv hv pv:Value} {p cb:Nat} (h:TBlk w b n s t av rv x uv hv pv p cb) :
  w.cell? ⟨b,0,none⟩=some (.int .i64 n)∧w.cell? ⟨b,1,none⟩=some (.int .i64 s)∧w.cell? ⟨b,2,none⟩=some (.int .i64 t)∧w.cell? ⟨b,3,none⟩=some av∧w.cell? ⟨b,4,none⟩=some rv∧w.cell? ⟨b,5,none⟩=some (.int .i64 x)∧w.cell? ⟨b,6,none⟩=some uv∧w.cell? ⟨b,7,none⟩=some hv∧w.cell? ⟨b,8,none⟩=some pv∧w.cell? ⟨b,9,none⟩=some (.pointer (some ⟨p,0,none⟩))∧w.cell? ⟨b,10,none⟩=some (.func (.func 95) #[.pointer (some ⟨cb,0,none⟩)] #[]):=by
 unfold TBlk at h
 simp [World.cell?,h]
theorem tblk_new (w:World) {b:Nat} (hb:b=w.heap.size) (n s t x:Int) (av rv uv hv pv:Value) (p cb:Nat):TBlk (w.alloc (.cells #[.int .i64 n,.int .i64 s,.int .i64 t,av,rv,.int .i64 x,uv,hv,pv,.pointer (some ⟨p,0,none⟩),.func (.func 95) #[.pointer (some ⟨cb,0,none⟩)] #[]] 153)) b n s t av rv x uv hv pv p cb:=by
 subst hb
 show (w.heap.push _)[w.heap.size]? = _
 simp
def Mut (rv:Value) (lb pb cb B b1 g:Nat):Prop:=rv.ownBlock=some g∨g=lb∨g=pb∨g=cb∨(B≤g∧g<b1)
def Fx (B b1 z:Nat) (w:World) (g:Nat):Prop:=(B≤g∧g<b1)∨(z≤g∧g<w.heap.size)
theorem FoO.mono {w:World} {B:Nat} {F G:Nat→Prop} {p:Nat} {f:Ft} {lo hi:Nat} (h:FoO w B F p f lo hi) (hG:∀ g,F g→G g) (hf:∀ g,G g→B≤g∧g<w.heap.size):FoO w B G p f lo hi:=by
 obtain ⟨q,go,s,ov,h0,h1,h2,h3⟩:=h
 exact ⟨q,go,s,ov,h0,h1.mono hG hf,h2,h3⟩
structure TsS (n:Net) (ao:Option Addr) (cap:Nat) (x:Int) (w0 w1:World) (sb lb ab pb cb p:Nat) (rv:Value) (lo hi B b1:Nat) (VA:Nat→Value) (TL:List Nat):Prop where
 row0:ARow w0 ao n.l
 blk:TBlk w1 sb n.n n.s n.t (.slice ao n.l.length cap) rv x (.slice (some ⟨lb,0,none⟩) (n.n.toNat+1) (n.n.toNat+1)) (.slice (some ⟨ab,0,none⟩) (n.n.toNat+1) (n.n.toNat+1)) (.slice (some ⟨pb,0,none⟩) (n.n.toNat+1) (n.n.toNat+1)) p cb
 ahead:RBox w1 ab lo hi (n.n.toNat+1) VA (fun v=>(TL.filter fun r=>decide ((trT n.l r).toNat=v)).map fun r=>(trF n.l r).toNat)
 b0:w0.heap.size≤cb∧cb<B∧B≤b1
 rvb:∀ g,rv.ownBlock=some g→w0.heap.size≤g∧g<cb
 low:b1≤lb∧b1≤ab∧b1≤pb∧b1≤sb
 up:lb<lo∧ab<lo∧pb<lo∧sb<lo∧lo≤w1.heap.size∧hi≤w1.heap.size
 ne:lb≠ab∧lb≠pb∧lb≠sb∧ab≠pb∧ab≠sb∧pb≠sb
structure TsM (n:Net) (ao:Option Addr) (cap:Nat) (x:Int) (w0 w1:World) (sb lb ab pb cb p:Nat) (rv:Value) (lo hi B b1:Nat) (VA:Nat→Value) (TL:List Nat) (w:World) (RL:List Int) (VS:Nat→Value) (U:Nat→List Nat) (S:List Bool) (c:Nat) (f:Ft) (flo fhi:Nat):Prop where
 st:TsS n ao cap x w0 w1 sb lb ab pb cb p rv lo hi B b1 VA TL
 low:Below w0.heap.size w0 w
 sz:w1.heap.size≤w.heap.size
 kp:∀ g,g<w1.heap.size→¬ Mut rv lb pb cb B b1 g→w.heap[g]? = w1.heap[g]?
 rooms:OwnL w w0.heap.size rv RL
 rows:RBox w lb lo hi (n.n.toNat+1) VS U
 spent:BBox w pb S
 cnt:w.heap[cb]? = some (.cells #[.int .i64 (c:Int)] 147 (0,0))
 fo:FoO w B (Fx B b1 w1.heap.size w) p f flo fhi
section
variable {n:Net} {ao:Option Addr} {cap:Nat} {x:Int} {w0 w1:World} {sb lb ab pb cb p:Nat} {rv:Value} {lo hi B b1:Nat} {VA:Nat→Value} {TL:List Nat}
variable {w w2:World} {RL:List Int} {VS:Nat→Value} {U:Nat→List Nat} {S:List Bool} {c:Nat} {f f2:Ft} {flo fhi flo2 fhi2:Nat}
theorem TsM.row (h:TsM n ao cap x w0 w1 sb lb ab pb cb p rv lo hi B b1 VA TL w RL VS U S c f flo fhi):ARow w ao n.l:=h.st.row0.kept h.low
theorem TsM.bw (h:TsM n ao cap x w0 w1 sb lb ab pb cb p rv lo hi B b1 VA TL w RL VS U S c f flo fhi):B≤w.heap.size:=by
 have:=h.sz;have:=h.st.up;have:=h.st.low;have:=h.st.b0
 omega
theorem TsM.cells (h:TsM n ao cap x w0 w1 sb lb ab pb cb p rv lo hi B b1 VA TL w RL VS U S c f flo fhi):TBlk w sb n.n n.s n.t (.slice ao n.l.length cap) rv x (.slice (some ⟨lb,0,none⟩) (n.n.toNat+1) (n.n.toNat+1)) (.slice (some ⟨ab,0,none⟩) (n.n.toNat+1) (n.n.toNat+1)) (.slice (some ⟨pb,0,none⟩) (n.n.toNat+1) (n.n.toNat+1)) p cb:=by
 obtain ⟨u1,u2,u3,u4,u5,u6⟩:=h.st.up
 obtain ⟨l1,l2,l3,l4⟩:=h.st.low
 obtain ⟨n1,n2,n3,n4,n5,n6⟩:=h.st.ne
 obtain ⟨b1',b2',b3'⟩:=h.st.b0
 have:=h.kp sb (by omega) (fun c=>by
  rcases c with c | c | c | c | c
  ·have:=h.st.rvb sb c;omega
  ·exact n3 c.symm
  ·exact n6 c.symm
  ·omega
  ·omega)
 unfold TBlk
 rw [this]
 exact h.st.blk
theorem TsM.aheads (h:TsM n ao cap x w0 w1 sb lb ab pb cb p rv lo hi B b1 VA TL w RL VS U S c f flo fhi):RBox w ab lo hi (n.n.toNat+1) VA (fun v=>(TL.filter fun r=>decide ((trT n.l r).toNat=v)).map fun r=>(trF n.l r).toNat):=by
 obtain ⟨u1,u2,u3,u4,u5,u6⟩:=h.st.up
 obtain ⟨l1,l2,l3,l4⟩:=h.st.low
 obtain ⟨n1,n2,n3,n4,n5,n6⟩:=h.st.ne
 obtain ⟨b1',b2',b3'⟩:=h.st.b0
 refine h.st.ahead.keep h.sz fun b hb=>h.kp b (by omega) (fun c=>?_)
 rcases c with c | c | c | c | c
 ·have:=h.st.rvb b c;omega
 ·omega
 ·omega
 ·omega
 ·omega
theorem TsM.off {G:Nat→Prop} (h:TsM n ao cap x w0 w1 sb lb ab pb cb p rv lo hi B b1 VA TL w RL VS U S c f flo fhi) (ho:Off G w w2) (hG:∀ g,G g→Fx B b1 w1.heap.size w g) (hf:FoO w2 B (Fx B b1 w1.heap.size w2) p f2 flo2 fhi2):TsM n ao cap x w0 w1 sb lb ab pb cb p rv lo hi B b1 VA TL w2 RL VS U S c f2 flo2 fhi2:=by
 obtain ⟨u1,u2,u3,u4,u5,u6⟩:=h.st.up
 obtain ⟨l1,l2,l3,l4⟩:=h.st.low
 obtain ⟨n1,n2,n3,n4,n5,n6⟩:=h.st.ne
 obtain ⟨b1',b2',b3'⟩:=h.st.b0
 have hsz:=h.sz
 have hlow:=h.low.size
 have hk:∀ g,g<w1.heap.size→¬ (B≤g∧g<b1)→w2.heap[g]? = w.heap[g]?:=fun g hg hb=>ho.block g (by omega) fun c=>by
  rcases hG g c with c | c
  ·exact hb c
  ·omega
 refine ⟨h.st,h.low.trans (ho.below (fun g c=>?_) hlow),Nat.le_trans h.sz ho.size,fun g hg hm=>(hk g hg fun c=>hm (.inr (.inr (.inr (.inr c))))).trans (h.kp g hg hm),own_same h.rooms fun g hg=>hk g ?_ ?_,h.rows.keep ho.size fun b hb=>hk b ?_ ?_,World.rowIs.of_block h.spent (hk pb (by omega) (by omega)),?_,hf⟩
 ·rcases hG g c with c | c <;> omega
 ·have:=h.st.rvb g hg;omega
 ·have:=h.st.rvb g hg;omega
 ·omega
 ·omega
 ·rw [hk cb (by omega) (by omega)];exact h.cnt
theorem fx_fin (h:TsM n ao cap x w0 w1 sb lb ab pb cb p rv lo hi B b1 VA TL w RL VS U S c f flo fhi) (hs:w.heap.size≤w2.heap.size):∀ g,Fx B b1 w1.heap.size w2 g→B≤g∧g<w2.heap.size:=fun g hg=>by
 have:=h.st.up;have:=h.st.low;have:=h.st.b0;have:=h.sz
 rcases hg with hg | hg <;> omega
theorem TsM.call (h:TsM n ao cap x w0 w1 sb lb ab pb cb p rv lo hi B b1 VA TL w RL VS U S c f flo fhi) (ho:Off (Fx B b1 w1.heap.size w) w w2) (hf:FoO w2 B (Ext (Fx B b1 w1.heap.size w) w w2) p f2 flo2 fhi2):TsM n ao cap x w0 w1 sb lb ab pb cb p rv lo hi B b1 VA TL w2 RL VS U S c f2 flo2 fhi2:=by
 refine h.off ho (fun g hg=>hg) (FoO.mono hf (fun g hg=>?_) (fx_fin h ho.size))
 have:=ho.size;have:=h.sz
 rcases hg with (hg | hg) | hg
 ·exact .inl hg
 ·exact .inr (by omega)
 ·exact .inr (by omega)
theorem TsM.grow (h:TsM n ao cap x w0 w1 sb lb ab pb cb p rv lo hi B b1 VA TL w RL VS U S c f flo fhi) (hb:Below w.heap.size w w2):TsM n ao cap x w0 w1 sb lb ab pb cb p rv lo hi B b1 VA TL w2 RL VS U S c f flo fhi:=by
 refine h.off (G:=fun _=>False) (.of_below hb) (fun g hg=>hg.elim) (FoO.mono (h.fo.off (G:=fun _=>False) (.of_below hb) fun _ _ c=>c) (fun g hg=>?_) (fx_fin h hb.size))
 have:=hb.size;have:=h.sz
 rcases hg with hg | hg
 ·exact .inl hg
 ·exact .inr (by omega)
theorem TsM.fo_set (h:TsM n ao cap x w0 w1 sb lb ab pb cb p rv lo hi B b1 VA TL w RL VS U S c f flo fhi) {q:Addr} (hq:q.block<w1.heap.size∧¬ (B≤q.block∧q.block<b1)) (v:Value):FoO (w.setCell q v) B (Fx B b1 w1.heap.size (w.setCell q v)) p f flo fhi:=by
 have hz:(w.setCell q v).heap.size=w.heap.size:=by simp [World.setCell]
 have ho:Off (fun g=>g=q.block) w (w.setCell q v):=(Off.refl (fun g=>g=q.block) w).set (p:=q) (.inl rfl) _
 have h1:=h.fo.off ho (fun g hg c=>by
  subst c
  rcases hg with hg | hg
  ·exact hq.2 hg
  ·omega)
 refine FoO.mono h1 (fun g hg=>?_) (fun g hg=>?_)
 ·rcases hg with hg | hg
  ·exact .inl hg
  ·exact .inr (by rw [hz];exact hg)
 ·exact fx_fin h (by rw [hz];exact Nat.le_refl _) g hg
theorem TsM.ne_all (h:TsM n ao cap x w0 w1 sb lb ab pb cb p rv lo hi B b1 VA TL w RL VS U S c f flo fhi):(lb<w1.heap.size∧¬ (B≤lb∧lb<b1))∧(pb<w1.heap.size∧¬ (B≤pb∧pb<b1))∧(cb<w1.heap.size∧¬ (B≤cb∧cb<b1))∧(∀ g,rv.ownBlock=some g→(g<w1.heap.size∧¬ (B≤g∧g<b1))∧g≠lb∧g≠pb∧g≠cb∧g<lo)∧lb≠pb∧lb≠cb∧pb≠cb∧cb<lo∧w0.heap.size≤lb∧w0.heap.size≤pb∧w0.heap.size≤cb:=by
 obtain ⟨u1,u2,u3,u4,u5,u6⟩:=h.st.up
 obtain ⟨l1,l2,l3,l4⟩:=h.st.low
 obtain ⟨n1,n2,n3,n4,n5,n6⟩:=h.st.ne
 obtain ⟨b1',b2',b3'⟩:=h.st.b0
 refine ⟨by omega,by omega,by omega,fun g hg=>?_,by omega,by omega,by omega,by omega,by omega,by omega,by omega⟩
 have:=h.st.rvb g hg
 omega
theorem TsM.set_kp (h:TsM n ao cap x w0 w1 sb lb ab pb cb p rv lo hi B b1 VA TL w RL VS U S c f flo fhi) {q:Addr} (hq:Mut rv lb pb cb B b1 q.block) (v:Value):∀ g,g<w1.heap.size→¬ Mut rv lb pb cb B b1 g→(w.setCell q v).heap[g]? = w1.heap[g]?:=fun g hg hm =>
 (Below.heap_setCell _ _ _ _ (fun e=>hm (by rw [e];exact hq))).trans (h.kp g hg hm)
theorem TsM.count (h:TsM n ao cap x w0 w1 sb lb ab pb cb p rv lo hi B b1 VA TL w RL VS U S c f flo fhi):TsM n ao cap x w0 w1 sb lb ab pb cb p rv lo hi B b1 VA TL (w.setCell ⟨cb,0,none⟩ (.int .i64 ((c+1:Nat):Int))) RL VS U S (c+1) f flo fhi:=by
 obtain ⟨a1,a2,a3,a4,a5,a6,a7,a8,a9,a10,a11⟩:=h.ne_all
 refine ⟨h.st,h.low.setCell (p:=⟨cb,0,none⟩) a11 _,by have:=h.sz;simpa [World.setCell] using this,h.set_kp (q:=⟨cb,0,none⟩) (.inr (.inr (.inr (.inl rfl)))) _,own_same h.rooms fun g hg=>Below.heap_setCell _ _ _ _ (a4 g hg).2.2.2.1,h.rows.far (p:=⟨cb,0,none⟩) (Ne.symm a6) (.inl a8) _,BBox.far h.spent (p:=⟨cb,0,none⟩) a7 _,?_,h.fo_set (q:=⟨cb,0,none⟩) a3 _⟩
 simp only [World.setCell,Array.getElem?_modify,h.cnt,if_true,Option.map_some]
 rfl
theorem TsM.put (h:TsM n ao cap x w0 w1 sb lb ab pb cb p rv lo hi B b1 VA TL w RL VS U S c f flo fhi) {v:Nat} (hv:v<n.n.toNat+1) {y:Value} {u:List Nat} (hy:RowOf w lo hi y u):TsM n ao cap x w0 w1 sb lb ab pb cb p rv lo hi B b1 VA TL (w.setCell ⟨lb,v,none⟩ y) RL (fun j=>if j=v then y else VS j) (fun j=>if j=v then u else U j) S c f flo fhi:=by
 obtain ⟨a1,a2,a3,a4,a5,a6,a7,a8,a9,a10,a11⟩:=h.ne_all
 refine ⟨h.st,h.low.setCell (p:=⟨lb,v,none⟩) a9 _,by have:=h.sz;simpa [World.setCell] using this,h.set_kp (q:=⟨lb,v,none⟩) (.inr (.inl rfl)) _,own_same h.rooms fun g hg=>Below.heap_setCell _ _ _ _ (a4 g hg).2.1,h.rows.put hv hy,BBox.far h.spent (p:=⟨lb,v,none⟩) (Ne.symm a5) _,?_,h.fo_set (q:=⟨lb,v,none⟩) a1 _⟩
 exact (Below.heap_setCell _ _ _ _ (Ne.symm a6)).trans h.cnt
theorem TsM.spend (h:TsM n ao cap x w0 w1 sb lb ab pb cb p rv lo hi B b1 VA TL w RL VS U S c f flo fhi) {v:Nat} (hv:v<S.length):TsM n ao cap x w0 w1 sb lb ab pb cb p rv lo hi B b1 VA TL (w.setCell ⟨pb,v,none⟩ (.bool true)) RL VS U (S.set v true) c f flo fhi:=by
 obtain ⟨a1,a2,a3,a4,a5,a6,a7,a8,a9,a10,a11⟩:=h.ne_all
 obtain ⟨u1,u2,u3,u4,u5,u6⟩:=h.st.up
 refine ⟨h.st,h.low.setCell (p:=⟨pb,v,none⟩) a10 _,by have:=h.sz;simpa [World.setCell] using this,h.set_kp (q:=⟨pb,v,none⟩) (.inr (.inr (.inl rfl))) _,own_same h.rooms fun g hg=>Below.heap_setCell _ _ _ _ (a4 g hg).2.2.1,h.rows.far (p:=⟨pb,v,none⟩) (Ne.symm a5) (.inl u3) _,BBox.set h.spent hv true,?_,h.fo_set (q:=⟨pb,v,none⟩) a2 _⟩
 exact (Below.heap_setCell _ _ _ _ (Ne.symm a7)).trans h.cnt
theorem TsM.note (h:TsM n ao cap x w0 w1 sb lb ab pb cb p rv lo hi B b1 VA TL w RL VS U S c f flo fhi) {r:Nat} (hr:r<RL.length):∃ g rc,rv=.slice (some ⟨g,0,none⟩) RL.length rc∧g<w1.heap.size∧w.cell? ⟨g,r,none⟩=some (.int .i64 (amt RL r))∧w.frozen? ⟨g,r,none⟩=false ∧
  ∀ y,TsM n ao cap x w0 w1 sb lb ab pb cb p rv lo hi B b1 VA TL (w.setCell ⟨g,r,none⟩ (.int .i64 y)) (RL.set r y) VS U S c f flo fhi:=by
 obtain ⟨a1,a2,a3,a4,a5,a6,a7,a8,a9,a10,a11⟩:=h.ne_all
 obtain ⟨ao',rc,hv,_,_,_,_,_,_⟩:=Rw.own_row encI_len h.rooms
 have hro:=h.rooms
 rw [hv] at hro
 obtain ⟨g,rfl,hg1,hg2,hc,hf⟩:=own_cells encI_len hro (at_amt hr)
 obtain ⟨s1,s2,s3,s4,s5⟩:=a4 g (by rw [hv];rfl)
 have c0:=hc 0 _ rfl
 rw [show r*1+0=r by omega] at c0
 refine ⟨g,rc,hv,s1.1,c0,hf r,fun y=>?_⟩
 refine ⟨h.st,h.low.setCell (p:=⟨g,r,none⟩) hg1 _,by have:=h.sz;simpa [World.setCell] using this,h.set_kp (q:=⟨g,r,none⟩) (.inl (by rw [hv];rfl)) _,?_,h.rows.far (p:=⟨g,r,none⟩) s2 (.inl s5) _,BBox.far h.spent (p:=⟨g,r,none⟩) (Ne.symm s3) _,?_,h.fo_set (q:=⟨g,r,none⟩) s1 _⟩
 ·have h:=own_put encI_len hro (at_amt hr) (y:=y) (j:=0) (by omega) (u:=.int .i64 y) rfl
  rw [show r*1+0=r by omega] at h
  rw [hv];exact h
 ·exact (Below.heap_setCell _ _ _ _ (Ne.symm s4)).trans h.cnt
theorem TsM.cntc (h:TsM n ao cap x w0 w1 sb lb ab pb cb p rv lo hi B b1 VA TL w RL VS U S c f flo fhi):w.cell? ⟨cb,0,none⟩=some (.int .i64 (c:Int))∧w.frozen? ⟨cb,0,none⟩=false:=by
 have:=h.cnt
 simp [World.cell?,World.frozen?,this]
theorem TsM.marks (h:TsM n ao cap x w0 w1 sb lb ab pb cb p rv lo hi B b1 VA TL w RL VS U S c f flo fhi) (hS:S.length=n.n.toNat+1) {v:Nat} (hv:v<n.n.toNat+1):w.cell? ⟨pb,v,none⟩=some (.bool (S.getD v false))∧w.frozen? ⟨pb,v,none⟩=false :=
 ⟨h.spent.cell (by omega),h.spent.frozen v⟩
theorem more_any (h:TsM n ao cap x w0 w1 sb lb ab pb cb p rv lo hi B b1 VA TL w RL VS U S c f flo fhi) (hc:c≤4611686018427387904) :
  Calls Tryz.prog 95 #[.pointer (some ⟨cb,0,none⟩)] w fun e w'=>e=.returned (.tuple #[])∧TsM n ao cap x w0 w1 sb lb ab pb cb p rv lo hi B b1 VA TL w' RL VS U S (c+1) f flo fhi:=by
 obtain ⟨n0,n1⟩:=h.cntc
 have HC:=hid h.count
 have hw1:IntKind.i64.wrap ((c:Int)+1)=((c+1:Nat):Int):=by rw [IntKind.wrap_i64];omega
 generalize ((c+1:Nat):Int)=C1 at *
 clear h hc
 go_enter Tryz.func95,Tryz.ntmps95
 go_wp2
 go_end0
 exact ⟨rfl,HC.out⟩
end
end Ne
end Go.Proofs.YthhlfphnokdfaaaGreat
