/-
  Dnr, Dns, Opg
-/
import Derived.Test.YtmikbkggjlbbnaaGreatBz39
import Derived.Test.YtmikbkggjlbbnaaGreatBz44
import Derived.Deep.LoopGhost
import Derived.Deep.CutBlock
import Derived.Deep.DeepCutAuto
import Derived.RegionTactic
import Derived.BigRegion
import Derived.Test.YtmikbkggjlbbnaaGreatBz30
import Derived.Test.YtmikbkggjlbbnaaGreatRows
import Derived.WalkKit
import Derived.ProofKit
import Derived.OpenShut
import Derived.Deep.Slices
import Derived.Deep.Fields
import Derived.ChangeSame
import Derived.Lib.SmallJoins
namespace Go.Proofs.YtmikbkggjlbbnaaGreat
open Go.ChangeShapes Go.WideShapes Go.ChangeAt Go.RowKit
open Lib (hid)
set_option linter.unusedVariables false
set_option linter.unusedSimpArgs false
namespace Ne
def RrBox (w:World) (b:Nat) (v:Value) (p k:Int):Prop:=w.heap[b]? = some (.cells #[v,.int .i64 p,.int .i64 k] 33 (0,0))
section
variable {w w2:World} {b B:Nat} {v v2:Value} {p k p2 k2:Int}
theorem rrBox_cells (h:RrBox w b v p k):w.cell? ⟨b,0,none⟩=some v∧w.cell? ⟨b,1,none⟩=some (.int .i64 p)∧w.cell? ⟨b,2,none⟩=some (.int .i64 k):=by
 unfold RrBox at h
 refine ⟨?_,?_,?_⟩ <;> simp [World.cell?,h]
theorem rrBox_frozen (h:RrBox w b v p k) (o:Nat):w.frozen? ⟨b,o,none⟩=false:=by
 unfold RrBox at h;simp [World.frozen?,h]
theorem rrBox_lt (h:RrBox w b v p k):b<w.heap.size:=Rw.lt_of_heap h
theorem rrBox_below (h:RrBox w b v p k) (hb:Below B w w2) (hB:b<B):RrBox w2 b v p k:=by
 unfold RrBox at *;rw [hb.block b hB];exact h
theorem rrBox_at (w:World) (hb:b=w.heap.size) (v:Value) (p k:Int):RrBox (w.alloc (.cells #[v,.int .i64 p,.int .i64 k] 33)) b v p k:=by
 subst hb;unfold RrBox;show (w.heap.push _)[w.heap.size]? = _;simp
theorem rrBox_all (h:RrBox w b v p k):RrBox (((w.setCell ⟨b,0,none⟩ v2).setCell ⟨b,1,none⟩ (.int .i64 p2)).setCell ⟨b,2,none⟩ (.int .i64 k2)) b v2 p2 k2:=by
 unfold RrBox at *
 simp only [World.setCell,Array.getElem?_modify,h,if_true,Option.map_some]
 rfl
theorem rrBox_own (h:RrBox w b v p k) {B:Nat} {o:Option Addr} {n c:Nat} {l:List Int} (ho:OwnL w B (.slice o n c) l) (hb:b<B) (v2:Value) (p2 k2:Int) :
  OwnL (((w.setCell ⟨b,0,none⟩ v2).setCell ⟨b,1,none⟩ (.int .i64 p2)).setCell ⟨b,2,none⟩ (.int .i64 k2)) B (.slice o n c) l:=by
 have hvb:=Rw.own_block ho
 exact Rw.own_set (Rw.own_set (Rw.own_set ho (p:=⟨b,0,none⟩) (fun h=>by have h2:=hvb _ h;simp only at h2;omega) v2) (p:=⟨b,1,none⟩) (fun h=>by have h2:=hvb _ h;simp only at h2;omega) (.int .i64 p2)) (p:=⟨b,2,none⟩) (fun h=>by have h2:=hvb _ h;simp only at h2;omega) (.int .i64 k2)
theorem rrBelow_all {B b:Nat} (h:Below B w w2) (hb:B≤b) (v2:Value) (p2 k2:Int):Below B w (((w2.setCell ⟨b,0,none⟩ v2).setCell ⟨b,1,none⟩ (.int .i64 p2)).setCell ⟨b,2,none⟩ (.int .i64 k2)) :=
 ((h.setCell (p:=⟨b,0,none⟩) hb v2).setCell (p:=⟨b,1,none⟩) hb (.int .i64 p2)).setCell (p:=⟨b,2,none⟩) hb (.int .i64 k2)
end
section
variable {n:Net} (ao:Option Addr) (cap:Nat) (fo:Option Addr) (fc:Nat) {f h:List Int} (w:World) (ck:checkN n=0) (hr:ARow w ao n.l) (hf:IRow w fo f) (hfn:fo=none→fc=0) (hF:Okf n f) {x:Int} (hx:1≤x) {p k:Nat} (P:Phs n x f h p k)
include ck hr hf hfn hF hx P
set_option maxRecDepth 100000 in
set_option maxHeartbeats 4000000 in
theorem rfrom_flow (q:Bool):Calls Tryz.prog 11 #[encN n ao cap,.slice fo n.l.length fc,.int .i64 x,.int .u8 (engC q)] w fun e w'=>∃ o c,e=.returned (.tuple #[.agg #[.slice o n.l.length c,.int .i64 (p:Int),.int .i64 (k:Int)],.int .i64 0])∧OwnL w' w.heap.size (.slice o n.l.length c) h∧Below w.heap.size w w':=by
 have hR:=right_of ck
 have hml:=hR.len
 have hpk:=(phs_lt hR hx P hF).1
 have hkk:=phs_walks hR hx P hF
 have hN1:=hR.n1
 have hl6:n.l.length≤1000000:=by omega
 have hE:∀ fl,Okf n fl→reE n fl x=0:=fun fl h=>by unfold reE;rw [if_neg (by simpa using h.chk ck),if_neg (by omega)]
 obtain ⟨L0,hl0⟩:=lev_exists hR f x
 have HBN:=hid ((Below.refl w.heap.size w).alloc (Nat.le_refl _) (.cells #[.int .i64 n.n,.int .i64 n.s,.int .i64 n.t,.slice ao n.l.length cap] 24))
 have HB0:=hid (HBN.out.alloc (by simp) (.cells #[.slice none 0 0,.int .i64 0,.int .i64 0] 33))
 have HN0:=hid (netBox_alloc (netBox_new w n.n n.s n.t (.slice ao n.l.length cap)) (.cells #[.slice none 0 0,.int .i64 0,.int .i64 0] 33))
 have HX0:=hid (rrBox_at (w.alloc (.cells #[.int .i64 n.n,.int .i64 n.s,.int .i64 n.t,.slice ao n.l.length cap] 24)) (b:=w.heap.size+1) (by simp) (.slice none 0 0) 0 0)
 have hz0:w.heap.size+1<((w.alloc (.cells #[.int .i64 n.n,.int .i64 n.s,.int .i64 n.t,.slice ao n.l.length cap] 24)).alloc (.cells #[.slice none 0 0,.int .i64 0,.int .i64 0] 33)).heap.size:=by simp
 have HR:=hid hr
 have HF:=hid hf
 have DP:=hid fun fl fo fc w' L (h3:Okf n fl) (h4:IsLev n fl x L) h1 h2=>show Calls Tryz.prog 29 #[encN n ao cap,.slice fo n.l.length fc,.int .i64 x] w' fun e w2=>e=.returned (.tuple #[.int .i64 (amt L n.t.toNat),.int .i64 0])∧Below w'.heap.size w' w2 from by
  have h:=rdeep_any n ao cap fo fc fl x L w' h1 h2 hl6 (fun _=>h4)
  rw [h3.len,hE fl h3,(lvV_ok (hE fl h3)).2.2] at h
  exact h
 have BK:=hid fun fl fo fc w' L W g (h3:Okf n fl) (h4:IsLev n fl x L) (hB:IsBlk n.l (leadL n.l fl x L (2*n.l.length)) fl x n.s n.t W g) h1 h2 hfn=>show Calls Tryz.prog 30 #[encN n ao cap,.slice fo n.l.length fc,.int .i64 x] w' fun e w2=>∃ o c oo cc,e=.returned (.tuple #[.slice o n.l.length c,.slice oo W.length cc,.int .i64 0])∧OwnL w2 w'.heap.size (.slice o n.l.length c) g∧Below w'.heap.size w' w2 from by
  have h:=rblock_own n ao cap fo fc fl x L W g w' h1 h2 hfn hl6 (fun _=>h4) (fun _=>hB)
  have e1:blG n fl x g=g:=by unfold blG;rw [if_neg (by simpa using hE fl h3)]
  have e2:blW n fl x W=W:=by unfold blW;rw [if_neg (by simpa using hE fl h3)]
  rw [h3.len,e1,e2,(blk_len h3 hx hB).1,hE fl h3] at h
  refine h.mono ?_
  rintro e w2 ⟨o,c,wv,h5,h6,h7,h8⟩
  obtain ⟨oo,cc,e3,_,_,_⟩:=h7.val
  rw [e3] at h5
  exact ⟨o,c,oo,cc,h5,h6,h8⟩
 have NX:=hid fun fl L p k (h1:IsLev n fl x L) (h2:Okf n fl) (P:Phs n x fl h (p+1) k)=>phs_next hR hx h1 h2 P
 have SP:=hid fun fl L k (h1:IsLev n fl x L) (P:Phs n x fl h 0 k)=>phs_stop hR h1 P
 have HP:=hid P
 have HL0:=hid hl0
 have HOK:=hid hF
 have HPK:=hid (show p≤500∧k≤100000000 from ⟨by omega,by
  have:p*(2*n.l.length)≤500*(2*2000):=Nat.mul_le_mul (by omega) (by omega)
  omega⟩)
 have HLLN:=hid (show ([]:List Int).length+f.length≤1099511627776 by have:=hF.len;simp;omega)
 have HFN:=hid hfn
 have HFLEN:=hid hF.len
 clear hR hml hN1 hpk hkk hl0 hr hf hF P ck hx hE hfn
 obtain ⟨n0,n1,n2,n3⟩:=netBox_cells HN0.out
 cases q
 all_goals
  simp only [engC,Bool.false_eq_true,if_false,if_true]
  go_enter Tryz.func11,Tryz.ntmps11
  go_wp2_with fail
  refine (DP.out f fo fc _ L0 HOK.out HL0.out (HR.out.kept HB0.out) (HF.out.kept HB0.out)).mono ?_
  rintro e w2 ⟨rfl,hb⟩
  have HB1:=hid (HB0.out.trans (hb.mono HB0.out.size))
  have HN1:=hid (netBox_below HN0.out hb (by omega))
  have HX1:=hid (rrBox_below HX0.out hb hz0)
  have hz1:w.heap.size+1<w2.heap.size:=rrBox_lt HX1.out
  have HA3:=hid ((Below.refl w2.heap.size w2).alloc (Nat.le_refl _) (.cells #[] 2))
  have HOE:=hid (own_empty (α:=Int) (k:=1) (enc:=encI) (e:=2) w2 w2.heap.size (Nat.le_refl _))
  have HF3:=hid ((HF.out.kept HB1.out).kept HA3.out)
  have HZ3:=hid HA3.out.size
  clear hb n0 n1 n2 n3
  go_wp2_with (at_builtin;refine Rw.app elemL encI_len encI_one rfl (.tmp 34) (.tmp 35) rfl w2.heap.size (.slice (some ⟨w2.heap.size,0,none⟩) 0 0) ([]:List Int) rfl HOE.out fo fc f (by rw [HFLEN.out];rfl) HFN.out HF3.out HLLN.out HZ3.out ?_;intro v4 w4 hown4 hgr4;rw [List.nil_append] at hown4;obtain ⟨o4,c4,hv4,_,_,hn4,_⟩:=Rw.own_row encI_len hown4;rw [HFLEN.out] at hv4;subst hv4;have HO4:=hid hown4;have HG4:=hid hgr4;have HNN4:=hid hn4;clear hown4 hgr4 hn4)
  have HBT4:=hid (HB1.out.trans ((HA3.out.grown HG4.out HZ3.out (fun g hg=>by simp [Value.ownBlock] at hg;omega)).mono HB1.out.size))
  have HNT4:=hid (netBox_below HN1.out (HA3.out.grown HG4.out HZ3.out (fun g hg=>by simp [Value.ownBlock] at hg;omega)) (by omega))
  have HXT4:=hid (rrBox_below HX1.out (HA3.out.grown HG4.out HZ3.out (fun g hg=>by simp [Value.ownBlock] at hg;omega)) hz1)
  obtain ⟨br,hbr⟩:∃ br,br=w4.heap.size:=⟨_,rfl⟩
  have hbr2:w2.heap.size≤br:=by have h1:=HG4.out.size;have h2:=HZ3.out;omega
  have HBR:=hid hbr2
  have HBA:=hid ((Below.refl w4.heap.size w4).alloc (Nat.le_refl _) (.cells #[.slice o4 n.l.length c4,.int .i64 0,.int .i64 0] 33))
  have HXR:=hid (rrBox_at w4 hbr (.slice o4 n.l.length c4) 0 0)
  have HOR:=hid (Rw.own_base (Rw.own_below HO4.out HBA.out) (B':=w.heap.size+2) (by omega))
  have HW4:=hid hbr
  rw [← hbr]
  clear HG4 HO4 hbr hbr2
  generalize (w4.alloc (.cells #[.slice o4 n.l.length c4,.int .i64 0,.int .i64 0] 33))=w5 at *
  go_loopg [10,13,14,15] p (fun gg s10 s13 s14 s15 wr=>((∃ z,s13=z)∧(∃ z,s14=z)∧∃ z,s15=z)∧∃ (fl L:List Int) (pi ki kr ci:Nat) (oi:Option Addr),s10=.int .i64 (amt L n.t.toNat)∧pi+gg=p∧Hid (ki+kr=k)∧Hid (oi=none→ci=0)∧Hid (Okf n fl)∧Hid (IsLev n fl x L)∧Hid (Phs n x fl h gg kr)∧Hid (RrBox wr br (.slice oi n.l.length ci) pi ki)∧Hid (OwnL wr (w.heap.size+2) (.slice oi n.l.length ci) fl)∧Hid (Below w4.heap.size w4 wr))
  case atStart=>exact ⟨⟨⟨_,rfl⟩,⟨_,rfl⟩,⟨_,rfl⟩⟩,f,L0,0,0,k,c4,o4,rfl,by omega,hid (by omega),HNN4,HOK,HL0,HP,HXR,HOR,HBA⟩
  case round =>
   obtain ⟨⟨⟨z13,rfl⟩,⟨z14,rfl⟩,⟨z15,rfl⟩⟩,fl,L,pi,ki,kr,ci,oi,rfl,hpg,HKK,HNI,HOF,HLV,HPR,HXI,HOI,HBW⟩:=hrel
   have HLT4:=hid (show w.heap.size+1<w4.heap.size by have:=rrBox_lt HXT4.out;omega)
   have HNW:=hid (netBox_below HNT4.out HBW.out (by have:=HLT4.out;omega))
   have HXW:=hid (rrBox_below HXT4.out HBW.out HLT4.out)
   have HRW:=hid (HR.out.kept (HBT4.out.trans (HBW.out.mono HBT4.out.size)))
   have HBE:=hid (HBT4.out.trans (HBW.out.mono HBT4.out.size))
   obtain ⟨n0,n1,n2,n3⟩:=netBox_cells HNW.out
   obtain ⟨r0,r1,r2⟩:=rrBox_cells HXI.out
   by_cases hg0:gk=0
   ·obtain ⟨hneg,hh,hk0⟩:=SP.out fl L kr HLV.out (by have h:=HPR.out;rwa [hg0] at h)
    have hpp:pi=p:=by omega
    have hkk:ki=k:=by have:=HKK.out;omega
    have hd:decide (0≤amt L n.t.toNat)=false:=by simpa using hneg
    subst hh hpp hkk
    obtain ⟨y0,y1,y2⟩:=rrBox_cells HXW.out
    have f0:=rrBox_frozen HXW.out 0
    have f1:=rrBox_frozen HXW.out 1
    have f2:=rrBox_frozen HXW.out 2
    clear hneg hk0 hpg
    generalize amt L n.t.toNat=dv at *
    go_wp2
    refine bodyPost_ret_by (results_cell_one rfl _ _ (w.heap.size+1) 33 _ (0,0) _ rfl (rrBox_all (v2:=.slice oi n.l.length ci) (p2:=(pi:Int)) (k2:=(ki:Int)) HXW.out) Tryz.underlying33 rfl (by kernel_rfl)) rfl ?_
    exact ⟨oi,ci,rfl,Rw.own_base (rrBox_own HXW.out HOI.out (by omega) _ _ _) (by omega),rrBelow_all HBE.out (by omega) _ _ _⟩
   ·obtain ⟨pr,hpr⟩:∃ pr,gk=pr+1:=⟨gk-1,by omega⟩
    obtain ⟨hpos,W,g,L2,k2,hB,hk2,hG,hl2,hP2⟩:=NX.out fl L pr kr HLV.out HOF.out (by have h:=HPR.out;rwa [hpr] at h)
    have hd:decide (0≤amt L n.t.toNat)=true:=by simpa using hpos
    have BC:=hid (BK.out fl oi ci wr L W g HOF.out HLV.out hB HRW.out (own_irow HOI.out) HNI.out)
    have HG:=hid hG
    have HL2:=hid hl2
    have HP2:=hid hP2
    have HPP:=hid (show pi+1+pr=p∧pr<gk∧ki+W.length+k2=k from ⟨by omega,by omega,by have:=HKK.out;omega⟩)
    have hw1:IntKind.i64.wrap ((pi:Int)+1)=(pi:Int)+1:=by have:=HPK.out;rw [IntKind.wrap_i64];omega
    have hw2:IntKind.i64.wrap ((ki:Int)+(W.length:Int))=(ki:Int)+(W.length:Int):=by have:=HPK.out;have:=HPP.out;rw [IntKind.wrap_i64];omega
    clear hpos hB hk2 hG hl2 hP2 hpr hg0 hpg
    generalize amt L n.t.toNat=dv at *
    go_wp2_with fail
    refine BC.out.mono ?_
    rintro e w6 ⟨o6,c6,oo,cc,rfl,ho,hb⟩
    obtain ⟨_,_,e6,_,_,hn6,_⟩:=Rw.own_row encI_len ho
    have hn6':o6=none→c6=0:=by
     simp only [Value.slice.injEq] at e6
     obtain ⟨e7,_,e8⟩:=e6
     rw [e7,e8];exact hn6
    have HN6:=hid hn6'
    clear e6 hn6 hn6'
    have HB6:=hid (HBW.out.trans (hb.mono HBW.out.size))
    have hbr5:br<wr.heap.size:=rrBox_lt HXI.out
    have hbr3:w4.heap.size≤br:=by have:=HW4.out;omega
    have HX6:=hid (rrBox_below HXI.out hb hbr5)
    have HO6:=hid ho
    have HZ6:=hid hb.size
    have HZW:=hid (show w.heap.size+2≤wr.heap.size by have:=HLT4.out;have:=HBW.out.size;omega)
    obtain ⟨y0,y1,y2⟩:=rrBox_cells HX6.out
    have f0:=rrBox_frozen HX6.out 0
    have f1:=rrBox_frozen HX6.out 1
    have f2:=rrBox_frozen HX6.out 2
    have HXA:=hid (rrBox_all (v2:=.slice o6 n.l.length c6) (p2:=(pi:Int)+1) (k2:=(ki:Int)+(W.length:Int)) HX6.out)
    have HOA:=hid (rrBox_own HX6.out HO6.out hbr5 (.slice o6 n.l.length c6) ((pi:Int)+1) ((ki:Int)+(W.length:Int)))
    have HBX:=hid (rrBelow_all HB6.out hbr3 (.slice o6 n.l.length c6) ((pi:Int)+1) ((ki:Int)+(W.length:Int)))
    clear hb ho n0 n1 n2 n3 r0 r1 r2
    go_upto_region 12 with fail
    generalize (((w6.setCell ⟨br,0,none⟩ (.slice o6 n.l.length c6)).setCell ⟨br,1,none⟩ (.int .i64 ((pi:Int)+1))).setCell ⟨br,2,none⟩ (.int .i64 ((ki:Int)+(W.length:Int))))=w7 at *
    clear y0 y1 y2 f0 f1 f2
    have HN7:=hid (netBox_below HNT4.out HBX.out (by have:=HLT4.out;omega))
    have HR7:=hid (HR.out.kept (HBT4.out.trans (HBX.out.mono HBT4.out.size)))
    obtain ⟨n0,n1,n2,n3⟩:=netBox_cells HN7.out
    obtain ⟨r0,r1,r2⟩:=rrBox_cells HXA.out
    have DC:=hid (DP.out g o6 c6 w7 L2 HG.out HL2.out HR7.out (own_irow HOA.out))
    go_wp2_with fail
    refine DC.out.mono ?_
    rintro e w8 ⟨rfl,hb⟩
    have HB8:=hid (HBX.out.trans (hb.mono HBX.out.size))
    have HX8:=hid (rrBox_below HXA.out hb (rrBox_lt HXA.out))
    have HO8:=hid (Rw.own_base (Rw.own_below HOA.out hb) (B':=w.heap.size+2) HZW.out)
    clear hb n0 n1 n2 n3 r0 r1 r2
    go_wp2
    go_roundg pr
    case measure=>have:=HPP.out;omega
    case rel=>exact ⟨⟨⟨_,rfl⟩,⟨_,rfl⟩,⟨_,rfl⟩⟩,g,L2,pi+1,ki+W.length,k2,c6,o6,rfl,HPP.out.1,hid HPP.out.2.2,HN6,HG,HL2,HP2,HX8,HO8,HB8⟩
end
end Ne
namespace Ne
section
variable (n:Net) (ao:Option Addr) (cap:Nat) (fo:Option Addr) (fc:Nat) (f h:List Int) (x a:Int) (p k:Nat) (w:World) (hr:ARow w ao n.l) (hf:IRow w fo f) (hfn:fo=none→fc=0) (hl:n.l.length≤1000000)
include hr hf hl
set_option maxRecDepth 100000 in
set_option maxHeartbeats 2000000 in
theorem rfrom_bad (hE:reE n f x≠0):Calls Tryz.prog 11 #[encN n ao cap,.slice fo f.length fc,.int .i64 x,.int .u8 a] w fun e w'=>e=.returned (.tuple #[.agg #[.slice none 0 0,.int .i64 0,.int .i64 0],.int .i64 (reE n f x)])∧Below w.heap.size w w':=by
 have HB0:=hid (((Below.refl w.heap.size w).alloc (Nat.le_refl _) (.cells #[.int .i64 n.n,.int .i64 n.s,.int .i64 n.t,.slice ao n.l.length cap] 24)).alloc (by simp) (.cells #[.slice none 0 0,.int .i64 0,.int .i64 0] 33))
 have HN0:=hid (netBox_alloc (netBox_new w n.n n.s n.t (.slice ao n.l.length cap)) (.cells #[.slice none 0 0,.int .i64 0,.int .i64 0] 33))
 have HX0:=hid (rrBox_at (w.alloc (.cells #[.int .i64 n.n,.int .i64 n.s,.int .i64 n.t,.slice ao n.l.length cap] 24)) (b:=w.heap.size+1) (by simp) (.slice none 0 0) 0 0)
 have HZ0:=hid (rrBox_lt HX0.out)
 have HD:=hid (rdeep_any n ao cap fo fc f x [] _ (hr.kept HB0.out) (hf.kept HB0.out) hl (fun e=>absurd e hE))
 have hE':(reE n f x != 0)=true:=by simpa using hE
 clear hE hr hf hl
 generalize reE n f x=re at *
 generalize dpV n f x []=dv at *
 obtain ⟨n0,n1,n2,n3⟩:=netBox_cells HN0.out
 go_enter Tryz.func11,Tryz.ntmps11
 go_wp2_with fail
 refine HD.out.mono ?_
 rintro e w1 ⟨rfl,hb⟩
 have HB1:=hid (HB0.out.trans (hb.mono HB0.out.size))
 have HX1:=hid (rrBox_below HX0.out hb HZ0.out)
 obtain ⟨y0,y1,y2⟩:=rrBox_cells HX1.out
 have f0:=rrBox_frozen HX1.out 0
 have f1:=rrBox_frozen HX1.out 1
 have f2:=rrBox_frozen HX1.out 2
 clear hb n0 n1 n2 n3
 go_wp2
 refine bodyPost_ret_by (results_cell_one rfl _ _ (w.heap.size+1) 33 _ (0,0) _ rfl (rrBox_all (v2:=.slice none 0 0) (p2:=0) (k2:=0) HX1.out) Tryz.underlying33 rfl (by kernel_rfl)) rfl ?_
 exact ⟨rfl,rrBelow_all HB1.out (by omega) _ _ _⟩
set_option maxRecDepth 100000 in
set_option maxHeartbeats 2000000 in
theorem rfrom_arg (hE:reE n f x=0) (h1:a≠112) (h2:a≠116):Calls Tryz.prog 11 #[encN n ao cap,.slice fo f.length fc,.int .i64 x,.int .u8 a] w fun e w'=>e=.returned (.tuple #[.agg #[.slice none 0 0,.int .i64 0,.int .i64 0],.int .i64 1])∧Below w.heap.size w w':=by
 have HB0:=hid (((Below.refl w.heap.size w).alloc (Nat.le_refl _) (.cells #[.int .i64 n.n,.int .i64 n.s,.int .i64 n.t,.slice ao n.l.length cap] 24)).alloc (by simp) (.cells #[.slice none 0 0,.int .i64 0,.int .i64 0] 33))
 have HN0:=hid (netBox_alloc (netBox_new w n.n n.s n.t (.slice ao n.l.length cap)) (.cells #[.slice none 0 0,.int .i64 0,.int .i64 0] 33))
 have HX0:=hid (rrBox_at (w.alloc (.cells #[.int .i64 n.n,.int .i64 n.s,.int .i64 n.t,.slice ao n.l.length cap] 24)) (b:=w.heap.size+1) (by simp) (.slice none 0 0) 0 0)
 have HZ0:=hid (rrBox_lt HX0.out)
 have hR:=right_of (okf_of (reE_ok hE).1).1
 obtain ⟨L0,hl0⟩:=lev_exists hR f x
 have HD:=hid (rdeep_any n ao cap fo fc f x L0 _ (hr.kept HB0.out) (hf.kept HB0.out) hl (fun _=>hl0))
 have e1:(a != 112)=true:=by simpa using h1
 have e2:(a != 116)=true:=by simpa using h2
 rw [hE] at HD
 clear hE hr hf hl hR hl0 h1 h2
 generalize dpV n f x L0=dv at *
 obtain ⟨n0,n1,n2,n3⟩:=netBox_cells HN0.out
 go_enter Tryz.func11,Tryz.ntmps11
 go_wp2_with fail
 refine HD.out.mono ?_
 rintro e w1 ⟨rfl,hb⟩
 have HB1:=hid (HB0.out.trans (hb.mono HB0.out.size))
 have HX1:=hid (rrBox_below HX0.out hb HZ0.out)
 obtain ⟨y0,y1,y2⟩:=rrBox_cells HX1.out
 have f0:=rrBox_frozen HX1.out 0
 have f1:=rrBox_frozen HX1.out 1
 have f2:=rrBox_frozen HX1.out 2
 clear hb n0 n1 n2 n3
 go_wp2
 refine bodyPost_ret_by (results_cell_one rfl _ _ (w.heap.size+1) 33 _ (0,0) _ rfl (rrBox_all (v2:=.slice none 0 0) (p2:=0) (k2:=0) HX1.out) Tryz.underlying33 rfl (by kernel_rfl)) rfl ?_
 exact ⟨rfl,rrBelow_all HB1.out (by omega) _ _ _⟩
include hfn in
theorem rfrom_any (hP:reE n f x=0→Phs n x f h p k):Calls Tryz.prog 11 #[encN n ao cap,.slice fo f.length fc,.int .i64 x,.int .u8 a] w fun e w'=>∃ o c,e=.returned (.tuple #[.agg #[.slice o (rnG n f x a h).length c,.int .i64 (rnN n f x a p),.int .i64 (rnN n f x a k)],.int .i64 (rnE n f x a)])∧OwnL w' w.heap.size (.slice o (rnG n f x a h).length c) (rnG n f x a h)∧Below w.heap.size w w':=by
 by_cases c0:reE n f x=0
 ·obtain ⟨hck,hx⟩:=reE_ok c0
  obtain ⟨ck,hF⟩:=okf_of hck
  by_cases c1:a=112∨a=116
  ·have e:rnE n f x a=0:=by unfold rnE;rw [if_neg (by simpa using c0),if_pos c1]
   obtain ⟨q,rfl⟩:∃ q,a=engC q:=by
    rcases c1 with c1 | c1
    ·exact ⟨false,c1⟩
    ·exact ⟨true,c1⟩
   rw [(rn_ok (h:=h) e p).1,(rn_ok (h:=h) e p).2,(rn_ok (h:=h) e k).2,e,(phs_okf (right_of ck) hx (hP c0) hF).1.len,hF.len]
   exact rfrom_flow ao cap fo fc w ck hr hf hfn hF hx (hP c0) q
  ·have e:rnE n f x a=1:=by unfold rnE;rw [if_neg (by simpa using c0),if_neg c1]
   have e':rnE n f x a≠0:=by rw [e];decide
   rw [(rn_bad (h:=h) e' p).1,(rn_bad (h:=h) e' p).2,(rn_bad (h:=h) e' k).2,e]
   refine (rfrom_arg n ao cap fo fc f x a w hr hf hl c0 (fun e=>c1 (.inl e)) (fun e=>c1 (.inr e))).mono ?_
   rintro e w' ⟨h1,h2⟩
   exact ⟨none,0,h1,Rw.own_nil _ _,h2⟩
 ·have e:rnE n f x a=reE n f x:=by unfold rnE;rw [if_pos c0]
  have e':rnE n f x a≠0:=by rw [e];exact c0
  rw [(rn_bad (h:=h) e' p).1,(rn_bad (h:=h) e' p).2,(rn_bad (h:=h) e' k).2,e]
  refine (rfrom_bad n ao cap fo fc f x a w hr hf hl c0).mono ?_
  rintro e w' ⟨h1,h2⟩
  exact ⟨none,0,h1,Rw.own_nil _ _,h2⟩
end
section
variable (n:Net) (ao:Option Addr) (cap:Nat) (h:List Int) (a:Int) (p k:Nat) (w:World) (hr:ARow w ao n.l) (hl:n.l.length≤1000000)
include hr hl
set_option maxRecDepth 100000 in
set_option maxHeartbeats 2000000 in
theorem rmax_any (hP:reE n (List.replicate n.l.length 0) 1=0→Phs n 1 (List.replicate n.l.length 0) h p k):Calls Tryz.prog 13 #[encN n ao cap,.int .u8 a] w fun e w'=>∃ o c,e=.returned (.tuple #[.agg #[.slice o (rnG n (List.replicate n.l.length 0) 1 a h).length c,.int .i64 (rnN n (List.replicate n.l.length 0) 1 a p),.int .i64 (rnN n (List.replicate n.l.length 0) 1 a k)],.int .i64 (rnE n (List.replicate n.l.length 0) 1 a)])∧OwnL w' w.heap.size (.slice o (rnG n (List.replicate n.l.length 0) 1 a h).length c) (rnG n (List.replicate n.l.length 0) 1 a h)∧Below w.heap.size w w':=by
 obtain ⟨f,hf⟩:∃ f,f=List.replicate n.l.length (0:Int):=⟨_,rfl⟩
 have hfl:f.length=n.l.length:=by rw [hf];simp
 have HB0:=hid (((Below.refl w.heap.size w).alloc (Nat.le_refl _) (.cells #[.int .i64 n.n,.int .i64 n.s,.int .i64 n.t,.slice ao n.l.length cap] 24)).alloc (by simp) (.cells #[.slice none 0 0,.int .i64 0,.int .i64 0] 33))
 have HN0:=hid (netBox_alloc (netBox_new w n.n n.s n.t (.slice ao n.l.length cap)) (.cells #[.slice none 0 0,.int .i64 0,.int .i64 0] 33))
 have HX0:=hid (rrBox_at (w.alloc (.cells #[.int .i64 n.n,.int .i64 n.s,.int .i64 n.t,.slice ao n.l.length cap] 24)) (b:=w.heap.size+1) (by simp) (.slice none 0 0) 0 0)
 have HZ0:=hid (rrBox_lt HX0.out)
 generalize hW:((w.alloc (.cells #[.int .i64 n.n,.int .i64 n.s,.int .i64 n.t,.slice ao n.l.length cap] 24)).alloc (.cells #[.slice none 0 0,.int .i64 0,.int .i64 0] 33))=W0 at *
 have hmk:=make_l n.l.length hl
 have hm:Below W0.heap.size W0 (W0.drew.alloc (.cells (madeCells #[.int .i64 0] n.l.length) 2)):=(below_drew (Below.refl _ _)).alloc (Nat.le_refl _) _
 have hrow:IRow (W0.drew.alloc (.cells (madeCells #[.int .i64 0] n.l.length) 2)) (some ⟨W0.heap.size,0,none⟩) f:=by rw [hf];exact (lbox_made W0.drew n.l.length rfl).irow
 have HMB:=hid hm
 have FC:=hid (rfrom_any n ao cap (some ⟨W0.heap.size,0,none⟩) n.l.length f h 1 a p k _ (hr.kept (HB0.out.trans (hm.mono HB0.out.size))) hrow (fun h=>by cases h) hl (by rw [hf];exact hP))
 rw [hfl] at FC
 rw [← hf]
 obtain ⟨m0,m1,m2,m3⟩:=netBox_cells (netBox_below HN0.out hm (netBox_lt HN0.out))
 have HW:=hid hW
 have HW0:=HB0
 clear hr hl hP hf hfl hm hrow hW
 generalize rnG n f 1 a h=G at *
 generalize rnN n f 1 a p=PP at *
 generalize rnN n f 1 a k=KK at *
 generalize rnE n f 1 a=E at *
 go_enter Tryz.func13,Tryz.ntmps13
 go_wp2
 rw [HW.out]
 have hS0:=(show (fun w'=>w'.cell? ⟨w.heap.size,0,none⟩=some (.int .i64 n.n)∧w'.cell? ⟨w.heap.size,1,none⟩=some (.int .i64 n.s)∧w'.cell? ⟨w.heap.size,2,none⟩=some (.int .i64 n.t)∧w'.cell? ⟨w.heap.size,3,none⟩=some (.slice ao n.l.length cap)) W0.drew from netBox_cells HN0.out)
 have hS1:=(show (fun w'=>w'.cell? ⟨w.heap.size,0,none⟩=some (.int .i64 n.n)∧w'.cell? ⟨w.heap.size,1,none⟩=some (.int .i64 n.s)∧w'.cell? ⟨w.heap.size,2,none⟩=some (.int .i64 n.t)∧w'.cell? ⟨w.heap.size,3,none⟩=some (.slice ao n.l.length cap)) (W0.drew.alloc (.cells (madeCells #[.int .i64 0] n.l.length) 2)) from ⟨m0,m1,m2,m3⟩)
 refine Rh.start (S:=(fun w'=>w'.cell? ⟨w.heap.size,0,none⟩=some (.int .i64 n.n)∧w'.cell? ⟨w.heap.size,1,none⟩=some (.int .i64 n.s)∧w'.cell? ⟨w.heap.size,2,none⟩=some (.int .i64 n.t)∧w'.cell? ⟨w.heap.size,3,none⟩=some (.slice ao n.l.length cap))) (by kernel_rfl) ?_
 refine Rh.tk (some 6) (i:=0) (v:=?_) rfl (Or.inl ⟨by rfl,?_⟩) hS0 ?_
 rotate_left
 ·intro w hSw
  go_simp
  try with_reducible rfl
 try simp only [Act.put,Rh.q1,Rh.q2,Rh.q3]
 refine Rh.tk (some 7) (i:=1) (v:=?_) rfl (Or.inl ⟨by rfl,?_⟩) hS0 ?_
 rotate_left
 ·intro w hSw
  go_simp
  try with_reducible rfl
 try simp only [Act.put,Rh.q1,Rh.q2,Rh.q3]
 refine Rh.tk (some 8) (i:=2) (v:=?_) rfl (Or.inl ⟨by rfl,?_⟩) hS0 ?_
 rotate_left
 ·intro w hSw
  go_simp
  try with_reducible rfl
 try simp only [Act.put,Rh.q1,Rh.q2,Rh.q3]
 refine Rh.tk (some 9) (i:=3) (v:=?_) rfl (Or.inl ⟨by rfl,?_⟩) hS0 ?_
 rotate_left
 ·intro w hSw
  go_simp
  try with_reducible rfl
 try simp only [Act.put,Rh.q1,Rh.q2,Rh.q3]
 refine Rh.tk (some 11) (i:=5) (v:=?_) rfl (Or.inl ⟨by rfl,?_⟩) hS0 ?_
 rotate_left
 ·intro w hSw
  go_simp
  try with_reducible rfl
 try simp only [Act.put,Rh.q1,Rh.q2,Rh.q3]
 refine Rh.step (i:=4) (by kernel_rfl) rfl fun K' hK'=>?_
 have HK:=hid hK'
 clear hK'
 go_simp
 refine HK.out _ _ ⟨hS1,?_⟩
 clear HK K'
 try simp only [Act.put,Rh.q1,Rh.q2,Rh.q3]
 refine Rh.step (i:=6) (by kernel_rfl) rfl fun K' hK'=>?_
 have HK:=hid hK'
 clear hK'
 go_simp
 refine FC.out.mono ?_
 rintro e w2 ⟨o,c,rfl,ho,hb⟩
 have HO2:=hid ho
 have HB2:=hid (HMB.out.trans (hb.mono HMB.out.size))
 have X2:=rrBox_below HX0.out HB2.out HZ0.out
 have HX2:=hid X2
 obtain ⟨y0,y1,y2⟩:=rrBox_cells X2
 have f0:=rrBox_frozen X2 0
 have f1:=rrBox_frozen X2 1
 have f2:=rrBox_frozen X2 2
 have hS2:=(show (fun w'=>w'.cell? ⟨w.heap.size,0,none⟩=some (.int .i64 n.n)∧w'.cell? ⟨w.heap.size,1,none⟩=some (.int .i64 n.s)∧w'.cell? ⟨w.heap.size,2,none⟩=some (.int .i64 n.t)∧w'.cell? ⟨w.heap.size,3,none⟩=some (.slice ao n.l.length cap)) w2 from netBox_cells (netBox_below HN0.out HB2.out (netBox_lt HN0.out)))
 have hS3:=(show (fun w'=>w'.cell? ⟨w.heap.size,0,none⟩=some (.int .i64 n.n)∧w'.cell? ⟨w.heap.size,1,none⟩=some (.int .i64 n.s)∧w'.cell? ⟨w.heap.size,2,none⟩=some (.int .i64 n.t)∧w'.cell? ⟨w.heap.size,3,none⟩=some (.slice ao n.l.length cap)) (((w2.setCell ⟨w.heap.size+1,0,none⟩ (.slice o G.length c)).setCell ⟨w.heap.size+1,1,none⟩ (.int .i64 PP)).setCell ⟨w.heap.size+1,2,none⟩ (.int .i64 KK)) from netBox_cells (netBox_other (netBox_other (netBox_other (netBox_below HN0.out HB2.out (netBox_lt HN0.out)) (by omega)) (by omega)) (by omega)))
 clear hb ho X2
 refine HK.out _ _ ⟨hS2,?_⟩
 clear HK K'
 try simp only [Act.put,Rh.q1,Rh.q2,Rh.q3]
 refine Rh.tk (some 13) (i:=7) (v:=?_) rfl (Or.inl ⟨by rfl,?_⟩) hS2 ?_
 rotate_left
 ·intro w hSw
  go_simp
  try with_reducible rfl
 try simp only [Act.put,Rh.q1,Rh.q2,Rh.q3]
 refine Rh.tk (some 14) (i:=8) (v:=?_) rfl (Or.inl ⟨by rfl,?_⟩) hS2 ?_
 rotate_left
 ·intro w hSw
  go_simp
  try with_reducible rfl
 try simp only [Act.put,Rh.q1,Rh.q2,Rh.q3]
 refine Rh.step (i:=9) (by kernel_rfl) rfl fun K' hK'=>?_
 have HK:=hid hK'
 clear hK'
 go_simp
 refine HK.out _ _ ⟨hS3,?_⟩
 clear HK K'
 try simp only [Act.put,Rh.q1,Rh.q2,Rh.q3]
 refine Rh.tk (some 5) (i:=10) (v:=?_) rfl (Or.inl ⟨by rfl,?_⟩) hS3 ?_
 rotate_left
 ·intro w hSw
  go_simp
  try with_reducible rfl
 try simp only [Act.put,Rh.q1,Rh.q2,Rh.q3]
 refine Rh.done (by kernel_rfl) ?_ _
 go_wp2
 refine bodyPost_ret_by (results_cell_one rfl _ _ (w.heap.size+1) 33 _ (0,0) _ rfl (rrBox_all (v2:=.slice o G.length c) (p2:=PP) (k2:=KK) HX2.out) Tryz.underlying33 rfl (by kernel_rfl)) rfl ?_
 have hz:=HW0.out.size
 exact ⟨o,c,rfl,Rw.own_base (rrBox_own HX2.out HO2.out (by have:=HMB.out.size;have:=HZ0.out;omega) _ _ _) (by have:=HMB.out.size;have:=HZ0.out;omega),rrBelow_all (HW0.out.trans (HB2.out.mono hz)) (by omega) _ _ _⟩
end
set_option maxRecDepth 100000 in
set_option maxHeartbeats 1000000 in
theorem same_run (G:List Int) (o1 o2:Option Addr) (c1 c2:Nat) (p k st:Int) (w:World) (h1:IRow w o1 G) (h2:IRow w o2 G) (hl:G.length≤1099511627776) :
  Calls Tryz.prog 14 #[.agg #[.slice o1 G.length c1,.int .i64 p,.int .i64 k,.int .i64 st],.agg #[.slice o2 G.length c2,.int .i64 p,.int .i64 k]] w fun e w'=>e=.returned (.bool true)∧Below w.heap.size w w':=by
 have HB0:=hid (((Below.refl w.heap.size w).alloc (Nat.le_refl _) (.cells #[.slice o1 G.length c1,.int .i64 p,.int .i64 k,.int .i64 st] 28)).alloc (by simp) (.cells #[.slice o2 G.length c2,.int .i64 p,.int .i64 k] 33))
 have HX0:=hid (runBox_alloc (runBox_at w rfl (.slice o1 G.length c1) p k st) (.cells #[.slice o2 G.length c2,.int .i64 p,.int .i64 k] 33))
 have HY0:=hid (rrBox_at (w.alloc (.cells #[.slice o1 G.length c1,.int .i64 p,.int .i64 k,.int .i64 st] 28)) (b:=w.heap.size+1) (by simp) (.slice o2 G.length c2) p k)
 have SC:=hid (rsame_l o1 o2 c1 c2 G G _ (h1.kept HB0.out) (h2.kept HB0.out) hl hl)
 rw [show decide (G=G)=true by simp] at SC
 have hp:(p == p)=true:=by simp
 have hk:(k == k)=true:=by simp
 have hz:=runBox_lt HX0.out
 have hz2:=rrBox_lt HY0.out
 clear h1 h2 hl
 obtain ⟨x0,x1,x2,x3⟩:=runBox_cells HX0.out
 obtain ⟨y0,y1,y2⟩:=rrBox_cells HY0.out
 go_enter Tryz.func14,Tryz.ntmps14
 go_wp2_with fail
 refine SC.out.mono ?_
 rintro e w2 ⟨rfl,hb⟩
 have HB2:=hid (HB0.out.trans (hb.mono HB0.out.size))
 clear x0 x1 x2 x3 y0 y1 y2
 obtain ⟨x0,x1,x2,x3⟩:=runBox_cells (runBox_below HX0.out hb hz)
 obtain ⟨y0,y1,y2⟩:=rrBox_cells (rrBox_below HY0.out hb hz2)
 clear hb
 go_wp2
 go_ret
 exact ⟨rfl,HB2.out⟩
end Ne
end Go.Proofs.YtmikbkggjlbbnaaGreat
namespace Go.Proofs.YtmikbkggjlbbnaaGreat
open Go.Joins Go.ChangeShapes Go.WideShapes Go.RowKit Go.Deep
set_option linter.unusedVariables false
namespace Ne
section
variable {H:Type} {enc:TypeId × Value→H} {P:Program} {w:World} {base:Nat} {spare:Nat→Bool} {held:Bool}
theorem open_slice_fields {t e:TypeId} {fs:Array Field} {fuel:Nat} {cs:List Value} {x:DataW H × List MemPlace} (ht:P.underlying t=some (.slice e)) (he:P.underlying e=some (.struct fs))
  (hone:oneCellFields P fs=true) (hC:P.cellsOf e=fs.size) (h:DataW.trod enc P w base spare held fuel t cs=some x) :
  cs=[.slice none 0 0] ∨
  ∃ (a:Addr) (len cap:Nat),cs=[.slice (some a) len cap]∧len≤cap∧cap≤maxLen ∧
   ∀ i,i<len→∀ (j:Nat) (f:Field),fs[j]? = some f→∃ (v:Value) (y:DataW H × List MemPlace) (n:Nat),w.cell? (a.add (i*fs.size+j))=some v∧DataW.trod enc P w base spare held n f.type [v]=some y:=by
 rcases open_slice ht h with h0 | ⟨a,len,cap,m,n,D,Pl,hcs,hb,hl,hm,hmm,hx,hi⟩
 ·exact .inl h0.1
 ·refine .inr ⟨a,len,cap,hcs,hl,hm,fun i him j f hj=>?_⟩
  obtain ⟨cs',hc,ht'⟩:=hi i (by rw [hmm];split <;> omega)
  rw [hC] at hc
  obtain ⟨ys,n',hn',hy,hlen,hyl,hf⟩:=DataW.trod_struct he ht'
  obtain ⟨_,hcl,hat⟩:=World.cells?_some hc
  obtain ⟨ho,hk⟩:=hone_of hone j f hj
  have hjl:j<fs.size:=(Array.getElem?_eq_some_iff.1 hj).1
  have hcell:=hat j hjl
  have hv:cs'[j]? = some (cs'[j]'(by omega)):=List.getElem?_eq_getElem (by omega)
  have h1:=hf j f hj
  rw [ho,hk] at h1
  have hone':(cs'.drop j).take 1=[cs'[j]'(by omega)]:=by
   rw [List.drop_eq_getElem_cons (by omega)]
   rfl
  rw [hone'] at h1
  have hys:ys[j]? = some (ys[j]'(by omega)):=List.getElem?_eq_getElem (by omega)
  refine ⟨_,_,n',?_,h1.trans hys⟩
  rw [← Go.Deep.add_add,hcell,hv]
end
end Ne
end Go.Proofs.YtmikbkggjlbbnaaGreat
