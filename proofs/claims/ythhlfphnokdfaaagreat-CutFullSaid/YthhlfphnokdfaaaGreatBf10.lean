/-
  Car, Ctb
-/
import Derived.Test.YthhlfphnokdfaaaGreatBf9
import Derived.Test.YthhlfphnokdfaaaGreatBf6
set_option linter.unusedVariables false
set_option linter.unusedSimpArgs false
set_option maxRecDepth 100000
set_option maxHeartbeats 4000000
namespace Go.Proofs.YthhlfphnokdfaaaGreat
open Go.ChangeShapes Go.WideShapes Go.ChangeAt Go.RowKit
open Lib (hid)
namespace Ne
theorem arcbox_new (w:World) (fr tu ca:Int):(w.alloc (.cells #[.int .i64 fr,.int .i64 tu,.int .i64 ca] 51)).heap[w.heap.size]? = some (.cells #[.int .i64 fr,.int .i64 tu,.int .i64 ca] 51 (0,0)):=by
 show (w.heap.push _)[w.heap.size]? = _;simp
theorem arcbox_cells {w w2:World} {b:Nat} {fr tu ca:Int} (h:w.heap[b]? = some (.cells #[.int .i64 fr,.int .i64 tu,.int .i64 ca] 51 (0,0))) (hb:Below w.heap.size w w2) :
  w2.cell? ⟨b,0,none⟩=some (.int .i64 fr)∧w2.cell? ⟨b,1,none⟩=some (.int .i64 tu)∧w2.cell? ⟨b,2,none⟩=some (.int .i64 ca):=by
 have h2:=hb.block b (Rw.lt_of_heap h)
 rw [h] at h2
 simp [World.cell?,h2]
theorem arcs_any (n:Net) (ao:Option Addr) (cap:Nat) (so:Option Addr) (sc:Nat) (S:List Int) (w:World) (hr:ARow w ao n.l) (hs:IRow w so S) (hl:n.l.length≤1000000) (hok:∀ a∈n.l,in64 a.cap) :
  Calls Tryz.prog 20 #[encN n ao cap,.slice so S.length sc] w fun e w'=>∃ o c,e=.returned (.tuple #[.slice o (arcsV n S).length c,.int .i64 (cutE n S)])∧OwnI w' w.heap.size (.slice o (arcsV n S).length c) (arcsV n S)∧Below w.heap.size w w':=by
 have MC:=hid (fun w' h1 h2=>mark_any n ao cap so sc S w' h1 h2 hl hok)
 have HB0:=hid ((Below.refl w.heap.size w).alloc (Nat.le_refl _) (.cells #[.int .i64 n.n,.int .i64 n.s,.int .i64 n.t,.slice ao n.l.length cap] 27))
 have HN0:=hid (netBox_new w n.n n.s n.t (.slice ao n.l.length cap))
 have HR:=hid (hr.kept HB0.out)
 have HS:=hid (hs.kept HB0.out)
 clear hs
 by_cases c0:cutE n S=0
 case neg =>
  have HV:=hid (arcsV_bad c0)
  have HBAD:=hid (show ∀ B w' v,Marked n S B w' v→v=.map none from fun B w' v h=>h.bad c0)
  generalize arcsV n S=V at *
  generalize hMK:Marked n S=MK at *
  clear hMK
  generalize cutE n S=ce at *
  obtain ⟨nn,ns,nt,l⟩:=n
  simp only at hr MC HB0 HR HN0 HS ⊢
  have c1':(ce == 0)=false:=by simpa using c0
  have c1n:(ce != 0)=true:=by simpa using c0
  obtain ⟨n0,n1,n2,n3⟩:=netBox_cells HN0.out
  clear hr c0 hok
  go_enter Tryz.func20,Tryz.ntmps20
  go_wp2_with fail
  refine (MC.out _ HR.out HS.out).mono ?_
  rintro e w1 ⟨v,rfl,hm,hb⟩
  obtain rfl:=HBAD.out _ _ _ hm
  have HB1:=hid (HB0.out.trans (hb.mono HB0.out.size))
  clear hb hm
  go_wp2
  go_ret2
  exact ⟨none,0,by rw [HV.out];rfl,by rw [HV.out];exact Rw.own_nil _ _,HB1.out⟩
 obtain ⟨ck,-,-,-⟩:=cutE_ok c0
 have hR:=right_of ck
 have HV:=hid (arcsV_ok c0)
 have HGOOD:=hid (show ∀ B w' v,Marked n S B w' v→∃ b k,v=.map (some b)∧B≤b∧MkBox w' b k fun x=>hasL S (x:Int) from fun B w' v h=>h.good c0)
 rw [c0] at MC ⊢
 rw [HV.out]
 have HEND:=hid (fun (j:Nat) (h:j<n.l.length)=>show (1≤(arcAt n.l j).fr∧(arcAt n.l j).fr≤500)∧1≤(arcAt n.l j).to∧(arcAt n.l j).to≤500 by
  have h1:=hR.fr0 j h;have h2:=hR.fr1 j h;have h3:=hR.to0 j h;have h4:=hR.to1 j h;have:=hR.n1;omega)
 clear HV c0 ck hR
 generalize hMK:Marked n S=MK at *
 clear hMK
 have HOL:=hid (over_len n.l S)
 have HO0:=hid (show overTo n.l S 0=[] from rfl)
 have HOS:=hid (show ∀ j,overTo n.l S (j+1)=overTo n.l S j ++ if hasL S (arcAt n.l j).fr=true∧hasL S (arcAt n.l j).to=false then [(j:Int)] else [] from fun _=>rfl)
 generalize overTo n.l S=OV at *
 obtain ⟨nn,ns,nt,l⟩:=n
 simp only at hr MC HB0 HR HN0 HS HEND HOL HOS hl ⊢
 have HR0:=hid hr
 clear hr hok
 obtain ⟨n0,n1,n2,n3⟩:=netBox_cells HN0.out
 go_enter Tryz.func20,Tryz.ntmps20
 go_wp2_with fail
 refine (MC.out _ HR.out HS.out).mono ?_
 rintro e w1 ⟨v,rfl,hm,hb⟩
 obtain ⟨b,k,rfl,hbb,hmk⟩:=HGOOD.out _ _ _ hm
 have HB1:=hid (HB0.out.trans (hb.mono HB0.out.size))
 have HM1:=hid hmk
 have HN1:=hid (netBox_below HN0.out hb (netBox_lt HN0.out))
 clear hb hm hmk n0 n1 n2 n3 MC HN0 HR
 obtain ⟨n0,n1,n2,n3⟩:=netBox_cells HN1.out
 go_wp2
 clear n0 n1 n2 n3
 go_loopw [8,23] (fun y i wr=>∃ j:Nat,i=.int .i64 j∧j≤l.length∧Hid (OwnI wr w.heap.size y (OV j))∧Hid (MkBox wr b k fun x=>hasL S (x:Int))∧Hid (Below w.heap.size w wr)) (fun _ i _=>l.length-(intOf i).toNat)
 case atStart=>exact ⟨0,rfl,Nat.zero_le _,hid (by rw [HO0.out];exact Rw.own_nil _ _),HM1,HB1⟩
 case round =>
  obtain ⟨j,rfl,hj,HO,HMW,HBW⟩:=hrel
  by_cases hlt:j<l.length
  ·obtain ⟨b9,off,rfl,hb9,c0,c1,c2⟩:=arow_cell (HR0.out.kept HBW.out) hlt
   obtain ⟨⟨f0,f1⟩,t0,t1⟩:=HEND.out j hlt
   have HSJ:=hid (HOS.out j)
   obtain ⟨u,hu⟩:∃ u:Nat,(arcAt l j).fr=(u:Int):=⟨(arcAt l j).fr.toNat,by omega⟩
   obtain ⟨v,hv⟩:∃ v:Nat,(arcAt l j).to=(v:Int):=⟨(arcAt l j).to.toNat,by omega⟩
   rw [hu] at c0 HSJ f0 f1
   rw [hv] at c1 HSJ t0 t1
   clear hu hv
   generalize (arcAt l j).cap=ca at *
   have hji:(j:Int)<(l.length:Int):=by omega
   have hj0:(0:Int)≤(j:Int):=by omega
   have HB2:=hid (HBW.out.alloc HBW.out.size (.cells #[.int .i64 (u:Int),.int .i64 (v:Int),.int .i64 ca] 51))
   have HM2:=hid (HMW.out.alloc (.cells #[.int .i64 (u:Int),.int .i64 (v:Int),.int .i64 ca] 51))
   have HO2:=hid (Rw.own_alloc HO.out (.cells #[.int .i64 (u:Int),.int .i64 (v:Int),.int .i64 ca] 51))
   have HH1:=hid (has_any _ b k (fun x=>hasL S (x:Int)) u HM2.out (by omega))
   have HAB:=hid (arcbox_new wr (u:Int) (v:Int) ca)
   cases hfr:hasL S (u:Int)
   ·rw [hfr] at HH1
    have HSE:=hid (show OV (j+1)=OV j by rw [HSJ.out,if_neg (by simp [hfr]),List.append_nil])
    clear hfr HOS HSJ HEND
    go_wp2_with fail
    refine HH1.out.mono ?_
    rintro e w5 ⟨rfl,hb⟩
    have HB5:=hid (HB2.out.trans (hb.mono HB2.out.size))
    have HM5:=hid (HM2.out.below hb)
    have HO5:=hid (Rw.own_below HO2.out hb)
    clear hb c0 c1 c2
    go_wp2
    go_roundw
    case rel=>exact ⟨j+1,by go_num,by omega,hid (by rw [HSE.out];exact HO5.out),HM5,HB5⟩
    case measure=>simp [intOf];omega
   ·rw [hfr] at HH1
    go_wp2_with fail
    refine HH1.out.mono ?_
    rintro e w5 ⟨rfl,hb⟩
    have HB5:=hid (HB2.out.trans (hb.mono HB2.out.size))
    have HM5:=hid (HM2.out.below hb)
    have HO5:=hid (Rw.own_below HO2.out hb)
    obtain ⟨a0,a1,a2⟩:=arcbox_cells HAB.out hb
    have HH2:=hid (has_any _ b k (fun x=>hasL S (x:Int)) v HM5.out (by omega))
    clear hb c0 c1 c2
    cases hto:hasL S (v:Int)
    ·rw [hto] at HH2
     have HSE:=hid (show OV (j+1)=OV j ++ [(j:Int)] by rw [HSJ.out,if_pos ⟨hfr,hto⟩])
     clear hfr hto HOS HSJ HEND
     go_wp2_with fail
     refine HH2.out.mono ?_
     rintro e w6 ⟨rfl,hb⟩
     have HB6:=hid (HB5.out.trans (hb.mono HB5.out.size))
     have HM6:=hid (HM5.out.below hb)
     have HO6:=hid (Rw.own_alloc (Rw.own_below HO5.out hb) (.cells #[.int .i64 (j:Int)] 3))
     have HR6:=hid (irow_one' w6 rfl (j:Int) 3)
     have HB7:=hid (HB6.out.alloc HB6.out.size (.cells #[.int .i64 (j:Int)] 3))
     have HM7:=hid (HM6.out.alloc (.cells #[.int .i64 (j:Int)] 3))
     have HLN:=hid (show (OV j).length + [(j:Int)].length≤1099511627776 by have:=HOL.out j;simp;omega)
     have HMB:=hid (ownI_map HO6.out HM7.out)
     clear hb a0 a1 a2
     go_wp2_with (at_builtin;refine Rw.app elemI encI_len encI_one rfl (.tmp 39) (.tmp 41) rfl w.heap.size _ (OV j) rfl HO6.out (some ⟨w6.heap.size,0,none⟩) 1 [(j:Int)] rfl ?hnn HR6.out HLN.out ?hB ?_;(case hnn=>(intro h;cases h));(case hB=>(exact HB7.out.size));intro v8 w8 hown8 hgr8;rw [← HSE.out] at hown8;have HO8:=hid hown8;have HB8:=hid (HB7.out.grown hgr8 HB7.out.size (Rw.own_block HO6.out));have HM8:=hid (HM7.out.kept hgr8 HMB.out);clear hown8 hgr8)
     go_roundw
     case rel=>exact ⟨j+1,by go_num,by omega,HO8,HM8,HB8⟩
     case measure=>simp [intOf];omega
    ·rw [hto] at HH2
     have HSE:=hid (show OV (j+1)=OV j by rw [HSJ.out,if_neg (by simp [hto]),List.append_nil])
     clear hfr hto HOS HSJ HEND
     go_wp2_with fail
     refine HH2.out.mono ?_
     rintro e w6 ⟨rfl,hb⟩
     have HB6:=hid (HB5.out.trans (hb.mono HB5.out.size))
     have HM6:=hid (HM5.out.below hb)
     have HO6:=hid (Rw.own_below HO5.out hb)
     clear hb a0 a1 a2
     go_wp2
     go_roundw
     case rel=>exact ⟨j+1,by go_num,by omega,hid (by rw [HSE.out];exact HO6.out),HM6,HB6⟩
     case measure=>simp [intOf];omega
  ·have ej:j=l.length:=by omega
   subst ej
   obtain ⟨o,c,hv,-⟩:=Rw.own_row encI_len HO.out
   subst hv
   clear hlt hj
   go_wp2
   go_ret2
   exact ⟨o,c,rfl,HO.out,HBW.out⟩
theorem capacity_any (n:Net) (ao:Option Addr) (cap:Nat) (so:Option Addr) (sc:Nat) (S:List Int) (w:World) (hr:ARow w ao n.l) (hs:IRow w so S) (hl:n.l.length≤1000000) (hok:∀ a∈n.l,in64 a.cap) :
  Calls Tryz.prog 14 #[encN n ao cap,.slice so S.length sc] w fun e w'=>e=.returned (.tuple #[.int .i64 (capV n S),.int .i64 (cutE n S)])∧Below w.heap.size w w':=by
 have AC:=hid (fun w' h1 h2=>arcs_any n ao cap so sc S w' h1 h2 hl hok)
 have HB0:=hid ((Below.refl w.heap.size w).alloc (Nat.le_refl _) (.cells #[.int .i64 n.n,.int .i64 n.s,.int .i64 n.t,.slice ao n.l.length cap] 27))
 have HN0:=hid (netBox_new w n.n n.s n.t (.slice ao n.l.length cap))
 have HR:=hid (hr.kept HB0.out)
 have HS:=hid (hs.kept HB0.out)
 have HVM:=hid (fun (k:Nat) (h:k<(arcsV n S).length)=>show ∃ r:Nat,amt (arcsV n S) k=(r:Int)∧r<n.l.length by
  have hm:amt (arcsV n S) k∈arcsV n S:=by rw [show amt (arcsV n S) k=(arcsV n S)[k] by simp [amt,h]];exact List.getElem_mem h
  have:=arcsV_mem hm
  exact ⟨(amt (arcsV n S) k).toNat,by omega,by omega⟩)
 have HVL:=hid (show (arcsV n S).length≤1000000 by have:=arcsV_len n S;omega)
 have HSU:=hid (fun (k:Nat) (h:k<(arcsV n S).length)=>sumV_succ (l:=n.l) h)
 have HSB:=hid (fun (k:Nat)=>sumV_bd n S k)
 have HS0:=hid (sumV_zero n.l (arcsV n S))
 have HSE:=hid (capV_sum n S)
 clear hs hr hok
 generalize capV n S=cv at *
 generalize hSM:sumV n.l (arcsV n S)=SM at *
 clear hSM
 generalize arcsV n S=V at *
 generalize cutE n S=ce at *
 obtain ⟨nn,ns,nt,l⟩:=n
 simp only at AC HB0 HR HN0 HS HVM HSU hl ⊢
 obtain ⟨n0,n1,n2,n3⟩:=netBox_cells HN0.out
 go_enter Tryz.func14,Tryz.ntmps14
 go_wp2_with fail
 refine (AC.out _ HR.out HS.out).mono ?_
 rintro e w1 ⟨o,c,rfl,ho,hb⟩
 have HB1:=hid (HB0.out.trans (hb.mono HB0.out.size))
 have HN1:=hid (netBox_below HN0.out hb (netBox_lt HN0.out))
 have HR1:=hid (HR.out.kept hb)
 have HO1:=hid (own_irow ho)
 clear hb ho n0 n1 n2 n3 AC HN0 HR HB0
 obtain ⟨n0,n1,n2,n3⟩:=netBox_cells HN1.out
 go_wp2
 go_loop [8,19] (fun y i=>∃ k:Nat,i=.int .i64 k∧k≤V.length∧y=.int .i64 (SM k)) (fun _ i=>V.length-(intOf i).toNat)
 case atStart=>exact ⟨0,rfl,Nat.zero_le _,by rw [HS0.out]⟩
 case round =>
  obtain ⟨k,rfl,hk,rfl⟩:=hrel
  have hvl:=HVL.out
  by_cases hlt:k<V.length
  ·obtain ⟨b8,off8,rfl,hb8,d0⟩:=irow_cell HO1.out hlt
   obtain ⟨r,hr,hrl⟩:=HVM.out k hlt
   obtain ⟨b9,off9,rfl,hb9,c0,c1,c2⟩:=arow_cell HR1.out hrl
   have HSK:=hid (HSU.out k hlt)
   rw [hr] at d0 HSK
   rw [Int.toNat_natCast] at HSK
   obtain ⟨s0,s1⟩:=HSB.out k
   obtain ⟨t0,t1⟩:=HSB.out (k+1)
   rw [HSK.out] at t0 t1
   clear hr c0 c1
   generalize (arcAt l r).cap=ca at *
   generalize hsm:SM k=sm at *
   have HSM:=hid hsm
   clear hsm
   have hki:(k:Int)<(V.length:Int):=by omega
   have hk0:(0:Int)≤(k:Int):=by omega
   have hri:(r:Int)<(l.length:Int):=by omega
   have hr0:(0:Int)≤(r:Int):=by omega
   have hw:IntKind.i64.wrap (sm+ca)=sm+ca:=by rw [IntKind.wrap_i64];omega
   go_wp2
   go_round
   case rel=>exact ⟨k+1,by go_num,by omega,by rw [HSK.out]⟩
   case measure=>simp [intOf];omega
  ·have ek:k=V.length:=by omega
   subst ek
   rw [HSE.out]
   clear hlt hk
   go_wp2
   go_ret2
   exact ⟨rfl,HB1.out⟩
end Ne
end Go.Proofs.YthhlfphnokdfaaaGreat
namespace Go.Proofs.YthhlfphnokdfaaaGreat
namespace Ne
theorem right_back {n:Net} (hR:Right n):Right (turnN n):=by
 have ha:∀ i,i<n.l.length→arcAt (n.l.map turnA) i=turnA (arcAt n.l i):=fun i hi=>arcAt_of (by rw [List.getElem?_map,at_arc hi];rfl)
 refine ⟨hR.n0,hR.n1,hR.t0,hR.t1,hR.s0,hR.s1,fun h=>hR.ne h.symm,by simpa [turnN] using hR.len,?_,?_,?_,?_,?_,?_⟩
 ·intro i hi;have hi:i<n.l.length:=by simpa [turnN] using hi
  show 1≤(arcAt (n.l.map turnA) i).fr;rw [ha i hi];exact hR.to0 i hi
 ·intro i hi;have hi:i<n.l.length:=by simpa [turnN] using hi
  show (arcAt (n.l.map turnA) i).fr≤n.n;rw [ha i hi];exact hR.to1 i hi
 ·intro i hi;have hi:i<n.l.length:=by simpa [turnN] using hi
  show 1≤(arcAt (n.l.map turnA) i).to;rw [ha i hi];exact hR.fr0 i hi
 ·intro i hi;have hi:i<n.l.length:=by simpa [turnN] using hi
  show (arcAt (n.l.map turnA) i).to≤n.n;rw [ha i hi];exact hR.fr1 i hi
 ·intro i hi;have hi:i<n.l.length:=by simpa [turnN] using hi
  show 0≤(arcAt (n.l.map turnA) i).cap;rw [ha i hi];exact hR.cap0 i hi
 ·have e:capS (n.l.map turnA) (n.l.map turnA).length=capS n.l n.l.length:=by
   unfold capS;rw [List.length_map]
   exact sumTo_congr fun i hi=>by rw [ha i hi];rfl
  show capS (n.l.map turnA) (n.l.map turnA).length≤_
  rw [e];exact hR.sum
theorem reach_exists {n:Net} (hR:Right n) (f:List Int) (x:Int):∃ M,IsReach n f x M:=by
 have hs0:=hR.s0
 have hs1:=hR.s1
 refine ⟨(List.range (n.n.toNat+1)).map fun v=>@decide (Rch n f x ((v:Nat):Int)) (Classical.propDecidable _),by simp,?_,fun i hi=>?_,fun r hr hx hm=>?_⟩
 ·rw [List.getD_eq_getElem?_getD,List.getElem?_map,List.getElem?_range (by omega)]
  simp only [Option.map_some,Option.getD_some,decide_eq_true_eq]
  rw [show ((n.s.toNat:Nat):Int)=n.s by omega];exact .base
 ·rw [List.getD_eq_getElem?_getD,List.getElem?_map] at hi
  rcases Nat.lt_or_ge i (n.n.toNat+1) with h | h
  ·rw [List.getElem?_range h] at hi;simpa using hi
  ·rw [List.getElem?_eq_none (by simpa using h)] at hi;simp at hi
 ·have h1:=trF_bd hR hr
  have h2:=trT_bd hR hr
  rw [List.getD_eq_getElem?_getD,List.getElem?_map,List.getElem?_range (by omega)] at hm ⊢
  simp only [Option.map_some,Option.getD_some,decide_eq_true_eq] at hm ⊢
  rw [show (((trF n.l r).toNat:Nat):Int)=trF n.l r by omega] at hm
  rw [show (((trT n.l r).toNat:Nat):Int)=trT n.l r by omega]
  exact .step hr hx hm
def behL (l:List Arc) (f:List Int) (v k:Nat):List Nat:=((List.range k).filter fun r=>decide (0<roomN l f r∧(trT l r).toNat=v)).map fun r=>(trF l r).toNat
theorem behL_zero (l:List Arc) (f:List Int) (v:Nat):behL l f v 0=[]:=rfl
theorem behL_hit {l:List Arc} {f:List Int} {v k:Nat} (h:0<roomN l f k) (h2:(trT l k).toNat=v):behL l f v (k+1)=behL l f v k ++ [(trF l k).toNat]:=by
 simp [behL,List.range_succ,h,h2]
theorem behL_miss {l:List Arc} {f:List Int} {v k:Nat} (h:¬ (0<roomN l f k∧(trT l k).toNat=v)):behL l f v (k+1)=behL l f v k:=by
 unfold behL
 rw [List.range_succ,List.filter_append,List.filter_cons_of_neg (by simpa using h),List.filter_nil,List.append_nil]
theorem behL_mem {l:List Arc} {f:List Int} {v k u:Nat}:u∈behL l f v k↔∃ r,r<k∧0<roomN l f r∧(trT l r).toNat=v∧(trF l r).toNat=u:=by
 simp only [behL,List.mem_map,List.mem_filter,List.mem_range,decide_eq_true_eq]
 constructor
 ·rintro ⟨r,⟨h1,h2,h3⟩,h4⟩;exact ⟨r,h1,h2,h3,h4⟩
 ·rintro ⟨r,h1,h2,h3,h4⟩;exact ⟨r,⟨h1,h2,h3⟩,h4⟩
theorem behL_len (l:List Arc) (f:List Int) (v k:Nat):(behL l f v k).length≤k:=by
 unfold behL;rw [List.length_map];exact Nat.le_trans (List.length_filter_le _ _) (by simp)
structure Bk (n:Net) (f:List Int) (B:List Bool) (way:List Nat) (u:Nat) (D:List Nat):Prop where
 len:B.length=n.n.toNat+1
 snk:B.getD n.t.toNat false=true
 sound:∀ i:Nat,B.getD i false=true→Rch (turnN n) f 1 (i:Int)
 cls:∀ r,r<2*n.l.length→1≤roomN n.l f r→B.getD (trT n.l r).toNat false=true→B.getD (trF n.l r).toNat false=true∨(trT n.l r).toNat∈way∨((trT n.l r).toNat=u∧(trF n.l r).toNat∈D)
 wayB:∀ v∈way,B.getD v false=true
 few:way.length+unmet B≤n.n.toNat+1
theorem bk_lt {n:Net} {f:List Int} {B:List Bool} {way:List Nat} {u:Nat} {D:List Nat} (h:Bk n f B way u D) {v:Nat} (hv:B.getD v false=true):v<n.n.toNat+1:=by
 rcases Nat.lt_or_ge v B.length with c | c
 ·rwa [h.len] at c
 ·rw [List.getD_eq_getElem?_getD,List.getElem?_eq_none c] at hv;simp at hv
theorem bk_start {n:Net} (hR:Right n) (f:List Int):Bk n f ((List.replicate (n.n.toNat+1) false).set n.t.toNat true) [n.t.toNat] 0 []:=by
 have h0:=hR.t0
 have h1:=hR.t1
 have ht:n.t.toNat<(List.replicate (n.n.toNat+1) false).length:=by simp;omega
 have hg:=fun j=>getD_set _ n.t.toNat j ht
 have hz:∀ j,(List.replicate (n.n.toNat+1) false).getD j false=false:=fun j=>by
  rw [List.getD_eq_getElem?_getD,List.getElem?_replicate];split <;> rfl
 refine ⟨by simp,by rw [hg,if_pos rfl],fun i hi=>?_,fun r hr hx hm=>?_,fun v hv=>?_,?_⟩
 ·rw [hg,hz] at hi
  by_cases e:i=n.t.toNat
  ·rw [show (i:Int)=n.t by omega];exact .base (n:=turnN n)
  ·rw [if_neg e] at hi;cases hi
 ·rw [hg,hz] at hm
  by_cases e:(trT n.l r).toNat=n.t.toNat
  ·exact .inr (.inl (by simp [e]))
  ·rw [if_neg e] at hm;cases hm
 ·simp at hv;subst hv;rw [hg,if_pos rfl]
 ·have h3:=unmet_set ht (hz _)
  have h4:unmet (List.replicate (n.n.toNat+1) false)≤n.n.toNat+1:=by
   unfold unmet;have:=List.countP_le_length (p:=fun b=>!b) (l:=List.replicate (n.n.toNat+1) false);simpa using this
  simp only [List.length_singleton];omega
theorem bk_pop {n:Net} {f:List Int} {B:List Bool} {W0:List Nat} {u:Nat} (h:Bk n f B (W0 ++ [u]) 0 []):Bk n f B W0 u (behL n.l f u (2*n.l.length)):=by
 refine ⟨h.len,h.snk,h.sound,fun r hr hx hm=>?_,fun v hv=>h.wayB v (List.mem_append_left _ hv),by have:=h.few;simp at this;omega⟩
 rcases h.cls r hr hx hm with h1 | h1 | ⟨_,h1⟩
 ·exact .inl h1
 ·rcases List.mem_append.1 h1 with h2 | h2
  ·exact .inr (.inl h2)
  ·simp at h2;exact .inr (.inr ⟨h2,behL_mem.2 ⟨r,hr,by omega,h2,rfl⟩⟩)
 ·simp at h1
theorem bk_skip {n:Net} {f:List Int} {B:List Bool} {way:List Nat} {u v:Nat} {D:List Nat} (h:Bk n f B way u (v :: D)) (hv:B.getD v false=true):Bk n f B way u D:=by
 refine ⟨h.len,h.snk,h.sound,fun r hr hx hm=>?_,h.wayB,h.few⟩
 rcases h.cls r hr hx hm with h1 | h1 | ⟨h1,h2⟩
 ·exact .inl h1
 ·exact .inr (.inl h1)
 ·rcases List.mem_cons.1 h2 with h3 | h3
  ·rw [h3];exact .inl hv
  ·exact .inr (.inr ⟨h1,h3⟩)
theorem bk_put {n:Net} (hR:Right n) {f:List Int} {B:List Bool} {way:List Nat} {u v:Nat} {D:List Nat} (h:Bk n f B way u (v :: D)) (hv:B.getD v false=false) (hu:B.getD u false=true) (hm:v∈behL n.l f u (2*n.l.length)) :
  Bk n f (B.set v true) (way ++ [v]) u D∧unmet (B.set v true)+1=unmet B∧v<B.length:=by
 obtain ⟨r,hr,hx,ht,hf⟩:=behL_mem.1 hm
 have hb:=trF_bd hR hr
 have hb2:=trT_bd hR hr
 have hvl:v<B.length:=by rw [h.len];omega
 have hg:=fun j=>getD_set B v j hvl
 have hun:=unmet_set hvl hv
 have hup:∀ j,B.getD j false=true→(B.set v true).getD j false=true:=fun j hj=>by rw [hg];split <;> simp_all
 refine ⟨⟨by simp [h.len],hup _ h.snk,fun i hi=>?_,fun q hq hxq hmq=>?_,fun w hw=>?_,?_⟩,hun,hvl⟩
 ·rw [hg] at hi
  by_cases e:i=v
  ·obtain ⟨e1,e2,e3⟩:=tr_turn (f:=f) hr
   have h1:=h.sound u hu
   have:(i:Int)=trT (turnN n).l r:=by show _=trT (n.l.map turnA) r;rw [e2];omega
   rw [this]
   refine .step (by simpa [turnN] using hr) (by show 1≤roomN (n.l.map turnA) f r;rw [e3];omega) ?_
   show Rch (turnN n) f 1 (trF (n.l.map turnA) r)
   rw [e1,show trT n.l r=(u:Int) by omega];exact h1
  ·rw [if_neg e] at hi;exact h.sound i hi
 ·rw [hg] at hmq
  by_cases e:(trT n.l q).toNat=v
  ·exact .inr (.inl (by simp [e]))
  ·rw [if_neg e] at hmq
   rcases h.cls q hq hxq hmq with h1 | h1 | ⟨h1,h2⟩
   ·exact .inl (hup _ h1)
   ·exact .inr (.inl (List.mem_append_left _ h1))
   ·rcases List.mem_cons.1 h2 with h3 | h3
    ·exact .inl (by rw [hg,if_pos h3])
    ·exact .inr (.inr ⟨h1,h3⟩)
 ·rcases List.mem_append.1 hw with h1 | h1
  ·exact hup _ (h.wayB w h1)
  ·simp at h1;subst h1;rw [hg,if_pos rfl]
 ·have:=h.few;simp;omega
theorem bk_done {n:Net} {f:List Int} {B:List Bool} {way:List Nat} {u:Nat} (h:Bk n f B way u []):Bk n f B way 0 []:=by
 refine ⟨h.len,h.snk,h.sound,fun r hr hx hm=>?_,h.wayB,h.few⟩
 rcases h.cls r hr hx hm with h1 | h1 | ⟨h1,h2⟩
 ·exact .inl h1
 ·exact .inr (.inl h1)
 ·simp at h2
theorem bk_end {n:Net} {f:List Int} {B:List Bool} (h:Bk n f B [] 0 []):IsReach (turnN n) f 1 B:=by
 refine ⟨h.len,h.snk,h.sound,fun r hr hx hm=>?_⟩
 have hr':r<2*n.l.length:=by simpa [turnN] using hr
 obtain ⟨e1,e2,e3⟩:=tr_turn (f:=f) hr'
 have hx':1≤roomN n.l f r:=by rw [← e3];exact hx
 have hm':B.getD (trT n.l r).toNat false=true:=by rw [← e1];exact hm
 show B.getD (trT (n.l.map turnA) r).toNat false=true
 rw [e2]
 rcases h.cls r hr' hx' hm' with h1 | h1 | ⟨h1,h2⟩
 ·exact h1
 ·simp at h1
 ·simp at h2
end Ne
end Go.Proofs.YthhlfphnokdfaaaGreat
