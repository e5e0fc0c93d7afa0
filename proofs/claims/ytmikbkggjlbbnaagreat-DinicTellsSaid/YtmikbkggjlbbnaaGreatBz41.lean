/-
  Gwk, Grm, Grs
-/
import Derived.Test.YtmikbkggjlbbnaaGreatBz40
import Derived.Test.YtmikbkggjlbbnaaGreatBz29
import Derived.Test.YtmikbkggjlbbnaaGreatBz25
import Derived.Test.YtmikbkggjlbbnaaGreatBz4
import Derived.WalkMore
import Derived.Test.YtmikbkggjlbbnaaGreatBz27
namespace Go.Proofs.YtmikbkggjlbbnaaGreat
open Go.ChangeShapes Go.WideShapes Go.ChangeAt Go.RowKit
open Lib (hid)
set_option linter.unusedVariables false
set_option linter.unusedSimpArgs false
namespace Ne
set_option maxRecDepth 100000 in
set_option maxHeartbeats 4000000 in
theorem rwalks_any (n:Net) (ao:Option Addr) (cap:Nat) (wo:Option Addr) (wc:Nat) (W:List Int) (w:World) (hr:ARow w ao n.l) (hw:IRow w wo W) (hR:Right n) (hW:W.length≤10000000) (h64:∀ x∈W,in64 x) :
  Calls Tryz.prog 54 #[encN n ao cap,.slice wo W.length wc] w fun e w'=>e=.returned (.bool (isWalk n W))∧Below w.heap.size w w':=by
 have hl:n.l.length≤1000000:=by have:=hR.len;omega
 have HEN:=hid (fun (x:Int) (h:in64 x) w' h1=>rends_any n ao cap x w' h1 hl h)
 have HBZ:=hid (show ∀ k u,k<W.length→walkAt n.l n.s (W.take k)=some u→enF n.l (amt W k)=u→enT n.l (amt W k)≠0 from fun k u hk h e=>by
  have h1:=(walkAt_pos hR (W:=W) (by omega) h).1
  obtain ⟨r,hr,hr2⟩:=enF_some hR (r:=amt W k) (by omega)
  have:=trT_bd hR hr2
  rw [hr,enT_in hr2];omega)
 have HEM:=hid (show W.length=0→isWalk n W=false from fun h=>by
  obtain rfl:=List.length_eq_zero_iff.1 h
  have:=hR.ne
  simp [isWalk,walkAt,this])
 have HT:=hid (walk_tells n W)
 obtain ⟨WA,hWA⟩:∃ WA,WA=fun k=>walkAt n.l n.s (W.take k):=⟨_,rfl⟩
 rw [← hWA] at HT
 simp only [show ∀ k,walkAt n.l n.s (W.take k)=WA k from fun k=>by rw [hWA]] at HBZ
 clear hWA
 have H64:=hid (show ∀ k,k<W.length→in64 (amt W k) from fun k hk=>h64 _ (by have:=at_amt hk;exact List.mem_of_getElem? this))
 have HZ:=hid HT.out.zero
 have HY:=hid HT.out.yes
 have HNO:=hid HT.out.no
 have HA:=hid HT.out.all
 clear HT h64 hR
 generalize isWalk n W=R at *
 generalize hE1:enF n.l=EF at *
 generalize hE2:enT n.l=ET at *
 clear hE1 hE2
 obtain ⟨nn,ns,nt,l⟩:=n
 simp only at hr hl HEN HZ HA ⊢
 have HB0:=hid ((Below.refl w.heap.size w).alloc (Nat.le_refl _) (.cells #[.int .i64 nn,.int .i64 ns,.int .i64 nt,.slice ao l.length cap] 24))
 have HN0:=hid (netBox_new w nn ns nt (.slice ao l.length cap))
 have HRX:=hid hr
 have HW:=hid hw
 clear hr hw
 obtain ⟨n0,n1,n2,n3⟩:=netBox_cells HN0.out
 go_enter Tryz.func54,Tryz.ntmps54
 go_wp2
 clear n0 n1 n2 n3
 go_loopw [5,6] (fun s i wr=>∃ (u:Int) (k:Nat),s=.int .i64 u∧i=.int .i64 k∧k≤W.length∧Hid (WA k=some u)∧Hid (Below w.heap.size w wr)∧Hid (NetBox wr w.heap.size nn ns nt (.slice ao l.length cap))) (fun _ i _=>W.length-(intOf i).toNat)
 case atStart=>exact ⟨_,0,rfl,rfl,Nat.zero_le _,HZ,HB0,HN0⟩
 case round =>
  obtain ⟨u,k,rfl,rfl,hk,HU,HBW,HNW⟩:=hrel
  obtain ⟨n0,n1,n2,n3⟩:=netBox_cells HNW.out
  by_cases hlt:k<W.length
  ·obtain ⟨b,off,rfl,hbk,d0⟩:=irow_cell (HW.out.kept HBW.out) hlt
   have EN:=hid (HEN.out _ (H64.out k hlt))
   have HY1:=hid (HY.out k u hlt HU.out)
   have HN1:=hid (HNO.out k u hlt HU.out)
   have HZ1:=hid (HBZ.out k u hlt HU.out)
   generalize amt W k=x at *
   generalize EF x=p at *
   generalize ET x=q at *
   have hki:(k:Int)<(W.length:Int):=by omega
   have hk0:(0:Int)≤(k:Int):=by omega
   have hbl0:=netBox_lt HNW.out
   go_wp2
   have hS0:=(show (fun w'=>w'.cell? ⟨w.heap.size,0,none⟩=some (.int .i64 nn)∧w'.cell? ⟨w.heap.size,1,none⟩=some (.int .i64 ns)∧w'.cell? ⟨w.heap.size,2,none⟩=some (.int .i64 nt)∧w'.cell? ⟨w.heap.size,3,none⟩=some (.slice ao l.length cap)∧w'.cell? ⟨b,off+k,none⟩=some (.int .i64 x)) wr.drew from ⟨n0,n1,n2,n3,d0⟩)
   refine Rh.start (S:=(fun w'=>w'.cell? ⟨w.heap.size,0,none⟩=some (.int .i64 nn)∧w'.cell? ⟨w.heap.size,1,none⟩=some (.int .i64 ns)∧w'.cell? ⟨w.heap.size,2,none⟩=some (.int .i64 nt)∧w'.cell? ⟨w.heap.size,3,none⟩=some (.slice ao l.length cap)∧w'.cell? ⟨b,off+k,none⟩=some (.int .i64 x))) (by kernel_rfl) ?_
   refine Rh.tk (some 18) (i:=0) (v:=?_) rfl (Or.inl ⟨by rfl,?_⟩) hS0 ?_
   rotate_left
   ·intro w hSw
    go_simp
    try with_reducible rfl
   try simp only [Act.put,Rh.q1,Rh.q2,Rh.q3]
   refine Rh.tk (some 19) (i:=1) (v:=?_) rfl (Or.inl ⟨by rfl,?_⟩) hS0 ?_
   rotate_left
   ·intro w hSw
    go_simp
    try with_reducible rfl
   try simp only [Act.put,Rh.q1,Rh.q2,Rh.q3]
   refine Rh.tk (some 20) (i:=2) (v:=?_) rfl (Or.inl ⟨by rfl,?_⟩) hS0 ?_
   rotate_left
   ·intro w hSw
    go_simp
    try with_reducible rfl
   try simp only [Act.put,Rh.q1,Rh.q2,Rh.q3]
   refine Rh.tk (some 21) (i:=3) (v:=?_) rfl (Or.inl ⟨by rfl,?_⟩) hS0 ?_
   rotate_left
   ·intro w hSw
    go_simp
    try with_reducible rfl
   try simp only [Act.put,Rh.q1,Rh.q2,Rh.q3]
   refine Rh.tk (some 22) (i:=4) (v:=?_) rfl (Or.inl ⟨by rfl,?_⟩) hS0 ?_
   rotate_left
   ·intro w hSw
    go_simp
    try with_reducible rfl
   try simp only [Act.put,Rh.q1,Rh.q2,Rh.q3]
   refine Rh.step (i:=5) (by kernel_rfl) rfl fun K' hK'=>?_
   have HK:=hid hK'
   clear hK'
   go_simp
   refine (EN.out wr.drew (HRX.out.kept (below_drew HBW.out))).mono ?_
   rintro e w2 ⟨rfl,hb⟩
   have hS1:=(show (fun w'=>w'.cell? ⟨w.heap.size,0,none⟩=some (.int .i64 nn)∧w'.cell? ⟨w.heap.size,1,none⟩=some (.int .i64 ns)∧w'.cell? ⟨w.heap.size,2,none⟩=some (.int .i64 nt)∧w'.cell? ⟨w.heap.size,3,none⟩=some (.slice ao l.length cap)∧w'.cell? ⟨b,off+k,none⟩=some (.int .i64 x)) w2 from ⟨(hb.cell (p:=⟨w.heap.size,0,none⟩) hbl0).trans n0,(hb.cell (p:=⟨w.heap.size,1,none⟩) hbl0).trans n1,(hb.cell (p:=⟨w.heap.size,2,none⟩) hbl0).trans n2,(hb.cell (p:=⟨w.heap.size,3,none⟩) hbl0).trans n3,(hb.cell (p:=⟨b,off+k,none⟩) hbk).trans d0⟩)
   refine HK.out _ _ ⟨hS1,?_⟩
   clear HK K'
   try simp only [Act.put,Rh.q1,Rh.q2,Rh.q3]
   refine Rh.tk (some 17) (i:=6) (v:=?_) rfl (Or.inl ⟨by rfl,?_⟩) hS1 ?_
   rotate_left
   ·intro w hSw
    go_simp
    try with_reducible rfl
   try simp only [Act.put,Rh.q1,Rh.q2,Rh.q3]
   refine Rh.tk (some 24) (i:=7) (v:=?_) rfl (Or.inl ⟨by rfl,?_⟩) hS1 ?_
   rotate_left
   ·intro w hSw
    go_simp
    try with_reducible rfl
   try simp only [Act.put,Rh.q1,Rh.q2,Rh.q3]
   refine Rh.tk (some 25) (i:=8) (v:=?_) rfl (Or.inl ⟨by rfl,?_⟩) hS1 ?_
   rotate_left
   ·intro w hSw
    go_simp
    try with_reducible rfl
   try simp only [Act.put,Rh.q1,Rh.q2,Rh.q3]
   refine Rh.tk (some 7) (i:=9) (v:=?_) rfl (Or.inl ⟨by rfl,?_⟩) hS1 ?_
   rotate_left
   ·intro w hSw
    go_simp
    try with_reducible rfl
   try simp only [Act.put,Rh.q1,Rh.q2,Rh.q3]
   refine Rh.tk (some 8) (i:=10) (v:=?_) rfl (Or.inl ⟨by rfl,?_⟩) hS1 ?_
   rotate_left
   ·intro w hSw
    go_simp
    try with_reducible rfl
   try simp only [Act.put,Rh.q1,Rh.q2,Rh.q3]
   refine Rh.done (by kernel_rfl) ?_ _
   have HB2:=hid ((below_drew HBW.out).trans (hb.mono HBW.out.size))
   have HN2:=hid (netBox_below (show NetBox wr.drew w.heap.size nn ns nt (.slice ao l.length cap) from HNW.out) hb (netBox_lt HNW.out))
   clear hb n0 n1 n2 n3 d0 hS0 hS1
   by_cases c:p=u
   ·have c':(p == u)=true:=by simpa using c
    have cn:(p != u)=false:=by simpa using c
    have z':(q == 0)=false:=by simpa using HZ1.out c
    have HU2:=hid (HY1.out c)
    clear c
    go_wp2
    go_roundw
    case rel=>exact ⟨_,k+1,rfl,by go_num,by omega,HU2,HB2,HN2⟩
    case measure=>simp [intOf];omega
   ·have c':(p == u)=false:=by simpa using c
    have cn:(p != u)=true:=by simpa using c
    have HE:=hid (HN1.out c)
    clear c
    go_wp2
    go_ret
    exact ⟨retB HE.out.symm,HB2.out⟩
  ·have ek:k=W.length:=by omega
   subst ek
   have HE:=hid (HA.out u HU.out)
   by_cases c:0<W.length
   ·clear hlt hk
    generalize W.length=m at *
    have c':decide (0<m)=true:=by simpa using c
    have ci:decide ((0:Int)<(m:Int))=true:=by simp;omega
    go_wp2
    go_ret
    refine ⟨retB ?_,HBW.out⟩
    rw [HE.out]
    by_cases c:u=nt
    ·simp [c]
    ·simp [c]
   ·clear hlt hk
    have HE2:=hid (HEM.out (by omega))
    generalize W.length=m at *
    obtain rfl:m=0:=by omega
    clear c
    go_wp2
    go_ret
    exact ⟨retB HE2.out.symm,HBW.out⟩
set_option maxRecDepth 100000 in
set_option maxHeartbeats 4000000 in
theorem rpush_any (n:Net) (ao:Option Addr) (cap:Nat) (fo:Option Addr) (fc:Nat) (f:List Int) (wo:Option Addr) (wc:Nat) (W:List Int) (x:Int) (w:World) (hr:ARow w ao n.l) (hf:IRow w fo f) (hw:IRow w wo W) (hl:n.l.length≤1000000) (hW:W.length≤1000000) (h64:∀ x∈W,in64 x) (hx:in64 x) :
  Calls Tryz.prog 42 #[encN n ao cap,.slice fo f.length fc,.slice wo W.length wc,.int .i64 x] w fun e w'=>∃ v,e=.returned (.tuple #[v,.int .i64 (pushE n f W x)])∧OwnL w' w.heap.size v (pushV n f W x)∧Below w.heap.size w w':=by
 have CK:=hid (fun w' (h1:ARow w' ao n.l) (h2:IRow w' fo f)=>rchk_any n ao cap fo fc f w' h1 h2 hl)
 by_cases c0:chkF n f=0
 case neg =>
  have HE:=hid (pushE_bad (W:=W) (x:=x) c0)
  generalize pushE n f W x=PE at *
  generalize pushV n f W x=PV at *
  generalize chkF n f=c at *
  generalize f.length=fl at *
  obtain ⟨nn,ns,nt,l⟩:=n
  simp only at hr CK ⊢
  have HB0:=hid ((Below.refl w.heap.size w).alloc (Nat.le_refl _) (.cells #[.int .i64 nn,.int .i64 ns,.int .i64 nt,.slice ao l.length cap] 24))
  have c1':(c == 0)=false:=by simpa using c0
  have c1n:(c != 0)=true:=by simpa using c0
  have HR:=hid (hr.kept HB0.out)
  have HF:=hid (hf.kept HB0.out)
  clear hr hf c0
  go_enter Tryz.func42,Tryz.ntmps42
  go_wp2_with fail
  refine (CK.out _ HR.out HF.out).mono ?_
  rintro e w1 ⟨rfl,hb⟩
  have HB1:=hid (HB0.out.trans (hb.mono (by simp)))
  clear hb
  go_wp2
  go_ret2
  exact ⟨_,ret2v HE.out.1.symm,by rw [HE.out.2];exact Rw.own_nil _ _,HB1.out⟩
 have HNO:=hid (pushE_no (n:=n) (f:=f) (W:=W) (x:=x) c0)
 have HLO:=hid (pushE_low (n:=n) (f:=f) (W:=W) (x:=x) c0)
 have HGO:=hid (pushE_go (n:=n) (f:=f) (W:=W) (x:=x) c0)
 obtain ⟨-,RT,hfl,hwi⟩:=chkA_ok (chkF_ok c0).1
 rw [c0] at CK
 rw [hfl] at CK ⊢
 have IW:=hid (fun w' h1 h2=>rwalks_any n ao cap wo wc W w' h1 h2 RT (by omega) h64)
 have HGOT:=hid (fun (hk:isWalk n W=true)=>show 0<n.l.length from (walk_some RT hk).2)
 have HPT:=hid (fun (hk:isWalk n W=true) (hx1:1≤x)=>push_tells RT hfl hwi hx1 hk)
 obtain ⟨PA,hPA⟩:∃ PA,PA=fun k=>pushN n.l f x (W.take k):=⟨_,rfl⟩
 rw [← hPA] at HPT
 clear hPA
 have HCAP:=hid (fun i h=>cap_topR RT (i:=i) h)
 have HFLN:=hid hfl
 clear RT hfl hwi
 generalize pushE n f W x=PE at *
 generalize pushV n f W x=PV at *
 generalize hB:isWalk n W=B at *
 clear hB
 obtain ⟨nn,ns,nt,l⟩:=n
 simp only at hr hl CK IW HGOT HPT HCAP HFLN ⊢
 have HB0:=hid ((Below.refl w.heap.size w).alloc (Nat.le_refl _) (.cells #[.int .i64 nn,.int .i64 ns,.int .i64 nt,.slice ao l.length cap] 24))
 have HN0:=hid (netBox_new w nn ns nt (.slice ao l.length cap))
 have HR:=hid (hr.kept HB0.out)
 have HF:=hid (hf.kept HB0.out)
 have HW:=hid (hw.kept HB0.out)
 clear hr hf hw c0
 go_enter Tryz.func42,Tryz.ntmps42
 go_wp2_with fail
 refine (CK.out _ HR.out HF.out).mono ?_
 rintro e w1 ⟨rfl,hb⟩
 have HB1:=hid (HB0.out.trans (hb.mono (by simp)))
 have HN1:=hid (netBox_below HN0.out hb (by simp))
 have HR1:=hid (HR.out.kept hb)
 have HF1:=hid (HF.out.kept hb)
 have HW1:=hid (HW.out.kept hb)
 obtain ⟨n0,n1,n2,n3⟩:=netBox_cells HN1.out
 clear hb HB0 HN0 HR HF HW CK
 go_wp2_with fail
 refine (IW.out _ HR1.out HW1.out).mono ?_
 rintro e w2 ⟨rfl,hb⟩
 have HB2:=hid (HB1.out.trans (hb.mono HB1.out.size))
 have HN2:=hid (netBox_below HN1.out hb (netBox_lt HN1.out))
 have HR2:=hid (HR1.out.kept hb)
 have HF2:=hid (HF1.out.kept hb)
 have HW2:=hid (HW1.out.kept hb)
 clear hb n0 n1 n2 n3 HB1 HN1 HR1 HF1 HW1 IW
 rcases B with _ | _
 ·have HE:=hid (HNO.out rfl)
  go_wp2
  go_ret2
  exact ⟨_,ret2v HE.out.1.symm,by rw [HE.out.2];exact Rw.own_nil _ _,HB2.out⟩
 by_cases p:x<1
 ·have HE:=hid (HLO.out rfl p)
  have p':decide (x<1)=true:=by simpa using p
  clear p
  go_wp2
  go_ret2
  exact ⟨_,ret2v HE.out.1.symm,by rw [HE.out.2];exact Rw.own_nil _ _,HB2.out⟩
 have p':decide (x<1)=false:=by simpa using p
 have HE:=hid (HGO.out rfl (by omega))
 obtain ⟨n0,n1,n2,n3⟩:=netBox_cells HN2.out
 have PT:=hid (HPT.out rfl (by omega))
 have hl0:=HGOT.out rfl
 have HZ:=hid PT.out.zero
 have HTR:=hid PT.out.trk
 have HY:=hid PT.out.yes
 have HPN:=hid PT.out.no
 have HA:=hid PT.out.all
 have HFI:=hid PT.out.fine
 simp only at HTR HY HPN HA HFI
 clear PT HPT HGOT HNO HLO HGO
 generalize pushN l f x W=P at *
 obtain ⟨b1,off1,rfl,_,_⟩:=irow_cell HF2.out (i:=0) (by have:=HFLN.out;omega)
 have HR:=hid (HF2.out.kept ((Below.refl _ _).alloc (Nat.le_refl _) (.cells #[] 2)))
 have HL:=hid (show ([]:List Int).length+f.length≤1099511627776 by have:=HFLN.out;simp;omega)
 have HE8:=hid (show OwnL (w2.alloc (.cells #[] 2)) w2.heap.size (.slice (some ⟨w2.heap.size,0,none⟩) 0 0) [] from own_empty w2 w2.heap.size (Nat.le_refl _))
 have hv0:=Rw.own_block HE8.out
 have hx1:1≤x:=by omega
 have hx2:=hx.2
 have hW10:W.length≤1000000:=hW
 clear p n0 n1 n2 n3
 go_wp2_with (at_builtin;refine Rw.app elemL encI_len encI_one rfl (.tmp 26) (.tmp 27) rfl w2.heap.size _ ([]:List Int) rfl HE8.out (some ⟨b1,off1,none⟩) fc f ?hxx ?hnn HR.out HL.out ?hB ?_;(case hxx=>(rw [HFLN.out];rfl));(case hnn=>(intro h;cases h));(case hB=>(simp));intro v3 w3 hown3 hgr3;rw [List.nil_append] at hown3;have HB3:=hid (((Below.refl w2.heap.size w2).alloc (Nat.le_refl _) (.cells #[] 2)).grown hgr3 (by simp) hv0);have HO3:=hid hown3;clear hown3 hgr3;obtain ⟨g,c,hv3,hg0,hg1⟩:=ownL_row' HO3.out (by have:=HFLN.out;omega);rw [HFLN.out] at hv3;subst hv3)
 have HBX:=hid (HB2.out.trans (HB3.out.mono HB2.out.size))
 have HNX:=hid (netBox_below HN2.out HB3.out (netBox_lt HN2.out))
 have hbl2:=netBox_lt HN2.out
 have hgw:w.heap.size<g:=by omega
 have HOX:=hid (Rw.own_base HO3.out (B':=w.heap.size) HB2.out.size)
 have HRX:=hid (HR2.out.kept HB3.out)
 have HWX:=hid (HW2.out.kept HB3.out)
 have HQ3:=hid (show Below w2.heap.size w3 w3 from Below.refl _ _)
 have HRZ:=hid HR2.out
 have HWZ:=hid HW2.out
 clear hg1 HO3 HE8 hv0 HR HF2 HRX HWX
 go_loopw [12] (fun i wr=>∃ (k:Nat) (F:List Int),i=.int .i64 k∧k≤W.length∧Hid (PA k=some F)∧Hid (OwnL wr w.heap.size (.slice (some ⟨g,0,none⟩) l.length c) F)∧Hid (Below w.heap.size w wr)∧Hid (Below w2.heap.size w2 wr)∧Hid (NetBox wr w.heap.size nn ns nt (.slice ao l.length cap))) (fun i _=>W.length-(intOf i).toNat)
 case atStart=>exact ⟨0,f,rfl,Nat.zero_le _,HZ,HOX,HBX,HB3,HNX⟩
 case round =>
  obtain ⟨k,F,rfl,hk,HP,HOW,HBW,HBV,HNW⟩:=hrel
  obtain ⟨n0,n1,n2,n3⟩:=netBox_cells HNW.out
  by_cases hlt:k<W.length
  ·obtain ⟨b,off,rfl,hbl,d0⟩:=irow_cell (HWZ.out.kept HBV.out) hlt
   obtain ⟨r,hr1,hr2⟩:=HTR.out k hlt
   have HFF:=hid (HFI.out k F hk HP.out)
   have HY1:=hid (HY.out k F r hlt hr1 HP.out)
   have HN1:=hid (HPN.out k F r hlt hr1 HP.out)
   rw [hr1] at d0
   obtain ⟨q,hq⟩:∃ q,q=r / 2:=⟨_,rfl⟩
   have hql:q<l.length:=by omega
   have htd:=tdiv2 hq
   have htm:=tmod2 r
   obtain ⟨b3,off3,rfl,hbl3,a0,a1,a2⟩:=arow_cell (HRZ.out.kept HBV.out) hql
   have HO:=hid (show r % 2=1→put1 F x r=F.set q (amt F q-x)∧roomN l F r=amt F q from fun h=>⟨put1_odd hq h,room_odd' hq h⟩)
   have HEV:=hid (show ¬ r % 2=1→put1 F x r=F.set q (amt F q+x)∧roomN l F r=(arcAt l q).cap-amt F q from fun h=>⟨put1_even hq h,room_even' hq h⟩)
   have hca:=HCAP.out q hql
   obtain ⟨hF1,hF2⟩:=HFF.out.2 q hql
   have HQF:=hid (show q<F.length by have:=HFF.out.1;omega)
   obtain ⟨e0,e1⟩:=ownL_cell HOW.out HQF.out
   have HOP:=hid (fun y=>ownL_put HOW.out HQF.out y)
   generalize roomN l F r=ro at *
   generalize put1 F x r=F2 at *
   generalize amt F q=z at *
   generalize arcAt l q=a at *
   obtain ⟨fr,tu,ca⟩:=a
   simp only at a0 a1 a2 HEV hca hF2
   clear hr1 hq
   have hki:(k:Int)<(W.length:Int):=by omega
   have hk0:(0:Int)≤(k:Int):=by omega
   have hqi:(q:Int)<(l.length:Int):=by omega
   have hq0:(0:Int)≤(q:Int):=by omega
   by_cases c2:r % 2=1
   ·have hro:=(HO.out c2).2
    have HFE:=hid (HO.out c2).1
    have hm:(r:Int).tmod 2=1:=by rw [htm,c2];rfl
    clear htm c2
    by_cases c1:z<x
    ·have c1':decide (z<x)=true:=by simpa using c1
     have HPE:=hid (HN1.out (by omega))
     clear c1 hro
     go_wp2
     go_ret2
     refine ⟨_,ret2v ?_,?_,HBW.out⟩
     ·rw [HE.out.1,HPE.out];rfl
     ·rw [HE.out.2,HPE.out];exact Rw.own_nil _ _
    ·have c1':decide (z<x)=false:=by simpa using c1
     have HP2:=hid (HY1.out (by omega))
     have hwz:IntKind.i64.wrap (z-x)=z-x:=by rw [IntKind.wrap_i64];omega
     clear c1 hro
     go_wp2
     have HO3:=hid (HOP.out (z-x))
     rw [← HFE.out] at HO3
     have HB3:=hid (HBW.out.setCell (p:=⟨g,q,none⟩) (by show w.heap.size≤g;omega) (.int .i64 (z-x)))
     have HV3:=hid (HBV.out.setCell (p:=⟨g,q,none⟩) (by show w2.heap.size≤g;omega) (.int .i64 (z-x)))
     have HN3:=hid (netBox_other HNW.out (b2:=g) (o:=q) (v2:=.int .i64 (z-x)) (by omega))
     go_roundw
     case rel=>exact ⟨k+1,F2,by go_num,by omega,HP2,HO3,HB3,HV3,HN3⟩
     case measure=>simp [intOf];omega
   ·have hro:=(HEV.out c2).2
    have HFE:=hid (HEV.out c2).1
    have hm:(r:Int).tmod 2=0:=by rw [htm,show r % 2=0 by omega];rfl
    have hw1:IntKind.i64.wrap (ca-z)=ca-z:=by rw [IntKind.wrap_i64];omega
    clear htm c2
    by_cases c1:ca-z<x
    ·have c1':decide (ca-z<x)=true:=by simpa using c1
     have HPE:=hid (HN1.out (by omega))
     clear c1 hro
     go_wp2
     go_quiet (fail)
     go_wp2
     go_ret2
     refine ⟨_,ret2v ?_,?_,below_dn HBW.out _⟩
     ·rw [HE.out.1,HPE.out];rfl
     ·rw [HE.out.2,HPE.out];exact Rw.own_nil _ _
    ·have c1':decide (ca-z<x)=false:=by simpa using c1
     have HP2:=hid (HY1.out (by omega))
     have hwz:IntKind.i64.wrap (z+x)=z+x:=by rw [IntKind.wrap_i64];omega
     clear c1 hro
     go_wp2
     go_quiet (fail)
     go_wp2
     have HO3:=hid (HOP.out (z+x))
     rw [← HFE.out] at HO3
     have HO4:=hid (Rw.own_drewN HO3.out nq)
     have HB3:=hid ((below_dn HBW.out nq).setCell (p:=⟨g,q,none⟩) (by show w.heap.size≤g;omega) (.int .i64 (z+x)))
     have HV3:=hid ((below_dn HBV.out nq).setCell (p:=⟨g,q,none⟩) (by show w2.heap.size≤g;omega) (.int .i64 (z+x)))
     have HN3:=hid (netBox_other (netBox_drewN HNW.out nq) (b2:=g) (o:=q) (v2:=.int .i64 (z+x)) (by omega))
     go_roundw
     case rel=>exact ⟨k+1,F2,by go_num,by omega,HP2,HO4,HB3,HV3,HN3⟩
     case measure=>simp [intOf];omega
  ·have ek:k=W.length:=by omega
   subst ek
   have HEX:=hid (show P=some F by rw [← HA.out];exact HP.out)
   clear hlt hk
   go_wp2
   go_ret2
   refine ⟨_,ret2v ?_,?_,HBW.out⟩
   ·rw [HE.out.1,HEX.out];rfl
   ·rw [HE.out.2,HEX.out];exact HOW.out
end Ne
namespace Ne
set_option maxRecDepth 100000 in
set_option maxHeartbeats 2000000 in
theorem rroom_any (n:Net) (ao:Option Addr) (cap:Nat) (fo:Option Addr) (fc:Nat) (f:List Int) (w:World) (hr:ARow w ao n.l) (hf:IRow w fo f) (hl:n.l.length≤1000000) :
  Calls Tryz.prog 41 #[encN n ao cap,.slice fo f.length fc] w fun e w'=>∃ v,e=.returned (.tuple #[v,.int .i64 (chkF n f)])∧OwnL w' w.heap.size v (roomV n f)∧Below w.heap.size w w':=by
 have CK:=hid (fun w' (h1:ARow w' ao n.l) (h2:IRow w' fo f)=>rchk_any n ao cap fo fc f w' h1 h2 hl)
 by_cases c0:chkF n f=0
 case neg =>
  have HE:=hid (show roomV n f=[] by unfold roomV;rw [if_pos c0])
  generalize roomV n f=RV at *
  generalize chkF n f=c at *
  generalize f.length=fl at *
  obtain ⟨nn,ns,nt,l⟩:=n
  simp only at hr CK ⊢
  have HB0:=hid ((Below.refl w.heap.size w).alloc (Nat.le_refl _) (.cells #[.int .i64 nn,.int .i64 ns,.int .i64 nt,.slice ao l.length cap] 24))
  have c1':(c == 0)=false:=by simpa using c0
  have c1n:(c != 0)=true:=by simpa using c0
  have HR:=hid (hr.kept HB0.out)
  have HF:=hid (hf.kept HB0.out)
  clear hr hf c0
  go_enter Tryz.func41,Tryz.ntmps41
  go_wp2_with fail
  refine (CK.out _ HR.out HF.out).mono ?_
  rintro e w1 ⟨rfl,hb⟩
  have HB1:=hid (HB0.out.trans (hb.mono (by simp)))
  clear hb
  go_wp2
  go_ret2
  exact ⟨_,rfl,by rw [HE.out];exact Rw.own_nil _ _,HB1.out⟩
 have HRV:=hid (show roomV n f=roomL n.l f (2*n.l.length) by unfold roomV;rw [if_neg (by simpa using c0)])
 obtain ⟨-,RT,hfl,hwi⟩:=chkA_ok (chkF_ok c0).1
 rw [c0] at CK ⊢
 rw [hfl] at CK ⊢
 have HRM:=hid (fun (r:Nat) w' (h:r<2*n.l.length) h1 h2=>room_any n ao cap fo fc f r w' h1 h2 hl hfl h (room_64 RT hwi h))
 have HTR:=hid (fun w'=>tracks_any n ao cap w' hl)
 have HRS:=hid (fun k=>roomL_succ n.l f k)
 have HRN:=hid (fun k=>roomL_len n.l f k)
 have HR0:=hid (show roomL n.l f 0=[] from rfl)
 have HEV:=hid (fun i=>room_even n.l f i)
 have HOD:=hid (fun i=>room_odd n.l f i)
 have HR64:=hid (fun (r:Nat) (h:r<2*n.l.length)=>room_64 RT hwi h)
 have HFL:=hid hfl
 have hLL:=RT.len
 generalize roomV n f=RV at *
 generalize roomL n.l f=RL at *
 generalize roomN n.l f=RO at *
 clear c0 RT hwi hfl
 obtain ⟨nn,ns,nt,l⟩:=n
 simp only at hr hl CK HRM HTR HRV HEV HFL hLL HR64 ⊢
 have HB0:=hid ((Below.refl w.heap.size w).alloc (Nat.le_refl _) (.cells #[.int .i64 nn,.int .i64 ns,.int .i64 nt,.slice ao l.length cap] 24))
 have HN0:=hid (netBox_new w nn ns nt (.slice ao l.length cap))
 have HR:=hid (hr.kept HB0.out)
 have HF:=hid (hf.kept HB0.out)
 clear hr hf
 go_enter Tryz.func41,Tryz.ntmps41
 go_wp2_with fail
 refine (CK.out _ HR.out HF.out).mono ?_
 rintro e WX ⟨rfl,hb⟩
 have HBX:=hid (HB0.out.trans (hb.mono (by simp)))
 have HNX:=hid (netBox_below HN0.out hb (by simp))
 have HRX:=hid (HR.out.kept hb)
 have HFX:=hid (HF.out.kept hb)
 clear hb HB0 HN0 HR HF CK HTR HRM
 go_wp2
 go_loopw [7,8] (fun s i wr=>∃ (v:Value) (j:Nat),v=s∧i=.int .i64 j∧j≤l.length∧Hid (OwnL wr WX.heap.size v (RL (2*j)))∧Hid (Below WX.heap.size WX wr)) (fun _ i _=>l.length-(intOf i).toNat)
 case atStart=>exact ⟨_,0,rfl,rfl,Nat.zero_le _,hid (by rw [HR0.out];exact Rw.own_nil _ _),hid (Below.refl _ _)⟩
 case round =>
  obtain ⟨v,j,rfl,rfl,hj,HOW,HBW⟩:=hrel
  by_cases hlt:j<l.length
  ·have HNW:=hid (netBox_below HNX.out HBW.out (netBox_lt HNX.out))
   obtain ⟨n0,n1,n2,n3⟩:=netBox_cells HNW.out
   obtain ⟨b,off,rfl,hbl,c0,c1,c2⟩:=arow_cell (HRX.out) hlt
   obtain ⟨b2,off2,rfl,hbl2,d0⟩:=irow_cell (HFX.out) (i:=j) (by have:=HFL.out;omega)
   replace c2:=(HBW.out.cell (p:=⟨b,off+j*3+2,none⟩) hbl).trans c2
   replace d0:=(HBW.out.cell (p:=⟨b2,off2+j,none⟩) hbl2).trans d0
   have HEJ:=hid (HEV.out j)
   have HOJ:=hid (HOD.out j)
   have h64:=HR64.out (2*j) (by omega)
   rw [HEJ.out] at h64
   have HST:=hid (show RL (2*j+1)=RL (2*j) ++ [(arcAt l j).cap-amt f j] by rw [HRS.out,HEJ.out])
   have HST2:=hid (show RL (2*(j+1))=RL (2*j+1) ++ [amt f j] by rw [show 2*(j+1)=2*j+1+1 by omega,HRS.out,HOJ.out])
   have HLL:=hid (show ∀ x:Int,(RL (2*j)).length+([x]:List Int).length≤1099511627776∧(RL (2*j+1)).length+([x]:List Int).length≤1099511627776 from fun x=>by rw [HRN.out,HRN.out];simp;omega)
   clear c0 c1
   generalize amt f j=x at *
   generalize arcAt l j=a at *
   obtain ⟨fr,tu,ca⟩:=a
   simp only at c2 HST HEJ h64
   have hjj:(j:Int)<(l.length:Int):=by omega
   have hj0:(0:Int)≤(j:Int):=by omega
   have hsz:=HBW.out.size
   have hw1:IntKind.i64.wrap (ca-x)=ca-x:=by rw [IntKind.wrap_i64];unfold in64 at h64;omega
   clear h64 HEJ HOJ
   have hvb:=Rw.own_block HOW.out
   have hwl:w.heap.size<WX.heap.size:=netBox_lt HNX.out
   have HV0:=hid (show v.ownBlock≠some w.heap.size from fun h=>by have:=hvb _ h;omega)
   have HV1:=hid (show v.ownBlock≠some b from fun h=>by have:=hvb _ h;omega)
   have HV2:=hid (show v.ownBlock≠some b2 from fun h=>by have:=hvb _ h;omega)
   have HO1:=hid (show OwnL (wr.alloc (.cells #[.int .i64 (ca-x)] 2)).drew WX.heap.size v (RL (2*j)) from Rw.own_alloc HOW.out _)
   have HNW:=hid (show IRow (wr.alloc (.cells #[.int .i64 (ca-x)] 2)).drew (some ⟨wr.heap.size,0,none⟩) [ca-x] from irow_one' wr rfl (ca-x) _)
   have HLN:=hid (HLL.out (ca-x)).1
   have HBZ:WX.heap.size≤(wr.alloc (.cells #[.int .i64 (ca-x)] 2)).drew.heap.size:=by rw [size_allocd];omega
   have HGW:=hid (fun w' (hg:(wr.alloc (.cells #[.int .i64 (ca-x)] 2)).drew.grownBy w' v.ownBlock)=>(below_drew (HBW.out.alloc hsz (.cells #[.int .i64 (ca-x)] 2))).grown hg HBZ hvb)
   go_wp2
   have hS0:=(show (fun w'=>w'.cell? ⟨w.heap.size,3,none⟩=some (.slice (some ⟨b,off,none⟩) l.length cap)∧w'.cell? ⟨b,off+j*3+2,none⟩=some (.int .i64 ca)∧w'.cell? ⟨b2,off2+j,none⟩=some (.int .i64 x)) wr.drew from ⟨n3,c2,d0⟩)
   have hS1:=(show (fun w'=>w'.cell? ⟨w.heap.size,3,none⟩=some (.slice (some ⟨b,off,none⟩) l.length cap)∧w'.cell? ⟨b,off+j*3+2,none⟩=some (.int .i64 ca)∧w'.cell? ⟨b2,off2+j,none⟩=some (.int .i64 x)) (wr.alloc (.cells #[.int .i64 (ca-x)] 2)).drew from ⟨held_new n3,held_new c2,held_new d0⟩)
   refine Rh.start (S:=(fun w'=>w'.cell? ⟨w.heap.size,3,none⟩=some (.slice (some ⟨b,off,none⟩) l.length cap)∧w'.cell? ⟨b,off+j*3+2,none⟩=some (.int .i64 ca)∧w'.cell? ⟨b2,off2+j,none⟩=some (.int .i64 x))) (by kernel_rfl) ?_
   refine Rh.tk (some 21) (i:=0) (v:=?_) rfl (Or.inl ⟨by rfl,?_⟩) hS0 ?_
   rotate_left
   ·intro w hSw
    go_simp
    try with_reducible rfl
   try simp only [Act.put,Rh.q1,Rh.q2,Rh.q3]
   refine Rh.tk (some 22) (i:=1) (v:=?_) rfl (Or.inl ⟨by rfl,?_⟩) hS0 ?_
   rotate_left
   ·intro w hSw
    go_simp
    try with_reducible rfl
   try simp only [Act.put,Rh.q1,Rh.q2,Rh.q3]
   refine Rh.tk (some 23) (i:=2) (v:=?_) rfl (Or.inl ⟨by rfl,?_⟩) hS0 ?_
   rotate_left
   ·intro w hSw
    go_simp
    try with_reducible rfl
   try simp only [Act.put,Rh.q1,Rh.q2,Rh.q3]
   refine Rh.tk (some 24) (i:=3) (v:=?_) rfl (Or.inl ⟨by rfl,?_⟩) hS0 ?_
   rotate_left
   ·intro w hSw
    go_simp
    try with_reducible rfl
   try simp only [Act.put,Rh.q1,Rh.q2,Rh.q3]
   refine Rh.tk (some 25) (i:=4) (v:=?_) rfl (Or.inl ⟨by rfl,?_⟩) hS0 ?_
   rotate_left
   ·intro w hSw
    go_simp
    try with_reducible rfl
   try simp only [Act.put,Rh.q1,Rh.q2,Rh.q3]
   refine Rh.tk (some 26) (i:=5) (v:=?_) rfl (Or.inl ⟨by rfl,?_⟩) hS0 ?_
   rotate_left
   ·intro w hSw
    go_simp
    try with_reducible rfl
   try simp only [Act.put,Rh.q1,Rh.q2,Rh.q3]
   refine Rh.tk (some 27) (i:=6) (v:=?_) rfl (Or.inl ⟨by rfl,?_⟩) hS0 ?_
   rotate_left
   ·intro w hSw
    go_simp
    try with_reducible rfl
   try simp only [Act.put,Rh.q1,Rh.q2,Rh.q3]
   refine Rh.tk (some 28) (i:=7) (v:=?_) rfl (Or.inl ⟨by rfl,?_⟩) hS0 ?_
   rotate_left
   ·intro w hSw
    go_simp
    try with_reducible rfl
   try simp only [Act.put,Rh.q1,Rh.q2,Rh.q3]
   refine Rh.tk (some 29) (i:=8) (v:=?_) rfl (Or.inl ⟨by rfl,?_⟩) hS0 ?_
   rotate_left
   ·intro w hSw
    go_simp
    try with_reducible rfl
   try simp only [Act.put,Rh.q1,Rh.q2,Rh.q3]
   refine Rh.tk (some 30) (i:=9) (v:=?_) rfl (Or.inl ⟨by rfl,?_⟩) hS0 ?_
   rotate_left
   ·intro w hSw
    go_simp
    try with_reducible rfl
   try simp only [Act.put,Rh.q1,Rh.q2,Rh.q3]
   refine Rh.tk (some 31) (i:=10) (v:=?_) rfl (Or.inl ⟨by rfl,?_⟩) hS0 ?_
   rotate_left
   ·intro w hSw
    go_simp
    try with_reducible rfl
   try simp only [Act.put,Rh.q1,Rh.q2,Rh.q3]
   refine Rh.tk (some 32) (i:=11) (v:=?_) rfl (Or.inl ⟨by rfl,?_⟩) hS0 ?_
   rotate_left
   ·intro w hSw
    go_simp
    try with_reducible rfl
   try simp only [Act.put,Rh.q1,Rh.q2,Rh.q3]
   refine Rh.step (i:=12) (by kernel_rfl) rfl fun K' hK'=>?_
   have HK:=hid hK'
   clear hK'
   go_simp
   refine HK.out _ _ ⟨hS1,?_⟩
   clear HK K'
   try simp only [Act.put,Rh.q1,Rh.q2,Rh.q3]
   refine Rh.step (i:=13) (by kernel_rfl) rfl fun K' hK'=>?_
   refine Rw.stepAt elemL encI_len encI_one (by rfl) (.tmp 21) (.tmp 33) (by rfl) WX.heap.size v (RL (2*j)) (by rfl) HO1.out ⟨wr.heap.size,0,none⟩ 1 [ca-x] 1 rfl (by rfl) HNW.out HLN.out HBZ ?_
   intro v' w' hown' hgrow _
   have hS2:=(show (fun w'=>w'.cell? ⟨w.heap.size,3,none⟩=some (.slice (some ⟨b,off,none⟩) l.length cap)∧w'.cell? ⟨b,off+j*3+2,none⟩=some (.int .i64 ca)∧w'.cell? ⟨b2,off2+j,none⟩=some (.int .i64 x)) w' from ⟨held_grow hgrow HV0.out n3,held_grow hgrow HV1.out c2,held_grow hgrow HV2.out d0⟩)
   refine hK' _ _ ⟨hS2,?_⟩
   clear hK' K'
   try simp only [Act.put,Rh.q1,Rh.q2,Rh.q3]
   refine Rh.tk (some 7) (i:=14) (v:=?_) rfl (Or.inl ⟨by rfl,?_⟩) hS2 ?_
   rotate_left
   ·intro w hSw
    go_simp
    try with_reducible rfl
   try simp only [Act.put,Rh.q1,Rh.q2,Rh.q3]
   refine Rh.done (by kernel_rfl) ?_ _

   have HOV:=hid (show OwnL w' WX.heap.size v' (RL (2*j+1)) by rw [HST.out];exact hown')
   have HB5:=hid (HGW.out w' hgrow)
   obtain ⟨-,-,d5⟩:=hS2
   clear hS0 hS1 hown' hgrow HO1 HNW HBZ n0 n1 n2 n3 c2 d0 hsz hvb HV0 HV1 HV2 HLN HGW
   have HO6:=hid (Rw.own_alloc HOV.out (.cells #[.int .i64 x] 2))
   have HR6:=hid (irow_one' w' rfl x 2)
   have HLN6:=hid (HLL.out x).2
   have hvb6:=Rw.own_block HOV.out
   have HB6:=hid (HB5.out.alloc HB5.out.size (.cells #[.int .i64 x] 2))
   have HZ6:=hid HB6.out.size
   go_wp2_with (at_builtin;refine Rw.app elemL encI_len encI_one rfl (.tmp 35) (.tmp 40) rfl WX.heap.size _ (RL (2*j+1)) rfl HO6.out (some ⟨w'.heap.size,0,none⟩) 1 [x] rfl ?hnn HR6.out HLN6.out ?hB ?_;(case hnn=>(intro h;cases h));(case hB=>(exact HZ6.out));intro v7 w7 hown7 hgr7;rw [← HST2.out] at hown7;have HB7:=hid (HB6.out.grown hgr7 HZ6.out hvb6);have HO7:=hid hown7;clear hown7 hgr7)
   go_roundw
   case rel=>exact ⟨_,j+1,rfl,by go_num,by omega,HO7,HB7⟩
   case measure=>simp [intOf];omega
  ·have ej:j=l.length:=by omega
   subst ej
   have HBE:=hid (HBX.out.trans (HBW.out.mono HBX.out.size))
   have HOE:=hid (Rw.own_base HOW.out (B':=w.heap.size) HBX.out.size)
   clear hlt hj
   have hfle:=HFL.out
   go_wp2
   go_ret2
   exact ⟨_,rfl,by rw [HRV.out];exact HOE.out,HBE.out⟩
end Ne
namespace Ne
theorem rroom_s (n:Net) (ao:Option Addr) (cap:Nat) (fo:Option Addr) (fc:Nat) (f:List Int) (w:World) (hr:ARow w ao n.l) (hf:IRow w fo f) (hl:n.l.length≤1000000) :
  Calls Tryz.prog 41 #[encN n ao cap,.slice fo f.length fc] w fun e w'=>∃ o c,e=.returned (.tuple #[.slice o (roomV n f).length c,.int .i64 (chkF n f)])∧IRow w' o (roomV n f)∧Below w.heap.size w w' :=
 (rroom_any n ao cap fo fc f w hr hf hl).mono fun e w' ⟨v,h1,h2,h3⟩=>by
  obtain ⟨o,c,hx,_,hi⟩:=irow_ofL h2
  exact ⟨o,c,by rw [h1,hx],hi,h3⟩
end Ne
end Go.Proofs.YtmikbkggjlbbnaaGreat
