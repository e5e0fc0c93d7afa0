/-
  Dld, Rfl7, Sr5, Lw8, Mfm, Mcp, Phs, Log, Pw2, Nfl, Scl
-/
import Derived.Test.YtoadkckceladgaaGreatBc9
import Derived.Test.YtoadkckceladgaaGreatBc7
import Derived.Test.YtoadkckceladgaaGreatBc8
import Derived.Deep.LoopGhost
import Derived.Deep.DeepCutAuto
import Derived.WalkMore
import Derived.Test.YtoadkckceladgaaGreatBc3
import Derived.Test.YtoadkckceladgaaGreatRows
import Derived.WalkKit
import Derived.ProofKit
import Derived.OpenShut
import Derived.BigQuiet
import Derived.Deep.QuietTactic
import Derived.Lib.Hide
import Derived.Lib.Mul64
import Derived.Lib.BitFns
import Derived.Lib.Strings
import Derived.Lib.Slices
import Derived.Lib.Small
import Derived.Lib.Walk
import Derived.Laws.Bits64b
import Derived.Lib.ItoaNum
import Derived.Deep.Light
set_option linter.unusedVariables false
set_option linter.unusedSimpArgs false
set_option maxRecDepth 100000
set_option maxHeartbeats 4000000
namespace Go.Proofs.YtoadkckceladgaaGreat
open Go.ChangeShapes Go.WideShapes Go.ChangeAt Go.RowKit
open Lib (hid)
namespace Ne
theorem leadT_hit {l:List Arc} {L:List Int} {T:List Nat} {j:Nat} (hj:j<T.length) (h1:0≤amt L (trF l (T.getD j 0)).toNat) (h2:amt L (trT l (T.getD j 0)).toNat=amt L (trF l (T.getD j 0)).toNat+1) :
  encW (leadT l L (T.take (j+1)))=encW (leadT l L (T.take j)) ++ [((T.getD j 0:Nat):Int)]:=by
 rw [take_getD hj,leadT_snoc,if_pos (by rw [decide_eq_true h1,decide_eq_true h2];rfl),encW_snoc]
theorem leadT_miss {l:List Arc} {L:List Int} {T:List Nat} {j:Nat} (hj:j<T.length) (h:¬ (0≤amt L (trF l (T.getD j 0)).toNat∧amt L (trT l (T.getD j 0)).toNat=amt L (trF l (T.getD j 0)).toNat+1)) :
  encW (leadT l L (T.take (j+1)))=encW (leadT l L (T.take j)):=by
 rw [take_getD hj,leadT_snoc,if_neg (by simpa using h),List.append_nil]
theorem dleads_own (n:Net) (ao:Option Addr) (cap:Nat) (fo:Option Addr) (fc:Nat) (f:List Int) (x:Int) (L0:List Int) (w:World) (hr:ARow w ao n.l) (hf:IRow w fo f) (hl:n.l.length≤1000000) (hok:∀ a∈n.l,in64 a.cap) (hL:reE n f x=0→IsLev n f x L0) :
  Calls Tryz.prog 91 #[encN n ao cap,.slice fo f.length fc,.int .i64 x] w fun e w'=>∃ o c,e=.returned (.tuple #[.slice o (ldV n f x L0).length c,.int .i64 (reE n f x)])∧OwnI w' w.heap.size (.slice o (ldV n f x L0).length c) (encW (ldV n f x L0))∧Below w.heap.size w w':=by
 have WD:=hid (fun w' (h1:ARow w' ao n.l) (h2:IRow w' fo f)=>wide_any n ao cap fo fc f x w' h1 h2 hl hok)
 by_cases c0:reE n f x=0
 case neg =>
  rw [(lvV_bad (L:=L0) c0).2.1]
  generalize wideV n f x=WV at *
  generalize reE n f x=E at *
  clear hL
  generalize f.length=fl at *
  obtain ⟨nn,ns,nt,l⟩:=n
  simp only at hr WD ⊢
  have HB0:=hid ((Below.refl w.heap.size w).alloc (Nat.le_refl _) (.cells #[.int .i64 nn,.int .i64 ns,.int .i64 nt,.slice ao l.length cap] 24))
  have HR:=hid (hr.kept HB0.out)
  have HF:=hid (hf.kept HB0.out)
  have c1':(E == 0)=false:=by simpa using c0
  have c1n:(E != 0)=true:=by simpa using c0
  clear hr hf c0
  go_enter Tryz.func91,Tryz.ntmps91
  go_wp2_with fail
  refine (WD.out _ HR.out HF.out).mono ?_
  rintro e w1 ⟨v,rfl,_,hb⟩
  have HB1:=hid (HB0.out.trans (hb.mono (by simp)))
  clear hb
  go_wp2
  go_ret2
  exact ⟨none,0,rfl,Rw.owN _ _,HB1.out⟩
 obtain ⟨hc0,hx1⟩:=reE_ok c0
 have hR:=rgO (chkA_ok (chkF_ok hc0).1).1
 rw [(lvV_ok (L:=L0) c0).2.1,c0]
 rw [c0,show wideV n f x=wideL n.l f x (2*n.l.length) by unfold wideV;rw [if_neg (by simpa using c0)]] at WD
 have HLL:=hid (hL c0).len
 have HL0:=hid (fun L (h:IsLev n f x L)=>lev_one hR h (hL c0))
 have LV:=hid (fun tk tc w' h1 h2=>levels_any n ao cap tk tc f x w' h1 h2 hR)
 have hN0:=hR.n0
 have hN1:=hR.n1
 have hLL:=hR.len
 have HEN:=hid (fun (j:Nat) (h:j<2*n.l.length) w' h1=>show Calls Tryz.prog 68 #[encN n ao cap,.int .i64 (j:Int)] w' fun e w2=>e=.returned (.tuple #[.int .i64 (((trF n.l j).toNat:Nat):Int),.int .i64 (((trT n.l j).toNat:Nat):Int)])∧Below w'.heap.size w' w2 by
  have:=ends_any n ao cap (j:Int) w' h1 hl (by unfold in64;omega)
  rw [enF_in h,enT_in h] at this
  have hb:=tTb hR h
  have hb2:=tFb hR h
  rwa [show (((trT n.l j).toNat:Nat):Int)=trT n.l j by omega,show (((trF n.l j).toNat:Nat):Int)=trF n.l j by omega])
 have HTB:=hid (fun (r:Nat) (hr:r<2*n.l.length)=>show (trF n.l r).toNat<n.n.toNat+1∧(trT n.l r).toNat<n.n.toNat+1 by
  have hb:=tFb hR hr;have hb2:=tTb hR hr;omega)
 have HLV:=hid (fun i (h:i<n.n.toNat+1)=>show -1≤amt L0 i∧amt L0 i<500 by have:=lev_lt hR (hL c0) h;omega)
 rw [← leadT_all]
 have HTK:leadT n.l L0 (wideL n.l f x (2*n.l.length))=leadT n.l L0 ((wideL n.l f x (2*n.l.length)).take (wideL n.l f x (2*n.l.length)).length):=by rw [List.take_length]
 rw [HTK]
 have HTM:=hid (fun (j:Nat) (h:j<(wideL n.l f x (2*n.l.length)).length)=>(wideL_mem.1 (gDm h)).1)
 have hWL:=wideL_len n.l f x (2*n.l.length)
 obtain ⟨T,hT⟩:∃ T,wideL n.l f x (2*n.l.length)=T:=⟨_,rfl⟩
 rw [hT] at WD LV HTM hWL ⊢
 clear hT HTK
 have HTC:=hid (fun (j:Nat) (h:j<T.length)=>encW_at (l:=T) h)
 have HTL:=hid (eWl T)
 have HHIT:=hid (fun (k:Nat) (h:k<T.length) h1 h2=>leadT_hit (l:=n.l) (L:=L0) (T:=T) (j:=k) h h1 h2)
 have HMISS:=hid (fun (k:Nat) (h:k<T.length) h1=>leadT_miss (l:=n.l) (L:=L0) (T:=T) (j:=k) h h1)
 have HFL:=hid (fun (k:Nat)=>show (encW (leadT n.l L0 (T.take k))).length≤1000000 by rw [eWl];have:=leadT_len n.l L0 (T.take k);simp at this;omega)
 have HFE:=hid (eWl (leadT n.l L0 (T.take T.length)))
 have HF0:=hid (show encW (leadT n.l L0 (T.take 0))=[] by simp [leadT,encW])
 obtain ⟨FL,hFL⟩:∃ FL,FL=fun k=>encW (leadT n.l L0 (T.take k)):=⟨_,rfl⟩
 have HFLE:=hid (show ∀ k,encW (leadT n.l L0 (T.take k))=FL k from fun k=>by rw [hFL])
 clear hFL
 rw [← HFE.out]
 simp only [HFLE.out] at HHIT HMISS HFL HF0 ⊢
 obtain ⟨TD,hTD⟩:∃ TD:Nat→Nat,TD=fun j=>T.getD j 0:=⟨_,rfl⟩
 have HTDE:=hid (show ∀ j,T.getD j 0=TD j from fun j=>by rw [hTD])
 clear hTD
 simp only [HTDE.out] at HHIT HMISS HTM HTC
 clear HTDE HFLE HFE hL c0 hc0 hx1 hR
 generalize hIL:IsLev n f x=IL at *
 clear hIL
 generalize encW T=TW at *
 generalize T.length=tl at *
 generalize f.length=fl at *
 generalize hTT:(fun j=>(trT n.l j).toNat)=TT at *
 generalize hTF:(fun j=>(trF n.l j).toNat)=TF at *
 have HTE:=hid (show ∀ j,(trT n.l j).toNat=TT j from fun j=>by rw [← hTT])
 have HTG:=hid (show ∀ j,(trF n.l j).toNat=TF j from fun j=>by rw [← hTF])
 clear hTT hTF
 simp only [HTE.out,HTG.out] at HEN HTB HHIT HMISS
 clear HTE HTG
 obtain ⟨nn,ns,nt,l⟩:=n
 simp only at hr hl WD LV HLL hN0 hN1 hLL hWL HEN HTB HLV HTM HHIT HMISS ⊢
 obtain ⟨N,rfl⟩:∃ N:Nat,nn=(N:Int):=⟨nn.toNat,by omega⟩
 simp only [Int.toNat_natCast] at HLL LV HTB HLV ⊢
 have HB0:=hid ((Below.refl w.heap.size w).alloc (Nat.le_refl _) (.cells #[.int .i64 (N:Int),.int .i64 ns,.int .i64 nt,.slice ao l.length cap] 24))
 have HN0:=hid (nbN w (N:Int) ns nt (.slice ao l.length cap))
 have HR:=hid (hr.kept HB0.out)
 have HF:=hid (hf.kept HB0.out)
 clear hr hf
 go_enter Tryz.func91,Tryz.ntmps91
 go_wp2_with fail
 refine (WD.out _ HR.out HF.out).mono ?_
 rintro e w1 ⟨v,rfl,ho,hb⟩
 have HB1:=hid (HB0.out.trans (hb.mono (by simp)))
 have HN1:=hid (nbB HN0.out hb (by simp))
 have HR1:=hid (HR.out.kept hb)
 obtain ⟨to1,tc1,hv,_,_,_,hri,_,_⟩:=Rw.owR eIl ho
 rw [HTL.out] at hv
 subst hv
 have HRI:=hid hri
 obtain ⟨n0,n1,n2,n3⟩:=nbC HN1.out
 clear hb ho hri HB0 HN0 HR HF WD
 go_wp2_with fail
 refine (LV.out _ _ _ HR1.out HRI.out).mono ?_
 rintro e WX ⟨g,L,rfl,hl1,hm,hb⟩
 obtain rfl:=HL0.out L hl1
 have HBX:=hid (HB1.out.trans (hb.mono HB1.out.size))
 have HNX:=hid (nbB HN1.out hb (netBox_lt HN1.out))
 have HRX:=hid (HR1.out.kept hb)
 have HTX:=hid (HRI.out.kept hb)
 have HM:=hid hm
 clear hb hl1 hm n0 n1 n2 n3 HB1 HN1 HR1 HRI LV HL0
 go_wp2
 go_loopw [11,31] (fun s i wr=>∃ (v:Value) (j:Nat),v=s∧i=.int .i64 j∧j≤tl∧Hid (OwnI wr WX.heap.size v (FL j))∧Hid (Below WX.heap.size WX wr)) (fun _ i _=>tl-(intOf i).toNat)
 case atStart=>exact ⟨_,0,rfl,rfl,Nat.zero_le _,hid (by rw [HF0.out];exact Rw.owN _ _),hid (Below.refl _ _)⟩
 case round =>
  obtain ⟨v,j,rfl,rfl,hj,HOW,HBW⟩:=hrel
  by_cases hlt:j<tl
  ·have hji:(j:Int)<(tl:Int):=by omega
   have hj0:(0:Int)≤(j:Int):=by omega
   have HN8:=hid (nbB HNX.out HBW.out (netBox_lt HNX.out))
   obtain ⟨n0,n1,n2,n3⟩:=nbC HN8.out
   obtain ⟨b5,o5,rfl,hbl5,d0⟩:=irC (HTX.out.kept HBW.out) (i:=j) (by rw [HTL.out];exact hlt)
   rw [HTC.out j hlt] at d0
   have hrj:=HTM.out j hlt
   have HH:=hid (HHIT.out j hlt)
   have HMS:=hid (HMISS.out j hlt)
   generalize TD j=r at *
   have EN:=hid (fun w'=>HEN.out r hrj w')
   obtain ⟨hta,htb⟩:=HTB.out r hrj
   have HLN:=hid (show (FL j).length+([(r:Int)]:List Int).length≤1099511627776 by have:=HFL.out j;simp;omega)
   generalize TF r=a at *
   generalize TT r=b at *
   have hai:(a:Int)<(N:Int)+1:=by omega
   have ha0:(0:Int)≤(a:Int):=by omega
   have hbi:(b:Int)<(N:Int)+1:=by omega
   have hb0:(0:Int)≤(b:Int):=by omega
   go_wp2_with fail
   refine (EN.out _ (HRX.out.kept HBW.out)).mono ?_
   rintro e w3 ⟨rfl,hb⟩
   have HB3:=hid (HBW.out.trans (hb.mono HBW.out.size))
   have HO3:=hid (Rw.own_below HOW.out hb)
   have HM3:=hid (HM.out.kept HB3.out)
   have ma:=HM3.out.cell (i:=a) (by rw [HLL.out];exact hta)
   have mb:=HM3.out.cell (i:=b) (by rw [HLL.out];exact htb)
   obtain ⟨hA0,hA1⟩:=HLV.out a hta
   generalize amt L a=A at *
   generalize amt L b=B at *
   have hwA:IntKind.i64.wrap (A+1)=A+1:=by rw [IntKind.wrap_i64];omega
   clear hb n0 n1 n2 n3 d0
   by_cases p2:0≤A
   ·have p2':(A != -1)=true:=by simp;omega
    by_cases p3:B=A+1
    ·have p3':(B == A+1)=true:=by simpa using p3
     have HST:=hid (HH.out p2 p3)
     have HO4:=hid (fun q=>show OwnI ((w3.drewN q).alloc (.cells #[.int .i64 (r:Int)] 3)) WX.heap.size v (FL j) from Rw.owA HO3.out _)
     have HR4:=hid (fun q=>irow_one' (w3.drewN q) rfl (r:Int) 3)
     have hvb:=Rw.owK HO3.out
     have HB4:=hid (fun q=>(bDn HB3.out q).alloc (by exact HB3.out.size) (.cells #[.int .i64 (r:Int)] 3))
     clear p2 p3 HH HMS
     go_wp2
     go_quiet (fail)
     go_wp2_with (at_builtin;refine Rw.app elemI eIl eIo rfl (.tmp 58) (.tmp 60) rfl WX.heap.size _ (FL j) rfl (HO4.out _) (some ⟨w3.heap.size,0,none⟩) 1 [(r:Int)] rfl ?hnn (HR4.out _) HLN.out ?hB ?_;(case hnn=>(intro h;cases h));(case hB=>(exact (HB4.out _).size));intro v4 w4 hown4 hgr4;rw [← HST.out] at hown4;have HB5:=hid ((HB4.out _).grown hgr4 (HB4.out _).size hvb);have HO5:=hid hown4;clear hown4 hgr4)
     go_roundw
     case rel=>exact ⟨_,j+1,rfl,by go_num,by omega,HO5,HB5⟩
     case measure=>simp [intOf];omega
    ·have p3':(B == A+1)=false:=by simpa using p3
     have HST:=hid (HMS.out (fun h=>p3 h.2))
     have HO4:=hid (fun q=>show OwnI (w3.drewN q) WX.heap.size v (FL (j+1)) by rw [HST.out];exact HO3.out)
     clear p2 p3 HH HMS
     go_wp2
     go_quiet (fail)
     go_wp2
     go_roundw
     case rel=>exact ⟨_,j+1,rfl,by go_num,by omega,hid (HO4.out _),hid (bDn HB3.out _)⟩
     case measure=>simp [intOf];omega
   ·have p2':(A != -1)=false:=by simp;omega
    have HST:=hid (HMS.out (fun h=>p2 h.1))
    have HO4:=hid (fun q=>show OwnI (w3.drewN q) WX.heap.size v (FL (j+1)) by rw [HST.out];exact HO3.out)
    clear p2 HH HMS
    go_wp2
    go_quiet (fail)
    go_wp2
    go_roundw
    case rel=>exact ⟨_,j+1,rfl,by go_num,by omega,hid (HO4.out _),hid (bDn HB3.out _)⟩
    case measure=>simp [intOf];omega
  ·have ej:j=tl:=by omega
   subst ej
   have HBE:=hid (HBX.out.trans (HBW.out.mono HBX.out.size))
   obtain ⟨o9,c9,hv9,_,_,_,hi9,_,_⟩:=Rw.owR eIl HOW.out
   subst hv9
   have HI9:=hid (Rw.own_base HOW.out (B':=w.heap.size) HBX.out.size)
   clear hlt hj hi9
   go_wp2
   go_ret2
   exact ⟨_,_,rfl,HI9.out,HBE.out⟩
theorem dleads_any (n:Net) (ao:Option Addr) (cap:Nat) (fo:Option Addr) (fc:Nat) (f:List Int) (x:Int) (L0:List Int) (w:World) (hr:ARow w ao n.l) (hf:IRow w fo f) (hl:n.l.length≤1000000) (hok:∀ a∈n.l,in64 a.cap) (hL:reE n f x=0→IsLev n f x L0) :
  Calls Tryz.prog 91 #[encN n ao cap,.slice fo f.length fc,.int .i64 x] w fun e w'=>∃ o c,e=.returned (.tuple #[.slice o (ldV n f x L0).length c,.int .i64 (reE n f x)])∧IRow w' o (encW (ldV n f x L0))∧Below w.heap.size w w':=by
 refine (dleads_own n ao cap fo fc f x L0 w hr hf hl hok hL).mono ?_
 rintro e w' ⟨o,c,h1,h2,h3⟩
 exact ⟨o,c,h1,owI h2,h3⟩
end Ne
namespace Ne
theorem reE_flow {n:Net} {f:List Int} {x:Int} (ck:checkN n=0) (hF:Flow n f) (hx:1≤x):reE n f x=0:=by
 unfold reE;rw [if_neg (by simpa using flow_chkF ck hF),if_neg (by omega)]
section
variable {n:Net} (ao:Option Addr) (cap:Nat) (fo:Option Addr) (fc:Nat) {f:List Int} (w:World) (ck:checkN n=0) (hr:ARow w ao n.l) (hf:IRow w fo f) (hF:Flow n f) (x:Int) (hx:1≤x) {L:List Int} (hL:IsLev n f x L)
include ck hr hf hF hx hL
end
end Ne
namespace Ne
section
variable {n:Net} (ao:Option Addr) (cap:Nat) (fo:Option Addr) (fc:Nat) {f:List Int} (x:Int) (w:World) {TL:List Nat} {L:List Int}
end
def NxS (w':World) (B:Nat) (a b:Value):Option (List Nat)→Prop
 | none=>a=.slice none 0 0∧b=.bool false
 | some R=>b=.bool true∧OwnI w' B a (encW R)
theorem nx_slots {w':World} {B B2:Nat} {e:Ending} {o:Option (List Nat)} (h:NxR w' B e o) (hB:B2≤B):∃ a b,e=.returned (.tuple #[a,b])∧NxS w' B2 a b o:=by
 rcases o with _ | R
 ·exact ⟨_,_,h,rfl,rfl⟩
 ·obtain ⟨wv,h1,h2⟩:=h
  exact ⟨wv,_,h1,rfl,Rw.own_base h2 hB⟩
theorem slots_nx {w':World} {B:Nat} {a b:Value} {o:Option (List Nat)} (h:NxS w' B a b o):NxR w' B (.returned (.tuple #[a,b])) o:=by
 rcases o with _ | R
 ·obtain ⟨rfl,rfl⟩:=h;exact rfl
 ·obtain ⟨rfl,h2⟩:=h;exact ⟨a,rfl,h2⟩
def blG (n:Net) (f:List Int) (x:Int) (g0:List Int):List Int:=if reE n f x≠0 then [] else g0
def blW (n:Net) (f:List Int) (x:Int) (W0:List (List Nat × Int)):List (List Nat × Int):=if reE n f x≠0 then [] else W0
theorem krow_one (w:World) {b:Nat} (hb:b=w.heap.size) (t:TypeId) (k:WkC):Rw.Row 2 encK (w.alloc (.cells #[.slice k.o k.len k.cap,.int .i64 k.am] t)) (some ⟨b,0,none⟩) [k]:=by
 subst hb
 refine .inr ⟨w.heap.size,0,rfl,by simp,?_⟩
 intro i y hi j v hv
 match i,hi with
 | 0,hi =>
  simp at hi;subst hi
  have h:=World.cell?_alloc_new w #[.slice k.o k.len k.cap,.int .i64 k.am] t j
  match j,hv with
  | 0,hv=>simp [encK] at hv;subst hv;exact h
  | 1,hv=>simp [encK] at hv;subst hv;exact h
  | (j+2),hv=>simp [encK] at hv
 | (i+1),hi=>simp at hi
set_option maxHeartbeats 8000000 in
theorem dblock_own (n:Net) (ao:Option Addr) (cap:Nat) (fo:Option Addr) (fc:Nat) (f:List Int) (x:Int) (L0:List Int) (W0:List (List Nat × Int)) (g0:List Int) (w:World) (hr:ARow w ao n.l) (hf:IRow w fo f) (hl:n.l.length≤1000000) (hok:∀ a∈n.l,in64 a.cap) (hL:reE n f x=0→IsLev n f x L0)
  (hB:reE n f x=0→IsBlk n.l (leadL n.l f x L0 (2*n.l.length)) f x n.s n.t W0 g0) :
  Calls Tryz.prog 90 #[encN n ao cap,.slice fo f.length fc,.int .i64 x] w fun e w'=>∃ o c wv,e=.returned (.tuple #[.slice o (blG n f x g0).length c,wv,.int .i64 (reE n f x)])∧OwnL w' w.heap.size (.slice o (blG n f x g0).length c) (blG n f x g0)∧WkR 150 w' w.heap.size wv (blW n f x W0)∧Below w.heap.size w w':=by
 have HB0:=hid ((Below.refl w.heap.size w).alloc (Nat.le_refl _) (.cells #[.int .i64 n.n,.int .i64 n.s,.int .i64 n.t,.slice ao n.l.length cap] 24))
 have HN0:=hid (nbN w n.n n.s n.t (.slice ao n.l.length cap))
 obtain ⟨n0,n1,n2,n3⟩:=nbC HN0.out
 have LD:=hid (fun w' h1 h2=>dleads_any n ao cap fo fc f x L0 w' h1 h2 hl hok hL)
 have HR:=hid hr
 have HF:=hid hf
 by_cases c0:reE n f x=0
 case neg =>
  have e1:blG n f x g0=[]:=by unfold blG;rw [if_pos c0]
  have e2:blW n f x W0=[]:=by unfold blW;rw [if_pos c0]
  rw [e1,e2]
  have c0':(reE n f x != 0)=true:=by simpa using c0
  have HC0:=hid c0
  clear c0 hL hB hr hf hl hok e1 e2
  generalize ldV n f x L0=LV at *
  generalize reE n f x=re at *
  go_enter Tryz.func90,Tryz.ntmps90
  go_wp2_with fail
  refine (LD.out _ (HR.out.kept HB0.out) (HF.out.kept HB0.out)).mono ?_
  rintro e w2 ⟨o,c,rfl,_,hb⟩
  have HB2:=hid (HB0.out.trans (hb.mono HB0.out.size))
  clear hb n0 n1 n2 n3
  go_wp2
  go_ret3
  exact ⟨none,0,_,rfl,Rw.owN _ _,wkr_nil _ _ _,HB2.out⟩
 obtain ⟨hck,hx⟩:=reE_ok c0
 obtain ⟨ck,hF⟩:=okf_of hck
 have hR:=rgO ck
 have e1:blG n f x g0=g0:=by unfold blG;rw [if_neg (by simpa using c0)]
 have e2:blW n f x W0=W0:=by unfold blW;rw [if_neg (by simpa using c0)]
 have e3:=(lvV_ok (L:=L0) c0).2.1
 have hLd:=lds_of n.l f x L0
 have hblk:=hB c0
 have hTL:=leadL_len n.l f x L0 (2*n.l.length)
 rw [e1,e2,c0]
 rw [e3,c0] at LD
 generalize leadL n.l f x L0 (2*n.l.length)=TL at *
 have hLL:=hR.len
 have hTL2:TL.length≤1000000:=by omega
 have hfl:=hF.len
 have NS:=hid (fun w' lo' lc h1 h2 h3=>newSearch_any ao cap fo fc x w' ck h1 h2 hF hLd hTL2 lo' lc h3)
 have CL:=hid (fun w' h1=>cloneL_any f fo n.l.length fc w' hfl.symm h1 (by omega))
 have NX:=hid (fun g RM U w0 w' sb lb lo hi rv VS (h1:Srch n TL g x RM U) (st:SrM n ao cap x w0 w' sb lb lo hi rv RM VS U)=>snext_any hR hLd h1 st)
 have ST:=hid (fun g RM U (h1:Okf n g) (h2:Srch n TL g x RM U) R (h3:FirstW n.l TL g x n.t n.s R)=>blk_step ck hLd hx h1 h2 h3)
 have FI:=hid (fun w0 w' sb lb lo hi rv RM VS U (st:SrM n ao cap x w0 w' sb lb lo hi rv RM VS U) B wv R0 R' (h1:OwnI w' B wv (encW (R0 :: R'))) h2 h3 h4 h5 h6=>fill_any hR st h1 h2 h3 h4 h5 h6)
 have PU:=hid (fun g (hg:g.length=n.l.length) lo lc wo wc W a w' h1 h2 h3 h4 h5 h6=>show Calls Tryz.prog 95 #[encN n ao cap,.slice lo n.l.length lc,.slice wo W.length wc,.int .i64 a] w' fun e w2=>∃ v,e=.returned (.tuple #[v,.int .i64 (pushE n g W a)])∧OwnL w2 w'.heap.size v (pushV n g W a)∧Below w'.heap.size w' w2 by
  have h:=dpush_any n ao cap lo lc g wo wc W a w' h1 h2 h3 hl hok h4 h5 h6
  rwa [hg] at h)
 have HS0:=hid (srch_start hR hLd f x)
 have HONE:=hid (fun W g (h1:BlkW n.l TL x n.s n.t f W g) (h2:IsNext n.l TL g x n.s n.t none)=>blk_one ⟨h1,h2⟩ hblk)
 have HSNO:=hid (fun W g R a g2 (h1:BlkW n.l TL x n.s n.t f W g) (h2:FirstW n.l TL g x n.t n.s R) (h3:Least n.l g R a) (h4:pushN n.l g a (encW R)=some g2)=>blkW_snoc h1 h2 h3 h4)
 have HWL:=hid (fun Ws gl (h:BlkW n.l TL x n.s n.t f Ws gl)=>show Ws.length≤1000000 by
  have h1:=(blkW_facts hLd hx hfl h).2
  have h2:=left_le n.l TL x f
  omega)
 have HOK:=hid hF
 have HFL:=hid hfl
 have HG0:=hid (show g0.length=n.l.length from ((blkW_facts hLd hx hfl hblk.1).1).len)
 have hnl:n.l.length≤1000000:=hl
 have HX:=hid hx
 clear hL hB hr hf hl hok e1 e2 e3 hblk hF hck c0 hLd
 rw [hfl]
 rw [hfl] at LD
 clear hfl hTL hTL2 hx
 go_enter Tryz.func90,Tryz.ntmps90
 go_wp2_with fail
 refine (LD.out _ (HR.out.kept HB0.out) (HF.out.kept HB0.out)).mono ?_
 rintro e w2 ⟨lo',lc,rfl,hli,hb⟩
 have HB2:=hid (HB0.out.trans (hb.mono HB0.out.size))
 have HN2:=hid (nbB HN0.out hb (netBox_lt HN0.out))
 have HLI:=hid hli
 clear hli hb n0 n1 n2 n3
 obtain ⟨n0,n1,n2,n3⟩:=nbC HN2.out
 go_wp2_with fail
 refine (NS.out _ lo' lc (HR.out.kept HB2.out) (HF.out.kept HB2.out) HLI.out).mono ?_
 rintro e w3 ⟨sb,lb,lo,hi,rv,VS,rfl,hst,hb⟩
 have HB3:=hid (HB2.out.trans (hb.mono HB2.out.size))
 have HN3:=hid (nbB HN2.out hb (netBox_lt HN2.out))
 have HST3:=hid hst
 have HBW:=hid hb
 clear hst hb n0 n1 n2 n3
 go_wp2_with fail
 refine (CL.out _ (HF.out.kept HB3.out)).mono ?_
 rintro e w4 ⟨l4,lc4,rfl,hli,hb⟩
 have HB4:=hid (HB3.out.trans (hb.mono HB3.out.size))
 have HN4:=hid (nbB HN3.out hb (netBox_lt HN3.out))
 have HST4:=hid (HST3.out.kept hb)
 have HL4:=hid hli
 have HW24:=hid (show w2.heap.size≤w3.heap.size∧w3.heap.size≤w4.heap.size from ⟨HBW.out.size,hb.size⟩)
 clear hli hb
 have HLOW:=hid (show sb<w3.heap.size∧lb<w3.heap.size∧hi≤w3.heap.size∧(∀ g,rv.ownBlock=some g→g<w3.heap.size)∧w2.heap.size≤w3.heap.size from ⟨(SrM.lt HST3.out).1,(SrM.lt HST3.out).2,HST3.out.rows.sz,fun g hg=>(Rw.owL HST3.out.rooms g hg).2,HST3.out.old.size⟩)
 have NX4:=hid (NX.out f _ _ w2 w4 sb lb lo hi rv VS HS0.out HST4.out)
 go_wp2_with fail
 refine NX4.out.mono ?_
 rintro e w5 ⟨hbut,VS',U',o,hsr,hnx,hst,hnr⟩
 have HSR5:=hid hsr
 have HNX5:=hid hnx
 have HST5:=hid hst
 obtain ⟨B1,hB1⟩:∃ B1,B1=w3.heap.size:=⟨_,rfl⟩
 rw [← hB1] at HLOW HL4
 have HBL:=hid (show B1≤w4.heap.size by rw [hB1];exact HW24.out.2)
 have HWB:=hid (show w.heap.size≤w2.heap.size from HB2.out.size)
 have hbb:∀ g,B1≤g→g<w4.heap.size→w5.heap[g]? = w4.heap[g]?:=fun g h1 h2=>hbut.block g h2 (by have:=HLOW.out.2.1;omega)
 have HL5:=hid (owM HL4.out fun g hg=>hbb g (Rw.owL HL4.out g hg).1 (Rw.owL HL4.out g hg).2)
 have HB5:=hid (HB4.out.trans (hbut.below (B0:=w.heap.size) (by have:=HST5.out.low.1;have:=HWB.out;omega) (by have:=HB4.out.size;omega)))
 have HN5:=hid (show NetBox w5 w.heap.size n.n n.s n.t (.slice ao n.l.length cap) from by
  have h:=HN4.out
  unfold NetBox at *
  rw [hbut.block _ (netBox_lt HN4.out) (by have h1:=HST5.out.low.1;have h2:=netBox_lt HN2.out;omega)];exact h)
 have HBL5:=hid (Nat.le_trans HBL.out hbut.size)
 obtain ⟨va,vb,rfl,hns⟩:=nx_slots hnr HBL.out
 have HNS5:=hid hns
 have HBK0:=hid (show BlkW n.l TL x n.s n.t f [] f from .nil f)
 clear hsr hnx hst hbb hbut hB1 hnr hns
 go_wp2
 go_loopg [12,13,14,15] (left n.l TL x f) (fun g s12 s13 s14 s15 wr=>∃ (gl:List Int) (Ws:List (List Nat × Int)) (RM:List Int) (U:Nat→List Nat) (VS:Nat→Value) (o:Option (List Nat)) (lo4:Option Addr) (lc4:Nat) (wv va vb:Value),s12=.slice lo4 n.l.length lc4∧wv=s13∧va=s14∧vb=s15∧Hid (g=left n.l TL x gl)∧Hid (BlkW n.l TL x n.s n.t f Ws gl)∧Hid (Okf n gl)∧Hid (Srch n TL gl x RM U)∧Hid (IsNext n.l TL gl x n.s n.t o)∧Hid (SrM n ao cap x w2 wr sb lb lo hi rv RM VS U)∧Hid (OwnL wr B1 (.slice lo4 n.l.length lc4) gl)∧Hid (WkR 150 wr B1 wv Ws)∧Hid (NxS wr B1 va vb o)∧Hid (Below w.heap.size w wr)∧Hid (NetBox wr w.heap.size n.n n.s n.t (.slice ao n.l.length cap))∧Hid (B1≤wr.heap.size))
 case atStart=>exact ⟨f,[],_,U',VS',o,l4,lc4,_,va,vb,rfl,rfl,rfl,rfl,rfl,HBK0,HOK,HSR5,HNX5,HST5,HL5,hid (wkr_nil _ _ _),HNS5,HB5,HN5,HBL5⟩
 case round =>
  obtain ⟨gl,Ws,RM,U,VS,o,lo4,lc4,wv,va,vb,rfl,rfl,rfl,rfl,HG,HBK,HOF,HSR,HNX,HSM,HLO,HWK,HNS,HBW,HNB,HBS⟩:=hrel
  rcases o with _ | R
  ·obtain ⟨rfl,rfl⟩:=HONE.out Ws gl HBK.out HNX.out
   have e:vb=.bool false:=HNS.out.2
   subst e
   obtain ⟨o9,c9,rfl,_,_,_⟩:=HWK.out.val
   obtain ⟨_,_,e9,_,_,_,hir,_,_⟩:=Rw.owR eIl HLO.out
   simp only [Value.slice.injEq,true_and] at e9
   obtain ⟨e9,e10,_⟩:=e9
   subst e9
   have HIR:=hid hir
   have HWE:=hid (HWK.out.base (B':=w.heap.size) (by have:=HLOW.out.2.2.2.2;have:=HWB.out;omega))
   clear hir
   go_wp2
   go_ret3
   exact ⟨lo4,lc4,.slice o9 Ws.length c9,by rw [HG0.out];rfl,by rw [HG0.out];exact Rw.own_base HLO.out (by have:=HLOW.out.2.2.2.2;have:=HWB.out;omega),HWE.out,HBW.out⟩
  ·obtain ⟨e,hov⟩:=HNS.out
   subst e
   obtain ⟨R0,R',g2,rfl,stp⟩:=ST.out gl RM U HOF.out HSR.out R HNX.out
   have HSTP:=hid stp
   have HOV:=hid hov
   have FC:=hid (FI.out w2 wr sb lb lo hi rv RM VS U HSM.out B1 va R0 R' hov HSR.out.len stp.lt stp.nd stp.b64 (fun g hg e=>by have:=(Rw.owL hov g hg).1;have:=HLOW.out.2.2.2.1 g e;omega))
   have HSNO2:=hid (HSNO.out Ws gl (R0 :: R') _ g2 HBK.out HNX.out stp.least stp.pN)
   generalize minL RM (amt RM R0) (R0 :: R')=a at *
   obtain ⟨ot,ct,hot,_,_,_,_,_,_⟩:=Rw.owR eIl hov
   subst hot
   rw [eWl] at FC HOV ⊢
   obtain ⟨R,hRd⟩:∃ R,R=R0 :: R':=⟨_,rfl⟩
   have hgl:=HOF.out.len
   have HPE:=hid stp.pE
   have HPV:=hid stp.pV
   have HLEN:=hid stp.len
   have H64:=hid stp.tr64
   have HA64:=hid (show in64 a by have:=stp.a64;have:=HX.out;unfold in64;omega)
   have HOF2:=hid stp.flow
   have HSR2:=hid stp.srch
   have HLF:=hid stp.left
   rw [← hRd] at FC HOV HPE HPV HLEN H64 HSR2 HSNO2 ⊢
   obtain ⟨K,hK⟩:∃ K,K=R.length:=⟨_,rfl⟩
   rw [← hK] at FC HOV HLEN ⊢
   have HK:=hid hK
   have HGL:=hid hgl
   clear stp hov hRd hK hgl HSTP
   go_wp2_with fail
   refine FC.out.mono ?_
   rintro e w6 ⟨rfl,gb,hgb,hbut,hst6⟩
   have hgB:gb<B1:=HLOW.out.2.2.2.1 gb hgb
   have hbb:∀ g,B1≤g→g<wr.heap.size→w6.heap[g]? = wr.heap[g]?:=fun g h1 h2=>hbut.block g h2 (by omega)
   have HSM6:=hid hst6
   have HLO6:=hid (owM HLO.out fun g hg=>hbb g (Rw.owL HLO.out g hg).1 (Rw.owL HLO.out g hg).2)
   have HWK6:=hid (HWK.out.same hbb)
   have HOV6:=hid (owM HOV.out fun g hg=>hbb g (Rw.owL HOV.out g hg).1 (Rw.owL HOV.out g hg).2)
   have HBW6:=hid (HBW.out.trans (hbut.below (B0:=w.heap.size) (by have:=(Rw.owL HSM.out.rooms gb hgb).1;have:=HWB.out;omega) HBW.out.size))
   have HNB6:=hid (show NetBox w6 w.heap.size n.n n.s n.t (.slice ao n.l.length cap) from by
    have h:=HNB.out
    unfold NetBox at *
    rw [hbut.block _ (netBox_lt HNB.out) (by have h1:=(Rw.owL HSM.out.rooms gb hgb).1;have h2:=netBox_lt HN2.out;omega)];exact h)
   have HBS6:=hid (Nat.le_trans HBS.out hbut.size)
   clear hbb hbut hgb hst6 hgB
   obtain ⟨n0,n1,n2,n3⟩:=nbC HNB6.out
   go_upto_region 12 with fail
   have HA7:=hid ((Below.refl w6.heap.size w6).alloc (Nat.le_refl _) (.cells #[.slice ot K ct,.int .i64 a] 150))
   have HSM7:=hid (HSM6.out.kept HA7.out)
   have HLO7:=hid (Rw.own_below HLO6.out HA7.out)
   have HWK7:=hid (HWK6.out.kept HA7.out)
   have HOV7:=hid (Rw.own_below HOV6.out HA7.out)
   have HBW7:=hid (HBW6.out.trans (HA7.out.mono HBW6.out.size))
   have HNB7:=hid (nbB HNB6.out HA7.out (netBox_lt HNB6.out))
   have HBS7:=hid (Nat.le_trans HBS6.out HA7.out.size)
   have d0:=World.cell?_alloc_new w6 #[.slice ot K ct,.int .i64 a] 150 0
   have d1:=World.cell?_alloc_new w6 #[.slice ot K ct,.int .i64 a] 150 1
   simp only [List.getElem?_toArray,List.getElem?_cons_zero,List.getElem?_cons_succ] at d0 d1
   have HD0:=hid d0
   have HD1:=hid d1
   have HZ7:=hid (show w6.heap.size<(w6.alloc (.cells #[.slice ot K ct,.int .i64 a] 150)).heap.size by simp)
   have PC:=hid (PU.out gl HGL.out lo4 lc4 ot ct (encW R) a (w6.alloc (.cells #[.slice ot K ct,.int .i64 a] 150)) HSM7.out.row
    (owI HLO7.out) (owI HOV7.out)
    (by rw [eWl,← HK.out];exact HLEN.out) H64.out HA64.out)
   rw [HPE.out,HPV.out,eWl,← HK.out] at PC
   clear n0 n1 n2 n3 HSM6 HLO6 HWK6 HOV6 HNB6
   generalize hW7:(w6.alloc (.cells #[.slice ot K ct,.int .i64 a] 150))=w7 at *
   clear hW7
   obtain ⟨n0,n1,n2,n3⟩:=nbC HNB7.out
   have hbz:=HZ7.out
   go_wp2_with fail
   refine PC.out.mono ?_
   rintro e w8 ⟨v8,rfl,hown8,hb⟩
   obtain ⟨l8,lc8,hv8,_,_,_,_,_,_⟩:=Rw.owR eIl hown8
   subst hv8
   rw [HOF2.out.len] at hown8
   rw [HOF2.out.len]
   have HLO8:=hid (Rw.own_base hown8 (B':=B1) HBS7.out)
   have HSM8:=hid (HSM7.out.kept hb)
   have HWK8:=hid (HWK7.out.kept hb)
   have HOV8:=hid (Rw.own_below HOV7.out hb)
   have HBW8:=hid (HBW7.out.trans (hb.mono HBW7.out.size))
   have HNB8:=hid (nbB HNB7.out hb (netBox_lt HNB7.out))
   have HBS8:=hid (Nat.le_trans HBS7.out hb.size)
   clear d0 d1
   have d0:=(hb.cell (p:=⟨w6.heap.size,0,none⟩) HZ7.out).trans HD0.out
   have d1:=(hb.cell (p:=⟨w6.heap.size,1,none⟩) HZ7.out).trans HD1.out
   clear n0 n1 n2 n3 hb hown8 hbz
   obtain ⟨Ks,k1,k2,k3⟩:=HWK8.out
   have HK2:=hid k2
   have HA9:=hid ((Below.refl w8.heap.size w8).alloc (Nat.le_refl _) (.cells #[.slice ot K ct,.int .i64 a] 150))
   have HKA:=hid (Rw.own_below k1 HA9.out)
   have HK3:=hid (show ∀ (i:Nat) (k:WkC) (p:List Nat × Int),Ks[i]? = some k→Ws[i]? = some p→OwnI (w8.alloc (.cells #[.slice ot K ct,.int .i64 a] 150)) B1 (.slice k.o k.len k.cap) (encW p.1)∧k.am=p.2 from fun i k p hi hp=>⟨Rw.own_below (k3 i k p hi hp).1 HA9.out,(k3 i k p hi hp).2⟩)
   have HKR:=hid (krow_one w8 rfl 150 ⟨ot,K,ct,a⟩)
   have HLN:=hid (show Ks.length+([⟨ot,K,ct,a⟩]:List WkC).length≤1099511627776 by have:=HWL.out Ws gl HBK.out;have:=HK2.out;simp;omega)
   have HBS9:=hid (Nat.le_trans HBS8.out HA9.out.size)
   have HSM9:=hid (HSM8.out.kept HA9.out)
   have HLO9:=hid (Rw.own_below HLO8.out HA9.out)
   have HOV9:=hid (Rw.own_below HOV8.out HA9.out)
   have HBW9:=hid (HBW8.out.trans (HA9.out.mono HBW8.out.size))
   have HNB9:=hid (nbB HNB8.out HA9.out (netBox_lt HNB8.out))
   clear k1 k2 k3 HSM8 HLO8 HOV8 HBW8 HNB8 HWK8 HSM7 HLO7 HWK7 HOV7 HBW7 HNB7
   go_upto_region 10 with (at_builtin;refine Rw.app elemK encK_len encK_one rfl (.tmp 69) (.tmp 71) rfl B1 wv Ks rfl HKA.out (some ⟨w8.heap.size,0,none⟩) 1 [⟨ot,K,ct,a⟩] rfl ?hnn HKR.out HLN.out ?hB ?_;(case hnn=>(intro h;cases h));(case hB=>(exact HBS9.out));intro v9 w9 hown9 hgr9;have HWK:=hid (wkr_snoc (by decide) HKA.out HK2.out HK3.out hgr9 hown9 HOV9.out rfl);have HG9:=hid hgr9;clear hown9 hgr9)
   have HRB:=hid (show ∀ g,wv.ownBlock=some g→B1≤g from fun g hg=>(Rw.owL HKA.out g hg).1)
   have HSM10:=hid (HSM9.out.grown HG9.out (fun g hg=>by
    have:=HRB.out g hg
    obtain ⟨hl1,hl2,hl3,hl4,hl5⟩:=HLOW.out
    exact ⟨by omega,by omega,by omega,.inr (by omega),fun e=>by have:=hl4 g e;omega⟩))
   have HLO10:=hid (owM HLO9.out fun g hg=>HG9.out.block g (Rw.owL HLO9.out g hg).2 fun e=>own_types (by decide) HLO9.out HKA.out g hg e.symm)
   have HBW10:=hid (HBW9.out.grown HG9.out HBW9.out.size (fun g hg=>by have:=HRB.out g hg;have:=HLOW.out.2.2.2.2;have:=HWB.out;omega))
   have HNB10:=hid (netBox_grown HNB9.out HG9.out (fun e=>by have:=HRB.out _ e.symm;have:=HLOW.out.2.2.2.2;have:=netBox_lt HN2.out;omega))
   have HBS10:=hid (Nat.le_trans HBS9.out HG9.out.size)
   have NXC:=hid (NX.out g2 _ U w2 w9 sb lb lo hi rv VS HSR2.out HSM10.out)
   go_wp2_with fail
   refine NXC.out.mono ?_
   rintro e w10 ⟨hbut,VS2,U2,o2,hsr,hnx,hst,hnr⟩
   have HSRe:=hid hsr
   have HNXe:=hid hnx
   have HSMe:=hid hst
   obtain ⟨va2,vb2,rfl,hns⟩:=nx_slots hnr HBS10.out
   have HNSe:=hid hns
   have hbb:∀ g,B1≤g→g<w9.heap.size→w10.heap[g]? = w9.heap[g]?:=fun g h1 h2=>hbut.block g h2 (by have:=HLOW.out.2.1;omega)
   have HLOe:=hid (owM HLO10.out fun g hg=>hbb g (Rw.owL HLO10.out g hg).1 (Rw.owL HLO10.out g hg).2)
   have HWKe:=hid (HWK.out.same hbb)
   have HBWe:=hid (HBW10.out.trans (hbut.below (B0:=w.heap.size) (by have:=HSMe.out.low.1;have:=HWB.out;omega) HBW10.out.size))
   have HNBe:=hid (show NetBox w10 w.heap.size n.n n.s n.t (.slice ao n.l.length cap) from by
    have h:=HNB10.out
    unfold NetBox at *
    rw [hbut.block _ (netBox_lt HNB10.out) (by have h1:=HSMe.out.low.1;have h2:=netBox_lt HN2.out;omega)];exact h)
   have HBSe:=hid (Nat.le_trans HBS10.out hbut.size)
   clear hbut hsr hnx hst hnr hns hbb d0 d1
   go_wp2
   go_roundg (left n.l TL x g2)
   case measure=>have:=HG.out;have:=HLF.out;omega
   case rel=>exact ⟨g2,_,_,U2,VS2,o2,l8,lc8,_,va2,vb2,rfl,rfl,rfl,rfl,rfl,HSNO2,HOF2,HSRe,HNXe,HSMe,HLOe,HWKe,HNSe,HBWe,HNBe,HBSe⟩
end Ne
namespace Ne
section
variable {n:Net} {TL:List Nat} {L:List Int} {x:Int} {f g:List Int} {W:List (List Nat × Int)}
theorem least_pos (hx:1≤x) {R:List Nat} {a:Int} {s t:Int} (h1:FirstW n.l TL f x t s R) (h2:Least n.l f R a):x≤a:=by
 obtain ⟨r,hr,e⟩:=h2.one
 have:=(wlk_mem (fWw h1) r hr).2
 omega
theorem blkW_flow (hR:Right n) (hL:Lds n.l L TL) (hx:1≤x) (hF:Flow n f) (b:BlkW n.l TL x n.s n.t f W g):Flow n g∧exc n.l g n.t=exc n.l f n.t+(W.map (·.2)).sum:=by
 obtain ⟨s,hs⟩:∃ s,s=n.s:=⟨_,rfl⟩
 obtain ⟨t,ht⟩:∃ t,t=n.t:=⟨_,rfl⟩
 rw [← hs,← ht] at b
 induction b with
 | nil f=>exact ⟨hF,by simp⟩
 | @cons f g h R a W h1 h2 h3 _ ih =>
  have ha:=least_pos hx h1 h2
  obtain ⟨k1,k2⟩:=push_flow hR hF (by omega) (first_walk hL (by rw [hs,ht] at h1;exact h1)) h3
  obtain ⟨m1,m2⟩:=ih k1
  refine ⟨m1,?_⟩
  rw [m2,k2,List.map_cons,List.sum_cons]
  omega
theorem blk_of (hR:Right n) (hF:Okf n f) (hx:1≤x) (L:List Int):∃ W g,IsBlk n.l (leadL n.l f x L (2*n.l.length)) f x n.s n.t W g :=
 blk_exists (lds_of n.l f x L) hR.ne hx _ f hF.len (Nat.le_refl _)
theorem blk_some (hR:Right n) (hL:IsLev n f x L) (hB:IsBlk n.l (leadL n.l f x L (2*n.l.length)) f x n.s n.t W g):W≠[]↔0≤amt L n.t.toNat:=by
 rw [sink_walk hR hL]
 rcases blkW_inv hB.1 with ⟨rfl,rfl⟩ | ⟨R,a,V,g1,rfl,h1,_⟩
 ·exact ⟨fun h=>absurd rfl h,fun ⟨R,hW⟩=>absurd hW (hB.2 R)⟩
 ·exact ⟨fun _=>⟨R,fWw h1⟩,fun _ h=>by cases h⟩
theorem blk_far (hR:Right n) (hF:Okf n f) (hx:1≤x) (hL:IsLev n f x L) (hB:IsBlk n.l (leadL n.l f x L (2*n.l.length)) f x n.s n.t W g) {L2:List Int} (h2:IsLev n g x L2) (h0:0≤amt L2 n.t.toNat):0≤amt L n.t.toNat∧amt L n.t.toNat<amt L2 n.t.toNat :=
 sink_farther hR hL (blkW_facts (lds_of n.l f x L) hx hF.len hB.1).1 hB.2 h2 h0
theorem blk_len (hF:Okf n f) (hx:1≤x) (hB:IsBlk n.l (leadL n.l f x L (2*n.l.length)) f x n.s n.t W g):g.length=n.l.length∧W.length≤(leadL n.l f x L (2*n.l.length)).length:=by
 have h:=blkW_facts (lds_of n.l f x L) hx hF.len hB.1
 have h2:=left_le n.l (leadL n.l f x L (2*n.l.length)) x f
 exact ⟨h.1.len,by omega⟩
end
section
variable {n:Net} (ao:Option Addr) (cap:Nat) (fo:Option Addr) (fc:Nat) {f:List Int} (w:World) (ck:checkN n=0) (hr:ARow w ao n.l) (hf:IRow w fo f) (hF:Okf n f) (x:Int) (hx:1≤x) {L:List Int} (hL:IsLev n f x L)
include ck hr hf hF hx hL
end
end Ne
end Go.Proofs.YtoadkckceladgaaGreat
namespace Go.Proofs.YtoadkckceladgaaGreat
namespace Ne
end Ne
namespace Ne
end Ne
namespace Ne
inductive Phs (n:Net) (x:Int):List Int→List Int→Nat→Nat→Prop
 | done {f L:List Int}:IsLev n f x L→amt L n.t.toNat<0→Phs n x f f 0 0
 | step {f g h L:List Int} {W:List (List Nat × Int)} {p k:Nat}:IsLev n f x L→0≤amt L n.t.toNat→IsBlk n.l (leadL n.l f x L (2*n.l.length)) f x n.s n.t W g→Phs n x g h p k→Phs n x f h (p+1) (W.length+k)
section
variable {n:Net} {TL:List Nat} {L:List Int} {x:Int} {f g h:List Int} {W:List (List Nat × Int)}
theorem blkW_okf (hR:Right n) (hL:Lds n.l L TL) (hx:1≤x) (hF:Okf n f) (b:BlkW n.l TL x n.s n.t f W g):Okf n g:=by
 obtain ⟨s,hs⟩:∃ s,s=n.s:=⟨_,rfl⟩
 obtain ⟨t,ht⟩:∃ t,t=n.t:=⟨_,rfl⟩
 rw [← hs,← ht] at b
 induction b with
 | nil f=>exact hF
 | @cons f g h R a W h1 h2 h3 _ ih =>
  have ha:=least_pos hx h1 h2
  exact ih (okf_push hR hF (by omega) (first_walk hL (by rw [hs,ht] at h1;exact h1)) h3).1
theorem snk_bd (hR:Right n) (hL:IsLev n f x L):-1≤amt L n.t.toNat∧amt L n.t.toNat<n.n∧amt L n.t.toNat≠0:=by
 have ht0:=hR.t0;have ht1:=hR.t1
 obtain ⟨h1,h2⟩:=lev_lt hR hL (i:=n.t.toNat) (by omega)
 refine ⟨h1,h2,fun e=>?_⟩
 have h3:=lev_only hR hL (i:=n.t.toNat) (by omega) e
 have:=hR.ne
 omega
theorem phs_far (hR:Right n) (hx:1≤x):∀ (d:Nat) (f L:List Int),Okf n f→IsLev n f x L→(n.n≤amt L n.t.toNat+(d:Int)∨amt L n.t.toNat<0)→∃ h p k,Phs n x f h p k
 | 0,f,L,hF,hL,hd=>by
  have:=snk_bd hR hL
  rcases hd with hd | hd
  ·omega
  ·exact ⟨f,0,0,.done hL hd⟩
 | d+1,f,L,hF,hL,hd=>by
  by_cases c:amt L n.t.toNat<0
  ·exact ⟨f,0,0,.done hL c⟩
  ·obtain ⟨W,g,hB⟩:=blk_of hR hF hx L
   obtain ⟨L2,hl2⟩:=lev_exists hR g x
   have hG:=blkW_okf hR (lds_of n.l f x L) hx hF hB.1
   obtain ⟨h,p,k,hp⟩:=phs_far hR hx d g L2 hG hl2 (by
    by_cases c2:0≤amt L2 n.t.toNat
    ·have:=(blk_far hR hF hx hL hB hl2 c2).2
     left
     rcases hd with hd | hd <;> omega
    ·right;omega)
   exact ⟨h,p+1,W.length+k,.step hL (by omega) hB hp⟩
theorem phs_exists (hR:Right n) (hx:1≤x) (hF:Okf n f):∃ h p k,Phs n x f h p k:=by
 obtain ⟨L,hL⟩:=lev_exists hR f x
 have:=snk_bd hR hL
 exact phs_far hR hx (n.n.toNat+1) f L hF hL (by left;omega)
theorem phs_one (hR:Right n) {h2:List Int} {p k p2 k2:Nat} (a:Phs n x f h p k) (b:Phs n x f h2 p2 k2):h=h2∧p=p2∧k=k2:=by
 induction a generalizing h2 p2 k2 with
 | done hL hd =>
  cases b with
  | done=>exact ⟨rfl,rfl,rfl⟩
  | step hL2 hd2=>have:=lev_one hR hL hL2;subst this;omega
 | step hL hd hB _ ih =>
  cases b with
  | done hL2 hd2=>have:=lev_one hR hL hL2;subst this;omega
  | step hL2 hd2 hB2 q =>
   have:=lev_one hR hL hL2
   subst this
   obtain ⟨rfl,rfl⟩:=blk_one hB hB2
   obtain ⟨e1,e2,e3⟩:=ih q
   exact ⟨e1,by rw [e2],by rw [e3]⟩
theorem phs_okf (hR:Right n) (hx:1≤x) {p k:Nat} (a:Phs n x f h p k) (hF:Okf n f):Okf n h∧∃ L,IsLev n h x L∧amt L n.t.toNat<0:=by
 induction a with
 | done hL hd=>exact ⟨hF,_,hL,hd⟩
 | @step f g h L W p k hL hd hB _ ih=>exact ih (blkW_okf hR (lds_of n.l f x L) hx hF hB.1)
theorem phs_flow (hR:Right n) (hx:1≤x) {p k:Nat} (a:Phs n x f h p k) (hF:Flow n f):Flow n h:=by
 induction a with
 | done hL hd=>exact hF
 | @step f g h L W p k hL hd hB _ ih=>exact ih (blkW_flow hR (lds_of n.l f x L) hx hF hB.1).1
theorem phs_few (hR:Right n) (hx:1≤x) {p k:Nat} (a:Phs n x f h p k):Okf n f→∀ L,IsLev n f x L→p≤k∧(p=0↔amt L n.t.toNat<0)∧(0<p→(p:Int)+amt L n.t.toNat≤n.n):=by
 induction a with
 | done hL hd =>
  intro hF L2 hL2
  have:=lev_one hR hL hL2
  subst this
  exact ⟨Nat.le_refl _,⟨fun _=>hd,fun _=>rfl⟩,fun h=>absurd h (by omega)⟩
 | @step f g h L W p k hL hd hB q ih =>
  intro hF L2 hL2
  have:=lev_one hR hL hL2
  subst this
  have hG:=blkW_okf hR (lds_of n.l f x L) hx hF hB.1
  obtain ⟨L3,hl3⟩:=lev_exists hR g x
  obtain ⟨i1,i2,i3⟩:=ih hG L3 hl3
  have hW:=(blk_some hR hL hB).2 hd
  have hW1:1≤W.length:=by
   rcases W with _ | ⟨a,V⟩
   ·exact absurd rfl hW
   ·simp
  have hb:=snk_bd hR hL
  refine ⟨by omega,⟨fun e=>absurd e (by omega),fun e=>by omega⟩,fun _=>?_⟩
  by_cases c:p=0
  ·subst c
   omega
  ·have h3:=i3 (by omega)
   have h4:¬ amt L3 n.t.toNat<0:=fun e=>c (i2.2 e)
   have:=(blk_far hR hF hx hL hB hl3 (by omega)).2
   omega
theorem phs_lt (hR:Right n) (hx:1≤x) {p k:Nat} (a:Phs n x f h p k) (hF:Okf n f):(p:Int)<n.n∧p≤k:=by
 obtain ⟨L,hL⟩:=lev_exists hR f x
 obtain ⟨h1,h2,h3⟩:=phs_few hR hx a hF L hL
 have hb:=snk_bd hR hL
 refine ⟨?_,h1⟩
 by_cases c:p=0
 ·have:=hR.n0;omega
 ·have:=h3 (by omega)
  have h4:¬ amt L n.t.toNat<0:=fun e=>c (h2.2 e)
  omega
theorem phs_walks (hR:Right n) (hx:1≤x) {p k:Nat} (a:Phs n x f h p k) (hF:Okf n f):k≤p*(2*n.l.length):=by
 induction a with
 | done=>omega
 | @step f g h L W p k hL hd hB q ih =>
  have:=ih (blkW_okf hR (lds_of n.l f x L) hx hF hB.1)
  have h1:=(blk_len hF hx hB).2
  have h2:=leadL_len n.l f x L (2*n.l.length)
  rw [Nat.add_mul,Nat.one_mul]
  omega
end
end Ne
end Go.Proofs.YtoadkckceladgaaGreat
namespace Go.Proofs.YtoadkckceladgaaGreat
open Go.ChangeShapes Go.WideShapes Go.ChangeAt Go.RowKit
open Lib (hid)
namespace Num
theorem retL {k:IntKind} {a b:Int} (h:a=b):Ending.returned (.int k a)=.returned (.int k b):=by rw [h]
def lenF (n:Nat):Nat:=Lib.bitLen n
theorem lenF_bounds (n:Nat) (h:n<18446744073709551616) (h0:n≠0):1≤lenF n∧2 ^ (lenF n-1)≤n∧n<2 ^ lenF n :=
 Lib.bitLenAux_bounds 64 n h h0
theorem lenF_le (n k:Nat) (hk:k≤64) (h:n<2 ^ k):lenF n≤k:=Lib.bitLen_le n k hk h

theorem tab_size:(Lib.len8tab.size:Int)=256:=by
 have:Lib.len8tab.size=256:=by decide
 omega
theorem wrap_add (k a b:Nat) (hk:k≤56) (ha:a≤8) (hb:b=k+a):wrap64 ((k:Int)+wrap64 (a:Int))=(b:Int):=by
 unfold wrap64
 omega
theorem wrap_wrap (a:Nat) (ha:a≤8):wrap64 (wrap64 (a:Int))=(a:Int):=by
 unfold wrap64
 omega
theorem len8_get (y:Int) (h:y.toNat<Lib.len8tab.size):((Lib.len8tab[y.toNat]'h).toNat:Int)=Lib.len8 y:=by
 unfold Lib.len8
 rw [getElem?_pos Lib.len8tab y.toNat h]
 rfl
set_option maxHeartbeats 32000000 in
set_option maxRecDepth 1000000 in
theorem len64_any (x:Int) (w:World) (h0:0≤x) (h1:x≤18446744073709551615) :
  Calls Tryz.prog 39 #[.int .u64 x] w fun e w'=>e=.returned (.int .i64 (lenF x.toNat))∧w=w':=by
 unfold lenF
 go_enter Tryz.func39,Tryz.ntmps39
 go_wp2
 all_goals first
  | (go_ret;refine ⟨congrArg Ending.returned (congrArg (Value.int IntKind.i64) ?_),rfl⟩;go_light)
  | (exfalso
     go_light
     have hs:=tab_size
     omega)
 all_goals first
  | (rw [len8_get (x / 4294967296 / 65536 / 256) _,Lib.len8_of (x / 4294967296 / 65536 / 256) (by omega) (by omega)]
     have e:(x / 4294967296 / 65536 / 256).toNat=x.toNat / 72057594037927936:=by omega
     have l:=Lib.bitLen_le8' (x / 4294967296 / 65536 / 256) (by omega) (by omega)
     have s:=Lib.bitLen_shift56 x.toNat (by omega) (by omega)
     rw [e] at l ⊢
     exact wrap_add 56 _ _ (by decide) l s)
  | (rw [len8_get (x / 4294967296 / 65536) _,Lib.len8_of (x / 4294967296 / 65536) (by omega) (by omega)]
     have e:(x / 4294967296 / 65536).toNat=x.toNat / 281474976710656:=by omega
     have l:=Lib.bitLen_le8' (x / 4294967296 / 65536) (by omega) (by omega)
     have s:=Lib.bitLen_shift48 x.toNat (by omega) (by omega)
     rw [e] at l ⊢
     exact wrap_add 48 _ _ (by decide) l s)
  | (rw [len8_get (x / 4294967296 / 256) _,Lib.len8_of (x / 4294967296 / 256) (by omega) (by omega)]
     have e:(x / 4294967296 / 256).toNat=x.toNat / 1099511627776:=by omega
     have l:=Lib.bitLen_le8' (x / 4294967296 / 256) (by omega) (by omega)
     have s:=Lib.bitLen_shift40 x.toNat (by omega) (by omega)
     rw [e] at l ⊢
     exact wrap_add 40 _ _ (by decide) l s)
  | (rw [len8_get (x / 4294967296) _,Lib.len8_of (x / 4294967296) (by omega) (by omega)]
     have e:(x / 4294967296).toNat=x.toNat / 4294967296:=by omega
     have l:=Lib.bitLen_le8' (x / 4294967296) (by omega) (by omega)
     have s:=Lib.bitLen_shift32 x.toNat (by omega) (by omega)
     rw [e] at l ⊢
     exact wrap_add 32 _ _ (by decide) l s)
  | (rw [len8_get (x / 65536 / 256) _,Lib.len8_of (x / 65536 / 256) (by omega) (by omega)]
     have e:(x / 65536 / 256).toNat=x.toNat / 16777216:=by omega
     have l:=Lib.bitLen_le8' (x / 65536 / 256) (by omega) (by omega)
     have s:=Lib.bitLen_shift24 x.toNat (by omega) (by omega)
     rw [e] at l ⊢
     exact wrap_add 24 _ _ (by decide) l s)
  | (rw [len8_get (x / 65536) _,Lib.len8_of (x / 65536) (by omega) (by omega)]
     have e:(x / 65536).toNat=x.toNat / 65536:=by omega
     have l:=Lib.bitLen_le8' (x / 65536) (by omega) (by omega)
     have s:=Lib.bitLen_shift16 x.toNat (by omega) (by omega)
     rw [e] at l ⊢
     exact wrap_add 16 _ _ (by decide) l s)
  | (rw [len8_get (x / 256) _,Lib.len8_of (x / 256) (by omega) (by omega)]
     have e:(x / 256).toNat=x.toNat / 256:=by omega
     have l:=Lib.bitLen_le8' (x / 256) (by omega) (by omega)
     have s:=Lib.bitLen_shift8 x.toNat (by omega) (by omega)
     rw [e] at l ⊢
     exact wrap_add 8 _ _ (by decide) l s)
  | (rw [len8_get x _,Lib.len8_of x (by omega) (by omega)]
     have l:=Lib.bitLen_le8' x (by omega) (by omega)
     exact wrap_wrap _ l)

def logF (n:Int):Int:=if n<2 then 0 else (lenF (n-1).toNat:Int)
theorem pc (k:Nat):(((2:Nat) ^ k:Nat):Int)=(2:Int) ^ k:=Int.natCast_pow 2 k
theorem logF_spec (n:Int) (h0:2≤n) (h1:n≤9223372036854775807):∃ k:Nat,logF n=k∧1≤k∧k≤63∧n≤2 ^ k∧2 ^ (k-1)<n:=by
 refine ⟨lenF (n-1).toNat,by unfold logF;rw [if_neg (by omega)],?_⟩
 obtain ⟨b1,b2,b3⟩:=lenF_bounds (n-1).toNat (by omega) (by omega)
 have b4:=lenF_le (n-1).toNat 63 (by omega) (by omega)
 generalize lenF (n-1).toNat=L at *
 have e1:=pc L
 have e2:=pc (L-1)
 generalize (2:Nat) ^ L=p1 at *
 generalize (2:Nat) ^ (L-1)=p2 at *
 refine ⟨b1,b4,by omega,by omega⟩
end Num
end Go.Proofs.YtoadkckceladgaaGreat
namespace Go.Proofs.YtoadkckceladgaaGreat
namespace Num
theorem pow_le62 (k:Nat) (h:k≤62):(1:Int)≤2 ^ k∧(2:Int) ^ k≤4611686018427387904:=by
 have h1:(2:Nat) ^ k≤2 ^ 62:=Nat.pow_le_pow_right (by omega) h
 have h2:1≤(2:Nat) ^ k:=Nat.one_le_two_pow
 have h3:(((2:Nat) ^ k:Nat):Int)=(2:Int) ^ k:=Int.natCast_pow 2 k
 omega

theorem pow_mono {a b:Nat} (h:a≤b):(2:Int) ^ a≤2 ^ b:=by
 have:=Nat.pow_le_pow_right (n:=2) (by omega) h
 have e1:=pc a
 have e2:=pc b
 generalize (2:Nat) ^ a=p1 at *
 generalize (2:Nat) ^ b=p2 at *
 omega
theorem pow_lt {a b:Nat} (h:(2:Int) ^ a<2 ^ b):a<b:=by
 by_cases c:a<b
 ·exact c
 ·have:=pow_mono (a:=b) (b:=a) (by omega);omega
end Num
end Go.Proofs.YtoadkckceladgaaGreat
namespace Go.Proofs.YtoadkckceladgaaGreat
open Go.ChangeShapes Go.WideShapes Go.ChangeAt Go.RowKit
open Lib (hid)
namespace Num
def floorF (n:Int):Int:=if n<1 then 0 else 2 ^ (lenF n.toNat-1)

theorem floorF_lo {n:Int} (h:n<1):floorF n=0:=by unfold floorF;rw [if_pos h]
theorem floorF_spec (n:Int) (h0:1≤n) (h1:n≤9223372036854775807):∃ k:Nat,floorF n=2 ^ k∧lenF n.toNat=k+1∧k≤62∧(2:Int) ^ k≤n∧n<2 ^ (k+1):=by
 obtain ⟨b1,b2,b3⟩:=lenF_bounds n.toNat (by omega) (by omega)
 have b4:=lenF_le n.toNat 63 (by omega) (by omega)
 refine ⟨lenF n.toNat-1,by unfold floorF;rw [if_neg (by omega)],by omega,by omega,?_⟩
 obtain ⟨L,hL⟩:∃ L,lenF n.toNat=L+1:=⟨lenF n.toNat-1,by omega⟩
 rw [hL] at b1 b2 b3 b4 ⊢
 rw [Nat.add_sub_cancel] at b2 ⊢
 have e1:=pc L
 have e2:=pc (L+1)
 generalize (2:Nat) ^ L=p1 at *
 generalize (2:Nat) ^ (L+1)=p2 at *
 refine ⟨by omega,by omega⟩
theorem floor_any (n:Int) (w:World) (h0:-9223372036854775808≤n) (h1:n≤9223372036854775807) :
  Calls Tryz.prog 26 #[.int .i64 n] w fun e w'=>e=.returned (.int .i64 (floorF n))∧w=w':=by
 by_cases c:n<1
 ·have E:=hid (floorF_lo c)
  go_enter Tryz.func26,Tryz.ntmps26
  go_wp2
  go_ret
  exact ⟨retL E.out.symm,rfl⟩
 ·obtain ⟨k,k1,k2,k3,k4,k5⟩:=floorF_spec n (by omega) h1
  obtain ⟨p1,p2⟩:=pow_le62 k k3
  have ct:=len64_any n w (by omega) (by omega)
  rw [k2] at ct
  have CT:=hid ct
  have E:=hid k1
  clear ct k1 k2 k4 k5
  go_enter Tryz.func26,Tryz.ntmps26
  go_wp2_with (go_at_call 39;refine CT.out.mono ?_;rintro e w' ⟨rfl,rfl⟩)
  go_ret
  exact ⟨retL E.out.symm,rfl⟩
theorem floorF_is (n:Int) (k:Nat) (h0:1≤n) (h1:n≤9223372036854775807) (lo:(2:Int) ^ k≤n) (hi:n<2 ^ (k+1)):floorF n=2 ^ k:=by
 obtain ⟨j,j1,j2,j3,j4,j5⟩:=floorF_spec n h0 h1
 rw [j1]
 have a1:=pow_lt (a:=j) (b:=k+1) (by omega)
 have a2:=pow_lt (a:=k) (b:=j+1) (by omega)
 rw [show j=k from by omega]

theorem rfloor_any (n:Int) (w:World) (h0:-9223372036854775808≤n) (h1:n≤9223372036854775807) :
  Calls Tryz.prog 27 #[.int .i64 n] w fun e w'=>e=.returned (.int .i64 (floorF n))∧w=w':=by
 by_cases c:n<1
 ·have E:=hid (floorF_lo c)
  go_enter Tryz.func27,Tryz.ntmps27
  go_wp2
  go_ret
  exact ⟨retL E.out.symm,rfl⟩
 ·go_enter Tryz.func27,Tryz.ntmps27
  go_wp2
  go_loop [3] (fun i=>∃ p:Int,1≤p∧p≤n∧Hid (∃ k:Nat,p=2 ^ k)∧i=.int .i64 p) (fun i=>(n-intOf i).toNat)
  case atStart=>exact ⟨1,by omega,by omega,hid ⟨0,rfl⟩,rfl⟩
  case round =>
   obtain ⟨p,hp1,hp2,HK,rfl⟩:=hrel
   by_cases d:p≤n / 2
   ·go_wp2
    go_round
    case rel=>exact ⟨p*2,by omega,by omega,hid (by obtain ⟨k,hk⟩:=HK.out;exact ⟨k+1,by rw [hk,Int.pow_succ]⟩),rfl⟩
    case measure=>simp [intOf];omega
   ·have E:Hid (floorF n=p):=hid (by obtain ⟨k,hk⟩:=HK.out;rw [hk];exact floorF_is n k (by omega) h1 (by omega) (by rw [Int.pow_succ];omega))
    go_wp2
    go_ret
    exact ⟨retL E.out.symm,rfl⟩
end Num
end Go.Proofs.YtoadkckceladgaaGreat
namespace Go.Proofs.YtoadkckceladgaaGreat
namespace Ne
def mxC (l:List Arc):Nat→Int
 | 0=>0
 | k+1=>max (mxC l k) (arcAt l k).cap
theorem mxC_nn (l:List Arc):∀ k,0≤mxC l k
 | 0=>Int.le_refl 0
 | k+1=>by have:=mxC_nn l k;show 0≤max (mxC l k) _;omega
theorem mxC_is (l:List Arc):∀ k,mxC l k=0∨∃ i,i<k∧(arcAt l i).cap=mxC l k
 | 0=>.inl rfl
 | k+1=>by
  show max (mxC l k) (arcAt l k).cap=0∨∃ i,i<k+1∧(arcAt l i).cap=max (mxC l k) (arcAt l k).cap
  by_cases c:mxC l k≤(arcAt l k).cap
  ·exact .inr ⟨k,by omega,by omega⟩
  ·rcases mxC_is l k with e | ⟨i,hi,e⟩
   ·left;omega
   ·exact .inr ⟨i,by omega,by omega⟩
theorem mxC_in (l:List Arc) {k:Nat} {B:Int} (h0:0≤B) (h:∀ i,i<k→(arcAt l i).cap≤B):mxC l k≤B:=by
 rcases mxC_is l k with e | ⟨i,hi,e⟩
 ·omega
 ·have:=h i hi;omega
def fstR:Nat→Int
 | 0=>0
 | k+1=>2 ^ k
def rms:Nat→List Int
 | 0=>[]
 | k+1=>2 ^ k :: rms k
theorem fst_pos (k:Nat):(1:Int)≤fstR (k+1):=by
 have h2:1≤(2:Nat) ^ k:=Nat.one_le_two_pow
 have h3:=Num.pc k
 show (1:Int)≤2 ^ k
 omega
theorem fst_succ (k:Nat):fstR (k+2)=2*fstR (k+1):=by
 show (2:Int) ^ (k+1)=2*2 ^ k
 rw [Int.pow_succ];omega
theorem fst_half (k:Nat):fstR (k+1) / 2=fstR k:=by
 cases k with
 | zero=>rfl
 | succ k=>rw [fst_succ];omega
theorem fst_le {k:Nat} (h:k≤63):fstR k≤4611686018427387904:=by
 cases k with
 | zero=>show (0:Int)≤_;omega
 | succ k=>exact (Num.pow_le62 k (by omega)).2
theorem rms_len:∀ k,(rms k).length=k
 | 0=>rfl
 | k+1=>by show (rms k).length+1=_;rw [rms_len k]
theorem rms_succ (k:Nat):rms (k+1)=fstR (k+1) :: rms k:=rfl
def staN (l:List Arc):Int:=Num.floorF (mxC l l.length)
theorem sta_is {l:List Arc} (h:mxC l l.length≤9223372036854775807):∃ K,staN l=fstR K∧K≤63∧(K=0↔mxC l l.length<1)∧mxC l l.length<fstR (K+1)∧(0<K→fstR K≤mxC l l.length):=by
 have h0:=mxC_nn l l.length
 by_cases c:mxC l l.length<1
 ·refine ⟨0,Num.floorF_lo c,by omega,⟨fun _=>c,fun _=>rfl⟩,by show _<(2:Int) ^ 0;omega,fun h=>absurd h (by omega)⟩
 ·obtain ⟨k,h1,_,h2,h3,h4⟩:=Num.floorF_spec _ (by omega) h
  exact ⟨k+1,h1,by omega,⟨fun e=>absurd e (by omega),fun e=>absurd e c⟩,h4,fun _=>h3⟩
structure Tn where
 x:Int
 p:Nat
 k:Nat
 v:Int
instance:Inhabited Tn:=⟨⟨0,0,0,0⟩⟩
def tnAt (l:List Tn) (i:Nat):Tn:=l.getD i default
inductive Sqs (n:Net):List Int→List Int→List Int→List Tn→Prop
 | nil (f:List Int):Sqs n [] f f []
 | cons {x:Int} {xs f g h:List Int} {p k:Nat} {ts:List Tn}:Phs n x f g p k→Sqs n xs g h ts→Sqs n (x :: xs) f h (⟨x,p,k,exc n.l g n.t⟩ :: ts)
section
variable {n:Net} {xs f g h:List Int} {ts:List Tn}
theorem sqs_snoc (a:Sqs n xs f g ts) {x:Int} {p k:Nat} (b:Phs n x g h p k):Sqs n (xs ++ [x]) f h (ts ++ [⟨x,p,k,exc n.l h n.t⟩]):=by
 induction a with
 | nil f=>exact .cons b (.nil _)
 | cons c _ ih=>exact .cons c (ih b)
theorem sqs_len (a:Sqs n xs f g ts):ts.length=xs.length:=by
 induction a with
 | nil=>rfl
 | cons _ _ ih=>simp [ih]
theorem sqs_flow (hR:Right n) (hx:∀ x∈xs,1≤x) (a:Sqs n xs f g ts) (hF:Flow n f):Flow n g:=by
 induction a with
 | nil=>exact hF
 | cons c _ ih=>exact ih (fun x hm=>hx x (List.mem_cons_of_mem _ hm)) (phs_flow hR (hx _ List.mem_cons_self) c hF)
theorem sqs_exists (hR:Right n):∀ (xs f:List Int),(∀ x∈xs,1≤x)→Flow n f→∃ h ts,Sqs n xs f h ts
 | [],f,_,_=>⟨f,[],.nil f⟩
 | x :: xs,f,hx,hF=>by
  have h1:=hx x List.mem_cons_self
  obtain ⟨g,p,k,P⟩:=phs_exists hR h1 hF.okf
  obtain ⟨h,ts,q⟩:=sqs_exists hR xs g (fun x hm=>hx x (List.mem_cons_of_mem _ hm)) (phs_flow hR h1 P hF)
  exact ⟨h,_,.cons P q⟩
theorem sqs_one (hR:Right n) {h2:List Int} {ts2:List Tn} (a:Sqs n xs f g ts) (b:Sqs n xs f h2 ts2):g=h2∧ts=ts2:=by
 induction a generalizing h2 ts2 with
 | nil=>cases b;exact ⟨rfl,rfl⟩
 | cons c _ ih =>
  cases b with
  | cons c2 q =>
   obtain ⟨rfl,rfl,rfl⟩:=phs_one hR c c2
   obtain ⟨rfl,rfl⟩:=ih q
   exact ⟨rfl,rfl⟩
theorem rms_pos:∀ {K:Nat},∀ x∈rms K,1≤x
 | 0,x,h=>by cases h
 | K+1,x,h=>by
  rcases List.mem_cons.1 h with e | h
  ·subst e;exact fst_pos K
  ·exact rms_pos x h
theorem phs_far_room (hR:Right n) (hF:Flow n f) {x:Int} (hx:∀ r,r<2*n.l.length→roomN n.l f r<x):Phs n x f f 0 0:=by
 obtain ⟨L,hL⟩:=lev_exists hR f x
 refine .done hL ?_
 by_cases c:amt L n.t.toNat<0
 ·exact c
 ·have ht0:=hR.t0;have ht1:=hR.t1
  obtain ⟨k,e,hd⟩:=lev_node hL (i:=n.t.toNat) (by omega) (by omega)
  rw [show ((n.t.toNat:Nat):Int)=n.t by omega] at hd
  have key:∀ {k:Nat} {v:Int},Dst n f x k v→v=n.s∨∃ r,r<2*n.l.length∧x≤roomN n.l f r:=fun hd=>by
   cases hd with
   | base=>exact .inl rfl
   | step hr h1 _=>exact .inr ⟨_,hr,h1⟩
  rcases key hd with e | ⟨r,hr,h1⟩
  ·exact absurd e.symm hR.ne
  ·have:=hx _ hr;omega
theorem phs_max (hR:Right n):Phs n 9223372036854775807 (List.replicate n.l.length 0) (List.replicate n.l.length 0) 0 0 :=
 phs_far_room hR (flow_nought hR) fun r hr=>by have:=room_far hR (flow_nought hR).wi r hr;omega
end
end Ne
end Go.Proofs.YtoadkckceladgaaGreat
