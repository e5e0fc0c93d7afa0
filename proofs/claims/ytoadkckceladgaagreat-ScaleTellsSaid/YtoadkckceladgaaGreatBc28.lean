/-
  Trw, Net13, ShownS, Slw, Opg, Open, Openc, Gek, Gck, Fwit, Frex, Frck, Gen, Gwk
-/
import Derived.Test.YtoadkckceladgaaGreatBc27
import Derived.Test.YtoadkckceladgaaGreatBc10
import Derived.Test.YtoadkckceladgaaGreatBc2
import Derived.Test.YtoadkckceladgaaGreatRows
import Derived.WalkKit
import Derived.ProofKit
import Derived.OpenShut
import Derived.Deep.Slices
import Derived.Deep.Fields
import Derived.ChangeSame
import Derived.Lib.SmallJoins
import Derived.Test.YtoadkckceladgaaGreatBc8
import Derived.Test.YtoadkckceladgaaGreatBc4
import Derived.LoopTactic
import Derived.Below
import Derived.Test.YtoadkckceladgaaGreatBc1
import Derived.Test.YtoadkckceladgaaGreatBc5
import Derived.Test.YtoadkckceladgaaGreatBc3
import Derived.BigQuiet
import Derived.WalkMore
set_option linter.unusedVariables false
set_option linter.unusedSimpArgs false
set_option maxRecDepth 100000
set_option maxHeartbeats 4000000
namespace Go.Proofs.YtoadkckceladgaaGreat
open Go.ChangeShapes Go.WideShapes Go.ChangeAt Go.RowKit
open Lib (hid)
namespace Ne
theorem trow_cell {w:World} {ao:Option Addr} {l:List Tn} (h:Rw.Row 4 encT w ao l) {i:Nat} (hi:i<l.length):∃ b off,ao=some ⟨b,off,none⟩∧b<w.heap.size∧w.cell? ⟨b,off+i*4,none⟩=some (.int .i64 (tnAt l i).x)∧w.cell? ⟨b,off+i*4+1,none⟩=some (.int .i64 ((tnAt l i).p:Int))∧w.cell? ⟨b,off+i*4+2,none⟩=some (.int .i64 ((tnAt l i).k:Int))∧w.cell? ⟨b,off+i*4+3,none⟩=some (.int .i64 (tnAt l i).v):=by
 rcases h with h | ⟨b,off,rfl,hlt,hc⟩
 ·subst h;simp at hi
 ·have e:l[i]? = some (tnAt l i):=by simp [tnAt,List.getElem?_eq_getElem hi]
  exact ⟨b,off,rfl,hlt,by have:=hc i _ e 0 _ rfl;simpa using this,by have:=hc i _ e 1 _ rfl;rwa [← Nat.add_assoc] at this,by have:=hc i _ e 2 _ rfl;rwa [← Nat.add_assoc] at this,by have:=hc i _ e 3 _ rfl;rwa [← Nat.add_assoc] at this⟩
theorem ownt_row {w:World} {B:Nat} {e:TypeId} {o:Option Addr} {m c:Nat} {l:List Tn} (h:Rw.Own e 4 encT w B (.slice o m c) l):Rw.Row 4 encT w o l:=by
 obtain ⟨o2,c2,e2,_,_,_,hr,_,_⟩:=Rw.owR encT_len h
 simp only [Value.slice.injEq] at e2
 rw [e2.1];exact hr
theorem smax_flow (n:Net) (ao:Option Addr) (cap:Nat) (w:World) (ck:checkN n=0) (hr:ARow w ao n.l) {h:List Int} {ts:List Tn} {K:Nat} (hS:Sqs n (rms K) (List.replicate n.l.length 0) h ts) (hK:staN n.l=fstR K) (hK63:K≤63) (q:Bool) :
  Calls Tryz.prog 10 #[encN n ao cap,.int .u8 (engC q)] w fun e w'=>∃ o c ot ct,e=.returned (.tuple #[.slice o n.l.length c,.slice ot K ct,.int .i64 0])∧IRow w' o h∧Rw.Row 4 encT w' ot ts∧Below w.heap.size w w':=by
 have hR:=rgO ck
 have e:scE n (engC q)=0:=by
  have h:=reE_flow ck (flow_nought hR) (show (1:Int)≤9223372036854775807 by omega)
  unfold scE rnE;rw [if_neg (by simpa using h),if_pos (by cases q;exact .inl rfl;exact .inr rfl)]
 have hm:=smax_any n ao cap (engC q) w hr (by have:=hR.len;omega) (cap_64 hR) h ts K (fun _=>hS) hK hK63
 obtain ⟨q1,q2⟩:=sc_ok e h ts
 have hl:=(sqs_flow hR (fun x hx=>rms_pos x hx) hS (flow_nought hR)).len
 have ht:=sqs_len hS
 rw [rms_len] at ht
 rw [q1,q2,e,hl,ht] at hm
 refine hm.mono ?_
 rintro e w' ⟨o,c,ot,ct,h1,h2,h3,h4⟩
 exact ⟨o,c,ot,ct,h1,owI h2,ownt_row h3,h4⟩
end Ne
end Go.Proofs.YtoadkckceladgaaGreat
namespace Go.Proofs.YtoadkckceladgaaGreat
namespace Ne
def net13:Net:=⟨2,1,2,[⟨1,2,5⟩]⟩
theorem net13_ck:checkN net13=0:=by decide
theorem net13_far {x:Int} (hx:1≤x):Phs net13 x [5] [5] 0 0:=by
 obtain ⟨L,hL⟩:=lev_exists (rgO net13_ck) [5] x
 have key:∀ {k:Nat} {v:Int},Dst net13 [5] x k v→v=1:=fun h=>by
  induction h with
  | base=>rfl
  | @step k r hr h1 _ ih =>
   have hr2:r<2:=hr
   match r,hr2 with
   | 0,_=>exact absurd h1 (by show ¬ x≤0;omega)
   | 1,_=>rfl
 refine .done hL ?_
 rcases hL.val 2 (by decide) with h | ⟨k,_,hd⟩
 ·show amt L 2<0;omega
 ·exact absurd (key hd) (by decide)
theorem net13_lev:IsLev net13 [0] 4 [-1,0,1]:=by
 have h2:Dst net13 [0] 4 1 2:=Dst.step (n:=net13) (r:=0) (by decide) (by decide) .base
 have key:∀ {k:Nat} {v:Int},Dst net13 [0] 4 k v→(k=0∧v=1)∨(k=1∧v=2):=fun h=>by
  induction h with
  | base=>exact .inl ⟨rfl,rfl⟩
  | @step k r hr h1 _ ih =>
   have hr2:r<2:=hr
   match r,hr2 with
   | 0,_ =>
    rcases ih with ⟨rfl,_⟩ | ⟨_,e⟩
    ·exact .inr ⟨rfl,rfl⟩
    ·exact absurd e (by decide)
   | 1,_=>exact absurd h1 (by decide)
 refine ⟨rfl,fun i hi=>?_,fun k v hd=>?_⟩
 ·have hi2:i<3:=hi
  match i,hi2 with
  | 0,_=>exact .inl rfl
  | 1,_=>exact .inr ⟨0,rfl,.base⟩
  | 2,_=>exact .inr ⟨1,rfl,h2⟩
 ·rcases key hd with ⟨rfl,rfl⟩ | ⟨rfl,rfl⟩
  ·exact ⟨by decide,by decide⟩
  ·exact ⟨by decide,by decide⟩
theorem net13_blk:IsBlk net13.l (leadL net13.l [0] 4 [-1,0,1] (2*net13.l.length)) [0] 4 net13.s net13.t [([0],5)] [5]:=by
 rw [show leadL net13.l [0] 4 [-1,0,1] (2*net13.l.length)=[0] by decide]
 refine ⟨.cons (g:=[5]) ?_ ⟨by decide,⟨0,by decide,by decide⟩⟩ (by decide) (.nil _),fun R hW=>?_⟩
 ·exact FirstW.step (l:=net13.l) (TL:=[0]) (f:=[0]) (x:=4) (t:=2) (r:=0) (R:=[]) (by decide) (by decide) (by decide) (show FirstW net13.l [0] [0] 4 2 2 [] from .done) (fun q _ _ _ hlt=>absurd hlt (by omega))
 ·rcases wlk_inv hW with ⟨_,e⟩ | ⟨q,Q,_,_,h1,h2,_⟩
  ·revert e;decide
  ·obtain rfl:q=0:=by simpa using h1
   revert h2;decide
theorem net13_sqs:Sqs net13 (rms 3) (List.replicate net13.l.length 0) [5] [⟨4,1,1,5⟩,⟨2,0,0,5⟩,⟨1,0,0,5⟩] :=
 .cons (.step (W:=[([0],5)]) net13_lev (by decide) net13_blk (net13_far (by decide))) (.cons (net13_far (by decide)) (.cons (net13_far (by decide)) (.nil _)))
theorem net13_sta:staN net13.l=fstR 3:=by
 obtain ⟨K,h1,h2,h3,h4,h5⟩:=sta_is (l:=net13.l) (by decide)
 have e:mxC net13.l net13.l.length=5:=by decide
 rw [e] at h3 h4 h5
 rw [h1]
 have c1:K≤3:=by
  by_cases c:K≤3
  ·exact c
  ·have:=h5 (by omega)
   obtain ⟨j,rfl⟩:∃ j,K=j+1:=⟨K-1,by omega⟩
   have h6:(2:Int) ^ 3≤2 ^ j:=Num.pow_mono (by omega)
   have h7:fstR (j+1)=2 ^ j:=rfl
   omega
 have c2:3≤K:=by
  by_cases c:3≤K
  ·exact c
  ·have h6:(2:Int) ^ K≤2 ^ 2:=Num.pow_mono (by omega)
   have h7:fstR (K+1)=2 ^ K:=rfl
   omega
 rw [show K=3 by omega]
end Ne
end Go.Proofs.YtoadkckceladgaaGreat
namespace Go.Proofs.YtoadkckceladgaaGreat
open Go.ChangeShapes Go.WideShapes Go.ChangeAt Go.RowKit
open Lib (hid)
namespace Ne
theorem shown_any (w:World):Calls Tryz.prog 9 #[] w fun e w'=>e=.returned (.bool true)∧Below w.heap.size w w':=by
 have hA:=arow_at1 w rfl ⟨1,2,5⟩
 have HB:=hid ((Below.refl w.heap.size w).alloc (Nat.le_refl _) (.cells #[.int .i64 1,.int .i64 2,.int .i64 5] 51))
 have C:=hid (smax_flow net13 (some ⟨w.heap.size,0,none⟩) 1 _ net13_ck hA net13_sqs net13_sta (by omega) false)
 rw [show net13.l.length=1 from rfl] at C
 unfold net13 engC at C
 simp only [Bool.false_eq_true,if_false] at C
 clear hA
 go_enter Tryz.func9,Tryz.ntmps9
 go_wp2_with fail
 refine C.out.mono ?_
 rintro e w1 ⟨o,c,ot,ct,rfl,hi,ht,hb⟩
 have HB1:=hid (HB.out.trans (hb.mono (by simp)))
 obtain ⟨b0,o0,rfl,_,d0⟩:=irC hi (i:=0) (by simp)
 obtain ⟨b1,o1,rfl,_,t0,_,_,t3⟩:=trow_cell ht (i:=0) (by simp)
 obtain ⟨b2,o2,he1,_,t4,_,_,_⟩:=trow_cell ht (i:=1) (by simp)
 simp only [Option.some.injEq,Addr.mk.injEq,and_true] at he1
 obtain ⟨rfl,rfl⟩:=he1
 obtain ⟨b3,o3,he1,_,t8,_,_,_⟩:=trow_cell ht (i:=2) (by simp)
 simp only [Option.some.injEq,Addr.mk.injEq,and_true] at he1
 obtain ⟨rfl,rfl⟩:=he1
 simp [amt] at d0
 simp [tnAt] at t0 t3 t4 t8
 clear hb hi ht
 go_wp2
 go_ret
 exact ⟨rfl,HB1.out⟩
end Ne
end Go.Proofs.YtoadkckceladgaaGreat
namespace Go.Proofs.YtoadkckceladgaaGreat
namespace Ne
section
variable {n:Net}
variable {K:Nat} {h:List Int} {ts:List Tn}
end
end Ne
end Go.Proofs.YtoadkckceladgaaGreat
namespace Go.Proofs.YtoadkckceladgaaGreat
open Go.Joins Go.ChangeShapes Go.WideShapes Go.RowKit Go.Deep
namespace Ne
section
variable {H:Type} {enc:TypeId × Value→H} {P:Program} {w:World} {base:Nat} {spare:Nat→Bool} {held:Bool}
theorem open_slice_fields {t e:TypeId} {fs:Array Field} {fuel:Nat} {cs:List Value} {x:DataW H × List MemPlace} (ht:P.underlying t=some (.slice e)) (he:P.underlying e=some (.struct fs))
  (hone:oneCellFields P fs=true) (hC:P.cellsOf e=fs.size) (h:DataW.trod enc P w base spare held fuel t cs=some x) :
  cs=[.slice none 0 0] ∨
  ∃ (a:Addr) (len cap:Nat),cs=[.slice (some a) len cap]∧len≤cap∧cap≤maxLen ∧
   ∀ i,i<len→∀ (j:Nat) (f:Field),fs[j]? = some f→∃ (v:Value) (y:DataW H × List MemPlace) (n:Nat),w.cell? (a.add (i*fs.size+j))=some v∧DataW.trod enc P w base spare held n f.type [v]=some y:=by
 rcases open_slice ht h with h0 | ⟨a,len,cap,m,n,D,Pl,hcs,hb,hl,hm,hmm,hx,hi⟩
 ·exact .inl h0.1
 ·refine .inr ⟨a,len,cap,hcs,hl,hm,fun i him j f hj=>?_⟩
  obtain ⟨cs',hc,ht'⟩:=hi i (by rw [hmm];split <;> omega)
  rw [hC] at hc
  obtain ⟨ys,n',hn',hy,hlen,hyl,hf⟩:=DataW.trod_struct he ht'
  obtain ⟨_,hcl,hat⟩:=World.cells?_some hc
  obtain ⟨ho,hk⟩:=hone_of hone j f hj
  have hjl:j<fs.size:=(Array.getElem?_eq_some_iff.1 hj).1
  have hcell:=hat j hjl
  have hv:cs'[j]? = some (cs'[j]'(by omega)):=List.getElem?_eq_getElem (by omega)
  have h1:=hf j f hj
  rw [ho,hk] at h1
  have hone':(cs'.drop j).take 1=[cs'[j]'(by omega)]:=by
   rw [List.drop_eq_getElem_cons (by omega)]
   rfl
  rw [hone'] at h1
  have hys:ys[j]? = some (ys[j]'(by omega)):=List.getElem?_eq_getElem (by omega)
  refine ⟨_,_,n',?_,h1.trans hys⟩
  rw [← Go.Deep.add_add,hcell,hv]
end
end Ne
namespace Ne
section
variable {H:Type} {enc:TypeId × Value→H} {P:Program} {w:World} {base:Nat} {spare:Nat→Bool} {held:Bool}
theorem open_row3 {t e:TypeId} {f0 f1 f2:Field} {fuel:Nat} {cs:List Value} {x:DataW H × List MemPlace} (ht:P.underlying t=some (.slice e)) (he:P.underlying e=some (.struct #[f0,f1,f2]))
  (hone:oneCellFields P #[f0,f1,f2]=true) (hC:P.cellsOf e=3) (i0:P.underlying f0.type=some (.int .i64)) (i1:P.underlying f1.type=some (.int .i64)) (i2:P.underlying f2.type=some (.int .i64))
  (h:DataW.trod enc P w base spare held fuel t cs=some x) :
  ∃ (ao:Option Addr) (cap:Nat) (l:List Arc),cs=[.slice ao l.length cap]∧l.length≤cap∧cap≤maxLen∧(ao=none→cap=0)∧ARow w ao l∧∀ a∈l,a.ok:=by
 rcases open_slice_fields ht he hone hC h with h0 | ⟨a,len,cap,hcs,hl,hm,hf⟩
 ·exact ⟨none,0,[],h0,by simp,by simp,fun _=>rfl,.inl rfl,by simp⟩
 ·have hel:∀ i,i<len→∃ c:Arc,c.ok∧w.cell? (a.add (i*3))=some (.int .i64 c.fr)∧w.cell? (a.add (i*3+1))=some (.int .i64 c.to)∧w.cell? (a.add (i*3+2))=some (.int .i64 c.cap):=by
   intro i hi
   obtain ⟨v0,y0,n0,h0,t0⟩:=hf i hi 0 f0 rfl
   obtain ⟨v1,y1,n1,h1,t1⟩:=hf i hi 1 f1 rfl
   obtain ⟨v2,y2,n2,h2,t2⟩:=hf i hi 2 f2 rfl
   obtain ⟨z0,e0,_,w0⟩:=DataW.trod_int i0 t0
   obtain ⟨z1,e1,_,w1⟩:=DataW.trod_int i1 t1
   obtain ⟨z2,e2,_,w2⟩:=DataW.trod_int i2 t2
   simp only [List.cons.injEq,and_true] at e0 e1 e2
   subst e0 e1 e2
   refine ⟨⟨z0,z1,z2⟩,⟨bounds_i64 w0,bounds_i64 w1,bounds_i64 w2⟩,h0,h1,h2⟩
  obtain ⟨g,hg⟩:=choose_lt hel
  refine ⟨some a,cap,(List.range len).map g,by simpa using hcs,by simpa using hl,hm,fun h=>by (cases h),?_,?_⟩
  ·by_cases h0:len=0
   ·left;subst h0;rfl
   ·right
    have h1:=(hg 0 (by omega)).2.1
    obtain ⟨b,off,sp⟩:=a
    have hsp:=World.cell?_spot h1
    rw [Nat.zero_mul] at hsp
    simp only [Addr.add,if_true] at hsp
    subst hsp
    refine ⟨b,off,rfl,?_,?_⟩
    ·rw [Nat.zero_mul] at h1
     exact Rw.heap_lt_of_cell (o:=off) (by simpa [Addr.add] using h1)
    ·intro i c hc j v hv
     have hi:i<len:=by have:=(List.getElem?_eq_some_iff.1 hc).1;simpa using this
     have e:((List.range len).map g)[i]? = some (g i):=by simp [hi]
     obtain rfl:=Option.some.inj (e.symm.trans hc)
     obtain ⟨_,q0,q1,q2⟩:=hg i hi
     rw [Rw.add_at] at q0 q1 q2
     match j,hv with
     | 0,hv=>simp [encA] at hv;subst hv;exact q0
     | 1,hv=>simp [encA] at hv;subst hv;exact q1
     | 2,hv=>simp [encA] at hv;subst hv;exact q2
     | (j+3),hv=>simp [encA] at hv
  ·intro c hc
   obtain ⟨i,hi,rfl⟩:=List.mem_map.1 hc
   exact (hg i (by simpa using hi)).1
end
section
variable {H:Type} {enc:TypeId × Value→H} {w:World} {base b0:Nat} {r:Reach} {spare:Nat→Bool} {held:Bool}
theorem open_net {v:Value} {d:DataW H} {p:List MemPlace} (hv:Value.okWide Tryz.prog w r b0 24 v) (h:DataW.Trod enc Tryz.prog w base spare held 24 v d p) :
  ∃ (n:Net) (ao:Option Addr) (cap:Nat),v=encN n ao cap∧n.ok∧n.l.length≤cap∧cap≤maxLen∧(ao=none→cap=0)∧ARow w ao n.l:=by
 obtain ⟨v0,v1,v2,v3,y0,y1,y2,y3,n,rfl,_,_,t0,t1,t2,t3⟩:=open_agg4 Tryz.underlying24 (by kernel_rfl) (by kernel_rfl) hv h
 obtain ⟨z0,e0,_,w0⟩:=DataW.trod_int Tryz.underlying3 t0
 obtain ⟨z1,e1,_,w1⟩:=DataW.trod_int Tryz.underlying3 t1
 obtain ⟨z2,e2,_,w2⟩:=DataW.trod_int Tryz.underlying3 t2
 obtain ⟨ao,cap,l,e3,hl,hm,hn,hr,hk⟩:=open_row3 Tryz.underlying22 Tryz.underlying51 (by kernel_rfl) (by kernel_rfl) Tryz.underlying3 Tryz.underlying3 Tryz.underlying2 t3
 simp only [List.cons.injEq,and_true] at e0 e1 e2 e3
 subst e0 e1 e2 e3
 exact ⟨⟨z0,z1,z2,l⟩,ao,cap,rfl,⟨bounds_i64 w0,bounds_i64 w1,bounds_i64 w2,hk⟩,hl,hm,hn,hr⟩
end
end Ne
namespace Ne
section
variable {H:Type} {enc:TypeId × Value→H} {w:World} {base b0:Nat} {r:Reach} {spare:Nat→Bool} {held:Bool}
end
end Ne
end Go.Proofs.YtoadkckceladgaaGreat
namespace Go.Proofs.YtoadkckceladgaaGreat
open Go.ChangeShapes Go.WideShapes Go.ChangeAt Go.RowKit
open Lib (hid)
namespace Ne
theorem elemKr:Rw.Elem 100 81 2 32 (.agg #[.slice none 0 0,.int .i64 0]):=⟨by kernel_rfl,Tryz.underlying81,rfl,by decide,by decide⟩
end Ne
namespace Ne
theorem rcheck_any (n:Net) (ao:Option Addr) (cap:Nat) (w:World) (hr:ARow w ao n.l) (hl:n.l.length≤1000000) :
  Calls Tryz.prog 23 #[encN n ao cap] w fun e w'=>e=.returned (.int .i64 (checkN n))∧Below w.heap.size w w':=by
 obtain ⟨nn,ns,nt,l⟩:=n
 simp only at hr hl ⊢
 have HR:=hid (hr.kept ((Below.refl _ _).alloc (Nat.le_refl _) (.cells #[.int .i64 nn,.int .i64 ns,.int .i64 nt,.slice ao l.length cap] 24)))
 have HB0:=hid ((Below.refl w.heap.size w).alloc (Nat.le_refl _) (.cells #[.int .i64 nn,.int .i64 ns,.int .i64 nt,.slice ao l.length cap] 24))
 clear hr
 by_cases g1:nn<2
 ·have HE:=hid (show checkN ⟨nn,ns,nt,l⟩=3 by unfold checkN;rw [if_pos (.inl g1)])
  go_enter Tryz.func23,Tryz.ntmps23
  go_wp2
  go_ret
  exact ⟨retI HE.out.symm,HB0.out⟩
 by_cases g2:500<nn
 ·have HE:=hid (show checkN ⟨nn,ns,nt,l⟩=3 by unfold checkN;rw [if_pos (.inr g2)])
  go_enter Tryz.func23,Tryz.ntmps23
  go_wp2
  go_ret
  exact ⟨retI HE.out.symm,HB0.out⟩
 by_cases g3:1≤ns∧ns≤nn∧1≤nt∧nt≤nn
 ·obtain ⟨g31,g32,g33,g34⟩:=g3
  have HI:=hid (show (isNode nn ns && isNode nn nt)=true by simp [isNode];omega)
  by_cases g4:ns=nt
  ·have HE:=hid (show checkN ⟨nn,ns,nt,l⟩=5 by unfold checkN;rw [if_neg (show ¬ (nn<2∨500<nn) by omega),if_pos HI.out,if_pos g4])
   have g4':(ns == nt)=true:=by simp [g4]
   clear g4
   go_enter Tryz.func23,Tryz.ntmps23
   go_wp2
   go_ret
   exact ⟨retI HE.out.symm,HB0.out⟩
  have g4':(ns == nt)=false:=by simp [g4]
  by_cases g5:2000<l.length
  ·have HE:=hid (show checkN ⟨nn,ns,nt,l⟩=6 by unfold checkN;rw [if_neg (show ¬ (nn<2∨500<nn) by omega),if_pos HI.out,if_neg g4,if_pos g5])
   have g5':(2000:Int)<(l.length:Int):=by omega
   clear g4
   go_enter Tryz.func23,Tryz.ntmps23
   go_wp2
   go_ret
   exact ⟨retI HE.out.symm,HB0.out⟩
  have HE:=hid (show checkN ⟨nn,ns,nt,l⟩=checkL nn 4611686018427387903 l by unfold checkN;rw [if_neg (show ¬ (nn<2∨500<nn) by omega),if_pos HI.out,if_neg g4,if_neg g5])
  have g5':¬ (2000:Int)<(l.length:Int):=by omega
  clear g4
  go_enter Tryz.func23,Tryz.ntmps23
  go_wp2
  go_loopw [3,4] (fun lf i wr=>∃ (k:Nat) (left:Int),i=.int .i64 k∧lf=.int .i64 left∧k≤l.length∧0≤left∧left≤4611686018427387903∧checkL nn left (l.drop k)=checkL nn 4611686018427387903 l∧Below (w.heap.size+1) (w.alloc (.cells #[.int .i64 nn,.int .i64 ns,.int .i64 nt,.slice ao l.length cap] 24)) wr) (fun _ i _=>l.length-(intOf i).toNat)
  case atStart=>exact ⟨0,_,rfl,rfl,Nat.zero_le _,by omega,by omega,rfl,Below.refl _ _⟩
  case round =>
   obtain ⟨k,left,rfl,rfl,hk,hl0,hl1,he,hbel⟩:=hrel
   have HB:=hid hbel
   have HC:=hid he
   have hbox:wr.cell? ⟨w.heap.size,3,none⟩=some (.slice ao l.length cap):=by
    rw [hbel.cell (p:=⟨w.heap.size,3,none⟩) (by simp)];rw [World.cell?_alloc_new];rfl
   have hbn:wr.cell? ⟨w.heap.size,0,none⟩=some (.int .i64 nn):=by
    rw [hbel.cell (p:=⟨w.heap.size,0,none⟩) (by simp)];rw [World.cell?_alloc_new];rfl
   have hsz:w.heap.size+1≤wr.heap.size:=by have:=hbel.size;simpa using this
   have hbn2:∀ o:Obj,(wr.alloc o).cell? ⟨w.heap.size,0,none⟩=some (.int .i64 nn):=fun o=>(World.cell?_alloc_lt wr o _ (by show w.heap.size<_;omega)).trans hbn
   clear hbel he
   by_cases hlt:k<l.length
   ·obtain ⟨a,ha⟩:∃ a,l[k]? = some a:=⟨_,List.getElem?_eq_getElem hlt⟩
    rcases (HR.out.below (B:=w.heap.size+1) (fun b off h=>by rcases HR.out with h2 | ⟨b2,o2,h2,h3,_⟩;(exfalso;rw [h2] at hlt;simp at hlt);(rw [h2] at h;cases h;simpa using h3)) HB.out.size HB.out) with h | ⟨b,off,rfl,hbl,hcell⟩
    ·exfalso;rw [h] at hlt;simp at hlt
    obtain ⟨c0,c1,c2⟩:=arow_at hcell ha
    clear hcell
    rw [drop_at ha] at HC
    clear ha
    by_cases ga:1≤a.fr∧a.fr≤nn∧1≤a.to∧a.to≤nn
    ·have HX:=hid (show (isNode nn a.fr && isNode nn a.to)=true by simp [isNode];omega)
     obtain ⟨ga1,ga2,ga3,ga4⟩:=ga
     by_cases gc:a.cap<0
     ·have HV:=hid (show checkL nn left (a :: l.drop (k+1))=3 by unfold checkL;rw [if_pos HX.out,if_pos gc])
      go_wp2
      go_ret
      exact ⟨retI (by rw [HE.out,← HC.out,HV.out]),HB0.out.trans ((HB.out.mono (by omega)).alloc (by omega) _)⟩
     by_cases gl:left<a.cap
     ·have HV:=hid (show checkL nn left (a :: l.drop (k+1))=7 by unfold checkL;rw [if_pos HX.out,if_neg gc,if_pos gl])
      go_wp2
      go_ret
      exact ⟨retI (by rw [HE.out,← HC.out,HV.out]),HB0.out.trans ((HB.out.mono (by omega)).alloc (by omega) _)⟩
     have HV:=hid (show checkL nn left (a :: l.drop (k+1))=checkL nn (left-a.cap) (l.drop (k+1)) by rw [checkL,if_pos HX.out,if_neg gc,if_neg gl])
     go_wp2
     go_roundw
     case rel=>exact ⟨k+1,left-a.cap,by go_num,by go_num,by omega,by omega,by omega,by rw [← HV.out,HC.out],HB.out.alloc hsz _⟩
     case measure=>simp [intOf];omega
    ·have HV:=hid (show checkL nn left (a :: l.drop (k+1))=4 by unfold checkL;rw [if_neg];simp [isNode];omega)
     by_cases q1:a.fr<1
     ·clear ga
      go_wp2
      go_ret
      exact ⟨retI (by rw [HE.out,← HC.out,HV.out]),HB0.out.trans ((HB.out.mono (by omega)).alloc (by omega) _)⟩
     by_cases q2:nn<a.fr
     ·have q1':1≤a.fr:=by omega
      clear ga
      go_wp2
      go_ret
      exact ⟨retI (by rw [HE.out,← HC.out,HV.out]),HB0.out.trans ((HB.out.mono (by omega)).alloc (by omega) _)⟩
     have q1':1≤a.fr:=by omega
     have q2':a.fr≤nn:=by omega
     by_cases q3:a.to<1
     ·clear ga
      go_wp2
      go_ret
      exact ⟨retI (by rw [HE.out,← HC.out,HV.out]),HB0.out.trans ((HB.out.mono (by omega)).alloc (by omega) _)⟩
     have q3':1≤a.to:=by omega
     have q4:nn<a.to:=by omega
     clear ga
     go_wp2
     go_ret
     exact ⟨retI (by rw [HE.out,← HC.out,HV.out]),HB0.out.trans ((HB.out.mono (by omega)).alloc (by omega) _)⟩
   ·have ek:k=l.length:=by omega
    subst ek
    rw [List.drop_length] at HC
    go_wp2
    go_ret
    exact ⟨retI (by rw [HE.out,← HC.out];rfl),HB0.out.trans (HB.out.mono (by omega))⟩
 ·have HE:=hid (show checkN ⟨nn,ns,nt,l⟩=4 by unfold checkN;rw [if_neg (show ¬ (nn<2∨500<nn) by omega),if_neg];simp [isNode];omega)
  go_enter Tryz.func23,Tryz.ntmps23
  by_cases q1:ns<1
  ·clear g3
   go_wp2
   go_ret
   exact ⟨retI HE.out.symm,HB0.out⟩
  by_cases q2:nn<ns
  ·have q1':1≤ns:=by omega
   clear g3
   go_wp2
   go_ret
   exact ⟨retI HE.out.symm,HB0.out⟩
  have q1':1≤ns:=by omega
  have q2':ns≤nn:=by omega
  by_cases q3:nt<1
  ·clear g3
   go_wp2
   go_ret
   exact ⟨retI HE.out.symm,HB0.out⟩
  have q3':1≤nt:=by omega
  have q4:nn<nt:=by omega
  clear g3
  go_wp2
  go_ret
  exact ⟨retI HE.out.symm,HB0.out⟩
end Ne
namespace Ne
theorem within_any (n:Net) (ao:Option Addr) (cap:Nat) (fo:Option Addr) (fc:Nat) (f:List Int) (w:World) (hr:ARow w ao n.l) (hf:IRow w fo f) (hl:n.l.length≤1000000) :
  Calls Tryz.prog 47 #[encN n ao cap,.slice fo f.length fc] w fun e w'=>e=.returned (.int .i64 (chkA n f))∧Below w.heap.size w w':=by
 have CK:=hid (fun w' (h:ARow w' ao n.l)=>rcheck_any n ao cap w' h hl)
 have E1:=hid (fun h=>chkA_net (n:=n) (f:=f) h)
 have E2:=hid (fun h1 h2=>chkA_cnt (n:=n) (f:=f) h1 h2)
 have E3:=hid (fun h1 h2 h3=>chkA_rng (n:=n) (f:=f) h1 h2 h3)
 have E4:=hid (fun h1 h2 h3=>chkA_in (n:=n) (f:=f) h1 h2 h3)
 obtain ⟨R,hR⟩:∃ x,x=chkA n f:=⟨_,rfl⟩
 rw [← hR] at E1 E2 E3 E4 ⊢
 clear hR
 obtain ⟨c,hc⟩:∃ c,checkN n=c:=⟨_,rfl⟩
 rw [hc] at CK E1 E2 E3 E4
 clear hc
 obtain ⟨nn,ns,nt,l⟩:=n
 simp only at hr hl CK E1 E2 E3 E4 ⊢
 have HB0:=hid ((Below.refl w.heap.size w).alloc (Nat.le_refl _) (.cells #[.int .i64 nn,.int .i64 ns,.int .i64 nt,.slice ao l.length cap] 24))
 have HN0:=hid (nbN w nn ns nt (.slice ao l.length cap))
 have HR:=hid hr
 have HF:=hid hf
 clear hr hf
 by_cases c1:c=0
 case neg =>
  have HE:=hid (E1.out c1)
  have c1':(c == 0)=false:=by simpa using c1
  have c1n:(c != 0)=true:=by simpa using c1
  clear c1
  go_enter Tryz.func47,Tryz.ntmps47
  go_wp2_with fail
  refine (CK.out _ (HR.out.kept HB0.out)).mono ?_
  rintro e w1 ⟨rfl,hb⟩
  have HB1:=hid (HB0.out.trans (hb.mono (by simp)))
  clear hb
  go_wp2
  go_ret
  exact ⟨retI HE.out.symm,HB1.out⟩
 subst c1
 by_cases c2:f.length=l.length
 case neg =>
  have HE:=hid (E2.out (by trivial) c2)
  have c2':((f.length:Int) == (l.length:Int))=false:=by simp;omega
  have c2n:((f.length:Int) != (l.length:Int))=true:=by simp;omega
  clear c2
  go_enter Tryz.func47,Tryz.ntmps47
  go_wp2_with fail
  refine (CK.out _ (HR.out.kept HB0.out)).mono ?_
  rintro e w1 ⟨rfl,hb⟩
  have HB1:=hid (HB0.out.trans (hb.mono (by simp)))
  have HN1:=nbB HN0.out hb (by simp)
  obtain ⟨n0,n1,n2,n3⟩:=nbC HN1
  clear hb HN1
  go_wp2
  go_ret
  exact ⟨retI HE.out.symm,HB1.out⟩
 have HLE:=hid c2
 rw [c2]
 clear c2
 go_enter Tryz.func47,Tryz.ntmps47
 go_wp2_with fail
 refine (CK.out _ (HR.out.kept HB0.out)).mono ?_
 rintro e w1 ⟨rfl,hb⟩
 have HB1:=hid (HB0.out.trans (hb.mono (by simp)))
 have HN1:=nbB HN0.out hb (by simp)
 obtain ⟨n0,n1,n2,n3⟩:=nbC HN1
 have HN2:=hid HN1
 clear hb HN1
 go_wp2
 clear n0 n1 n2 n3
 go_loopw [6] (fun i wr=>∃ (k:Nat),i=.int .i64 k∧k≤l.length∧Hid (Below w.heap.size w wr)∧Hid (NetBox wr w.heap.size nn ns nt (.slice ao l.length cap))∧Hid (∀ i,i<k→0≤amt f i∧amt f i≤(arcAt l i).cap)) (fun i _=>l.length-(intOf i).toNat)
 case atStart=>exact ⟨0,rfl,Nat.zero_le _,HB1,HN2,hid (fun i hi=>absurd hi (by omega))⟩
 case round =>
  obtain ⟨k,rfl,hk,HB,HN,HW⟩:=hrel
  obtain ⟨n0,n1,n2,n3⟩:=nbC HN.out
  by_cases hlt:k<l.length
  ·obtain ⟨b,off,rfl,hbl,c0,c1,c2⟩:=arC (HR.out.kept HB.out) hlt
   obtain ⟨b2,off2,rfl,hbl2,d0⟩:=irC (HF.out.kept HB.out) (i:=k) (by have:=HLE.out;omega)
   have HBD:=hid (fun h=>wi_bad (l:=l) (f:=f) hlt h)
   have HST:=hid (show ∀ i,i<k+1→(0≤amt f k∧amt f k≤(arcAt l k).cap)→0≤amt f i∧amt f i≤(arcAt l i).cap from fun i hi h=>by
    by_cases e:i=k
    ·subst e;exact h
    ·exact HW.out i (by omega))
   generalize amt f k=x at *
   generalize arcAt l k=a at *
   obtain ⟨fr,tu,ca⟩:=a
   simp only at c0 c1 c2 HBD HST
   have hki:(k:Int)<(l.length:Int):=by omega
   have hk0:(0:Int)≤(k:Int):=by omega
   by_cases p1:x<0
   ·have HE:=hid (E3.out (by trivial) HLE.out (HBD.out (.inl p1)))
    have p1':decide (x<0)=true:=by simpa using p1
    go_wp2
    go_quiet (fail)
    go_wp2
    go_ret
    exact ⟨retI HE.out.symm,bDn HB.out _⟩
   ·have p1':decide (x<0)=false:=by simpa using p1
    by_cases p2:ca<x
    ·have HE:=hid (E3.out (by trivial) HLE.out (HBD.out (.inr p2)))
     have p2':decide (ca<x)=true:=by simpa using p2
     go_wp2
     go_quiet (fail)
     go_wp2
     go_ret
     exact ⟨retI HE.out.symm,bDn HB.out _⟩
    ·have p2':decide (ca<x)=false:=by simpa using p2
     have HST2:=hid (fun i hi=>HST.out i hi (by omega))
     go_wp2
     go_quiet (fail)
     go_wp2
     go_roundw
     case rel=>exact ⟨k+1,by go_num,by omega,hid (bDn HB.out _),HN,HST2⟩
     case measure=>simp [intOf];omega
  ·have ek:k=l.length:=by omega
   subst ek
   have HE:=hid (E4.out (by trivial) HLE.out HW.out)
   go_wp2
   go_ret
   exact ⟨retI HE.out.symm,HB.out⟩
end Ne
namespace Ne
theorem rexc_any (n:Net) (ao:Option Addr) (cap:Nat) (fo:Option Addr) (fc:Nat) (f:List Int) (v:Int) (w:World) (hr:ARow w ao n.l) (hf:IRow w fo f) (hc:chkA n f=0) :
  Calls Tryz.prog 38 #[encN n ao cap,.slice fo f.length fc,.int .i64 v] w fun e w'=>e=.returned (.int .i64 (exc n.l f v))∧Below w.heap.size w w':=by
 obtain ⟨_,RT,hfl,hwi⟩:=chkA_ok hc
 have TB:=hid (fun k h=>toS_bd RT hwi v (k:=k) h)
 have FB:=hid (fun k h=>frS_bd RT hwi v (k:=k) h)
 have AB:=hid (fun i h=>amt_bd RT hwi (i:=i) h)
 have hL:=RT.len
 clear RT hwi hc
 obtain ⟨nn,ns,nt,l⟩:=n
 simp only at hr hfl TB FB AB hL ⊢
 have HEX:=hid (show exc l f v=toS l f v l.length-frS l f v l.length from rfl)
 have HLE:=hid hfl
 rw [hfl]
 have HB0:=hid ((Below.refl w.heap.size w).alloc (Nat.le_refl _) (.cells #[.int .i64 nn,.int .i64 ns,.int .i64 nt,.slice ao l.length cap] 24))
 have HN0:=hid (nbN w nn ns nt (.slice ao l.length cap))
 have HR:=hid (hr.kept HB0.out)
 have HF:=hid (hf.kept HB0.out)
 clear hr hf hfl
 go_enter Tryz.func38,Tryz.ntmps38
 go_wp2
 generalize (w.alloc (.cells #[.int .i64 nn,.int .i64 ns,.int .i64 nt,.slice ao l.length cap] 24))=W0 at *
 go_loopw [7,8] (fun x i wr=>∃ (k:Nat) (z:Int),x=.int .i64 z∧i=.int .i64 k∧k≤l.length∧wr=W0∧Hid (z=toS l f v k-frS l f v k)) (fun _ i _=>l.length-(intOf i).toNat)
 case atStart=>exact ⟨0,0,rfl,rfl,Nat.zero_le _,rfl,hid rfl⟩
 case round =>
  obtain ⟨k,z,rfl,rfl,hk,rfl,HZ⟩:=hrel
  obtain ⟨n0,n1,n2,n3⟩:=nbC HN0.out
  by_cases hlt:k<l.length
  ·obtain ⟨b,off,rfl,hbl,c0,c1,c2⟩:=arC HR.out hlt
   obtain ⟨b2,off2,rfl,hbl2,d0⟩:=irC HF.out (i:=k) (by have:=HLE.out;omega)
   obtain ⟨x0,x1⟩:=AB.out k hlt
   have t1:=TB.out k hk
   have t2:=TB.out (k+1) (by omega)
   have s1:=FB.out k hk
   have s2:=FB.out (k+1) (by omega)
   have eT:=toS_succ l f v k
   have eF:=frS_succ l f v k
   have hz:=HZ.out
   have hki:(k:Int)<(l.length:Int):=by omega
   have hk0:(0:Int)≤(k:Int):=by omega
   have HG:=hid (show ∀ z',z' = toS l f v (k+1)-frS l f v (k+1)→z' = toS l f v (k+1)-frS l f v (k+1) from fun _ h=>h)
   by_cases p:(arcAt l k).to=v
   ·rw [if_pos p] at eT
    have p':((arcAt l k).to == v)=true:=by simpa using p
    by_cases q:(arcAt l k).fr=v
    ·rw [if_pos q] at eF
     have q':((arcAt l k).fr == v)=true:=by simpa using q
     have hq:=HG.out z (by omega)
     have HQ:=hid hq
     have w1:IntKind.i64.wrap (z+amt f k)=z+amt f k:=by rw [IntKind.wrap_i64];omega
     have w2:IntKind.i64.wrap (z+amt f k-amt f k)=z:=by rw [IntKind.wrap_i64];omega
     have b1:-9223372036854775808≤z+amt f k∧z+amt f k≤9223372036854775807:=by omega
     have b2:-9223372036854775808≤z+amt f k-amt f k∧z+amt f k-amt f k≤9223372036854775807:=by omega
     generalize amt f k=y at *
     generalize arcAt l k=a at *
     clear eT eF hz p q hq t1 t2 s1 s2
     go_wp2
     go_roundw
     case rel=>exact ⟨k+1,_,rfl,by go_num,by omega,by trivial,HQ⟩
     case measure=>simp [intOf];omega
    ·rw [if_neg q] at eF
     have q':((arcAt l k).fr == v)=false:=by simpa using q
     have hq:=HG.out (z+amt f k) (by omega)
     have HQ:=hid hq
     have w1:IntKind.i64.wrap (z+amt f k)=z+amt f k:=by rw [IntKind.wrap_i64];omega
     have b1:-9223372036854775808≤z+amt f k∧z+amt f k≤9223372036854775807:=by omega
     generalize amt f k=y at *
     generalize arcAt l k=a at *
     clear eT eF hz p q hq t1 t2 s1 s2
     go_wp2
     go_roundw
     case rel=>exact ⟨k+1,_,rfl,by go_num,by omega,by trivial,HQ⟩
     case measure=>simp [intOf];omega
   ·rw [if_neg p] at eT
    have p':((arcAt l k).to == v)=false:=by simpa using p
    by_cases q:(arcAt l k).fr=v
    ·rw [if_pos q] at eF
     have q':((arcAt l k).fr == v)=true:=by simpa using q
     have hq:=HG.out (z-amt f k) (by omega)
     have HQ:=hid hq
     have w1:IntKind.i64.wrap (z-amt f k)=z-amt f k:=by rw [IntKind.wrap_i64];omega
     have b1:-9223372036854775808≤z-amt f k∧z-amt f k≤9223372036854775807:=by omega
     generalize amt f k=y at *
     generalize arcAt l k=a at *
     clear eT eF hz p q hq t1 t2 s1 s2
     go_wp2
     go_roundw
     case rel=>exact ⟨k+1,_,rfl,by go_num,by omega,by trivial,HQ⟩
     case measure=>simp [intOf];omega
    ·rw [if_neg q] at eF
     have q':((arcAt l k).fr == v)=false:=by simpa using q
     have hq:=HG.out z (by omega)
     have HQ:=hid hq
     generalize amt f k=y at *
     generalize arcAt l k=a at *
     clear eT eF hz p q hq t1 t2 s1 s2
     go_wp2
     go_roundw
     case rel=>exact ⟨k+1,_,rfl,by go_num,by omega,by trivial,HQ⟩
     case measure=>simp [intOf];omega
  ·have ek:k=l.length:=by omega
   subst ek
   go_wp2
   go_ret
   exact ⟨retI (by rw [HZ.out,HEX.out]),HB0.out⟩
end Ne
namespace Ne
theorem ret2r {a b c d:Int} (h1:a=c) (h2:b=d):Ending.returned (.tuple #[.int .i64 a,.int .i64 b])=.returned (.tuple #[.int .i64 c,.int .i64 d]):=by rw [h1,h2]
section
variable (n:Net) (ao:Option Addr) (cap:Nat) (fo:Option Addr) (fc:Nat) (f:List Int) (w:World) (hr:ARow w ao n.l) (hf:IRow w fo f) (hl:n.l.length≤1000000)
include hr hf hl
theorem rchk_any:Calls Tryz.prog 37 #[encN n ao cap,.slice fo f.length fc] w fun e w'=>e=.returned (.int .i64 (chkF n f))∧Below w.heap.size w w':=by
 have AM:=hid (fun w' (h1:ARow w' ao n.l) (h2:IRow w' fo f)=>within_any n ao cap fo fc f w' h1 h2 hl)
 by_cases c0:chkA n f=0
 case neg =>
  have HE:=hid (show chkF n f=chkA n f by unfold chkF;rw [if_pos c0])
  generalize chkF n f=R at *
  generalize chkA n f=c at *
  generalize f.length=fl at *
  obtain ⟨nn,ns,nt,l⟩:=n
  simp only at hr AM ⊢
  have HB0:=hid ((Below.refl w.heap.size w).alloc (Nat.le_refl _) (.cells #[.int .i64 nn,.int .i64 ns,.int .i64 nt,.slice ao l.length cap] 24))
  have HN0:=hid (nbN w nn ns nt (.slice ao l.length cap))
  have c1':(c == 0)=false:=by simpa using c0
  have c1n:(c != 0)=true:=by simpa using c0
  have HR:=hid (hr.kept HB0.out)
  have HF:=hid (hf.kept HB0.out)
  clear hr hf c0
  go_enter Tryz.func37,Tryz.ntmps37
  go_wp2_with fail
  refine (AM.out _ HR.out HF.out).mono ?_
  rintro e w1 ⟨rfl,hb⟩
  have HB1:=hid (HB0.out.trans (hb.mono (by simp)))
  obtain ⟨n0,n1,n2,n3⟩:=nbC (nbB HN0.out hb (by simp))
  clear hb
  go_wp2
  go_ret
  exact ⟨retI HE.out.symm,HB1.out⟩
 have HE:=hid (show calm n f→chkF n f=0 from fun h=>chkF_in c0 h)
 have HE2:=hid (show ¬ calm n f→chkF n f=9 from fun h=>by unfold chkF;rw [if_neg (by simpa using c0),if_neg h])
 have XS:=hid (fun v w' (h1:ARow w' ao n.l) (h2:IRow w' fo f)=>rexc_any n ao cap fo fc f v w' h1 h2 c0)
 rw [c0] at AM
 obtain ⟨-,RT,-,-⟩:=chkA_ok c0
 have hN0:=RT.n0
 have hN1:=RT.n1
 have HX0:=hid (exc_out RT f (v:=0) (by omega))
 clear RT c0
 generalize chkF n f=R at *
 generalize f.length=fl at *
 obtain ⟨nn,ns,nt,l⟩:=n
 simp only at hr AM XS HE HE2 hN0 hN1 HX0 ⊢
 obtain ⟨N,rfl⟩:∃ N:Nat,nn=(N:Int):=⟨nn.toNat,by omega⟩
 have HB0:=hid ((Below.refl w.heap.size w).alloc (Nat.le_refl _) (.cells #[.int .i64 (N:Int),.int .i64 ns,.int .i64 nt,.slice ao l.length cap] 24))
 have HN0:=hid (nbN w (N:Int) ns nt (.slice ao l.length cap))
 have HR:=hid (hr.kept HB0.out)
 have HF:=hid (hf.kept HB0.out)
 clear hr hf
 have HNS:=hid (show calm ⟨N,ns,nt,l⟩ f↔∀ v:Nat,v<N+1→(v:Int)≠ns→(v:Int)≠nt→exc l f v=0 by unfold calm;simp only [Int.toNat_natCast])
 go_enter Tryz.func37,Tryz.ntmps37
 go_wp2_with fail
 refine (AM.out _ HR.out HF.out).mono ?_
 rintro e w1 ⟨rfl,hb⟩
 have HB1:=hid (HB0.out.trans (hb.mono (by simp)))
 have HN1:=hid (nbB HN0.out hb (by simp))
 have HR1:=hid (HR.out.kept hb)
 have HF1:=hid (HF.out.kept hb)
 clear hb HB0 HN0 HR HF AM
 go_wp2
 go_loopw [6] (fun i wr=>∃ k:Nat,i=.int .i64 k∧1≤k∧k≤N+1∧Hid (Below w.heap.size w wr)∧Hid (Below w1.heap.size w1 wr)∧Hid (∀ v:Nat,v<k→(v:Int)≠ns→(v:Int)≠nt→exc l f v=0)) (fun i _=>N+1-(intOf i).toNat)
 case atStart=>exact ⟨1,rfl,by omega,by omega,HB1,hid (Below.refl _ _),hid (fun v hv _ _=>by rw [show v=0 by omega];exact HX0.out)⟩
 case round =>
  obtain ⟨k,rfl,hk1,hk,HB,HBW,HW⟩:=hrel
  obtain ⟨n0,n1,n2,n3⟩:=nbC (nbB HN1.out HBW.out (netBox_lt HN1.out))
  by_cases hlt:k<N+1
  ·have hki:(k:Int)≤(N:Int):=by omega
   have HST:=hid (show ((k:Int)≠ns→(k:Int)≠nt→exc l f k=0)→∀ v:Nat,v<k+1→(v:Int)≠ns→(v:Int)≠nt→exc l f v=0 from fun h v hv h1 h2=>by
    by_cases e:v=k
    ·subst e;exact h h1 h2
    ·exact HW.out v (by omega) h1 h2)
   have HBD:=hid (show (k:Int)≠ns→(k:Int)≠nt→exc l f k≠0→R=9 from fun h1 h2 h3=>HE2.out (fun hc=>h3 ((HNS.out.1 hc) k hlt h1 h2)))
   have XK:=hid (fun w' h1 h2=>XS.out (k:Int) w' h1 h2)
   generalize exc l f (k:Int)=x at *
   by_cases p1:(k:Int)=ns
   ·have p1':((k:Int) == ns)=true:=by simpa using p1
    have p1n:((k:Int) != ns)=false:=by simpa using p1
    have HS2:=hid (HST.out (fun h=>absurd p1 h))
    clear p1
    go_wp2
    go_roundw
    case rel=>exact ⟨k+1,by go_num,by omega,by omega,HB,HBW,HS2⟩
    case measure=>simp [intOf];omega
   ·have p1':((k:Int) == ns)=false:=by simpa using p1
    have p1n:((k:Int) != ns)=true:=by simpa using p1
    by_cases p2:(k:Int)=nt
    ·have p2':((k:Int) == nt)=true:=by simpa using p2
     have p2n:((k:Int) != nt)=false:=by simpa using p2
     have HS2:=hid (HST.out (fun _ h=>absurd p2 h))
     clear p1 p2
     go_wp2
     go_roundw
     case rel=>exact ⟨k+1,by go_num,by omega,by omega,HB,HBW,HS2⟩
     case measure=>simp [intOf];omega
    ·have p2':((k:Int) == nt)=false:=by simpa using p2
     have p2n:((k:Int) != nt)=true:=by simpa using p2
     by_cases p3:x=0
     ·have p3':(x == 0)=true:=by simpa using p3
      have p3n:(x != 0)=false:=by simpa using p3
      have HS2:=hid (HST.out (fun _ _=>p3))
      clear p1 p2 p3
      go_wp2_with fail
      refine (XK.out _ (HR1.out.kept HBW.out) (HF1.out.kept HBW.out)).mono ?_
      rintro e w2 ⟨rfl,hb⟩
      have HB2:=hid (HB.out.trans (hb.mono HB.out.size))
      have HW2:=hid (HBW.out.trans (hb.mono HBW.out.size))
      clear hb
      go_wp2
      go_roundw
      case rel=>exact ⟨k+1,by go_num,by omega,by omega,HB2,HW2,HS2⟩
      case measure=>simp [intOf];omega
     ·have p3':(x == 0)=false:=by simpa using p3
      have p3n:(x != 0)=true:=by simpa using p3
      have HR9:=hid (HBD.out p1 p2 p3)
      clear p1 p2 p3
      go_wp2_with fail
      refine (XK.out _ (HR1.out.kept HBW.out) (HF1.out.kept HBW.out)).mono ?_
      rintro e w2 ⟨rfl,hb⟩
      have HB2:=hid (HB.out.trans (hb.mono HB.out.size))
      clear hb
      go_wp2
      go_ret
      exact ⟨retI HR9.out.symm,HB2.out⟩
  ·have ek:k=N+1:=by omega
   have hki:¬ (k:Int)≤(N:Int):=by omega
   have HR0:=hid (HE.out (HNS.out.2 (fun v hv=>HW.out v (by omega))))
   clear ek
   go_wp2
   go_ret
   exact ⟨retI HR0.out.symm,HB.out⟩

end
end Ne
namespace Ne
theorem rends_any (n:Net) (ao:Option Addr) (cap:Nat) (r:Int) (w:World) (hr:ARow w ao n.l) (hl:n.l.length≤1000000) (h64:in64 r) :
  Calls Tryz.prog 52 #[encN n ao cap,.int .i64 r] w fun e w'=>e=.returned (.tuple #[.int .i64 (enF n.l r),.int .i64 (enT n.l r)])∧Below w.heap.size w w':=by
 obtain ⟨nn,ns,nt,l⟩:=n
 simp only at hr hl ⊢
 have HB0:=hid ((Below.refl w.heap.size w).alloc (Nat.le_refl _) (.cells #[.int .i64 nn,.int .i64 ns,.int .i64 nt,.slice ao l.length cap] 24))
 have HN0:=hid (nbN w nn ns nt (.slice ao l.length cap))
 have HR:=hid (hr.kept HB0.out)
 clear hr
 by_cases c1:r<0
 ·have HE1:=hid (enF_out (l:=l) (.inl c1))
  have HE2:=hid (enT_out (l:=l) (.inl c1))
  generalize enF l r=x at *
  generalize enT l r=y at *
  have c1':decide (r<0)=true:=by simpa using c1
  go_enter Tryz.func52,Tryz.ntmps52
  go_wp2
  go_ret2
  exact ⟨ret2' HE1.out.symm HE2.out.symm,HB0.out⟩
 have c1':decide (r<0)=false:=by simpa using c1
 by_cases c2:2*(l.length:Int)≤r
 ·have HE1:=hid (enF_out (l:=l) (.inr c2))
  have HE2:=hid (enT_out (l:=l) (.inr c2))
  generalize enF l r=x at *
  generalize enT l r=y at *
  have c2':decide (2*(l.length:Int)≤r)=true:=by simpa using c2
  obtain ⟨n0,n1,n2,n3⟩:=nbC HN0.out
  go_enter Tryz.func52,Tryz.ntmps52
  go_wp2
  go_ret2
  exact ⟨ret2' HE1.out.symm HE2.out.symm,HB0.out⟩
 obtain ⟨k,rfl⟩:∃ k:Nat,r=(k:Int):=⟨r.toNat,by omega⟩
 have hk2:k<2*l.length:=by omega
 rw [enF_in hk2,enT_in hk2]
 have c2':decide (2*(l.length:Int)≤(k:Int))=false:=by simpa using c2
 obtain ⟨q,hq⟩:∃ q,q=k / 2:=⟨_,rfl⟩
 have hql:q<l.length:=by omega
 have hqI:(q:Int)<(l.length:Int):=by omega
 have hq0:(0:Int)≤(q:Int):=by omega
 have htd:=tdiv2 hq
 obtain ⟨b,off,rfl,hbl,c0,c1x,c2x⟩:=arC HR.out hql
 have HE1:=hid (show k % 2=1→trF l k=(arcAt l q).to∧trT l k=(arcAt l q).fr from fun h=>by unfold trF trT;rw [if_pos h,if_pos h,hq];exact ⟨rfl,rfl⟩)
 have HE2:=hid (show ¬ k % 2=1→trF l k=(arcAt l q).fr∧trT l k=(arcAt l q).to from fun h=>by unfold trF trT;rw [if_neg h,if_neg h,hq];exact ⟨rfl,rfl⟩)
 have htm:=tmod2 k
 generalize trF l k=X at *
 generalize trT l k=Y at *
 generalize arcAt l q=a at *
 obtain ⟨fr,tov,ca⟩:=a
 simp only at c0 c1x c2x HE1 HE2
 obtain ⟨n0,n1,n2,n3⟩:=nbC HN0.out
 have HB2:=hid (HB0.out.alloc HB0.out.size (.cells #[.int .i64 fr,.int .i64 tov,.int .i64 ca] 51))
 obtain ⟨g0,g1,g2⟩:=arc_new (w.alloc (.cells #[.int .i64 nn,.int .i64 ns,.int .i64 nt,.slice (some ⟨b,off,none⟩) l.length cap] 24)) (b:=w.heap.size+1) (by simp) fr tov ca
 by_cases c:k % 2=1
 ·have HE:=hid (HE1.out c)
  have hm:(k:Int).tmod 2=1:=by rw [htm,c];rfl
  clear c HE1 HE2 hq hk2 c1 c2 htm
  go_enter Tryz.func52,Tryz.ntmps52
  go_wp2
  generalize ((w.alloc (.cells #[.int .i64 nn,.int .i64 ns,.int .i64 nt,.slice (some ⟨b,off,none⟩) l.length cap] 24)).alloc (.cells #[.int .i64 fr,.int .i64 tov,.int .i64 ca] 51))=W2 at *
  clear n0 n1 n2 n3 c0 c1x c2x
  go_quiet (fail)
  go_wp2
  go_ret2
  exact ⟨ret2' HE.out.1.symm HE.out.2.symm,bDn HB2.out _⟩
 ·have HE:=hid (HE2.out c)
  have hm:(k:Int).tmod 2=0:=by rw [htm,show k % 2=0 by omega];rfl
  clear c HE1 HE2 hq hk2 c1 c2 htm
  go_enter Tryz.func52,Tryz.ntmps52
  go_wp2
  generalize ((w.alloc (.cells #[.int .i64 nn,.int .i64 ns,.int .i64 nt,.slice (some ⟨b,off,none⟩) l.length cap] 24)).alloc (.cells #[.int .i64 fr,.int .i64 tov,.int .i64 ca] 51))=W2 at *
  clear n0 n1 n2 n3 c0 c1x c2x
  go_quiet (fail)
  go_wp2
  go_ret2
  exact ⟨ret2' HE.out.1.symm HE.out.2.symm,bDn HB2.out _⟩
end Ne
namespace Ne
theorem rwalks_any (n:Net) (ao:Option Addr) (cap:Nat) (wo:Option Addr) (wc:Nat) (W:List Int) (w:World) (hr:ARow w ao n.l) (hw:IRow w wo W) (hR:Right n) (hW:W.length≤10000000) (h64:∀ x∈W,in64 x) :
  Calls Tryz.prog 54 #[encN n ao cap,.slice wo W.length wc] w fun e w'=>e=.returned (.bool (isWalk n W))∧Below w.heap.size w w':=by
 have hl:n.l.length≤1000000:=by have:=hR.len;omega
 have HEN:=hid (fun (x:Int) (h:in64 x) w' h1=>rends_any n ao cap x w' h1 hl h)
 have HBZ:=hid (show ∀ k u,k<W.length→walkAt n.l n.s (W.take k)=some u→enF n.l (amt W k)=u→enT n.l (amt W k)≠0 from fun k u hk h e=>by
  have h1:=(walkAt_pos hR (W:=W) (by omega) h).1
  obtain ⟨r,hr,hr2⟩:=enF_some hR (r:=amt W k) (by omega)
  have:=tTb hR hr2
  rw [hr,enT_in hr2];omega)
 have HEM:=hid (show W.length=0→isWalk n W=false from fun h=>by
  obtain rfl:=List.length_eq_zero_iff.1 h
  have:=hR.ne
  simp [isWalk,walkAt,this])
 have HT:=hid (walk_tells n W)
 obtain ⟨WA,hWA⟩:∃ WA,WA=fun k=>walkAt n.l n.s (W.take k):=⟨_,rfl⟩
 rw [← hWA] at HT
 simp only [show ∀ k,walkAt n.l n.s (W.take k)=WA k from fun k=>by rw [hWA]] at HBZ
 clear hWA
 have H64:=hid (show ∀ k,k<W.length→in64 (amt W k) from fun k hk=>h64 _ (by have:=at_amt hk;exact List.mem_of_getElem? this))
 have HZ:=hid HT.out.zero
 have HY:=hid HT.out.yes
 have HNO:=hid HT.out.no
 have HA:=hid HT.out.all
 clear HT h64 hR
 generalize isWalk n W=R at *
 generalize hE1:enF n.l=EF at *
 generalize hE2:enT n.l=ET at *
 clear hE1 hE2
 obtain ⟨nn,ns,nt,l⟩:=n
 simp only at hr hl HEN HZ HA ⊢
 have HB0:=hid ((Below.refl w.heap.size w).alloc (Nat.le_refl _) (.cells #[.int .i64 nn,.int .i64 ns,.int .i64 nt,.slice ao l.length cap] 24))
 have HN0:=hid (nbN w nn ns nt (.slice ao l.length cap))
 have HRX:=hid hr
 have HW:=hid hw
 clear hr hw
 obtain ⟨n0,n1,n2,n3⟩:=nbC HN0.out
 go_enter Tryz.func54,Tryz.ntmps54
 go_wp2
 clear n0 n1 n2 n3
 go_loopw [5,6] (fun s i wr=>∃ (u:Int) (k:Nat),s=.int .i64 u∧i=.int .i64 k∧k≤W.length∧Hid (WA k=some u)∧Hid (Below w.heap.size w wr)∧Hid (NetBox wr w.heap.size nn ns nt (.slice ao l.length cap))) (fun _ i _=>W.length-(intOf i).toNat)
 case atStart=>exact ⟨_,0,rfl,rfl,Nat.zero_le _,HZ,HB0,HN0⟩
 case round =>
  obtain ⟨u,k,rfl,rfl,hk,HU,HBW,HNW⟩:=hrel
  obtain ⟨n0,n1,n2,n3⟩:=nbC HNW.out
  by_cases hlt:k<W.length
  ·obtain ⟨b,off,rfl,hbk,d0⟩:=irC (HW.out.kept HBW.out) hlt
   have EN:=hid (HEN.out _ (H64.out k hlt))
   have HY1:=hid (HY.out k u hlt HU.out)
   have HN1:=hid (HNO.out k u hlt HU.out)
   have HZ1:=hid (HBZ.out k u hlt HU.out)
   generalize amt W k=x at *
   generalize EF x=p at *
   generalize ET x=q at *
   have hki:(k:Int)<(W.length:Int):=by omega
   have hk0:(0:Int)≤(k:Int):=by omega
   have hbl0:=netBox_lt HNW.out
   go_wp2
   have hS0:=(show (fun w'=>w'.cell? ⟨w.heap.size,0,none⟩=some (.int .i64 nn)∧w'.cell? ⟨w.heap.size,1,none⟩=some (.int .i64 ns)∧w'.cell? ⟨w.heap.size,2,none⟩=some (.int .i64 nt)∧w'.cell? ⟨w.heap.size,3,none⟩=some (.slice ao l.length cap)∧w'.cell? ⟨b,off+k,none⟩=some (.int .i64 x)) wr.drew from ⟨n0,n1,n2,n3,d0⟩)
   refine Rh.start (S:=(fun w'=>w'.cell? ⟨w.heap.size,0,none⟩=some (.int .i64 nn)∧w'.cell? ⟨w.heap.size,1,none⟩=some (.int .i64 ns)∧w'.cell? ⟨w.heap.size,2,none⟩=some (.int .i64 nt)∧w'.cell? ⟨w.heap.size,3,none⟩=some (.slice ao l.length cap)∧w'.cell? ⟨b,off+k,none⟩=some (.int .i64 x))) (by kernel_rfl) ?_
   refine Rh.tp 18 0 hS0 ?_
   refine Rh.tp 19 1 hS0 ?_
   refine Rh.tp 20 2 hS0 ?_
   refine Rh.tp 21 3 hS0 ?_
   refine Rh.tp 22 4 hS0 ?_
   refine Rh.step (i:=5) (by kernel_rfl) rfl fun K' hK'=>?_
   have HK:=hid hK'
   clear hK'
   go_simp
   refine (EN.out wr.drew (HRX.out.kept (bDr HBW.out))).mono ?_
   rintro e w2 ⟨rfl,hb⟩
   have hS1:=(show (fun w'=>w'.cell? ⟨w.heap.size,0,none⟩=some (.int .i64 nn)∧w'.cell? ⟨w.heap.size,1,none⟩=some (.int .i64 ns)∧w'.cell? ⟨w.heap.size,2,none⟩=some (.int .i64 nt)∧w'.cell? ⟨w.heap.size,3,none⟩=some (.slice ao l.length cap)∧w'.cell? ⟨b,off+k,none⟩=some (.int .i64 x)) w2 from ⟨(hb.cell (p:=⟨w.heap.size,0,none⟩) hbl0).trans n0,(hb.cell (p:=⟨w.heap.size,1,none⟩) hbl0).trans n1,(hb.cell (p:=⟨w.heap.size,2,none⟩) hbl0).trans n2,(hb.cell (p:=⟨w.heap.size,3,none⟩) hbl0).trans n3,(hb.cell (p:=⟨b,off+k,none⟩) hbk).trans d0⟩)
   refine HK.out _ _ ⟨hS1,?_⟩
   clear HK K'
   try simp only [Act.put,Rh.q1,Rh.q2,Rh.q3]
   refine Rh.tp 17 6 hS1 ?_
   refine Rh.tp 24 7 hS1 ?_
   refine Rh.tp 25 8 hS1 ?_
   refine Rh.tp 7 9 hS1 ?_
   refine Rh.tp 8 10 hS1 ?_
   refine Rh.done (by kernel_rfl) ?_ _
   have HB2:=hid ((bDr HBW.out).trans (hb.mono HBW.out.size))
   have HN2:=hid (nbB (show NetBox wr.drew w.heap.size nn ns nt (.slice ao l.length cap) from HNW.out) hb (netBox_lt HNW.out))
   clear hb n0 n1 n2 n3 d0 hS0 hS1
   by_cases c:p=u
   ·have c':(p == u)=true:=by simpa using c
    have cn:(p != u)=false:=by simpa using c
    have z':(q == 0)=false:=by simpa using HZ1.out c
    have HU2:=hid (HY1.out c)
    clear c
    go_wp2
    go_roundw
    case rel=>exact ⟨_,k+1,rfl,by go_num,by omega,HU2,HB2,HN2⟩
    case measure=>simp [intOf];omega
   ·have c':(p == u)=false:=by simpa using c
    have cn:(p != u)=true:=by simpa using c
    have HE:=hid (HN1.out c)
    clear c
    go_wp2
    go_ret
    exact ⟨retB HE.out.symm,HB2.out⟩
  ·have ek:k=W.length:=by omega
   subst ek
   have HE:=hid (HA.out u HU.out)
   by_cases c:0<W.length
   ·clear hlt hk
    generalize W.length=m at *
    have c':decide (0<m)=true:=by simpa using c
    have ci:decide ((0:Int)<(m:Int))=true:=by simp;omega
    go_wp2
    go_ret
    refine ⟨retB ?_,HBW.out⟩
    rw [HE.out]
    by_cases c:u=nt
    ·simp [c]
    ·simp [c]
   ·clear hlt hk
    have HE2:=hid (HEM.out (by omega))
    generalize W.length=m at *
    obtain rfl:m=0:=by omega
    clear c
    go_wp2
    go_ret
    exact ⟨retB HE2.out.symm,HBW.out⟩
theorem rpush_any (n:Net) (ao:Option Addr) (cap:Nat) (fo:Option Addr) (fc:Nat) (f:List Int) (wo:Option Addr) (wc:Nat) (W:List Int) (x:Int) (w:World) (hr:ARow w ao n.l) (hf:IRow w fo f) (hw:IRow w wo W) (hl:n.l.length≤1000000) (hW:W.length≤1000000) (h64:∀ x∈W,in64 x) (hx:in64 x) :
  Calls Tryz.prog 46 #[encN n ao cap,.slice fo f.length fc,.slice wo W.length wc,.int .i64 x] w fun e w'=>∃ v,e=.returned (.tuple #[v,.int .i64 (pushE n f W x)])∧OwnL w' w.heap.size v (pushV n f W x)∧Below w.heap.size w w':=by
 have CK:=hid (fun w' (h1:ARow w' ao n.l) (h2:IRow w' fo f)=>rchk_any n ao cap fo fc f w' h1 h2 hl)
 by_cases c0:chkF n f=0
 case neg =>
  have HE:=hid (pushE_bad (W:=W) (x:=x) c0)
  generalize pushE n f W x=PE at *
  generalize pushV n f W x=PV at *
  generalize chkF n f=c at *
  generalize f.length=fl at *
  obtain ⟨nn,ns,nt,l⟩:=n
  simp only at hr CK ⊢
  have HB0:=hid ((Below.refl w.heap.size w).alloc (Nat.le_refl _) (.cells #[.int .i64 nn,.int .i64 ns,.int .i64 nt,.slice ao l.length cap] 24))
  have c1':(c == 0)=false:=by simpa using c0
  have c1n:(c != 0)=true:=by simpa using c0
  have HR:=hid (hr.kept HB0.out)
  have HF:=hid (hf.kept HB0.out)
  clear hr hf c0
  go_enter Tryz.func46,Tryz.ntmps46
  go_wp2_with fail
  refine (CK.out _ HR.out HF.out).mono ?_
  rintro e w1 ⟨rfl,hb⟩
  have HB1:=hid (HB0.out.trans (hb.mono (by simp)))
  clear hb
  go_wp2
  go_ret2
  exact ⟨_,ret2v HE.out.1.symm,by rw [HE.out.2];exact Rw.owN _ _,HB1.out⟩
 have HNO:=hid (pushE_no (n:=n) (f:=f) (W:=W) (x:=x) c0)
 have HLO:=hid (pushE_low (n:=n) (f:=f) (W:=W) (x:=x) c0)
 have HGO:=hid (pushE_go (n:=n) (f:=f) (W:=W) (x:=x) c0)
 obtain ⟨-,RT,hfl,hwi⟩:=chkA_ok (chkF_ok c0).1
 rw [c0] at CK
 rw [hfl] at CK ⊢
 have IW:=hid (fun w' h1 h2=>rwalks_any n ao cap wo wc W w' h1 h2 RT (by omega) h64)
 have HGOT:=hid (fun (hk:isWalk n W=true)=>show 0<n.l.length from (walk_some RT hk).2)
 have HPT:=hid (fun (hk:isWalk n W=true) (hx1:1≤x)=>push_tells RT hfl hwi hx1 hk)
 obtain ⟨PA,hPA⟩:∃ PA,PA=fun k=>pushN n.l f x (W.take k):=⟨_,rfl⟩
 rw [← hPA] at HPT
 clear hPA
 have HCAP:=hid (fun i h=>cap_topR RT (i:=i) h)
 have HFLN:=hid hfl
 clear RT hfl hwi
 generalize pushE n f W x=PE at *
 generalize pushV n f W x=PV at *
 generalize hB:isWalk n W=B at *
 clear hB
 obtain ⟨nn,ns,nt,l⟩:=n
 simp only at hr hl CK IW HGOT HPT HCAP HFLN ⊢
 have HB0:=hid ((Below.refl w.heap.size w).alloc (Nat.le_refl _) (.cells #[.int .i64 nn,.int .i64 ns,.int .i64 nt,.slice ao l.length cap] 24))
 have HN0:=hid (nbN w nn ns nt (.slice ao l.length cap))
 have HR:=hid (hr.kept HB0.out)
 have HF:=hid (hf.kept HB0.out)
 have HW:=hid (hw.kept HB0.out)
 clear hr hf hw c0
 go_enter Tryz.func46,Tryz.ntmps46
 go_wp2_with fail
 refine (CK.out _ HR.out HF.out).mono ?_
 rintro e w1 ⟨rfl,hb⟩
 have HB1:=hid (HB0.out.trans (hb.mono (by simp)))
 have HN1:=hid (nbB HN0.out hb (by simp))
 have HR1:=hid (HR.out.kept hb)
 have HF1:=hid (HF.out.kept hb)
 have HW1:=hid (HW.out.kept hb)
 obtain ⟨n0,n1,n2,n3⟩:=nbC HN1.out
 clear hb HB0 HN0 HR HF HW CK
 go_wp2_with fail
 refine (IW.out _ HR1.out HW1.out).mono ?_
 rintro e w2 ⟨rfl,hb⟩
 have HB2:=hid (HB1.out.trans (hb.mono HB1.out.size))
 have HN2:=hid (nbB HN1.out hb (netBox_lt HN1.out))
 have HR2:=hid (HR1.out.kept hb)
 have HF2:=hid (HF1.out.kept hb)
 have HW2:=hid (HW1.out.kept hb)
 clear hb n0 n1 n2 n3 HB1 HN1 HR1 HF1 HW1 IW
 rcases B with _ | _
 ·have HE:=hid (HNO.out rfl)
  go_wp2
  go_ret2
  exact ⟨_,ret2v HE.out.1.symm,by rw [HE.out.2];exact Rw.owN _ _,HB2.out⟩
 by_cases p:x<1
 ·have HE:=hid (HLO.out rfl p)
  have p':decide (x<1)=true:=by simpa using p
  clear p
  go_wp2
  go_ret2
  exact ⟨_,ret2v HE.out.1.symm,by rw [HE.out.2];exact Rw.owN _ _,HB2.out⟩
 have p':decide (x<1)=false:=by simpa using p
 have HE:=hid (HGO.out rfl (by omega))
 obtain ⟨n0,n1,n2,n3⟩:=nbC HN2.out
 have PT:=hid (HPT.out rfl (by omega))
 have hl0:=HGOT.out rfl
 have HZ:=hid PT.out.zero
 have HTR:=hid PT.out.trk
 have HY:=hid PT.out.yes
 have HPN:=hid PT.out.no
 have HA:=hid PT.out.all
 have HFI:=hid PT.out.fine
 simp only at HTR HY HPN HA HFI
 clear PT HPT HGOT HNO HLO HGO
 generalize pushN l f x W=P at *
 obtain ⟨b1,off1,rfl,_,_⟩:=irC HF2.out (i:=0) (by have:=HFLN.out;omega)
 have HR:=hid (HF2.out.kept ((Below.refl _ _).alloc (Nat.le_refl _) (.cells #[] 2)))
 have HL:=hid (show ([]:List Int).length+f.length≤1099511627776 by have:=HFLN.out;simp;omega)
 have HE8:=hid (show OwnL (w2.alloc (.cells #[] 2)) w2.heap.size (.slice (some ⟨w2.heap.size,0,none⟩) 0 0) [] from own_empty w2 w2.heap.size (Nat.le_refl _))
 have hv0:=Rw.owK HE8.out
 have hx1:1≤x:=by omega
 have hx2:=hx.2
 have hW10:W.length≤1000000:=hW
 clear p n0 n1 n2 n3
 go_wp2_with (at_builtin;refine Rw.app elemL eIl eIo rfl (.tmp 26) (.tmp 27) rfl w2.heap.size _ ([]:List Int) rfl HE8.out (some ⟨b1,off1,none⟩) fc f ?hxx ?hnn HR.out HL.out ?hB ?_;(case hxx=>(rw [HFLN.out];rfl));(case hnn=>(intro h;cases h));(case hB=>(simp));intro v3 w3 hown3 hgr3;rw [List.nil_append] at hown3;have HB3:=hid (((Below.refl w2.heap.size w2).alloc (Nat.le_refl _) (.cells #[] 2)).grown hgr3 (by simp) hv0);have HO3:=hid hown3;clear hown3 hgr3;obtain ⟨g,c,hv3,hg0,hg1⟩:=ownL_row' HO3.out (by have:=HFLN.out;omega);rw [HFLN.out] at hv3;subst hv3)
 have HBX:=hid (HB2.out.trans (HB3.out.mono HB2.out.size))
 have HNX:=hid (nbB HN2.out HB3.out (netBox_lt HN2.out))
 have hbl2:=netBox_lt HN2.out
 have hgw:w.heap.size<g:=by omega
 have HOX:=hid (Rw.own_base HO3.out (B':=w.heap.size) HB2.out.size)
 have HRX:=hid (HR2.out.kept HB3.out)
 have HWX:=hid (HW2.out.kept HB3.out)
 have HQ3:=hid (show Below w2.heap.size w3 w3 from Below.refl _ _)
 have HRZ:=hid HR2.out
 have HWZ:=hid HW2.out
 clear hg1 HO3 HE8 hv0 HR HF2 HRX HWX
 go_loopw [12] (fun i wr=>∃ (k:Nat) (F:List Int),i=.int .i64 k∧k≤W.length∧Hid (PA k=some F)∧Hid (OwnL wr w.heap.size (.slice (some ⟨g,0,none⟩) l.length c) F)∧Hid (Below w.heap.size w wr)∧Hid (Below w2.heap.size w2 wr)∧Hid (NetBox wr w.heap.size nn ns nt (.slice ao l.length cap))) (fun i _=>W.length-(intOf i).toNat)
 case atStart=>exact ⟨0,f,rfl,Nat.zero_le _,HZ,HOX,HBX,HB3,HNX⟩
 case round =>
  obtain ⟨k,F,rfl,hk,HP,HOW,HBW,HBV,HNW⟩:=hrel
  obtain ⟨n0,n1,n2,n3⟩:=nbC HNW.out
  by_cases hlt:k<W.length
  ·obtain ⟨b,off,rfl,hbl,d0⟩:=irC (HWZ.out.kept HBV.out) hlt
   obtain ⟨r,hr1,hr2⟩:=HTR.out k hlt
   have HFF:=hid (HFI.out k F hk HP.out)
   have HY1:=hid (HY.out k F r hlt hr1 HP.out)
   have HN1:=hid (HPN.out k F r hlt hr1 HP.out)
   rw [hr1] at d0
   obtain ⟨q,hq⟩:∃ q,q=r / 2:=⟨_,rfl⟩
   have hql:q<l.length:=by omega
   have htd:=tdiv2 hq
   have htm:=tmod2 r
   obtain ⟨b3,off3,rfl,hbl3,a0,a1,a2⟩:=arC (HRZ.out.kept HBV.out) hql
   have HO:=hid (show r % 2=1→put1 F x r=F.set q (amt F q-x)∧roomN l F r=amt F q from fun h=>⟨put1_odd hq h,room_odd' hq h⟩)
   have HEV:=hid (show ¬ r % 2=1→put1 F x r=F.set q (amt F q+x)∧roomN l F r=(arcAt l q).cap-amt F q from fun h=>⟨put1_even hq h,room_even' hq h⟩)
   have hca:=HCAP.out q hql
   obtain ⟨hF1,hF2⟩:=HFF.out.2 q hql
   have HQF:=hid (show q<F.length by have:=HFF.out.1;omega)
   obtain ⟨e0,e1⟩:=ownL_cell HOW.out HQF.out
   have HOP:=hid (fun y=>ownL_put HOW.out HQF.out y)
   generalize roomN l F r=ro at *
   generalize put1 F x r=F2 at *
   generalize amt F q=z at *
   generalize arcAt l q=a at *
   obtain ⟨fr,tu,ca⟩:=a
   simp only at a0 a1 a2 HEV hca hF2
   clear hr1 hq
   have hki:(k:Int)<(W.length:Int):=by omega
   have hk0:(0:Int)≤(k:Int):=by omega
   have hqi:(q:Int)<(l.length:Int):=by omega
   have hq0:(0:Int)≤(q:Int):=by omega
   by_cases c2:r % 2=1
   ·have hro:=(HO.out c2).2
    have HFE:=hid (HO.out c2).1
    have hm:(r:Int).tmod 2=1:=by rw [htm,c2];rfl
    clear htm c2
    by_cases c1:z<x
    ·have c1':decide (z<x)=true:=by simpa using c1
     have HPE:=hid (HN1.out (by omega))
     clear c1 hro
     go_wp2
     go_ret2
     refine ⟨_,ret2v ?_,?_,HBW.out⟩
     ·rw [HE.out.1,HPE.out];rfl
     ·rw [HE.out.2,HPE.out];exact Rw.owN _ _
    ·have c1':decide (z<x)=false:=by simpa using c1
     have HP2:=hid (HY1.out (by omega))
     have hwz:IntKind.i64.wrap (z-x)=z-x:=by rw [IntKind.wrap_i64];omega
     clear c1 hro
     go_wp2
     have HO3:=hid (HOP.out (z-x))
     rw [← HFE.out] at HO3
     have HB3:=hid (HBW.out.setCell (p:=⟨g,q,none⟩) (by show w.heap.size≤g;omega) (.int .i64 (z-x)))
     have HV3:=hid (HBV.out.setCell (p:=⟨g,q,none⟩) (by show w2.heap.size≤g;omega) (.int .i64 (z-x)))
     have HN3:=hid (nbO HNW.out (b2:=g) (o:=q) (v2:=.int .i64 (z-x)) (by omega))
     go_roundw
     case rel=>exact ⟨k+1,F2,by go_num,by omega,HP2,HO3,HB3,HV3,HN3⟩
     case measure=>simp [intOf];omega
   ·have hro:=(HEV.out c2).2
    have HFE:=hid (HEV.out c2).1
    have hm:(r:Int).tmod 2=0:=by rw [htm,show r % 2=0 by omega];rfl
    have hw1:IntKind.i64.wrap (ca-z)=ca-z:=by rw [IntKind.wrap_i64];omega
    clear htm c2
    by_cases c1:ca-z<x
    ·have c1':decide (ca-z<x)=true:=by simpa using c1
     have HPE:=hid (HN1.out (by omega))
     clear c1 hro
     go_wp2
     go_quiet (fail)
     go_wp2
     go_ret2
     refine ⟨_,ret2v ?_,?_,bDn HBW.out _⟩
     ·rw [HE.out.1,HPE.out];rfl
     ·rw [HE.out.2,HPE.out];exact Rw.owN _ _
    ·have c1':decide (ca-z<x)=false:=by simpa using c1
     have HP2:=hid (HY1.out (by omega))
     have hwz:IntKind.i64.wrap (z+x)=z+x:=by rw [IntKind.wrap_i64];omega
     clear c1 hro
     go_wp2
     go_quiet (fail)
     go_wp2
     have HO3:=hid (HOP.out (z+x))
     rw [← HFE.out] at HO3
     have HO4:=hid (Rw.own_drewN HO3.out nq)
     have HB3:=hid ((bDn HBW.out nq).setCell (p:=⟨g,q,none⟩) (by show w.heap.size≤g;omega) (.int .i64 (z+x)))
     have HV3:=hid ((bDn HBV.out nq).setCell (p:=⟨g,q,none⟩) (by show w2.heap.size≤g;omega) (.int .i64 (z+x)))
     have HN3:=hid (nbO (netBox_drewN HNW.out nq) (b2:=g) (o:=q) (v2:=.int .i64 (z+x)) (by omega))
     go_roundw
     case rel=>exact ⟨k+1,F2,by go_num,by omega,HP2,HO4,HB3,HV3,HN3⟩
     case measure=>simp [intOf];omega
  ·have ek:k=W.length:=by omega
   subst ek
   have HEX:=hid (show P=some F by rw [← HA.out];exact HP.out)
   clear hlt hk
   go_wp2
   go_ret2
   refine ⟨_,ret2v ?_,?_,HBW.out⟩
   ·rw [HE.out.1,HEX.out];rfl
   ·rw [HE.out.2,HEX.out];exact HOW.out
end Ne
end Go.Proofs.YtoadkckceladgaaGreat
