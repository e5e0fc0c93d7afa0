/-
  Foy, Srm, Trq
-/
import Derived.Test.YthhlfphnokdfaaaGreatBf16
import Derived.Test.YthhlfphnokdfaaaGreatBf5
import Derived.Test.YthhlfphnokdfaaaGreatBf9
import Derived.Test.YthhlfphnokdfaaaGreatBf14
import Derived.Test.YthhlfphnokdfaaaGreatBf15
set_option linter.unusedVariables false
set_option linter.unusedSimpArgs false
set_option maxRecDepth 100000
set_option maxHeartbeats 4000000
namespace Go.Proofs.YthhlfphnokdfaaaGreat
namespace Fo
theorem snoc_ind {P:List Nat→Prop} (h0:P []) (h1:∀ l a,P l→P (l ++ [a])):∀ l,P l:=by
 have:∀ n (l:List Nat),l.length=n→P l:=by
  intro n
  induction n with
  | zero=>intro l hl;rw [List.eq_nil_of_length_eq_zero hl];exact h0
  | succ n ih =>
   intro l hl
   rcases List.eq_nil_or_concat l with rfl | ⟨A,a,rfl⟩
   ·simp at hl
   ·rw [List.concat_eq_append] at hl ⊢
    exact h1 A a (ih A (by simpa using hl))
 exact fun l=>this l.length l rfl
theorem least_split (v:List Int):∀ l:List Nat,l=[]∧Sp.leastL v l = -1∨∃ (t:List Nat) (a:Nat) (u:List Nat),l=t ++ a :: u∧Sp.leastL v l=(a:Int)∧(∀ y∈t,Ne.amt v a<Ne.amt v y)∧∀ y∈u,Ne.amt v a≤Ne.amt v y:=by
 refine snoc_ind (.inl ⟨rfl,rfl⟩) fun l i ih=>.inr ?_
 rcases ih with ⟨rfl,h⟩ | ⟨t,a,u,rfl,h1,h2,h3⟩
 ·refine ⟨[],i,[],rfl,?_,by simp,by simp⟩
  rw [Sp.leastL_snoc,h,if_pos (.inl (by omega))]
 ·by_cases c:Ne.amt v i<Ne.amt v a
  ·refine ⟨t ++ a :: u,i,[],rfl,?_,fun y hy=>?_,by simp⟩
   ·rw [Sp.leastL_snoc,h1,if_pos (.inr (by simpa using c))]
   ·rcases List.mem_append.1 hy with d | d
    ·have:=h2 y d;omega
    ·rcases List.mem_cons.1 d with e | e
     ·rw [e];exact c
     ·have:=h3 y e;omega
  ·refine ⟨t,a,u ++ [i],by simp,?_,h2,fun y hy=>?_⟩
   ·rw [Sp.leastL_snoc,h1,if_neg (by simp;omega)]
   ·rcases List.mem_append.1 hy with d | d
    ·exact h3 y d
    ·simp at d;rw [d];omega
section
variable {f:Ft}
theorem leastZ_nat (f:Ft) (v:Nat):leastZ f (v:Int)=Sp.leastL f.v (path f v):=by unfold leastZ;rw [pathZ_nat]
theorem least_says (h:Good f) {v:Nat} (hv:v<f.v.length):∃ k le:Nat,(path f v)[k]? = some le∧leastZ f (v:Int)=(le:Int)∧le<f.v.length∧k<(path f v).length ∧
  (∀ i y:Nat,(path f v)[i]? = some y→¬ Ne.amt f.v y<Ne.amt f.v le)∧(∀ i y:Nat,(path f v)[i]? = some y→i<k→Ne.amt f.v y≠Ne.amt f.v le)∧(∀ i y:Nat,(path f v)[i]? = some y→(y=le↔i=k)):=by
 have hn:=h.path_nodup v
 rw [leastZ_nat]
 rcases least_split f.v (path f v) with ⟨h1,_⟩ | ⟨t,a,u,h1,h2,h3,h4⟩
 ·have:=h.path_self hv;rw [h1] at this;simp at this
 ·have hat:(path f v)[t.length]? = some a:=by rw [h1,List.getElem?_append_right (Nat.le_refl _),Nat.sub_self];rfl
  refine ⟨t.length,a,hat,h2,h.path_lt (x:=v) (by rw [h1];simp),by rw [h1];simp,fun i y hy=>?_,fun i y hy hi=>?_,fun i y hy=>?_⟩
  ·have hm:=List.mem_of_getElem? hy
   rw [h1] at hm
   rcases List.mem_append.1 hm with d | d
   ·have:=h3 y d;omega
   ·rcases List.mem_cons.1 d with e | e
    ·rw [e];omega
    ·have:=h4 y e;omega
  ·rw [h1,List.getElem?_append_left hi] at hy
   have:=h3 y (List.mem_of_getElem? hy)
   omega
  ·constructor
   ·intro e
    rw [e] at hy
    exact (List.getElem?_inj (List.getElem?_eq_some_iff.1 hy).1 hn).1 (by rw [hy,hat])
   ·intro e
    rw [e,hat] at hy
    exact (Option.some.inj hy).symm
end
end Fo
end Go.Proofs.YthhlfphnokdfaaaGreat
namespace Go.Proofs.YthhlfphnokdfaaaGreat
open Go.ChangeShapes Go.WideShapes Go.ChangeAt Go.RowKit
open Lib (hid)
namespace Ne
structure Okf (n:Net) (f:List Int):Prop where
 len:f.length=n.l.length
 wi:wi n.l f
 calm:calm n f
theorem Okf.chk {n:Net} {f:List Int} (h:Okf n f) (ck:checkN n=0):chkF n f=0:=chkF_in (chkA_in ck h.len h.wi) h.calm
theorem okf_of {n:Net} {f:List Int} (h:chkF n f=0):checkN n=0∧Okf n f:=by
 obtain ⟨h1,h2⟩:=chkF_ok h
 obtain ⟨g1,_,g2,g3⟩:=chkA_ok h1
 exact ⟨g1,g2,g3,h2⟩
theorem Flow.okf {n:Net} {f:List Int} (h:Flow n f):Okf n f:=⟨h.len,h.wi,fun v _ hs ht=>h.calm _ hs ht⟩
theorem okf_push {n:Net} (hR:Right n) {f g:List Int} (hF:Okf n f) {x:Int} (hx:0≤x) {W:List Int} (hW:isWalk n W=true) (hp:pushN n.l f x W=some g):Okf n g∧exc n.l g n.t=exc n.l f n.t+x:=by
 obtain ⟨h1,h2,h3⟩:=push_facts hR hF.len hF.wi hx (W:=W) (k:=W.length) (Nat.le_refl _) (u:=n.t) (g:=g) (by rw [List.take_length];exact isWalk_at hW) (by rw [List.take_length];exact hp)
 have e1:=h3 n.t
 rw [if_pos rfl,if_neg hR.ne] at e1
 refine ⟨⟨h1,h2,fun v hv hs ht=>?_⟩,by omega⟩
 rw [h3 v,if_neg (Ne.symm ht),if_neg (Ne.symm hs),hF.calm v hv hs ht];simp
def SBlk (w:World) (b:Nat) (n s t:Int) (av rv:Value) (x:Int) (uv:Value):Prop:=w.heap[b]? = some (.cells #[.int .i64 n,.int .i64 s,.int .i64 t,av,rv,.int .i64 x,uv] 141 (0,0))
section
variable {w w2:World} {b:Nat} {n s t x:Int} {av rv uv:Value}
theorem sblk_cells (h:SBlk w b n s t av rv x uv):w.cell? ⟨b,0,none⟩=some (.int .i64 n)∧w.cell? ⟨b,1,none⟩=some (.int .i64 s)∧w.cell? ⟨b,2,none⟩=some (.int .i64 t)∧w.cell? ⟨b,3,none⟩=some av∧w.cell? ⟨b,4,none⟩=some rv∧w.cell? ⟨b,5,none⟩=some (.int .i64 x)∧w.cell? ⟨b,6,none⟩=some uv:=by
 unfold SBlk at h
 simp [World.cell?,h]
theorem sblk_lt (h:SBlk w b n s t av rv x uv):b<w.heap.size:=Rw.lt_of_heap h
theorem sblk_same (h:SBlk w b n s t av rv x uv) (e:w2.heap[b]? = w.heap[b]?):SBlk w2 b n s t av rv x uv:=by unfold SBlk at *;rw [e];exact h
theorem sblk_new (w:World) {b:Nat} (hb:b=w.heap.size) (n s t x:Int) (av rv uv:Value):SBlk (w.alloc (.cells #[.int .i64 n,.int .i64 s,.int .i64 t,av,rv,.int .i64 x,uv] 141)) b n s t av rv x uv:=by
 subst hb
 show (w.heap.push _)[w.heap.size]? = _
 simp
end
structure SrM (n:Net) (ao:Option Addr) (cap:Nat) (x:Int) (w0 w:World) (sb lb lo hi:Nat) (rv:Value) (RM:List Int) (VS:Nat→Value) (U:Nat→List Nat):Prop where
 row0:ARow w0 ao n.l
 old:Below w0.heap.size w0 w
 blk:SBlk w sb n.n n.s n.t (.slice ao n.l.length cap) rv x (.slice (some ⟨lb,0,none⟩) (n.n.toNat+1) (n.n.toNat+1))
 rooms:OwnL w w0.heap.size rv RM
 rows:RBox w lb lo hi (n.n.toNat+1) VS U
 low:w0.heap.size≤lb∧w0.heap.size≤sb
 ne:sb≠lb
 sep:∀ g,rv.ownBlock=some g→g≠lb∧g≠sb∧(g<lo∨hi≤g)
section
variable {n:Net} {ao:Option Addr} {cap:Nat} {x:Int} {w0 w w2:World} {sb lb lo hi:Nat} {rv:Value} {RM:List Int} {VS:Nat→Value} {U:Nat→List Nat}
theorem SrM.row (st:SrM n ao cap x w0 w sb lb lo hi rv RM VS U):ARow w ao n.l:=st.row0.kept st.old
theorem SrM.lt (st:SrM n ao cap x w0 w sb lb lo hi rv RM VS U):sb<w.heap.size∧lb<w.heap.size:=⟨sblk_lt st.blk,st.rows.lt⟩
theorem SrM.kept (st:SrM n ao cap x w0 w sb lb lo hi rv RM VS U) (hb:Below w.heap.size w w2):SrM n ao cap x w0 w2 sb lb lo hi rv RM VS U :=
 ⟨st.row0,st.old.trans (hb.mono st.old.size),sblk_same st.blk (hb.block _ st.lt.1),own_same st.rooms fun g hg=>hb.block g (Rw.own_lt st.rooms g hg).2,st.rows.below hb,st.low,st.ne,st.sep⟩
theorem SrM.alloc (st:SrM n ao cap x w0 w sb lb lo hi rv RM VS U) (o:Obj):SrM n ao cap x w0 (w.alloc o) sb lb lo hi rv RM VS U:=st.kept ((Below.refl _ _).alloc (Nat.le_refl _) o)
theorem SrM.far (st:SrM n ao cap x w0 w sb lb lo hi rv RM VS U) {p:Addr} (h0:w0.heap.size≤p.block) (h1:p.block≠sb) (h2:p.block≠lb) (h3:p.block<lo∨hi≤p.block) (h4:∀ g,rv.ownBlock=some g→g≠p.block) (v:Value):SrM n ao cap x w0 (w.setCell p v) sb lb lo hi rv RM VS U :=
 ⟨st.row0,st.old.setCell h0 v,sblk_same st.blk (Below.heap_setCell _ _ _ _ (Ne.symm h1)),own_same st.rooms fun g hg=>Below.heap_setCell _ _ _ _ (h4 g hg),st.rows.far h2 h3 v,st.low,st.ne,st.sep⟩
theorem SrM.grown (st:SrM n ao cap x w0 w sb lb lo hi rv RM VS U) {row:Option Nat} (hg:w.grownBy w2 row) (hr:∀ g,row=some g→w0.heap.size≤g∧g≠sb∧g≠lb∧(g<lo∨hi≤g)∧rv.ownBlock≠some g):SrM n ao cap x w0 w2 sb lb lo hi rv RM VS U :=
 ⟨st.row0,st.old.grown hg st.old.size fun g e=>(hr g e).1,sblk_same st.blk (hg.block _ st.lt.1 fun e=>(hr _ e.symm).2.1 rfl),own_same st.rooms fun g hv=>hg.block g (Rw.own_lt st.rooms g hv).2 fun e=>(hr g e.symm).2.2.2.2 hv,
  st.rows.grown hg fun g e=>⟨(hr g e).2.2.1,(hr g e).2.2.2.1⟩,st.low,st.ne,st.sep⟩
theorem SrM.put (st:SrM n ao cap x w0 w sb lb lo hi rv RM VS U) {v:Nat} (hv:v<n.n.toNat+1) {y:Value} {u:List Nat} (hy:RowOf w lo hi y u) :
  SrM n ao cap x w0 (w.setCell ⟨lb,v,none⟩ y) sb lb lo hi rv RM (fun j=>if j=v then y else VS j) (fun j=>if j=v then u else U j) :=
 ⟨st.row0,st.old.setCell (p:=⟨lb,v,none⟩) st.low.1 y,sblk_same st.blk (Below.heap_setCell _ _ _ _ st.ne),own_same st.rooms fun g hg=>Below.heap_setCell _ _ _ _ (st.sep g hg).1,st.rows.put hv hy,st.low,st.ne,st.sep⟩
theorem rowOf_nil (w:World) (lo hi:Nat):RowOf w lo hi (.slice none 0 0) []:=⟨none,0,rfl,by simp,by unfold maxLen;omega,.inl rfl⟩
theorem rowOf_drop {w:World} {lo hi:Nat} {b off m c:Nat} {u:List Nat} (h:RowOf w lo hi (.slice (some ⟨b,off,none⟩) m c) u) {i:Nat} (hi2:i<u.length) :
  RowOf w lo hi (.slice (some ⟨b,off+i,none⟩) (m-i) (c-i)) (u.drop i):=by
 obtain ⟨A',c',h1,h2,h3,h4⟩:=h
 simp only [Value.slice.injEq] at h1
 obtain ⟨rfl,rfl,rfl⟩:=h1
 refine ⟨_,_,by rw [List.length_drop],by rw [List.length_drop];omega,by omega,?_⟩
 rcases h4 with h4 | ⟨b',off',e,h6,h7,h8⟩
 ·rw [h4] at hi2;simp at hi2
 ·cases e
  refine .inr ⟨b,off+i,rfl,h6,h7,fun j hj=>?_⟩
  rw [List.length_drop] at hj
  rw [show off+i+j=off+(i+j) by omega,h8 (i+j) (by omega)]
  simp [List.getD_eq_getElem?_getD,List.getElem?_drop]
theorem rowOf_at {w:World} {lo hi:Nat} {y:Value} {u:List Nat} (h:RowOf w lo hi y u) {i:Nat} (hi2:i<u.length):∃ b off c,y=.slice (some ⟨b,off,none⟩) u.length c∧u.length≤c∧c≤maxLen∧lo≤b∧b<hi∧∀ j,j<u.length→w.cell? ⟨b,off+j,none⟩=some (.int .i64 ((u.getD j 0:Nat):Int)):=by
 obtain ⟨A,c,h1,h2,h3,h4⟩:=h
 rcases h4 with h4 | ⟨b,off,rfl,h6,h7,h8⟩
 ·rw [h4] at hi2;simp at hi2
 ·exact ⟨b,off,c,h1,h2,h3,h6,h7,h8⟩
theorem SrM.less (st:SrM n ao cap x w0 w sb lb lo hi rv RM VS U) {r:Nat} (hr:r<RM.length) (y:Int):∃ g c,rv=.slice (some ⟨g,0,none⟩) RM.length c∧g<w.heap.size∧w0.heap.size≤g∧w.cell? ⟨g,r,none⟩=some (.int .i64 (amt RM r))∧w.frozen? ⟨g,r,none⟩=false ∧
  SrM n ao cap x w0 (w.setCell ⟨g,r,none⟩ (.int .i64 y)) sb lb lo hi rv (RM.set r y) VS U:=by
 obtain ⟨ao',c,hv,_,_,_,_,_,_⟩:=Rw.own_row encI_len st.rooms
 have hro:=st.rooms
 rw [hv] at hro
 obtain ⟨g,rfl,hg1,hg2,hc,hf⟩:=own_cells encI_len hro (at_amt hr)
 have hsep:=st.sep g (by rw [hv];rfl)
 have c0:=hc 0 _ rfl
 rw [show r*1+0=r by omega] at c0
 refine ⟨g,c,hv,hg2,hg1,c0,hf r,st.row0,st.old.setCell (p:=⟨g,r,none⟩) hg1 _,sblk_same st.blk (Below.heap_setCell _ _ _ _ (Ne.symm hsep.2.1)),?_,st.rows.far (p:=⟨g,r,none⟩) hsep.1 hsep.2.2 _,st.low,st.ne,st.sep⟩
 have h:=own_put encI_len hro (at_amt hr) (y:=y) (j:=0) (by omega) (u:=.int .i64 y) rfl
 rw [show r*1+0=r by omega] at h
 rw [hv];exact h
theorem SrM.room (st:SrM n ao cap x w0 w sb lb lo hi rv RM VS U) {r:Nat} (hr:r<RM.length):∃ g c,rv=.slice (some ⟨g,0,none⟩) RM.length c∧g<w.heap.size∧w.cell? ⟨g,r,none⟩=some (.int .i64 (amt RM r)):=by
 obtain ⟨g,c,h1,h2,_,h3,_⟩:=st.less hr 0
 exact ⟨g,c,h1,h2,h3⟩
end
def fIx (P:Nat→Bool) (u:List Nat):Int:=if u.findIdx P<u.length then (u.findIdx P:Int) else -1
theorem fIx_hit {P:Nat→Bool} {u:List Nat} {k:Nat} (hk:k<u.length) (h1:∀ j,j<k→P (u.getD j 0)=false) (h2:P (u.getD k 0)=true):fIx P u=(k:Int):=by
 have e:u.findIdx P=k:=by
  refine (List.findIdx_eq hk).2 ⟨?_,fun j hj=>?_⟩
  ·rw [List.getD_eq_getElem?_getD,List.getElem?_eq_getElem hk] at h2;exact h2
  ·have:=h1 j hj
   rw [List.getD_eq_getElem?_getD,List.getElem?_eq_getElem (by omega)] at this
   simpa using this
 unfold fIx
 rw [e,if_pos hk]
theorem fIx_none {P:Nat→Bool} {u:List Nat} (h1:∀ j,j<u.length→P (u.getD j 0)=false):fIx P u = -1:=by
 unfold fIx
 rw [if_neg]
 intro h
 have:=List.findIdx_getElem (w:=h)
 have h2:=h1 _ h
 rw [List.getD_eq_getElem?_getD,List.getElem?_eq_getElem h] at h2
 simp only [Option.getD_some] at h2
 rw [this] at h2;cases h2
theorem fIx_cases (P:Nat→Bool) (u:List Nat):(∃ k:Nat,k<u.length∧fIx P u=(k:Int)∧P (u.getD k 0)=true∧∀ j,j<k→P (u.getD j 0)=false)∨(fIx P u = -1∧∀ j,j<u.length→P (u.getD j 0)=false):=by
 by_cases h:u.findIdx P<u.length
 ·left
  refine ⟨u.findIdx P,h,by unfold fIx;rw [if_pos h],?_,fun j hj=>?_⟩
  ·rw [List.getD_eq_getElem?_getD,List.getElem?_eq_getElem h]
   exact List.findIdx_getElem (w:=h)
  ·rw [List.getD_eq_getElem?_getD,List.getElem?_eq_getElem (by omega)]
   exact Bool.eq_false_iff.2 (by simpa using List.not_of_lt_findIdx hj)
 ·right
  refine ⟨by unfold fIx;rw [if_neg h],fun j hj=>?_⟩
  rw [List.getD_eq_getElem?_getD,List.getElem?_eq_getElem hj]
  exact Bool.eq_false_iff.2 (by simpa using List.not_of_lt_findIdx (show j<u.findIdx P by omega))
end Ne
end Go.Proofs.YthhlfphnokdfaaaGreat
namespace Go.Proofs.YthhlfphnokdfaaaGreat
namespace Ne
open Fo (Ft)
theorem sum_le_map {TL:List Nat} {h h2:Nat→Int} (hh:∀ r∈TL,h r≤h2 r):(TL.map h).sum≤(TL.map h2).sum:=by
 induction TL with
 | nil=>simp
 | cons r TL ih =>
  have h1:=ih fun q hq=>hh q (List.mem_cons_of_mem _ hq)
  have h2:=hh r (by simp)
  simp only [List.map_cons,List.sum_cons]
  omega
theorem sum_nn {TL:List Nat} {h:Nat→Int} (h0:∀ r∈TL,0≤h r):0≤(TL.map h).sum:=by
 induction TL with
 | nil=>simp
 | cons r TL ih =>
  have h1:=ih fun q hq=>h0 q (List.mem_cons_of_mem _ hq)
  have h2:=h0 r (by simp)
  simp only [List.map_cons,List.sum_cons]
  omega
theorem sum_mem {TL:List Nat} {h:Nat→Int} (h0:∀ r∈TL,0≤h r) {q:Nat} (hq:q∈TL):h q≤(TL.map h).sum:=by
 induction TL with
 | nil=>simp at hq
 | cons r TL ih =>
  have h1:=sum_nn fun q hq=>h0 q (List.mem_cons_of_mem _ hq)
  have h2:=h0 r (by simp)
  simp only [List.map_cons,List.sum_cons]
  rcases List.mem_cons.1 hq with e | hq
  ·subst e;omega
  ·have:=ih (fun q hq=>h0 q (List.mem_cons_of_mem _ hq)) hq;omega
theorem sum_drop {TL:List Nat} {h h2:Nat→Int} {a:Int} (hh:∀ r∈TL,h2 r≤h r) {q:Nat} (hq:q∈TL) (e:h2 q+a≤h q):(TL.map h2).sum+a≤(TL.map h).sum:=by
 induction TL with
 | nil=>simp at hq
 | cons r TL ih =>
  have h1:=sum_le_map fun q hq=>hh q (List.mem_cons_of_mem _ hq)
  have h3:=hh r (by simp)
  simp only [List.map_cons,List.sum_cons]
  rcases List.mem_cons.1 hq with e2 | hq
  ·subst e2;omega
  ·have:=ih (fun q hq=>hh q (List.mem_cons_of_mem _ hq)) hq;omega
theorem sum_idx:∀ {Q:List Nat} {k:Nat} {h:Nat→Int},Q.Nodup→(∀ i∈Q,i<k)→(∀ i,i<k→0≤h i)→(Q.map h).sum≤sumTo h k
 | [],k,h,_,_,h0=>by simpa using sumTo_nn h0
 | q :: Q,k,h,hn,hk,h0=>by
  obtain ⟨n1,n2⟩:=List.nodup_cons.1 hn
  have e:=sumTo_one (g:=h) (j:=q) (-h q) (k:=k) (hk q (by simp))
  have ih:=sum_idx (Q:=Q) (k:=k) (h:=fun i=>if i=q then h i + -h q else h i) n2 (fun i hi=>hk i (List.mem_cons_of_mem _ hi)) (fun i hi=>by
   by_cases c:i=q
   ·simp only [if_pos c];subst c;omega
   ·simp only [if_neg c];exact h0 i hi)
  rw [e] at ih
  have e2:Q.map (fun i=>if i=q then h i + -h q else h i)=Q.map h:=List.map_congr_left fun i hi=>by
   have c:i≠q:=fun c=>n1 (by rw [← c];exact hi)
   simp only [if_neg c]
  rw [e2] at ih
  simp only [List.map_cons,List.sum_cons]
  omega
theorem addSF_len (f:Ft) (x d:Int):(Fo.addS f x d).v.length=f.v.length:=by
 unfold Fo.addS
 split
 ·exact Sp.addL_len _ _ _
 ·rfl
def tot (l:List Arc) (TL:List Nat) (g:List Int):Int:=(TL.map (roomN l g)).sum
theorem half_nodup {l:List Arc} {L:List Int} {TL:List Nat} (hL:Lds l L TL):(TL.map (· / 2)).Nodup:=by
 refine List.pairwise_map.2 (hL.srt.imp_of_mem fun {a b} ha hb hab e=>?_)
 rcases same_half (r:=a) (q:=b) e with c | c
 ·omega
 ·exact lds_opp hL ha (c▸hb)
section
variable {n:Net} {TL:List Nat} {g:List Int} {x:Int} {U:Nat→List Nat} {f f2:Ft} {RL:List Int} {S:List Bool} {L:List Int}
theorem tot_le (hR:Right n) (hL:Lds n.l L TL) (hw:wi n.l g):tot n.l TL g≤4611686018427387903:=by
 have h1:tot n.l TL g≤(TL.map fun r=>(arcAt n.l (r / 2)).cap).sum:=sum_le_map fun r hr=>(room_nn hw (hL.lt r hr)).2
 have h2:=sum_idx (h:=fun i=>(arcAt n.l i).cap) (k:=n.l.length) (half_nodup hL) (fun i hi=>by
  obtain ⟨r,hr,e⟩:=List.mem_map.1 hi
  have:=hL.lt r hr
  omega) hR.cap0
 rw [List.map_map] at h2
 have h3:(TL.map ((fun i=>(arcAt n.l i).cap) ∘ fun x=>x / 2))=TL.map fun r=>(arcAt n.l (r / 2)).cap:=rfl
 rw [h3] at h2
 have h4:=hR.sum
 unfold capS at h4
 omega
structure Tre (n:Net) (TL:List Nat) (g:List Int) (x:Int) (U:Nat→List Nat) (f:Ft) (RL:List Int) (S:List Bool):Prop where
 srch:Srch n TL g x (roomL n.l g (2*n.l.length)) U
 good:Fo.Good f
 len:f.v.length=n.n.toNat+1
 rlen:RL.length=2*n.l.length
 slen:S.length=n.n.toNat+1
 hung:∀ v u,f.up v=some u→∃ r T,U v=r :: T∧(trT n.l r).toNat=u∧amt f.v v=roomN n.l g r
 top:∀ v,v<n.n.toNat+1→f.up v=none→v≠n.t.toNat→amt f.v v=4611686018427387904
 sink:f.up n.t.toNat=none
 snk:tot n.l TL g<amt f.v n.t.toNat∧amt f.v n.t.toNat≤4611686018427387904
 rl:∀ r∈TL,(f.up (trF n.l r).toNat=none∨∀ T,U (trF n.l r).toNat≠r :: T)→amt RL r=roomN n.l g r
 dead:∀ v,S.getD v false=true→v≠n.t.toNat∧∀ R,¬ Wlk n.l TL g x (v:Int) R n.t
theorem Tre.lt (h:Tre n TL g x U f RL S) {v u:Nat} (hu:f.up v=some u):v<n.n.toNat+1:=by
 rcases Nat.lt_or_ge v (n.n.toNat+1) with c | c
 ·exact c
 ·rw [h.good.out v (by rw [h.len];exact c)] at hu;cases hu
theorem Tre.says (hR:Right n) (hL:Lds n.l L TL) (h:Tre n TL g x U f RL S) {v u:Nat} (hu:f.up v=some u):∃ r T,U v=r :: T∧r∈TL∧trF n.l r=(v:Int)∧trT n.l r=(u:Int)∧amt f.v v=roomN n.l g r∧u<n.n.toNat+1∧amt L u=amt L v+1:=by
 obtain ⟨r,T,e,h1,h2⟩:=h.hung v u hu
 have hv:=h.lt hu
 obtain ⟨h3,h4⟩:=h.srch.sub v hv r (by rw [e];simp)
 have hr:=hL.lt r h3
 have b1:=trF_bd hR hr
 have b2:=trT_bd hR hr
 have h5:=hL.up r h3
 rw [h4,h1] at h5
 exact ⟨r,T,e,h3,by omega,by omega,h2,by omega,h5⟩
theorem Tre.rnn (hR:Right n) (hL:Lds n.l L TL) (hw:wi n.l g):∀ r∈TL,0≤roomN n.l g r∧roomN n.l g r≤4611686018427387903:=fun r hr=>by
 have h1:=room_nn hw (hL.lt r hr)
 have h2:=cap_topR hR (i:=r / 2) (by have:=hL.lt r hr;omega)
 omega
theorem Tre.root_lev (hR:Right n) (hL:Lds n.l L TL) (h:Tre n TL g x U f RL S) {y k:Nat} (hd:Fo.Dp f.up y k):y<n.n.toNat+1→∀ z,Fo.root f y=some z→amt L y+(k:Int)=amt L z:=by
 induction hd with
 | @top y h1 =>
  intro hy z hz
  rw [h.good.root_top (by rw [h.len];exact hy) h1] at hz
  cases hz
  simp
 | @step y u k h1 _ ih =>
  intro hy z hz
  rw [h.good.root_step (by rw [h.len];exact hy) h1] at hz
  obtain ⟨r,T,_,_,_,_,_,hu,hl⟩:=h.says hR hL h1
  have:=ih hu z hz
  omega
theorem tre_start (hR:Right n) (hL:Lds n.l L TL) (hw:wi n.l g) (hF:Fo.Good (Fo.newS (List.replicate (n.n.toNat+1) 4611686018427387904))) :
  Tre n TL g x (fun v=>TL.filter fun r=>decide ((trF n.l r).toNat=v)) (Fo.newS (List.replicate (n.n.toNat+1) 4611686018427387904)) (roomL n.l g (2*n.l.length)) (List.replicate (n.n.toNat+1) false):=by
 have hrep:∀ i,i<n.n.toNat+1→amt (List.replicate (n.n.toNat+1) 4611686018427387904) i=4611686018427387904:=fun i hi=>by
  unfold amt
  rw [List.getD_eq_getElem?_getD,List.getElem?_replicate,if_pos hi]
  rfl
 have ht:n.t.toNat<n.n.toNat+1:=by have:=hR.t0;have:=hR.t1;omega
 refine ⟨srch_start hR hL g x,hF,by simp [Fo.newS],roomL_len _ _ _,by simp,fun v u hu=>(by cases hu),fun v hv _ _=>hrep v hv,rfl,?_,fun r hr _=>roomL_at _ _ (hL.lt r hr),fun v hv=>?_⟩
 ·show tot n.l TL g<amt (List.replicate (n.n.toNat+1) 4611686018427387904) n.t.toNat∧amt (List.replicate (n.n.toNat+1) 4611686018427387904) n.t.toNat≤_
  rw [hrep _ ht]
  have:=tot_le hR hL hw
  omega
 ·rw [replB] at hv;cases hv
structure Off1 (f f2:Ft) (v:Nat):Prop where
 good:Fo.Good f2
 len:f2.v.length=f.v.length
 up:∀ y,f2.up y=if y=v then none else f.up y
 val:∀ y,y<f.v.length→amt f2.v y=if y=v then 4611686018427387904 else amt f.v y
theorem off1_part (h:Fo.Good f) {v u:Nat} (hv:v<f.v.length) (hu:f.up v=some u) (hn:0≤amt f.v v):Fo.cutE f (v:Int)=0∧Off1 f (Fo.addS (Fo.cutS f (v:Int)) (v:Int) (4611686018427387904-amt f.v v)) v:=by
 have e0:Fo.cutE f (v:Int)=0:=by unfold Fo.cutE;rw [if_neg (by simp [Fo.there_nat hv]),Int.toNat_natCast,if_neg (by rw [hu];simp)]
 have e1:Fo.cutS f (v:Int)=Fo.cutF f v:=by unfold Fo.cutS;rw [e0,if_pos rfl,Int.toNat_natCast]
 rw [e1]
 have hg:=Fo.good_cut h v
 have hp:Fo.pathZ (Fo.cutF f v) (v:Int)=[v]:=by rw [Fo.pathZ_nat];exact hg.path_top hv (by show (if v=v then none else f.up v)=none;rw [if_pos rfl])
 have hb:=h.bnd v hv
 have e2:Fo.addE (Fo.cutF f v) (v:Int) (4611686018427387904-amt f.v v)=0:=by
  unfold Fo.addE
  rw [hp,if_neg (by simp),if_pos]
  intro i hi
  simp at hi
  subst hi
  refine (Sp.fits_iff _ _ (h.bnd i hv)).2 ?_
  show -Sp.big≤amt f.v i+_∧amt f.v i+_≤Sp.big
  unfold Sp.big
  omega
 refine ⟨e0,Fo.good_addS hg _ _,addSF_len _ _ _,fun y=>?_,fun y hy=>?_⟩
 ·unfold Fo.addS;rw [e2,if_pos rfl];rfl
 ·unfold Fo.addS;rw [e2,if_pos rfl,hp]
  show amt (Sp.addL f.v [v] _) y=_
  rw [Sp.addL_at hy]
  by_cases c:y=v
  ·subst c;rw [if_pos (by simp),if_pos rfl];omega
  ·rw [if_neg (by simpa using c),if_neg c]
theorem tre_part (hR:Right n) (hL:Lds n.l L TL) (h:Tre n TL g x U f RL S) {v u r:Nat} {T:List Nat} (hu:f.up v=some u) (hU:U v=r :: T) (ho:Off1 f f2 v):Tre n TL g x U f2 (RL.set r (amt f.v v)) S:=by
 obtain ⟨r',T',e,h1,h2,h3,h4,h5,h6⟩:=h.says hR hL hu
 rw [hU] at e
 obtain ⟨rfl,rfl⟩:r=r'∧T=T':=by simpa using e
 have hr:=hL.lt r h1
 have hv:=h.lt hu
 have hvt:v≠n.t.toNat:=fun c=>by subst c;rw [h.sink] at hu;cases hu
 have ht:n.t.toNat<f.v.length:=by rw [h.len];have:=hR.t0;have:=hR.t1;omega
 have hrl:r<RL.length:=by rw [h.rlen];exact hr
 refine ⟨h.srch,ho.good,by rw [ho.len,h.len],by rw [List.length_set,h.rlen],h.slen,fun y z hy=>?_,fun y hy hy2 hy3=>?_,?_,?_,fun q hq hq2=>?_,h.dead⟩
 ·rw [ho.up] at hy
  split at hy
  ·cases hy
  ·rename_i c
   have:=ho.val y (by rw [h.len];exact h.lt hy)
   rw [if_neg c] at this
   rw [this]
   exact h.hung y z hy
 ·have e2:=ho.val y (by rw [h.len];exact hy)
  rw [e2]
  split
  ·rfl
  ·rename_i c
   rw [ho.up,if_neg c] at hy2
   exact h.top y hy hy2 hy3
 ·rw [ho.up,if_neg (Ne.symm hvt)];exact h.sink
 ·rw [ho.val _ ht,if_neg (Ne.symm hvt)];exact h.snk
 ·rw [amt_set _ hrl]
  by_cases c:q=r
  ·subst c;rw [if_pos rfl];exact h4
  ·rw [if_neg c]
   refine h.rl q hq ?_
   by_cases c2:(trF n.l q).toNat=v
   ·right
    intro T2 e2
    rw [c2,hU] at e2
    simp at e2
    exact c e2.1.symm
   ·rw [ho.up,if_neg c2] at hq2;exact hq2
theorem tre_hang (hR:Right n) (hL:Lds n.l L TL) (hw:wi n.l g) (h:Tre n TL g x U f RL S) {v r:Nat} {T:List Nat} (hv:v<n.n.toNat+1) (hvt:v≠n.t.toNat) (hup:f.up v=none) (hU:U v=r :: T) :
  amt RL r=roomN n.l g r∧(trT n.l r).toNat<n.n.toNat+1∧Tre n TL g x U (Fo.linkS (Fo.addS f (v:Int) (amt RL r-4611686018427387904)) (v:Int) (trT n.l r)) RL S ∧
  ∀ y,(Fo.linkS (Fo.addS f (v:Int) (amt RL r-4611686018427387904)) (v:Int) (trT n.l r)).up y=if y=v then some (trT n.l r).toNat else f.up y:=by
 obtain ⟨h1,h2⟩:=h.srch.sub v hv r (by rw [hU];simp)
 have hr:=hL.lt r h1
 have b1:=trF_bd hR hr
 have b2:=trT_bd hR hr
 have hlev:=hL.up r h1
 rw [h2] at hlev
 obtain ⟨hn1,hn2⟩:=Tre.rnn hR hL hw r h1
 have hrl:=h.rl r h1 (.inl (by rw [h2];exact hup))
 obtain ⟨w,hw2⟩:∃ w,w=(trT n.l r).toNat:=⟨_,rfl⟩
 have htw:trT n.l r=(w:Int):=by omega
 rw [← hw2] at hlev ⊢
 rw [htw,hrl]
 have hwl:w<n.n.toNat+1:=by omega
 have hvf:v<f.v.length:=by rw [h.len];exact hv
 have hwf:w<f.v.length:=by rw [h.len];exact hwl
 have hp:Fo.pathZ f (v:Int)=[v]:=by rw [Fo.pathZ_nat];exact h.good.path_top hvf hup
 have hb:=h.top v hv hup hvt
 have e2:Fo.addE f (v:Int) (roomN n.l g r-4611686018427387904)=0:=by
  unfold Fo.addE
  rw [hp,if_neg (by simp),if_pos]
  intro i hi
  simp at hi
  subst hi
  refine (Sp.fits_iff _ _ (h.good.bnd i hvf)).2 ?_
  rw [hb]
  unfold Sp.big
  omega
 obtain ⟨f1,hf1⟩:∃ f1,f1=Fo.addS f (v:Int) (roomN n.l g r-4611686018427387904):=⟨_,rfl⟩
 rw [← hf1]
 have g1:Fo.Good f1:=by rw [hf1];exact Fo.good_addS h.good _ _
 have l1:f1.v.length=f.v.length:=by rw [hf1];exact addSF_len _ _ _
 have u1:f1.up=f.up:=by rw [hf1];unfold Fo.addS;rw [e2,if_pos rfl]
 have v1:∀ y,y<f.v.length→amt f1.v y=if y=v then roomN n.l g r else amt f.v y:=fun y hy=>by
  rw [hf1];unfold Fo.addS;rw [e2,if_pos rfl,hp]
  show amt (Sp.addL f.v [v] _) y=_
  rw [Sp.addL_at hy]
  by_cases c:y=v
  ·subst c;rw [if_pos (by simp),if_pos rfl,hb];omega
  ·rw [if_neg (by simpa using c),if_neg c]
 have hroot:Fo.root f w≠some v:=fun c=>by
  obtain ⟨k,hk⟩:=h.good.dep w hwf
  have:=h.root_lev hR hL hk hwl v c
  omega
 have r1:Fo.root f1 w=Fo.root f w:=by
  have:∀ k,Fo.pth f1.up k w=Fo.pth f.up k w:=fun k=>by rw [u1]
  unfold Fo.root Fo.path
  rw [l1,this]
 have eL:Fo.linkE f1 (v:Int) (w:Int)=0:=by
  obtain ⟨z,z1,z2,z3,z4⟩:=g1.rootZ_eq (x:=w) (by rw [l1];exact hwf)
  unfold Fo.linkE
  rw [if_neg (by simp [Fo.there_nat (f:=f1) (v:=v) (by rw [l1];exact hvf),Fo.there_nat (f:=f1) (v:=w) (by rw [l1];exact hwf)]),Int.toNat_natCast,u1,hup,if_neg (by simp),if_neg]
  rw [z2]
  intro c
  rw [r1] at z1
  exact hroot (by rw [z1];congr 1;omega)
 have eS:Fo.linkS f1 (v:Int) (w:Int)=Fo.linkF f1 v w:=by unfold Fo.linkS;rw [eL,if_pos rfl,Int.toNat_natCast,Int.toNat_natCast]
 have hupF:∀ y,(Fo.linkF f1 v w).up y=if y=v then some w else f.up y:=fun y=>by show (if y=v then some w else f1.up y)=_;rw [u1]
 rw [eS]
 refine ⟨rfl,hwl,⟨h.srch,?_,by show f1.v.length=_;rw [l1,h.len],h.rlen,h.slen,fun y z hy=>?_,fun y hy hy2 hy3=>?_,?_,?_,fun q hq hq2=>?_,h.dead⟩,hupF⟩
 ·have:=Fo.good_linkS g1 (v:Int) (w:Int)
  rwa [eS] at this
 ·rw [hupF] at hy
  show ∃ r T,U y=r :: T∧(trT n.l r).toNat=z∧amt f1.v y=_
  split at hy
  ·rename_i c
   subst c
   cases hy
   exact ⟨r,T,hU,by omega,by rw [v1 _ hvf,if_pos rfl]⟩
  ·rename_i c
   rw [v1 y (by rw [h.len];exact h.lt hy),if_neg c]
   exact h.hung y z hy
 ·show amt f1.v y=_
  rw [hupF] at hy2
  split at hy2
  ·cases hy2
  ·rename_i c
   rw [v1 y (by rw [h.len];exact hy),if_neg c]
   exact h.top y hy hy2 hy3
 ·rw [hupF,if_neg (Ne.symm hvt)];exact h.sink
 ·show _<amt f1.v _∧amt f1.v _≤_
  rw [v1 _ (by rw [h.len];have:=hR.t0;have:=hR.t1;omega),if_neg (Ne.symm hvt)];exact h.snk
 ·refine h.rl q hq ?_
  by_cases c2:(trF n.l q).toNat=v
  ·exact .inl (by rw [c2];exact hup)
  ·rw [hupF,if_neg c2] at hq2;exact hq2
theorem tre_drop (hR:Right n) (hL:Lds n.l L TL) (h:Tre n TL g x U f RL S) {v r:Nat} {T:List Nat} (hv:v<n.n.toNat+1) (hup:f.up v=none) (hU:U v=r :: T) (hx:¬ (x≤amt RL r∧S.getD (trT n.l r).toNat false=false)) :
  Tre n TL g x (fun j=>if j=v then T else U j) f RL S:=by
 obtain ⟨h1,h2⟩:=h.srch.sub v hv r (by rw [hU];simp)
 have hr:=hL.lt r h1
 have b2:=trT_bd hR hr
 have hrl:=h.rl r h1 (.inl (by rw [h2];exact hup))
 rw [hrl] at hx
 have hI:Idle n.l TL g x n.t r:=fun hx2 R hW=>by
  have hs:S.getD (trT n.l r).toNat false=true:=by
   rcases hb:S.getD (trT n.l r).toNat false with _ | _
   ·exact absurd ⟨hx2,hb⟩ hx
   ·rfl
  have:=(h.dead _ hs).2 R
  rw [show (((trT n.l r).toNat:Nat):Int)=trT n.l r by omega] at this
  exact this hW
 refine ⟨srch_drop h.srch hv hU hI,h.good,h.len,h.rlen,h.slen,fun y z hy=>?_,h.top,h.sink,h.snk,fun q hq hq2=>?_,h.dead⟩
 ·have c:y≠v:=fun c=>by subst c;rw [hup] at hy;cases hy
  simp only [if_neg c]
  exact h.hung y z hy
 ·refine h.rl q hq ?_
  by_cases c2:(trF n.l q).toNat=v
  ·exact .inl (by rw [c2];exact hup)
  ·simp only [if_neg c2] at hq2;exact hq2
theorem tre_spend (hR:Right n) (hL:Lds n.l L TL) (h:Tre n TL g x U f RL S) {v:Nat} (hv:v<n.n.toNat+1) (hvt:v≠n.t.toNat) (hU:U v=[]):Tre n TL g x U f RL (S.set v true):=by
 refine ⟨h.srch,h.good,h.len,h.rlen,by rw [List.length_set,h.slen],h.hung,h.top,h.sink,h.snk,h.rl,fun y hy=>?_⟩
 rw [getD_set _ _ _ (by rw [h.slen];exact hv)] at hy
 by_cases c:y=v
 ·subst c
  refine ⟨hvt,srch_none h.srch (by rw [Int.toNat_natCast];exact hU) fun e=>hvt ?_⟩
  omega
 ·rw [if_neg c] at hy;exact h.dead y hy
theorem tre_path (hR:Right n) (hL:Lds n.l L TL) (h:Tre n TL g x U f RL S) {y k:Nat} (hd:Fo.Dp f.up y k):y<n.n.toNat+1→Fo.root f y=some n.t.toNat →
  ∃ R,(∀ r∈R,r∈TL∧(∃ T,U (trF n.l r).toNat=r :: T)∧(∃ u,f.up (trF n.l r).toNat=some u)∧amt f.v (trF n.l r).toNat=roomN n.l g r)∧(∀ z,z∈Fo.path f y↔z=n.t.toNat∨∃ r∈R,(trF n.l r).toNat=z)∧((∀ r∈R,x≤roomN n.l g r)→Wlk n.l TL g x (y:Int) R n.t):=by
 have ht:=hR.t0
 induction hd with
 | @top y h1 =>
  intro hy hz
  rw [h.good.root_top (by rw [h.len];exact hy) h1] at hz
  cases hz
  refine ⟨[],by simp,fun z=>?_,fun _=>?_⟩
  ·rw [h.good.path_top (by rw [h.len];exact hy) h1];simp
  ·rw [show ((n.t.toNat:Nat):Int)=n.t by omega];exact .nil _
 | @step y u k h1 _ ih =>
  intro hy hz
  rw [h.good.root_step (by rw [h.len];exact hy) h1] at hz
  obtain ⟨r,T,e,r1,r2,r3,r4,hu,hl⟩:=h.says hR hL h1
  obtain ⟨R,k1,k2,k3⟩:=ih hu hz
  have hyr:(trF n.l r).toNat=y:=by omega
  refine ⟨r :: R,fun q hq=>?_,fun z=>?_,fun hx=>?_⟩
  ·rcases List.mem_cons.1 hq with c | c
   ·subst c;rw [hyr];exact ⟨r1,⟨T,e⟩,⟨u,h1⟩,r4⟩
   ·exact k1 q c
  ·rw [h.good.path_step (by rw [h.len];exact hy) h1,List.mem_append,k2]
   simp only [List.mem_cons,List.not_mem_nil,or_false,exists_eq_or_imp,hyr]
   constructor
   ·rintro ((c | c) | c)
    ·exact .inl c
    ·exact .inr (.inr c)
    ·exact .inr (.inl c.symm)
   ·rintro (c | (c | c))
    ·exact .inl (.inl c)
    ·exact .inr c.symm
    ·exact .inl (.inr c)
  ·rw [← r2]
   exact .cons r1 (hx r (by simp)) (by rw [r3];exact k3 fun q hq=>hx q (List.mem_cons_of_mem _ hq))
theorem tre_least (hR:Right n) (hL:Lds n.l L TL) (hw:wi n.l g) (h:Tre n TL g x U f RL S) (hs:Fo.root f n.s.toNat=some n.t.toNat) :
  ∃ v u:Nat,Fo.leastZ f (n.s.toNat:Int)=(v:Int)∧v<n.n.toNat+1∧v∈Fo.path f n.s.toNat∧f.up v=some u∧0≤amt f.v v∧amt f.v v≤4611686018427387903∧∀ z∈Fo.path f n.s.toNat,amt f.v v≤amt f.v z:=by
 have hsn:n.s.toNat<n.n.toNat+1:=by have:=hR.s0;have:=hR.s1;omega
 have hsf:n.s.toNat<f.v.length:=by rw [h.len];exact hsn
 obtain ⟨k,le,e1,e2,e3,e4,e5,e6,e7⟩:=Fo.least_says h.good hsf
 have hle:∀ z∈Fo.path f n.s.toNat,amt f.v le≤amt f.v z:=fun z hz=>by
  obtain ⟨i,hi,e⟩:=List.getElem_of_mem hz
  have:=e5 i z (by rw [List.getElem?_eq_getElem hi,e])
  omega
 have hmem:=List.mem_of_getElem? e1
 have hst:n.s.toNat≠n.t.toNat:=fun c=>hR.ne (by have:=hR.s0;have:=hR.t0;omega)
 have hsup:∃ u,f.up n.s.toNat=some u:=by
  cases c:f.up n.s.toNat with
  | none=>rw [h.good.root_top hsf c] at hs;exact absurd (Option.some.inj hs) hst
  | some u=>exact ⟨u,rfl⟩
 obtain ⟨u0,hu0⟩:=hsup
 obtain ⟨r0,T0,_,t1,t2,t3,t4,_⟩:=h.says hR hL hu0
 have hself:=h.good.path_self hsf
 have hnt:le≠n.t.toNat:=fun c=>by
  have h1:=hle _ hself
  rw [c,t4] at h1
  have h2:=sum_mem (fun r hr=>(Tre.rnn hR hL hw r hr).1) t1
  have h3:=h.snk.1
  unfold tot at h3
  omega
 obtain ⟨kd,hd⟩:=h.good.dep _ hsf
 obtain ⟨R,k1,k2,_⟩:=tre_path hR hL h hd hsn hs
 rcases (k2 le).1 hmem with c | ⟨r,hr,c⟩
 ·exact absurd c hnt
 ·obtain ⟨q1,_,⟨u,q2⟩,q3⟩:=k1 r hr
  rw [c] at q2 q3
  have:=Tre.rnn hR hL hw r q1
  exact ⟨le,u,e2,by rw [← h.len];exact e3,hmem,q2,by omega,by omega,hle⟩
theorem tre_push (hR:Right n) (hL:Lds n.l L TL) (hx:1≤x) (hF:Okf n g) (h:Tre n TL g x U f RL S) (hs:Fo.root f n.s.toNat=some n.t.toNat) {a:Int} {v u:Nat} (hv:v∈Fo.path f n.s.toNat) (hu:f.up v=some u) (hva:amt f.v v=a) (hle:∀ z∈Fo.path f n.s.toNat,a≤amt f.v z) (hxa:x≤a) :
  ∃ R g2,FirstW n.l TL g x n.t n.s R∧Least n.l g R a∧pushN n.l g a (encW R)=some g2∧Tre n TL g2 x U (Fo.addS f (n.s.toNat:Int) (-a)) RL S∧(Fo.addS f (n.s.toNat:Int) (-a)).up=f.up∧Beh n.l TL g g2:=by
 have hs0:=hR.s0
 have ht0:=hR.t0
 have hsn:n.s.toNat<n.n.toNat+1:=by have:=hR.s1;omega
 have htn:n.t.toNat<n.n.toNat+1:=by have:=hR.t1;omega
 have hsf:n.s.toNat<f.v.length:=by rw [h.len];exact hsn
 obtain ⟨kd,hd⟩:=h.good.dep _ hsf
 obtain ⟨R,k1,k2,k3⟩:=tre_path hR hL h hd hsn hs
 have hRa:∀ r∈R,a≤roomN n.l g r:=fun r hr=>by
  obtain ⟨_,_,_,q3⟩:=k1 r hr
  rw [← q3]
  exact hle _ ((k2 _).2 (.inr ⟨r,hr,rfl⟩))
 have hW:=k3 fun r hr=>Int.le_trans hxa (hRa r hr)
 rw [show ((n.s.toNat:Nat):Int)=n.s by omega] at hW
 have hFW:=first_heads hR hL h.srch hW fun r hr=>(k1 r hr).2.1
 have hvt:v≠n.t.toNat:=fun c=>by subst c;rw [h.sink] at hu;cases hu
 have hLe:Least n.l g R a:=by
  refine ⟨hRa,?_⟩
  rcases (k2 v).1 hv with c | ⟨r,hr,c⟩
  ·exact absurd c hvt
  ·refine ⟨r,hr,?_⟩
   obtain ⟨_,_,_,q3⟩:=k1 r hr
   rw [c] at q3
   omega
 obtain ⟨g2,hp,hg2,_⟩:=wlk_push hL hW hF.len hRa
 obtain ⟨hB,hT⟩:=beh_push hL hW hF.len (by omega) hRa hp
 have hS2:=srch_push hL hF.len h.srch hx hFW hLe hp
 have hpne:Fo.pathZ f (n.s.toNat:Int)≠[]:=by
  rw [Fo.pathZ_nat]
  intro c
  have:=h.good.path_self hsf
  rw [c] at this
  simp at this
 have hmf:∀ z∈Fo.path f n.s.toNat,z<f.v.length:=fun z hz=>h.good.path_lt hz
 have e2:Fo.addE f (n.s.toNat:Int) (-a)=0:=by
  unfold Fo.addE
  rw [if_neg hpne,if_pos]
  intro i hi
  rw [Fo.pathZ_nat] at hi
  have h1:=h.good.bnd i (hmf i hi)
  have h2:=hle i hi
  refine (Sp.fits_iff _ _ h1).2 ?_
  unfold Sp.big at *
  omega
 have hup:(Fo.addS f (n.s.toNat:Int) (-a)).up=f.up:=by unfold Fo.addS;rw [e2,if_pos rfl]
 have hlen:(Fo.addS f (n.s.toNat:Int) (-a)).v.length=f.v.length:=addSF_len _ _ _
 have hval:∀ y,y<f.v.length→amt (Fo.addS f (n.s.toNat:Int) (-a)).v y=if y∈Fo.path f n.s.toNat then amt f.v y-a else amt f.v y:=fun y hy=>by
  unfold Fo.addS
  rw [e2,if_pos rfl,Fo.pathZ_nat]
  show amt (Sp.addL f.v _ _) y=_
  rw [Sp.addL_at hy]
  split <;> omega
 refine ⟨R,g2,hFW,hLe,hp,⟨⟨roomL_len _ _ _,fun r hr=>roomL_at _ _ (hL.lt r hr),hS2.sub,hS2.srt,hS2.gone⟩,Fo.good_addS h.good _ _,by rw [hlen,h.len],h.rlen,h.slen,fun y z hy=>?_,fun y hy hy2 hy3=>?_,by rw [hup];exact h.sink,?_,fun q hq hq2=>?_,fun y hy=>?_⟩,hup,hB⟩
 ·rw [hup] at hy
  obtain ⟨r,T,e,q1,q2,q3,q4,q5,q6⟩:=h.says hR hL hy
  have hyn:=h.lt hy
  refine ⟨r,T,e,by omega,?_⟩
  rw [hval y (by rw [h.len];exact hyn),hT r q1]
  have hiff:y∈Fo.path f n.s.toNat↔r∈R:=by
   rw [k2]
   constructor
   ·rintro (c | ⟨r2,c1,c2⟩)
    ·subst c;rw [h.sink] at hy;cases hy
    ·obtain ⟨_,⟨T2,c3⟩,_⟩:=k1 r2 c1
     rw [c2,e] at c3
     simp at c3
     rw [c3.1];exact c1
   ·intro c
    exact .inr ⟨r,c,by omega⟩
  by_cases c:r∈R
  ·rw [if_pos (hiff.2 c),if_pos c,q4]
  ·rw [if_neg (fun c2=>c (hiff.1 c2)),if_neg c,q4]
 ·rw [hup] at hy2
  have hnp:y ∉ Fo.path f n.s.toNat:=fun c=>by
   rcases (k2 y).1 c with c | ⟨r,c1,c2⟩
   ·exact hy3 c
   ·obtain ⟨_,_,⟨z,c3⟩,_⟩:=k1 r c1
    rw [c2,hy2] at c3;cases c3
  rw [hval y (by rw [h.len];exact hy),if_neg hnp]
  exact h.top y hy hy2 hy3
 ·rw [hval _ (by rw [h.len];exact htn),if_pos ((k2 _).2 (.inl rfl))]
  obtain ⟨r,hr,_⟩:=hLe.one
  have h1:=h.snk
  have h2:tot n.l TL g2+a≤tot n.l TL g:=sum_drop (fun r hr=>hB.dec r hr) (k1 r hr).1 (by rw [hT r (k1 r hr).1,if_pos hr];omega)
  omega
 ·rw [hup] at hq2
  have hnR:q ∉ R:=fun c=>by
   obtain ⟨_,⟨T,c1⟩,⟨u2,c2⟩,_⟩:=k1 q c
   rcases hq2 with c3 | c3
   ·rw [c3] at c2;cases c2
   ·exact c3 T c1
  rw [h.rl q hq hq2,hT q hq,if_neg hnR]
 ·obtain ⟨d1,d2⟩:=h.dead y hy
  exact ⟨d1,fun R2 hW2=>d2 R2 (wlk_less hB.dec hW2)⟩
end
end Ne
end Go.Proofs.YthhlfphnokdfaaaGreat
