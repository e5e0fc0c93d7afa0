/-
  Tsu
-/
import Derived.Test.YtoadkckceladgaaGreatBc23
import Derived.Test.YtoadkckceladgaaGreatBc7
set_option linter.unusedVariables false
set_option linter.unusedSimpArgs false
set_option maxRecDepth 100000
set_option maxHeartbeats 4000000
namespace Go.Proofs.YtoadkckceladgaaGreat
open Go.ChangeShapes Go.WideShapes Go.ChangeAt Go.RowKit
open Lib (hid)
namespace Ne
open Sp (Off Ext)
open Fo (Ft FoO fc)
def tailL (l:List Arc) (TL:List Nat) (k v:Nat):List Nat:=((TL.take k).filter fun r=>decide ((trT l r).toNat=v)).map fun r=>(trF l r).toNat
theorem tailL_step {l:List Arc} {TL:List Nat} {k:Nat} (hk:k<TL.length) (v:Nat):(if v=(trT l (TL.getD k 0)).toNat then tailL l TL k (trT l (TL.getD k 0)).toNat ++ [(trF l (TL.getD k 0)).toNat] else tailL l TL k v)=tailL l TL (k+1) v:=by
 unfold tailL
 rw [take_getD hk,List.filter_append,List.map_append]
 generalize TL.getD k 0=r
 by_cases e:v=(trT l r).toNat
 ·subst e
  rw [if_pos rfl]
  simp
 ·rw [if_neg e]
  have e2:¬ (trT l r).toNat=v:=fun h=>e h.symm
  simp [e2]
theorem tailL_len (l:List Arc) (TL:List Nat) (k v:Nat):(tailL l TL k v).length≤k:=by
 unfold tailL
 rw [List.length_map]
 exact Nat.le_trans (List.length_filter_le _ _) (by rw [List.length_take];omega)
structure HBox (w:World) (lb lo n:Nat) (VS:Nat→Value) (U:Nat→List Nat):Prop where
 row:w.rowIs lb 53 n VS
 own:∀ v,v<n→OwnI w lo (VS v) (encW (U v))
 sep:∀ v v',v<n→v' < n→v≠v'→∀ g,(VS v).ownBlock=some g→(VS v').ownBlock≠some g
 out:lb<lo
section
variable {w w2:World} {lb lo n:Nat} {VS:Nat→Value} {U:Nat→List Nat}
theorem hbox_new {w:World} {lb lo n:Nat} (h:w.rowIs lb 53 n (fun _=>.slice none 0 0)) (hl:lb<lo):HBox w lb lo n (fun _=>.slice none 0 0) (fun _=>[]) :=
 ⟨h,fun v _=>Rw.owN _ _,fun v v' _ _ _ g h=>by simp [Value.ownBlock] at h,hl⟩
theorem HBox.lt (h:HBox w lb lo n VS U):lb<w.heap.size:=World.rowIs.lt h.row
theorem HBox.below (h:HBox w lb lo n VS U) (hb:Below w.heap.size w w2):HBox w2 lb lo n VS U :=
 ⟨World.rowIs.of_block h.row (hb.block lb h.lt),fun v hv=>Rw.own_below (h.own v hv) hb,h.sep,h.out⟩
theorem HBox.cell (h:HBox w lb lo n VS U) {v:Nat} (hv:v<n):w.cell? ⟨lb,v,none⟩=some (VS v):=World.rowIs.cell h.row hv
theorem HBox.same (h:HBox w lb lo n VS U) {U':Nat→List Nat} (hU:∀ v,v<n→U v=U' v):HBox w lb lo n VS U':=⟨h.row,fun v hv=>by rw [← hU v hv];exact h.own v hv,h.sep,h.out⟩
theorem HBox.far (h:HBox w lb lo n VS U) {q:Addr} (h1:q.block≠lb) (h2:q.block<lo) (x:Value):HBox (w.setCell q x) lb lo n VS U :=
 ⟨World.rowIs.setOther h.row (Ne.symm h1) x,fun v hv=>owM (h.own v hv) fun g hg=>Below.heap_setCell _ _ _ _ (by have:=(Rw.owL (h.own v hv) g hg).1;omega),h.sep,h.out⟩
theorem HBox.grown (h:HBox w lb lo n VS U) {row:Option Nat} (hg:w.grownBy w2 row) (h1:row≠some lb) (h2:∀ v,v<n→∀ g,(VS v).ownBlock=some g→row≠some g):HBox w2 lb lo n VS U :=
 ⟨World.rowIs.of_block h.row (hg.block lb h.lt (Ne.symm h1)),fun v hv=>Rw.own_grown (h.own v hv) hg fun g hb=>Ne.symm (h2 v hv g hb),h.sep,h.out⟩
theorem HBox.put (h:HBox w lb lo n VS U) {v:Nat} (hv:v<n) {x:Value} {u:List Nat} (hg:w.grownBy w2 (VS v).ownBlock) (ho:OwnI w2 lo x (encW u)) (hx:x.ownBlock=(VS v).ownBlock∨x.ownBlock=some w.heap.size) :
  HBox (w2.setCell ⟨lb,v,none⟩ x) lb lo n (fun j=>if j=v then x else VS j) (fun j=>if j=v then u else U j):=by
 have hout:=h.out
 have hne:some lb≠(VS v).ownBlock:=fun e=>by have:=(Rw.owL (h.own v hv) lb e.symm).1;omega
 have hrow:=World.rowIs.of_block h.row (hg.block lb h.lt hne)
 refine ⟨World.rowIs.set hrow v x,fun j hj=>?_,fun j j' hj hj' hd g hb=>?_,h.out⟩
 ·by_cases e:j=v
  ·subst e
   simp only [if_true]
   exact Rw.own_set ho (p:=⟨lb,j,none⟩) (fun e=>by have:=(Rw.owL ho lb e).1;omega) x
  ·simp only [if_neg e]
   have h1:=Rw.own_grown (h.own j hj) hg fun g hb e2=>h.sep v j hv hj (Ne.symm e) g e2.symm hb
   exact Rw.own_set h1 (p:=⟨lb,v,none⟩) (fun e=>by have:=(Rw.owL h1 lb e).1;omega) x
 ·by_cases e:j=v
  ·subst e
   simp only [if_true] at hb
   simp only [if_neg (Ne.symm hd)]
   intro hb2
   rcases hx with hx | hx
   ·rw [hx] at hb;exact h.sep j j' hj hj' hd g hb hb2
   ·rw [hx] at hb
    have:=(Rw.owL (h.own j' hj') g hb2).2
    simp at hb;omega
  ·simp only [if_neg e] at hb
   by_cases e':j' = v
   ·subst e'
    simp only [if_true]
    intro hb2
    rcases hx with hx | hx
    ·rw [hx] at hb2;exact h.sep j j' hj hj' hd g hb hb2
    ·rw [hx] at hb2
     have:=(Rw.owL (h.own j hj) g hb).2
     simp at hb2;omega
   ·simp only [if_neg e'];exact h.sep j j' hj hj' hd g hb
theorem HBox.rbox (h:HBox w lb lo n VS U):RBox w lb lo w.heap.size n VS U:=⟨h.row,fun v hv=>.of_own (h.own v hv),h.out,Nat.le_refl _⟩
end
structure NsJ (n:Net) (ao:Option Addr) (cap:Nat) (x:Int) (w0:World) (sb lb ab pb cb p:Nat) (rv:Value) (lo B b1 nb:Nat) (lo':Option Addr) (lc:Nat) (TL:List Nat) (RL0:List Int) (F0:Ft) (wr:World) (c:Nat) (U AA:Nat→List Nat) (VS VA:Nat→Value):Prop where
 row0:ARow w0 ao n.l
 low:Below w0.heap.size w0 wr
 rooms:OwnL wr w0.heap.size rv RL0
 leads:OwnI wr w0.heap.size (.slice lo' TL.length lc) (encW TL)
 cnt:wr.heap[cb]? = some (.cells #[.int .i64 (c:Int)] 157 (0,0))
 fo:FoO wr B (fun g=>B≤g∧g<b1) p F0 0 0
 gu:HBox wr lb lo (n.n.toNat+1) VS U
 ga:HBox wr ab lo (n.n.toNat+1) VA AA
 cr:∀ v v',v<n.n.toNat+1→v' < n.n.toNat+1→∀ g,(VS v).ownBlock=some g→(VA v').ownBlock≠some g
 sp:BBox wr pb (List.replicate (n.n.toNat+1) false)
 blk:TBlk wr sb n.n n.s n.t (.slice ao n.l.length cap) rv x (.slice (some ⟨lb,0,none⟩) (n.n.toNat+1) (n.n.toNat+1)) (.slice (some ⟨ab,0,none⟩) (n.n.toNat+1) (n.n.toNat+1)) (.slice (some ⟨pb,0,none⟩) (n.n.toNat+1) (n.n.toNat+1)) p cb
 net:NetBox wr nb n.n n.s n.t (.slice ao n.l.length cap)
 sz:lo≤wr.heap.size
 b0:w0.heap.size≤cb∧cb<nb∧nb<B∧B≤b1
 rvb:∀ g,rv.ownBlock=some g→w0.heap.size≤g∧g<cb
 lvb:∀ g,(Value.slice lo' TL.length lc).ownBlock=some g→g<cb∧rv.ownBlock≠some g
 lows:b1≤lb∧b1≤ab∧b1≤pb∧b1≤sb
 ups:lb<lo∧ab<lo∧pb<lo∧sb<lo
 ne:lb≠ab∧lb≠pb∧lb≠sb∧ab≠pb∧ab≠sb∧pb≠sb
section
variable {n:Net} {ao:Option Addr} {cap:Nat} {x:Int} {w0:World} {sb lb ab pb cb p:Nat} {rv:Value} {lo B b1 nb:Nat} {lo':Option Addr} {lc:Nat} {TL:List Nat} {RL0:List Int} {F0:Ft}
variable {wr w2:World} {c:Nat} {U AA U' AA':Nat→List Nat} {VS VA:Nat→Value}
theorem NsJ.same (h:NsJ n ao cap x w0 sb lb ab pb cb p rv lo B b1 nb lo' lc TL RL0 F0 wr c U AA VS VA) (hU:∀ v,v<n.n.toNat+1→U v=U' v) (hA:∀ v,v<n.n.toNat+1→AA v=AA' v):NsJ n ao cap x w0 sb lb ab pb cb p rv lo B b1 nb lo' lc TL RL0 F0 wr c U' AA' VS VA :=
 ⟨h.row0,h.low,h.rooms,h.leads,h.cnt,h.fo,h.gu.same hU,h.ga.same hA,h.cr,h.sp,h.blk,h.net,h.sz,h.b0,h.rvb,h.lvb,h.lows,h.ups,h.ne⟩
theorem NsJ.below (h:NsJ n ao cap x w0 sb lb ab pb cb p rv lo B b1 nb lo' lc TL RL0 F0 wr c U AA VS VA) (hb:Below wr.heap.size wr w2):NsJ n ao cap x w0 sb lb ab pb cb p rv lo B b1 nb lo' lc TL RL0 F0 w2 c U AA VS VA:=by
 have hz:=h.sz;have h0:=h.b0;have h1:=h.lows;have h2:=h.ups;have hs:=h.low.size
 refine ⟨h.row0,h.low.trans (hb.mono hs),Rw.own_below h.rooms hb,Rw.own_below h.leads hb,?_,h.fo.off (G:=fun _=>False) (.of_below hb) fun _ _ c=>c,h.gu.below hb,h.ga.below hb,h.cr,h.sp.kept hb,?_,nbB h.net hb (netBox_lt h.net),Nat.le_trans hz hb.size,h0,h.rvb,h.lvb,h1,h2,h.ne⟩
 ·rw [hb.block cb (by omega)];exact h.cnt
 ·have:=h.blk
  unfold TBlk at *
  rw [hb.block sb (by omega)];exact this
theorem NsJ.count (h:NsJ n ao cap x w0 sb lb ab pb cb p rv lo B b1 nb lo' lc TL RL0 F0 wr c U AA VS VA):NsJ n ao cap x w0 sb lb ab pb cb p rv lo B b1 nb lo' lc TL RL0 F0 (wr.setCell ⟨cb,0,none⟩ (.int .i64 ((c+1:Nat):Int))) (c+1) U AA VS VA:=by
 have hz:=h.sz;have h0:=h.b0;have h1:=h.lows;have h2:=h.ups;have hs:=h.low.size
 have ho:Off (fun g=>g=cb) wr (wr.setCell ⟨cb,0,none⟩ (.int .i64 ((c+1:Nat):Int))):=(Off.refl (fun g=>g=cb) wr).set (p:=⟨cb,0,none⟩) (.inl rfl) _
 refine ⟨h.row0,h.low.setCell (p:=⟨cb,0,none⟩) h0.1 _,owM h.rooms fun g hg=>Below.heap_setCell _ _ _ _ (by have:=h.rvb g hg;show g≠cb;omega),owM h.leads fun g hg=>Below.heap_setCell _ _ _ _ (by have:=(h.lvb g hg).1;show g≠cb;omega),?_,h.fo.off ho (fun g hg e=>by omega),h.gu.far (q:=⟨cb,0,none⟩) (by show cb≠lb;omega) (by show cb<lo;omega) _,h.ga.far (q:=⟨cb,0,none⟩) (by show cb≠ab;omega) (by show cb<lo;omega) _,h.cr,h.sp.far (p:=⟨cb,0,none⟩) (by show pb≠cb;omega) _,?_,nbO h.net (by omega),by simpa [World.setCell] using hz,h0,h.rvb,h.lvb,h1,h2,h.ne⟩
 ·simp only [World.setCell,Array.getElem?_modify,h.cnt,if_true,Option.map_some]
  rfl
 ·exact (Below.heap_setCell _ _ _ _ (show sb≠cb by omega)).trans h.blk
theorem NsJ.mut (h:NsJ n ao cap x w0 sb lb ab pb cb p rv lo B b1 nb lo' lc TL RL0 F0 wr c U AA VS VA) {w3:World} {row:Option Nat} (hg:wr.grownBy w3 row) (hr:∀ g,row=some g→lo≤g) {q:Addr} (hq:q.block=lb∨q.block=ab) (v:Value) :
  Below w0.heap.size w0 (w3.setCell q v)∧OwnL (w3.setCell q v) w0.heap.size rv RL0∧OwnI (w3.setCell q v) w0.heap.size (.slice lo' TL.length lc) (encW TL)∧(w3.setCell q v).heap[cb]? = some (.cells #[.int .i64 (c:Int)] 157 (0,0))∧FoO (w3.setCell q v) B (fun g=>B≤g∧g<b1) p F0 0 0 ∧
  BBox (w3.setCell q v) pb (List.replicate (n.n.toNat+1) false)∧TBlk (w3.setCell q v) sb n.n n.s n.t (.slice ao n.l.length cap) rv x (.slice (some ⟨lb,0,none⟩) (n.n.toNat+1) (n.n.toNat+1)) (.slice (some ⟨ab,0,none⟩) (n.n.toNat+1) (n.n.toNat+1)) (.slice (some ⟨pb,0,none⟩) (n.n.toNat+1) (n.n.toNat+1)) p cb∧NetBox (w3.setCell q v) nb n.n n.s n.t (.slice ao n.l.length cap)∧lo≤(w3.setCell q v).heap.size:=by
 have hz:=h.sz;have h0:=h.b0;have h1:=h.lows;have h2:=h.ups;have hs:=h.low.size;have h3:=h.ne
 have hk:∀ g,g<lo→g≠lb→g≠ab→(w3.setCell q v).heap[g]? = wr.heap[g]?:=fun g h4 h5 h6 =>
  (Below.heap_setCell _ _ _ _ (by omega)).trans (hg.block g (by omega) fun e=>by have:=hr g e.symm;omega)
 have ho:Off (fun g=>g=lb∨g=ab∨lo≤g) wr (w3.setCell q v):=by
  refine ((Off.refl _ wr).grown hg fun k hk=>.inl (.inr (.inr (hr k hk)))).set (p:=q) (.inl ?_) v
  rcases hq with e | e
  ·exact .inl e
  ·exact .inr (.inl e)
 refine ⟨h.low.trans (ho.below (B:=w0.heap.size) (fun g e=>by omega) hs),owM h.rooms fun g hg'=>hk g ?_ ?_ ?_,owM h.leads fun g hg'=>hk g ?_ ?_ ?_,?_,h.fo.off ho (fun g hg' e=>by omega),World.rowIs.of_block h.sp (hk pb (by omega) (by omega) (by omega)),?_,?_,Nat.le_trans hz ho.size⟩
 ·have:=h.rvb g hg';omega
 ·have:=h.rvb g hg';omega
 ·have:=h.rvb g hg';omega
 ·have:=(h.lvb g hg').1;omega
 ·have:=(h.lvb g hg').1;omega
 ·have:=(h.lvb g hg').1;omega
 ·rw [hk cb (by omega) (by omega) (by omega)];exact h.cnt
 ·have:=h.blk
  unfold TBlk at *
  rw [hk sb (by omega) (by omega) (by omega)];exact this
 ·have:=h.net
  unfold NetBox at *
  rw [hk nb (by omega) (by omega) (by omega)];exact this
theorem NsJ.putU (h:NsJ n ao cap x w0 sb lb ab pb cb p rv lo B b1 nb lo' lc TL RL0 F0 wr c U AA VS VA) {t:Nat} (ht:t<n.n.toNat+1) {y:Value} {u:List Nat} (hg:wr.grownBy w2 (VS t).ownBlock) (ho:OwnI w2 lo y (encW u)) (hy:y.ownBlock=(VS t).ownBlock∨y.ownBlock=some wr.heap.size) :
  NsJ n ao cap x w0 sb lb ab pb cb p rv lo B b1 nb lo' lc TL RL0 F0 (w2.setCell ⟨lb,t,none⟩ y) c (fun j=>if j=t then u else U j) AA (fun j=>if j=t then y else VS j) VA:=by
 have h1:=h.ups;have h3:=h.ne
 obtain ⟨m1,m2,m3,m4,m5,m6,m7,m8,m9⟩:=h.mut hg (fun g e=>(Rw.owL (h.gu.own t ht) g e).1) (q:=⟨lb,t,none⟩) (.inl rfl) y
 refine ⟨h.row0,m1,m2,m3,m4,m5,h.gu.put ht hg ho hy,(h.ga.grown hg (fun e=>by have:=(Rw.owL (h.gu.own t ht) ab e).1;omega) (fun v hv g hg' e=>h.cr t v ht hv g e hg')).far (q:=⟨lb,t,none⟩) h3.1 h1.1 y,fun v v' hv hv' g hg'=>?_,m6,m7,m8,m9,h.b0,h.rvb,h.lvb,h.lows,h.ups,h.ne⟩
 by_cases e:v=t
 ·subst e
  simp only [if_true] at hg'
  rcases hy with hy | hy
  ·rw [hy] at hg';exact h.cr v v' hv hv' g hg'
  ·rw [hy] at hg'
   intro e2
   have:=(Rw.owL (h.ga.own v' hv') g e2).2
   simp at hg';omega
 ·simp only [if_neg e] at hg'
  exact h.cr v v' hv hv' g hg'
theorem NsJ.putA (h:NsJ n ao cap x w0 sb lb ab pb cb p rv lo B b1 nb lo' lc TL RL0 F0 wr c U AA VS VA) {t:Nat} (ht:t<n.n.toNat+1) {y:Value} {u:List Nat} (hg:wr.grownBy w2 (VA t).ownBlock) (ho:OwnI w2 lo y (encW u)) (hy:y.ownBlock=(VA t).ownBlock∨y.ownBlock=some wr.heap.size) :
  NsJ n ao cap x w0 sb lb ab pb cb p rv lo B b1 nb lo' lc TL RL0 F0 (w2.setCell ⟨ab,t,none⟩ y) c U (fun j=>if j=t then u else AA j) VS (fun j=>if j=t then y else VA j):=by
 have h1:=h.ups;have h3:=h.ne
 obtain ⟨m1,m2,m3,m4,m5,m6,m7,m8,m9⟩:=h.mut hg (fun g e=>(Rw.owL (h.ga.own t ht) g e).1) (q:=⟨ab,t,none⟩) (.inr rfl) y
 refine ⟨h.row0,m1,m2,m3,m4,m5,(h.gu.grown hg (fun e=>by have:=(Rw.owL (h.ga.own t ht) lb e).1;omega) (fun v hv g hg' e=>h.cr v t hv ht g hg' e)).far (q:=⟨ab,t,none⟩) (Ne.symm h3.1) h1.2.1 y,h.ga.put ht hg ho hy,fun v v' hv hv' g hg'=>?_,m6,m7,m8,m9,h.b0,h.rvb,h.lvb,h.lows,h.ups,h.ne⟩
 by_cases e:v' = t
 ·subst e
  simp only [if_true]
  rcases hy with hy | hy
  ·rw [hy];exact h.cr v v' hv hv' g hg'
  ·rw [hy]
   intro e2
   have:=(Rw.owL (h.gu.own v hv) g hg').2
   simp at e2;omega
 ·simp only [if_neg e]
  exact h.cr v v' hv hv' g hg'
theorem NsJ.done (h:NsJ n ao cap x w0 sb lb ab pb cb p rv lo B b1 nb lo' lc TL RL0 F0 wr c (fun v=>TL.filter fun r=>decide ((trF n.l r).toNat=v)) (tailL n.l TL TL.length) VS VA) :
  TsM n ao cap x w0 wr sb lb ab pb cb p rv lo wr.heap.size B b1 VA TL wr RL0 VS (fun v=>TL.filter fun r=>decide ((trF n.l r).toNat=v)) (List.replicate (n.n.toNat+1) false) c F0 0 0∧OwnI wr w0.heap.size (.slice lo' TL.length lc) (encW TL)∧∀ b,(Value.slice lo' TL.length lc).ownBlock=some b→¬ Mut rv lb pb cb B b1 b:=by
 have h0:=h.b0;have h1:=h.lows;have h2:=h.ups;have h3:=h.ne;have hz:=h.sz
 refine ⟨⟨⟨h.row0,h.blk,?_,by omega,h.rvb,h1,by omega,h3⟩,h.low,Nat.le_refl _,fun g _ _=>rfl,h.rooms,h.gu.rbox,h.sp,h.cnt,FoO.mono h.fo (fun g hg=>.inl hg) (fun g hg=>?_)⟩,h.leads,fun b hb hm=>?_⟩
 ·have:=h.ga.rbox
  unfold tailL at this
  rwa [List.take_length] at this
 ·rcases hg with hg | hg <;> omega
 ·have:=h.lvb b hb
  rcases hm with e | e | e | e | e
  ·exact this.2 e
  ·omega
  ·omega
  ·omega
  ·omega
end
end Ne
end Go.Proofs.YtoadkckceladgaaGreat
