/-
  Dap, Dmr, Gnb, Dtn, Copy, Dturn
-/
import Derived.Test.YtmikbkggjlbbnaaGreatBg41
import Derived.Test.YtmikbkggjlbbnaaGreatBg44
import Derived.Test.YtmikbkggjlbbnaaGreatBg2
import Derived.Lib.SliceRun
import Derived.Outline
import Derived.RegionTactic
import Derived.BigRegion
namespace Go.Proofs.YtmikbkggjlbbnaaGreat
set_option linter.unusedVariables false
set_option linter.unusedSimpArgs false
namespace Ne
theorem capP_map (φ:Int→Int) (l:List Arc) (P:Int→Bool):capP (l.map fun a=>⟨φ a.fr,φ a.to,a.cap⟩) P=capP l (fun v=>P (φ v)):=by
 unfold capP
 rw [List.map_map]
 rfl
theorem capP_congr {l:List Arc} {P Q:Int→Bool} (h:∀ a∈l,P a.fr=Q a.fr∧P a.to=Q a.to):capP l P=capP l Q:=by
 unfold capP
 congr 1
 refine List.map_congr_left fun a ha=>?_
 unfold capT
 rw [(h a ha).1,(h a ha).2]
theorem right_mem {n:Net} (hR:Right n) {a:Arc} (h:a∈n.l):1≤a.fr∧a.fr≤n.n∧1≤a.to∧a.to≤n.n∧0≤a.cap:=by
 obtain ⟨i,hi,e⟩:=List.mem_iff_getElem.1 h
 have:arcAt n.l i=a:=arcAt_of (by rw [List.getElem?_eq_getElem hi,e])
 rw [← this]
 exact ⟨hR.fr0 i hi,hR.fr1 i hi,hR.to0 i hi,hR.to1 i hi,hR.cap0 i hi⟩
theorem top_turn {n:Net} (hn:Right n) (hm:Right (turnN n)) {v w:Int} (h:Top n v) (k:Top (turnN n) w):v=w:=by
 refine Top.same hn hm h k (fun P a b=>⟨fun v=>!P v,?_,?_,?_⟩) (fun P a b=>⟨fun v=>!P v,?_,?_,?_⟩)
 ·show (!P n.t)=false;rw [b];rfl
 ·show (!P n.s)=true;rw [a];rfl
 ·exact Int.le_of_eq (capP_turn n.l P)
 ·have:P n.t=false:=a
  have:P n.s=true:=b
  show (!P n.s)=false;rw [this];rfl
 ·have:P n.t=false:=a
  show (!P n.t)=true;rw [this];rfl
 ·have e:=capP_turn n.l (fun v=>!P v)
  simp only [Bool.not_not] at e
  exact Int.le_of_eq e.symm
theorem top_cuts {n m:Net} (hn:Right n) (hm:Right m) (es:m.s=n.s) (et:m.t=n.t) (hc:∀ P:Int→Bool,P n.s=false→P n.t=true→capP m.l P=capP n.l P) {v w:Int} (h:Top n v) (k:Top m w):v=w :=
 Top.same hn hm h k (fun P a b=>⟨P,by rw [es];exact a,by rw [et];exact b,Int.le_of_eq (hc P a b)⟩) (fun P a b=>by
  rw [es] at a;rw [et] at b
  exact ⟨P,a,b,Int.le_of_eq (hc P a b).symm⟩)
theorem top_more {n m:Net} (hn:Right n) (hm:Right m) (es:m.s=n.s) (et:m.t=n.t) {x:Int} (hc:∀ P:Int→Bool,P n.s=false→P n.t=true→capP n.l P≤capP m.l P∧capP m.l P≤capP n.l P+x) {v w:Int} (h:Top n v) (k:Top m w):v≤w∧w≤v+x:=by
 constructor
 ·have:=Top.mono hm hn (x:=0) k h fun P a b=>by
   rw [es] at a;rw [et] at b
   exact ⟨P,a,b,by have:=(hc P a b).1;omega⟩
  omega
 ·exact Top.mono hn hm h k fun P a b=>⟨P,by rw [es];exact a,by rw [et];exact b,(hc P a b).2⟩
def movedN (n m:Net) (v:Int):Int:=if v=m.s then n.s else if v=m.t then n.t else n.n+v
def bothN (n m:Net):Net:=⟨n.n+m.n,n.s,n.t,n.l ++ m.l.map fun a=>⟨movedN n m a.fr,movedN n m a.to,a.cap⟩⟩
theorem top_both {n m:Net} (hn:Right n) (hm:Right m) (hb:Right (bothN n m)) {v w u:Int} (h:Top n v) (k:Top m w) (q:Top (bothN n m) u):u=v+w:=by
 have hs0:=hn.s1;have ht0:=hn.t1;have hne:=hm.ne
 have h1:u≤v+w:=by
  obtain ⟨P1,a1,b1,e1⟩:=h.cut hn
  obtain ⟨P2,a2,b2,e2⟩:=k.cut hm
  have hQ1:∀ y:Int,y≤n.n→(fun y:Int=>if y≤n.n then P1 y else P2 (y-n.n)) y=P1 y:=fun y hy=>by simp only;rw [if_pos hy]
  have:=q.low hb (P:=fun y:Int=>if y≤n.n then P1 y else P2 (y-n.n)) (by show (if n.s≤n.n then P1 n.s else _)=false;rw [if_pos hs0];exact a1) (by show (if n.t≤n.n then P1 n.t else _)=true;rw [if_pos ht0];exact b1)
  refine Int.le_trans this (Int.le_of_eq ?_)
  show capP (n.l ++ _) _=_
  rw [capP_append,capP_map,e1,e2]
  congr 1
  ·refine capP_congr fun a ha=>?_
   obtain ⟨_,r1,_,r2,_⟩:=right_mem hn ha
   exact ⟨hQ1 _ r1,hQ1 _ r2⟩
  ·have hv:∀ y:Int,1≤y→(if movedN n m y≤n.n then P1 (movedN n m y) else P2 (movedN n m y-n.n))=P2 y:=fun y hy=>by
    unfold movedN
    by_cases c1:y=m.s
    ·subst c1;rw [if_pos rfl,if_pos hs0,a1,a2]
    ·rw [if_neg c1]
     by_cases c2:y=m.t
     ·subst c2;rw [if_pos rfl,if_pos ht0,b1,b2]
     ·rw [if_neg c2,if_neg (by omega),show n.n+y-n.n=y by omega]
   refine capP_congr fun a ha=>?_
   obtain ⟨r0,_,r2,_,_⟩:=right_mem hm ha
   exact ⟨hv _ r0,hv _ r2⟩
 have h2:v+w≤u:=by
  obtain ⟨P,a,b,e⟩:=q.cut hb
  have ee:capP (bothN n m).l P=capP n.l P+capP m.l (fun y=>P (movedN n m y)):=by
   show capP (n.l ++ _) _=_
   rw [capP_append,capP_map]
  rw [e,ee]
  have k1:=h.low hn (P:=P) a b
  have k2:=k.low hm (P:=fun y=>P (movedN n m y)) (by show P (movedN n m m.s)=false;unfold movedN;rw [if_pos rfl];exact a) (by show P (movedN n m m.t)=true;unfold movedN;rw [if_neg (fun e=>hne e.symm),if_pos rfl];exact b)
  omega
 omega
end Ne
namespace Ne
theorem flow_bd {n:Net} (hR:Right n) {f:List Int} (hF:Flow n f):0≤exc n.l f n.t∧exc n.l f n.t≤4611686018427387903:=by
 have h1:=hF.val
 have h2:=toS_bd hR hF.wi n.t (Nat.le_refl _)
 have h3:=frS_bd hR hF.wi n.t (Nat.le_refl _)
 unfold exc at *
 omega
theorem checkL_upto {n K:Int}:∀ (l:List Arc) (left:Int),(∀ a∈l,isNode n a.fr=true∧isNode n a.to=true∧0≤a.cap∧a.cap≤K)→K*(l.length:Int)≤left→checkL n left l=0
 | [],_,_,_=>rfl
 | a :: l,left,h,hl=>by
  obtain ⟨h1,h2,h3,h4⟩:=h a (List.mem_cons_self)
  rw [List.length_cons,Int.natCast_add,Int.mul_add] at hl
  simp only [Int.natCast_one,Int.mul_one] at hl
  have hK:0≤K*(l.length:Int):=Int.mul_nonneg (by omega) (by omega)
  rw [checkL,h1,h2]
  simp only [Bool.and_true,if_true]
  rw [if_neg (by omega),if_neg (by omega)]
  exact checkL_upto l _ (fun b hb=>h b (List.mem_cons_of_mem _ hb)) (by omega)
theorem check_upto {n:Net} (h:fineH n) (hl:∀ a∈n.l,isNode n.n a.fr=true∧isNode n.n a.to=true∧0≤a.cap∧a.cap≤2000000):checkN n=0:=by
 rw [checkN_head h]
 exact checkL_upto (K:=2000000) _ _ hl (by have:=h.2.2.2.2.2.2.2;omega)
def moreL (N S D:Nat) (x:Int) (l:List Arc):List Arc:=((l ++ [⟨1,1,x⟩]) ++ [⟨(N:Int),(S:Int),x⟩]) ++ [⟨(D:Int),1,x⟩]
def upL (l:List Arc) (k:Nat) (x:Int):List Arc:=l.set k ⟨(arcAt l k).fr,(arcAt l k).to,(arcAt l k).cap+x⟩
theorem moreL_len (N S D:Nat) (x:Int) (l:List Arc):(moreL N S D x l).length=l.length+3:=by simp [moreL]
theorem upL_len (l:List Arc) (k:Nat) (x:Int):(upL l k x).length=l.length:=by simp [upL]
theorem at_mem {l:List Arc} {j:Nat} (hj:j<l.length):arcAt l j∈l:=by
 have:arcAt l j=l[j]:=by simp [arcAt,List.getElem?_eq_getElem hj]
 rw [this];exact List.getElem_mem hj
section
variable {N S D:Nat} {x:Int} {l:List Arc} (hN0:2≤N) (hN:N≤9) (hS0:1≤S) (hS:S≤N) (hD0:1≤D) (hD:D≤N) (hne:S≠D) (hx0:1≤x) (hx:x≤9) (hl:l.length≤24) (FI:∀ a∈l,fineA (N:Int) a)
include hN0 hN hS0 hS hD0 hD hx0 hx FI in
theorem more_fine:∀ a∈moreL N S D x l,isNode (N:Int) a.fr=true∧isNode (N:Int) a.to=true∧0≤a.cap∧a.cap≤1000000:=fun a ha=>by
 simp only [moreL,List.mem_append,List.mem_singleton] at ha
 rcases ha with ((ha | rfl) | rfl) | rfl
 ·exact FI a ha
 ·exact ⟨(isNode_at _ _).2 ⟨by simp,by simp only;omega⟩,(isNode_at _ _).2 ⟨by simp,by simp only;omega⟩,by simp only;omega,by simp only;omega⟩
 ·exact ⟨(isNode_at _ _).2 ⟨by simp only;omega,by simp⟩,(isNode_at _ _).2 ⟨by simp only;omega,by simp only;omega⟩,by simp only;omega,by simp only;omega⟩
 ·exact ⟨(isNode_at _ _).2 ⟨by simp only;omega,by simp only;omega⟩,(isNode_at _ _).2 ⟨by simp,by simp only;omega⟩,by simp only;omega,by simp only;omega⟩
include hN0 hN hS0 hS hD0 hD hne hx0 hx hl FI
theorem more_check:checkN ⟨(N:Int),(S:Int),(D:Int),moreL N S D x l⟩=0 :=
 check_upto ⟨by simp only;omega,by simp only;omega,by simp only;omega,by simp only;omega,by simp only;omega,by simp only;omega,by simp only;omega,by simp only [moreL_len];omega⟩ fun a ha=>by
  obtain ⟨h1,h2,h3,h4⟩:=more_fine hN0 hN hS0 hS hD0 hD hx0 hx FI a ha
  exact ⟨h1,h2,h3,by omega⟩
theorem up_check {k:Nat} (hk:k<l.length+3):checkN ⟨(N:Int),(S:Int),(D:Int),upL (moreL N S D x l) k x⟩=0 :=
 check_upto ⟨by simp only;omega,by simp only;omega,by simp only;omega,by simp only;omega,by simp only;omega,by simp only;omega,by simp only;omega,by simp only [upL_len,moreL_len];omega⟩ fun a ha=>by
  have hf:=more_fine hN0 hN hS0 hS hD0 hD hx0 hx FI
  rcases List.mem_or_eq_of_mem_set ha with ha | rfl
  ·obtain ⟨h1,h2,h3,h4⟩:=hf a ha
   exact ⟨h1,h2,h3,by omega⟩
  ·obtain ⟨h1,h2,h3,h4⟩:=hf _ (at_mem (j:=k) (by rw [moreL_len];exact hk))
   exact ⟨h1,h2,by simp only;omega,by simp only;omega⟩
theorem more_same (ck:checkN ⟨(N:Int),(S:Int),(D:Int),l⟩=0) {v w:Int} (h:Top ⟨(N:Int),(S:Int),(D:Int),l⟩ v) (k:Top ⟨(N:Int),(S:Int),(D:Int),moreL N S D x l⟩ w):v=w :=
 top_cuts (right_of ck) (right_of (more_check hN0 hN hS0 hS hD0 hD hne hx0 hx hl FI)) rfl rfl (fun P a b=>by
  simp only [moreL,capP_append,capP_cons,capP_nil]
  rw [capT_loop,capT_src a,capT_snk b];omega) h k
theorem up_more {i:Nat} (hi:i<l.length+3) {v w:Int} (h:Top ⟨(N:Int),(S:Int),(D:Int),moreL N S D x l⟩ v) (k:Top ⟨(N:Int),(S:Int),(D:Int),upL (moreL N S D x l) i x⟩ w):v≤w∧w≤v+x :=
 top_more (right_of (more_check hN0 hN hS0 hS hD0 hD hne hx0 hx hl FI)) (right_of (up_check hN0 hN hS0 hS hD0 hD hne hx0 hx hl FI hi)) rfl rfl (fun P a b=>by
  have e:=capP_set (moreL N S D x l) i ⟨(arcAt (moreL N S D x l) i).fr,(arcAt (moreL N S D x l) i).to,(arcAt (moreL N S D x l) i).cap+x⟩ (by rw [moreL_len];exact hi) P
  have e2:=capT_cap P (arcAt (moreL N S D x l) i) (arcAt (moreL N S D x l) i).cap x
  have e3:=capT_bd P (a:=⟨(arcAt (moreL N S D x l) i).fr,(arcAt (moreL N S D x l) i).to,x⟩) (by simp only;omega)
  simp only at e3
  show capP (moreL N S D x l) P≤capP (upL (moreL N S D x l) i x) P∧capP (upL (moreL N S D x l) i x) P≤capP (moreL N S D x l) P+x
  unfold upL
  rw [e,← e2]
  generalize arcAt (moreL N S D x l) i=b at *
  obtain ⟨b1,b2,b3⟩:=b
  simp only at e3 ⊢
  omega) h k
end
end Ne
end Go.Proofs.YtmikbkggjlbbnaaGreat
namespace Go.Proofs.YtmikbkggjlbbnaaGreat
open Go.ChangeShapes Go.WideShapes Go.ChangeAt Go.RowKit
open Lib (hid)
set_option linter.unusedVariables false
set_option linter.unusedSimpArgs false
namespace Ne
theorem own_ne_box {w:World} {B b:Nat} {v u:Value} {l:List Arc} {n s t:Int} (h:OwnA w B v l) (hb:NetBox w b n s t u):v.ownBlock≠some b:=by
 obtain ⟨_,h2⟩:=h
 rcases h2 with ⟨hv,_⟩ | ⟨g,cap,cur,hv,_,hh,_⟩
 ·rw [hv];simp [Value.ownBlock]
 ·rw [hv]
  intro e
  simp [Value.ownBlock] at e
  subst e
  unfold NetBox at hb
  rw [hh] at hb
  simp at hb
def ArcBox (w:World) (b:Nat) (a:Arc):Prop:=w.heap[b]? = some (.cells #[.int .i64 a.fr,.int .i64 a.to,.int .i64 a.cap] 50 (0,0))
theorem arcBox_cells {w:World} {b:Nat} {a:Arc} (h:ArcBox w b a):w.cell? ⟨b,0,none⟩=some (.int .i64 a.fr)∧w.cell? ⟨b,1,none⟩=some (.int .i64 a.to)∧w.cell? ⟨b,2,none⟩=some (.int .i64 a.cap):=by
 unfold ArcBox at h;refine ⟨?_,?_,?_⟩ <;> simp [World.cell?,h]
theorem arcBox_lt {w:World} {b:Nat} {a:Arc} (h:ArcBox w b a):b<w.heap.size:=Rw.lt_of_heap h
theorem arcBox_below {w w2:World} {b B:Nat} {a:Arc} (h:ArcBox w b a) (hb:Below B w w2) (hB:b<B):ArcBox w2 b a:=by
 unfold ArcBox at *;rw [hb.block b hB];exact h
theorem arcBox_at (w:World) {b:Nat} (hb:b=w.heap.size) (a:Arc):ArcBox (w.alloc (.cells #[.int .i64 a.fr,.int .i64 a.to,.int .i64 a.cap] 50)) b a:=by
 subst hb;unfold ArcBox;show (w.heap.push _)[w.heap.size]? = _;simp
theorem arcBox_grown {w w2:World} {b:Nat} {a:Arc} {row:Option Nat} (h:ArcBox w b a) (hg:w.grownBy w2 row) (hne:some b≠row):ArcBox w2 b a:=by
 unfold ArcBox at *;rw [hg.block b (Rw.lt_of_heap h) hne];exact h
theorem arcBox_other {w:World} {b b2:Nat} {a:Arc} {v2:Value} {o:Nat} (h:ArcBox w b a) (hne:b≠b2):ArcBox (w.setCell ⟨b2,o,none⟩ v2) b a:=by
 unfold ArcBox at *
 rw [Below.heap_setCell _ _ _ _ hne];exact h
end Ne
namespace Ne
theorem arow_take {w:World} {o:Option Addr} {l:List Arc} (h:ARow w o l) (k:Nat):ARow w o (l.take k):=by
 rcases h with h | ⟨b,off,rfl,hb,hc⟩
 ·subst h;left;simp
 ·refine .inr ⟨b,off,rfl,hb,fun i x hi=>hc i x ?_⟩
  rw [List.getElem?_take] at hi
  split at hi
  ·exact hi
  ·cases hi
theorem arow_drop {w:World} {b off:Nat} {l:List Arc} (h:ARow w (some ⟨b,off,none⟩) l) (k:Nat):ARow w (some ⟨b,off+k*3,none⟩) (l.drop k):=by
 rcases h with h | ⟨b',off',e,hb,hc⟩
 ·subst h;left;simp
 ·cases e
  refine .inr ⟨b,off+k*3,rfl,hb,fun i x hi j v hv=>?_⟩
  rw [List.getElem?_drop] at hi
  have:=hc (k+i) x hi j v hv
  rw [← this];congr 2;omega
theorem below_from {w w2:World} (h:Below w.drew.heap.size w.drew w2):Below w.heap.size w w2:=(below_drew (Below.refl w.heap.size w)).trans h
theorem own_drew {w:World} {B:Nat} {v:Value} {l:List Arc} (h:OwnA w B v l):OwnA w.drew B v l:=Rw.own_below h (below_drew (Below.refl _ _))
def rotL (l:List Arc) (k:Nat):List Arc:=l.drop k ++ l.take k
def halfA (a:Arc):Arc:=⟨a.fr,a.to,a.cap.tdiv 2⟩
def restA (a:Arc):Arc:=⟨a.fr,a.to,a.cap-a.cap.tdiv 2⟩
def partL (l:List Arc) (i:Nat):List Arc:=l.set i (restA (arcAt l i)) ++ [halfA (arcAt l i)]
theorem rotL_len {l:List Arc} {k:Nat} (h:k≤l.length):(rotL l k).length=l.length:=by unfold rotL;rw [List.length_append,List.length_drop,List.length_take];omega
theorem partL_len (l:List Arc) (i:Nat):(partL l i).length=l.length+1:=by unfold partL;simp
theorem rotL_mem {l:List Arc} {k:Nat} {a:Arc} (h:a∈rotL l k):a∈l:=by
 rcases List.mem_append.1 h with h | h
 ·exact List.mem_of_mem_drop h
 ·exact List.mem_of_mem_take h
theorem half_bd {c:Int} (h:0≤c):0≤c.tdiv 2∧c.tdiv 2≤c:=by
 rw [Int.tdiv_eq_ediv_of_nonneg h];omega
section
variable {N S D:Nat} {l:List Arc} (hN0:2≤N) (hN:N≤9) (hS0:1≤S) (hS:S≤N) (hD0:1≤D) (hD:D≤N) (hne:S≠D) (hl:l.length≤24) (FI:∀ a∈l,fineA (N:Int) a) {k i:Nat} (hk:k≤l.length) (hi:i<l.length)
include FI hk hi in
theorem part_fine:∀ a∈partL (rotL l k) i,fineA (N:Int) a:=fun a ha=>by
 have hr:∀ a∈rotL l k,fineA (N:Int) a:=fun a ha=>FI a (rotL_mem ha)
 have hat:=hr _ (at_mem (l:=rotL l k) (j:=i) (by rw [rotL_len hk];exact hi))
 obtain ⟨h1,h2,h3,h4⟩:=hat
 have hb:=half_bd h3
 simp only [partL,List.mem_append,List.mem_singleton] at ha
 rcases ha with ha | rfl
 ·rcases List.mem_or_eq_of_mem_set ha with ha | rfl
  ·exact hr a ha
  ·exact ⟨h1,h2,by show 0≤_-_;omega,by show _-_≤_;omega⟩
 ·exact ⟨h1,h2,hb.1,by show Int.tdiv _ 2≤_;omega⟩
include hN0 hN hS0 hS hD0 hD hne hl FI hk hi
theorem part_check:checkN ⟨(N:Int),(S:Int),(D:Int),partL (rotL l k) i⟩=0 :=
 checkN_fine ⟨by simp only;omega,by simp only;omega,by simp only;omega,by simp only;omega,by simp only;omega,by simp only;omega,by simp only;omega,by simp only [partL_len,rotL_len hk];omega⟩ (part_fine FI hk hi)
theorem part_same (ck:checkN ⟨(N:Int),(S:Int),(D:Int),l⟩=0) {v w:Int} (h:Top ⟨(N:Int),(S:Int),(D:Int),l⟩ v) (q:Top ⟨(N:Int),(S:Int),(D:Int),partL (rotL l k) i⟩ w):v=w :=
 top_cuts (right_of ck) (right_of (part_check hN0 hN hS0 hS hD0 hD hne hl FI hk hi)) rfl rfl (fun P a b=>by
  have hi2:i<(rotL l k).length:=by rw [rotL_len hk];exact hi
  have e0:=capP_rot l k P
  show capP (partL (rotL l k) i) P=capP l P
  rw [← e0]
  show capP (partL (rotL l k) i) P=capP (rotL l k) P
  unfold partL
  rw [capP_append,capP_cons,capP_nil,capP_set _ _ _ hi2]
  have e2:=capT_cap P (arcAt (rotL l k) i) ((arcAt (rotL l k) i).cap-(arcAt (rotL l k) i).cap.tdiv 2) ((arcAt (rotL l k) i).cap.tdiv 2)
  generalize arcAt (rotL l k) i=b at *
  obtain ⟨b1,b2,b3⟩:=b
  simp only [restA,halfA] at e2 ⊢
  rw [show b3-b3.tdiv 2+b3.tdiv 2=b3 by omega] at e2
  omega) h q
end
end Ne
namespace Ne
set_option maxHeartbeats 1000000 in
theorem cloneV (l:List Arc) (ao:Option Addr) (cap:Nat) (w:World) (hn:ao=none→cap=0) (hr:ARow w ao l) (hl:l.length≤1000000) :
  Calls Tryz.prog 36 #[.slice ao l.length cap] w fun e w'=>∃ x,e=.returned x∧OwnA w' w.heap.size x l∧Below w.heap.size w w':=by
 have q:∀ (w:World) (a:Option Addr) (n c n' c':Nat),(binOp .eql 22 (.slice a n c) (.slice none n' c')).run Tryz.prog w=.ok (.bool a.isNone) w:=fun w a n c n' c'=>Lib.run_eql_slice_nil w _ _ a n c n' c' Tryz.underlying22
 rcases ao with _ | ad
 ·obtain rfl:=hn rfl
  have hl0:l=[]:=by
   rcases hr with h | ⟨b,off,h,_⟩
   ·exact h
   ·cases h
  subst hl0
  go_enter Tryz.func36,Tryz.ntmps36
  go_wp2
  go_ret
  exact ⟨_,rfl,Rw.own_nil _ _,Below.refl _ _⟩
 ·have HR:=hid (hr.kept ((Below.refl _ _).alloc (Nat.le_refl _) (.cells #[] 50)))
  have HL:=hid (show ([]:List Arc).length+l.length≤1099511627776 by simp;omega)
  clear hr hn hl
  go_enter Tryz.func36,Tryz.ntmps36
  go_wp2_with (at_builtin;refine Rw.app elemA encA_len encA_one rfl (.tmp 5) (.tmp 6) rfl w.heap.size _ ([]:List Arc) rfl (own_empty w _ (Nat.le_refl _)) (some ad) cap l rfl ?hnn HR.out HL.out ?hB ?_;(case hnn=>(intro h;cases h));(case hB=>(simp));intro v2 w2 hown2 hgr2;have HO2:=hid hown2;have HB2:=hid (((Below.refl w.heap.size w).alloc (Nat.le_refl _) (.cells #[] 50)).grown hgr2 (by simp) (Rw.own_block (own_empty (α:=Arc) (k:=3) (enc:=encA) (e:=50) w w.heap.size (Nat.le_refl _))));clear hown2 hgr2)
  go_ret
  exact ⟨_,rfl,by have h:=HO2.out;rw [List.nil_append] at h;exact h,HB2.out⟩

theorem clone_any (l:List Arc) (ao:Option Addr) (cap:Nat) (w:World) (hn:ao=none→cap=0) (hr:ARow w ao l) (hl:l.length≤1000000) :
  Calls Tryz.prog 36 #[.slice ao l.length cap] w fun e w'=>∃ ao' cap',e=.returned (.slice ao' l.length cap')∧OwnA w' w.heap.size (.slice ao' l.length cap') l∧Below w.heap.size w w':=by
 refine (cloneV l ao cap w hn hr hl).mono ?_
 rintro e w' ⟨x,rfl,ho,hb⟩
 obtain ⟨ao2,cap2,hx,_⟩:=Rw.own_row encA_len ho
 subst hx
 exact ⟨ao2,cap2,rfl,ho,hb⟩

set_option maxHeartbeats 2000000 in
theorem copy_any (n:Net) (ao:Option Addr) (cap:Nat) (w:World) (hn:ao=none→cap=0) (hr:ARow w ao n.l) (hl:n.l.length≤1000000) :
  Calls Tryz.prog 23 #[encN n ao cap] w fun e w'=>∃ ao' cap',e=.returned (encN n ao' cap')∧OwnA w' w.heap.size (.slice ao' n.l.length cap') n.l∧Below w.heap.size w w':=by
 obtain ⟨nn,ns,nt,l⟩:=n
 simp only at hr hl ⊢
 have HB:=hid (((Below.refl w.heap.size w).alloc (by simp) (.cells #[.int .i64 nn,.int .i64 ns,.int .i64 nt,.slice ao l.length cap] 24)).alloc (by simp) (.cells #[.int .i64 0,.int .i64 0,.int .i64 0,.slice none 0 0] 24))
 have HC:=hid (clone_any l ao cap _ hn (hr.kept HB.out) hl)
 have HX:=hid (netBox_alloc (netBox_new w nn ns nt (.slice ao l.length cap)) (.cells #[.int .i64 0,.int .i64 0,.int .i64 0,.slice none 0 0] 24))
 have HY:=hid (netBox_at (w.alloc (.cells #[.int .i64 nn,.int .i64 ns,.int .i64 nt,.slice ao l.length cap] 24)) (b:=w.heap.size+1) (by simp) 0 0 0 (.slice none 0 0))
 clear hr hn
 go_enter Tryz.func23,Tryz.ntmps23
 go_wp2_with fail
 refine HC.out.mono ?_
 rintro e w1 ⟨a2,k2,rfl,ho,hb⟩
 have X1:=netBox_below HX.out hb (by simp;omega)
 have Y1:=netBox_below HY.out hb (by simp)
 have HB1:=hid (HB.out.trans (hb.mono (by simp;omega)))
 have HO:=hid (Rw.own_base ho (B':=w.heap.size+2) (by simp))
 have hvb:=Rw.own_block HO.out
 obtain ⟨n0,n1,n2,n3⟩:=netBox_cells X1
 have nf:=netBox_frozen X1 3
 obtain ⟨r0,r1,r2,r3⟩:=netBox_cells Y1
 have f0:=netBox_frozen Y1 0
 have f1:=netBox_frozen Y1 1
 have f2:=netBox_frozen Y1 2
 have f3:=netBox_frozen Y1 3
 have HO2:=hid (Rw.own_set (Rw.own_set (Rw.own_set (Rw.own_set (Rw.own_set HO.out (p:=⟨w.heap.size,3,none⟩) (fun h=>by have h2:=hvb _ h;simp only at h2;omega) (.slice a2 l.length k2))
  (p:=⟨w.heap.size+1,0,none⟩) (fun h=>by have h2:=hvb _ h;simp only at h2;omega) (.int .i64 nn)) (p:=⟨w.heap.size+1,1,none⟩) (fun h=>by have h2:=hvb _ h;simp only at h2;omega) (.int .i64 ns)) (p:=⟨w.heap.size+1,2,none⟩) (fun h=>by have h2:=hvb _ h;simp only at h2;omega) (.int .i64 nt)) (p:=⟨w.heap.size+1,3,none⟩) (fun h=>by have h2:=hvb _ h;simp only at h2;omega) (.slice a2 l.length k2))
 have HW:=hid (netBox_all (n2:=nn) (s2:=ns) (t2:=nt) (v2:=.slice a2 l.length k2) (netBox_other Y1 (b2:=w.heap.size) (o:=3) (v2:=.slice a2 l.length k2) (by omega)))
 have HB2:=hid (((((HB1.out.setCell (p:=⟨w.heap.size,3,none⟩) (by simp) (.slice a2 l.length k2)).setCell (p:=⟨w.heap.size+1,0,none⟩) (by simp) (.int .i64 nn)).setCell (p:=⟨w.heap.size+1,1,none⟩) (by simp) (.int .i64 ns)).setCell (p:=⟨w.heap.size+1,2,none⟩) (by simp) (.int .i64 nt)).setCell (p:=⟨w.heap.size+1,3,none⟩) (by simp) (.slice a2 l.length k2))
 clear X1 Y1 ho hb hvb
 go_wp2
 refine bodyPost_ret_by (results_cell_row rfl _ _ (w.heap.size+1) 24 _ (0,0) _ rfl HW.out Tryz.underlying24 rfl (by kernel_rfl)) rfl ?_
 exact ⟨a2,k2,rfl,Rw.own_base HO2.out (by omega),HB2.out⟩
end Ne
namespace Ne
theorem turned_step {l:List Arc} {k:Nat} {a:Arc} (h:l[k]? = some a):(((l.take k).map turnA ++ l.drop k).set k ⟨a.to,a.to,a.cap⟩).set k (turnA a)=(l.take (k+1)).map turnA ++ l.drop (k+1):=by
 obtain ⟨hk,he⟩:=List.getElem?_eq_some_iff.1 h
 have hlen:((l.take k).map turnA).length=k:=by simp;omega
 rw [List.set_set,List.set_append,if_neg (by omega),hlen,Nat.sub_self,List.drop_eq_getElem_cons hk,List.set_cons_zero,List.take_succ_eq_append_getElem hk,List.map_append,he]
 simp
theorem turned_at {l:List Arc} {k:Nat} {a:Arc} (h:l[k]? = some a):((l.take k).map turnA ++ l.drop k)[k]? = some a:=by
 obtain ⟨hk,he⟩:=List.getElem?_eq_some_iff.1 h
 rw [List.getElem?_append_right (by simp;omega)]
 simp [Nat.min_eq_left (Nat.le_of_lt hk),h]
set_option maxRecDepth 100000 in
set_option maxHeartbeats 4000000 in
theorem turn_any (n:Net) (ao:Option Addr) (cap:Nat) (w:World) (hn:ao=none→cap=0) (hr:ARow w ao n.l) (hl:n.l.length≤1000000) :
  Calls Tryz.prog 21 #[encN n ao cap] w fun e w'=>∃ ao' cap',e=.returned (encN (turnN n) ao' cap')∧OwnA w' w.heap.size (.slice ao' (turnN n).l.length cap') (turnN n).l∧Below w.heap.size w w':=by
 have HC:=hid (fun w' h=>copy_any n ao cap w' hn h hl)
 obtain ⟨nn,ns,nt,l⟩:=n
 simp only at hr hl HC ⊢
 have HB:=hid (((Below.refl w.heap.size w).alloc (by simp) (.cells #[.int .i64 nn,.int .i64 ns,.int .i64 nt,.slice ao l.length cap] 24)).alloc (by simp) (.cells #[.int .i64 0,.int .i64 0,.int .i64 0,.slice none 0 0] 24))
 have HX:=hid (netBox_alloc (netBox_new w nn ns nt (.slice ao l.length cap)) (.cells #[.int .i64 0,.int .i64 0,.int .i64 0,.slice none 0 0] 24))
 have HY:=hid (netBox_at (w.alloc (.cells #[.int .i64 nn,.int .i64 ns,.int .i64 nt,.slice ao l.length cap] 24)) (b:=w.heap.size+1) (by simp) 0 0 0 (.slice none 0 0))
 have HR:=hid (hr.kept HB.out)
 clear hr hn
 go_enter Tryz.func21,Tryz.ntmps21
 go_wp2_with fail
 refine (HC.out _ HR.out).mono ?_
 rintro e w1 ⟨a2,k2,rfl,ho,hb⟩
 have X1:=netBox_below HX.out hb (by simp;omega)
 have Y1:=netBox_below HY.out hb (by simp)
 have HB1:=hid (HB.out.trans (hb.mono (by simp;omega)))
 have hz1:w.heap.size+2≤w1.heap.size:=by have:=hb.size;simpa using this
 have HO:=hid (Rw.own_base ho (B':=w.heap.size+2) (by simp))
 have X2:=netBox_alloc X1 (.cells #[.int .i64 nn,.int .i64 ns,.int .i64 nt,.slice a2 l.length k2] 24)
 have Y2:=netBox_alloc Y1 (.cells #[.int .i64 nn,.int .i64 ns,.int .i64 nt,.slice a2 l.length k2] 24)
 have T2:=netBox_new w1 nn ns nt (.slice a2 l.length k2)
 have O2:=Rw.own_alloc HO.out (.cells #[.int .i64 nn,.int .i64 ns,.int .i64 nt,.slice a2 l.length k2] 24)
 have B2:=HB1.out.alloc (by omega) (.cells #[.int .i64 nn,.int .i64 ns,.int .i64 nt,.slice a2 l.length k2] 24)
 have Z2:(w1.alloc (.cells #[.int .i64 nn,.int .i64 ns,.int .i64 nt,.slice a2 l.length k2] 24)).heap.size=w1.heap.size+1:=by simp
 have hg1:∀ g,(Value.slice a2 l.length k2).ownBlock=some g→g<w1.heap.size:=by
  intro g hg
  obtain ⟨ao',cap',hv,_,_,_,_,hb2,ha2⟩:=Rw.own_row encA_len ho
  simp only [Value.slice.injEq] at hv
  obtain ⟨rfl,_,rfl⟩:=hv
  rcases a2 with _ | a
  ·simp [Value.ownBlock] at hg
  ·obtain ⟨b,rfl⟩:=ha2 _ rfl
   simp [Value.ownBlock] at hg
   have:=(hb2 b 0 rfl).2
   omega
 clear ho hb X1 Y1
 go_wp2
 generalize (w1.alloc (.cells #[.int .i64 nn,.int .i64 ns,.int .i64 nt,.slice a2 l.length k2] 24))=W2 at *
 obtain ⟨x0,x1,x2,x3⟩:=netBox_cells X2
 have tf1:=netBox_frozen T2 1
 have tf2:=netBox_frozen T2 2
 have htb:w1.heap.size≠w.heap.size:=by omega
 obtain ⟨t0,t1,t2,t3⟩:=netBox_cells T2
 go_region
 have T3:=netBox_set2' (t2:=ns) (netBox_set1 (s2:=nt) T2)
 have Y3:=netBox_other (netBox_other Y2 (b2:=w1.heap.size) (o:=1) (v2:=.int .i64 nt) (by omega)) (b2:=w1.heap.size) (o:=2) (v2:=.int .i64 ns) (by omega)
 have O3:=Rw.own_set (Rw.own_set O2 (p:=⟨w1.heap.size,1,none⟩) (fun h=>by have:=hg1 _ h;simp only at this;omega) (.int .i64 nt)) (p:=⟨w1.heap.size,2,none⟩) (fun h=>by have:=hg1 _ h;simp only at this;omega) (.int .i64 ns)
 have B3:=(B2.setCell (p:=⟨w1.heap.size,1,none⟩) (by simp;omega) (.int .i64 nt)).setCell (p:=⟨w1.heap.size,2,none⟩) (by simp;omega) (.int .i64 ns)
 have Z3:((W2.setCell ⟨w1.heap.size,1,none⟩ (.int .i64 nt)).setCell ⟨w1.heap.size,2,none⟩ (.int .i64 ns)).heap.size=w1.heap.size+1:=by simp [World.setCell];omega
 clear T2 Y2 O2 B2 Z2 X2 x0 x1 x2 x3 tf1 tf2 t0 t1 t2 t3
 generalize ((W2.setCell ⟨w1.heap.size,1,none⟩ (.int .i64 nt)).setCell ⟨w1.heap.size,2,none⟩ (.int .i64 ns))=W3 at *
 obtain ⟨t0,t1,t2,t3⟩:=netBox_cells T3
 have HG:=hid hg1
 clear hg1 HX HY HR HC HB HO HB1
 go_wp2
 clear t0 t1 t2 t3
 go_loopw [17] (fun i wr=>∃ k:Nat,i=.int .i64 k∧k≤l.length∧NetBox wr w1.heap.size nn nt ns (.slice a2 l.length k2)∧NetBox wr (w.heap.size+1) 0 0 0 (.slice none 0 0)∧OwnA wr (w.heap.size+2) (.slice a2 l.length k2) ((l.take k).map turnA ++ l.drop k)∧Below w.heap.size w wr) (fun i _=>l.length-(intOf i).toNat)
 case atStart=>exact ⟨0,rfl,Nat.zero_le _,T3,Y3,O3,below_drew B3⟩
 case round =>
  obtain ⟨k,rfl,hk,hbx,hres,hown,hbel⟩:=hrel
  obtain ⟨t0,t1,t2,t3⟩:=netBox_cells hbx
  by_cases hlt:k<l.length
  ·obtain ⟨a,ha⟩:∃ a,l[k]? = some a:=⟨_,List.getElem?_eq_getElem hlt⟩
   obtain ⟨g,rfl,hgB,hgs,hcell,hfz⟩:=own_cells encA_len hown (turned_at ha)
   have c0:=hcell 0 _ rfl
   have c1:=hcell 1 _ rfl
   rw [Nat.add_zero] at c0
   have z0:=hfz (k*3)
   have z1:=hfz (k*3+1)
   have hgt:g≠w1.heap.size:=by have:=HG.out g rfl;omega
   have HO2:=hid (own_put encA_len (own_put encA_len hown (turned_at ha) (y:=⟨a.to,a.to,a.cap⟩) (j:=0) (by omega) (u:=.int .i64 a.to) rfl) (i:=k) (x:=⟨a.to,a.to,a.cap⟩) (y:=turnA a) (by rw [List.getElem?_set_self (by simp;omega)]) (j:=1) (by omega) (u:=.int .i64 a.fr) rfl)
   rw [turned_step ha,Nat.add_zero] at HO2
   have HX2:=hid (netBox_other (netBox_other hbx (b2:=g) (o:=k*3) (v2:=.int .i64 a.to) (by omega)) (b2:=g) (o:=k*3+1) (v2:=.int .i64 a.fr) (by omega))
   have HR2:=hid (netBox_other (netBox_other hres (b2:=g) (o:=k*3) (v2:=.int .i64 a.to) (by omega)) (b2:=g) (o:=k*3+1) (v2:=.int .i64 a.fr) (by omega))
   have HB2:=hid ((hbel.setCell (p:=⟨g,k*3,none⟩) (by simp;omega) (.int .i64 a.to)).setCell (p:=⟨g,k*3+1,none⟩) (by simp;omega) (.int .i64 a.fr))
   clear hown hbx hres hbel hcell hfz ha
   clear T3 Y3 O3 B3
   go_wp2
   go_region
   go_wp2
   go_roundw
   case rel=>exact ⟨k+1,by go_num,by omega,HX2.out,HR2.out,HO2.out,below_drew HB2.out⟩
   case measure=>simp [intOf];omega
  ·have ek:k=l.length:=by omega
   subst ek
   rw [List.take_length,List.drop_length,List.append_nil] at hown
   have hvb:=Rw.own_block hown
   obtain ⟨r0,r1,r2,r3⟩:=netBox_cells hres
   have f0:=netBox_frozen hres 0
   have f1:=netBox_frozen hres 1
   have f2:=netBox_frozen hres 2
   have f3:=netBox_frozen hres 3
   have HO2:=hid (Rw.own_set (Rw.own_set (Rw.own_set (Rw.own_set hown
    (p:=⟨w.heap.size+1,0,none⟩) (fun h=>by have h2:=hvb _ h;simp only at h2;omega) (.int .i64 nn)) (p:=⟨w.heap.size+1,1,none⟩) (fun h=>by have h2:=hvb _ h;simp only at h2;omega) (.int .i64 nt)) (p:=⟨w.heap.size+1,2,none⟩) (fun h=>by have h2:=hvb _ h;simp only at h2;omega) (.int .i64 ns)) (p:=⟨w.heap.size+1,3,none⟩) (fun h=>by have h2:=hvb _ h;simp only at h2;omega) (.slice a2 l.length k2))
   have HW:=hid (netBox_all (n2:=nn) (s2:=nt) (t2:=ns) (v2:=.slice a2 l.length k2) hres)
   have HB2:=hid ((((hbel.setCell (p:=⟨w.heap.size+1,0,none⟩) (by simp) (.int .i64 nn)).setCell (p:=⟨w.heap.size+1,1,none⟩) (by simp) (.int .i64 nt)).setCell (p:=⟨w.heap.size+1,2,none⟩) (by simp) (.int .i64 ns)).setCell (p:=⟨w.heap.size+1,3,none⟩) (by simp) (.slice a2 l.length k2))
   clear hown hbx hres hbel hvb T3 Y3 O3 B3
   go_wp2
   refine bodyPost_ret_by (results_cell_row rfl _ _ (w.heap.size+1) 24 _ (0,0) _ rfl HW.out Tryz.underlying24 rfl (by kernel_rfl)) rfl ?_
   exact ⟨a2,k2,by simp [encN,turnN],by have h:=Rw.own_base HO2.out (B':=w.heap.size) (by omega);simpa [turnN] using h,HB2.out⟩
end Ne
end Go.Proofs.YtmikbkggjlbbnaaGreat
