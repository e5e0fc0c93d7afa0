/-
  Dpt
-/
import Derived.Test.YtmikbkggjlbbnaaGreatBg45
namespace Go.Proofs.YtmikbkggjlbbnaaGreat
open Go.ChangeShapes Go.WideShapes Go.ChangeAt Go.RowKit
open Lib (hid)
set_option linter.unusedVariables false
set_option linter.unusedSimpArgs false
namespace Rw
section
variable {α:Type} {e t:TypeId} {k bytes:Nat} {z:Value} {enc:α→List Value}
theorem stepAny (E:Elem e t k bytes z) (hk:∀ x:α,(enc x).length=k) (h1:∀ x,∀ u∈enc x,u.oneCell' = true)
  {ops:Array Oper} {o:Oper} {a:Act} {K:Act→World→Prop} {Q:Exit→Act→World→Prop} {E':Prop} {w:World} (hgd:o.guard=none) (s x:Operand)
  (ho:o.op=.call { callee:=.builtin .append,args:=#[s,x],argTypes:=#[t,t] })
  (B:Nat) (v:Value) (xs:List α) (hs:a.eval s=v) (hown:Own e k enc w B v xs)
  (ao:Option Addr) (cap:Nat) (ys:List α) (n:Nat) (hn:n=ys.length) (hx:a.eval x=.slice ao n cap) (hnone:ao=none→cap=0) (hr:Row k enc w ao ys)
  (h63:xs.length+ys.length≤1099511627776) (hB:B≤w.heap.size)
  (h:∀ v' w',Own e k enc w' B v' (xs ++ ys)→w.grownBy w' v.ownBlock→K (a.put o.dst v') w') :
  if Region.wanted o (yielded ops a.tmps)=true then Oper.wp Tryz.prog o a w K Q else E':=by
 rcases ao with _ | ad
 ·have hy:ys=[]:=by
   rcases hr with h | ⟨b,off,h,_⟩
   ·exact h
   ·cases h
  subst hy
  subst hn
  rw [hnone rfl] at hx
  have hw:Region.wanted o (yielded ops a.tmps)=true:=by simp [Region.wanted,hgd]
  rw [if_pos hw]
  obtain ⟨i0,hi,hz0,hz1,hz2⟩:=info_parts E.info
  have hrun:=run_append_owned_none (P:=Tryz.prog) (w:=w) B t o.type e i0 k E.und hi v xs.length _ hown
  have hx':a.eval x=.slice none 0 0:=hx
  unfold Oper.wp execOp
  simp only [ho,resolve,invoke,builtin,Sem.run_bind,Sem.run_pure,Result.andThen_ok,List.map_toArray,List.map_cons,List.map_nil,hs,hx',hrun]
  refine h v w ?_ ⟨rfl,rfl,rfl,Nat.le_refl _,fun _ _ _=>rfl⟩
  rw [List.append_nil];exact hown
 ·exact stepAt E hk h1 hgd s x ho B v xs hs hown ad cap ys n hn hx hr h63 hB fun v' w' g1 g2 _=>h v' w' g1 g2
end
end Rw
namespace Ne
set_option maxRecDepth 100000 in
set_option maxHeartbeats 1000000 in
theorem moved_any (n m:Net) (ao bo:Option Addr) (ac bc:Nat) (v:Int) (w:World) (hw:IntKind.i64.wrap (n.n+v)=n.n+v):Calls Tryz.prog 24 #[encN n ao ac,encN m bo bc,.int .i64 v] w fun e w'=>e=.returned (.int .i64 (movedN n m v))∧Below w.heap.size w w':=by
 have HB:=hid (((Below.refl w.heap.size w).alloc (Nat.le_refl _) (.cells #[.int .i64 n.n,.int .i64 n.s,.int .i64 n.t,.slice ao n.l.length ac] 24)).alloc (by simp) (.cells #[.int .i64 m.n,.int .i64 m.s,.int .i64 m.t,.slice bo m.l.length bc] 24))
 obtain ⟨n0,n1,n2,n3⟩:=netBox_cells (netBox_alloc (netBox_new w n.n n.s n.t (.slice ao n.l.length ac)) (.cells #[.int .i64 m.n,.int .i64 m.s,.int .i64 m.t,.slice bo m.l.length bc] 24))
 obtain ⟨m0,m1,m2,m3⟩:=netBox_cells (netBox_at (w.alloc (.cells #[.int .i64 n.n,.int .i64 n.s,.int .i64 n.t,.slice ao n.l.length ac] 24)) (b:=w.heap.size+1) (by simp) m.n m.s m.t (.slice bo m.l.length bc))
 by_cases h1:v=m.s
 ·have h1':(v == m.s)=true:=by simpa using h1
  have HV:=hid (show movedN n m v=n.s by unfold movedN;rw [if_pos h1])
  generalize movedN n m v=r at *
  clear h1
  go_enter Tryz.func24,Tryz.ntmps24
  go_wp2
  go_ret
  exact ⟨by rw [HV.out];rfl,HB.out⟩
 ·have h1':(v == m.s)=false:=by simpa using h1
  by_cases h2:v=m.t
  ·have h2':(v == m.t)=true:=by simpa using h2
   have HV:=hid (show movedN n m v=n.t by unfold movedN;rw [if_neg h1,if_pos h2])
   generalize movedN n m v=r at *
   clear h1 h2
   go_enter Tryz.func24,Tryz.ntmps24
   go_wp2
   go_ret
   exact ⟨by rw [HV.out];rfl,HB.out⟩
  ·have h2':(v == m.t)=false:=by simpa using h2
   have HV:=hid (show movedN n m v=n.n+v by unfold movedN;rw [if_neg h1,if_neg h2])
   generalize movedN n m v=r at *
   clear h1 h2
   go_enter Tryz.func24,Tryz.ntmps24
   go_wp2
   go_ret
   exact ⟨by rw [HV.out];rfl,HB.out⟩
def movedA (n m:Net) (a:Arc):Arc:=⟨movedN n m a.fr,movedN n m a.to,a.cap⟩
def bothL (n m:Net) (j:Nat):List Arc:=n.l ++ (m.l.take j).map (movedA n m)
theorem bothL_len (n m:Net) {j:Nat} (h:j≤m.l.length):(bothL n m j).length=n.l.length+j:=by unfold bothL;rw [List.length_append,List.length_map,List.length_take];omega
theorem bothL_zero (n m:Net):bothL n m 0=n.l:=by unfold bothL;simp
theorem bothL_next (n m:Net) {j:Nat} (h:j<m.l.length):bothL n m (j+1)=bothL n m j ++ [movedA n m (arcAt m.l j)]:=by
 unfold bothL
 have:arcAt m.l j=m.l[j]:=by simp [arcAt,List.getElem?_eq_getElem h]
 rw [List.take_add_one,List.getElem?_eq_getElem h,this,List.map_append,← List.append_assoc]
 rfl
theorem bothL_all (n m:Net):bothN n m=⟨n.n+m.n,n.s,n.t,bothL n m m.l.length⟩:=by unfold bothL bothN movedA;rw [List.take_length]
section
variable {n m:Net} (hn:fineH n) (hm:fineH m) (hN:n.n≤9) (hM:m.n≤9) (ln:n.l.length≤24) (lm:m.l.length≤24) (F:∀ a∈n.l,fineA n.n a) (G:∀ a∈m.l,fineA m.n a)
include hn hm in
theorem moved_bd {v:Int} (h0:1≤v) (h1:v≤m.n):1≤movedN n m v∧movedN n m v≤n.n+m.n:=by
 obtain ⟨a1,a2,a3,a4,a5,a6,a7,a8⟩:=hn
 obtain ⟨b1,b2,b3,b4,b5,b6,b7,b8⟩:=hm
 unfold movedN
 split
 ·omega
 ·split <;> omega
include hn hm hN hM ln lm F G
theorem both_check:checkN (bothN n m)=0:=by
 have hbd:=fun v h0 h1=>moved_bd hn hm (v:=v) h0 h1
 obtain ⟨a1,a2,a3,a4,a5,a6,a7,a8⟩:=hn
 obtain ⟨b1,b2,b3,b4,b5,b6,b7,b8⟩:=hm
 refine checkN_fine ⟨by show 2≤n.n+m.n;omega,by show n.n+m.n≤500;omega,a3,by show n.s≤n.n+m.n;omega,a5,by show n.t≤n.n+m.n;omega,a7,by show (n.l ++ _).length≤1000;rw [List.length_append,List.length_map];omega⟩ fun a ha=>?_
 have ha':a∈n.l ++ m.l.map fun a=>⟨movedN n m a.fr,movedN n m a.to,a.cap⟩:=ha
 show fineA (n.n+m.n) a
 rcases List.mem_append.1 ha' with h | h
 ·obtain ⟨g1,g2,g3,g4⟩:=F a h
  rw [isNode_at] at g1 g2
  exact ⟨(isNode_at _ _).2 (by omega),(isNode_at _ _).2 (by omega),g3,g4⟩
 ·obtain ⟨b,hb,rfl⟩:=List.mem_map.1 h
  obtain ⟨g1,g2,g3,g4⟩:=G b hb
  rw [isNode_at] at g1 g2
  exact ⟨(isNode_at _ _).2 (hbd _ g1.1 g1.2),(isNode_at _ _).2 (hbd _ g2.1 g2.2),g3,g4⟩
end
theorem netBox_own {w:World} {b:Nat} {n s t:Int} {v:Value} {l:List Arc} {B:Nat} {x:Value} (h:NetBox w b n s t v) (ho:OwnA w B x l) (n2 s2 t2:Int) (v2:Value):OwnA ((((w.setCell ⟨b,0,none⟩ (.int .i64 n2)).setCell ⟨b,1,none⟩ (.int .i64 s2)).setCell ⟨b,2,none⟩ (.int .i64 t2)).setCell ⟨b,3,none⟩ v2) B x l:=by
 have hne:=own_ne_box ho h
 exact Rw.own_set (Rw.own_set (Rw.own_set (Rw.own_set ho (p:=⟨b,0,none⟩) hne (.int .i64 n2)) (p:=⟨b,1,none⟩) hne (.int .i64 s2)) (p:=⟨b,2,none⟩) hne (.int .i64 t2)) (p:=⟨b,3,none⟩) hne v2
theorem netBelow_all {w w2:World} {B b:Nat} (h:Below B w w2) (hb:B≤b) (n2 s2 t2:Int) (v2:Value):Below B w ((((w2.setCell ⟨b,0,none⟩ (.int .i64 n2)).setCell ⟨b,1,none⟩ (.int .i64 s2)).setCell ⟨b,2,none⟩ (.int .i64 t2)).setCell ⟨b,3,none⟩ v2) :=
 (((h.setCell (p:=⟨b,0,none⟩) hb (.int .i64 n2)).setCell (p:=⟨b,1,none⟩) hb (.int .i64 s2)).setCell (p:=⟨b,2,none⟩) hb (.int .i64 t2)).setCell (p:=⟨b,3,none⟩) hb v2
end Ne
end Go.Proofs.YtmikbkggjlbbnaaGreat
