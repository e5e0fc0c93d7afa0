/-
  Tst
-/
import Derived.Test.YthhlfphnokdfaaaGreatBf32
import Derived.RegionTactic
import Derived.Deep.DeepCutAuto
import Derived.BigRegion
import Derived.Deep.LoopGhost
set_option linter.unusedVariables false
set_option linter.unusedSimpArgs false
set_option maxRecDepth 100000
set_option maxHeartbeats 4000000
namespace Go.Proofs.YthhlfphnokdfaaaGreat
open Go.ChangeShapes Go.WideShapes Go.ChangeAt Go.RowKit
open Lib (hid)
namespace Ne
open Sp (Off Ext)
open Fo (Ft FoO fc)
def AmI (n:Net) (ao:Option Addr) (cap:Nat) (x:Int) (w0 w1:World) (sb lb ab pb cb p:Nat) (rv:Value) (lo hi B b1:Nat) (VA:Nat→Value) (TL:List Nat) (g:List Int) (w':World) (i c0 m H:Nat):Prop :=
 ∃ RL VS U S c f flo fhi,TsM n ao cap x w0 w1 sb lb ab pb cb p rv lo hi B b1 VA TL w' RL VS U S c f flo fhi∧Tre n TL g x U f RL S∧f.v.length=m∧c0≤c∧(∀ v,v<i→f.up v=none)∧fhi+c+4*((fc m+1)*(m-i))≤H
structure AmJ (n:Net) (ao:Option Addr) (cap:Nat) (x:Int) (w0 w1:World) (sb lb ab pb cb p:Nat) (rv:Value) (lo hi B b1:Nat) (VA:Nat→Value) (TL:List Nat) (g f0:List Int) (wA w':World) (j c0:Nat) (l4:Option Addr) (lc4:Nat):Prop where
 off:Off (fun b=>b=cb∨wA.heap.size≤b) wA w'
 row:OwnL w' wA.heap.size (.slice l4 n.l.length lc4) (setG g f0 (TL.take j))
 cnt:w'.heap[cb]? = some (.cells #[.int .i64 ((c0+j:Nat):Int)] 147 (0,0))
section
variable {n:Net} {ao:Option Addr} {cap:Nat} {x:Int} {w0 w1:World} {sb lb ab pb cb p:Nat} {rv:Value} {lo hi B b1:Nat} {VA:Nat→Value} {TL:List Nat}
variable {w w2 wA:World} {RL:List Int} {VS:Nat→Value} {U:Nat→List Nat} {S:List Bool} {c:Nat} {f f2:Ft} {flo fhi flo2 fhi2:Nat} {m H:Nat} {g f0:List Int} {L:List Int} {A:Nat→Nat} {c0 k gg:Nat}
theorem am_round (hR:Right n) (hL:Lds n.l L TL) (hF:Okf n g) {i:Nat} (him:i<m) (hmn:m=n.n.toNat+1) (hH2:H≤4611686018427387904) (h:AmI n ao cap x w0 w1 sb lb ab pb cb p rv lo hi B b1 VA TL g w i c0 m H) :
  ∃ RL VS U S c f flo fhi,TsM n ao cap x w0 w1 sb lb ab pb cb p rv lo hi B b1 VA TL w RL VS U S c f flo fhi∧c≤4611686018427387904 ∧
   ∀ w3,TsM n ao cap x w0 w1 sb lb ab pb cb p rv lo hi B b1 VA TL w3 RL VS U S (c+1) f flo fhi→Calls Tryz.prog 104 #[.pointer (some ⟨p,0,none⟩),.int .i64 (i:Int)] w3 fun e w4=>∃ z:Int,e=.returned (.int .i64 z) ∧
    ((z = -1∧AmI n ao cap x w0 w1 sb lb ab pb cb p rv lo hi B b1 VA TL g w4 (i+1) c0 m H) ∨
    (z≠-1∧(∃ RL VS U S c f flo fhi,TsM n ao cap x w0 w1 sb lb ab pb cb p rv lo hi B b1 VA TL w4 RL VS U S c f flo fhi)∧Calls Tryz.prog 105 #[.pointer (some ⟨sb,0,none⟩),.int .i64 (i:Int)] w4 fun e w5=>e=.returned (.tuple #[])∧AmI n ao cap x w0 w1 sb lb ab pb cb p rv lo hi B b1 VA TL g w5 (i+1) c0 m H)):=by
 obtain ⟨RL,VS,U,S,c,f,flo,fhi,M,T,hm,hc0,hup,hc⟩:=h
 have hcc:(fc m+1)*(m-i)=(fc m+1)*(m-(i+1))+(fc m+1):=by
  rw [show m-i=m-(i+1)+1 by omega,Nat.mul_succ]
 refine ⟨RL,VS,U,S,c,f,flo,fhi,M,by omega,fun w3 M3=>(M3.above hm _).mono ?_⟩
 rintro e w4 ⟨rfl,flo4,M4⟩
 refine ⟨_,rfl,?_⟩
 rw [Fo.aboveZ_nat (by omega)]
 cases hu:f.up i with
 | none =>
  left
  refine ⟨rfl,RL,VS,U,S,c+1,f,flo4,_,M4,T,hm,by omega,fun v hv=>?_,by omega⟩
  by_cases e:v=i
  ·rw [e];exact hu
  ·exact hup v (by omega)
 | some u =>
  right
  refine ⟨by simp only [Fo.oz];omega,⟨_,_,_,_,_,_,_,_,M4⟩,(part_any M4 T hR hL hF.wi hu hm).mono ?_⟩
  rintro e w5 ⟨rfl,f3,RL3,flo5,ho,M5,T5⟩
  refine ⟨rfl,RL3,VS,U,S,c+1,f3,flo5,_,M5,T5,by rw [ho.len];exact hm,by omega,fun v hv=>?_,by omega⟩
  rw [ho.up]
  by_cases e:v=i
  ·rw [if_pos e]
  ·rw [if_neg e];exact hup v (by omega)
theorem am_rooms (hR:Right n) (hL:Lds n.l L TL) (hmn:m=n.n.toNat+1) (h:AmI n ao cap x w0 w1 sb lb ab pb cb p rv lo hi B b1 VA TL g w m c0 m H):∃ RL VS U S c f flo fhi,TsM n ao cap x w0 w1 sb lb ab pb cb p rv lo hi B b1 VA TL w RL VS U S c f flo fhi∧c0≤c∧fhi+c≤H∧RL.length=2*n.l.length∧∀ r∈TL,amt RL r=roomN n.l g r:=by
 obtain ⟨RL,VS,U,S,c,f,flo,fhi,M,T,hm,hc0,hup,hc⟩:=h
 refine ⟨RL,VS,U,S,c,f,flo,fhi,M,hc0,by omega,T.rlen,fun r hr=>T.rl r hr (.inl (hup _ ?_))⟩
 have:=trF_bd hR (hL.lt r hr)
 omega
theorem amj_start (M:TsM n ao cap x w0 w1 sb lb ab pb cb p rv lo hi B b1 VA TL wA RL VS U S c f flo fhi) (hb:Below wA.heap.size wA w) {l4:Option Addr} {lc4:Nat} (ho:OwnL w wA.heap.size (.slice l4 n.l.length lc4) f0):AmJ n ao cap x w0 w1 sb lb ab pb cb p rv lo hi B b1 VA TL g f0 wA w 0 c l4 lc4:=by
 refine ⟨.of_below hb,ho,?_⟩
 have h1:=M.ne_all.2.2.1
 have:=M.sz
 rw [hb.block cb (by omega)]
 exact M.cnt
theorem amj_cells (M:TsM n ao cap x w0 w1 sb lb ab pb cb p rv lo hi B b1 VA TL wA RL VS U S c f flo fhi) {j:Nat} (hoff:Off (fun b=>b=cb∨wA.heap.size≤b) wA w) (hcnt:w.heap[cb]? = some (.cells #[.int .i64 ((c+j:Nat):Int)] 147 (0,0))) :
  w.cell? ⟨sb,3,none⟩=some (.slice ao n.l.length cap)∧w.cell? ⟨sb,4,none⟩=some rv∧w.cell? ⟨sb,10,none⟩=some (.func (.func 95) #[.pointer (some ⟨cb,0,none⟩)] #[])∧w.cell? ⟨sb,9,none⟩=some (.pointer (some ⟨p,0,none⟩))∧w.cell? ⟨cb,0,none⟩=some (.int .i64 ((c+j:Nat):Int))∧w.frozen? ⟨cb,0,none⟩=false ∧
  (∀ r,r<RL.length→∃ gb rc,rv=.slice (some ⟨gb,0,none⟩) RL.length rc∧w.cell? ⟨gb,r,none⟩=some (.int .i64 (amt RL r))∧gb<wA.heap.size)∧ARow w ao n.l ∧
  (∀ b off v,w1.cell? ⟨b,off,none⟩=some v→b<w1.heap.size→¬ Mut rv lb pb cb B b1 b→w.cell? ⟨b,off,none⟩=some v)∧cb<wA.heap.size:=by
 obtain ⟨a1,a2,a3,a4,a5,a6,a7,a8,a9,a10,a11⟩:=M.ne_all
 have hsz:=M.sz
 have hso:=M.st.up
 have hlo:=M.st.low
 have hb0:=M.st.b0
 have hsb:sb<wA.heap.size∧sb≠cb:=by omega
 have hblk:=hoff.block sb hsb.1 (fun e=>by omega)
 have hc:∀ i,w.cell? ⟨sb,i,none⟩=wA.cell? ⟨sb,i,none⟩:=fun i=>World.cell?_of_block (w:=wA) hblk
 obtain ⟨k0,k1,k2,k3,k4,k5,k6,k7,k8,k9,k10⟩:=M.tc
 refine ⟨(hc _).trans k3,(hc _).trans k4,(hc _).trans k10,(hc _).trans k9,by simp [World.cell?,hcnt],by simp [World.frozen?,hcnt],fun r hr=>?_,?_,fun b off v hv hb hm=>?_,by omega⟩
 ·obtain ⟨gb,rc,e1,e2,e3,_⟩:=M.note hr
  have hg:=a4 gb (by rw [e1];rfl)
  refine ⟨gb,rc,e1,?_,by omega⟩
  exact (World.cell?_of_block (w:=wA) (hoff.block gb (by omega) (fun e=>by omega))).trans e3
 ·exact M.st.row0.kept (M.low.trans (hoff.below (B:=w0.heap.size) (fun b e=>by omega) (by have:=M.low.size;omega)))
 ·have e1:=M.kp b hb hm
  have e2:=hoff.block b (by omega) (fun e=>by
   rcases e with e | e
   ·exact hm (.inr (.inr (.inr (.inl e))))
   ·omega)
  exact ((World.cell?_of_block (w:=wA) e2).trans (World.cell?_of_block (w:=w1) e1)).trans hv
theorem amj_more (M:TsM n ao cap x w0 w1 sb lb ab pb cb p rv lo hi B b1 VA TL wA RL VS U S c f flo fhi) {j:Nat} {l4:Option Addr} {lc4:Nat} (h:AmJ n ao cap x w0 w1 sb lb ab pb cb p rv lo hi B b1 VA TL g f0 wA w j c l4 lc4) :
  Off (fun b=>b=cb∨wA.heap.size≤b) wA (w.setCell ⟨cb,0,none⟩ (.int .i64 ((c+(j+1):Nat):Int)))∧OwnL (w.setCell ⟨cb,0,none⟩ (.int .i64 ((c+(j+1):Nat):Int))) wA.heap.size (.slice l4 n.l.length lc4) (setG g f0 (TL.take j))∧(w.setCell ⟨cb,0,none⟩ (.int .i64 ((c+(j+1):Nat):Int))).heap[cb]? = some (.cells #[.int .i64 ((c+(j+1):Nat):Int)] 147 (0,0)):=by
 have hcb:=M.ne_all.2.2.1
 have hsz:=M.sz
 refine ⟨h.off.set (p:=⟨cb,0,none⟩) (.inl (.inl rfl)) _,own_same h.row fun b hb=>Below.heap_setCell _ _ _ _ ?_,?_⟩
 ·have:=(Rw.own_lt h.row b hb).1
  show b≠cb
  omega
 ·simp only [World.setCell,Array.getElem?_modify,h.cnt,if_true,Option.map_some]
  rfl
theorem amj_put {w:World} {j:Nat} {l4:Option Addr} {lc4:Nat} (hcb:cb<wA.heap.size) (ho:Off (fun b=>b=cb∨wA.heap.size≤b) wA w) (hr:OwnL w wA.heap.size (.slice l4 n.l.length lc4) (setG g f0 (TL.take j))) (hc:w.heap[cb]? = some (.cells #[.int .i64 ((c+(j+1):Nat):Int)] 147 (0,0)))
  (hfl:f0.length=n.l.length) {r:Nat} (hj:j<TL.length) (er:TL.getD j 0=r) (hrl:r / 2<n.l.length) :
  ∃ gb,l4=some ⟨gb,0,none⟩∧wA.heap.size≤gb∧(∃ y:Int,w.cell? ⟨gb,r / 2,none⟩=some (.int .i64 y))∧w.frozen? ⟨gb,r / 2,none⟩=false ∧
   AmJ n ao cap x w0 w1 sb lb ab pb cb p rv lo hi B b1 VA TL g f0 wA (w.setCell ⟨gb,r / 2,none⟩ (.int .i64 (amt g (r / 2)))) (j+1) c l4 lc4 ∧
   ∀ y:Int,(∃ z:Int,(w.setCell ⟨gb,r / 2,none⟩ (.int .i64 y)).cell? ⟨gb,r / 2,none⟩=some (.int .i64 z))∧(w.setCell ⟨gb,r / 2,none⟩ (.int .i64 y)).frozen? ⟨gb,r / 2,none⟩=false∧AmJ n ao cap x w0 w1 sb lb ab pb cb p rv lo hi B b1 VA TL g f0 wA ((w.setCell ⟨gb,r / 2,none⟩ (.int .i64 y)).setCell ⟨gb,r / 2,none⟩ (.int .i64 (amt g (r / 2)))) (j+1) c l4 lc4:=by
 have hlen:r / 2<(setG g f0 (TL.take j)).length:=by rw [setG_len,hfl];exact hrl
 obtain ⟨gb,e1,e2,e3,e4,e5⟩:=own_cells encI_len hr (at_amt hlen)
 have c0:=e4 0 _ rfl
 rw [show r / 2*1+0=r / 2 by omega] at c0
 subst e1
 have hset:(setG g f0 (TL.take (j+1)))=(setG g f0 (TL.take j)).set (r / 2) (amt g (r / 2)):=by rw [take_getD hj,setG_snoc,er]
 have hp:∀ (w3:World) (l:List Int),OwnL w3 wA.heap.size (.slice (some ⟨gb,0,none⟩) n.l.length lc4) l→r / 2<l.length→∀ y,OwnL (w3.setCell ⟨gb,r / 2,none⟩ (.int .i64 y)) wA.heap.size (.slice (some ⟨gb,0,none⟩) n.l.length lc4) (l.set (r / 2) y):=fun w3 l h3 hl y=>by
  have h:=own_put encI_len h3 (at_amt hl) (y:=y) (j:=0) (by omega) (u:=.int .i64 y) rfl
  rwa [show r / 2*1+0=r / 2 by omega] at h
 refine ⟨gb,rfl,e2,⟨_,c0⟩,e5 _,⟨ho.set (p:=⟨gb,r / 2,none⟩) (.inl (.inr e2)) _,?_,?_⟩,fun y=>⟨?_,?_,⟨(ho.set (p:=⟨gb,r / 2,none⟩) (.inl (.inr e2)) _).set (p:=⟨gb,r / 2,none⟩) (.inl (.inr e2)) _,?_,?_⟩⟩⟩
 ·rw [hset];exact hp _ _ hr hlen _
 ·exact (Below.heap_setCell _ _ _ _ (show cb≠gb by omega)).trans hc
 ·have h5:=hp _ _ hr hlen y
  obtain ⟨g2,k1,_,_,k4,_⟩:=own_cells encI_len h5 (at_amt (i:=r / 2) (by rw [List.length_set];exact hlen))
  simp only [Option.some.injEq,Addr.mk.injEq,and_true,true_and] at k1
  subst k1
  have c2:=k4 0 _ rfl
  rw [show r / 2*1+0=r / 2 by omega] at c2
  exact ⟨_,c2⟩
 ·have h5:=hp _ _ hr hlen y
  obtain ⟨g2,k1,_,_,_,k5⟩:=own_cells encI_len h5 (at_amt (i:=r / 2) (by rw [List.length_set];exact hlen))
  simp only [Option.some.injEq,Addr.mk.injEq,and_true,true_and] at k1
  subst k1
  exact k5 _
 ·rw [hset]
  have h5:=hp _ _ (hp _ _ hr hlen y) (by rw [List.length_set];exact hlen) (amt g (r / 2))
  rwa [List.set_set] at h5
 ·exact (Below.heap_setCell _ _ _ _ (show cb≠gb by omega)).trans ((Below.heap_setCell _ _ _ _ (show cb≠gb by omega)).trans hc)
theorem more_eq (w:World) (cb c:Nat) (h0:w.cell? ⟨cb,0,none⟩=some (.int .i64 (c:Int))) (h1:w.frozen? ⟨cb,0,none⟩=false) (hc:c≤4611686018427387904) :
  Calls Tryz.prog 95 #[.pointer (some ⟨cb,0,none⟩)] w fun e w'=>e=.returned (.tuple #[])∧w' = w.setCell ⟨cb,0,none⟩ (.int .i64 ((c+1:Nat):Int)):=by
 have hw1:IntKind.i64.wrap ((c:Int)+1)=((c+1:Nat):Int):=by rw [IntKind.wrap_i64];omega
 generalize ((c+1:Nat):Int)=C1 at *
 clear hc
 go_enter Tryz.func95,Tryz.ntmps95
 go_wp2
 go_end0
 exact ⟨rfl,rfl⟩
theorem amj_round (M:TsM n ao cap x w0 w1 sb lb ab pb cb p rv lo hi B b1 VA TL wA RL VS U S c f flo fhi) (hR:Right n) (hL:Lds n.l L TL) (hF:Okf n g) (hRL:RL.length=2*n.l.length) (hrm:∀ r∈TL,amt RL r=roomN n.l g r) (hfl:f0.length=n.l.length) {lo':Option Addr} {lc:Nat} (hlv:OwnI w1 w0.heap.size (.slice lo' TL.length lc) (encW TL)) (hlm:∀ b,(Value.slice lo' TL.length lc).ownBlock=some b→¬ Mut rv lb pb cb B b1 b)
  {j:Nat} {l4:Option Addr} {lc4:Nat} (h:AmJ n ao cap x w0 w1 sb lb ab pb cb p rv lo hi B b1 VA TL g f0 wA w j c l4 lc4) (hj:j<TL.length) (hH:c+TL.length≤4611686018427387904) :
  ∃ (r q lbk gr rc gb arb aro:Nat) (X:Int),lo' = some ⟨lbk,0,none⟩∧w.cell? ⟨lbk,j,none⟩=some (.int .i64 (r:Int))∧q=r / 2∧q<n.l.length∧r<RL.length∧w.cell? ⟨sb,10,none⟩=some (.func (.func 95) #[.pointer (some ⟨cb,0,none⟩)] #[]) ∧
   rv=.slice (some ⟨gr,0,none⟩) RL.length rc∧l4=some ⟨gb,0,none⟩∧ao=some ⟨arb,aro,none⟩∧0≤X∧X≤(arcAt n.l q).cap∧(arcAt n.l q).cap≤4611686018427387903 ∧
   Calls Tryz.prog 95 #[.pointer (some ⟨cb,0,none⟩)] w fun e w3=>e=.returned (.tuple #[]) ∧
    w3.cell? ⟨sb,4,none⟩=some rv∧w3.cell? ⟨gr,r,none⟩=some (.int .i64 X)∧(∃ y:Int,w3.cell? ⟨gb,q,none⟩=some (.int .i64 y))∧w3.frozen? ⟨gb,q,none⟩=false ∧
    (r % 2=1→AmJ n ao cap x w0 w1 sb lb ab pb cb p rv lo hi B b1 VA TL g f0 wA (w3.setCell ⟨gb,q,none⟩ (.int .i64 X)) (j+1) c l4 lc4) ∧
    (¬ r % 2=1→∀ w4,w4=w3.setCell ⟨gb,q,none⟩ (.int .i64 X)→w4.cell? ⟨sb,4,none⟩=some rv∧w4.cell? ⟨sb,3,none⟩=some (.slice ao n.l.length cap)∧w4.cell? ⟨gr,r,none⟩=some (.int .i64 X)∧w4.cell? ⟨arb,aro+q*3+2,none⟩=some (.int .i64 (arcAt n.l q).cap)∧(∃ y:Int,w4.cell? ⟨gb,q,none⟩=some (.int .i64 y))∧w4.frozen? ⟨gb,q,none⟩=false ∧
     AmJ n ao cap x w0 w1 sb lb ab pb cb p rv lo hi B b1 VA TL g f0 wA (w4.setCell ⟨gb,q,none⟩ (.int .i64 ((arcAt n.l q).cap-X))) (j+1) c l4 lc4):=by
 obtain ⟨lbk,e1,e2,e3,e4,e5⟩:=own_cells encI_len hlv (at_amt (i:=j) (by rw [encW_len];exact hj))
 have hl0:=e4 0 _ rfl
 rw [show j*1+0=j by omega,encW_at hj] at hl0
 obtain ⟨r,hr⟩:∃ r,r=TL.getD j 0:=⟨_,rfl⟩
 have hrT:r∈TL:=by rw [hr];exact getD_mem hj
 have hrl:=hL.lt r hrT
 rw [← hr] at hl0
 obtain ⟨q,hq⟩:∃ q,q=r / 2:=⟨_,rfl⟩
 have hql:q<n.l.length:=by omega
 have hX:=hrm r hrT
 obtain ⟨x1,x2⟩:=room_nn hF.wi hrl
 have x3:=cap_topR hR hql
 rw [← hq] at x2
 obtain ⟨k1,k2,k3,k4,k5,k6,k7,k8,k9,k10⟩:=amj_cells M h.off h.cnt
 obtain ⟨gr,rc,g1,g2,g3⟩:=k7 r (by rw [hRL];exact hrl)
 have hl1:=k9 lbk j _ hl0 e3 (hlm lbk (by rw [e1];rfl))
 obtain ⟨arb,aro,ha1,ha2,ha3,ha4,ha5⟩:=arow_cell k8 hql
 obtain ⟨m1,m2,m3⟩:=amj_more M h
 obtain ⟨gb,p1,p2,p3,p4,p5,p6⟩:=amj_put k10 m1 m2 m3 hfl hj hr.symm (by omega)
 rw [← hq] at p3 p4 p5 p6
 refine ⟨r,q,lbk,gr,rc,gb,arb,aro,amt RL r,e1,hl1,hq,hql,by rw [hRL];exact hrl,k3,g1,p1,ha1,by omega,by omega,x3,(more_eq w cb (c+j) k5 k6 (by omega)).mono ?_⟩
 rintro e w3 ⟨rfl,hw3⟩
 rw [show c+j+1=c+(j+1) by omega] at hw3
 rw [← hw3] at m1 m2 m3 p3 p4 p5 p6
 obtain ⟨q1,q2,q3,q4,q5,q6,q7,q8,q9,q10⟩:=amj_cells M m1 m3
 obtain ⟨gr2,rc2,g4,g5,g6⟩:=q7 r (by rw [hRL];exact hrl)
 rw [g1] at g4
 simp only [Value.slice.injEq,Option.some.injEq,Addr.mk.injEq,and_true,true_and] at g4
 obtain ⟨g4,_⟩:=g4
 subst g4
 refine ⟨rfl,q2,g5,p3,p4,fun ho=>?_,fun ho w4 hw4=>?_⟩
 ·rw [hX]
  unfold roomN
  rw [if_pos ho,← hq]
  exact p5
 ·have hb4:∀ b i v,w3.cell? ⟨b,i,none⟩=some v→b<wA.heap.size→w4.cell? ⟨b,i,none⟩=some v:=fun b i v hv hb=>by
   rw [hw4]
   exact held_set hv (by show gb≠b;omega)
  have hsb:sb<wA.heap.size:=by have:=M.sz;have:=M.st.up;omega
  obtain ⟨arb2,aro2,ha6,ha7,ha8,ha9,ha10⟩:=arow_cell q8 hql
  rw [ha1] at ha6
  simp only [Option.some.injEq,Addr.mk.injEq,and_true] at ha6
  obtain ⟨rfl,rfl⟩:=ha6
  have harb:arb<wA.heap.size:=by
   obtain ⟨b',o',z1,z2,_⟩:=arow_cell M.row hql
   rw [ha1] at z1
   simp only [Option.some.injEq,Addr.mk.injEq,and_true] at z1
   rw [z1.1];exact z2
  obtain ⟨s1,s2,s3⟩:=p6 (amt RL r)
  rw [← hw4] at s1 s2 s3
  refine ⟨hb4 _ _ _ q2 hsb,hb4 _ _ _ q1 hsb,hb4 _ _ _ g5 g6,hb4 _ _ _ ha10 harb,s1,s2,?_⟩
  have:(arcAt n.l q).cap-amt RL r=amt g q:=by
   rw [hX];unfold roomN;rw [if_neg ho,← hq];omega
  rw [this];exact s3
theorem amj_drew {j:Nat} {l4:Option Addr} {lc4:Nat} (h:AmJ n ao cap x w0 w1 sb lb ab pb cb p rv lo hi B b1 VA TL g f0 wA w j c l4 lc4):AmJ n ao cap x w0 w1 sb lb ab pb cb p rv lo hi B b1 VA TL g f0 wA w.drew j c l4 lc4 :=
 ⟨h.off.then (below_drew (Below.refl _ _)),Rw.own_below h.row (below_drew (Below.refl _ _)),h.cnt⟩
def AmR (n:Net) (ao:Option Addr) (cap:Nat) (x:Int) (w0 w1:World) (sb lb ab pb cb p:Nat) (rv:Value) (lo hi B b1:Nat) (VA:Nat→Value) (TL:List Nat) (g:List Int) (w':World) (e:Ending) (c0 H:Nat):Prop :=
 ∃ o lc c2 f2 flo2 fhi2 F,e=.returned (.slice o n.l.length lc)∧OwnL w' w0.heap.size (.slice o n.l.length lc) g∧w'.cell? ⟨cb,0,none⟩=some (.int .i64 ((c2:Nat):Int))∧w'.cell? ⟨sb,9,none⟩=some (.pointer (some ⟨p,0,none⟩))∧FoO w' B F p f2 flo2 fhi2∧c0≤c2∧c2+fhi2≤H∧Below w0.heap.size w0 w'
theorem am_end (M:TsM n ao cap x w0 w1 sb lb ab pb cb p rv lo hi B b1 VA TL wA RL VS U S c f flo fhi) (hL:Lds n.l L TL) (hfl:f0.length=n.l.length) (hB:Beh n.l TL f0 g) {l4:Option Addr} {lc4:Nat} (h:AmJ n ao cap x w0 w1 sb lb ab pb cb p rv lo hi B b1 VA TL g f0 wA w TL.length c l4 lc4) (hc0:c0≤c) (hH:fhi+c≤H) :
  AmR n ao cap x w0 w1 sb lb ab pb cb p rv lo hi B b1 VA TL g w (.returned (.slice l4 n.l.length lc4)) c0 (H+TL.length):=by
 obtain ⟨k1,k2,k3,k4,k5,k6,k7,k8,k9,k10⟩:=amj_cells M h.off h.cnt
 have hrow:=Rw.own_base h.row (B':=w0.heap.size) M.low.size
 rw [List.take_length,setG_all hL hfl hB] at hrow
 have hcb:=M.ne_all.2.2.1
 have hall:=M.ne_all
 refine ⟨l4,lc4,c+TL.length,f,flo,fhi,_,rfl,hrow,k5,k4,M.fo.off h.off (fun b hb e=>?_),by omega,by omega,M.low.trans (h.off.below (B:=w0.heap.size) (fun b e=>?_) (by have:=M.low.size;omega))⟩
 ·rcases e with e | e
  ·subst e
   rcases hb with hb | hb
   ·exact hcb.2 hb
   ·omega
  ·have:=M.st.up;have:=M.st.low;have:=M.st.b0;have:=M.sz
   rcases hb with hb | hb <;> omega
 ·have:=M.low.size
  rcases e with e | e <;> omega
set_option maxHeartbeats 8000000 in
theorem amounts_any (hR:Right n) (hL:Lds n.l L TL) (hF:Okf n g) (hmn:m=n.n.toNat+1) (hfl:f0.length=n.l.length) (hB:Beh n.l TL f0 g) {fo lo':Option Addr} {fcap lc:Nat} (hf0:IRow w0 fo f0) (hlv:OwnI w1 w0.heap.size (.slice lo' TL.length lc) (encW TL)) (hlm:∀ b,(Value.slice lo' TL.length lc).ownBlock=some b→¬ Mut rv lb pb cb B b1 b)
  (h:AmI n ao cap x w0 w1 sb lb ab pb cb p rv lo hi B b1 VA TL g w 0 c0 m H) (hH2:H+TL.length≤4611686018427387904) :
  Calls Tryz.prog 97 #[.pointer (some ⟨sb,0,none⟩),.slice fo n.l.length fcap,.slice lo' TL.length lc] w fun e w'=>AmR n ao cap x w0 w1 sb lb ab pb cb p rv lo hi B b1 VA TL g w' e c0 (H+TL.length):=by
 have HI0:=hid h
 have HRD:=hid (fun w' i (hi':i<m) (h:AmI n ao cap x w0 w1 sb lb ab pb cb p rv lo hi B b1 VA TL g w' i c0 m H)=>am_round hR hL hF hi' hmn (by omega) h)
 have HRM:=hid (fun w' (h:AmI n ao cap x w0 w1 sb lb ab pb cb p rv lo hi B b1 VA TL g w' m c0 m H)=>am_rooms hR hL hmn h)
 have HD:=hid (fun w' RL VS U S c f' flo fhi (h:TsM n ao cap x w0 w1 sb lb ab pb cb p rv lo hi B b1 VA TL w' RL VS U S c f' flo fhi)=>h.tc)
 have HLOW:=hid (fun w' RL VS U S c f' flo fhi (h:TsM n ao cap x w0 w1 sb lb ab pb cb p rv lo hi B b1 VA TL w' RL VS U S c f' flo fhi)=>h.low)
 have HMORE:=hid (fun w' RL VS U S c f flo fhi (h:TsM n ao cap x w0 w1 sb lb ab pb cb p rv lo hi B b1 VA TL w' RL VS U S c f flo fhi) hc=>more_any h hc)
 have HCL:=hid (fun w' h1=>cloneL_any f0 fo n.l.length fcap w' hfl.symm h1 (by have:=hR.len;omega))
 have HFR:=hid (show ∀ w',Below w0.heap.size w0 w'→IRow w' fo f0 from fun w' hb=>hf0.kept hb)
 have HST:=hid (fun wA w' RL VS U S c f' flo fhi (M:TsM n ao cap x w0 w1 sb lb ab pb cb p rv lo hi B b1 VA TL wA RL VS U S c f' flo fhi) (hb:Below wA.heap.size wA w') l4 lc4 (ho:OwnL w' wA.heap.size (.slice l4 n.l.length lc4) f0)=>amj_start (g:=g) M hb ho)
 have HJ:=hid (fun wA w' RL VS U S c f' flo fhi (M:TsM n ao cap x w0 w1 sb lb ab pb cb p rv lo hi B b1 VA TL wA RL VS U S c f' flo fhi) hRL hrm j l4 lc4 (h:AmJ n ao cap x w0 w1 sb lb ab pb cb p rv lo hi B b1 VA TL g f0 wA w' j c l4 lc4) hj hH=>amj_round M hR hL hF hRL hrm hfl hlv hlm h hj hH)
 have HEND:=hid (fun wA w' RL VS U S c f' flo fhi (M:TsM n ao cap x w0 w1 sb lb ab pb cb p rv lo hi B b1 VA TL wA RL VS U S c f' flo fhi) l4 lc4 (h:AmJ n ao cap x w0 w1 sb lb ab pb cb p rv lo hi B b1 VA TL g f0 wA w' TL.length c l4 lc4) hc0 hH=>am_end (c0:=c0) (H:=H) M hL hfl hB h hc0 hH)
 obtain ⟨RL,VS,U,S,c,f,flo,fhi,M,hx⟩:=h
 clear hx
 obtain ⟨k0,k1,k2,k3,k4,k5,k6,k7,k8,k9,k10⟩:=M.tc
 have hNL:n.n.toNat+1=m:=hmn.symm
 rw [hNL] at HD k6 k7 k8
 have hm1:m≤1000000:=by have:=hR.n1;omega
 have HLL:=hid (show n.l.length≤2000 from hR.len)
 have HTL:=hid (show TL.length≤4611686018427387904 by omega)
 clear M hR hL hF hmn hfl hB hf0 hlv hlm hNL
 generalize hK:TL.length=K at *
 clear hK
 go_enter Tryz.func97,Tryz.ntmps97
 go_wp2
 go_loopg [7,16] m (fun gg s7 s16 wr=>(∃ z,s7=z)∧∃ i:Nat,s16=.int .i64 (i:Int)∧i+gg=m∧Hid (AmI n ao cap x w0 w1 sb lb ab pb cb p rv lo hi B b1 VA TL g wr i c0 m H))
 case atStart=>exact ⟨⟨_,rfl⟩,0,rfl,by omega,HI0⟩
 case round =>
  clear k0 k1 k2 k3 k4 k5 k6 k7 k8 k9 k10
  obtain ⟨⟨z7,rfl⟩,i,rfl,hig,HI⟩:=hrel
  by_cases hin:i<m
  ·obtain ⟨RL,VS,U,S,c,f,flo,fhi,M,hc,hAB⟩:=HRD.out wr i hin HI.out
   have HAB:=hid hAB
   have HMO:=hid (HMORE.out _ _ _ _ _ _ _ _ _ M hc)
   obtain ⟨k0,k1,k2,k3,k4,k5,k6,k7,k8,k9,k10⟩:=HD.out _ _ _ _ _ _ _ _ _ M
   have hii:(i:Int)<(m:Int):=by omega
   have hi0:(0:Int)≤(i:Int):=by omega
   have hw1:IntKind.i64.wrap ((i:Int)+1)=((i+1:Nat):Int):=by rw [IntKind.wrap_i64];omega
   clear M hc hAB
   go_wp2_with fail
   refine HMO.out.mono ?_
   rintro e w3 ⟨rfl,M3⟩
   clear k0 k1 k2 k3 k4 k5 k6 k7 k8 k9 k10
   obtain ⟨k0,k1,k2,k3,k4,k5,k6,k7,k8,k9,k10⟩:=HD.out _ _ _ _ _ _ _ _ _ M3
   have HA3:=hid (HAB.out _ M3)
   clear M3
   go_wp2_with fail
   refine HA3.out.mono ?_
   rintro e w4 ⟨z,rfl,hz⟩
   clear k0 k1 k2 k3 k4 k5 k6 k7 k8 k9 k10
   rcases hz with ⟨rfl,h4⟩ | ⟨hz,⟨RL4,VS4,U4,S4,c4,f4,flo4,fhi4,M4⟩,h5⟩
   ·have H4:=hid h4
    clear h4
    go_wp2
    go_roundg (m-(i+1))
    case measure=>omega
    case rel=>exact ⟨⟨_,rfl⟩,i+1,rfl,by omega,H4⟩
   ·have H5:=hid h5
    obtain ⟨k0,k1,k2,k3,k4,k5,k6,k7,k8,k9,k10⟩:=HD.out _ _ _ _ _ _ _ _ _ M4
    have hzz:(z != -1)=true:=by simpa using hz
    clear M4 h5
    go_wp2_with fail
    refine H5.out.mono ?_
    rintro e w5 ⟨rfl,h6⟩
    have H6:=hid h6
    clear h6 k0 k1 k2 k3 k4 k5 k6 k7 k8 k9 k10
    go_wp2
    go_roundg (m-(i+1))
    case measure=>omega
    case rel=>exact ⟨⟨_,rfl⟩,i+1,rfl,by omega,H6⟩
  ·obtain rfl:i=m:=by omega
   obtain ⟨RL,VS,U,S,c,f,flo,fhi,M,hc0,hcH,hRL,hrm⟩:=HRM.out wr HI.out
   have HRL:=hid hRL
   have HRR:=hid hrm
   have HM:=hid M
   have HC0:=hid hc0
   have HCH:=hid hcH
   have HC:=hid (HCL.out wr (HFR.out _ (HLOW.out _ _ _ _ _ _ _ _ _ M)))
   have HH2:=hid hH2
   clear M hc0 hcH hRL hrm hin hig hH2
   go_wp2_with fail
   refine HC.out.mono ?_
   rintro e w4 ⟨l4,lc4,rfl,ho4,hb4⟩
   have HJ0:=hid (HST.out _ _ _ _ _ _ _ _ _ _ HM.out hb4 _ _ ho4)
   clear ho4 hb4
   go_wp2
   go_loopg [10,39] K (fun gg s10 s39 wr2=>(∃ z,s10=z)∧∃ j:Nat,s39=.int .i64 (j:Int)∧j+gg=K∧Hid (AmJ n ao cap x w0 w1 sb lb ab pb cb p rv lo hi B b1 VA TL g f0 wr wr2 j c l4 lc4))
   case atStart=>exact ⟨⟨_,rfl⟩,0,rfl,by omega,HJ0⟩
   case round =>
    obtain ⟨⟨z10,rfl⟩,j,rfl,hjg,HJJ⟩:=hrel
    by_cases hjn:j<K
    ·obtain ⟨r,q,lbk,gr,rc,gb,arb,aro,X,rfl,hl0,hq,hql,hrl,hs10,rfl,rfl,rfl,hX0,hX1,hcap,hcall⟩:=HJ.out _ _ _ _ _ _ _ _ _ _ HM.out HRL.out HRR.out j l4 lc4 HJJ.out hjn (by have:=HCH.out;have:=HH2.out;omega)
     have HCALL:=hid hcall
     have htd:=tdiv2 hq
     have htm:=tmod2 r
     have hji:(j:Int)<(K:Int):=by omega
     have hj0:(0:Int)≤(j:Int):=by omega
     have hri:(r:Int)<(RL.length:Int):=by omega
     have hr0:(0:Int)≤(r:Int):=by omega
     have hqi:(q:Int)<(n.l.length:Int):=by omega
     have hq0:(0:Int)≤(q:Int):=by omega
     have hw1:IntKind.i64.wrap ((j:Int)+1)=((j+1:Nat):Int):=by have:=HTL.out;rw [IntKind.wrap_i64];omega
     have hwq:IntKind.i64.wrap (q:Int)=(q:Int):=by have:=hcap;rw [IntKind.wrap_i64];have:=HLL.out;omega
     have hw2:IntKind.i64.wrap ((arcAt n.l q).cap-X)=(arcAt n.l q).cap-X:=by rw [IntKind.wrap_i64];omega
     clear hcall hq HJJ
     go_wp2_with fail
     refine HCALL.out.mono ?_
     rintro e w3 ⟨rfl,c4,cr,⟨y,cy⟩,fy,hodd,heven⟩
     clear hl0 hs10
     by_cases ho:r % 2=1
     ·have HO:=hid (hodd ho)
      rw [ho] at htm
      clear hodd heven ho
      go_wp2
      go_roundg (K-(j+1))
      case measure=>omega
      case rel=>exact ⟨⟨_,rfl⟩,j+1,rfl,by omega,HO⟩
     ·have HE:=hid (heven ho)
      rw [show r % 2=0 by omega] at htm
      clear hodd heven ho
      go_upto_region 14 with fail
      generalize hw4:(w3.setCell ⟨gb,q,none⟩ (.int .i64 X))=w4 at *
      obtain ⟨d0,d1,d2,d3,⟨y4,d4⟩,d5,d6⟩:=HE.out _ rfl
      have H6:=hid d6
      clear d6 HE hw4 c4 cr cy fy
      have H7:=hid (amj_drew H6.out)
      clear H6
      go_wp2
      go_region
      go_wp2
      go_roundg (K-(j+1))
      case measure=>omega
      case rel=>exact ⟨⟨_,rfl⟩,j+1,rfl,by omega,H7⟩
    ·obtain rfl:j=K:=by omega
     have HE:=hid (HEND.out _ _ _ _ _ _ _ _ _ _ HM.out _ _ HJJ.out HC0.out HCH.out)
     clear HJJ
     go_wp2
     go_ret
     exact HE.out
end
end Ne
end Go.Proofs.YthhlfphnokdfaaaGreat
