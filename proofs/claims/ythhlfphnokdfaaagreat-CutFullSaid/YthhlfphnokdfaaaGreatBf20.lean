/-
  Svm
-/
import Derived.Test.YthhlfphnokdfaaaGreatBf19
import Derived.Test.YthhlfphnokdfaaaGreatBf16
import Derived.RegionTactic
import Derived.BigRegion
import Derived.Deep.LoopGhost
import Derived.Deep.DeepCutAuto
import Derived.WalkMore
set_option linter.unusedVariables false
set_option linter.unusedSimpArgs false
set_option maxRecDepth 100000
set_option maxHeartbeats 4000000
namespace Go.Proofs.YthhlfphnokdfaaaGreat
open Go.ChangeShapes Go.WideShapes Go.ChangeAt Go.RowKit
open Lib (hid)
namespace Sv
def oi:Option Nat→Int | none=>-1 | some y=>(y:Int)
def encN (k:Nd):List Value:=[.int .i64 k.v,.int .i64 k.lo,.int .i64 k.hi,.int .i64 (k.c:Int),.int .i64 (oi k.up),.int .i64 (oi (k.b false)),.int .i64 (oi (k.b true)),.bool k.t,.int .i64 k.a]
theorem encN_len (k:Nd):(encN k).length=9:=rfl
def lst (n:Nat) (M:Nat→Nd):List Nd:=(List.range n).map M
theorem lst_len (n:Nat) (M:Nat→Nd):(lst n M).length=n:=by simp [lst]
theorem lst_get {n y:Nat} (M:Nat→Nd) (h:y<n):(lst n M)[y]? = some (M y):=by simp [lst,h]
theorem lst_set {n y:Nat} (M:Nat→Nd) (k:Nd):(lst n M).set y k=lst n (upd M y k):=by
 apply List.ext_getElem?
 intro i
 by_cases c:i<n
 ·rw [lst_get _ c]
  by_cases e:i=y
  ·subst e;rw [List.getElem?_set_self (by rw [lst_len];exact c),upd_self]
  ·rw [List.getElem?_set_ne (Ne.symm e),lst_get _ c,upd_ne _ _ e]
 ·rw [List.getElem?_eq_none (by rw [List.length_set,lst_len];omega),List.getElem?_eq_none (by rw [lst_len];omega)]
def VBlk (w:World) (p:Nat) (v:Value) (c:Int):Prop:=w.heap[p]? = some (.cells #[v,.int .i64 c] 172 (0,0))
structure SpM (w:World) (B p g n:Nat) (M:Nat→Nd) (c:Nat):Prop where
 blk:VBlk w p (.slice (some ⟨g,0,none⟩) n n) (wr c)
 low:B≤p
 row:Rw.Own 176 9 encN w B (.slice (some ⟨g,0,none⟩) n n) (lst n M)
 small:n≤3000
section
variable {w w2:World} {B p g n c:Nat} {M:Nat→Nd} {v:Value} {z:Int}
theorem vblk_cells (h:VBlk w p v z):w.cell? ⟨p,0,none⟩=some v∧w.cell? ⟨p,1,none⟩=some (.int .i64 z):=by
 unfold VBlk at h
 simp [World.cell?,h]
theorem vblk_frozen (h:VBlk w p v z) (o:Nat):w.frozen? ⟨p,o,none⟩=false:=by unfold VBlk at h;simp [World.frozen?,h]
theorem vblk_lt (h:VBlk w p v z):p<w.heap.size:=Rw.lt_of_heap h
theorem vblk_same (h:VBlk w p v z) (e:w2.heap[p]? = w.heap[p]?):VBlk w2 p v z:=by unfold VBlk at *;rw [e];exact h
theorem vblk_step (h:VBlk w p v z) (x:Int):VBlk (w.setCell ⟨p,1,none⟩ (.int .i64 x)) p v x:=by
 unfold VBlk at *
 simp [World.setCell,Array.getElem?_modify,h]
theorem vblk_own {α:Type} {e:TypeId} {k:Nat} {enc:α→List Value} {B:Nat} {u:Value} {xs:List α} (h:VBlk w p v z) (hne:e≠172) (ho:Rw.Own e k enc w B u xs):u.ownBlock≠some p:=by
 obtain ⟨_,h2⟩:=ho
 rcases h2 with ⟨hv,_⟩ | ⟨g,c,cur,hv,_,hh,_⟩
 ·rw [hv];simp [Value.ownBlock]
 ·rw [hv]
  simp only [Value.ownBlock]
  intro e2
  cases e2
  unfold VBlk at h
  rw [h] at hh
  simp at hh
  exact hne hh.2.symm
theorem SpM.ne (h:SpM w B p g n M c):g≠p:=fun e=>vblk_own h.blk (by decide) h.row (by rw [e];rfl)
theorem SpM.in (h:SpM w B p g n M c):(B≤p∧p<w.heap.size)∧B≤g∧g<w.heap.size:=⟨⟨h.low,vblk_lt h.blk⟩,Rw.own_lt h.row g rfl⟩
theorem SpM.same (h:SpM w B p g n M c) (e1:w2.heap[p]? = w.heap[p]?) (e2:w2.heap[g]? = w.heap[g]?):SpM w2 B p g n M c :=
 ⟨vblk_same h.blk e1,h.low,Ne.own_same h.row fun k hk=>by cases hk;exact e2,h.small⟩
theorem SpM.off (h:SpM w B p g n M c) {F:Nat→Prop} (ho:Sp.Off F w w2) (h1:¬ F p) (h2:¬ F g):SpM w2 B p g n M c:=h.same (ho.block p h.in.1.2 h1) (ho.block g h.in.2.2 h2)
theorem SpM.kept (h:SpM w B p g n M c) (hb:Below w.heap.size w w2):SpM w2 B p g n M c:=h.same (hb.block p h.in.1.2) (hb.block g h.in.2.2)
theorem SpM.head (h:SpM w B p g n M c):w.cell? ⟨p,0,none⟩=some (.slice (some ⟨g,0,none⟩) n n):=(vblk_cells h.blk).1
theorem SpM.cnt (h:SpM w B p g n M c):w.cell? ⟨p,1,none⟩=some (.int .i64 (wr c)):=(vblk_cells h.blk).2
theorem SpM.cells (h:SpM w B p g n M c) {y:Nat} (hy:y<n):∀ j v,(encN (M y))[j]? = some v→w.cell? ⟨g,y*9+j,none⟩=some v:=by
 obtain ⟨g',e,_,_,hc,_⟩:=Ne.own_cells encN_len h.row (lst_get M hy)
 cases e
 exact hc
theorem SpM.froz (h:SpM w B p g n M c) (o:Nat):w.frozen? ⟨g,o,none⟩=false:=by
 obtain ⟨_,h2⟩:=h.row
 rcases h2 with ⟨hv,_⟩ | ⟨g',cap2,cur,hv,hg,hh,_⟩
 ·simp at hv
 ·simp only [Value.slice.injEq,Option.some.injEq,Addr.mk.injEq,and_true,true_and] at hv
  obtain ⟨rfl,_⟩:=hv
  simp [World.frozen?,hh]
theorem SpM.put (h:SpM w B p g n M c) {y:Nat} (hy:y<n) {k:Nd} {j:Nat} (hj:j<9) {u:Value} (hk:encN k=(encN (M y)).set j u):SpM (w.setCell ⟨g,y*9+j,none⟩ u) B p g n (upd M y k) c:=by
 refine ⟨vblk_same h.blk (Below.heap_setCell _ _ _ _ (Ne.symm h.ne)),h.low,?_,h.small⟩
 rw [← lst_set]
 exact Ne.own_put encN_len h.row (lst_get M hy) hj hk
theorem upd_upd (M:Nat→Nd) (x:Nat) (k k':Nd):upd (upd M x k) x k' = upd M x k':=by
 funext y
 simp only [upd]
 split <;> rfl
theorem upd_id (M:Nat→Nd) (x:Nat):upd M x (M x)=M:=by
 funext y
 simp only [upd]
 split
 ·rename_i e;rw [e]
 ·rfl
theorem SpM.cellsU {x:Nat} {k:Nd} (h:SpM w B p g n (upd M x k) c) (hx:x<n):∀ j v,(encN k)[j]? = some v→w.cell? ⟨g,x*9+j,none⟩=some v:=by
 have:=h.cells hx
 rw [upd_self] at this
 exact this
theorem SpM.putU {x:Nat} {k k':Nd} (h:SpM w B p g n (upd M x k) c) (hx:x<n) {j:Nat} (hj:j<9) {u:Value} (hk:encN k' = (encN k).set j u):SpM (w.setCell ⟨g,x*9+j,none⟩ u) B p g n (upd M x k') c:=by
 have:=h.put hx (k:=k') hj (u:=u) (by rw [upd_self];exact hk)
 rw [upd_upd] at this
 exact this
def sz:Bool→Int | false=>0 | true=>1
theorem SpM.stepped (h:SpM w B p g n M c):SpM (w.setCell ⟨p,1,none⟩ (.int .i64 (wr (wr c+1)))) B p g n M (c+1):=by
 refine ⟨?_,h.low,Ne.own_same h.row fun k hk=>by cases hk;exact Below.heap_setCell _ _ _ _ h.ne,h.small⟩
 have:=vblk_step h.blk (wr (wr c+1))
 rw [show wr ((c+1:Nat):Int)=wr (wr c+1) by simp only [wr_eq];omega]
 exact this
theorem SpM.drew (h:SpM w B p g n M c):SpM w.drew B p g n M c:=h.same rfl rfl
def PG (p g:Nat) (k:Nat):Prop:=k=p∨k=g
theorem off_put (p:Nat) {g:Nat} {u:Value} (w:World) (o:Nat):Sp.Off (PG p g) w (w.setCell ⟨g,o,none⟩ u):=(Sp.Off.refl _ w).set (.inl (.inr rfl)) u
theorem off_step {p:Nat} (g:Nat) {u:Value} (w:World):Sp.Off (PG p g) w (w.setCell ⟨p,1,none⟩ u):=(Sp.Off.refl _ w).set (.inl (.inl rfl)) u
theorem off_drew {F:Nat→Prop} (w:World):Sp.Off F w w.drew:=⟨rfl,rfl,rfl,Nat.le_refl _,fun _ _ _=>rfl⟩
theorem off_pg {p g:Nat} {w w2 w3:World} (h:Sp.Off (PG p g) w w2) (k:Sp.Off (PG p g) w2 w3):Sp.Off (PG p g) w w3:=h.trans k fun _ h=>.inl h
end
structure SpA (w0 w:World) (B p g n:Nat) (M:Nat→Nd) (c:Nat):Prop extends SpM w B p g n M c where
 off:Sp.Off (PG p g) w0 w
section
variable {w0 w w2:World} {B p g n c c':Nat} {M M':Nat→Nd}
theorem SpM.at (h:SpM w B p g n M c):SpA w w B p g n M c:=⟨h,Sp.Off.refl _ _⟩
theorem SpA.then (h:SpA w0 w B p g n M c) (k:SpA w w2 B p g n M' c'):SpA w0 w2 B p g n M' c':=⟨k.toSpM,off_pg h.off k.off⟩
theorem SpA.put (h:SpA w0 w B p g n M c) {y:Nat} (hy:y<n) {k:Nd} {j:Nat} (hj:j<9) {u:Value} (hk:encN k=(encN (M y)).set j u):SpA w0 (w.setCell ⟨g,y*9+j,none⟩ u) B p g n (upd M y k) c :=
 ⟨h.toSpM.put hy hj hk,off_pg h.off (off_put p w _)⟩
theorem SpA.putU {x:Nat} {k k':Nd} (h:SpA w0 w B p g n (upd M x k) c) (hx:x<n) {j:Nat} (hj:j<9) {u:Value} (hk:encN k' = (encN k).set j u):SpA w0 (w.setCell ⟨g,x*9+j,none⟩ u) B p g n (upd M x k') c :=
 ⟨h.toSpM.putU hx hj hk,off_pg h.off (off_put p w _)⟩
theorem SpA.drew (h:SpA w0 w B p g n M c):SpA w0 w.drew B p g n M c:=⟨h.toSpM.drew,off_pg h.off (off_drew w)⟩
theorem SpA.stepped (h:SpA w0 w B p g n M c):SpA w0 (w.setCell ⟨p,1,none⟩ (.int .i64 (wr (wr c+1)))) B p g n M (c+1):=⟨h.toSpM.stepped,off_pg h.off (off_step g w)⟩
end
end Sv
end Go.Proofs.YthhlfphnokdfaaaGreat
namespace Go.Proofs.YthhlfphnokdfaaaGreat
open Go.ChangeShapes Go.WideShapes Go.ChangeAt Go.RowKit
open Lib (hid)
namespace Sv
section
variable {w:World} {B p g n c:Nat} {M:Nat→Nd}
theorem has_any (h:SpM w B p g n M c) (x:Int) :
  Calls Tryz.prog 128 #[.pointer (some ⟨p,0,none⟩),.int .i64 x] w fun e w'=>e=.returned (.bool (decide (0≤x∧x<n)))∧w=w':=by
 have n0:=h.head
 clear h
 generalize hq:decide (0≤x∧x<(n:Int))=q
 by_cases c1:0≤x
 ·by_cases c2:x<(n:Int)
  ·obtain rfl:q=true:=by rw [← hq];simp [c1,c2]
   clear hq
   go_enter Tryz.func128,Tryz.ntmps128
   go_wp2
   go_ret
   exact ⟨rfl,rfl⟩
  ·obtain rfl:q=false:=by rw [← hq];simp;omega
   clear hq
   go_enter Tryz.func128,Tryz.ntmps128
   go_wp2
   go_ret
   exact ⟨rfl,rfl⟩
 ·obtain rfl:q=false:=by rw [← hq];simp;omega
  clear hq
  go_enter Tryz.func128,Tryz.ntmps128
  go_wp2
  go_ret
  exact ⟨rfl,rfl⟩
theorem count_any (h:SpM w B p g n M c) (x:Option Nat) (hx:∀ y,x=some y→y<n) :
  Calls Tryz.prog 136 #[.pointer (some ⟨p,0,none⟩),.int .i64 (oi x)] w fun e w'=>e=.returned (.int .i64 (cO M 0 x:Nat))∧w=w':=by
 have n0:=h.head
 cases x with
 | none =>
  clear h hx
  go_enter Tryz.func136,Tryz.ntmps136
  simp only [oi]
  go_wp2
  go_ret
  exact ⟨rfl,rfl⟩
 | some y =>
  have hy:=hx y rfl
  have c3:=h.cells hy 3 _ rfl
  have hyi:(y:Int)<(n:Int):=by omega
  have hy0:(0:Int)≤(y:Int):=by omega
  have hyn:¬ (y:Int) = -1:=by omega
  simp only [oi,cO,Nat.zero_add]
  generalize (M y).c=k at *
  clear h hx hy
  go_enter Tryz.func136,Tryz.ntmps136
  go_wp2
  go_ret
  exact ⟨rfl,rfl⟩
theorem side_any (h:SpM w B p g n M c) {x u:Nat} (hx:x<n) (hu:u<n) (hux:(M x).up=some u) :
  Calls Tryz.prog 139 #[.pointer (some ⟨p,0,none⟩),.int .i64 (x:Int)] w fun e w'=>e=.returned (.int .i64 (sz (sideM M x)))∧SpA w w' B p g n M c:=by
 have n0:=h.head
 have HE:=hid h.at.drew
 have c4:=h.cells hx 4 _ rfl
 have c5:=h.cells hu 5 _ rfl
 rw [hux] at c4
 simp only [oi] at c4
 have hs:sideM M x=decide ((M u).b false≠some x):=by unfold sideM;rw [hux]
 generalize sideM M x=q at *
 have hxi:(x:Int)<(n:Int):=by omega
 have hx0:(0:Int)≤(x:Int):=by omega
 have hui:(u:Int)<(n:Int):=by omega
 have hu0:(0:Int)≤(u:Int):=by omega
 by_cases e:(M u).b false=some x
 ·rw [e] at c5
  obtain rfl:q=false:=by rw [hs,e];simp
  simp only [oi] at c5
  clear h hs hux e
  go_enter Tryz.func139,Tryz.ntmps139
  go_wp2
  go_region
  all_goals (try go_wp2)
  all_goals go_ret
  all_goals exact ⟨rfl,HE.out⟩
 ·obtain rfl:q=true:=by rw [hs];simp [e]
  obtain ⟨z,hz⟩:∃ z,z=oi ((M u).b false):=⟨_,rfl⟩
  have hzx:¬ z=(x:Int):=by
   rw [hz]
   cases e2:(M u).b false with
   | none=>simp only [oi];omega
   | some y=>simp only [oi];intro e3;exact e (by rw [e2];congr 1;omega)
  rw [← hz] at c5
  clear h hs hux e hz
  go_enter Tryz.func139,Tryz.ntmps139
  go_wp2
  go_region
  all_goals (try go_wp2)
  all_goals go_ret
  all_goals exact ⟨rfl,HE.out⟩
theorem put_turn (h:SpM w B p g n M c) {x:Nat} (hx:x<n) {b:Bool} (hb:(M x).t=b):SpA w (w.setCell ⟨g,x*9+7,none⟩ (.bool (!b))).drew B p g n (upd M x { M x with t:=!(M x).t }) c :=
 (h.at.put hx (j:=7) (by omega) (by rw [← hb];rfl)).drew
theorem turn_any (h:SpM w B p g n M c) {x:Nat} (hx:x<n) :
  Calls Tryz.prog 142 #[.pointer (some ⟨p,0,none⟩),.int .i64 (x:Int)] w fun e w'=>e=.returned (.tuple #[])∧SpA w w' B p g n (upd M x { M x with t:=!(M x).t }) c:=by
 have n0:=h.head
 have c7:=h.cells hx 7 _ rfl
 have f7:=h.froz (x*9+7)
 have hxi:(x:Int)<(n:Int):=by omega
 have hx0:(0:Int)≤(x:Int):=by omega
 have HE:=hid (fun b (hb:(M x).t=b)=>put_turn h hx hb)
 generalize upd M x { M x with t:=!(M x).t } = M2 at *
 cases hb:(M x).t
 all_goals
  rw [hb] at c7
  have HE2:=hid (HE.out _ hb)
  clear h HE hb
  simp only [Bool.not_true,Bool.not_false] at HE2
  go_enter Tryz.func142,Tryz.ntmps142
  go_wp2
  go_region
  all_goals (try go_wp2)
  all_goals go_end0
  all_goals exact ⟨rfl,HE2.out⟩
theorem add_any (h:SpM w B p g n M c) {x:Nat} (hx:x<n) (d:Int) :
  Calls Tryz.prog 134 #[.pointer (some ⟨p,0,none⟩),.int .i64 (x:Int),.int .i64 d] w fun e w'=>e=.returned (.tuple #[])∧SpA w w' B p g n (upd M x (handN (M x) false d)) c:=by
 have n0:=h.head
 have hxi:(x:Int)<(n:Int):=by omega
 have hx0:(0:Int)≤(x:Int):=by omega
 have g0:=h.at
 rw [← upd_id M x] at g0
 generalize hk:M x=k at *
 have g1:=g0.putU hx (j:=0) (k':={ k with v:=wr (k.v+d) }) (by omega) (u:=.int .i64 (wr (k.v+d))) rfl
 have g2:=g1.putU hx (j:=1) (k':={ k with v:=wr (k.v+d),lo:=wr (k.lo+d) }) (by omega) (u:=.int .i64 (wr (k.lo+d))) rfl
 have g3:=g2.putU hx (j:=2) (k':={ k with v:=wr (k.v+d),lo:=wr (k.lo+d),hi:=wr (k.hi+d) }) (by omega) (u:=.int .i64 (wr (k.hi+d))) rfl
 have g4:=g3.putU hx (j:=8) (k':={ k with v:=wr (k.v+d),lo:=wr (k.lo+d),hi:=wr (k.hi+d),a:=wr (k.a+d) }) (by omega) (u:=.int .i64 (wr (k.a+d))) rfl
 have hH:handN k false d = { k with v:=wr (k.v+d),lo:=wr (k.lo+d),hi:=wr (k.hi+d),a:=wr (k.a+d) }:=by unfold handN;cases k;simp
 rw [hH]
 have HE:=hid g4
 have c0:=g0.cellsU hx 0 _ rfl
 have f0:=g0.froz (x*9+0)
 have c1:=g0.cellsU hx 1 _ rfl
 have f1:=g0.froz (x*9+1)
 have c2:=g0.cellsU hx 2 _ rfl
 have f2:=g0.froz (x*9+2)
 have c3:=g0.cellsU hx 8 _ rfl
 have f3:=g0.froz (x*9+8)
 clear h hH hk g0 g1 g2 g3 g4
 simp only [Nat.add_zero] at c0 f0 HE
 generalize upd M x { k with v:=wr (k.v+d),lo:=wr (k.lo+d),hi:=wr (k.hi+d),a:=wr (k.a+d) } = M2 at *
 go_enter Tryz.func134,Tryz.ntmps134
 go_wp2
 go_end0
 exact ⟨rfl,HE.out⟩
end
end Sv
end Go.Proofs.YthhlfphnokdfaaaGreat
namespace Go.Proofs.YthhlfphnokdfaaaGreat
open Go.ChangeShapes Go.WideShapes Go.ChangeAt Go.RowKit
open Lib (hid)
namespace Sv
section
variable {w:World} {B p g n c:Nat} {M:Nat→Nd}
theorem hang_any (h:SpM w B p g n M c) {v:Nat} (hv:v<n) (s:Bool) (y:Option Nat) (hy:∀ z,y=some z→z<n) :
  Calls Tryz.prog 130 #[.pointer (some ⟨p,0,none⟩),.int .i64 (v:Int),.int .i64 (sz s),.int .i64 (oi y)] w fun e w'=>e=.returned (.tuple #[])∧SpA w w' B p g n (hangM M v s y) c:=by
 have n0:=h.head
 have hvi:(v:Int)<(n:Int):=by omega
 have hv0:(0:Int)≤(v:Int):=by omega
 cases s
 case false =>
  have c5:=h.cells hv 5 _ rfl
  have f5:=h.froz (v*9+5)
  have g1:=h.at.put hv (j:=5) (k:={ M v with b:=setb (M v).b false y }) (by omega) (u:=.int .i64 (oi y)) (by simp [encN,setb])
  cases y with
  | none =>
   have HE:=hid (show SpA w _ B p g n (hangM M v false none) c from g1)
   generalize hangM M v false none=M2 at *
   clear h g1 hy
   simp only [oi,sz] at HE c5 ⊢
   go_enter Tryz.func130,Tryz.ntmps130
   go_wp2
   go_end0
   exact ⟨rfl,HE.out⟩
  | some y =>
   have hyn:=hy y rfl
   have hyi:(y:Int)<(n:Int):=by omega
   have hy0:(0:Int)≤(y:Int):=by omega
   have hym:¬ (y:Int) = -1:=by omega
   have c4:=h.cells hyn 4 _ rfl
   have f4:=h.froz (y*9+4)
   have g2:=g1.put hyn (j:=4) (k:={ (upd M v { M v with b:=setb (M v).b false (some y) }) y with up:=some v }) (by omega) (u:=.int .i64 (v:Int)) rfl
   have HE:=hid (show SpA w _ B p g n (hangM M v false (some y)) c from g2)
   generalize hangM M v false (some y)=M2 at *
   clear h g1 g2 hy
   simp only [oi,sz] at HE c5 ⊢
   go_enter Tryz.func130,Tryz.ntmps130
   go_wp2
   go_end0
   exact ⟨rfl,HE.out⟩
 case true =>
  have c5:=h.cells hv 6 _ rfl
  have f5:=h.froz (v*9+6)
  have g1:=h.at.put hv (j:=6) (k:={ M v with b:=setb (M v).b true y }) (by omega) (u:=.int .i64 (oi y)) (by simp [encN,setb])
  cases y with
  | none =>
   have HE:=hid (show SpA w _ B p g n (hangM M v true none) c from g1)
   generalize hangM M v true none=M2 at *
   clear h g1 hy
   simp only [oi,sz] at HE c5 ⊢
   go_enter Tryz.func130,Tryz.ntmps130
   go_wp2
   go_end0
   exact ⟨rfl,HE.out⟩
  | some y =>
   have hyn:=hy y rfl
   have hyi:(y:Int)<(n:Int):=by omega
   have hy0:(0:Int)≤(y:Int):=by omega
   have hym:¬ (y:Int) = -1:=by omega
   have c4:=h.cells hyn 4 _ rfl
   have f4:=h.froz (y*9+4)
   have g2:=g1.put hyn (j:=4) (k:={ (upd M v { M v with b:=setb (M v).b true (some y) }) y with up:=some v }) (by omega) (u:=.int .i64 (v:Int)) rfl
   have HE:=hid (show SpA w _ B p g n (hangM M v true (some y)) c from g2)
   generalize hangM M v true (some y)=M2 at *
   clear h g1 g2 hy
   simp only [oi,sz] at HE c5 ⊢
   go_enter Tryz.func130,Tryz.ntmps130
   go_wp2
   go_end0
   exact ⟨rfl,HE.out⟩
end
end Sv
end Go.Proofs.YthhlfphnokdfaaaGreat
namespace Go.Proofs.YthhlfphnokdfaaaGreat
open Go.ChangeShapes Go.WideShapes Go.ChangeAt Go.RowKit
open Lib (hid)
namespace Sv
section
variable {w:World} {B p g n c:Nat} {M:Nat→Nd}
def refK (M:Nat→Nd) (k:Nd):Nat→Nd
 | 0=>{ k with lo:=k.v,hi:=k.v,c:=1 }
 | 1=>{ k with lo:=mnO M k.v (k.b false),hi:=mxO M k.v (k.b false),c:=cO M 1 (k.b false) }
 | _=>refN M k
theorem idx0 (a b:Value) (w:World):(Instr.index 174 (.agg #[a,b]) (.int .i64 0)).run Tryz.prog w=.ok a w:=by kernel_rfl
theorem idx1 (a b:Value) (w:World):(Instr.index 174 (.agg #[a,b]) (.int .i64 1)).run Tryz.prog w=.ok b w:=by kernel_rfl
theorem refK_none (M:Nat→Nd) (k:Nd):(k.b false=none→refK M k 1=refK M k 0)∧(k.b true=none→refK M k 2=refK M k 1):=⟨fun h=>by simp [refK,h,mnO,mxO,cO],fun h=>by simp [refK,refN,h,mnO,mxO,cO]⟩
theorem refK_some (M:Nat→Nd) (k:Nd) (y:Nat):(k.b false=some y→refK M k 1 = { refK M k 0 with lo:=min (refK M k 0).lo (M y).lo,hi:=max (refK M k 0).hi (M y).hi,c:=(refK M k 0).c+(M y).c })∧(k.b true=some y→refK M k 2 = { refK M k 1 with lo:=min (refK M k 1).lo (M y).lo,hi:=max (refK M k 1).hi (M y).hi,c:=(refK M k 1).c+(M y).c }) :=
 ⟨fun h=>by simp [refK,h,mnO,mxO,cO],fun h=>by simp [refK,refN,h,mnO,mxO,cO]⟩
theorem refresh_any (h:SpM w B p g n M c) {x:Nat} (hx:x<n) (hc:∀ s y,(M x).b s=some y→y<n∧y≠x∧(M y).c≤1000000) :
  Calls Tryz.prog 131 #[.pointer (some ⟨p,0,none⟩),.int .i64 (x:Int)] w fun e w'=>e=.returned (.tuple #[])∧SpA w w' B p g n (refM M x) c:=by
 have n0:=h.head
 have hxi:(x:Int)<(n:Int):=by omega
 have hx0:(0:Int)≤(x:Int):=by omega
 have HR:=hid (show upd M x (refK M (M x) 2)=refM M x from rfl)
 generalize refM M x=MR at *
 have HC:=hid hc
 have g0:=h.at
 rw [← upd_id M x] at g0
 have HM:=hid (fun y (hy:y≠x) (k:Nd)=>upd_ne M (x:=x) (y:=y) k hy)
 generalize hk:M x=k at *
 have g1:=g0.putU hx (j:=1) (k':={ k with lo:=k.v }) (by omega) (u:=.int .i64 k.v) rfl
 have g2:=g1.putU hx (j:=2) (k':={ k with lo:=k.v,hi:=k.v }) (by omega) (u:=.int .i64 k.v) rfl
 have g3:=g2.putU hx (j:=3) (k':={ k with lo:=k.v,hi:=k.v,c:=1 }) (by omega) (u:=.int .i64 1) rfl
 have HS:=hid g3.drew
 have c0:=g0.cellsU hx 0 _ rfl
 have c1:=g0.cellsU hx 1 _ rfl
 have f1:=g0.froz (x*9+1)
 have c2:=g0.cellsU hx 2 _ rfl
 have f2:=g0.froz (x*9+2)
 have c3:=g0.cellsU hx 3 _ rfl
 have f3:=g0.froz (x*9+3)
 have c5:=g0.cellsU hx 5 _ rfl
 have c6:=g0.cellsU hx 6 _ rfl
 simp only [Nat.add_zero] at c0
 obtain ⟨z0,hz0⟩:∃ z,z=oi (k.b false):=⟨_,rfl⟩
 obtain ⟨z1,hz1⟩:∃ z,z=oi (k.b true):=⟨_,rfl⟩
 rw [← hz0] at c5
 rw [← hz1] at c6
 have HZ0:=hid hz0
 have HZ1:=hid hz1
 clear hk h hc g0 g1 g2 g3 hz0 hz1
 go_enter Tryz.func131,Tryz.ntmps131
 go_wp2
 go_region
 all_goals (try go_wp2)
 clear c0 c1 f1 c2 f2 c3 f3 n0 c5 c6
 have HB:=hid (show ∀ i,i≤1→(refK M k i).c≤2000000 from fun i hi=>by
  obtain rfl | rfl:i=0∨i=1:=by omega
  ·simp [refK]
  ·simp only [refK]
   cases e:k.b false with
   | none=>simp [cO]
   | some y=>simp only [cO];have:=(HC.out _ y e).2.2;omega)
 go_loopg [34] 2 (fun gg si wr=>∃ i:Nat,si=.int .i64 i∧i+gg=2∧Hid (SpA w wr B p g n (upd M x (refK M k i)) c))
 case atStart=>exact ⟨0,rfl,by omega,HS⟩
 case round =>
  obtain ⟨i,rfl,hig,HK⟩:=hrel
  obtain rfl | rfl | rfl:i=0∨i=1∨i=2:=by omega
  ·have hix:=idx0 (.int .i64 z0) (.int .i64 z1) wr
   cases hb:k.b false with
   | none =>
    have HK2:=hid (show SpA w wr B p g n (upd M x (refK M k 1)) c by rw [(refK_none M k).1 hb];exact HK.out)
    obtain rfl:z0 = -1:=by rw [HZ0.out,hb];rfl
    clear hb
    go_wp2
    go_roundg 1
    case measure=>omega
    case rel=>exact ⟨1,by rfl,by omega,HK2⟩
   | some y =>
    obtain ⟨hyn,hyx,hyc⟩:=HC.out _ y hb
    obtain rfl:z0=(y:Int):=by rw [HZ0.out,hb];rfl
    have HQ:=hid ((refK_some M k y).1 hb)
    have hqc:=HB.out 0 (by omega)
    clear hb
    generalize refK M k 0=q at *
    have hyi:(y:Int)<(n:Int):=by omega
    have hy0:(0:Int)≤(y:Int):=by omega
    have hym:¬ (y:Int) = -1:=by omega
    have n0:=HK.out.head
    have c1:=HK.out.cellsU hx 1 _ rfl
    have f1:=HK.out.froz (x*9+1)
    have c2:=HK.out.cellsU hx 2 _ rfl
    have f2:=HK.out.froz (x*9+2)
    have c3:=HK.out.cellsU hx 3 _ rfl
    have f3:=HK.out.froz (x*9+3)
    have d1:=HK.out.cells hyn 1 _ rfl
    have d2:=HK.out.cells hyn 2 _ rfl
    have d3:=HK.out.cells hyn 3 _ rfl
    rw [HM.out y hyx q] at d1 d2 d3
    have hw:=show IntKind.i64.wrap ((q.c:Int)+((M y).c:Int))=((q.c+(M y).c:Nat):Int) by rw [IntKind.wrap_i64];omega
    have e1:=(HK.out.putU hx (j:=1) (k':={ q with lo:=min q.lo (M y).lo }) (by omega) (u:=.int .i64 (min q.lo (M y).lo)) rfl)
    have e2:=(e1.putU hx (j:=2) (k':={ q with lo:=min q.lo (M y).lo,hi:=max q.hi (M y).hi }) (by omega) (u:=.int .i64 (max q.hi (M y).hi)) rfl)
    have e3:=(e2.putU hx (j:=3) (k':={ q with lo:=min q.lo (M y).lo,hi:=max q.hi (M y).hi,c:=q.c+(M y).c }) (by omega) (u:=.int .i64 ((q.c+(M y).c:Nat):Int)) rfl).drew.drew.drew
    rw [← HQ.out] at e3
    have HE:=hid e3
    clear e1 e2 e3 HQ
    generalize q.c+(M y).c=cc at *
    go_wp2
    go_region
    all_goals (try go_wp2)
    all_goals go_region
    all_goals (try go_wp2)
    all_goals go_region
    all_goals (try go_wp2)
    go_roundg 1
    case measure=>omega
    case rel=>exact ⟨1,by rfl,by omega,HE⟩
  ·have hix:=idx1 (.int .i64 z0) (.int .i64 z1) wr
   cases hb:k.b true with
   | none =>
    have HK2:=hid (show SpA w wr B p g n (upd M x (refK M k 2)) c by rw [(refK_none M k).2 hb];exact HK.out)
    obtain rfl:z1 = -1:=by rw [HZ1.out,hb];rfl
    clear hb
    go_wp2
    go_roundg 0
    case measure=>omega
    case rel=>exact ⟨2,by rfl,by omega,HK2⟩
   | some y =>
    obtain ⟨hyn,hyx,hyc⟩:=HC.out _ y hb
    obtain rfl:z1=(y:Int):=by rw [HZ1.out,hb];rfl
    have HQ:=hid ((refK_some M k y).2 hb)
    have hqc:=HB.out 1 (by omega)
    clear hb
    generalize refK M k 1=q at *
    have hyi:(y:Int)<(n:Int):=by omega
    have hy0:(0:Int)≤(y:Int):=by omega
    have hym:¬ (y:Int) = -1:=by omega
    have n0:=HK.out.head
    have c1:=HK.out.cellsU hx 1 _ rfl
    have f1:=HK.out.froz (x*9+1)
    have c2:=HK.out.cellsU hx 2 _ rfl
    have f2:=HK.out.froz (x*9+2)
    have c3:=HK.out.cellsU hx 3 _ rfl
    have f3:=HK.out.froz (x*9+3)
    have d1:=HK.out.cells hyn 1 _ rfl
    have d2:=HK.out.cells hyn 2 _ rfl
    have d3:=HK.out.cells hyn 3 _ rfl
    rw [HM.out y hyx q] at d1 d2 d3
    have hw:=show IntKind.i64.wrap ((q.c:Int)+((M y).c:Int))=((q.c+(M y).c:Nat):Int) by rw [IntKind.wrap_i64];omega
    have e1:=(HK.out.putU hx (j:=1) (k':={ q with lo:=min q.lo (M y).lo }) (by omega) (u:=.int .i64 (min q.lo (M y).lo)) rfl)
    have e2:=(e1.putU hx (j:=2) (k':={ q with lo:=min q.lo (M y).lo,hi:=max q.hi (M y).hi }) (by omega) (u:=.int .i64 (max q.hi (M y).hi)) rfl)
    have e3:=(e2.putU hx (j:=3) (k':={ q with lo:=min q.lo (M y).lo,hi:=max q.hi (M y).hi,c:=q.c+(M y).c }) (by omega) (u:=.int .i64 ((q.c+(M y).c:Nat):Int)) rfl).drew.drew.drew
    rw [← HQ.out] at e3
    have HE:=hid e3
    clear e1 e2 e3 HQ
    generalize q.c+(M y).c=cc at *
    go_wp2
    go_region
    all_goals (try go_wp2)
    all_goals go_region
    all_goals (try go_wp2)
    all_goals go_region
    all_goals (try go_wp2)
    go_roundg 0
    case measure=>omega
    case rel=>exact ⟨2,by rfl,by omega,HE⟩
  ·rw [HR.out] at HK
   go_wp2
   go_end0
   exact ⟨rfl,HK.out⟩
end
end Sv
end Go.Proofs.YthhlfphnokdfaaaGreat
