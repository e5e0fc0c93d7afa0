/-
  Scx
-/
import Derived.Test.YtoadkckceladgaaGreatBc11
import Derived.Test.YtoadkckceladgaaGreatBc26
import Derived.Deep.DeepCutAuto
import Derived.Deep.RegionHeld3
import Derived.RegionTactic
import Derived.BigRegion
set_option linter.unusedVariables false
set_option linter.unusedSimpArgs false
set_option maxRecDepth 100000
set_option maxHeartbeats 4000000
namespace Go.Proofs.YtoadkckceladgaaGreat
open Go.ChangeShapes Go.WideShapes Go.ChangeAt Go.RowKit Go.Shelf
open Lib (hid)
attribute [local go_sem] Oper.semAt_some
namespace Ne
theorem bxB {w w2:World} {b B:Nat} {t:TypeId} {v:Value} (h:Boxed w b t v) (hb:Below B w w2) (hB:b<B):Boxed w2 b t v:=by
 unfold Boxed at *;rw [hb.block b hB];exact h
abbrev encT (t:Tn):List Value:=[.int .i64 t.x,.int .i64 (t.p:Int),.int .i64 (t.k:Int),.int .i64 t.v]
abbrev OwnT (w:World) (B:Nat) (v:Value) (l:List Tn):Prop:=Rw.Own 47 4 encT w B v l
theorem elemT:Rw.Elem 47 27 4 32 (.agg #[.int .i64 0,.int .i64 0,.int .i64 0,.int .i64 0]):=⟨by kernel_rfl,Tryz.underlying27,rfl,by decide,by decide⟩
theorem encT_len (t:Tn):(encT t).length=4:=rfl
theorem encT_one (t:Tn):∀ u∈encT t,u.oneCell' = true:=by intro u hu;simp [encT] at hu;rcases hu with rfl | rfl | rfl | rfl <;> rfl
section
variable {w w2:World} {b7 b8 B B0:Nat} {v v2 u:Value} {p k s p2 k2 s2:Int} {G:List Int} {o:Option Addr} {m c:Nat}
theorem own_ne_run {e:TypeId} {α:Type} {kk:Nat} {enc:α→List Value} {xs:List α} (hne:e≠41) (ho:Rw.Own e kk enc w B v2 xs) (h:RunBox w b7 v p k s):v2.ownBlock≠some b7:=by
 intro hg
 obtain ⟨_,h2⟩:=ho
 rcases h2 with ⟨hv,_⟩ | ⟨g,cp,cur,hv,_,hh,_⟩
 ·rw [hv] at hg;simp [Value.ownBlock] at hg
 ·rw [hv] at hg
  obtain rfl:g=b7:=by simpa [Value.ownBlock] using hg
  unfold RunBox at h
  rw [hh] at h
  simp at h
  exact hne h.2
theorem oNb {e t:TypeId} {α:Type} {kk:Nat} {enc:α→List Value} {xs:List α} (hne:e≠t) (ho:Rw.Own e kk enc w B v2 xs) (h:Boxed w b8 t v):v2.ownBlock≠some b8:=by
 intro hg
 obtain ⟨_,h2⟩:=ho
 rcases h2 with ⟨hv,_⟩ | ⟨g,cp,cur,hv,_,hh,_⟩
 ·rw [hv] at hg;simp [Value.ownBlock] at hg
 ·rw [hv] at hg
  obtain rfl:g=b8:=by simpa [Value.ownBlock] using hg
  unfold Boxed at h
  rw [hh] at h
  simp at h
  exact hne h.2
theorem run_ne_boxed {t:TypeId} (h:RunBox w b7 v p k s) (h2:Boxed w b8 t u):b7≠b8:=by
 rintro rfl
 unfold RunBox at h
 unfold Boxed at h2
 rw [h] at h2
 simp at h2
theorem bxS {t:TypeId} (h:Boxed w b8 t u) {x:Addr} (hx:x.block≠b8) (y:Value):Boxed (w.setCell x y) b8 t u:=by
 unfold Boxed at *;rw [Below.heap_setCell _ _ _ _ hx.symm];exact h
theorem runBox_other (h:RunBox w b7 v p k s) {b2:Nat} (hne:b2≠b7) (y:Value):RunBox (w.setCell ⟨b2,0,none⟩ y) b7 v p k s:=by
 unfold RunBox at *;rw [Below.heap_setCell _ _ _ _ hne.symm];exact h
theorem sc_put1 {t:TypeId} {W0:World} (h:RunBox w b7 v p k s) (h2:Boxed w b8 t u) (ho:OwnL w B (.slice o m c) G) (hb:Below W0.heap.size W0 w) (hB:W0.heap.size≤b7) (v2:Value) (p2 k2 s2:Int) :
  RunBox ((((w.setCell ⟨b7,0,none⟩ v2).setCell ⟨b7,1,none⟩ (.int .i64 p2)).setCell ⟨b7,2,none⟩ (.int .i64 k2)).setCell ⟨b7,3,none⟩ (.int .i64 s2)) b7 v2 p2 k2 s2 ∧
  Boxed ((((w.setCell ⟨b7,0,none⟩ v2).setCell ⟨b7,1,none⟩ (.int .i64 p2)).setCell ⟨b7,2,none⟩ (.int .i64 k2)).setCell ⟨b7,3,none⟩ (.int .i64 s2)) b8 t u ∧
  OwnL ((((w.setCell ⟨b7,0,none⟩ v2).setCell ⟨b7,1,none⟩ (.int .i64 p2)).setCell ⟨b7,2,none⟩ (.int .i64 k2)).setCell ⟨b7,3,none⟩ (.int .i64 s2)) B (.slice o m c) G ∧
  Below W0.heap.size W0 ((((w.setCell ⟨b7,0,none⟩ v2).setCell ⟨b7,1,none⟩ (.int .i64 p2)).setCell ⟨b7,2,none⟩ (.int .i64 k2)).setCell ⟨b7,3,none⟩ (.int .i64 s2)):=by
 have hne:=run_ne_boxed h h2
 have hno:=own_ne_run (by decide) ho h
 exact ⟨runBox_all h,bxS (bxS (bxS (bxS h2 hne _) hne _) hne _) hne _,
  Rw.own_set (Rw.own_set (Rw.own_set (Rw.own_set ho hno _) hno _) hno _) hno _,below_all hb hB _ _ _ _⟩
theorem sc_put2 {W0:World} (h:RunBox w b7 v p k s) (h2:Boxed w b8 28 u) (ho:OwnL w B (.slice o m c) G) (hb:Below W0.heap.size W0 w) (hB:W0.heap.size≤b8) (u2:Value) :
  RunBox (w.setCell ⟨b8,0,none⟩ u2) b7 v p k s∧Boxed (w.setCell ⟨b8,0,none⟩ u2) b8 28 u2∧OwnL (w.setCell ⟨b8,0,none⟩ u2) B (.slice o m c) G∧Below W0.heap.size W0 (w.setCell ⟨b8,0,none⟩ u2):=by
 have hne:=run_ne_boxed h h2
 refine ⟨?_,h2.set u2,Rw.own_set ho (oNb (by decide) ho h2) _,hb.setCell (p:=⟨b8,0,none⟩) hB _⟩
 unfold RunBox at *;rw [Below.heap_setCell _ _ _ _ (by exact hne)];exact h
end
def Nf (W0:World) (ZR G:List Int) (br b7 b8:Option Nat) (oc:Option (Option Addr × Nat)) (W:World):Prop :=
 Below W0.heap.size W0 W∧(∀ b,br=some b→IRow W (some ⟨b,0,none⟩) ZR)∧(∀ b,b7=some b→W0.heap.size≤b∧RunBox W b (.slice none 0 0) 0 0 0)∧(∀ b,b8=some b→W0.heap.size≤b∧Boxed W b 28 (.int .i64 0)) ∧
  ∀ o c,oc=some (o,c)→OwnL W W0.heap.size (.slice o G.length c) G
section
variable {W0 W W2:World} {ZR G:List Int} {br b7 b8:Option Nat} {oc:Option (Option Addr × Nat)}
theorem nf_kept (h:Nf W0 ZR G br b7 b8 oc W) (hb:Below W.heap.size W W2):Nf W0 ZR G br b7 b8 oc W2 :=
 ⟨h.1.trans (hb.mono h.1.size),fun b e=>(h.2.1 b e).kept hb,fun b e=>⟨(h.2.2.1 b e).1,rbB (h.2.2.1 b e).2 hb (rbL (h.2.2.1 b e).2)⟩,fun b e=>⟨(h.2.2.2.1 b e).1,bxB (h.2.2.2.1 b e).2 hb (Boxed.lt (h.2.2.2.1 b e).2)⟩,fun o c e=>Rw.own_below (h.2.2.2.2 o c e) hb⟩
theorem nf_new (h:Nf W0 ZR G br b7 b8 oc W) (x:Obj):Nf W0 ZR G br b7 b8 oc (W.alloc x):=nf_kept h ((Below.refl _ _).alloc (Nat.le_refl _) x)
theorem nf_r {n:Nat} (h:Nf W0 (List.replicate n 0) G none b7 b8 oc W):∃ W2 b,W.alloc (.cells (madeCells #[.int .i64 0] n) 2)=W2∧W.heap.size=b∧Nf W0 (List.replicate n 0) G (some b) b7 b8 oc W2 :=
 ⟨_,_,rfl,rfl,(nf_new h _).1,fun b e=>by cases e;exact (lbox_made W n rfl).irow,(nf_new h _).2.2⟩
theorem nf_x (h:Nf W0 ZR G br none b8 oc W):∃ W2 b,W.alloc (.cells #[.slice none 0 0,.int .i64 0,.int .i64 0,.int .i64 0] 41)=W2∧W.heap.size=b∧Nf W0 ZR G br (some b) b8 oc W2 :=
 ⟨_,_,rfl,rfl,(nf_new h _).1,(nf_new h _).2.1,fun b e=>by cases e;exact ⟨h.1.size,runBox_at W rfl _ _ _ _⟩,(nf_new h _).2.2.2⟩
theorem nf_e (h:Nf W0 ZR G br b7 none oc W):∃ W2 b,W.alloc (.cells #[.int .i64 0] 28)=W2∧W.heap.size=b∧Nf W0 ZR G br b7 (some b) oc W2 :=
 ⟨_,_,rfl,rfl,(nf_new h _).1,(nf_new h _).2.1,(nf_new h _).2.2.1,fun b e=>by cases e;exact ⟨h.1.size,Boxed.new W _ _⟩,(nf_new h _).2.2.2.2⟩
theorem nf_c {o:Option Addr} {c:Nat} (h:Nf W0 ZR G br b7 b8 none W) (ho:OwnL W2 W.heap.size (.slice o G.length c) G) (hb:Below W.heap.size W W2):Nf W0 ZR G br b7 b8 (some (o,c)) W2 :=
 ⟨(nf_kept h hb).1,(nf_kept h hb).2.1,(nf_kept h hb).2.2.1,(nf_kept h hb).2.2.2.1,fun o c e=>by cases e;exact Rw.own_base ho h.1.size⟩
end
end Ne
namespace Rh
theorem tailed {ι:Type} {P:Program} {ops:Array Oper} {Q:Exit→Act→World→Prop} {md:Region.Mode} {S:World→Prop} {fuel:Nat} {listed:Array Bool} {a:Act} {w:World} (f:Nat) (l:Array Bool) (A:ι→Act) (V:ι→World) (I:ι→Prop)
  (hT:∀ i,I i→St P md ops Q S f l (A i) (V i)) (h:(∀ i,I i→St P md ops Q S f l (A i) (V i))→St P md ops Q S fuel listed a w):St P md ops Q S fuel listed a w:=h hT
end Rh
namespace Ne
structure Ret3 (w W:World) (b4 b5 b6:Nat) (v4 v5 v6:Value):Prop where
 r4:Boxed W b4 26 v4
 r5:Boxed W b5 27 v5
 r6:Boxed W b6 28 v6
 ne:b4≠b5∧b4≠b6∧b5≠b6
 lo:w.heap.size≤b4∧w.heap.size≤b5∧w.heap.size≤b6
 bel:Below w.heap.size w W
section
variable {w W W2:World} {b4 b5 b6:Nat} {v4 v5 v6:Value}
theorem Ret3.set4 (h:Ret3 w W b4 b5 b6 v4 v5 v6) (u:Value):Ret3 w (W.setCell ⟨b4,0,none⟩ u) b4 b5 b6 u v5 v6 :=
 ⟨h.r4.set u,bxS h.r5 h.ne.1 u,bxS h.r6 h.ne.2.1 u,h.ne,h.lo,h.bel.setCell (p:=⟨b4,0,none⟩) h.lo.1 u⟩
theorem Ret3.set5 (h:Ret3 w W b4 b5 b6 v4 v5 v6) (u:Value):Ret3 w (W.setCell ⟨b5,0,none⟩ u) b4 b5 b6 v4 u v6 :=
 ⟨bxS h.r4 h.ne.1.symm u,h.r5.set u,bxS h.r6 h.ne.2.2 u,h.ne,h.lo,h.bel.setCell (p:=⟨b5,0,none⟩) h.lo.2.1 u⟩
theorem Ret3.set6 (h:Ret3 w W b4 b5 b6 v4 v5 v6) (u:Value):Ret3 w (W.setCell ⟨b6,0,none⟩ u) b4 b5 b6 v4 v5 u :=
 ⟨bxS h.r4 h.ne.2.1.symm u,bxS h.r5 h.ne.2.2.symm u,h.r6.set u,h.ne,h.lo,h.bel.setCell (p:=⟨b6,0,none⟩) h.lo.2.2 u⟩
theorem Ret3.kept {B:Nat} (h:Ret3 w W b4 b5 b6 v4 v5 v6) (hb:Below B W W2) (h4:b4<B∧b5<B∧b6<B) (hw:w.heap.size≤B):Ret3 w W2 b4 b5 b6 v4 v5 v6 :=
 ⟨bxB h.r4 hb h4.1,bxB h.r5 hb h4.2.1,bxB h.r6 hb h4.2.2,h.ne,h.lo,h.bel.trans (hb.mono hw)⟩
end
theorem sc_cells {w W:World} {b4 b5 b6:Nat} {v4 v5 v6:Value} (h:Ret3 w W b4 b5 b6 v4 v5 v6):W.cell? ⟨b4,0,none⟩=some v4∧W.cell? ⟨b5,0,none⟩=some v5∧W.cell? ⟨b6,0,none⟩=some v6:=⟨h.r4.cell,h.r5.cell,h.r6.cell⟩
theorem sc_frozen {w W:World} {b4 b5 b6:Nat} {v4 v5 v6:Value} (h:Ret3 w W b4 b5 b6 v4 v5 v6):W.frozen? ⟨b4,0,none⟩=false∧W.frozen? ⟨b5,0,none⟩=false∧W.frozen? ⟨b6,0,none⟩=false:=⟨h.r4.frozen,h.r5.frozen,h.r6.frozen⟩
theorem results_ret3 {fn:Func} {p q r:Tmp} (hf:fn.results = #[.cell p 26,.cell q 27,.cell r 28]) (tmps:Array Value) {w W:World} {b4 b5 b6:Nat} {v4 v5 v6:Value} (h:Ret3 w W b4 b5 b6 v4 v5 v6)
  (h4:tmps.getD p undef=.pointer (some ⟨b4,0,none⟩)) (h5:tmps.getD q undef=.pointer (some ⟨b5,0,none⟩)) (h6:tmps.getD r undef=.pointer (some ⟨b6,0,none⟩)) :
  (results fn tmps).run Tryz.prog W=.ok (.tuple #[v4,v5,v6]) W:=by
 have c4:=h.r4.cell
 have c5:=h.r5.cell
 have c6:=h.r6.cell
 have h4':tmps[p]?.getD undef=.pointer (some ⟨b4,0,none⟩):=by simpa using h4
 have h5':tmps[q]?.getD undef=.pointer (some ⟨b5,0,none⟩):=by simpa using h5
 have h6':tmps[r]?.getD undef=.pointer (some ⟨b6,0,none⟩):=by simpa using h6
 simp [results,hf,h4',h5',h6',asAddr,loadVar]
 go_simp
def ScI (n:Net) (W0:World) (f0:List Int) (b7 b8 b9:Nat) (xs:List Int) (W:World):Prop :=
 ∃ (fl:List Int) (tl:List Tn) (o ot:Option Addr) (c ct:Nat) (p k st:Int),Sqs n xs f0 fl tl∧RunBox W b7 (.slice o n.l.length c) p k st∧OwnL W W0.heap.size (.slice o n.l.length c) fl∧Boxed W b8 28 (.int .i64 0) ∧
  Boxed W b9 27 (.slice ot tl.length ct)∧OwnT W W0.heap.size (.slice ot tl.length ct) tl∧Below W0.heap.size W0 W
theorem cells_turn {A C:World} {row:Option Nat} {B:Nat} (hg:A.grownBy C row) (hr:∀ r,row=some r→B≤r∧∃ o:Obj,A.heap[r]? = some o∧o.isCells=false) {b:Nat} {cs:Array Value} {t:TypeId} {fr:Nat × Nat} (h:A.heap[b]? = some (.cells cs t fr)):C.heap[b]? = A.heap[b]? :=
 hg.block b (Rw.lt_of_heap h) fun e=>by
  obtain ⟨_,o,ho,hc⟩:=hr b e.symm
  rw [h] at ho;cases ho;cases hc
theorem own_turn {α:Type} {e:TypeId} {kk:Nat} {enc:α→List Value} {xs:List α} {A C:World} {row:Option Nat} {B B2:Nat} {v:Value} (hg:A.grownBy C row) (hr:∀ r,row=some r→B≤r∧∃ o:Obj,A.heap[r]? = some o∧o.isCells=false)
  (h:Rw.Own e kk enc A B2 v xs):Rw.Own e kk enc C B2 v xs:=owM h fun g hgv=>by
 obtain ⟨_,h2⟩:=h
 rcases h2 with ⟨hv,_⟩ | ⟨g2,cp,cur,hv,_,hh,_⟩
 ·rw [hv] at hgv;simp [Value.ownBlock] at hgv
 ·rw [hv] at hgv
  obtain rfl:g2=g:=by simpa [Value.ownBlock] using hgv
  exact cells_turn hg hr hh
theorem sci_own {n:Net} {W0:World} {f0:List Int} {b7 b8 b9 B:Nat} (hB:W0.heap.size≤B):OwnFrom B (fun (pre:List Rm) W=>ScI n W0 f0 b7 b8 b9 (pre.map (·.1)) W):=by
 rintro s A C row ⟨fl,tl,o,ot,c,ct,p,k,st,h1,h2,h3,h4,h5,h6,h7⟩ hg hr
 refine ⟨fl,tl,o,ot,c,ct,p,k,st,h1,?_,own_turn hg hr h3,?_,?_,own_turn hg hr h6,h7.grown hg h7.size fun k e=>by have:=(hr k e).1;omega⟩
 ·unfold RunBox at *;rw [cells_turn hg hr h2];exact h2
 ·unfold Boxed at *;rw [cells_turn hg hr h4];exact h4
 ·unfold Boxed at *;rw [cells_turn hg hr h5];exact h5
theorem keeps_below {W W':World} (h:Below W.heap.size W W'):KeepsOthers W W':=⟨h.size,fun k o ho _=>by rw [h.block k (Rw.lt_of_heap ho)];exact ho⟩
theorem keeps_own {α:Type} {e:TypeId} {kk:Nat} {enc:α→List Value} {xs:List α} {W W':World} {B:Nat} {v:Value} (ho:Rw.Own e kk enc W B v xs) (hg:W.grownBy W' v.ownBlock):KeepsOthers W W' :=
 KeepsOthers.of_grownBy hg fun j o ej hj=>by
  obtain ⟨_,h2⟩:=ho
  rcases h2 with ⟨hv,_⟩ | ⟨g2,cp,cur,hv,_,hh,_⟩
  ·rw [hv] at ej;simp [Value.ownBlock] at ej
  ·rw [hv] at ej
   obtain rfl:g2=j:=by simpa [Value.ownBlock] using ej
   rw [hh] at hj;cases hj;rfl
theorem trow_at1 (w:World) (t:Tn):Rw.Row 4 encT (w.alloc (.cells #[.int .i64 t.x,.int .i64 (t.p:Int),.int .i64 (t.k:Int),.int .i64 t.v] 47)) (some ⟨w.heap.size,0,none⟩) [t]:=by
 refine .inr ⟨w.heap.size,0,rfl,by simp,?_⟩
 intro i y hi j v hv
 match i,hi with
 | 0,hi =>
  simp at hi;subst hi
  match j,hv with
  | 0,hv=>simp [encT] at hv;subst hv;exact World.cell?_alloc_new w _ _ 0
  | 1,hv=>simp [encT] at hv;subst hv;exact World.cell?_alloc_new w _ _ 1
  | 2,hv=>simp [encT] at hv;subst hv;exact World.cell?_alloc_new w _ _ 2
  | 3,hv=>simp [encT] at hv;subst hv;exact World.cell?_alloc_new w _ _ 3
  | (j+4),hv=>simp [encT] at hv
 | (i+1),hi=>simp at hi
section
variable {w:World} {b7 b8 b9 B:Nat} {v u y:Value} {p k s:Int} {tl:List Tn}
theorem sc_put3 (h:RunBox w b7 v p k s) (h2:Boxed w b8 28 u) (h9:Boxed w b9 27 y) (ht:OwnT w B y tl) (v2 u2:Value) (p2 k2 s2:Int) :
  Boxed (((((w.setCell ⟨b7,0,none⟩ v2).setCell ⟨b7,1,none⟩ (.int .i64 p2)).setCell ⟨b7,2,none⟩ (.int .i64 k2)).setCell ⟨b7,3,none⟩ (.int .i64 s2)).setCell ⟨b8,0,none⟩ u2) b9 27 y ∧
  OwnT (((((w.setCell ⟨b7,0,none⟩ v2).setCell ⟨b7,1,none⟩ (.int .i64 p2)).setCell ⟨b7,2,none⟩ (.int .i64 k2)).setCell ⟨b7,3,none⟩ (.int .i64 s2)).setCell ⟨b8,0,none⟩ u2) B y tl:=by
 have h1:=run_ne_boxed h h9
 have h3:b8≠b9:=by
  rintro rfl
  unfold Boxed at h2 h9
  rw [h2] at h9
  simp at h9
 have hno:=own_ne_run (by decide) ht h
 have hn8:=oNb (by decide) ht h2
 exact ⟨bxS (bxS (bxS (bxS (bxS h9 h1 _) h1 _) h1 _) h1 _) h3 _,Rw.own_set (Rw.own_set (Rw.own_set (Rw.own_set (Rw.own_set ht hno _) hno _) hno _) hno _) hn8 _⟩
end
section
variable {w w' W0:World} {bn b7 b8 b9 B m c:Nat} {v u y z v9 vt:Value} {p k s x1 x2 x3:Int} {tl:List Tn} {G:List Int} {o:Option Addr}
theorem sc_grow (hn:NetBox w bn x1 x2 x3 y) (hbn:bn<W0.heap.size) (h:RunBox w b7 v p k s) (h8:Boxed w b8 28 u) (h9:Boxed w b9 27 v9) (ho:OwnL w B (.slice o m c) G) (ht:OwnT w W0.heap.size vt tl) (hb:Below W0.heap.size W0 w) (hg:w.grownBy w' vt.ownBlock) :
  NetBox w' bn x1 x2 x3 y∧RunBox w' b7 v p k s∧Boxed w' b8 28 u∧Boxed w' b9 27 v9∧OwnL w' B (.slice o m c) G∧Below W0.heap.size W0 w':=by
 have key:∀ {b:Nat},b<w.heap.size→vt.ownBlock≠some b→w'.heap[b]? = w.heap[b]?:=fun hl hne=>hg.block _ hl fun e=>hne e.symm
 refine ⟨?_,?_,?_,?_,owM ho fun g hgo=>key (Rw.owL ho g hgo).2 fun e=>own_types (by decide) ho ht g hgo e,hb.grown hg hb.size fun b e=>Rw.owK ht b e⟩
 ·unfold NetBox at *;rw [key (netBox_lt hn) fun e=>by have:=Rw.owK ht _ e;omega];exact hn
 ·unfold RunBox at *;rw [key (rbL h) (own_ne_run (by decide) ht h)];exact h
 ·unfold Boxed at *;rw [key (Boxed.lt h8) (oNb (by decide) ht h8)];exact h8
 ·unfold Boxed at *;rw [key (Boxed.lt h9) (oNb (by decide) ht h9)];exact h9
theorem box_ne (h8:Boxed w b8 28 u) (h9:Boxed w b9 27 v9):b8≠b9:=by
 rintro rfl
 unfold Boxed at h8 h9
 rw [h8] at h9
 simp at h9
theorem sc_last {n:Net} {f0:List Int} {xs:List Int} (hs:Sqs n xs f0 G tl) (h:RunBox w b7 (.slice o n.l.length c) p k s) (h8:Boxed w b8 28 (.int .i64 0)) (h9:Boxed w b9 27 v9) (ho:OwnL w W0.heap.size (.slice o n.l.length c) G) {ot:Option Addr} {ct:Nat} (ht:OwnT w W0.heap.size (.slice ot tl.length ct) tl) (hb:Below W0.heap.size W0 w) (hB:W0.heap.size≤b9) :
  ScI n W0 f0 b7 b8 b9 xs (w.setCell ⟨b9,0,none⟩ (.slice ot tl.length ct)):=by
 refine ⟨G,tl,o,ot,c,ct,p,k,s,hs,?_,Rw.own_set ho (oNb (by decide) ho h9) _,bxS h8 (x:=⟨b9,0,none⟩) (box_ne h8 h9).symm _,h9.set _,Rw.own_set ht (oNb (by decide) ht h9) _,hb.setCell (p:=⟨b9,0,none⟩) hB _⟩
 have hne:=run_ne_boxed h h9
 unfold RunBox at *;rw [Below.heap_setCell _ _ _ _ hne];exact h
end
def scE (n:Net) (a:Int):Int:=rnE n (List.replicate n.l.length 0) 9223372036854775807 a
def scG (n:Net) (a:Int) (h:List Int):List Int:=if scE n a≠0 then [] else h
def scT (n:Net) (a:Int) (ts:List Tn):List Tn:=if scE n a≠0 then [] else ts
theorem sc_bad {n:Net} {a:Int} (e:scE n a≠0) (h:List Int) (ts:List Tn):scG n a h=[]∧scT n a ts=[]:=by
 unfold scG scT;rw [if_pos e,if_pos e];exact ⟨rfl,rfl⟩
theorem sc_ok {n:Net} {a:Int} (e:scE n a=0) (h:List Int) (ts:List Tn):scG n a h=h∧scT n a ts=ts:=by
 unfold scG scT;rw [if_neg (by simpa using e),if_neg (by simpa using e)];exact ⟨rfl,rfl⟩
theorem sc_eng {n:Net} {a:Int} (e:scE n a=0):checkN n=0∧∃ q,a=engC q:=by
 unfold scE rnE at e
 by_cases c0:reE n (List.replicate n.l.length 0) 9223372036854775807=0
 ·rw [if_neg (by simpa using c0)] at e
  by_cases c1:a=112∨a=116
  ·exact ⟨(okf_of (reE_ok c0).1).1,by
    rcases c1 with c1 | c1
    ·exact ⟨false,c1⟩
    ·exact ⟨true,c1⟩⟩
  ·rw [if_neg c1] at e;exact absurd e (by decide)
 ·rw [if_pos c0] at e;exact absurd e c0
section
variable (n:Net) (ao:Option Addr) (cap:Nat) (a:Int) (w:World) (hr:ARow w ao n.l) (hl:n.l.length≤1000000) (hok:∀ a∈n.l,in64 a.cap) (h:List Int) (ts:List Tn) (K:Nat) (hS:checkN n=0→Sqs n (rms K) (List.replicate n.l.length 0) h ts) (hK:staN n.l=fstR K) (hK63:K≤63)
include hr hl hok hS hK hK63
set_option maxHeartbeats 8000000 in
theorem smax_any:Calls Tryz.prog 10 #[encN n ao cap,.int .u8 a] w fun e w'=>∃ o c ot ct,e=.returned (.tuple #[.slice o (scG n a h).length c,.slice ot (scT n a ts).length ct,.int .i64 (scE n a)])∧OwnL w' w.heap.size (.slice o (scG n a h).length c) (scG n a h)∧OwnT w' w.heap.size (.slice ot (scT n a ts).length ct) (scT n a ts)∧Below w.heap.size w w':=by
 have HBAD:=hid (fun e=>sc_bad (n:=n) (a:=a) e h ts)
 have HOKK:=hid (fun e=>sc_ok (n:=n) (a:=a) e h ts)
 have HENG:=hid (fun e=>sc_eng (n:=n) (a:=a) e)
 have HSQ:=hid hS
 have DST:=hid fun w' h1=>dstarts_any n ao cap w' h1 hl hok
 have RMS:=hid fun w'=>rooms_any (fstR K) w'
 rw [hK] at DST
 have HK63:=hid hK63
 clear hS hK hK63
 have hmk:=make_l n.l.length hl
 have HP:Hid (reE n (List.replicate n.l.length 0) 9223372036854775807=0→Phs n 9223372036854775807 (List.replicate n.l.length 0) (List.replicate n.l.length 0) 0 0):=hid (fun h=>phs_max (rgO (okf_of (reE_ok h).1).1))
 have FC:=hid fun w' (br:Nat) (h1:ARow w' ao n.l) (h2:IRow w' (some ⟨br,0,none⟩) (List.replicate n.l.length 0))=>from_any n ao cap (some ⟨br,0,none⟩) n.l.length (List.replicate n.l.length 0) (List.replicate n.l.length 0) 9223372036854775807 a 0 0 w' h1 h2 hl hok HP.out
 rw [List.length_replicate] at FC
 have HG:=hid (show scE n a=0→rnG n (List.replicate n.l.length 0) 9223372036854775807 a (List.replicate n.l.length 0)=List.replicate n.l.length 0 from fun h=>(rn_ok h 0).1)
 have HR:=hid hr
 clear hr HP hok
 have HN0:=nbN w n.n n.s n.t (.slice ao n.l.length cap)
 obtain ⟨W1,hW1⟩:∃ x,x=w.alloc (.cells #[.int .i64 n.n,.int .i64 n.s,.int .i64 n.t,.slice ao n.l.length cap] 24):=⟨_,rfl⟩
 have s1:W1.heap.size=w.heap.size+1:=by rw [hW1];show (w.heap.push _).size=_;simp
 rw [← hW1] at HN0
 have HE0:=Boxed.new W1 5 (.int .u8 a)
 have hbw:Below w.heap.size w (W1.alloc (.cells #[.int .u8 a] 5)):=by
  rw [hW1];exact ((Below.refl _ w).alloc (Nat.le_refl _) _).alloc (by simp) _
 obtain ⟨W2,hW2⟩:∃ x,x=W1.alloc (.cells #[.int .u8 a] 5):=⟨_,rfl⟩
 have s2:W2.heap.size=w.heap.size+2:=by rw [hW2];show (W1.heap.push _).size=_;simp [s1]
 have b2:Below W1.heap.size W1 W2:=by rw [hW2];exact (Below.refl _ W1).alloc (Nat.le_refl _) _
 rw [← hW2] at HE0 hbw
 have HA0:=Boxed.new W2 26 (.slice none 0 0)
 obtain ⟨W3,hW3⟩:∃ x,x=W2.alloc (.cells #[.slice none 0 0] 26):=⟨_,rfl⟩
 have s3:W3.heap.size=w.heap.size+3:=by rw [hW3];show (W2.heap.push _).size=_;simp [s2]
 have b3:Below W2.heap.size W2 W3:=by rw [hW3];exact (Below.refl _ W2).alloc (Nat.le_refl _) _
 rw [← hW3] at HA0
 have HT0:=Boxed.new W3 27 (.slice none 0 0)
 obtain ⟨W4,hW4⟩:∃ x,x=W3.alloc (.cells #[.slice none 0 0] 27):=⟨_,rfl⟩
 have s4:W4.heap.size=w.heap.size+4:=by rw [hW4];show (W3.heap.push _).size=_;simp [s3]
 have b4:Below W3.heap.size W3 W4:=by rw [hW4];exact (Below.refl _ W3).alloc (Nat.le_refl _) _
 rw [← hW4] at HT0
 have HC0:=Boxed.new W4 28 (.int .i64 0)
 obtain ⟨W0,hW0⟩:∃ x,x=W4.alloc (.cells #[.int .i64 0] 28):=⟨_,rfl⟩
 have s0:W0.heap.size=w.heap.size+5:=by rw [hW0];show (W4.heap.push _).size=_;simp [s4]
 have b5:Below W4.heap.size W4 W0:=by rw [hW0];exact (Below.refl _ W4).alloc (Nat.le_refl _) _
 rw [← hW0] at HC0
 obtain ⟨bn,hbn⟩:∃ b,b=w.heap.size:=⟨_,rfl⟩
 rw [s1] at HE0
 rw [s2] at HA0
 rw [s3] at HT0
 rw [s4] at HC0
 have b35:=b4.trans (b5.mono b4.size)
 have b25:=b3.trans (b35.mono b3.size)
 have b15:=b2.trans (b25.mono b2.size)
 have HBW:=hid (hbw.trans (b25.mono hbw.size))
 have HND:=hid (nbB HN0 b15 (by omega))
 have HED:=hid (bxB HE0 b25 (by omega))
 have HAD:=hid (bxB HA0 b35 (by omega))
 have HTD:=hid (bxB HT0 b5 (by omega))
 have HCD:=hid HC0
 have HS0:=hid (show W0.heap.size=bn+5 by omega)
 have HWQ:=hid (show ((((w.alloc (.cells #[.int .i64 n.n,.int .i64 n.s,.int .i64 n.t,.slice ao n.l.length cap] 24)).alloc (.cells #[.int .u8 a] 5)).alloc (.cells #[.slice none 0 0] 26)).alloc (.cells #[.slice none 0 0] 27)).alloc (.cells #[.int .i64 0] 28)=W0 by rw [hW0,hW4,hW3,hW2,hW1])
 clear hbw b2 b3 b4 b5 b15 b25 b35 HN0 HE0 HA0 HT0 HC0 s0 s1 s2 s3 s4 hW0 hW4 hW3 hW2 hW1
 refine (callsIn_wide (n:=3)).1 ?_
 refine callsIn_of_wp_marks Tryz.func10 rfl trivial ?_ rfl
 simp only [Tryz.ntmps10,List.size_toArray,List.length_cons,List.length_nil,Nat.reduceAdd,Nat.reduceSub,Array.replicate_succ,Array.replicate_zero,List.push_toArray,List.append_toArray,List.nil_append,List.cons_append]
 generalize StP n (List.replicate n.l.length 0) 9223372036854775807 a 0=SP at *
 generalize rnG n (List.replicate n.l.length 0) 9223372036854775807 a (List.replicate n.l.length 0)=G at *
 generalize rnN n (List.replicate n.l.length 0) 9223372036854775807 a 0=PP at *
 rw [show rnE n (List.replicate n.l.length 0) 9223372036854775807 a=scE n a from rfl] at FC
 obtain ⟨E,hEE⟩:∃ E,E=scE n a:=⟨_,rfl⟩
 rw [← hEE] at FC HG HBAD HOKK HENG ⊢
 clear hEE
 obtain ⟨ZR,hZR⟩:∃ z,z=List.replicate n.l.length (0:Int):=⟨_,rfl⟩
 have HZR:=hid hZR
 rw [← hZR] at FC HG
 clear hZR
 refine wpIn_wide.2 ?_
 go_upto_region 1 with fail
 rw [HWQ.out]
 rw [← hbn] at HND HED HAD HTD HCD ⊢
 clear HWQ
 obtain ⟨b6,h6⟩:∃ b,b=bn+1+1+1+1:=⟨_,rfl⟩
 obtain ⟨b5,h5⟩:∃ b,b=bn+1+1+1:=⟨_,rfl⟩
 obtain ⟨b4,h4⟩:∃ b,b=bn+1+1:=⟨_,rfl⟩
 obtain ⟨be,h3⟩:∃ b,b=bn+1:=⟨_,rfl⟩
 rw [← h6,← h5,← h4,← h3]
 rw [show bn+4=b6 by omega] at HCD
 rw [show bn+3=b5 by omega] at HTD
 rw [show bn+2=b4 by omega] at HAD
 rw [show bn+1=be by omega] at HED
 have HNE:=hid (show bn<W0.heap.size∧be<W0.heap.size∧b4<W0.heap.size∧b5<W0.heap.size∧b6<W0.heap.size∧(b4≠b5∧b4≠b6∧b5≠b6)∧w.heap.size≤b4∧w.heap.size≤b5∧w.heap.size≤b6 by have:=HS0.out;have:=HBW.out.size;omega)
 clear h6 h5 h4 h3 HS0 hbn
 have SKB:=hid (show ∀ W,Below W0.heap.size W0 W→(fun w'=>w'.cell? ⟨bn,0,none⟩=some (.int .i64 n.n)∧w'.cell? ⟨bn,1,none⟩=some (.int .i64 n.s)∧w'.cell? ⟨bn,2,none⟩=some (.int .i64 n.t)∧w'.cell? ⟨bn,3,none⟩=some (.slice ao n.l.length cap)∧w'.cell? ⟨be,0,none⟩=some (.int .u8 a)) W from fun W hb=>by
  obtain ⟨n0,n1,n2,n3⟩:=nbC (nbB HND.out hb HNE.out.1)
  exact ⟨n0,n1,n2,n3,(bxB HED.out hb HNE.out.2.1).cell⟩)
 go_cut [7,8] from 11 to 20 (fun s7 s8 wc=>∃ (b7 b8:Nat) (o:Option Addr) (c:Nat) (st:Int),s7=.pointer (some ⟨b7,0,none⟩)∧s8=.pointer (some ⟨b8,0,none⟩)∧Hid (W0.heap.size≤b7)∧Hid (W0.heap.size≤b8)∧Hid (RunBox wc b7 (.slice o G.length c) PP PP st)∧Hid (Boxed wc b8 28 (.int .i64 E))∧Hid (OwnL wc W0.heap.size (.slice o G.length c) G)∧Hid (Below W0.heap.size W0 wc))
 case first =>
  refine wp_region_noPanic ?_
  refine Rh.start (S:=(fun w'=>w'.cell? ⟨bn,0,none⟩=some (.int .i64 n.n)∧w'.cell? ⟨bn,1,none⟩=some (.int .i64 n.s)∧w'.cell? ⟨bn,2,none⟩=some (.int .i64 n.t)∧w'.cell? ⟨bn,3,none⟩=some (.slice ao n.l.length cap)∧w'.cell? ⟨be,0,none⟩=some (.int .u8 a))) (by kernel_rfl) ?_
  have ND:Nf W0 ZR G none none none none W0.drew:=⟨bDr (Below.refl _ _),fun _ e=>(by cases e),fun _ e=>(by cases e),fun _ e=>(by cases e),fun _ _ e=>(by cases e)⟩
  generalize W0.drew=WD at *
  have HRK:=hid (fun W (hb:Below W0.heap.size W0 W)=>HR.out.kept (HBW.out.trans (hb.mono HBW.out.size)))
  obtain rfl:=HZR.out
  refine Rh.tailed (ι:=World × Nat × Nat × Nat × Option Addr × Nat × Int) 2 #[true,true,true,true,true,true,true,true,true,true,true,true,false,false] (fun i=>{ tmps:=#[encN n ao cap,.int .u8 a,.pointer (some ⟨bn,0,none⟩),.pointer (some ⟨be,0,none⟩),.pointer (some ⟨b4,0,none⟩),.pointer (some ⟨b5,0,none⟩),.pointer (some ⟨b6,0,none⟩),.pointer (some ⟨i.2.2.1,0,none⟩),.pointer (some ⟨i.2.2.2.1,0,none⟩),undef,undef,.tuple #[.agg #[.slice i.2.2.2.2.1 G.length i.2.2.2.2.2.1,.int .i64 PP,.int .i64 PP,.int .i64 i.2.2.2.2.2.2],.int .i64 E],.agg #[.int .i64 n.n,.int .i64 n.s,.int .i64 n.t,.slice ao n.l.length cap],.pointer (some ⟨bn,3,none⟩),.slice ao n.l.length cap,.int .i64 (n.l.length:Int),.slice (some ⟨i.2.1,0,none⟩) n.l.length n.l.length,.int .u8 a,.tuple #[.agg #[.slice i.2.2.2.2.1 G.length i.2.2.2.2.2.1,.int .i64 PP,.int .i64 PP,.int .i64 i.2.2.2.2.2.2],.int .i64 E],.agg #[.slice i.2.2.2.2.1 G.length i.2.2.2.2.2.1,.int .i64 PP,.int .i64 PP,.int .i64 i.2.2.2.2.2.2],.int .i64 E,undef,undef,undef,undef,undef,undef,undef,undef,undef,undef,undef,undef,undef,undef,undef,undef,undef,undef,undef,undef,undef,undef,undef,undef,undef,undef,undef,undef,undef,undef,undef,undef,undef,undef,undef],defers:=[] }) (fun i=>i.1) (fun i=>Nf W0 (List.replicate n.l.length 0) G (some i.2.1) (some i.2.2.1) (some i.2.2.2.1) (some (i.2.2.2.2.1,i.2.2.2.2.2.1)) i.1) ?_ fun TAIL=>?_
  ·rintro ⟨W,br,b7,b8,o,c,st⟩ NN
   dsimp only at NN ⊢
   obtain ⟨Gb7,HX⟩:=NN.2.2.1 b7 rfl
   obtain ⟨Gb8,HE⟩:=NN.2.2.2.1 b8 rfl
   obtain ⟨y0,y1,y2,y3⟩:=rbC HX
   have f0:=rbF HX 0
   have f1:=rbF HX 1
   have f2:=rbF HX 2
   have f3:=rbF HX 3
   obtain ⟨z1,z2,z3,z4⟩:=sc_put1 HX HE (NN.2.2.2.2 o c rfl) NN.1 Gb7 (.slice o G.length c) PP PP st
   have HXz:=hid z1
   have HEz:=hid z2
   have HOz:=hid z3
   have HBz:=hid z4
   replace Gb7:=hid Gb7
   replace Gb8:=hid Gb8
   clear z1 z2 z3 z4 HX HE
   refine Rh.step (i:=12) (by kernel_rfl) rfl fun K' hK'=>?_
   have HK:=hid hK'
   clear hK'
   go_simp
   generalize ((((W.setCell ⟨b7,0,none⟩ (.slice o G.length c)).setCell ⟨b7,1,none⟩ (.int .i64 PP)).setCell ⟨b7,2,none⟩ (.int .i64 PP)).setCell ⟨b7,3,none⟩ (.int .i64 st))=W12 at *
   have e0:=HEz.out.cell
   have g0:=HEz.out.frozen
   clear y0 y1 y2 y3 f0 f1 f2 f3
   refine HK.out _ _ ⟨(SKB.out _ HBz.out),?_⟩
   clear HK K'
   try simp only [Act.put,Rh.q1,Rh.q2,Rh.q3]
   refine Rh.step (i:=13) (by kernel_rfl) rfl fun K' hK'=>?_
   have HK:=hid hK'
   clear hK'
   go_simp
   obtain ⟨z1,z2,z3,z4⟩:=sc_put2 HXz.out HEz.out HOz.out HBz.out Gb8.out (.int .i64 E)
   clear e0 g0
   generalize (W12.setCell ⟨b8,0,none⟩ (.int .i64 E))=W13 at *
   refine HK.out _ _ ⟨(SKB.out _ z4),?_⟩
   clear HK K'
   try simp only [Act.put,Rh.q1,Rh.q2,Rh.q3]
   refine Rh.done (by kernel_rfl) ?_ _
   refine NoPanic.normal ?_
   go_wp2_with fail
   go_meet
   case rel=>exact ⟨b7,b8,o,c,st,rfl,rfl,Gb7,Gb8,hid z1,hid z2,hid z3,hid z4⟩
  refine Rh.tk (some 12) (i:=0) (v:=?_) rfl (Or.inl ⟨by rfl,?_⟩) (SKB.out _ ND.1) ?_
  rotate_left
  ·intro w hSw
   go_simp
   try with_reducible rfl
  try simp only [Act.put,Rh.q1,Rh.q2,Rh.q3]
  refine Rh.tk (some 13) (i:=1) (v:=?_) rfl (Or.inl ⟨by rfl,?_⟩) (SKB.out _ ND.1) ?_
  rotate_left
  ·intro w hSw
   go_simp
   try with_reducible rfl
  try simp only [Act.put,Rh.q1,Rh.q2,Rh.q3]
  refine Rh.tk (some 14) (i:=2) (v:=?_) rfl (Or.inl ⟨by rfl,?_⟩) (SKB.out _ ND.1) ?_
  rotate_left
  ·intro w hSw
   go_simp
   try with_reducible rfl
  try simp only [Act.put,Rh.q1,Rh.q2,Rh.q3]
  refine Rh.tk (some 15) (i:=3) (v:=?_) rfl (Or.inl ⟨by rfl,?_⟩) (SKB.out _ ND.1) ?_
  rotate_left
  ·intro w hSw
   go_simp
   try with_reducible rfl
  try simp only [Act.put,Rh.q1,Rh.q2,Rh.q3]
  refine Rh.tk (some 17) (i:=5) (v:=?_) rfl (Or.inl ⟨by rfl,?_⟩) (SKB.out _ ND.1) ?_
  rotate_left
  ·intro w hSw
   go_simp
   try with_reducible rfl
  try simp only [Act.put,Rh.q1,Rh.q2,Rh.q3]
  refine Rh.three (i:=4) (j:=10) (k:=11) (by kernel_rfl) rfl rfl rfl (fun K' hK'=>?_) (fun K' hK'=>?_) (fun K' hK'=>?_)
  ·have HK:=hid hK'
   clear hK'
   go_simp
   obtain ⟨Wr,br,e1,e2,Nr⟩:=nf_r ND
   rw [e1,e2]
   clear e1 e2
   refine HK.out _ _ ⟨(SKB.out _ Nr.1),?_⟩
   clear HK K'
   try simp only [Act.put,Rh.q1,Rh.q2,Rh.q3]
   refine Rh.three (i:=6) (j:=10) (k:=11) (by kernel_rfl) rfl rfl rfl (fun K' hK'=>?_) (fun K' hK'=>?_) (fun K' hK'=>?_)
   ·have HK:=hid hK'
    clear hK'
    go_simp
    refine (FC.out Wr br (HRK.out _ Nr.1) (Nr.2.1 br rfl)).mono ?_
    rintro e Wrc ⟨o,c,st,rfl,ho,_,hb⟩
    have Nrc:=nf_c Nr ho hb
    clear ho hb
    refine HK.out _ _ ⟨(SKB.out _ Nrc.1),?_⟩
    clear HK K'
    try simp only [Act.put,Rh.q1,Rh.q2,Rh.q3]
    refine Rh.tk (some 11) (i:=7) (v:=?_) rfl (Or.inl ⟨by rfl,?_⟩) (SKB.out _ Nrc.1) ?_
    rotate_left
    ·intro w hSw
     go_simp
     try with_reducible rfl
    try simp only [Act.put,Rh.q1,Rh.q2,Rh.q3]
    refine Rh.tk (some 19) (i:=8) (v:=?_) rfl (Or.inl ⟨by rfl,?_⟩) (SKB.out _ Nrc.1) ?_
    rotate_left
    ·intro w hSw
     go_simp
     try with_reducible rfl
    try simp only [Act.put,Rh.q1,Rh.q2,Rh.q3]
    refine Rh.tk (some 20) (i:=9) (v:=?_) rfl (Or.inl ⟨by rfl,?_⟩) (SKB.out _ Nrc.1) ?_
    rotate_left
    ·intro w hSw
     go_simp
     try with_reducible rfl
    try simp only [Act.put,Rh.q1,Rh.q2,Rh.q3]
    refine Rh.two (i:=10) (j:=11) (by kernel_rfl) rfl rfl (fun K' hK'=>?_) (fun K' hK'=>?_)
    ·have HK:=hid hK'
     clear hK'
     go_simp
     obtain ⟨Wrcx,b7,e1,e2,Nrcx⟩:=nf_x Nrc
     rw [e1,e2]
     clear e1 e2
     refine HK.out _ _ ⟨(SKB.out _ Nrcx.1),?_⟩
     clear HK K'
     try simp only [Act.put,Rh.q1,Rh.q2,Rh.q3]
     refine Rh.step (i:=11) (by kernel_rfl) rfl fun K' hK'=>?_
     have HK:=hid hK'
     clear hK'
     go_simp
     obtain ⟨Wrcxe,b8,e1,e2,Nrcxe⟩:=nf_e Nrcx
     rw [e1,e2]
     clear e1 e2
     refine HK.out _ _ ⟨(SKB.out _ Nrcxe.1),?_⟩
     clear HK K'
     try simp only [Act.put,Rh.q1,Rh.q2,Rh.q3]
     exact TAIL (Wrcxe,br,b7,b8,o,c,st) Nrcxe
    ·have HK:=hid hK'
     clear hK'
     go_simp
     obtain ⟨Wrce,b8,e1,e2,Nrce⟩:=nf_e Nrc
     rw [e1,e2]
     clear e1 e2
     refine HK.out _ _ ⟨(SKB.out _ Nrce.1),?_⟩
     clear HK K'
     try simp only [Act.put,Rh.q1,Rh.q2,Rh.q3]
     refine Rh.step (i:=10) (by kernel_rfl) rfl fun K' hK'=>?_
     have HK:=hid hK'
     clear hK'
     go_simp
     obtain ⟨Wrcex,b7,e1,e2,Nrcex⟩:=nf_x Nrce
     rw [e1,e2]
     clear e1 e2
     refine HK.out _ _ ⟨(SKB.out _ Nrcex.1),?_⟩
     clear HK K'
     try simp only [Act.put,Rh.q1,Rh.q2,Rh.q3]
     exact TAIL (Wrcex,br,b7,b8,o,c,st) Nrcex
   ·have HK:=hid hK'
    clear hK'
    go_simp
    obtain ⟨Wrx,b7,e1,e2,Nrx⟩:=nf_x Nr
    rw [e1,e2]
    clear e1 e2
    refine HK.out _ _ ⟨(SKB.out _ Nrx.1),?_⟩
    clear HK K'
    try simp only [Act.put,Rh.q1,Rh.q2,Rh.q3]
    refine Rh.two (i:=6) (j:=11) (by kernel_rfl) rfl rfl (fun K' hK'=>?_) (fun K' hK'=>?_)
    ·have HK:=hid hK'
     clear hK'
     go_simp
     refine (FC.out Wrx br (HRK.out _ Nrx.1) (Nrx.2.1 br rfl)).mono ?_
     rintro e Wrxc ⟨o,c,st,rfl,ho,_,hb⟩
     have Nrxc:=nf_c Nrx ho hb
     clear ho hb
     refine HK.out _ _ ⟨(SKB.out _ Nrxc.1),?_⟩
     clear HK K'
     try simp only [Act.put,Rh.q1,Rh.q2,Rh.q3]
     refine Rh.tk (some 11) (i:=7) (v:=?_) rfl (Or.inl ⟨by rfl,?_⟩) (SKB.out _ Nrxc.1) ?_
     rotate_left
     ·intro w hSw
      go_simp
      try with_reducible rfl
     try simp only [Act.put,Rh.q1,Rh.q2,Rh.q3]
     refine Rh.tk (some 19) (i:=8) (v:=?_) rfl (Or.inl ⟨by rfl,?_⟩) (SKB.out _ Nrxc.1) ?_
     rotate_left
     ·intro w hSw
      go_simp
      try with_reducible rfl
     try simp only [Act.put,Rh.q1,Rh.q2,Rh.q3]
     refine Rh.tk (some 20) (i:=9) (v:=?_) rfl (Or.inl ⟨by rfl,?_⟩) (SKB.out _ Nrxc.1) ?_
     rotate_left
     ·intro w hSw
      go_simp
      try with_reducible rfl
     try simp only [Act.put,Rh.q1,Rh.q2,Rh.q3]
     refine Rh.step (i:=11) (by kernel_rfl) rfl fun K' hK'=>?_
     have HK:=hid hK'
     clear hK'
     go_simp
     obtain ⟨Wrxce,b8,e1,e2,Nrxce⟩:=nf_e Nrxc
     rw [e1,e2]
     clear e1 e2
     refine HK.out _ _ ⟨(SKB.out _ Nrxce.1),?_⟩
     clear HK K'
     try simp only [Act.put,Rh.q1,Rh.q2,Rh.q3]
     exact TAIL (Wrxce,br,b7,b8,o,c,st) Nrxce
    ·have HK:=hid hK'
     clear hK'
     go_simp
     obtain ⟨Wrxe,b8,e1,e2,Nrxe⟩:=nf_e Nrx
     rw [e1,e2]
     clear e1 e2
     refine HK.out _ _ ⟨(SKB.out _ Nrxe.1),?_⟩
     clear HK K'
     try simp only [Act.put,Rh.q1,Rh.q2,Rh.q3]
     refine Rh.step (i:=6) (by kernel_rfl) rfl fun K' hK'=>?_
     have HK:=hid hK'
     clear hK'
     go_simp
     refine (FC.out Wrxe br (HRK.out _ Nrxe.1) (Nrxe.2.1 br rfl)).mono ?_
     rintro e Wrxec ⟨o,c,st,rfl,ho,_,hb⟩
     have Nrxec:=nf_c Nrxe ho hb
     clear ho hb
     refine HK.out _ _ ⟨(SKB.out _ Nrxec.1),?_⟩
     clear HK K'
     try simp only [Act.put,Rh.q1,Rh.q2,Rh.q3]
     refine Rh.tk (some 11) (i:=7) (v:=?_) rfl (Or.inl ⟨by rfl,?_⟩) (SKB.out _ Nrxec.1) ?_
     rotate_left
     ·intro w hSw
      go_simp
      try with_reducible rfl
     try simp only [Act.put,Rh.q1,Rh.q2,Rh.q3]
     refine Rh.tk (some 19) (i:=8) (v:=?_) rfl (Or.inl ⟨by rfl,?_⟩) (SKB.out _ Nrxec.1) ?_
     rotate_left
     ·intro w hSw
      go_simp
      try with_reducible rfl
     try simp only [Act.put,Rh.q1,Rh.q2,Rh.q3]
     refine Rh.tk (some 20) (i:=9) (v:=?_) rfl (Or.inl ⟨by rfl,?_⟩) (SKB.out _ Nrxec.1) ?_
     rotate_left
     ·intro w hSw
      go_simp
      try with_reducible rfl
     try simp only [Act.put,Rh.q1,Rh.q2,Rh.q3]
     exact TAIL (Wrxec,br,b7,b8,o,c,st) Nrxec
   ·have HK:=hid hK'
    clear hK'
    go_simp
    obtain ⟨Wre,b8,e1,e2,Nre⟩:=nf_e Nr
    rw [e1,e2]
    clear e1 e2
    refine HK.out _ _ ⟨(SKB.out _ Nre.1),?_⟩
    clear HK K'
    try simp only [Act.put,Rh.q1,Rh.q2,Rh.q3]
    refine Rh.two (i:=6) (j:=10) (by kernel_rfl) rfl rfl (fun K' hK'=>?_) (fun K' hK'=>?_)
    ·have HK:=hid hK'
     clear hK'
     go_simp
     refine (FC.out Wre br (HRK.out _ Nre.1) (Nre.2.1 br rfl)).mono ?_
     rintro e Wrec ⟨o,c,st,rfl,ho,_,hb⟩
     have Nrec:=nf_c Nre ho hb
     clear ho hb
     refine HK.out _ _ ⟨(SKB.out _ Nrec.1),?_⟩
     clear HK K'
     try simp only [Act.put,Rh.q1,Rh.q2,Rh.q3]
     refine Rh.tk (some 11) (i:=7) (v:=?_) rfl (Or.inl ⟨by rfl,?_⟩) (SKB.out _ Nrec.1) ?_
     rotate_left
     ·intro w hSw
      go_simp
      try with_reducible rfl
     try simp only [Act.put,Rh.q1,Rh.q2,Rh.q3]
     refine Rh.tk (some 19) (i:=8) (v:=?_) rfl (Or.inl ⟨by rfl,?_⟩) (SKB.out _ Nrec.1) ?_
     rotate_left
     ·intro w hSw
      go_simp
      try with_reducible rfl
     try simp only [Act.put,Rh.q1,Rh.q2,Rh.q3]
     refine Rh.tk (some 20) (i:=9) (v:=?_) rfl (Or.inl ⟨by rfl,?_⟩) (SKB.out _ Nrec.1) ?_
     rotate_left
     ·intro w hSw
      go_simp
      try with_reducible rfl
     try simp only [Act.put,Rh.q1,Rh.q2,Rh.q3]
     refine Rh.step (i:=10) (by kernel_rfl) rfl fun K' hK'=>?_
     have HK:=hid hK'
     clear hK'
     go_simp
     obtain ⟨Wrecx,b7,e1,e2,Nrecx⟩:=nf_x Nrec
     rw [e1,e2]
     clear e1 e2
     refine HK.out _ _ ⟨(SKB.out _ Nrecx.1),?_⟩
     clear HK K'
     try simp only [Act.put,Rh.q1,Rh.q2,Rh.q3]
     exact TAIL (Wrecx,br,b7,b8,o,c,st) Nrecx
    ·have HK:=hid hK'
     clear hK'
     go_simp
     obtain ⟨Wrex,b7,e1,e2,Nrex⟩:=nf_x Nre
     rw [e1,e2]
     clear e1 e2
     refine HK.out _ _ ⟨(SKB.out _ Nrex.1),?_⟩
     clear HK K'
     try simp only [Act.put,Rh.q1,Rh.q2,Rh.q3]
     refine Rh.step (i:=6) (by kernel_rfl) rfl fun K' hK'=>?_
     have HK:=hid hK'
     clear hK'
     go_simp
     refine (FC.out Wrex br (HRK.out _ Nrex.1) (Nrex.2.1 br rfl)).mono ?_
     rintro e Wrexc ⟨o,c,st,rfl,ho,_,hb⟩
     have Nrexc:=nf_c Nrex ho hb
     clear ho hb
     refine HK.out _ _ ⟨(SKB.out _ Nrexc.1),?_⟩
     clear HK K'
     try simp only [Act.put,Rh.q1,Rh.q2,Rh.q3]
     refine Rh.tk (some 11) (i:=7) (v:=?_) rfl (Or.inl ⟨by rfl,?_⟩) (SKB.out _ Nrexc.1) ?_
     rotate_left
     ·intro w hSw
      go_simp
      try with_reducible rfl
     try simp only [Act.put,Rh.q1,Rh.q2,Rh.q3]
     refine Rh.tk (some 19) (i:=8) (v:=?_) rfl (Or.inl ⟨by rfl,?_⟩) (SKB.out _ Nrexc.1) ?_
     rotate_left
     ·intro w hSw
      go_simp
      try with_reducible rfl
     try simp only [Act.put,Rh.q1,Rh.q2,Rh.q3]
     refine Rh.tk (some 20) (i:=9) (v:=?_) rfl (Or.inl ⟨by rfl,?_⟩) (SKB.out _ Nrexc.1) ?_
     rotate_left
     ·intro w hSw
      go_simp
      try with_reducible rfl
     try simp only [Act.put,Rh.q1,Rh.q2,Rh.q3]
     exact TAIL (Wrexc,br,b7,b8,o,c,st) Nrexc
  ·have HK:=hid hK'
   clear hK'
   go_simp
   obtain ⟨Wx,b7,e1,e2,Nx⟩:=nf_x ND
   rw [e1,e2]
   clear e1 e2
   refine HK.out _ _ ⟨(SKB.out _ Nx.1),?_⟩
   clear HK K'
   try simp only [Act.put,Rh.q1,Rh.q2,Rh.q3]
   refine Rh.two (i:=4) (j:=11) (by kernel_rfl) rfl rfl (fun K' hK'=>?_) (fun K' hK'=>?_)
   ·have HK:=hid hK'
    clear hK'
    go_simp
    obtain ⟨Wxr,br,e1,e2,Nxr⟩:=nf_r Nx
    rw [e1,e2]
    clear e1 e2
    refine HK.out _ _ ⟨(SKB.out _ Nxr.1),?_⟩
    clear HK K'
    try simp only [Act.put,Rh.q1,Rh.q2,Rh.q3]
    refine Rh.two (i:=6) (j:=11) (by kernel_rfl) rfl rfl (fun K' hK'=>?_) (fun K' hK'=>?_)
    ·have HK:=hid hK'
     clear hK'
     go_simp
     refine (FC.out Wxr br (HRK.out _ Nxr.1) (Nxr.2.1 br rfl)).mono ?_
     rintro e Wxrc ⟨o,c,st,rfl,ho,_,hb⟩
     have Nxrc:=nf_c Nxr ho hb
     clear ho hb
     refine HK.out _ _ ⟨(SKB.out _ Nxrc.1),?_⟩
     clear HK K'
     try simp only [Act.put,Rh.q1,Rh.q2,Rh.q3]
     refine Rh.tk (some 11) (i:=7) (v:=?_) rfl (Or.inl ⟨by rfl,?_⟩) (SKB.out _ Nxrc.1) ?_
     rotate_left
     ·intro w hSw
      go_simp
      try with_reducible rfl
     try simp only [Act.put,Rh.q1,Rh.q2,Rh.q3]
     refine Rh.tk (some 19) (i:=8) (v:=?_) rfl (Or.inl ⟨by rfl,?_⟩) (SKB.out _ Nxrc.1) ?_
     rotate_left
     ·intro w hSw
      go_simp
      try with_reducible rfl
     try simp only [Act.put,Rh.q1,Rh.q2,Rh.q3]
     refine Rh.tk (some 20) (i:=9) (v:=?_) rfl (Or.inl ⟨by rfl,?_⟩) (SKB.out _ Nxrc.1) ?_
     rotate_left
     ·intro w hSw
      go_simp
      try with_reducible rfl
     try simp only [Act.put,Rh.q1,Rh.q2,Rh.q3]
     refine Rh.step (i:=11) (by kernel_rfl) rfl fun K' hK'=>?_
     have HK:=hid hK'
     clear hK'
     go_simp
     obtain ⟨Wxrce,b8,e1,e2,Nxrce⟩:=nf_e Nxrc
     rw [e1,e2]
     clear e1 e2
     refine HK.out _ _ ⟨(SKB.out _ Nxrce.1),?_⟩
     clear HK K'
     try simp only [Act.put,Rh.q1,Rh.q2,Rh.q3]
     exact TAIL (Wxrce,br,b7,b8,o,c,st) Nxrce
    ·have HK:=hid hK'
     clear hK'
     go_simp
     obtain ⟨Wxre,b8,e1,e2,Nxre⟩:=nf_e Nxr
     rw [e1,e2]
     clear e1 e2
     refine HK.out _ _ ⟨(SKB.out _ Nxre.1),?_⟩
     clear HK K'
     try simp only [Act.put,Rh.q1,Rh.q2,Rh.q3]
     refine Rh.step (i:=6) (by kernel_rfl) rfl fun K' hK'=>?_
     have HK:=hid hK'
     clear hK'
     go_simp
     refine (FC.out Wxre br (HRK.out _ Nxre.1) (Nxre.2.1 br rfl)).mono ?_
     rintro e Wxrec ⟨o,c,st,rfl,ho,_,hb⟩
     have Nxrec:=nf_c Nxre ho hb
     clear ho hb
     refine HK.out _ _ ⟨(SKB.out _ Nxrec.1),?_⟩
     clear HK K'
     try simp only [Act.put,Rh.q1,Rh.q2,Rh.q3]
     refine Rh.tk (some 11) (i:=7) (v:=?_) rfl (Or.inl ⟨by rfl,?_⟩) (SKB.out _ Nxrec.1) ?_
     rotate_left
     ·intro w hSw
      go_simp
      try with_reducible rfl
     try simp only [Act.put,Rh.q1,Rh.q2,Rh.q3]
     refine Rh.tk (some 19) (i:=8) (v:=?_) rfl (Or.inl ⟨by rfl,?_⟩) (SKB.out _ Nxrec.1) ?_
     rotate_left
     ·intro w hSw
      go_simp
      try with_reducible rfl
     try simp only [Act.put,Rh.q1,Rh.q2,Rh.q3]
     refine Rh.tk (some 20) (i:=9) (v:=?_) rfl (Or.inl ⟨by rfl,?_⟩) (SKB.out _ Nxrec.1) ?_
     rotate_left
     ·intro w hSw
      go_simp
      try with_reducible rfl
     try simp only [Act.put,Rh.q1,Rh.q2,Rh.q3]
     exact TAIL (Wxrec,br,b7,b8,o,c,st) Nxrec
   ·have HK:=hid hK'
    clear hK'
    go_simp
    obtain ⟨Wxe,b8,e1,e2,Nxe⟩:=nf_e Nx
    rw [e1,e2]
    clear e1 e2
    refine HK.out _ _ ⟨(SKB.out _ Nxe.1),?_⟩
    clear HK K'
    try simp only [Act.put,Rh.q1,Rh.q2,Rh.q3]
    refine Rh.step (i:=4) (by kernel_rfl) rfl fun K' hK'=>?_
    have HK:=hid hK'
    clear hK'
    go_simp
    obtain ⟨Wxer,br,e1,e2,Nxer⟩:=nf_r Nxe
    rw [e1,e2]
    clear e1 e2
    refine HK.out _ _ ⟨(SKB.out _ Nxer.1),?_⟩
    clear HK K'
    try simp only [Act.put,Rh.q1,Rh.q2,Rh.q3]
    refine Rh.step (i:=6) (by kernel_rfl) rfl fun K' hK'=>?_
    have HK:=hid hK'
    clear hK'
    go_simp
    refine (FC.out Wxer br (HRK.out _ Nxer.1) (Nxer.2.1 br rfl)).mono ?_
    rintro e Wxerc ⟨o,c,st,rfl,ho,_,hb⟩
    have Nxerc:=nf_c Nxer ho hb
    clear ho hb
    refine HK.out _ _ ⟨(SKB.out _ Nxerc.1),?_⟩
    clear HK K'
    try simp only [Act.put,Rh.q1,Rh.q2,Rh.q3]
    refine Rh.tk (some 11) (i:=7) (v:=?_) rfl (Or.inl ⟨by rfl,?_⟩) (SKB.out _ Nxerc.1) ?_
    rotate_left
    ·intro w hSw
     go_simp
     try with_reducible rfl
    try simp only [Act.put,Rh.q1,Rh.q2,Rh.q3]
    refine Rh.tk (some 19) (i:=8) (v:=?_) rfl (Or.inl ⟨by rfl,?_⟩) (SKB.out _ Nxerc.1) ?_
    rotate_left
    ·intro w hSw
     go_simp
     try with_reducible rfl
    try simp only [Act.put,Rh.q1,Rh.q2,Rh.q3]
    refine Rh.tk (some 20) (i:=9) (v:=?_) rfl (Or.inl ⟨by rfl,?_⟩) (SKB.out _ Nxerc.1) ?_
    rotate_left
    ·intro w hSw
     go_simp
     try with_reducible rfl
    try simp only [Act.put,Rh.q1,Rh.q2,Rh.q3]
    exact TAIL (Wxerc,br,b7,b8,o,c,st) Nxerc
  ·have HK:=hid hK'
   clear hK'
   go_simp
   obtain ⟨We,b8,e1,e2,Ne⟩:=nf_e ND
   rw [e1,e2]
   clear e1 e2
   refine HK.out _ _ ⟨(SKB.out _ Ne.1),?_⟩
   clear HK K'
   try simp only [Act.put,Rh.q1,Rh.q2,Rh.q3]
   refine Rh.two (i:=4) (j:=10) (by kernel_rfl) rfl rfl (fun K' hK'=>?_) (fun K' hK'=>?_)
   ·have HK:=hid hK'
    clear hK'
    go_simp
    obtain ⟨Wer,br,e1,e2,Ner⟩:=nf_r Ne
    rw [e1,e2]
    clear e1 e2
    refine HK.out _ _ ⟨(SKB.out _ Ner.1),?_⟩
    clear HK K'
    try simp only [Act.put,Rh.q1,Rh.q2,Rh.q3]
    refine Rh.two (i:=6) (j:=10) (by kernel_rfl) rfl rfl (fun K' hK'=>?_) (fun K' hK'=>?_)
    ·have HK:=hid hK'
     clear hK'
     go_simp
     refine (FC.out Wer br (HRK.out _ Ner.1) (Ner.2.1 br rfl)).mono ?_
     rintro e Werc ⟨o,c,st,rfl,ho,_,hb⟩
     have Nerc:=nf_c Ner ho hb
     clear ho hb
     refine HK.out _ _ ⟨(SKB.out _ Nerc.1),?_⟩
     clear HK K'
     try simp only [Act.put,Rh.q1,Rh.q2,Rh.q3]
     refine Rh.tk (some 11) (i:=7) (v:=?_) rfl (Or.inl ⟨by rfl,?_⟩) (SKB.out _ Nerc.1) ?_
     rotate_left
     ·intro w hSw
      go_simp
      try with_reducible rfl
     try simp only [Act.put,Rh.q1,Rh.q2,Rh.q3]
     refine Rh.tk (some 19) (i:=8) (v:=?_) rfl (Or.inl ⟨by rfl,?_⟩) (SKB.out _ Nerc.1) ?_
     rotate_left
     ·intro w hSw
      go_simp
      try with_reducible rfl
     try simp only [Act.put,Rh.q1,Rh.q2,Rh.q3]
     refine Rh.tk (some 20) (i:=9) (v:=?_) rfl (Or.inl ⟨by rfl,?_⟩) (SKB.out _ Nerc.1) ?_
     rotate_left
     ·intro w hSw
      go_simp
      try with_reducible rfl
     try simp only [Act.put,Rh.q1,Rh.q2,Rh.q3]
     refine Rh.step (i:=10) (by kernel_rfl) rfl fun K' hK'=>?_
     have HK:=hid hK'
     clear hK'
     go_simp
     obtain ⟨Wercx,b7,e1,e2,Nercx⟩:=nf_x Nerc
     rw [e1,e2]
     clear e1 e2
     refine HK.out _ _ ⟨(SKB.out _ Nercx.1),?_⟩
     clear HK K'
     try simp only [Act.put,Rh.q1,Rh.q2,Rh.q3]
     exact TAIL (Wercx,br,b7,b8,o,c,st) Nercx
    ·have HK:=hid hK'
     clear hK'
     go_simp
     obtain ⟨Werx,b7,e1,e2,Nerx⟩:=nf_x Ner
     rw [e1,e2]
     clear e1 e2
     refine HK.out _ _ ⟨(SKB.out _ Nerx.1),?_⟩
     clear HK K'
     try simp only [Act.put,Rh.q1,Rh.q2,Rh.q3]
     refine Rh.step (i:=6) (by kernel_rfl) rfl fun K' hK'=>?_
     have HK:=hid hK'
     clear hK'
     go_simp
     refine (FC.out Werx br (HRK.out _ Nerx.1) (Nerx.2.1 br rfl)).mono ?_
     rintro e Werxc ⟨o,c,st,rfl,ho,_,hb⟩
     have Nerxc:=nf_c Nerx ho hb
     clear ho hb
     refine HK.out _ _ ⟨(SKB.out _ Nerxc.1),?_⟩
     clear HK K'
     try simp only [Act.put,Rh.q1,Rh.q2,Rh.q3]
     refine Rh.tk (some 11) (i:=7) (v:=?_) rfl (Or.inl ⟨by rfl,?_⟩) (SKB.out _ Nerxc.1) ?_
     rotate_left
     ·intro w hSw
      go_simp
      try with_reducible rfl
     try simp only [Act.put,Rh.q1,Rh.q2,Rh.q3]
     refine Rh.tk (some 19) (i:=8) (v:=?_) rfl (Or.inl ⟨by rfl,?_⟩) (SKB.out _ Nerxc.1) ?_
     rotate_left
     ·intro w hSw
      go_simp
      try with_reducible rfl
     try simp only [Act.put,Rh.q1,Rh.q2,Rh.q3]
     refine Rh.tk (some 20) (i:=9) (v:=?_) rfl (Or.inl ⟨by rfl,?_⟩) (SKB.out _ Nerxc.1) ?_
     rotate_left
     ·intro w hSw
      go_simp
      try with_reducible rfl
     try simp only [Act.put,Rh.q1,Rh.q2,Rh.q3]
     exact TAIL (Werxc,br,b7,b8,o,c,st) Nerxc
   ·have HK:=hid hK'
    clear hK'
    go_simp
    obtain ⟨Wex,b7,e1,e2,Nex⟩:=nf_x Ne
    rw [e1,e2]
    clear e1 e2
    refine HK.out _ _ ⟨(SKB.out _ Nex.1),?_⟩
    clear HK K'
    try simp only [Act.put,Rh.q1,Rh.q2,Rh.q3]
    refine Rh.step (i:=4) (by kernel_rfl) rfl fun K' hK'=>?_
    have HK:=hid hK'
    clear hK'
    go_simp
    obtain ⟨Wexr,br,e1,e2,Nexr⟩:=nf_r Nex
    rw [e1,e2]
    clear e1 e2
    refine HK.out _ _ ⟨(SKB.out _ Nexr.1),?_⟩
    clear HK K'
    try simp only [Act.put,Rh.q1,Rh.q2,Rh.q3]
    refine Rh.step (i:=6) (by kernel_rfl) rfl fun K' hK'=>?_
    have HK:=hid hK'
    clear hK'
    go_simp
    refine (FC.out Wexr br (HRK.out _ Nexr.1) (Nexr.2.1 br rfl)).mono ?_
    rintro e Wexrc ⟨o,c,st,rfl,ho,_,hb⟩
    have Nexrc:=nf_c Nexr ho hb
    clear ho hb
    refine HK.out _ _ ⟨(SKB.out _ Nexrc.1),?_⟩
    clear HK K'
    try simp only [Act.put,Rh.q1,Rh.q2,Rh.q3]
    refine Rh.tk (some 11) (i:=7) (v:=?_) rfl (Or.inl ⟨by rfl,?_⟩) (SKB.out _ Nexrc.1) ?_
    rotate_left
    ·intro w hSw
     go_simp
     try with_reducible rfl
    try simp only [Act.put,Rh.q1,Rh.q2,Rh.q3]
    refine Rh.tk (some 19) (i:=8) (v:=?_) rfl (Or.inl ⟨by rfl,?_⟩) (SKB.out _ Nexrc.1) ?_
    rotate_left
    ·intro w hSw
     go_simp
     try with_reducible rfl
    try simp only [Act.put,Rh.q1,Rh.q2,Rh.q3]
    refine Rh.tk (some 20) (i:=9) (v:=?_) rfl (Or.inl ⟨by rfl,?_⟩) (SKB.out _ Nexrc.1) ?_
    rotate_left
    ·intro w hSw
     go_simp
     try with_reducible rfl
    try simp only [Act.put,Rh.q1,Rh.q2,Rh.q3]
    exact TAIL (Wexrc,br,b7,b8,o,c,st) Nexrc
 case rest =>
  obtain ⟨b7,b8,o,c,st,rfl,rfl,Gb7,Gb8,HX,HE,HO,HB⟩:=hcut
  have HNB:=hid (show b4<W0.heap.size∧b5<W0.heap.size∧b6<W0.heap.size from ⟨HNE.out.2.2.1,HNE.out.2.2.2.1,HNE.out.2.2.2.2.1⟩)
  have HR3:=hid (show ∀ W,Below W0.heap.size W0 W→Ret3 w W b4 b5 b6 (.slice none 0 0) (.slice none 0 0) (.int .i64 0) from fun W hb =>
   ⟨bxB HAD.out hb HNB.out.1,bxB HTD.out hb HNB.out.2.1,bxB HCD.out hb HNB.out.2.2,HNE.out.2.2.2.2.2.1,HNE.out.2.2.2.2.2.2,HBW.out.trans (hb.mono HBW.out.size)⟩)
  have HB8:=hid (show b4≠b8∧b5≠b8∧b6≠b8 by have:=HNB.out;have:=Gb8.out;omega)
  by_cases hE:E=0
  case neg =>
   have hE':(E != 0)=true:=by simpa using hE
   have e0:=HE.out.cell
   go_upto_region 3 with fail
   have HB9:=hid (bDr HB.out)
   have HE9:=hid (bxB HE.out (bDr (Below.refl wc.heap.size wc)) (Boxed.lt HE.out))
   have HQ9:=hid (HR3.out _ HB9.out)
   refine wp_region_noPanic ?_
   refine Rh.start (S:=(fun w'=>w'.cell? ⟨b8,0,none⟩=some (.int .i64 E))) (by kernel_rfl) ?_
   generalize wc.drew=WD at *
   have e1:=HE9.out.cell
   obtain ⟨r4,r5,r6⟩:=sc_cells HQ9.out
   obtain ⟨f4,f5,f6⟩:=sc_frozen HQ9.out
   refine Rh.tp 23 0 e1 ?_
   refine Rh.step (i:=1) (by kernel_rfl) rfl fun K' hK'=>?_
   have HK:=hid hK'
   clear hK'
   go_simp
   have HQa:=hid (HQ9.out.set4 (.slice none 0 0))
   have HEa:=hid (bxS HE9.out (x:=⟨b4,0,none⟩) HB8.out.1 (.slice none 0 0))
   clear r4 r5 r6 f4 f5 f6
   generalize (WD.setCell ⟨b4,0,none⟩ (.slice none 0 0))=Wa at *
   obtain ⟨r4,r5,r6⟩:=sc_cells HQa.out
   obtain ⟨f4,f5,f6⟩:=sc_frozen HQa.out
   refine HK.out _ _ ⟨HEa.out.cell,?_⟩
   clear HK K'
   try simp only [Act.put,Rh.q1,Rh.q2,Rh.q3]
   refine Rh.step (i:=2) (by kernel_rfl) rfl fun K' hK'=>?_
   have HK:=hid hK'
   clear hK'
   go_simp
   have HQb:=hid (HQa.out.set5 (.slice none 0 0))
   have HEb:=hid (bxS HEa.out (x:=⟨b5,0,none⟩) HB8.out.2.1 (.slice none 0 0))
   clear r4 r5 r6 f4 f5 f6
   generalize (Wa.setCell ⟨b5,0,none⟩ (.slice none 0 0))=Wb at *
   obtain ⟨r4,r5,r6⟩:=sc_cells HQb.out
   obtain ⟨f4,f5,f6⟩:=sc_frozen HQb.out
   refine HK.out _ _ ⟨HEb.out.cell,?_⟩
   clear HK K'
   try simp only [Act.put,Rh.q1,Rh.q2,Rh.q3]
   refine Rh.step (i:=3) (by kernel_rfl) rfl fun K' hK'=>?_
   have HK:=hid hK'
   clear hK'
   go_simp
   have HQc:=hid (HQb.out.set6 (.int .i64 E))
   have HEc:=hid (bxS HEb.out (x:=⟨b6,0,none⟩) HB8.out.2.2 (.int .i64 E))
   clear r4 r5 r6 f4 f5 f6
   generalize (Wb.setCell ⟨b6,0,none⟩ (.int .i64 E))=Wc at *
   obtain ⟨r4,r5,r6⟩:=sc_cells HQc.out
   obtain ⟨f4,f5,f6⟩:=sc_frozen HQc.out
   refine HK.out _ _ ⟨HEc.out.cell,?_⟩
   clear HK K'
   try simp only [Act.put,Rh.q1,Rh.q2,Rh.q3]
   refine Rh.done (by kernel_rfl) ?_ _
   refine NoPanic.normal ?_
   go_wp2
   obtain ⟨q1,q2⟩:=HBAD.out hE
   refine ⟨_,results_ret3 rfl _ HQc.out rfl rfl rfl,none,0,none,0,by rw [q1,q2];rfl,by rw [q1];exact Rw.owN _ _,by rw [q2];exact Rw.owN _ _,HQc.out.bel⟩
  subst hE
  obtain ⟨ck,q,rfl⟩:=HENG.out (by trivial)
  obtain ⟨q1,q2⟩:=HOKK.out (by trivial)
  have SQ:=hid (HSQ.out ck)
  obtain rfl:=HG.out (by trivial)
  have hlz:G.length=n.l.length:=by rw [HZR.out];simp
  rw [hlz] at HX HO
  have RT:=hid (rgO ck)
  have HF0:=hid (show Flow n G by rw [HZR.out];exact flow_nought (rgO ck))
  rw [← HZR.out] at SQ
  have FFL:=hid fun w' fo fc fl x p k g (hx:1≤x) (hF:Flow n fl) (P:Phs n x fl g p k) h1 h2=>from_flow ao cap fo fc w' ck h1 h2 hF.okf hx P q
  have DV:=hid fun w' fo fc fl (hF:Flow n fl) h1 h2=>dvalue_any n ao cap fo fc fl w' h1 h2 (rgO ck) hF.len hF.wi
  have HQQ:=hid (And.intro q1 q2)
  have HLN:=hid (show h.length=n.l.length from (sqs_flow (rgO ck) (fun y hy=>rms_pos y hy) SQ.out HF0.out).len)
  clear q1 q2 hlz HBAD HOKK HENG HSQ HG FC ck hmk hl
  generalize hA:engC q=a at *
  have HAE:=hid hA
  clear hA
  have e0:=HE.out.cell
  have HB9:=hid (HB.out.alloc HB.out.size (.cells #[.slice none 0 0] 27))
  have HT9:=hid (Boxed.new wc 27 (.slice none 0 0))
  have hal:=(Below.refl wc.heap.size wc).alloc (Nat.le_refl _) (.cells #[.slice none 0 0] 27)
  have HX9:=hid (rbB HX.out hal (rbL HX.out))
  have HE9:=hid (bxB HE.out hal (Boxed.lt HE.out))
  have HO9:=hid (Rw.own_below HO.out hal)
  have HN9:=nbB HND.out HB9.out HNE.out.1
  obtain ⟨n0,n1,n2,n3⟩:=nbC HN9
  clear hal HN9
  go_wp2_with fail
  refine (DST.out _ (HR.out.kept (HBW.out.trans (HB9.out.mono HBW.out.size)))).mono ?_
  rintro e v1 ⟨rfl,hb1⟩
  go_wp2_with fail
  refine (RMS.out _).mono ?_
  rintro e v2 ⟨rfl,hb2,hs2,hc2⟩
  go_wp2_with fail
  have hbq:=hb1.trans (hb2.mono hb1.size)
  have HX2:=hid (rbB HX9.out hbq (rbL HX9.out))
  have HE2:=hid (bxB HE9.out hbq (Boxed.lt HE9.out))
  have HT2:=hid (bxB HT9.out hbq (Boxed.lt HT9.out))
  have HO2:=hid (Rw.own_below HO9.out hbq)
  have HB2:=hid (HB9.out.trans (hbq.mono HB9.out.size))
  have hz2:v1.heap.size<v2.heap.size:=by omega
  have Gb9:=hid HB.out.size
  generalize wc.heap.size=b9 at *
  generalize v1.heap.size=bq at *
  clear hb1 hb2 hs2 hbq n0 n1 n2 n3 e0 HX9 HE9 HT9 HO9 HB9
  refine (wpIn_wide (n:=3)).1 ?_
  refine wpIn_rangeFunc_ownG rfl (by decide) (gf:=34) (lb:=#[.pointer (some ⟨bq,0,none⟩)]) rfl trivial (enters_of Tryz.func34 (by kernel_rfl) rfl)
   (rooms_stops HK63.out (3-1) bq v2 hz2 hc2) (fun _ _=>trivial) (fun _ _ _ _ _ _ _ _=>trivial) (Below.refl _ _) (fun _=>rfl)
   (fun (pre:List Rm) W=>ScI n W0 G b7 b8 b9 (pre.map (·.1)) W) (fun _ _ _=>False) (sci_own HB2.out.size) (fun _ _ _ _ _ hs _ _=>hs)
   ⟨G,[],o,none,c,0,PP,PP,st,.nil G,HX2.out,HO2.out,HE2.out,HT2.out,Rw.owN _ _,HB2.out⟩ ?a1 ?assign ?body ?done ?stop
  case assign =>
   intro l x W K' hK'
   gi_wp2
   exact hK'
  case stop =>
   rintro D c' pre W _ _ h' _
   exact h'.elim
  case body =>
   rintro l pre x W ⟨fl,tl,o,ot,c,ct,p,k,st,h1,h2,h3,h4,h5,h6,h7⟩ hlt
   have hx1:=x.2.1
   obtain ⟨xv,hxv⟩:∃ z:Int,z=x.1:=⟨_,rfl⟩
   rw [← hxv] at hx1 ⊢
   have HXV:=hid hxv
   clear hxv
   have HFl:=sqs_flow RT.out (fun y hy=>by
    obtain ⟨z,_,rfl⟩:=List.mem_map.1 hy
    exact z.2.1) h1 HF0.out
   obtain ⟨g,pp,kk,P⟩:=phs_exists RT.out hx1 HFl.okf
   have HFg:=hid (phs_flow RT.out hx1 P HFl)
   have HSN:=hid (sqs_snoc h1 P)
   have HTL:=hid (show tl.length+1≤64 by have:=sqs_len h1;have:=HK63.out;rw [List.length_map] at *;omega)
   have FC:=hid (FFL.out W o c fl xv pp kk g hx1 HFl P (HR.out.kept (HBW.out.trans (h7.mono HBW.out.size))) (owI h3))
   have hN:=nbB HND.out h7 HNE.out.1
   have hEg:=(bxB HED.out h7 HNE.out.2.1).cell
   obtain ⟨n0,n1,n2,n3⟩:=nbC hN
   obtain ⟨x0,x1,x2,x3⟩:=rbC h2
   have HXW:=hid h2
   have HEW:=hid h4
   have HTW:=hid h5
   have HOT:=hid h6
   have HBe:=hid h7
   have hne:=run_ne_boxed h2 h4
   have hne':=hne.symm
   clear h1 h2 h3 h4 h5 h6 h7 hN HFl P hlt
   refine wpIn_block ?_
   refine wpIn_seq_k fun K2 hK2=>?_
   have HK2:=hid hK2
   clear hK2
   gi_wp2_with ((try refine ⟨trivial,?_⟩);(try refine ⟨fun h=>(by cases h),?_⟩);gi_at_call 20;refine (CallsIn.inRound l (callsIn_wide.2 FC.out)).mono ?_;rintro e v6 ⟨o6,c6,st6,rfl,ho6,hp6,hq6,hb6⟩;have HX6:=hid (rbB HXW.out hb6 (rbL HXW.out));have HE6:=hid (bxB HEW.out hb6 (Boxed.lt HEW.out));obtain ⟨y0,y1,y2,y3⟩:=rbC HX6.out;have g0:=rbF HX6.out 0;have g1:=rbF HX6.out 1;have g2:=rbF HX6.out 2;have g3:=rbF HX6.out 3;have e6:=HE6.out.cell;have e7:=HE6.out.frozen;clear n0 n1 n2 n3 x0 x1 x2 x3 hEg)
   obtain ⟨z1,z2,z3,z4⟩:=sc_put1 HX6.out HE6.out (Rw.own_base ho6 (Nat.le_refl W.heap.size)) (HBe.out.trans (hb6.mono HBe.out.size)) Gb7.out (.slice o6 n.l.length c6) (pp:Int) (kk:Int) st6
   obtain ⟨z5,z6,z7,z8⟩:=sc_put2 z1 z2 z3 z4 Gb8.out (.int .i64 0)
   obtain ⟨t1,t2⟩:=sc_put3 HX6.out HE6.out (bxB HTW.out hb6 (Boxed.lt HTW.out)) (Rw.own_below HOT.out hb6) (.slice o6 n.l.length c6) (.int .i64 0) (pp:Int) (kk:Int) st6
   have HK7:=hid ((keeps_below hb6).trans (((((KeepsOthers.setCell v6 ⟨b7,0,none⟩ (.slice o6 n.l.length c6)).trans (KeepsOthers.setCell _ ⟨b7,1,none⟩ (.int .i64 (pp:Int)))).trans (KeepsOthers.setCell _ ⟨b7,2,none⟩ (.int .i64 (kk:Int)))).trans (KeepsOthers.setCell _ ⟨b7,3,none⟩ (.int .i64 st6))).trans (KeepsOthers.setCell _ ⟨b8,0,none⟩ (.int .i64 0))))
   clear y0 y1 y2 y3 g0 g1 g2 g3 e6 e7 hp6 hq6 hb6 ho6 z1 z2 z3 z4 hne hne' HX6 HE6 HXW HEW
   refine HK2.out _ _ ?_
   generalize (((((v6.setCell ⟨b7,0,none⟩ (.slice o6 n.l.length c6)).setCell ⟨b7,1,none⟩ (.int .i64 (pp:Int))).setCell ⟨b7,2,none⟩ (.int .i64 (kk:Int))).setCell ⟨b7,3,none⟩ (.int .i64 st6)).setCell ⟨b8,0,none⟩ (.int .i64 0))=v7 at *
   obtain ⟨ex,hex⟩:∃ z,z=exc n.l g n.t:=⟨_,rfl⟩
   obtain ⟨TL2,hTL⟩:∃ z,z=tl ++ [(⟨xv,pp,kk,ex⟩:Tn)]:=⟨_,rfl⟩
   have hd:Below v7.heap.size v7 v7.drew:=bDr (Below.refl _ _)
   have HX8:=hid (rbB z5 hd (rbL z5))
   have HE8:=hid (bxB z6 hd (Boxed.lt z6))
   have HO8:=hid (Rw.own_base (Rw.own_below z7 hd) HBe.out.size)
   have HT8:=hid (bxB t1 hd (Boxed.lt t1))
   have HOT8:=hid (Rw.own_below t2 hd)
   have HB8b:=hid (z8.trans (hd.mono z8.size))
   have HK8:=hid (HK7.out.trans (keeps_below hd))
   refine Rg.startIn (S:=(fun w'=>w'.cell? ⟨bn,0,none⟩=some (.int .i64 n.n)∧w'.cell? ⟨bn,1,none⟩=some (.int .i64 n.s)∧w'.cell? ⟨bn,2,none⟩=some (.int .i64 n.t)∧w'.cell? ⟨bn,3,none⟩=some (.slice ao n.l.length cap)∧w'.cell? ⟨b7,0,none⟩=some (.slice o6 n.l.length c6)∧w'.cell? ⟨b7,1,none⟩=some (.int .i64 (pp:Int))∧w'.cell? ⟨b7,2,none⟩=some (.int .i64 (kk:Int))∧w'.cell? ⟨b7,3,none⟩=some (.int .i64 st6)∧w'.cell? ⟨b9,0,none⟩=some (.slice ot tl.length ct))) (last:=13) (by kernel_rfl) (by kernel_rfl) (by rintro ⟨_,_,h⟩;exact h) ?_
   clear z5 z6 z7 z8 t1 t2 hd HK7 HK2
   generalize v7.drew=v8 at *
   have SKT:=hid (show ∀ W,NetBox W bn n.n n.s n.t (.slice ao n.l.length cap)→RunBox W b7 (.slice o6 n.l.length c6) pp kk st6→Boxed W b9 27 (.slice ot tl.length ct)→(fun w'=>w'.cell? ⟨bn,0,none⟩=some (.int .i64 n.n)∧w'.cell? ⟨bn,1,none⟩=some (.int .i64 n.s)∧w'.cell? ⟨bn,2,none⟩=some (.int .i64 n.t)∧w'.cell? ⟨bn,3,none⟩=some (.slice ao n.l.length cap)∧w'.cell? ⟨b7,0,none⟩=some (.slice o6 n.l.length c6)∧w'.cell? ⟨b7,1,none⟩=some (.int .i64 (pp:Int))∧w'.cell? ⟨b7,2,none⟩=some (.int .i64 (kk:Int))∧w'.cell? ⟨b7,3,none⟩=some (.int .i64 st6)∧w'.cell? ⟨b9,0,none⟩=some (.slice ot tl.length ct)) W from fun W hn hx ht=>by
    obtain ⟨n0,n1,n2,n3⟩:=nbC hn
    obtain ⟨x0,x1,x2,x3⟩:=rbC hx
    exact ⟨n0,n1,n2,n3,x0,x1,x2,x3,ht.cell⟩)
   have HN8:=hid (nbB HND.out HB8b.out HNE.out.1)
   have DVX:=hid (DV.out v8 o6 c6 g HFg.out (HR.out.kept (HBW.out.trans (HB8b.out.mono HBW.out.size))) (owI HO8.out))
   rw [← hex] at DVX
   have HSX:=hid (show Sqs n ((pre ++ [x]).map (·.1)) G g TL2 by
    have h:=HSN.out
    rw [← hex,← hTL] at h
    rw [List.map_append]
    simpa [← HXV.out] using h)
   have HTX:=hid hTL
   clear hex hTL HSN
   have hS0:=SKT.out v8 HN8.out HX8.out HT8.out
   refine Rg.tp 30 0 hS0 ?_
   refine Rg.tp 30 1 hS0 ?_
   refine Rg.tp 30 2 hS0 ?_
   refine Rg.tp 30 3 hS0 ?_
   refine Rg.tp 30 4 hS0 ?_
   refine Rg.tp 30 5 hS0 ?_
   refine Rg.tp 30 6 hS0 ?_
   refine Rg.tp 30 7 hS0 ?_
   refine Rg.tp 30 8 hS0 ?_
   refine Rg.step (i:=9) (by kernel_rfl) rfl fun K' hK'=>?_
   have HK:=hid hK'
   clear hK'
   go_simp
   refine DVX.out.mono ?_
   rintro e va ⟨rfl,hb⟩
   have HNa:=hid (nbB HN8.out hb (netBox_lt HN8.out))
   have HXa:=hid (rbB HX8.out hb (rbL HX8.out))
   have HEa:=hid (bxB HE8.out hb (Boxed.lt HE8.out))
   have HTa:=hid (bxB HT8.out hb (Boxed.lt HT8.out))
   have HOa:=hid (Rw.own_below HO8.out hb)
   have HOTa:=hid (Rw.own_below HOT8.out hb)
   have HBab:=hid (HB8b.out.trans (hb.mono HB8b.out.size))
   have HKa:=hid (HK8.out.trans (keeps_below hb))
   clear hb
   refine HK.out _ _ ⟨fun _=>(SKT.out va HNa.out HXa.out HTa.out),?_⟩
   clear HK K'
   try simp only [Act.put,Rh.q1,Rh.q2,Rh.q3]
   refine Rg.tk (i:=10) (v:=?_) 30 rfl (Or.inl ⟨by rfl,?_⟩) (SKT.out va HNa.out HXa.out HTa.out) ?_
   rotate_left
   ·intro w hSw
    go_simp
    try with_reducible rfl
   try simp only [Act.put,Rh.q1,Rh.q2,Rh.q3]
   refine Rg.step (i:=11) (by kernel_rfl) rfl fun K' hK'=>?_
   have HK:=hid hK'
   clear hK'
   go_simp
   have hb:=(Below.refl va.heap.size va).alloc (Nat.le_refl _) (.cells #[.int .i64 xv,.int .i64 (pp:Int),.int .i64 (kk:Int),.int .i64 ex] 47)
   have HNb:=hid (nbB HNa.out hb (netBox_lt HNa.out))
   have HXb:=hid (rbB HXa.out hb (rbL HXa.out))
   have HEb:=hid (bxB HEa.out hb (Boxed.lt HEa.out))
   have HTb:=hid (bxB HTa.out hb (Boxed.lt HTa.out))
   have HOb:=hid (Rw.own_below HOa.out hb)
   have HOTb:=hid (Rw.own_below HOTa.out hb)
   have HBbb:=hid (HBab.out.trans (hb.mono HBab.out.size))
   have HKb:=hid (HKa.out.trans (keeps_below hb))
   have HRW:=hid (trow_at1 va (⟨xv,pp,kk,ex⟩:Tn))
   have HZB:=hid HBbb.out.size
   clear hb

   refine HK.out _ _ ⟨fun _=>(SKT.out _ HNb.out HXb.out HTb.out),?_⟩
   clear HK K'
   try simp only [Act.put,Rh.q1,Rh.q2,Rh.q3]
   refine Rg.step (i:=12) (by kernel_rfl) rfl fun K' hK'=>?_
   refine Rw.stepAny elemT encT_len encT_one (by rfl) (.tmp 40) (.tmp 51) (by rfl) W0.heap.size _ tl (by rfl) HOTb.out (some ⟨va.heap.size,0,none⟩) 1 [(⟨xv,pp,kk,ex⟩:Tn)] 1 rfl (by rfl) (fun h=>by cases h) HRW.out (by have:=HTL.out;simp;omega) HZB.out ?_
   intro vv w12 hown hgr
   rw [← HTX.out] at hown
   obtain ⟨o12,c12,hva,_⟩:=Rw.owR encT_len hown
   subst hva
   obtain ⟨z1,z2,z3,z4,z5,z6⟩:=sc_grow HNb.out HNE.out.1 HXb.out HEb.out HTb.out HOb.out HOTb.out HBbb.out hgr
   have HKc:=hid (HKb.out.trans (keeps_own HOTb.out hgr))
   have HSL:=hid (sc_last HSX.out z2 z3 z4 z5 hown z6 Gb9.out)
   have q9:=z4.cell
   have f9:=z4.frozen
   have hS12:=SKT.out w12 z1 z2 z4
   clear hown hgr z1 z2 z3 z4 z5 z6
   refine hK' _ _ ⟨fun _=>hS12,?_⟩
   clear hK' K'
   try simp only [Act.put,Rh.q1,Rh.q2,Rh.q3]
   refine Rg.step (i:=13) (by kernel_rfl) rfl fun K' hK'=>?_
   have HK:=hid hK'
   clear hK'
   go_simp
   refine HK.out _ _ ⟨fun h=>absurd rfl h,?_⟩
   clear HK K'
   try simp only [Act.put,Rh.q1,Rh.q2,Rh.q3]
   refine Rg.finished (by kernel_rfl) ?_ _
   exact ⟨(HKc.out.trans (KeepsOthers.setCell _ _ _)).from _,trivial,HSL.out⟩
  case done =>
   rintro D ys W hD hys ⟨fl,tl,o,ot,c,ct,p,k,st,h1,h2,h3,h4,h5,h6,h7⟩ hK
   rw [show ys.map (·.1)=rms K from hys] at h1
   obtain ⟨rfl,rfl⟩:=sqs_one RT.out h1 SQ.out
   have hd:Below W.heap.size W W.drew:=bDr (Below.refl _ _)
   have HX1:=hid (rbB h2 hd (rbL h2))
   have HT1:=hid (bxB h5 hd (Boxed.lt h5))
   have HO1:=hid (Rw.own_below h3 hd)
   have HU1:=hid (Rw.own_below h6 hd)
   have HQ9:=hid (HR3.out _ (h7.trans (hd.mono h7.size)))
   have HD1:=hid (show W.drew.heap[D]? = some (.deferred (some [])) from hK)
   have HDD:=hid hD
   have HZ7:=hid (show b4≠b7∧b5≠b7∧b6≠b7∧b4≠b9∧b5≠b9∧b6≠b9 by have:=HNB.out;have:=Gb7.out;have:=Gb9.out;omega)
   clear h1 h2 h3 h4 h5 h6 h7 hK hD hys hd
   go_upto_region 11 with fail
   refine wp_region_noPanic ?_
   refine Rh.start (S:=(fun w'=>w'.cell? ⟨b7,0,none⟩=some (.slice o n.l.length c)∧w'.cell? ⟨b9,0,none⟩=some (.slice ot tl.length ct))) (by kernel_rfl) ?_
   generalize W.drew=WD at *
   have hS0:=(show (fun w'=>w'.cell? ⟨b7,0,none⟩=some (.slice o n.l.length c)∧w'.cell? ⟨b9,0,none⟩=some (.slice ot tl.length ct)) WD from ⟨(rbC HX1.out).1,HT1.out.cell⟩)
   obtain ⟨r4,r5,r6⟩:=sc_cells HQ9.out
   obtain ⟨f4,f5,f6⟩:=sc_frozen HQ9.out
   refine Rh.tp 53 0 hS0 ?_
   refine Rh.tp 54 1 hS0 ?_
   refine Rh.tp 55 2 hS0 ?_
   refine Rh.step (i:=3) (by kernel_rfl) rfl fun K' hK'=>?_
   have HK:=hid hK'
   clear hK'
   go_simp
   have HQa:=hid (HQ9.out.set4 (.slice o n.l.length c))
   have HXa:=hid (runBox_other HX1.out HZ7.out.1 (.slice o n.l.length c))
   have HTa:=hid (bxS HT1.out (x:=⟨b4,0,none⟩) HZ7.out.2.2.2.1 (.slice o n.l.length c))
   have HOa:=hid (Rw.own_set HO1.out (p:=⟨b4,0,none⟩) (oNb (by decide) HO1.out HQ9.out.r4) (.slice o n.l.length c))
   have HUa:=hid (Rw.own_set HU1.out (p:=⟨b4,0,none⟩) (oNb (by decide) HU1.out HQ9.out.r4) (.slice o n.l.length c))
   have HDa:=hid ((KeepsOthers.setCell WD ⟨b4,0,none⟩ (.slice o n.l.length c)).same D _ HD1.out rfl)
   clear r4 r5 r6 f4 f5 f6
   generalize (WD.setCell ⟨b4,0,none⟩ (.slice o n.l.length c))=Wa at *
   obtain ⟨r4,r5,r6⟩:=sc_cells HQa.out
   obtain ⟨f4,f5,f6⟩:=sc_frozen HQa.out
   refine HK.out _ _ ⟨⟨(rbC HXa.out).1,HTa.out.cell⟩,?_⟩
   clear HK K'
   try simp only [Act.put,Rh.q1,Rh.q2,Rh.q3]
   refine Rh.step (i:=4) (by kernel_rfl) rfl fun K' hK'=>?_
   have HK:=hid hK'
   clear hK'
   go_simp
   have HQb:=hid (HQa.out.set5 (.slice ot tl.length ct))
   have HXb:=hid (runBox_other HXa.out HZ7.out.2.1 (.slice ot tl.length ct))
   have HTb:=hid (bxS HTa.out (x:=⟨b5,0,none⟩) HZ7.out.2.2.2.2.1 (.slice ot tl.length ct))
   have HOb:=hid (Rw.own_set HOa.out (p:=⟨b5,0,none⟩) (oNb (by decide) HOa.out HQa.out.r5) (.slice ot tl.length ct))
   have HUb:=hid (Rw.own_set HUa.out (p:=⟨b5,0,none⟩) (oNb (by decide) HUa.out HQa.out.r5) (.slice ot tl.length ct))
   have HDb:=hid ((KeepsOthers.setCell Wa ⟨b5,0,none⟩ (.slice ot tl.length ct)).same D _ HDa.out rfl)
   clear r4 r5 r6 f4 f5 f6
   generalize (Wa.setCell ⟨b5,0,none⟩ (.slice ot tl.length ct))=Wb at *
   obtain ⟨r4,r5,r6⟩:=sc_cells HQb.out
   obtain ⟨f4,f5,f6⟩:=sc_frozen HQb.out
   refine HK.out _ _ ⟨⟨(rbC HXb.out).1,HTb.out.cell⟩,?_⟩
   clear HK K'
   try simp only [Act.put,Rh.q1,Rh.q2,Rh.q3]
   refine Rh.step (i:=5) (by kernel_rfl) rfl fun K' hK'=>?_
   have HK:=hid hK'
   clear hK'
   go_simp
   have HQc:=hid (HQb.out.set6 (.int .i64 0))
   have HXc:=hid (runBox_other HXb.out HZ7.out.2.2.1 (.int .i64 0))
   have HTc:=hid (bxS HTb.out (x:=⟨b6,0,none⟩) HZ7.out.2.2.2.2.2 (.int .i64 0))
   have HOc:=hid (Rw.own_set HOb.out (p:=⟨b6,0,none⟩) (oNb (by decide) HOb.out HQb.out.r6) (.int .i64 0))
   have HUc:=hid (Rw.own_set HUb.out (p:=⟨b6,0,none⟩) (oNb (by decide) HUb.out HQb.out.r6) (.int .i64 0))
   have HDc:=hid ((KeepsOthers.setCell Wb ⟨b6,0,none⟩ (.int .i64 0)).same D _ HDb.out rfl)
   clear r4 r5 r6 f4 f5 f6
   generalize (Wb.setCell ⟨b6,0,none⟩ (.int .i64 0))=Wc at *
   obtain ⟨r4,r5,r6⟩:=sc_cells HQc.out
   obtain ⟨f4,f5,f6⟩:=sc_frozen HQc.out
   refine HK.out _ _ ⟨⟨(rbC HXc.out).1,HTc.out.cell⟩,?_⟩
   clear HK K'
   try simp only [Act.put,Rh.q1,Rh.q2,Rh.q3]
   refine Rh.done (by kernel_rfl) ?_ _
   refine NoPanic.normal ?_
   go_wp2
   have HQD:=HQc.out.kept (belowK_b (w:=v2) (Nat.le_refl _) Wc D _ (.deferred none) HDD.out HDc.out rfl rfl) ⟨by have:=HNB.out;have:=HB2.out.size;omega,by have:=HNB.out;have:=HB2.out.size;omega,by have:=HNB.out;have:=HB2.out.size;omega⟩ (by have:=HBW.out.size;have:=HB2.out.size;omega)
   have hgt:Wc.grownBy (Wc.putObj D (.deferred none)) (some D):=grownBy_putObj' Wc D (.deferred none)
   have hrt:∀ r,some D=some r→0≤r∧∃ o:Obj,Wc.heap[r]? = some o∧o.isCells=false:=fun r e=>by cases e;exact ⟨Nat.zero_le _,_,HDc.out,rfl⟩
   refine ⟨by simp,.inl ⟨_,_,rfl,run_takeDeferred HDc.out,?_⟩⟩
   exact ⟨_,results_ret3 rfl _ HQD rfl rfl rfl,o,c,ot,ct,by rw [HAE.out,HQQ.out.1,HQQ.out.2,HLN.out],by rw [HAE.out,HQQ.out.1];exact Rw.own_base (by rw [HLN.out];exact own_turn hgt hrt HOc.out) HBW.out.size,by rw [HAE.out,HQQ.out.2];exact Rw.own_base (own_turn hgt hrt HUc.out) HBW.out.size,HQD.bel⟩
end
end Ne
end Go.Proofs.YtoadkckceladgaaGreat
